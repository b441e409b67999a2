import PyProof.Rows.All
import Wide.All
import OpenK.AllK
import Wide.FinOn
import Lean
import PyProof.EqAt
import PyProof.EqKinds
import PyProof.TupleCall
import PyProof.ZipIter
import PyProof.DictItems
import PyProof.DictWalks
import KE.KSortTup
import KE.KDictSum
import PyProof.WalksMore
import PyProof.StationsW
import OpenK.KOwn
import KE.KTryMore
import PyProof.NsDelKeeps
import PyProof.RulesAs
import KE.KItemsList
import PySem.Challenge.RW_lockstretch_k44_granted_in_turn
open PySem renaming wpAny_bind->Ol,Value->Om,wpAny_pure->On,Addr->Oo,Shared->Os,wpAny->Ov,sizeLine->OA,model->OE,Expr->OP,starEach->OQ,wpAny_mono->OS,attributeBase->OW,Program->OZ,mainGlobals->O0,eval->O2,sizeLine_eq->O4,keywordEach->O5,Heap->O9,bootBuiltins->Pb,wpAny_newObj_type->Pc,wpAny_Call_Name_kw->Pk,World->Pl,wpAny_call_entry->Po,Scope->Pp,wpAny_holding->Ps,behindInMarks->Pz,backToKw->PD,swapsWith->PJ,wpAny_execs_cons->PP,codeAny_mono->PZ,sysModules->P0,wpAny_setField_rec->P1,compareOp->P3,wpAny_callSpecial?_slot->P4,Around->P6,wpAny_standAt->P7,backTo->Qa,wpAny_truthy_bool->Qc,cLine->Qf,tupleKind_room_in1->Qr,wpAny_typeNameOfWhole_itemiter->Qu,wpAny_askSetting->Qv,foldedSetIterable->Qz,getMethod->QA,wpAny_setState_of->QE,standAt->QL,assignEach->QP,NameKind->QS,boot_len->QW,Builtin->QX,wpAny_typeNameOf_itemiter->Q0,wpAny_execs_nil->Q2,wpAny_passesOwn->Q3,DictEntry->Q4,wpAny_ite_split->Q6,holding->Ra,wpAny_field->Rc,Stmt->Rf,wpAny_comprehension_free->Rh,mem_of_lookup->Rj,callWith->Rk,recursionLimit->Rl,wpAny_isOneOf_itemiter->Rs,importedModules->Ru,wpAny_newList->Rw,binaryOp->RE,wpAny_call->RF,wpAny_fieldsOf->RG,call_meetsIn->RJ,wpAny_attempt->RT,codeAny->RX,IsItemIter->R1,sliceBounds->R6,bindArgs->Sd,Keyword->Se,wpAny_evalAll_nil->Sf,wpAny_pyIter_slot->Sk,wpAny_dictEntries->Sl,tupleKind->Sr,treeTable->Sy,valueAt->SE,FuncData->SH,wpAny_loadName_local->SJ,compEnvC->SK,wpAny_newFunctionEnv->SL,codeAny_builtin->SX,wpAny_setEntries_of->S8,getItem->S9,noteFrame->Th,assign->Tj,wpAny_rule->Tl,pyNext->Tn,rawInt->To,wpAny_evalAll_cons->Ts,wpAny_newFunctionEnv_cells->Tt,wpAny_newTuple->TC,firstArgMember->TJ,wpAny_assign_Name->TU,wpAny_pyIter_list->TV,wpAny_Call_method->TX,relabel->TY,wpAny_collect_seq->TZ,noFill_tuple_add->T7,wpAny_isInstance->Ud,wpAny_Call_method0_late->Ue,IsPart->Uk,wpAny_typeOf->Ul,wpAny_Assign_Subscript->Um,setsByText->Uv,letOwnedTupleGo->Uw,wpAny_dictEpoch->UB,wpAny_isTrue_Compare1->UD,codeAny_call_function->UE,exec_Assign_Name_used->UG,wpAny_notOrdered_dict->UI,builtinLookup_eq_fast->UK,codeAny_handlers_test->UL,bindName->UN,subscripted->UQ,Params->UR,wpAny_letGo->UT,entryFor_alias->UX,isSubtype_type->UZ,wpAny_deleteEach_nil->U1,unbindBehindTheSuite->U3,PassesOwn->U5,BindsTo->U6,cellsFrom->U7,Arguments->U8,callerA->U9,setFlight->Vb,wpAny_loadName_cell->Vc,evalArgs_none->Vm,wpAny_handleBy_cons->Vn,assignInOrder->Vq,seq_tuple_add->Vr,atKey->Vt,IsItemIterOut->Vv,wpAny_handled->Vy,wpAny_Name->VC,wpAny_Constant_int->VD,wpAny_pyIter_tuple->VE,wpAny_delItem_slot->VJ,checkCount->VN,intKind->VO,Within->VP,wpAny_Return_some->VR,wpAny_Assign_Name->VT,wpAny_truthy_list->VU,concat_meets->V1,wpAny_sequenceKey->V2,slot_list_getitem->V3,setNext->V8,wpAny_eqBool_int->Wc,storeName->Wd,isTrue->We,pyIter->Wg,wpAny_getItem_of->Wj,wpAny_Dict_empty->Wk,Fin->Wm,wpAny_Try_except->Wt,CmpOp->Wx,bindL->Wy,bindC->Wz,wpAny_of_eq->WC,wpAny_throw->WD,wpAny_specialOf->WH,theTreesLotGoes->WK,codeAny_of_tree->WP,typeLookup_type->WR,size_of_entries->WU,leaving->WW,entryOfKey->WY,builtinsNs->WZ,Model->W0,wpAny_Compare1->W1,wpAny_Expr_any->W2,Operator->W3,wpAny_bindName->W4,closureFor->W9,newFunctionEnv->Xa,compPost->Xb,wpAny_setField->Xi,isSubtype_stop->Xj,entryFor->Xk,swapsWithSole->XF,swappedStores->XG,intBits_le_64->XH,evalPart_none->XY,comprehension->X0,plainId_quiet->X2,signature?_of->X3,ExceptHandler->X4,seqIndex?->X8,codeAmong->Yd,truthy->Ye,Result->Yh,evalAll->Yj,codeAny_func->Yk,codeAny_loop->Yl,setAddHashed->Yu,table->YE,GenState->YF,rule->Zi,newExc->Zt,argsOk->Zw,spliced->Zy,getAttr->Zz,operate->ZB
open PySem.Heap renaming get?_push_of_some->Op,get?_push_size->Ox,lt_size->Oy,get?_update_ne->PB,SameBut->P9,get?_update_other->QM,size_push->QR,get?_update_self->Rx,get?_none_of_le->SI,MadeExcOf->U2,ExtBut->Y1
open PySem.Str renaming ofString->Oq
open List renaming size_toArray->Ot,getElem?_eq_some_iff->Ow,mem_cons_self->Oz,mem_append_right->OC,mem_cons_of_mem->OF,mem_cons->ON,mem_of_getElem?->OR,map_cons->OV,getElem?_eq_none_iff->O1,length_map->O7,getElem?_eq_getElem->Pt,mem_append->Pv,length_cons->Pw,lookup_cons->Px,getElem?_map->PF,nodup_cons->PM,getElem?_append_left->PQ,getD_eq_getElem?_getD->Qj,length_append->Qq,mem_singleton->Qt,all_cons->Qx,getElem?_cons_succ->QD,append_nil->QG,find?_cons->QI,getElem?_set_self->QK,filter_cons->QO,mem_append_left->Q8,getElem?_set_ne->Q9,lookup->Rb,map->RH,mem_map->RK,any_cons->RO,getElem?_cons_zero->Sb,range->Ss,length_take->Sv,getD->Sz,getElem?_of_mem->SN,of_mem_zip->SU,filterMap_cons->SY,map_nil->Ta,map_map->Te,mem_filterMap->Tp,nodup_nil->Tx,getElem?_zip_eq_some->TM,pairwise_map->T0,length_drop->T8,eraseIdx_cons_succ->Uh,all_map->Uo,take_of_length_le->Up,length_nil->Uz,length_singleton->UF,getElem?_eq_none->UH,replicate->UO,toList_toArray->Vg,map_congr_left->Vj,forIn_toArray->VL,isEmpty_cons->Wb,all_eq_true->Wl,map_snd_zip->Wq,isEmpty_nil->Wu,mem_filter->WE,forIn_cons->WJ,length_set->WO,rec->ZR
open PySem.W renaming Frag->Ou,keepIn->O3,fnOf->Ph,mg_of->Pm,hideAll->Pn,findIn->Pq,kia_one->PL,emptyDict->PR,hideAll_none->P2,codeIn->Qh,methodCall_KW->Ql,of_hideAll->Qn,callWith_K->Qp,instObj->QF,hideAll_get->QJ,boot_heap->Rn,exmOne->Rp,tabObj->RY,isFn->Sc,cellsFrom_some->Sg,plainGet->Su,behindTheImports->Sx,codeHdIn->SB,excIn->SG,plainGet_of->SZ,nsIn->Tg,lookIn->Tq,OpenLaw->TL,methodObj->TR,hasDictIn->TW,takerIn->Ux,makesIn->Uy,kla_fn->UV,callWith_K0->Vd,codeHd_of_K->Vi,callWith_KW->Vk,codeRec_of->VF,plainOver->VW,kitx_list->VX,kitx_dict->VY,peek->V9,isIn->Wa,handedIn->Wh,kla_obj->WN,exm_one->WV,kitOne->W5,boot_drawn->W7,namesBound->W8,nsOkIn->Xo,staticsOk->X9,gensDone->YN,laidKept->YO,openSeen->YQ,openGood->YR,kas_item->Y2,kas_sort->Y3,topFrom->ZD,kas_ask->ZF,WalkO->ZL
open Nat renaming le_refl->OB,eq_of_beq_eq_true->OD,ne_of_lt->OG,beq->OL,lt_of_lt_of_le->OM,ble->Pg,le_trans->Pi,lt_succ_self->Pj,zero_le->Pu,le_of_lt->PY,blt->Qk,lt_irrefl->Qw,lt_succ_of_lt->QC,ne_of_gt->RI,le_of_ble_eq_true->Sq,lt_of_le_of_lt->Tz,not_lt_zero->UC,rec->Va,add_le_add_left->Vf,zero_add->V4,le_of_eq->Yi,min_self->Yn,succ_pos->Yp,div->Yq,lt_or_ge->Yt,le_succ->YI,ble_eq->Zr,blt_eq->Zu
open Bool renaming and_eq_true->OI,false_ne_true->OK,false_eq_true->OT,and_eq_true_iff->SM,eq_iff_iff->SS,rec->TF,not_false->Xp,not_true->X6,not_not->Yr
open PySem.Value renaming ref->OJ,none->Pr,bool->Qm,int->Q1,isStrOf->T3,isInt->UM,str->U4,type->VB,float->Ww,bytes->YD
open PyProof.Rows renaming seqObj->OO,slot_tuple_getitem->Pf,listUpdate_at->P8,envOfC->QT,get?_update_seq->Q5,callWith_builtin1->Rm,callWith_type1->RA,seqEpoch_at->R9,subscriptTail_builtinR->Si,AllBare->SD,IntsAre->SF,entry_list_sort->SW,listItems_at->Td,assignInOrder_cons->Tk,slot_list_sort->TD,arrOf->Ub,failedOf->Uc,call_function_entry_kw->Uq,plain_sorted->Ur,entry_sorted->Us,kind_sorted->UU,callWith_builtin_kwB->UW,entry_tuple_getitem->Ve,wpAny_call_entry_kw->Vh,IsTup->Vo,Constant_none->Vp,subscriptTail->Vs,args_tuple_getitem->VG,Subscript_->VH,isTrue_plain->VQ,assignInOrder_nil->VS,ksk_end->WX,slicePart_none->W6,ksk_tail->Xe,general'->Xg,ksk_rest->Xh,args_list_sort->Xl,tupleItemsOf_->XX,getItem_tuple->XZ,KskOut->Ym,evalArgs_kw2->Yo,args_sorted1->Ys,ksk_tree->Y0
open Option.some renaming inj->OU
open False renaming elim->OX
open PySem.Challenge renaming rw_lockstretch_k44_granted_in_turn->OY,pw_lockstretch_k44_granted_in_turn->QU
open Array renaming length_toList->O6,getElem?_toList->Ry,getElem?_eq_some_iff->TH,getElem?_eq_none->Ut,forIn_toList->VM,toList_inj->Wo,toList_map->Wp,size_push->WM,size_zip->Xf,toList->Yg,mk->YM
open PySem.PassesOwn renaming never->O8
open PySem.Obj renaming mapSeq->Pa,data_mapDictKeys->U0,putSet->Zv
open PySem.F renaming plainAttrs_list->Pd,slot_dict_itemiterator_next->Py,slot_list_append->PH,slot_dict_get->PU,type_list_append->PV,plainAttrs_dict->QB,slot_list_extend->QH,slot_dict_delitem->QZ,type_list_extend->Ri,slot_dict_items->Ro,entry_dict_get->Rr,called_set->Rt,slot_dict_getitem->RM,args_tuple_add_2->RN,entry_tuple_add->R5,slot_tuple_add->Sh,args_dict_itemiterator_next_1->Sn,type_dict_get->So,entry_dict_itemiterator_next->SC,slot_dict_itemiterator_iter->SO,args_dict_delitem_2->Tc,entry_dict_delitem->Tw,excBase_ValueError->TK,args_dict_items_1->TN,entry_dict_items->T5,args_dict_get_2->T9,args_dict_get_3->Ua,type_dict_items->Uf,slot_dict_items_iter->Uu,plain_set_new->WQ,slot_set_iter->WS
open PySem.Paired renaming length->Pe,snoc->WA
open PySem.NameKind renaming free->PN,cell->Vu
open Ne renaming symm->P5
open True renaming intro->Qd
open PySem.Calls renaming callWith_builtin->Qi,spliced_cons->Qo,evalArgs_plain->Re,spliced_nil->RC,Name_function_global->Ti,call_function_entry->TQ
open Int renaming le_refl->Qy,ofNat->Q7,toNat_natCast->RD,eq_ofNat_of_zero_le->Uj,toNat->Wv,negSucc->WB
open Option renaming map_eq_some_iff->QN,isSome_map->Sj,isSome_iff_exists->T4,join_some->Ui,isSome_some->VI,getD_none->Wi
open PySem.SetTable renaming below->QV,bits->RV,fresh->UY
open PySem.Builtin.Slice renaming slicePlaces->QY,sliceAdjust->RL,sliceApplied->Tu,slicePartIndex->WF,sliceFields->XC
open PySem.Builtin.Tuple renaming tupleExact->Rg,tupleItemsOf->Tv
open Prod.mk renaming inj->Rq
open PySem.Builtin.Dict_items renaming ownsTuple->Rv,ownedTupleFields->RU,pairFromOwner->Sm,ownedTupleIsFree->Vx,newIterator->Wn,dictOf->XD
open Sum renaming inr->Rz,inl->RW
open PySem.Builtin.List renaming listTooLong->RP,listLengthHint->Tf
open PySem.W.Fast renaming te14364793385576792824->RQ,te10110043849684766642->RS,te5923862056798008813->RZ,te4187177175401517315->R0
open PyProof.Rows.F renaming plain_set_update_loop->Sa,entry_set_update_loop->Ug
open PySem.SeqAt renaming EqAt->Sw
open PyProof.Rows.SortSt renaming mk'->SA
open PySem.Around renaming under_plainId->SQ,frames_deeper->UP,under->VZ
open PySem.Builtin.Dict renaming takeOut->SR,showsAll->UJ,dictSlotArgs->XE,noArgs->Zh
open ForInStep renaming yield->SV
open Or renaming inl->TB,inr->US
open PySem.Builtin.Frozenset renaming sizeOf->T6,updateFrom->WT,newClass->Xm
open StateT renaming run_pure->UA
open PySem.Heap.SameBut renaming update->Vl
open PySem.Shared renaming TypeIs->Vw
open PySem.SeqAt.EqAt renaming int_str->Vz,str_int->VA,same->WG,none_tuple->Yy,bool_tuple->Yz,tuple_none->YA,tuple_bool->YB,none_bool->YJ,bool_none->YK,bool_bool->YL,int_tuple->YS,str_tuple->YT,none_list->YU,bool_list->YV,tuple_int->YW,tuple_str->YX,list_none->YY,list_bool->YZ,none_int->Y4,none_str->Y5,bool_int->Y6,bool_str->Y7,int_none->Y8,int_bool->Y9,str_none->Za,str_bool->Zb,int_list->Zd,str_list->Ze,list_int->Zf,list_str->Zg,int_int->Zl,str_str->Zm,of_refs->Zq
open PySem.Code renaming isFrame->V0,frames->YH
open String renaming splitOnAux->V5,splitOn->Xn
open PySem.pickOrder renaming go->V6
open PySem.SetTable.below renaming go->V7
open PyProof.Rows.IsTup renaming new->Wf
open PySem.W.Looks renaming ld->Ws,here->Zj
open PySem.Heap.DictOf renaming new->WI
open Array.Perm renaming refl->WL
open PySem.SeqAt.RcNeAt renaming lists_lengths->Xd,tuple_list->Yb,list_tuple->Yc,tuples->Zc,lists->Zo
open PySem.EqNone renaming eq_none_none->Xq,eq_none_bool->Xr,eq_bool_none->Xs,ne_none_none->Xw,ne_none_bool->Xx,ne_bool_none->Xy,eq_none_int->XI,eq_none_str->XJ,eq_int_none->XM,eq_str_none->XO,ne_none_int->XR,ne_none_str->XS,ne_int_none->XT,ne_str_none->XV
open PySem.EqMixed renaming eq_bool_str->Xu,eq_str_bool->Xv,ne_bool_str->Xz,ne_str_bool->XB,eq_int_str->XN,eq_str_int->XQ,ne_int_str->XU,ne_str_int->XW
open PySem.SeqAt.RcAt renaming lists_lengths->X1,tuple_list->Yw,list_tuple->Yx,tuples->ZE,lists->ZM
open List.Nodup renaming mem_erase_iff->X5
open PySem.Builtin.Range renaming rangeSize->X7
open Exists renaming intro->Yv
open Sum.inr renaming inj->YC
open PySem.CmpOp renaming NotIn->YG,In->ZQ
open PySem.Heap.IsSliceOf renaming new->Zk
open PySem.W.WShape renaming has->Zn
open PySem.Walks renaming list->Zs
open List.Sublist renaming nodup->Zx,map->ZO
open PySem.Within renaming cons->ZA
open List.Pairwise renaming nil->ZC,imp->ZG
open PySem.Flow renaming next->ZH
open PySem.DictEntry renaming refKey->ZI
open PySem.IsL renaming update->ZJ
open PySem.W.WData renaming int->ZK
open List.Perm renaming eq_nil->ZN
open And renaming intro->ZP
set_option Elab.async false
set_option linter.all false
set_option maxRecDepth 100000
variable {pins:List (Oo×PySem.Obj)} {E:Om->Os->Prop} {K:Ou} {s:Os} {w:Pl} {A:P6} {mg:PySem.Str->Option Om} {P:OZ} {us:List Om} {ix:List (Option Nat)} {pos:PySem.Pos} {prog:OZ} {st:Rf} {es:List OP} {sl:List Nat} {base:O9} {fd:SH} {ρ:List Oo} {y:Option Int} {osl:Array (Option Om)}
local macro_rules | `(tactic| nofun) => `(tactic| with_unfolding_all rfl)
noncomputable section
namespace L2
open PySem PySem.Spec PyProof.Rows
abbrev bv:=Sum Int Str
def ub:bv->Om->Bool
 | .inl k,v=>UM k v
 | .inr x,v=>T3 x v
def Ld (w:Pl):bv->Int
 | .inl k=>hashInt k
 | .inr x=>hashStr w x
theorem cz:∀{k:bv} {v:Om},ub k v=true->(∃i t,k=RW i/\v=Q1 i t)∨(∃x t,k=Rz x/\v=U4 x t)
 | .inl i,v,h=>by
  obtain⟨t,e⟩:=Value.isInt_shape (k:=i) (v:=v) h
  exact .inl ⟨i,t,rfl,e⟩
 | .inr x,v,h=>by
  obtain⟨t,e⟩:=Value.isStrOf_shape (x:=x) (v:=v) h
  exact .inr ⟨x,t,rfl,e⟩
theorem Bu (i:Int) (t:Tok):ub (.inl i) (.int i t)=true:=by simp [ub,UM]
theorem Bv (x:Str) (t:Tok):ub (.inr x) (.str x t)=true:=by simp [ub,T3]
theorem Jh (a b:Int):decide ((RW a:bv)=RW b)=(a == b):=by
 by_cases e:a=b
 ·subst e; simp
 ·have h:¬(RW a:bv)=RW b:=λq=>e (Sum.inl.inj q)
  rw [decide_eq_false h]
  exact (beq_eq_false_iff_ne.mpr e).symm
theorem Ji (a b:Str):decide ((Rz a:bv)=Rz b)=decide (a=b):=by
 by_cases e:a=b
 ·subst e; simp
 ·have h:¬(Rz a:bv)=Rz b:=λq=>e (YC q)
  rw [decide_eq_false h,decide_eq_false e]
theorem Jj (a:Int) (b:Str):decide ((RW a:bv)=Rz b)=false:=decide_eq_false (λq=>nomatch q)
theorem Jk (a:Str) (b:Int):decide ((Rz a:bv)=RW b)=false:=decide_eq_false (λq=>nomatch q)

def aV (prog:OZ) (w:Pl):PySem.KeyKind prog w bv where
 is:=ub
 hash:=Ld w
 inj:=λv a b ha hb=>by
  rcases cz ha with ⟨i,t,rfl,rfl⟩ | ⟨x,t,rfl,rfl⟩
  ·rcases cz hb with ⟨j,u,rfl,e⟩ | ⟨y,u,rfl,e⟩
   ·injection e with e1 _; rw [e1]
   ·exact nomatch e
  ·rcases cz hb with ⟨j,u,rfl,e⟩ | ⟨y,u,rfl,e⟩
   ·exact nomatch e
   ·injection e with e1 _; rw [e1]
 byValue:=λk v h=>by
  rcases cz h with ⟨i,t,rfl,rfl⟩ | ⟨x,t,rfl,rfl⟩<;>rfl
 pyHash:=λhv h=>by
  rcases cz hv with ⟨i,t,rfl,rfl⟩ | ⟨x,t,rfl,rfl⟩
  ·exact wpAny_pyHash_int h
  ·exact wpAny_pyHash_str h
 eqBool:=λhu hv h=>by
  rcases cz hu with ⟨i,t,rfl,rfl⟩ | ⟨x,t,rfl,rfl⟩
  ·rcases cz hv with ⟨j,u,rfl,rfl⟩ | ⟨y,u,rfl,rfl⟩
   ·rw [Jh] at h; exact Wc h
   ·rw [Jj] at h; exact Vz i t y u _ _ _ _ h
  ·rcases cz hv with ⟨j,u,rfl,rfl⟩ | ⟨y,u,rfl,rfl⟩
   ·rw [Jk] at h; exact VA x t j u _ _ _ _ h
   ·rw [Ji] at h; exact wpAny_eqBool_str h
 «strs»:=λk x t v h=>by
  rcases cz h with ⟨i,u,rfl,e⟩ | ⟨y,u,rfl,e⟩
  ·exact nomatch e
  ·injection e with e1 _
   subst e1
   cases v<;>rfl

theorem wJ (prog:OZ) (w:Pl) (i:Int) (t:Tok):(aV prog w).is (.inl i) (.int i t)=true:=Bu i t
theorem ji (prog:OZ) (w:Pl) (x:Str) (t:Tok):(aV prog w).is (.inr x) (.str x t)=true:=Bv x t

inductive V where
 | non | bl (b:Bool) | int (i:Int) | str (x:Str) | byt (b:Array UInt8) | flt (b:UInt64) | ref (a:Oo) | ty (n:String)
 deriving DecidableEq

def aP:V->Om->Prop
 | .non,u=>u=Pr
 | .bl b,u=>u=Qm b
 | .int i,u=>∃t,u=Q1 i t
 | .str x,u=>∃t,u=U4 x t
 | .byt b,u=>∃t,u=YD b t
 | .flt b,u=>∃t,u=Ww b t
 | .ref a,u=>u=OJ a
 | .ty n,u=>u=VB n

abbrev aO:List V->List Om->Prop:=Paired aP
theorem aO.length {xs:List V} (r:aO xs us):xs.length=us.length:=Pe r
theorem aO.get:∀{xs:List V} {us:List Om} {i:Nat} {x:V},aO xs us->xs[i]?=some x->∃u,us[i]?=some u/\aP x u
 | _,_,_,_,.nil,e=>by simp at e
 | _,_,0,_,.cons r _,e=>by simp at e; subst e; exact⟨_,rfl,r⟩
 | _,_,i+1,x,.cons _ t,e=>by
  obtain⟨u,h1,h2⟩:=aO.get (i:=i) (x:=x) t (by simpa using e)
  exact⟨u,by simpa using h1,h2⟩
theorem aO.append:∀{xs ys:List V} {us ws:List Om},aO xs us->aO ys ws->aO (xs++ys) (us++ws)
 | _,_,_,_,.nil,s=>s
 | _,_,_,_,.cons r t,s=>.cons r (aO.append t s)
theorem aO.take:∀{xs:List V} {us:List Om} (n:Nat),aO xs us->aO (xs.take n) (us.take n)
 | _,_,0,_=>.nil
 | _,_,_+1,.nil=>.nil
 | _,_,n+1,.cons r t=>.cons r (aO.take n t)
theorem aO.drop:∀{xs:List V} {us:List Om} (n:Nat),aO xs us->aO (xs.drop n) (us.drop n)
 | _,_,0,r=>r
 | _,_,_+1,.nil=>.nil
 | _,_,n+1,.cons _ t=>aO.drop n t
theorem aO.none_of:∀{xs:List V} {us:List Om} {i:Nat},aO xs us->xs[i]?=none->us[i]?=none:=λ{xs us i} r e=>by
 have h1:=r.length
 have h2:xs.length≤i:=O1.mp e
 exact O1.mpr (by omega)

def fH:Option V->Option Om->Prop
 | some v,some u=>aP v u
 | none,none=>True
 | _,_=>False
def KV {κ:Type}:List (κ×V)->List (κ×Om)->Prop:=Paired λ(p:κ×V) (q:κ×Om)=>p.1=q.1/\aP p.2 q.2

def kV:bv->V
 | .inl i=>.int i
 | .inr x=>.str x

inductive HO where
 /-- a list -/
 | lst (xs:List V)
 /-- a tuple (never changes) -/
 | tup (xs:List V)
 /-- a dict whose keys are ints and texts; one whose keys are tuples of ints and texts (the empty one is both) -/
 | dK (kvs:List (bv×V)) | dT (kvs:List (List bv×V))
 /-- a set of ints: its members,its size -/
 | set (S:Int->Bool) (n:Nat)
 /-- an instance of the class at C,its dict at dx,its attributes -/
 | ins (C dx:Oo) (fs:List (Str×V))
 /-- the dict of the instance at x -/
 | own (x:Oo)
 /-- the dict of an exception -/
 | xd (fs:List (Str×V))
 /-- a bound method,f of x -/
 | met (f x:Oo)
 /-- a range object lo,lo+1,.. below hi -/
 | rng (lo hi:Int)
 /-- a thing that is known to the object (the script; a dict while a loop walks it): read,never written while it is so -/
 | frz (o:Obj) (u:HO)
 /-- a code object's YE -/
 | tbl (ps:Array Om)
 /-- any other thing,by what is true of its one object (a def of one's own: SetO a S n:=HO.ext λh=>..) -/
 | ext (φ:O9->Prop)

abbrev Hp:=Oo->Option HO
def upd (H:Hp) (a:Oo) (o:HO):Hp:=λb=>if b=a then some o else H b
theorem aF {H:Hp} {a:Oo} {o:HO}:upd H a o a=some o:=by unfold upd; rw [if_pos rfl]
theorem ao {H:Hp} {a b:Oo} {o:HO} (h:b≠a):upd H a o b=H b:=by unfold upd; rw [if_neg h]
theorem z8 {H:Hp} {a:Oo} {o u:HO}:upd (upd H a o) a u=upd H a u:=by
 funext b; unfold upd; split<;>rfl
theorem Io {H:Hp} {a b:Oo} {o u:HO} (h:H a=some o) (h':H b=some u) (d:o≠u):a≠b:=by
 intro e; subst e; rw [h] at h'; exact d (OU h')
theorem cX {H:Hp} {a b:Oo} {o:HO} (h:H a=some o) (h':H b=none):a≠b:=by
 intro e; subst e; rw [h] at h'; cases h'

section
variable (P:OZ) (w:Pl)
def ci (H:Hp) (h:O9) (a:Oo):HO->Prop
 | .lst xs=>xs.length≤OA/\∃(its:List Om) (n:Nat),aO xs its/\h.get? a=some { cls:=.type "list",data:=.seq its.toArray n }
 | .tup xs=>xs.length≤OA/\∃its:List Om,aO xs its/\Vo h a its.toArray
 | .dK kvs=>kvs.length≤OA/\(a == P0)=false/\∃vs,KV kvs vs/\h.DictOf (aV P w) a vs
 | .dT kvs=>kvs.length≤OA/\(a == P0)=false/\∃xs:List (List bv×Oo×Om),
   Paired (λ(p:List bv×V) (q:List bv×Oo×Om)=>p.1=q.1/\H q.2.1=some (.tup (p.1.map kV))/\aP p.2 q.2.2) kvs xs /\
   ∃o es ep,h.get? a=some o/\o.ExactDict/\o.data=.dict es ep/\es.toList=xs.map (WY (Sr (aV P w)))/\(xs.map (·.1)).Nodup
 | .set S n=>h.SetOf (VO P w) a S n
 | .ins C dx fs=>H dx=some (.own a)/\fs.length≤1000/\dx≠a/\h.get? a=some (QF C dx) /\
   ∃mA,h.Ns1 dx mA/\(∀f,fH (fs.lookup f) (mA f))/\VP mA (fs.map (·.1))
 | .own _=>∃o,h.get? a=some o
 | .xd fs=>∃mA,h.Ns1 a mA/\∀f,fH (fs.lookup f) (mA f)
 | .rng lo hi=>∃t u v,h.get? a=some { cls:=.type "range",data:=.fields #[.int lo t,.int hi u,.int 1 v] }
 | .frz o u=>h.get? a=some o/\ci H h a u
 | .tbl ps=>h.get? a=some { cls:=.none,data:=.fields ps }
 | .met f x=>h.get? a=some (TR (.ref f) (.ref x))
 | .ext φ=>φ h/\(∃o,h.get? a=some o)/\∀h1 h2:O9,φ h1->(∀o,h1.get? a=some o->h2.get? a=some o)->φ h2
def iT (H:Hp) (h:O9):Prop:=∀a o,H a=some o->ci P w H h a o
end
section
variable {H H':Hp} {h h':O9} {a:Oo} {o:HO}
theorem ci.lt (x:ci P w H h a o):a < h.objs.size:=by
 cases o with
 | lst xs=>obtain⟨_,_,_,_,e⟩:=x; exact Oy e
 | tup xs=>obtain⟨_,_,_,p⟩:=x; exact p.lt
 | dK kvs=>obtain⟨_,_,_,_,o,_,_,e,_⟩:=x; exact Oy e
 | dT kvs=>obtain⟨_,_,_,_,o,_,_,e,_⟩:=x; exact Oy e
 | set S n=>obtain⟨o,_,_,_,e,_⟩:=x; exact Oy e
 | ins C dx fs=>obtain⟨_,_,_,e,_⟩:=x; exact Oy e
 | own y=>obtain⟨_,e⟩:=x; exact Oy e
 | xd fs=>obtain⟨_,⟨_,_,_,e,_⟩,_⟩:=x; exact Oy e
 | rng lo hi=>obtain⟨_,_,_,e⟩:=x; exact Oy e
 | frz ob u=>obtain⟨e,_⟩:=x; exact Oy e
 | tbl ps=>exact Oy (show h.get? a=some _ from x)
 | met f y=>exact Oy (show h.get? a=some _ from x)
 | ext φ=>obtain⟨_,⟨_,e⟩,_⟩:=x; exact Oy e
theorem Paired.mapP {α β:Type} {F G:α->β->Prop}:∀{l₁:List α} {l₂:List β},Paired F l₁ l₂->(∀a b,F a b->G a b)->Paired G l₁ l₂
 | _,_,.nil,_=>.nil
 | _,_,.cons r t,f=>.cons (f _ _ r) (Paired.mapP t f)
theorem ci.stay (x:ci P w H h a o) (k:∀b u,(b=a∨H b=some (.own a))->h.get? b=some u->h'.get? b=some u)
  (ho:∀b,H b=some (.own a)->H' b=some (.own a)) (ht:∀b xs,H b=some (.tup xs)->H' b=some (.tup xs)):ci P w H' h' a o:=by
 induction o with
 | lst xs=>obtain⟨z,its,n,r,e⟩:=x; exact⟨z,its,n,r,k _ _ (.inl rfl) e⟩
 | tup xs=>obtain⟨z,its,r,ob,e,c⟩:=x; exact⟨z,its,r,ob,k _ _ (.inl rfl) e,c⟩
 | dK kvs=>obtain⟨z,y,vs,r,ob,es,ep,e,c⟩:=x; exact⟨z,y,vs,r,ob,es,ep,k _ _ (.inl rfl) e,c⟩
 | dT kvs =>
  obtain⟨z,y,xs,r,ob,es,ep,e,c⟩:=x
  exact⟨z,y,xs,Paired.mapP r λp q z=>⟨z.1,ht _ _ z.2.1,z.2.2⟩,ob,es,ep,k _ _ (.inl rfl) e,c⟩
 | set S n=>obtain⟨ob,es,ep,t,e,c⟩:=x; exact⟨ob,es,ep,t,k _ _ (.inl rfl) e,c⟩
 | ins C dx fs =>
  obtain⟨d,z,ne,e,mA,⟨od,es,ep,e2,c⟩,r⟩:=x
  exact⟨ho _ d,z,ne,k _ _ (.inl rfl) e,mA,⟨od,es,ep,k _ _ (.inr d) e2,c⟩,r⟩
 | own y=>obtain⟨ob,e⟩:=x; exact⟨ob,k _ _ (.inl rfl) e⟩
 | xd fs=>obtain⟨mA,⟨od,es,ep,e,c⟩,r⟩:=x; exact⟨mA,⟨od,es,ep,k _ _ (.inl rfl) e,c⟩,r⟩
 | rng lo hi=>obtain⟨t,u,v,e⟩:=x; exact⟨t,u,v,k _ _ (.inl rfl) e⟩
 | frz ob u ih=>obtain⟨e,q⟩:=x; exact⟨k _ _ (.inl rfl) e,ih q⟩
 | tbl ps =>
  have e:h.get? a=some { cls:=.none,data:=.fields ps }:=x
  show h'.get? a=some { cls:=.none,data:=.fields ps }
  exact k a _ (.inl rfl) e
 | met f y =>
  have e:h.get? a=some (TR (.ref f) (.ref y)):=x
  show h'.get? a=some (TR (.ref f) (.ref y))
  exact k a _ (.inl rfl) e
 | ext φ=>obtain⟨p,⟨o,e⟩,st⟩:=x; exact⟨st _ _ p λo q=>k _ _ (.inl rfl) q,⟨o,k _ _ (.inl rfl) e⟩,st⟩
theorem iT.lt (x:iT P w H h) (e:H a=some o):a < h.objs.size:=(x a o e).lt
theorem iT.fresh (x:iT P w H h) (e:h.objs.size≤a):H a=none:=by
 cases q:H a with
 | none=>rfl
 | some u=>exact absurd (OM (x.lt q) e) (Qw _)
theorem iT.kept (x:iT P w H h) (k:∀b u,h.get? b=some u->h'.get? b=some u):iT P w H h':=λa o e =>
 (x a o e).stay (λb u _ q=>k b u q) (λ_ q=>q) λ_ _ q=>q
theorem iT.laid (x:iT P w H h) (k:∀b u,h.get? b=some u->h'.get? b=some u) (hp:h.objs.size≤a) (new:ci P w (upd H a o) h' a o):iT P w (upd H a o) h':=λb u e=>by
 have hn:=x.fresh hp
 by_cases hb:b=a
 ·subst hb; rw [aF] at e; cases e; exact new
 ·rw [ao hb] at e
  exact (x b u e).stay (λc v _ q=>k c v q) (λc q=>by rw [ao (cX q hn)]; exact q) λc xs q=>by rw [ao (cX q hn)]; exact q
end
def Rd (H:Hp) (a:Oo) (u:HO):Prop:=H a=some u∨∃o,H a=some (.frz o u)
theorem Rd.ok {H:Hp} {h:O9} {a:Oo} {u:HO} (r:Rd H a u) (x:iT P w H h):ci P w H h a u:=by
 rcases r with r | ⟨o,r⟩
 ·exact x a u r
 ·obtain⟨_,q⟩:=x a _ r
  exact q
def Le:Option HO->Prop
 | some (.lst _)=>True
 | some (.dK _)=>True
 | some (.dT _)=>True
 | some (.set _ _)=>True
 | some (.ins _ _ _)=>True
 | some (.ext _)=>True
 | _=>False
section
variable {H:Hp} {h h':O9} {x e:Oo} {o':HO}
theorem iT.write (ok:iT P w H h) (mu:Le (H x)) (he:e=x∨H e=some (.own x)) (k:∀b u,b≠e->h.get? b=some u->h'.get? b=some u) (heo:∃u,h'.get? e=some u)
  (new:ci P w (upd H x o') h' x o'):iT P w (upd H x o') h':=λb u q=>by
 have nown:∀c y,H c=some (.own y)->c≠x:=λc y r z=>by subst z; rw [r] at mu; exact mu
 have ntup:∀c xs,H c=some (.tup xs)->c≠x:=λc xs r z=>by subst z; rw [r] at mu; exact mu
 by_cases hb:b=x
 ·subst hb; rw [aF] at q; cases q; exact new
 ·rw [ao hb] at q
  by_cases hbe:b=e
  ·have q':H b=some (.own x):=by
    rcases he with z | z
    ·exact absurd (hbe.trans z) hb
    ·rw [hbe]; exact z
   rw [q] at q'; cases q'
   obtain⟨v,hv⟩:=heo
   exact⟨v,by rw [hbe]; exact hv⟩
  ·refine (ok b u q).stay (λc v hc r=>k c v ?_ r) (λc r=>by rw [ao (nown c b r)]; exact r) λc xs r=>by rw [ao (ntup c xs r)]; exact r
   rcases hc with rfl | hc
   ·exact hbe
   ·rintro rfl
    rcases he with z | z
    ·exact nown c b hc z
    ·rw [hc] at z; cases z; exact hb rfl
end
structure Un (fs ex:List Oo) (H H':Hp) (h h':O9):Prop where
 keep:∀b o,h.get? b=some o->H b=none->b ∉ fs->b ∉ ex->h'.get? b=some o
 slot:∀b o,h.get? b=some o->H b=none->b∈fs->b ∉ ex->∃sl,h'.get? b=some { o with slots:=sl }
 free:∀b o,h.get? b=some o->H b=none->b ∉ ex->H' b=none
 there:∀b o,h.get? b=some o->b ∉ ex->∃o',h'.get? b=some o'
 tups:∀b xs,H b=some (.tup xs)->H' b=some (.tup xs)
 frzs:∀b o u,H b=some (.frz o u)->H' b=some (.frz o u)
 tbls:∀b ps,H b=some (.tbl ps)->∃more,H' b=some (.tbl (ps++more))
section
variable {fs fs' ex ex':List Oo} {H H1 H2:Hp} {h h1 h2 h':O9} {a x e:Oo} {o:HO}
theorem Un.any (u:Un fs ex H H1 h h1) {b:Oo} {ob:Obj} (q:h.get? b=some ob) (n:H b=none) (hx:b ∉ ex):∃sl,h1.get? b=some { ob with slots:=sl }:=by
 by_cases hb:b∈fs
 ·exact u.slot b ob q n hb hx
 ·exact⟨ob.slots,u.keep b ob q n hb hx⟩
theorem Un.kept (k:∀b u,h.get? b=some u->h'.get? b=some u):Un fs ex H H h h' :=
 ⟨λb ob q _ _ _=>k b ob q,λb ob q _ _ _=>⟨ob.slots,k b ob q⟩,λ_ _ _ n _=>n,λb ob q _=>⟨ob,k b ob q⟩,λ_ _ q=>q,λ_ _ _ q=>q,λ_ ps q=>⟨#[],by rw [q]; simp⟩⟩
theorem Un.refl:Un fs ex H H h h:=Un.kept λ_ _ q=>q
theorem Un.laid (k:∀b u,h.get? b=some u->h'.get? b=some u) (hp:h.objs.size≤a) (hn:H a=none):Un fs ex H (upd H a o) h h' where
 keep:=λb u q _ _ _=>k b u q
 slot:=λb u q _ _ _=>⟨u.slots,k b u q⟩
 free:=λb u q n _=>by rw [ao (OG (OM (Oy q) hp))]; exact n
 there:=λb u q _=>⟨u,k b u q⟩
 tups:=λb xs q=>by rw [ao (cX q hn)]; exact q
 frzs:=λb u xs q=>by rw [ao (cX q hn)]; exact q
 tbls:=λb ps q=>⟨#[],by rw [ao (cX q hn),q]; simp⟩
theorem Un.write (mu:Le (H x)) (he:e=x∨H e=some (.own x)) (k:∀b u,b≠e->h.get? b=some u->h'.get? b=some u) (heo:∃u,h'.get? e=some u):Un fs ex H (upd H x o) h h':=by
 have hx:∀b,H b=none->b≠x:=λb n z=>by subst z; rw [n] at mu; exact mu
 have hb:∀b,H b=none->b≠e:=λb n z=>by
  subst z
  rcases he with r | r
  ·exact hx b n r
  ·rw [n] at r; cases r
 have hm:∀b u,H b=some u->¬Le (some u)->b≠x:=λb u q nm z=>by subst z; rw [q] at mu; exact nm mu
 refine⟨λb u q n _ _=>k b u (hb b n) q,λb u q n _ _=>⟨u.slots,k b u (hb b n) q⟩,λb u q n _=>by rw [ao (hx b n)]; exact n,λb u q _=>?_,
  λb xs q=>by rw [ao (hm b _ q λz=>z)]; exact q,λb u xs q=>by rw [ao (hm b _ q λz=>z)]; exact q,λb ps q=>⟨#[],by rw [ao (hm b _ q λz=>z),q]; simp⟩⟩
 by_cases hbe:b=e
 ·subst hbe; exact heo
 ·exact⟨u,k b u hbe q⟩
end
def MT (h:O9) (H:Hp):List Oo:=(Ss h.objs.size).filter λa=>(H a).isSome
def vb (h:O9) (H:Hp):O9:=Pn h (MT h H)
theorem Bw (h:O9) (H:Hp):(vb h H).objs.size=h.objs.size:=PySem.W.hideAll_size _ _
theorem pW {h:O9} {H:Hp} {b:Oo} {o:Obj} (e:h.get? b=some o) (n:H b=none):(vb h H).get? b=some o :=
 QJ _ e λhm=>by
  have q:(H b).isSome=true:=(WE.mp hm).2
  rw [n] at q; simp at q
theorem Gm {h:O9} {H:Hp} {b:Oo} {o:Obj} (e:(vb h H).get? b=some o):h.get? b=some o/\H b=none:=by
 have e':h.get? b=some o:=Qn (MT h H) e
 refine⟨e',?_⟩
 cases q:H b with
 | none=>rfl
 | some x =>
  have hm:b∈MT h H:=WE.mpr ⟨List.mem_range.mpr (Oy e'),by simp [q]⟩
  have z:(vb h H).get? b=none:=P2 (MT h H) hm
  rw [z] at e; cases e

def Gn (g h:O9) (L:Oo):List (Oo×Obj):=(Ss h.objs.size).filterMap λa=>if a=L∨(g.get? a).isSome=true then none else (h.get? a).map λo=>(a,o)
def rest (g h:O9) (L d:Oo):List (Oo×Obj):=(Gn g h L).filter λp=>decide (p.1≠d)
structure Mod (K:Ou) (mg:Str->Option Om) (base:O9):Prop where
 kin:K.In base
 glob:base.Ns O0 mg
 blt:∃mb,base.Ns WZ mb/\∀x:Str,x ≠ "__name__" -> mb x=Pb x
 nolimit:base.NoLimit

structure Cx where
 prog:OZ
 w:Pl
 K:Ou
 mg:Str->Option Om
 base:O9
 A:P6
 N:List Str
 s₀:Os
 H₀:Hp
 env:Env
 outer:List Env
 stack:List Env
 ex:List Oo
 fn:Str->Bool
 calm:Bool
 pn:List (Oo×Obj)
 xe:Om->Os->Prop
def iU (l:List Env):List Oo:=l.filterMap (·.frame)
abbrev Cx.fs (X:Cx):List Oo:=iU X.outer

def Lf (sc:Pp) (x:Str):Prop:=sc.names.lookup x=some .local∨sc.names.lookup x=some .cell∨sc.names.lookup x=some .free
def eg (sc:Pp) (x:Str):Prop:=sc.names.lookup x=some .local∨sc.names.lookup x=some .cell
def M8 (env:Env) (h:O9) (m:Str->Option Om) (x:Str) (u:Om):Prop :=
 (env.kindOf x=some .local/\m x=some u)∨((env.kindOf x=some .cell∨env.kindOf x=some .free)/\∃c,env.cells.lookup x=some c/\h.IsCell c (some u))

structure Cx.Ok (X:Cx):Prop where
 mod:Mod X.K X.mg X.base
 kind:X.env.scope.kind=.function
 glob:X.env.globals=O0
 blt:X.env.builtins=WZ
 above:X.s₀.heap.objs.size≤X.env.locals
 inj:∀x y c,X.env.cells.lookup x=some c->X.env.cells.lookup y=some c->x=y
 has:∀x,(X.env.kindOf x=some .cell∨X.env.kindOf x=some .free)->∃c,X.env.cells.lookup x=some c
 cab:∀x c,X.fn x=true->X.env.cells.lookup x=some c->X.s₀.heap.objs.size≤c
 hd:X.calm=true->X.A.handled=none
 frames:X.A.frames=some X.stack
 stk:X.stack=X.outer∨(X.stack=X.env::X.outer/\X.env.frame=some X.env.locals)
 exf:∀b∈X.ex,b≠X.env.locals/\∀x c,X.env.cells.lookup x=some c->c≠b
 bs:∀b o,X.base.get? b=some o->X.s₀.heap.get? b=some o/\X.H₀ b=none
 bsz:X.base.objs.size≤X.s₀.heap.objs.size
 noex:∀b o,X.base.get? b=some o->b ∉ X.ex
 exfs:∀b∈X.ex,b ∉ X.fs
 funs:X.s₀.heap.FunFrames X.base X.outer
 frf:∀b∈X.fs,X.H₀ b=none

structure aC (X:Cx) (pins:List (Oo×Obj)) (σ:List (Option V)) (H:Hp) (s:Os):Prop where
 ok:X.Ok
 os:s.os=X.s₀.os
 bare:SD s.gens
 base:Un X.fs X.ex X.H₀ H X.s₀.heap s.heap
 loc:∃m,s.heap.Ns X.env.locals m/\∀(i:Nat) (x:Str) (v:V),X.N[i]?=some x->σ[i]?=some (some v)->Lf X.env.scope x->∃u,aP v u/\M8 X.env s.heap m x u
 cell:∀x c,X.env.cells.lookup x=some c->∃v,s.heap.IsCell c v
 free:H X.env.locals=none
 freeC:∀x c,X.env.cells.lookup x=some c->H c=none
 pin:∀p∈X.pn++pins,s.heap.get? p.1=some p.2/\H p.1=none/\p.1≠X.env.locals/\p.1 ∉ X.fs/\∀v,p.2.data≠.cell v
 hok:iT X.prog X.w H s.heap
 len:σ.length=X.N.length

section
variable {X:Cx} {σ:List (Option V)} {H H':Hp} {h':O9}
theorem Cx.Ok.nofr (ok:X.Ok) {b:Oo} {o:Obj} (e:X.base.get? b=some o):b ∉ X.fs:=λhb=>by
 have:=(ok.funs.mem hb).1
 rw [e] at this; cases this
theorem aC.bs (I:aC X pins σ H s):∀b o,X.base.get? b=some o->s.heap.get? b=some o/\H b=none:=λb o e =>
 ⟨I.base.keep b o (I.ok.bs b o e).1 (I.ok.bs b o e).2 (I.ok.nofr e) (I.ok.noex b o e),I.base.free b o (I.ok.bs b o e).1 (I.ok.bs b o e).2 (I.ok.noex b o e)⟩
theorem aC.bk (I:aC X pins σ H s):∀b o,X.base.get? b=some o->s.heap.get? b=some o:=λb o e=>(I.bs b o e).1
theorem aC.mod (I:aC X pins σ H s):Mod X.K X.mg X.base:=I.ok.mod
theorem aC.kIn (I:aC X pins σ H s):X.K.In s.heap:=I.ok.mod.kin.keeps I.bk
theorem aC.fr (I:aC X pins σ H s):∃m,Fr X.base X.env.locals s.heap m :=
 let ⟨m,hn,_⟩:=I.loc
 ⟨m,hn,I.bk,Pi I.ok.bsz I.ok.above⟩
theorem aC.lt (I:aC X pins σ H s):X.env.locals < s.heap.objs.size:=let ⟨_,hn,_⟩:=I.loc; hn.lt
theorem aC.sz (I:aC X pins σ H s):X.s₀.heap.objs.size≤s.heap.objs.size:=Pi I.ok.above (PY I.lt)
theorem aC.nofs (I:aC X pins σ H s) {a:Oo} (h:s.heap.objs.size≤a):a ∉ X.fs:=λhb=>by
 obtain⟨_,o,ho,_⟩:=I.ok.funs.mem hb
 exact absurd (OM (Oy ho) (Pi I.sz h)) (Qw _)
theorem aC.cne (I:aC X pins σ H s):∀x c,X.env.cells.lookup x=some c->c≠X.env.locals:=λx c e z=>by
 obtain⟨v,o,ho,hd⟩:=I.cell x c e
 obtain⟨m,⟨o',es,ep,ho',hd',_⟩,_⟩:=I.loc
 rw [z,ho'] at ho; cases ho; rw [hd'] at hd; cases hd
theorem aC.funs (I:aC X pins σ H s):s.heap.FunFrames X.base X.outer:=by
 have all:∀(l:List Env),(∀b∈iU l,b∈X.fs)->X.s₀.heap.FunFrames X.base l->s.heap.FunFrames X.base l:=by
  intro l
  induction l with
  | nil=>intro _ _; trivial
  | cons env r ih =>
   intro hs hl
   obtain⟨hk,⟨L,o,hf,hn,ho,hd⟩,hr⟩:=hl
   have hL:L∈X.fs:=hs L (by unfold iU; rw [SY,hf]; exact Oz)
   obtain⟨sl,e⟩:=I.base.slot L o ho (I.ok.frf L hL) hL λz=>I.ok.exfs L z hL
   exact⟨hk,⟨L,_,hf,hn,e,hd⟩,ih (λb hb=>hs b (by unfold iU; rw [SY,hf]; exact OF _ hb)) hr⟩
 exact all X.outer (λ_ hb=>hb) I.ok.funs

theorem aC.stack (I:aC X pins σ H s):s.heap.FunFrames X.base X.stack:=by
 rcases I.ok.stk with e | ⟨e,hf⟩
 ·rw [e]; exact I.funs
 ·rw [e]
  obtain⟨m,hn,_⟩:=I.loc
  refine .cons (by rw [I.ok.kind]; decide) hf hn ?_ I.funs
  exact SI (Pi I.ok.bsz I.ok.above)
theorem aC.stkSub (I:aC X pins σ H s):∀b∈iU X.stack,b∈X.env.locals::X.fs:=λb hb=>by
 rcases I.ok.stk with e | ⟨e,hf⟩
 ·rw [e] at hb; exact OF _ hb
 ·rw [e] at hb
  unfold iU at hb
  rw [SY,hf] at hb
  exact hb
theorem aC.stkFree (I:aC X pins σ H s):∀b∈iU X.stack,H b=none:=λb hb=>by
 rcases ON.mp (I.stkSub b hb) with e | hb
 ·rw [e]; exact I.free
 ·obtain⟨_,o,ho,_⟩:=I.ok.funs.mem hb
  exact I.base.free b o ho (I.ok.frf b hb) λz=>I.ok.exfs b z hb

theorem aC.step {g':Array YF} {t':Nat} {d':Drawn} {ch:List Oo} (I:aC X pins σ H s)
  (hch:∀b∈ch,(b∈X.ex∨X.s₀.heap.objs.size≤b)/\b≠X.env.locals/\(∀x c,X.env.cells.lookup x=some c->c≠b)/\∀p∈X.pn++pins,p.1≠b)
  (keep:∀b o,b≠X.env.locals->b ∉ X.fs->b ∉ ch->s.heap.get? b=some o->H b=none->h'.get? b=some o)
  (slot:∀b o,b≠X.env.locals->b∈X.fs->b ∉ ch->s.heap.get? b=some o->H b=none->∃sl,h'.get? b=some { o with slots:=sl }) (free:∀b o,b ∉ ch->s.heap.get? b=some o->H b=none->H' b=none)
  (there:∀b o,b ∉ ch->s.heap.get? b=some o->∃o',h'.get? b=some o')
  (tups:∀b xs,H b=some (.tup xs)->H' b=some (.tup xs)) (frzs:∀b o u,H b=some (.frz o u)->H' b=some (.frz o u)) (tbls:∀b ps,H b=some (.tbl ps)->∃more,H' b=some (.tbl (ps++more)))
  (ns:∀m,s.heap.Ns X.env.locals m->h'.Ns X.env.locals m) (hok:iT X.prog X.w H' h') (hg:SD g') :
  aC X pins σ H' { s with heap:=h',gens:=g',drawn:=d',toks:=t' }:=by
 have neL:∀b o,X.s₀.heap.get? b=some o->b≠X.env.locals:=λb o e=>OG (OM (Oy e) I.ok.above)
 have neC:∀b o,X.s₀.heap.get? b=some o->b ∉ X.ex->b ∉ ch:=λb o e hx hb=>by
  rcases (hch b hb).1 with z | z
  ·exact hx z
  ·exact absurd (OM (Oy e) z) (Qw _)
 have cellK:∀x c,X.env.cells.lookup x=some c->∀v,s.heap.IsCell c v->h'.IsCell c v:=λx c e v ⟨o,ho,hd⟩=>by
  have nch:c ∉ ch:=λz=>(hch c z).2.2.1 x c e rfl
  by_cases hc:c∈X.fs
  ·obtain⟨sl,q⟩:=slot c o (I.cne x c e) hc nch ho (I.freeC x c e)
   exact⟨_,q,hd⟩
  ·exact⟨o,keep c o (I.cne x c e) hc nch ho (I.freeC x c e),hd⟩
 refine⟨I.ok,I.os,hg,⟨λb o e n hb hx=>?_,λb o e n hb hx=>?_,λb o e n hx=>?_,λb o e hx=>?_,λb xs e=>tups b xs (I.base.tups b xs e),λb o xs e=>frzs b o xs (I.base.frzs b o xs e),λb ps e=>?_⟩,?_,λx c e=>?_,?_,λx c e=>?_,λp hp=>?_,hok,I.len⟩
 ·exact keep b o (neL b o e) hb (neC b o e hx) (I.base.keep b o e n hb hx) (I.base.free b o e n hx)
 ·obtain⟨sl,e1⟩:=I.base.slot b o e n hb hx
  obtain⟨sl',e2⟩:=slot b _ (neL b o e) hb (neC b o e hx) e1 (I.base.free b o e n hx)
  exact⟨sl',e2⟩
 ·obtain⟨o',e1⟩:=I.base.there b o e hx
  exact free b o' (neC b o e hx) e1 (I.base.free b o e n hx)
 ·obtain⟨o',e1⟩:=I.base.there b o e hx
  exact there b o' (neC b o e hx) e1
 ·obtain⟨m1,e1⟩:=I.base.tbls b ps e
  obtain⟨m2,e2⟩:=tbls b _ e1
  exact⟨m1++m2,by rw [e2,Array.append_assoc]⟩
 ·obtain⟨m,hn,hl⟩:=I.loc
  refine⟨m,ns m hn,λi x v e1 e2 e3=>?_⟩
  obtain⟨u,r,l⟩:=hl i x v e1 e2 e3
  refine⟨u,r,?_⟩
  rcases l with l | ⟨k,c,e,z⟩
  ·exact .inl l
  ·exact .inr ⟨k,c,e,cellK x c e _ z⟩
 ·obtain⟨v,z⟩:=I.cell x c e
  exact⟨v,cellK x c e v z⟩
 ·obtain⟨m,⟨o,_,_,ho,_⟩,_⟩:=I.loc
  exact free _ o (λz=>(hch _ z).2.1 rfl) ho I.free
 ·obtain⟨v,o,ho,hd⟩:=I.cell x c e
  exact free c o (λz=>(hch c z).2.2.1 x c e rfl) ho (I.freeC x c e)
 ·obtain⟨e,n,ne,nf,d⟩:=I.pin p hp
  have nch:p.1 ∉ ch:=λz=>(hch p.1 z).2.2.2 p hp rfl
  exact⟨keep p.1 p.2 ne nf nch e n,free p.1 p.2 nch e n,ne,nf,d⟩
theorem aC.un {t':Nat} (I:aC X pins σ H s) (u:Un X.fs [] H H' s.heap h') (hok:iT X.prog X.w H' h'):aC X pins σ H' { s with heap:=h',toks:=t' }:=by
 obtain⟨m,⟨o,es,ep,ho,r⟩,_⟩:=id I.loc
 obtain⟨sl,hL⟩:=u.any ho I.free (by simp)
 exact I.step (g':=s.gens) (d':=s.drawn) (ch:=[]) (λ_ z=>nomatch z) (λb o _ hb _ e n=>u.keep b o e n hb (by simp)) (λb o _ hb _ e n=>u.slot b o e n hb (by simp)) (λb o _ e n=>u.free b o e n (by simp)) (λb o _ e=>u.there b o e (by simp)) u.tups u.frzs u.tbls (λm' hm=>by
  obtain⟨o',es',ep',ho',r'⟩:=hm
  rw [ho] at ho'; cases ho'
  exact⟨_,es',ep',hL,r'⟩) hok I.bare
theorem aC.call {g':Array YF} {t':Nat} {d':Drawn} {ch:List Oo} (I:aC X pins σ H s) (u:Un (iU X.stack) ch H H' s.heap h') (hok:iT X.prog X.w H' h') (hg:SD g')
  (hch:∀b∈ch,(b∈X.ex∨X.s₀.heap.objs.size≤b)/\b≠X.env.locals/\(∀x c,X.env.cells.lookup x=some c->c≠b)/\∀p∈X.pn++pins,p.1≠b) :
  aC X pins σ H' { s with heap:=h',gens:=g',drawn:=d',toks:=t' }:=by
 obtain⟨m,⟨o,es,ep,ho,r⟩,_⟩:=id I.loc
 obtain⟨sl,hL⟩:=u.any ho I.free λz=>(hch _ z).2.1 rfl
 exact I.step (ch:=ch) hch (λb o hL hb hc e n=>u.keep b o e n (λz=>(ON.mp (I.stkSub b z)).elim hL hb) hc) (λb o _ _ hc e n=>u.any e n hc) (λb o hc e n=>u.free b o e n hc) (λb o hc e=>u.there b o e hc) u.tups u.frzs u.tbls (λm' hm=>by
  obtain⟨o',es',ep',ho',r'⟩:=hm
  rw [ho] at ho'; cases ho'
  exact⟨_,es',ep',hL,r'⟩) hok hg
theorem aC.turned {t':Nat} {it:Oo} (I:aC X pins σ H s) (k:∀b o,b≠it->s.heap.get? b=some o->h'.get? b=some o) (hn:H it=none) (hL:it≠X.env.locals)
  (h1:it∈X.ex∨X.s₀.heap.objs.size≤it) (h2:∀x c,X.env.cells.lookup x=some c->c≠it) (h3:∀p∈X.pn++pins,p.1≠it):aC X pins σ H { s with heap:=h',toks:=t' }:=by
 have nit:∀b u,H b=some u->b≠it:=λb u e z=>by rw [z,hn] at e; cases e
 refine I.step (g':=s.gens) (d':=s.drawn) (ch:=[it]) (λb hb=>?_) (λb o _ _ hc e _=>k b o (λz=>hc (by simp [z])) e) (λb o _ _ hc e _=>⟨o.slots,k b o (λz=>hc (by simp [z])) e⟩) (λ_ _ _ _ n=>n)
  (λb o hc e=>⟨o,k b o (λz=>hc (by simp [z])) e⟩) (λ_ _ e=>e) (λ_ _ _ e=>e) (λb ps e=>⟨#[],by rw [e]; simp⟩) (λm hm=>?_) (λb u e=>?_) I.bare
 ·have e:b=it:=by simpa using hb
  subst e
  exact⟨h1,hL,h2,h3⟩
 ·obtain⟨o,es,ep,ho,r⟩:=hm
  exact⟨o,es,ep,k _ o (P5 hL) ho,r⟩
 ·refine (I.hok b u e).stay (λc v hc q=>k c v ?_ q) (λ_ q=>q) λ_ _ q=>q
  rcases hc with z | z
  ·rw [z]; exact nit b u e
  ·exact nit c _ z
theorem aC.tok (I:aC X pins σ H s) (t:Nat):aC X pins σ H { s with toks:=t }:=I.un (h':=s.heap) (t':=t) Un.refl I.hok
theorem aC.kept {t':Nat} (I:aC X pins σ H s) (k:∀b u,s.heap.get? b=some u->h'.get? b=some u):aC X pins σ H { s with heap:=h',toks:=t' }:=I.un (Un.kept k) (I.hok.kept k)
theorem aC.laid {a:Oo} {o:HO} {t':Nat} (I:aC X pins σ H s) (k:∀b u,s.heap.get? b=some u->h'.get? b=some u) (hp:s.heap.objs.size≤a) (new:ci X.prog X.w (upd H a o) h' a o) :
  aC X pins σ (upd H a o) { s with heap:=h',toks:=t' }:=I.un (Un.laid k hp (I.hok.fresh hp)) (I.hok.laid k hp new)
theorem aC.write {x e:Oo} {o:HO} {t':Nat} (I:aC X pins σ H s) (mu:Le (H x)) (he:e=x∨H e=some (.own x)) (k:∀b u,b≠e->s.heap.get? b=some u->h'.get? b=some u) (heo:∃u,h'.get? e=some u)
  (new:ci X.prog X.w (upd H x o) h' x o):aC X pins σ (upd H x o) { s with heap:=h',toks:=t' }:=I.un (Un.write mu he k heo) (I.hok.write mu he k heo new)
theorem aC.weak {σ':List (Option V)} (I:aC X pins σ H s) (hl:σ'.length=σ.length) (w:∀(i:Nat) v,σ'[i]?=some (some v)->σ[i]?=some (some v)):aC X pins σ' H s :=
 ⟨I.ok,I.os,I.bare,I.base,let ⟨m,hn,hl'⟩:=I.loc; ⟨m,hn,λi x v e1 e2 e3=>hl' i x v e1 (w i v e2) e3⟩,I.cell,I.free,I.freeC,I.pin,I.hok,hl.trans I.len⟩
theorem aC.pins_of {pins':List (Oo×Obj)} (I:aC X pins σ H s) (h:∀p∈pins',s.heap.get? p.1=some p.2/\H p.1=none/\p.1≠X.env.locals/\p.1 ∉ X.fs/\∀v,p.2.data≠.cell v):aC X pins' σ H s :=
 ⟨I.ok,I.os,I.bare,I.base,I.loc,I.cell,I.free,I.freeC,λp hp=>(Pv.mp hp).elim (λz=>I.pin p (Q8 _ z)) (h p),I.hok,I.len⟩

theorem pX {N:List Str} (hN:N.Nodup) {i j:Nat} {x:Str} (a:N[i]?=some x) (b:N[j]?=some x):i=j:=by
 obtain⟨h1,e1⟩:=Ow.mp a
 obtain⟨h2,e2⟩:=Ow.mp b
 exact (List.getElem_inj hN).mp (e1.trans e2.symm)

theorem mZ {M:W0} {i:Nat} {x:Str} {v:V} {u:Om} {Q:Unit->Os->Prop} (I:aC X pins σ H s) (hN:X.N.Nodup) (hi:X.N[i]?=some x) (hx:eg X.env.scope x) (r:aP v u)
  (h:∀s',aC X pins (σ.set i (some v)) H s'->(∃a,P9 a s.heap s'.heap/\(a=X.env.locals∨X.env.cells.lookup x=some a))->Q () s') (hf:X.fn x=true∨X.env.scope.names.lookup x=some .local:=by with_unfolding_all (first | exact .inl rfl | exact .inr rfl | assumption)):Ov M A (Wd X.env x u) Q E s:=by
 obtain⟨m,hn,hl⟩:=id I.loc
 have hcls:(X.env.scope.kind == .class || (X.env.scope.kind == .module && X.env.locals != X.env.globals))=false:=by rw [I.ok.kind]; rfl
 have hiσ:i < σ.length:=by rw [I.len]; exact (Ow.mp hi).1
 have cne:=I.cne
 have tracked:∀{a:Oo} {h':O9},(∃o,s.heap.get? a=some o/\H a=none)->P9 a s.heap h'->iT X.prog X.w H h':=λ{a h'} ha hs b ob e=>by
  obtain⟨_,_,hfree⟩:=ha
  refine (I.hok b ob e).stay (λc w' hc q=>(hs.2 c ?_).trans q) (λ_ q=>q) λ_ _ q=>q
  rintro rfl
  rcases hc with rfl | hc
  ·rw [hfree] at e; cases e
  ·rw [hfree] at hc; cases hc
 rcases hx with hk | hk
 ·refine wpAny_storeName_local hk hn (λh' hn' hs=>?_) hcls
  obtain⟨oL,_,_,hoL,_⟩:=id hn
  refine h _ ⟨I.ok,I.os,I.bare,⟨λb o e n hb hx=>?_,λb o e n hb hx=>?_,I.base.free,λb o e hx=>?_,I.base.tups,I.base.frzs,I.base.tbls⟩,⟨_,hn',λj y v' e1 e2 e3=>?_⟩,λy c e=>?_,I.free,I.freeC,λp hp=>?_,tracked ⟨oL,hoL,I.free⟩ hs,by simpa using I.len⟩ ⟨_,hs,.inl rfl⟩
  ·exact (hs.2 b (OG (OM (Oy e) I.ok.above))).trans (I.base.keep b o e n hb hx)
  ·obtain⟨sl,e1⟩:=I.base.slot b o e n hb hx
   exact⟨sl,(hs.2 b (OG (OM (Oy e) I.ok.above))).trans e1⟩
  ·obtain⟨o',e1⟩:=I.base.there b o e hx
   exact⟨o',(hs.2 b (OG (OM (Oy e) I.ok.above))).trans e1⟩
  ·by_cases hj:j=i
   ·subst hj
    rw [hi] at e1; cases e1
    rw [QK hiσ] at e2
    cases e2
    exact⟨u,r,.inl ⟨hk,by simp⟩⟩
   ·rw [Q9 (P5 hj)] at e2
    obtain⟨u',r',q⟩:=hl j y v' e1 e2 e3
    refine⟨u',r',?_⟩
    rcases q with ⟨k,e⟩ | ⟨k,c,e,z⟩
    ·refine .inl ⟨k,?_⟩
     have:y≠x:=λe=>hj (pX hN e1 (e▸hi))
     simp [this,e]
    ·exact .inr ⟨k,c,e,z.sameBut hs (cne y c e)⟩
  ·obtain⟨w',z⟩:=I.cell y c e
   exact⟨w',z.sameBut hs (cne y c e)⟩
  ·obtain⟨e,n,ne,nf,d⟩:=I.pin p hp
   exact⟨(hs.2 p.1 ne).trans e,n,ne,nf,d⟩
 ·have hfn:X.fn x=true:=by
   rcases hf with z | z
   ·exact z
   ·rw [z] at hk; cases hk
  obtain⟨c,hc⟩:=I.ok.has x (.inl hk)
  obtain⟨w',z⟩:=I.cell x c hc
  refine wpAny_storeName_cell I.ok.kind hk hc z (λh' hc' hs=>?_)
  obtain⟨oc,hoc,hocd⟩:=id z
  refine h { s with heap:=h' } ⟨I.ok,I.os,I.bare,⟨λb o e n hb hx=>?_,λb o e n hb hx=>?_,I.base.free,λb o e hx=>?_,I.base.tups,I.base.frzs,I.base.tbls⟩,⟨m,hn.sameBut hs (P5 (cne x c hc)),λj y v' e1 e2 e3=>?_⟩,λy c' e=>?_,I.free,I.freeC,λp hp=>?_,tracked ⟨oc,hoc,I.freeC x c hc⟩ hs,by simpa using I.len⟩ ⟨c,hs,.inr hc⟩
  ·exact (hs.2 b (OG (OM (Oy e) (I.ok.cab x c hfn hc)))).trans (I.base.keep b o e n hb hx)
  ·obtain⟨sl,e1⟩:=I.base.slot b o e n hb hx
   exact⟨sl,(hs.2 b (OG (OM (Oy e) (I.ok.cab x c hfn hc)))).trans e1⟩
  ·obtain⟨o',e1⟩:=I.base.there b o e hx
   exact⟨o',(hs.2 b (OG (OM (Oy e) (I.ok.cab x c hfn hc)))).trans e1⟩
  ·by_cases hj:j=i
   ·subst hj
    rw [hi] at e1; cases e1
    rw [QK hiσ] at e2
    cases e2
    exact⟨u,r,.inr ⟨.inl hk,c,hc,hc'⟩⟩
   ·rw [Q9 (P5 hj)] at e2
    obtain⟨u',r',q⟩:=hl j y v' e1 e2 e3
    refine⟨u',r',?_⟩
    rcases q with q | ⟨k,c',e,z'⟩
    ·exact .inl q
    ·refine .inr ⟨k,c',e,z'.sameBut hs ?_⟩
     rintro rfl
     exact hj (pX hN e1 (I.ok.inj _ _ _ e hc▸hi))
  ·by_cases hcc:c'=c
   ·subst hcc; exact⟨_,hc'⟩
   ·obtain⟨w2,z2⟩:=I.cell y c' e
    exact⟨w2,z2.sameBut hs hcc⟩
  ·obtain⟨e,n,ne,nf,d⟩:=I.pin p hp
   refine⟨(hs.2 p.1 ?_).trans e,n,ne,nf,d⟩
   intro q
   rw [q,hoc] at e
   have q':oc=p.2:=OU e
   exact d w' (by rw [<-q']; exact hocd)
theorem f7 {M:W0} {i:Nat} {x:Str} {v:V} {u:Om} {Q:Unit->Os->Prop} (I:aC X pins σ H s) (hN:X.N.Nodup) (hi:X.N[i]?=some x) (hx:eg X.env.scope x) (r:aP v u)
  (h:∀s',aC X pins (σ.set i (some v)) H s'->Q () s') (hf:X.fn x=true∨X.env.scope.names.lookup x=some .local:=by with_unfolding_all (first | exact .inl rfl | exact .inr rfl | assumption)):Ov M A (Wd X.env x u) Q E s :=
 mZ I hN hi hx r (λs' I' _=>h s' I') hf
theorem aC.call' {s':Os} {ch:List Oo} (I:aC X pins σ H s) (ho:s'.os=s.os) (u:Un (iU X.stack) ch H H' s.heap s'.heap) (hok:iT X.prog X.w H' s'.heap) (hg:SD s'.gens)
  (hch:∀b∈ch,(b∈X.ex∨X.s₀.heap.objs.size≤b)/\b≠X.env.locals/\(∀x c,X.env.cells.lookup x=some c->c≠b)/\∀p∈X.pn++pins,p.1≠b):aC X pins σ H' s':=by
 obtain⟨h',g',d',t',o'⟩:=s'
 have e:o'=s.os:=ho
 subst e
 exact I.call (g':=g') (t':=t') (d':=d') u hok hg hch
end
abbrev XK:=Om->Option Oo->Hp->Prop
abbrev St:=List (Option V)
abbrev VK:=V->Hp->Prop
abbrev TE:=St->Hp->VK->Prop
abbrev TT:=St->Hp->(Bool->Hp->Prop)->Prop
abbrev TA:=St->Hp->(List V->Hp->Prop)->Prop
structure wK where
 nx:St->Hp->Prop
 rt:VK
 bk:St->Hp->Prop:=λ_ _=>False
 ct:St->Hp->Prop:=λ_ _=>False
abbrev TS:=wK->St->Hp->Prop

def EP (X:Cx) (pins:List (Oo×Obj)) (σ:St) (Q:VK) (u:Om) (s':Os):Prop:=∃v H',aC X pins σ H' s'/\aP v u/\Q v H'
def TP (X:Cx) (pins:List (Oo×Obj)) (σ:St) (Q:Bool->Hp->Prop) (b:Bool) (s':Os):Prop:=∃H',aC X pins σ H' s'/\Q b H'
def AP (X:Cx) (pins:List (Oo×Obj)) (σ:St) (Q:List V->Hp->Prop) (us:List Om) (s':Os):Prop:=∃vs H',aC X pins σ H' s'/\aO vs us/\Q vs H'
def SP (X:Cx) (pins:List (Oo×Obj)) (D:wK) (f:Flow) (s':Os):Prop :=
 match f with
 | .next=>∃σ' H',aC X pins σ' H' s'/\D.nx σ' H'
 | .brk=>∃σ' H',aC X pins σ' H' s'/\D.bk σ' H'
 | .cont=>∃σ' H',aC X pins σ' H' s'/\D.ct σ' H'
 | .ret u=>∃v σ' H',aC X pins σ' H' s'/\aP v u/\D.rt v H'

def PE (X:Cx) (e:OP) (t:TE):Prop :=
 ∀(pins:List (Oo×Obj)) (s:Os) (σ:St) (H:Hp) (Q:VK),aC X pins σ H s->t σ H Q->Ov (OE X.prog X.w) X.A (O2 e X.env) (EP X pins σ Q) X.xe s
def PT (X:Cx) (e:OP) (t:TT):Prop :=
 ∀(pins:List (Oo×Obj)) (s:Os) (σ:St) (H:Hp) (Q:Bool->Hp->Prop),aC X pins σ H s->t σ H Q->Ov (OE X.prog X.w) X.A (We e X.env (O2 e X.env)) (TP X pins σ Q) X.xe s
def PW (X:Cx) (e:OP) (t:TT):Prop :=
 ∀(whole:Sem Om) (pins:List (Oo×Obj)) (s:Os) (σ:St) (H:Hp) (Q:Bool->Hp->Prop),aC X pins σ H s->t σ H Q->Ov (OE X.prog X.w) X.A (We e X.env whole) (TP X pins σ Q) X.xe s
theorem PW.pt {X:Cx} {e:OP} {t:TT} (h:PW X e t):PT X e t:=h _
def PA (X:Cx) (es:List OP) (t:TA):Prop :=
 ∀(pos:Pos) (pins:List (Oo×Obj)) (s:Os) (σ:St) (H:Hp) (Q:List V->Hp->Prop),aC X pins σ H s->t σ H Q->Ov (OE X.prog X.w) X.A (Zy (Qa pos (OQ es X.env))) (AP X pins σ Q) X.xe s
def PS (X:Cx) (st:Rf) (t:TS):Prop :=
 ∀(pins:List (Oo×Obj)) (s:Os) (σ:St) (H:Hp) (D:wK),aC X pins σ H s->t D σ H->Ov (OE X.prog X.w) X.A (exec st X.env) (SP X pins D) X.xe s
def gN (X:Cx) (st:List Rf) (t:TS):Prop :=
 ∀(pins:List (Oo×Obj)) (s:Os) (σ:St) (H:Hp) (D:wK),aC X pins σ H s->t D σ H->Ov (OE X.prog X.w) X.A (execs st X.env) (SP X pins D) X.xe s
theorem bG {α:Type} {t:Sem α} {Q Q':α->Os->Prop} {M:W0} (h:Ov M A t Q E s) (hQ:∀a s,Q a s->Q' a s):Ov M A t Q' E s:=OS h hQ λ_ _ x=>x
section
variable {X:Cx}
theorem Oj {a b:OP} {ta tb:TE} (ha:PE X a ta) (hb:PE X b tb) {σ:St} {H:Hp} {R:V->V->Hp->Prop} (I:aC X pins σ H s) (h:ta σ H λx H1=>tb σ H1 λy H2=>R x y H2)
  {α:Type} {Q:α->Os->Prop} {f:Om->Om->Sem α}
  (hf:∀v u s2 x y H2,aC X pins σ H2 s2->aP x v->aP y u->R x y H2->Ov (OE X.prog X.w) X.A (f v u) Q X.xe s2) :
  Ov (OE X.prog X.w) X.A (O2 a X.env) (λv s₁=>Ov (OE X.prog X.w) X.A (O2 b X.env) (λu s₂=>Ov (OE X.prog X.w) X.A (f v u) Q X.xe s₂) X.xe s₁) X.xe s:=by
 refine bG (ha pins s σ H _ I h) λv s1 ⟨x,H1,I1,r1,q1⟩=>?_
 refine bG (hb pins s1 σ H1 _ I1 q1) λu s2 ⟨y,H2,I2,r2,q2⟩=>?_
 exact hf v u s2 x y H2 I2 r1 r2 q2

def Dn (i:Nat):TE:=λσ H Q=>∃v,σ[i]?=some (some v)/\Q v H
def tC (v:V):TE:=λ_ H Q=>Q v H
theorem yD {i:Nat} {x:Str} (hN:X.N[i]?=some x) (hv:Lf X.env.scope x) (hd:(x == ("__debug__":Str))=false:=by decide) (hcd:(x == ("__classdict__":Str))=false:=by decide):PE X (.Name x pos) (Dn i):=by
 intro pins s σ H Q I h
 obtain⟨v,e,h⟩:=h
 obtain⟨m,hn,hl⟩:=I.loc
 obtain⟨u,r,l⟩:=hl i x v hN e hv
 have fin:EP X pins σ Q u s:=⟨v,H,I,r,h⟩
 rcases l with ⟨hk,hm⟩ | ⟨hk,c,hc,hcell⟩
 ·exact VC (SJ I.ok.kind hk hn hm fin) hd
 ·rcases hk with hk | hk
  ·exact VC (Vc I.ok.kind hk hc hcell fin) hd
  ·exact VC (wpAny_loadName_free I.ok.kind hk hc hcell fin hcd) hd
theorem cY {i j pos}:PE X (.Constant (.int i) j pos) (tC (.int i)):=λ_ _ _ H _ I h=>VD ⟨.int i,H,I.tok _,⟨_,rfl⟩,h⟩
theorem Lg {b j pos}:PE X (.Constant (.bool b) j pos) (tC (.bl b)):=λ_ _ _ H _ I h=>Constant_bool ⟨.bl b,H,I,rfl,h⟩
theorem Do {j pos}:PE X (.Constant .none j pos) (tC .non):=λ_ _ _ H _ I h=>Vp ⟨.non,H,I,rfl,h⟩
theorem gO {x j pos}:PE X (.Constant (.str x) j pos) (tC (.str x)):=λ_ _ _ H _ I h=>Calls.Constant_str ⟨.str x,H,I.tok _,⟨_,rfl⟩,h⟩

def Gl (X:Cx) (x:Str):Prop:=X.env.kindOf x=some .globalImplicit
theorem dQ {σ:St} {H:Hp} {x:Str} {u:Om} {Q:Om->Os->Prop} (I:aC X pins σ H s) (hg:Gl X x) (hm:X.mg x=some u) (h:Q u s)
  (hd:(x == ("__debug__":Str))=false:=by decide):Ov (OE X.prog X.w) X.A (O2 (.Name x pos) X.env) Q E s :=
 Ti I.ok.kind hg (Calls.loadGlobal_global (by rw [I.ok.glob]; exact I.mod.glob.keeps I.bk) hm h) hd
theorem iw {σ:St} {H:Hp} {x:Str} {u:Om} {Q:Om->Os->Prop} (I:aC X pins σ H s) (hg:Gl X x) (hm:X.mg x=none) (hv:Pb x=some u) (h:Q u s)
  (hn:x ≠ "__name__":=by decide) (hd:(x == ("__debug__":Str))=false:=by decide):Ov (OE X.prog X.w) X.A (O2 (.Name x pos) X.env) Q E s:=by
 obtain⟨mb,h1,h2⟩:=I.mod.blt
 exact Ti I.ok.kind hg (Calls.loadGlobal_builtin (by rw [I.ok.glob]; exact I.mod.glob.keeps I.bk) hm (by rw [I.ok.blt]; exact h1.keeps I.bk) ((h2 x hn).trans hv) h) hd
theorem z9 {x:Str} {v:V} {u:Om} (hg:Gl X x) (hm:X.mg x=some u) (r:aP v u) (hd:(x == ("__debug__":Str))=false:=by decide):PE X (.Name x pos) (tC v) :=
 λ_ _ _ H _ I h=>dQ I hg hm ⟨v,H,I,r,h⟩ hd
theorem vc {x:Str} {v:V} {u:Om} (hg:Gl X x) (hm:X.mg x=none) (hv:Pb x=some u) (r:aP v u) (hn:x ≠ "__name__":=by decide) (hd:(x == ("__debug__":Str))=false:=by decide):PE X (.Name x pos) (tC v) :=
 λ_ _ _ H _ I h=>iw I hg hm hv ⟨v,H,I,r,h⟩ hn hd

variable {a b:OP} {ta tb:TE}
def PC (X:Cx) (op:Wx) (a b:OP) (t:TE):Prop :=
 ∀(pins:List (Oo×Obj)) (s:Os) (σ:St) (H:Hp) (Q:VK),aC X pins σ H s->t σ H Q ->
  Ov (OE X.prog X.w) X.A (O2 a X.env) (λv s₁=>Ov (OE X.prog X.w) X.A (O2 b X.env) (λu s₂=>Ov (OE X.prog X.w) X.A (P3 op v u) (EP X pins σ Q) X.xe s₂) X.xe s₁) X.xe s
theorem wL (b:OP) {op:Wx} (h:op≠.In) (h2:op≠.NotIn):Pz op b=false:=by
 have e1:(op == ZQ)=false:=by cases op<;>first | rfl | exact absurd rfl h
 have e2:(op == YG)=false:=by cases op<;>first | rfl | exact absurd rfl h2
 cases b<;>simp [Pz,e1,e2]
def Go (ta:TE):TE:=λσ H Q=>ta σ H λx H1=>Q (.bl (decide (x=.non))) H1
def Dp (ta:TE):TE:=λσ H Q=>ta σ H λx H1=>Q (.bl (!decide (x=.non))) H1
theorem aP.none_iff {x:V} {v:Om} (r:aP x v):(v == Pr)=decide (x=.non):=by
 cases x with
 | non=>cases r; rfl
 | bl _=>cases r; rfl
 | int _=>obtain⟨t,rfl⟩:=r; rfl
 | str _=>obtain⟨t,rfl⟩:=r; rfl
 | byt _=>obtain⟨t,rfl⟩:=r; rfl
 | flt _=>obtain⟨t,rfl⟩:=r; rfl
 | ref _=>cases r; rfl
 | ty _=>cases r; rfl
theorem dR {j pos'} (ha:PE X a ta):PC X .Is a (.Constant .none j pos') (Go ta):=by
 intro pins s σ H Q I h
 refine bG (ha pins s σ H _ I h) λv s1 ⟨x,H1,I1,r1,q1⟩=>?_
 exact Vp (is_none_gen ⟨.bl _,H1,I1,by rw [r1.none_iff]; rfl,q1⟩)
theorem Gp {j pos'} (ha:PE X a ta):PC X .IsNot a (.Constant .none j pos') (Dp ta):=by
 intro pins s σ H Q I h
 refine bG (ha pins s σ H _ I h) λv s1 ⟨x,H1,I1,r1,q1⟩=>?_
 exact Vp (isnot_none_gen ⟨.bl _,H1,I1,by rw [r1.none_iff]; rfl,q1⟩)
def tB (t:TE):TT:=λσ H Q=>t σ H λx H1=>∃c,x=.bl c/\Q c H1
theorem vd {op:Wx} {t:TE} (h:PC X op a b t) (h1:Pz op b=false:=by with_unfolding_all (first | exact wL _ (by decide) (by decide) | rfl)):PE X (.Compare a [op] [b] pos) t:=λpins s σ H Q I hw=>W1 (h pins s σ H Q I hw) h1
theorem dS {op:Wx} {t:TE} (h:PC X op a b t) (h1:Pz op b=false:=by with_unfolding_all (first | exact wL _ (by decide) (by decide) | rfl)):PT X (.Compare a [op] [b] pos) (tB t):=by
 intro pins s σ H Q I hw
 refine UD (bG (h pins s σ H _ I hw) λv s1 h1=>bG h1 λu s2 h2=>bG h2 λc s3 ⟨x,H1,I1,r1,q1⟩=>?_) h1
 obtain⟨d,rfl,q⟩:=q1
 cases r1
 exact Qc ⟨H1,I1,q⟩
theorem Jl {e:OP} {t:TE} (h:PE X e t) (he:∀whole,We e X.env whole=(do let v <-whole; QL e.pos; Ra [v] (Ye v)):=by with_unfolding_all (intro _; rfl)):PT X e (tB t):=by
 intro pins s σ H Q I hw
 refine VQ (bG (h pins s σ H _ I hw) λv s1 ⟨x,H1,I1,r1,q1⟩=>?_) (he _)
 obtain⟨d,rfl,q⟩:=q1
 cases r1
 exact Qc ⟨H1,I1,q⟩

variable {tA tB':TT} {rest:List OP}
def Lh (t u:TT):TT:=λσ H Q=>t σ H λc H1=>if c=true then u σ H1 Q else Q false H1
def NW (t u:TT):TT:=λσ H Q=>t σ H λc H1=>if c=true then Q true H1 else u σ H1 Q
def M9 (t:TT):TT:=λσ H Q=>t σ H λc H1=>Q (!c) H1
theorem Gq (ha:PT X a tA):PW X (.BoolOp .And [a] pos) tA:=by
 intro wh pins s σ H Q I h
 refine isTrue_and (bG (ha pins s σ H Q I h) λc s1 e=>?_)
 cases c with
 | true=>exact isTrue_and_nil e
 | false=>exact e
theorem Jm (ha:PT X a tA):PW X (.BoolOp .Or [a] pos) tA:=by
 intro wh pins s σ H Q I h
 refine isTrue_or (bG (ha pins s σ H Q I h) λc s1 e=>?_)
 cases c with
 | false=>exact isTrue_or_nil e
 | true=>exact e
theorem Jn (ha:PT X a tA) (hb:PW X (.BoolOp .And (b::rest) pos) tB'):PW X (.BoolOp .And (a::b::rest) pos) (Lh tA tB'):=by
 intro wh pins s σ H Q I h
 refine isTrue_and (bG (ha pins s σ H _ I h) λc s1 ⟨H1,I1,q1⟩=>?_)
 cases c with
 | true=>exact hb wh pins s1 σ H1 Q I1 q1
 | false=>exact⟨H1,I1,q1⟩
theorem Li (ha:PT X a tA) (hb:PW X (.BoolOp .Or (b::rest) pos) tB'):PW X (.BoolOp .Or (a::b::rest) pos) (NW tA tB'):=by
 intro wh pins s σ H Q I h
 refine isTrue_or (bG (ha pins s σ H _ I h) λc s1 ⟨H1,I1,q1⟩=>?_)
 cases c with
 | true=>exact⟨H1,I1,q1⟩
 | false=>exact hb wh pins s1 σ H1 Q I1 q1
theorem Jo (ha:PT X a tA):PT X (.UnaryOp .Not a pos) (M9 tA):=by
 intro pins s σ H Q I h
 exact isTrue_not (ha pins s σ H (λc H1=>Q (!c) H1) I h)
def Lj (ta tb:TE):TE:=λσ H Q=>ta σ H λx H1=>∃c,x=.bl c/\if c=true then tb σ H1 Q else Q (.bl false) H1
def Na (ta tb:TE):TE:=λσ H Q=>ta σ H λx H1=>∃c,x=.bl c/\if c=true then Q (.bl true) H1 else tb σ H1 Q
def Lk (ta:TE):TE:=λσ H Q=>ta σ H λx H1=>∃c,x=.bl c/\Q (.bl (!c)) H1
theorem Jp {op} {t:TE} (h:PE X a t):PE X (.BoolOp op [a] pos) t:=λpins s σ H Q I hw=>BoolOp_one (h pins s σ H Q I hw)
theorem Jq (ha:PE X a ta) (hb:PE X (.BoolOp .And (b::rest) pos) tb):PE X (.BoolOp .And (a::b::rest) pos) (Lj ta tb):=by
 intro pins s σ H Q I h
 refine BoolOp_and (bG (ha pins s σ H _ I h) λv s1 ⟨x,H1,I1,r1,q1⟩=>?_)
 obtain⟨c,rfl,q1⟩:=q1
 cases r1
 refine Qc ?_
 cases c with
 | true=>exact hb pins s1 σ H1 Q I1 q1
 | false=>exact⟨.bl false,H1,I1,rfl,q1⟩
theorem Ll (ha:PE X a ta) (hb:PE X (.BoolOp .Or (b::rest) pos) tb):PE X (.BoolOp .Or (a::b::rest) pos) (Na ta tb):=by
 intro pins s σ H Q I h
 refine BoolOp_or (bG (ha pins s σ H _ I h) λv s1 ⟨x,H1,I1,r1,q1⟩=>?_)
 obtain⟨c,rfl,q1⟩:=q1
 cases r1
 refine Qc ?_
 cases c with
 | false=>exact hb pins s1 σ H1 Q I1 q1
 | true=>exact⟨.bl true,H1,I1,rfl,q1⟩
theorem Jr (ha:PE X a ta):PE X (.UnaryOp .Not a pos) (Lk ta):=by
 intro pins s σ H Q I h
 refine UnaryOp_ (bG (ha pins s σ H _ I h) λv s1 ⟨x,H1,I1,r1,q1⟩=>?_)
 obtain⟨c,rfl,q1⟩:=q1
 cases r1
 exact not_of (Qc ⟨.bl (!c),H1,I1,rfl,q1⟩)
def NX (t:TT) (ta tb:TE):TE:=λσ H Q=>t σ H λc H1=>if c=true then ta σ H1 Q else tb σ H1 Q
theorem pY {c:OP} (hc:PT X c tA) (ha:PE X a ta) (hb:PE X b tb):PE X (.IfExp c a b pos) (NX tA ta tb):=by
 intro pins s σ H Q I h
 refine wpAny_IfExp (bG (hc pins s σ H _ I h) λd s1 ⟨H1,I1,q1⟩=>?_)
 cases d with
 | true=>exact ha pins s1 σ H1 Q I1 q1
 | false=>exact hb pins s1 σ H1 Q I1 q1
end
def hW (K:Ou) (H:Hp) (a:Oo) (xs:List V):Prop :=
 Rd H a (.lst xs) ∨
  ∃(o:Obj) (its:Array Om) (n:Nat),K.lookup a=some o/\o.cls=.type "list" /\ o.dict=none/\o.data=.seq its n/\its.size≤OA/\aO xs its.toList
def hZ (K:Ou) (H:Hp) (a:Oo) (xs:List V):Prop :=
 Rd H a (.tup xs) ∨
  ∃(o:Obj) (its:Array Om) (n:Nat),K.lookup a=some o/\o.cls=.type "tuple" /\ o.data=.seq its n/\its.size≤OA/\aO xs its.toList
def Nb:Om->Option V
 | .none=>some .non
 | .bool b=>some (.bl b)
 | .int i _=>some (.int i)
 | .str x _=>some (.str x)
 | .bytes b _=>some (.byt b)
 | .float b _=>some (.flt b)
 | .ref a=>some (.ref a)
 | .type n=>some (.ty n)
 | _=>none
theorem aP.abs {x:V} {u:Om} (r:aP x u):Nb u=some x:=by
 cases x with
 | non=>cases r; rfl
 | bl _=>cases r; rfl
 | int _=>obtain⟨t,rfl⟩:=r; rfl
 | str _=>obtain⟨t,rfl⟩:=r; rfl
 | byt _=>obtain⟨t,rfl⟩:=r; rfl
 | flt _=>obtain⟨t,rfl⟩:=r; rfl
 | ref _=>cases r; rfl
 | ty _=>cases r; rfl
theorem aP.inj {x y:V} {u:Om} (r:aP x u) (q:aP y u):x=y:=OU (r.abs.symm.trans q.abs)
theorem aO.inj:∀{xs ys:List V} {us:List Om},aO xs us->aO ys us->xs=ys
 | _,_,_,.nil,.nil=>rfl
 | _,_,_,.cons r t,.cons r' t'=>by rw [r.inj r',aO.inj t t']
section
variable {X:Cx} {σ:St} {H:Hp} {a:Oo} {xs ys:List V}
theorem hW.of (h:H a=some (.lst xs)):hW K H a xs:=.inl (.inl h)
theorem hZ.of (h:H a=some (.tup xs)):hZ K H a xs:=.inl (.inl h)
theorem aC.list (I:aC X pins σ H s) (h:hW X.K H a xs):∃its:List Om,aO xs its/\PlainL s.heap a its.toArray/\xs.length≤OA:=by
 rcases h with h | ⟨o,its,n,hk,hc,hd,hs,hz,r⟩
 ·obtain⟨z,its,n,r,e⟩:=h.ok I.hok
  exact⟨its,r,⟨_,n,e,rfl,rfl,rfl⟩,z⟩
 ·refine⟨its.toList,r,⟨o,n,I.kIn a o hk,hc,hd,by simpa using hs⟩,?_⟩
  have e:=r.length
  simp only [O6] at e
  omega
theorem aC.tuple (I:aC X pins σ H s) (h:hZ X.K H a xs):∃its:List Om,aO xs its/\Vo s.heap a its.toArray/\xs.length≤OA:=by
 rcases h with h | ⟨o,its,n,hk,hc,hs,hz,r⟩
 ·obtain⟨z,its,r,p⟩:=h.ok I.hok
  exact⟨its,r,p,z⟩
 ·refine⟨its.toList,r,⟨o,I.kIn a o hk,hc,n,by simpa using hs⟩,?_⟩
  have e:=r.length
  simp only [O6] at e
  omega
theorem aC.list_inj (I:aC X pins σ H s) (h:hW X.K H a xs) (h':hW X.K H a ys):xs=ys:=by
 obtain⟨its,r,⟨o,n,e,_,_,d⟩,_⟩:=I.list h
 obtain⟨its',r',⟨o',n',e',_,_,d'⟩,_⟩:=I.list h'
 rw [e] at e'; cases e'
 rw [d] at d'
 injection d' with d1 _
 have:its=its':=by simpa using congrArg Yg d1
 subst this
 exact r.inj r'
theorem aC.tuple_inj (I:aC X pins σ H s) (h:hZ X.K H a xs) (h':hZ X.K H a ys):xs=ys:=by
 obtain⟨its,r,⟨o,e,_,n,d⟩,_⟩:=I.tuple h
 obtain⟨its',r',⟨o',e',_,n',d'⟩,_⟩:=I.tuple h'
 rw [e] at e'; cases e'
 rw [d] at d'
 injection d' with d1 _
 have:its=its':=by simpa using congrArg Yg d1
 subst this
 exact r.inj r'
end
abbrev Cx.wish (X:Cx) (E:Om->Os->Prop):Cx:={ X with xe:=E }
abbrev Cx.nox (X:Cx):Cx:=X.wish λ_ _=>False
theorem Cx.Ok.wish {X:Cx} (ok:X.Ok) (E:Om->Os->Prop):(X.wish E).Ok :=
 ⟨ok.mod,ok.kind,ok.glob,ok.blt,ok.above,ok.inj,ok.has,ok.cab,ok.hd,ok.frames,ok.stk,ok.exf,ok.bs,ok.bsz,ok.noex,ok.exfs,ok.funs,ok.frf⟩
theorem Cx.Ok.unwish {X:Cx} (ok:(X.wish E).Ok):X.Ok :=
 ⟨ok.mod,ok.kind,ok.glob,ok.blt,ok.above,ok.inj,ok.has,ok.cab,ok.hd,ok.frames,ok.stk,ok.exf,ok.bs,ok.bsz,ok.noex,ok.exfs,ok.funs,ok.frf⟩
section
variable {X:Cx} {σ:St} {H:Hp}
theorem aC.wish (I:aC X pins σ H s) (E:Om->Os->Prop):aC (X.wish E) pins σ H s:=⟨I.ok.wish E,I.os,I.bare,I.base,I.loc,I.cell,I.free,I.freeC,I.pin,I.hok,I.len⟩
theorem aC.unwish (I:aC (X.wish E) pins σ H s):aC X pins σ H s:=⟨I.ok.unwish,I.os,I.bare,I.base,I.loc,I.cell,I.free,I.freeC,I.pin,I.hok,I.len⟩
theorem SP.unwish {D:wK} {f:Flow} {s':Os} (h:SP (X.wish E) pins D f s'):SP X pins D f s':=by
 cases f with
 | next=>obtain⟨σ',H',I,q⟩:=h; exact⟨σ',H',I.unwish,q⟩
 | brk=>obtain⟨σ',H',I,q⟩:=h; exact⟨σ',H',I.unwish,q⟩
 | cont=>obtain⟨σ',H',I,q⟩:=h; exact⟨σ',H',I.unwish,q⟩
 | ret u=>obtain⟨v,σ',H',I,r,q⟩:=h; exact⟨v,σ',H',I.unwish,r,q⟩
theorem gN.nox {st:List Rf} {t:TS} (h:gN X.nox st t):gN X st t:=λpins s σ H D I hw =>
 OS (h pins s σ H D (I.wish _) hw) (λ_ _ q=>q.unwish) λ_ _ z=>OX z
end
section
variable {X:Cx} {rest:List Rf} {t u:TS} {e:OP} {te:TE}
def Ip:TS:=λD σ H=>D.nx σ H
def Js (t u:TS):TS:=λD σ H=>t { D with nx:=u D } σ H
theorem Aa:gN X [] Ip:=λ_ _ σ H _ I h=>Q2 ⟨σ,H,I,h⟩
theorem dU (h1:PS X st t) (h2:gN X rest u):gN X (st::rest) (Js t u):=by
 intro pins s σ H D I h
 refine PP (bG (h1 pins s σ H { D with nx:=u D } I h) λf s1 q=>?_)
 cases f with
 | next =>
  obtain⟨σ',H',I',q⟩:=q
  exact h2 pins s1 σ' H' D I' q
 | ret v=>exact q
 | brk=>exact q
 | cont=>exact q
theorem pF (h1:PS X st t):gN X [st] t:=by
 intro pins s σ H D I h
 refine PP (bG (h1 pins s σ H D I h) λf s1 q=>?_)
 cases f with
 | next=>exact Q2 q
 | ret v=>exact q
 | brk=>exact q
 | cont=>exact q
theorem aC.quiet {σ:St} {H:Hp} (I:aC X pins σ H s):interactive X.env=false:=by simp [interactive,I.ok.kind]
def Lm (te:TE):TS:=λD σ H=>te σ H λ_ H1=>D.nx σ H1
theorem Ab (he:PE X e te) (hs:PJ e none pos.line X.env=pure false:=by nofun):PS X (.Expr e pos) (Lm te):=by
 intro pins s σ H D I h
 exact W2 (bG (he pins s σ H _ I h) λv s1 ⟨x,H1,I1,r1,q1⟩=>⟨σ,H1,I1,q1⟩) I.quiet hs
def Ln (te:TE):TS:=λD σ H=>te σ H D.rt
theorem vf (he:PE X e te):PS X (.Return (some e) pos) (Ln te):=by
 intro pins s σ H D I h
 exact VR (bG (he pins s σ H _ I h) λv s1 ⟨x,H1,I1,r1,q1⟩=>⟨x,σ,H1,I1,r1,q1⟩)
def Lo:TS:=λD _ H=>D.rt .non H
theorem Gr:PS X (.Return none pos) Lo:=λ_ _ σ H _ I h=>wpAny_Return_none ⟨.non,σ,H,I,rfl,h⟩
def Lp (c:TT) (t u:TS):TS:=λD σ H=>c σ H λb H1=>if b=true then t D σ H1 else u D σ H1
theorem Iq {c:OP} {a b:List Rf} {tc:TT} (hc:PT X c tc) (ha:gN X a t) (hb:gN X b u):PS X (.If c a b pos) (Lp tc t u):=by
 intro pins s σ H D I h
 refine wpAny_If (bG (hc pins s σ H _ I h) λd s1 ⟨H1,I1,q1⟩=>?_)
 cases d with
 | true=>exact ha pins s1 σ H1 D I1 q1
 | false=>exact hb pins s1 σ H1 D I1 q1
def Jt:TS:=λ_ _ _=>False
theorem Dq:PS X st Jt:=λ_ _ _ _ _ _ h=>h.elim
end
abbrev TG:=V->St->Hp->(St->Hp->Prop)->Prop
abbrev Dr:=List V->St->Hp->(St->Hp->Prop)->Prop
def PG (X:Cx) (target:OP) (t:TG):Prop :=
 ∀(pins:List (Oo×Obj)) (s:Os) (σ:St) (H:Hp) (v:V) (u:Om) (Q:St->Hp->Prop),aC X pins σ H s->aP v u->t v σ H Q ->
  Ov (OE X.prog X.w) X.A (Tj target X.env u) (λ_ s'=>∃σ' H',aC X pins σ' H' s'/\Q σ' H') X.xe s
def Ac (X:Cx) (ts:List OP) (t:Dr):Prop :=
 ∀(pins:List (Oo×Obj)) (s:Os) (σ:St) (H:Hp) (vs:List V) (us:List Om) (Q:St->Hp->Prop),aC X pins σ H s->aO vs us->t vs σ H Q ->
  Ov (OE X.prog X.w) X.A (Vq ((QP ts X.env).map (·.2)) us) (λ_ s'=>∃σ' H',aC X pins σ' H' s'/\Q σ' H') X.xe s
abbrev Nd:=V->V->V->Hp->(Hp->Prop)->Prop
abbrev Lq:=V->V->Hp->VK->Prop
def NY (X:Cx) (op:W3) (t:Lq):Prop :=
 ∀(pins:List (Oo×Obj)) (s:Os) (σ:St) (H:Hp) (x y:V) (v u:Om) (Q:VK),aC X pins σ H s->aP x v->aP y u->t x y H Q ->
  Ov (OE X.prog X.w) X.A (inplaceOp op v u) (EP X pins σ Q) X.xe s
section
variable {X:Cx}
def h8 (i:Nat):TG:=λv σ H Q=>Q (σ.set i (some v)) H
theorem Gs {i:Nat} {x:Str} (hN:X.N.Nodup) (hi:X.N[i]?=some x) (hx:eg X.env.scope x) (hf:X.fn x=true∨X.env.scope.names.lookup x=some .local:=by with_unfolding_all (first | exact .inl rfl | exact .inr rfl | assumption)):PG X (.Name x pos) (h8 i):=by
 intro pins s σ H v u Q I r h
 exact TU (f7 I hN hi hx r (λs' I'=>⟨_,H,I',h⟩) hf)
def Nf:Dr:=λvs σ H Q=>vs=[]/\Q σ H
def Lr (t:TG) (u:Dr):Dr:=λvs σ H Q=>∃v r,vs=v::r/\t v σ H λσ' H'=>u r σ' H' Q
theorem Gu:Ac X [] Nf:=by
 intro pins s σ H vs us Q I r h
 obtain⟨e,h⟩:=h
 subst e
 cases r
 exact VS ⟨σ,H,I,h⟩
theorem Dt {e:OP} {t:TG} {u:Dr} (h1:PG X e t) (h2:Ac X es u)
  (hs:(QP (e::es) X.env).map (·.2)=Tj e X.env::(QP es X.env).map (·.2):=by nofun):Ac X (e::es) (Lr t u):=by
 intro pins s σ H vs us Q I r h
 obtain⟨v,vr,e1,h⟩:=h
 subst e1
 cases r with
 | cons r rr =>
  rw [hs]
  refine Tk (bG (h1 pins s σ H _ _ _ I r h) λ_ s1 ⟨σ1,H1,I1,q1⟩=>?_)
  exact h2 pins s1 σ1 H1 _ _ Q I1 rr q1
def Ng (K:Ou) (n:Nat) (t:Dr):TG:=λv σ H Q=>∃a xs,v=.ref a/\hZ K H a xs/\xs.length=n/\t xs σ H Q
theorem Ju {k:Nat} {t:Dr} {n:Nat} (hc:X.calm=true) (h:Ac X es t)
  (hn:(QP es X.env).length=n:=by nofun) (hst:(QP es X.env).findIdx? (·.1)=none:=by nofun):PG X (.Tuple es k pos) (Ng X.K n t):=by
 intro pins s σ H v u Q I r hw
 obtain⟨a,xs,e1,hq,hl,hw⟩:=hw
 subst e1
 cases r
 obtain⟨its,rv,ht,hz⟩:=I.tuple hq
 refine assign_Tuple_tuple (I.ok.hd hc) ht (by simp [hn,<-hl,rv.length]) hst λh' hx=>?_
 have I1:aC X pins σ H { s with heap:=h' }:=I.kept (t':=s.toks) λb o e=>hx b o (OG (Oy e)) e
 exact h pins _ σ H xs _ Q I1 (by simpa using rv) hw
def Nh (to ti:TE) (t:Nd):TG:=λv σ H Q=>to σ H λo H1=>ti σ H1 λi H2=>t o i v H2 λH3=>Q σ H3
def k6 (te:TE) (g:TG):TS:=λD σ H=>te σ H λx H1=>g x σ H1 D.nx
theorem dz {tg e:OP} {te:TE} {g:TG} (he:PE X e te) (hg:PG X tg g) (hs:XF [tg] e pos.line X.env=pure false:=by nofun) (hw:XG [tg] e X.env=pure none:=by nofun)
  (h1:(QP [tg] X.env).map (·.2)=[Tj tg X.env]:=by nofun):PS X (.Assign [tg] e pos) (k6 te g):=by
 intro pins s σ H D I h
 refine wpAny_Assign_stores (bG (he pins s σ H _ I h) λv s1 ⟨x,H1,I1,r1,q1⟩=>?_) hs hw
 rw [h1]
 exact bG (hg pins s1 σ H1 x v _ I1 r1 q1) λ_ s2 q=>q
theorem iy {i:Nat} {x:Str} {e:OP} {te:TE} {pos':Pos} (hN:X.N.Nodup) (hi:X.N[i]?=some x) (hx:eg X.env.scope x) (he:PE X e te) (hs:PJ e (some (.Name x pos')) pos.line X.env=pure false:=by nofun) (hf:X.fn x=true∨X.env.scope.names.lookup x=some .local:=by with_unfolding_all (first | exact .inl rfl | exact .inr rfl | assumption)) :
  PS X (.Assign [.Name x pos'] e pos) (k6 te (h8 i)):=by
 intro pins s σ H D I h
 refine VT (bG (he pins s σ H _ I h) λv s1 ⟨y,H1,I1,r1,q1⟩=>?_) hs
 exact f7 I1 hN hi hx r1 (λs2 I2=>⟨_,H1,I2,q1⟩) hf
def Ls (i j:Nat) (ta:TA):TS:=λD σ H=>ta σ H λvs H1=>∃v w,vs=[v,w]/\D.nx ((σ.set i (some v)).set j (some w)) H1
theorem Jv {i j:Nat} {x y:Str} {a b:OP} {ta:TA} {px py pt:Pos} {kt k2 pt2} (hc:X.calm=true) (hN:X.N.Nodup) (hi:X.N[i]?=some x) (hj:X.N[j]?=some y) (hij:i≠j)
  (hx:X.env.scope.names.lookup x=some .local) (hy:X.env.scope.names.lookup y=some .local) (ha:PA X [a,b] ta)
  (hw:XG [.Tuple [.Name x px,.Name y py] kt pt] (.Tuple [a,b] k2 pt2) X.env=pure (some [x,y]))
  (hs:XF [.Tuple [.Name x px,.Name y py] kt pt] (.Tuple [a,b] k2 pt2) pos.line X.env=pure false:=by nofun) :
  PS X (.Assign [.Tuple [.Name x px,.Name y py] kt pt] (.Tuple [a,b] k2 pt2) pos) (Ls i j ta):=by
 intro pins s σ H D I h
 rw [exec_Assign_arm]
 refine Ol (P7 ?_)
 rw [hs]
 refine Ol (On ?_)
 rw [if_neg (by decide)]
 refine Ol (Tuple_ (bG (ha _ pins s σ H _ I h) λus s1 ⟨vs,H1,I1,r1,q1⟩=>?_))
 obtain⟨v,w,e1,q1⟩:=q1
 subst e1
 obtain⟨u1,u2,rfl,rv,rw'⟩:∃u1 u2,us=[u1,u2]/\aP v u1/\aP w u2:=by
  cases r1 with
  | cons p q =>
   cases q with
   | cons p' q' =>
    cases q'
    exact⟨_,_,rfl,p,p'⟩
 refine Pc ?_ (by show 2≤OA; decide)
 have I2:aC X pins σ H1 { s1 with heap:=s1.heap.push { cls:=.type "tuple",data:=.seq [u1,u2].toArray } }:=I1.kept (t':=s1.toks) λb o e=>Op _ e
 rw [hw]
 refine Ol (On ?_)
 show Ov (OE X.prog X.w) X.A (do Zi "assign.swapped-stores"; let items <-unpackItems (.ref s1.heap.objs.size) 2 none; Vq [λv=>UN X.env y v,λv=>UN X.env x v] items.reverse; pure ZH) _ _ _
 refine Ol (Tl (Ol (unpackItems_tuple (items:=#[u1,u2]) (I.ok.hd hc) (Wf s1.heap _) λh' hx'=>?_)))
 have I3:=I2.kept (h':=h') (t':=s1.toks) λb o e=>hx' b o (OG (Oy e)) e
 show Ov _ _ (Vq [λv=>UN X.env y v,λv=>UN X.env x v] [u2,u1] >>= λ_=>pure ZH) _ _ _
 refine Ol (Tk (W4 (f7 I3 hN hj (.inl hy) rw' (λs2 I4=>?_) (.inr hy))))
 refine Tk (W4 (f7 I4 hN hi (.inl hx) rv (λs3 I5=>VS (On ?_)) (.inr hx)))
 rw [List.set_comm _ _ (P5 hij)] at I5
 exact⟨_,H1,I5,q1⟩
def Lu (i:Nat) (te:TE) (ti:Lq):TS:=λD σ H=>∃x,σ[i]?=some (some x)/\te σ H λy H1=>ti x y H1 λz H2=>D.nx (σ.set i (some z)) H2
theorem Jw {i:Nat} {x:Str} {e:OP} {te:TE} {op:W3} {ti:Lq} {pos':Pos} (hN:X.N.Nodup) (hi:X.N[i]?=some x) (hx:eg X.env.scope x) (he:PE X e te) (ho:NY X op ti) (hf:X.fn x=true∨X.env.scope.names.lookup x=some .local:=by with_unfolding_all (first | exact .inl rfl | exact .inr rfl | assumption)) :
  PS X (.AugAssign (.Name x pos') op e pos) (Lu i te ti):=by
 intro pins s σ H D I h
 obtain⟨v,e1,h⟩:=h
 obtain⟨m,hn,hl⟩:=I.loc
 have vis:Lf X.env.scope x:=by rcases hx with k | k; exact .inl k; exact .inr (.inl k)
 obtain⟨u,r,l⟩:=hl i x v hi e1 vis
 refine wpAny_AugAssign_Name ?_
 have go:Ov (OE X.prog X.w) X.A (O2 e X.env) (λw s₂=>Ov (OE X.prog X.w) X.A (inplaceOp op u w) (λr s₃=>Ov (OE X.prog X.w) X.A (Wd X.env x r) (λ_=>SP X pins D .next) X.xe s₃) X.xe s₂) X.xe s:=by
  refine bG (he pins s σ H _ I h) λw s1 ⟨y,H1,I1,r1,q1⟩=>?_
  refine bG (ho pins s1 σ H1 v y u w _ I1 r r1 q1) λz s2 ⟨zv,H2,I2,r2,q2⟩=>?_
  exact f7 I2 hN hi hx r2 (λs3 I3=>⟨_,H2,I3,q2⟩) hf
 rcases l with ⟨hk,hm⟩ | ⟨hk,c,hc,hcell⟩
 ·exact SJ I.ok.kind hk hn hm go
 ·rcases hk with hk | hk
  ·exact Vc I.ok.kind hk hc hcell go
  ·rcases hx with k | k
   ·have:X.env.scope.names.lookup x=some .free:=hk
    rw [k] at this; cases this
   ·have:X.env.scope.names.lookup x=some .free:=hk
    rw [k] at this; cases this
def NZ (f:Int->Int->Int):Lq:=λx y H Q=>∃i j,x=.int i/\y=.int j/\Q (.int (f i j)) H
theorem Jx:NY X .Add (NZ λi j=>i+j):=by
 intro pins s σ H x y v u Q I r1 r2 h
 obtain⟨i,j,e1,e2,q⟩:=h
 subst e1; subst e2
 obtain⟨t,rfl⟩:=r1
 obtain⟨t',rfl⟩:=r2
 exact iadd_int ⟨.int _,H,I.tok _,⟨_,rfl⟩,q⟩
end
section
variable {X:Cx}
def Du (c:TT) (tb:TS):TS:=λD σ H=>∃W:Nat->St->Hp->Prop,(∃m,W m σ H)/\∀m σ H,W m σ H ->
 c σ H λb H1=>if b=true then ∃N:St->Hp->Prop,(∀σ' H',N σ' H'->∃m',m' < m/\W m' σ' H')/\tb { D with nx:=N,ct:=N,bk:=D.nx } σ H1 else D.nx σ H1
theorem Dv {c:OP} {body:List Rf} {tc:TT} {tb:TS} (hp:U5 (OE X.prog X.w) X.A X.env X.xe) (hc:PT X c tc) (hb:gN X body tb):PS X (.While c body [] pos) (Du tc tb):=by
 intro pins s σ H D I h
 obtain⟨W,⟨m0,w0⟩,turn⟩:=h
 refine wpAny_While (codeAny_whileLoop (λn s'=>∃σ' H',aC X pins σ' H' s'/\W n σ' H') ?_ m0 ⟨σ,H,I,w0⟩)
 rintro n s1 ⟨σ1,H1,I1,w1⟩
 refine Q3 hp (bG (hc pins s1 σ1 H1 _ I1 (turn n σ1 H1 w1)) λb s2 ⟨H2,I2,q2⟩=>?_)
 cases b with
 | true =>
  obtain⟨N,hN,q2⟩:=q2
  rw [if_pos rfl]
  refine Q3 hp (bG (hb pins s2 σ1 H2 _ I2 q2) λf s3 q3=>?_)
  cases f with
  | next =>
   obtain⟨σ3,H3,I3,n3⟩:=q3
   obtain⟨m',hm,w3⟩:=hN σ3 H3 n3
   exact⟨m',hm,σ3,H3,I3,w3⟩
  | cont =>
   obtain⟨σ3,H3,I3,n3⟩:=q3
   obtain⟨m',hm,w3⟩:=hN σ3 H3 n3
   exact⟨m',hm,σ3,H3,I3,w3⟩
  | brk=>exact q3
  | ret v=>exact q3
 | false =>
  rw [if_neg OK]
  exact Q2 ⟨σ1,H2,I2,q2⟩
end
structure It where
 go:Nat->Hp->Prop
 yld:Nat->Hp->V->Hp->Prop
 stop:Nat->Hp->Prop
def eG (X:Cx) (pins:List (Oo×Obj)) (H:Hp) (b:Oo):Prop :=
 H b=none/\b≠X.env.locals/\b ∉ X.fs/\(b∈X.ex∨X.s₀.heap.objs.size≤b)/\(∀x c,X.env.cells.lookup x=some c->c≠b)/\∀p∈X.pn++pins,p.1≠b
theorem aC.fpOk {X:Cx} {σ:St} {H H':Hp} {b:Oo} (I:aC X pins σ H s) (hb:s.heap.objs.size≤b) (hn:H' b=none):eG X pins H' b:=by
 refine⟨hn,RI (OM I.lt hb),I.nofs hb,.inr (Pi I.sz hb),λx c e z=>?_,λp hp z=>?_⟩
 ·obtain⟨v,q⟩:=I.cell x c e
  exact absurd (OM q.lt (by rw [z]; exact hb)) (Qw _)
 ·exact absurd (OM (Oy (I.pin p hp).1) (by rw [z]; exact hb)) (Qw _)
structure wM (P:OZ) (w:Pl) (K:Ou) (tg:OP) (J:It) (fp:List Oo) (it:Oo) (tn:Nat->O9->Prop):Prop where
 mem:it∈fp
 obj:∀i h,tn i h->∀b∈fp,∃o,h.get? b=some o/\∀v,o.data≠.cell v
 keep:∀i h h',tn i h->(∀b∈fp,∀o,h.get? b=some o->h'.get? b=some o)->tn i h'
 item:∀(X:Cx),X.prog=P->X.w=w->X.K=K->X.calm=true->∀(i:Nat) (pins:List (Oo×Obj)) (s:Os) (σ:St) (H:Hp) (E:Om->Os->Prop),aC X pins σ H s->(∀b∈fp,eG X pins H b)->tn i s.heap->J.go i H ->
  Ov (OE P w) X.A (Tn (.ref it)) (λr s1=>∃u,r=some u /\
   Ov (OE P w) X.A (Uw tg (.ref it) u) (λ_ s2=>∃x H',aC X pins σ H' s2/\aP x u/\J.yld i H x H'/\tn (i+1) s2.heap/\∀b∈fp,H' b=none) E s1) E s
 done:∀(X:Cx),X.prog=P->X.w=w->X.K=K->X.calm=true->∀(i:Nat) (pins:List (Oo×Obj)) (s:Os) (σ:St) (H:Hp) (E:Om->Os->Prop),aC X pins σ H s->(∀b∈fp,eG X pins H b)->tn i s.heap->J.stop i H ->
  Ov (OE P w) X.A (Tn (.ref it)) (λr s1=>r=none/\aC X pins σ H s1) E s
 self:∀(A:P6) (i:Nat) (s:Os) (Q:Om->Os->Prop) (E:Om->Os->Prop),tn i s.heap->Q (.ref it) s->Ov (OE P w) A (Wg (.ref it)) Q E s
abbrev TI:=St->Hp->(It->Hp->Prop)->Prop
def N0 (X:Cx) (pins:List (Oo×Obj)) (σ:St) (tg:OP) (R:It->Hp->Prop) (itv:Om) (s2:Os):Prop :=
 ∃(it:Oo) (fp:List Oo) (tn:Nat->O9->Prop) (J:It) (H':Hp),itv=.ref it/\aC X pins σ H' s2/\wM X.prog X.w X.K tg J fp it tn/\tn 0 s2.heap/\(∀b∈fp,eG X pins H' b)/\R J H'
def PI (X:Cx) (tg iter:OP) (wi:TI):Prop :=
 ∀(pins:List (Oo×Obj)) (s:Os) (σ:St) (H:Hp) (R:It->Hp->Prop),aC X pins σ H s->wi σ H R ->
  Ov (OE X.prog X.w) X.A (O2 iter X.env) (λv s1=>Ov (OE X.prog X.w) X.A (Wg v) (N0 X pins σ tg R) X.xe s1) X.xe s

theorem Ad {M:W0} {tg:OP} {it:Oo} {u:Om} {o:Obj} {n:String} {vs:Array Om} {Q:Unit->Os->Prop} (ho:s.heap.get? it=some o) (hc:o.cls=.type n) (hd:o.data=.fields vs)
    (hn:["enumerate","zip","dict_itemiterator","dict_reverseitemiterator","odict_iterator","itertools.zip_longest","itertools.pairwise"].contains n=false) (hQ:Q () s):Ov M A (Uw tg (.ref it) u) Q E s:=by
  unfold Uw
  cases tg<;>first
    | exact On hQ
    | (cases u<;>first
        | exact On hQ
        | (refine Ol (wpAny_load ho ?_)
           rw [hc,hd]
           show Ov M A (if (["enumerate","zip","dict_itemiterator","dict_reverseitemiterator","odict_iterator","itertools.zip_longest","itertools.pairwise"].contains n && vs[0]? == some (To _))=true then _ else _) Q E s
           rw [if_neg (by intro h; rw [hn,Bool.false_and] at h; cases h)]
           exact On hQ))

def N1 (K:Ou) (a:Oo):It :=
 ⟨λi H=>∃xs x,hW K H a xs/\xs[i]?=some x,λi H x H'=>H'=H/\∀xs,hW K H a xs->xs[i]?=some x,λi H=>∃xs,hW K H a xs/\xs.length≤i⟩
def N2 (K:Ou) (a:Oo):It :=
 ⟨λi H=>∃xs x,hZ K H a xs/\xs[i]?=some x,λi H x H'=>H'=H/\∀xs,hZ K H a xs->xs[i]?=some x,λi H=>∃xs,hZ K H a xs/\xs.length≤i⟩
def Lv (lo:Int) (n:Nat):It:=⟨λi _=>i < n,λi H x H'=>H'=H/\x=.int (lo+i),λi _=>n≤i⟩
theorem Bx {tg:OP} (a it:Oo):wM P w K tg (N1 K a) [it] it (λi h=>h.IsListIter it a i) where
 mem:=by simp
 obj:=λi h st b hb=>by
  have e:b=it:=by simpa using hb
  subst e
  obtain⟨o,e,c,d⟩:=st
  exact⟨o,e,λv z=>by rw [d] at z; cases z⟩
 keep:=λi h h' st k=>st.at λo e=>k it (by simp) o e
 item:=by
  intro X hP hw hK hc i pins s σ H E I hf st hg
  subst hP hw hK
  obtain⟨xs,x,hq,hx⟩:=hg
  obtain⟨its,rv,p,hz⟩:=I.list hq
  obtain⟨u,hu,ru⟩:=rv.get hx
  obtain⟨f0,f1,f2,f3,f4,f5⟩:=hf it (by simp)
  refine wpAny_pyNext_list_item st p.isList (x:=u) (by simpa using hu) λh' st' sb=>?_
  have I1:aC X pins σ H { s with heap:=h' }:=I.turned (t':=s.toks) (λb o hb e=>(sb.2 b hb).trans e) f0 f1 f3 f4 f5
  obtain⟨o,e,c,d⟩:=id st'
  exact⟨u,rfl,Ad (s:={ s with heap:=h' }) e c d (by decide) ⟨x,H,I1,ru,⟨rfl,λys hy=>by rw [I.list_inj hy hq]; exact hx⟩,st',λb hb=>(hf b hb).1⟩⟩
 done:=by
  intro X hP hw hK hc i pins s σ H E I hf st hg
  subst hP hw hK
  obtain⟨xs,hq,hx⟩:=hg
  obtain⟨its,rv,p,hz⟩:=I.list hq
  obtain⟨f0,f1,f2,f3,f4,f5⟩:=hf it (by simp)
  have hl:=rv.length
  exact wpAny_pyNext_list_end (I.ok.hd hc) st p.isList (by simp; omega) λh' eb=>⟨rfl,I.turned (t':=s.toks) (λb o hb e=>eb b o hb e) f0 f1 f3 f4 f5⟩
 self:=λ_ _ _ _ _ st h=>wpAny_pyIter_listiter st h
theorem yE {tg:OP} (a it:Oo):wM P w K tg (N2 K a) [it] it (λi h=>h.IsTupleIter it a i) where
 mem:=by simp
 obj:=λi h st b hb=>by
  have e:b=it:=by simpa using hb
  subst e
  obtain⟨o,e,c,d⟩:=st
  exact⟨o,e,λv z=>by rw [d] at z; cases z⟩
 keep:=λi h h' st k=>st.at λo e=>k it (by simp) o e
 item:=by
  intro X hP hw hK hc i pins s σ H E I hf st hg
  subst hP hw hK
  obtain⟨xs,x,hq,hx⟩:=hg
  obtain⟨its,rv,p,hz⟩:=I.tuple hq
  obtain⟨u,hu,ru⟩:=rv.get hx
  obtain⟨f0,f1,f2,f3,f4,f5⟩:=hf it (by simp)
  refine wpAny_pyNext_tuple_item st (show s.heap.IsTuple a its.toArray from p) (x:=u) (by simpa using hu) λh' st' sb=>?_
  have I1:aC X pins σ H { s with heap:=h' }:=I.turned (t':=s.toks) (λb o hb e=>(sb.2 b hb).trans e) f0 f1 f3 f4 f5
  obtain⟨o,e,c,d⟩:=id st'
  exact⟨u,rfl,Ad (s:={ s with heap:=h' }) e c d (by decide) ⟨x,H,I1,ru,⟨rfl,λys hy=>by rw [I.tuple_inj hy hq]; exact hx⟩,st',λb hb=>(hf b hb).1⟩⟩
 done:=by
  intro X hP hw hK hc i pins s σ H E I hf st hg
  subst hP hw hK
  obtain⟨xs,hq,hx⟩:=hg
  obtain⟨its,rv,p,hz⟩:=I.tuple hq
  obtain⟨f0,f1,f2,f3,f4,f5⟩:=hf it (by simp)
  have hl:=rv.length
  exact wpAny_pyNext_tuple_end (I.ok.hd hc) st (show s.heap.IsTuple a its.toArray from p) (by simp; omega) λh' eb=>⟨rfl,I.turned (t':=s.toks) (λb o hb e=>eb b o hb e) f0 f1 f3 f4 f5⟩
 self:=λ_ _ _ _ _ st h=>wpAny_pyIter_tupleiter st h
theorem yF {tg:OP} (it:Oo) (lo:Int) (n:Nat):wM P w K tg (Lv lo n) [it] it (λi h=>IsRangeIter h it (lo+(i:Nat) * 1) ((n:Int) - (i:Nat)) 1) where
 mem:=by simp
 obj:=λi h st b hb=>by
  have e:b=it:=by simpa using hb
  subst e
  exact⟨_,st,λv z=>by
   have z':Data.fields _=Data.cell v:=z
   cases z'⟩
 keep:=λi h h' st k=>k it (by simp) _ st
 item:=by
  intro X hP hw hK hc i pins s σ H E I hf st hg
  subst hP hw hK
  obtain⟨f0,f1,f2,f3,f4,f5⟩:=hf it (by simp)
  have W:=Walks.range (prog:=X.prog) (w:=X.w) (I.ok.hd hc) it lo 1 n
  refine W.item i s _ _ hg st λv h' tk hv st' kk=>?_
  obtain⟨t,rfl⟩:=hv
  have I1:aC X pins σ H { s with heap:=h',toks:=tk }:=I.turned (λb o hb e=>kk b o (by simpa using hb) e) f0 f1 f3 f4 f5
  refine⟨_,rfl,Ad (s:={ s with heap:=h',toks:=tk }) (n:="range_iterator") st' rfl rfl (by decide) ⟨.int (lo+i),H,I1,⟨t,?_⟩,⟨rfl,rfl⟩,st',λb hb=>(hf b hb).1⟩⟩
  rw [Int.mul_one]
 done:=by
  intro X hP hw hK hc i pins s σ H E I hf st hg
  subst hP hw hK
  obtain⟨f0,f1,f2,f3,f4,f5⟩:=hf it (by simp)
  exact wpAny_pyNext_range_end (I.ok.hd hc) st (by have:n≤i:=hg; omega) λh' eb=>⟨rfl,I.turned (t':=s.toks) (λb o hb e=>eb b o hb e) f0 f1 f3 f4 f5⟩
 self:=λ_ _ _ _ _ st h=>wpAny_pyIter_rangeiter st h
section
variable {X:Cx} {tg:OP}
def Ir (K:Ou) (tl:TE):TI:=λσ H R=>tl σ H λx H1=>∃a,x=.ref a/\(∃xs,hW K H1 a xs)/\R (N1 K a) H1
def Lw (K:Ou) (tl:TE):TI:=λσ H R=>tl σ H λx H1=>∃a,x=.ref a/\(∃xs,hZ K H1 a xs)/\R (N2 K a) H1
theorem dv {l:OP} {tl:TE} (hl:PE X l tl):PI X tg l (Ir X.K tl):=by
 intro pins s σ H R I h
 refine bG (hl pins s σ H _ I h) λv s1 ⟨x,H1,I1,r1,q1⟩=>?_
 obtain⟨a,e,⟨xs,hq⟩,q⟩:=q1
 subst e
 cases r1
 obtain⟨its,rv,p,hz⟩:=I1.list hq
 refine TV p.isList ?_
 refine⟨s1.heap.objs.size,[s1.heap.objs.size],_,_,H1,rfl,I1.kept (t':=s1.toks) λb o e=>Op _ e,Bx a _,⟨_,Ox _ rfl,rfl,rfl⟩,λb hb=>?_,q⟩
 have e:b=s1.heap.objs.size:=by simpa using hb
 subst e
 exact I1.fpOk (OB _) (I1.hok.fresh (OB _))
theorem cZ {l:OP} {tl:TE} (hl:PE X l tl):PI X tg l (Lw X.K tl):=by
 intro pins s σ H R I h
 refine bG (hl pins s σ H _ I h) λv s1 ⟨x,H1,I1,r1,q1⟩=>?_
 obtain⟨a,e,⟨xs,hq⟩,q⟩:=q1
 subst e
 cases r1
 obtain⟨its,rv,p,hz⟩:=I1.tuple hq
 refine VE (show s1.heap.IsTuple a its.toArray from p) ?_
 refine⟨s1.heap.objs.size,[s1.heap.objs.size],_,_,H1,rfl,I1.kept (t':=s1.toks) λb o e=>Op _ e,yE a _,⟨_,Ox _ rfl,rfl,rfl⟩,λb hb=>?_,q⟩
 have e:b=s1.heap.objs.size:=by simpa using hb
 subst e
 exact I1.fpOk (OB _) (I1.hok.fresh (OB _))
theorem wN {σ:St} {H:Hp} {R:It->Hp->Prop} {lo hi:Int} {t u v:Tok} {tk:Nat} (I:aC X pins σ H s) (h1:-(2 ^ 62)≤lo) (h2:lo < 2 ^ 62) (h3:-(2 ^ 62)≤hi) (h4:hi < 2 ^ 62)
  (q:R (Lv lo (hi - lo).toNat) H):Ov (OE X.prog X.w) X.A (Wg (.ref s.heap.objs.size)) (N0 X pins σ tg R) E { s with heap:=s.heap.push { cls:=.type "range",data:=.fields #[.int lo t,.int hi u,.int 1 v] },toks:=tk }:=by
 refine wpAny_pyIter_range (IsRange.new ..) (small_one h1 h2 h3 h4) ?_
 have I1:aC X pins σ H { s with heap:=s.heap.push { cls:=.type "range",data:=.fields #[.int lo t,.int hi u,.int 1 v] },toks:=tk }:=I.kept λb o e=>Op _ e
 refine⟨(s.heap.push { cls:=.type "range",data:=.fields #[.int lo t,.int hi u,.int 1 v] }).objs.size,[(s.heap.push { cls:=.type "range",data:=.fields #[.int lo t,.int hi u,.int 1 v] }).objs.size],_,_,H,rfl,
  I1.kept (t':=tk) λb o e=>Op _ e,yF _ lo (hi - lo).toNat,?_,λb hb=>?_,q⟩
 ·have e1:lo+((0:Nat):Int) * 1=lo:=by simp
  have e2:(((hi - lo).toNat:Nat):Int) - ((0:Nat):Int)=X7 lo hi 1:=by rw [rangeSize_one]; split<;>omega
  show IsRangeIter _ _ (lo+((0:Nat):Int) * 1) ((((hi - lo).toNat:Nat):Int) - ((0:Nat):Int)) 1
  rw [e1,e2]
  exact Ox _ rfl
 ·have e:b=(s.heap.push { cls:=.type "range",data:=.fields #[.int lo t,.int hi u,.int 1 v] }).objs.size:=by simpa using hb
  subst e
  exact I1.fpOk (OB _) (I1.hok.fresh (OB _))
def Iu (ta:TA):TI:=λσ H R=>ta σ H λvs H1=>∃j:Int,vs=[.int j] /\ -(2 ^ 62)≤j/\j < 2 ^ 62/\R (Lv 0 j.toNat) H1
def Iv (ta:TA):TI:=λσ H R=>ta σ H λvs H1=>∃i j:Int,vs=[.int i,.int j]/\(-(2 ^ 62)≤i/\i < 2 ^ 62 /\ -(2 ^ 62)≤j/\j < 2 ^ 62)/\R (Lv i (j - i).toNat) H1
theorem ud {a:OP} {ta:TA} {p pos:Pos} (hg:Gl X "range") (hm:X.mg "range" = none) (ha:PA X [a] ta) (hs:OQ [a] X.env=[(false,O2 a X.env)]:=by nofun):PI X tg (.Call (.Name "range" p) [a] [] pos) (Iu ta):=by
 intro pins s σ H R I h
 refine Call_ (iw I hg hm boot_range (RA (bG (ha pos pins s σ H _ I h) λus s1 ⟨vs,H1,I1,r1,q1⟩=>?_) hs rfl))
 obtain⟨j,e,q1,q2,q⟩:=q1
 subst e
 cases r1 with
 | cons r rr =>
  cases rr
  obtain⟨t,rfl⟩:=r
  exact call_range_1 (wN I1 (by omega) (by omega) q1 q2 (by simpa using q))
theorem ue {a b:OP} {ta:TA} {p pos:Pos} (hg:Gl X "range") (hm:X.mg "range" = none) (ha:PA X [a,b] ta) (hs:OQ [a,b] X.env=[(false,O2 a X.env),(false,O2 b X.env)]:=by nofun) (hs2:OQ [b] X.env=[(false,O2 b X.env)]:=by nofun) :
  PI X tg (.Call (.Name "range" p) [a,b] [] pos) (Iv ta):=by
 intro pins s σ H R I h
 refine Call_ (iw I hg hm boot_range (RA (bG (ha pos pins s σ H _ I h) λus s1 ⟨vs,H1,I1,r1,q1⟩=>?_) (by rw [hs,hs2]) (by rw [hs2]; rfl)))
 obtain⟨i,j,e,⟨q1,q2,q3,q4⟩,q⟩:=q1
 subst e
 cases r1 with
 | cons r rr =>
  cases rr with
  | cons r' rr =>
   cases rr
   obtain⟨t,rfl⟩:=r
   obtain⟨t',rfl⟩:=r'
   exact call_range_2 (wN I1 q1 q2 q3 q4 q)

def Lx (wi:TI) (g:TG) (tb:TS):TS:=λD σ H=>wi σ H λJ H1=>∃W:Nat->Nat->St->Hp->Prop,(∃m,W 0 m σ H1)/\∀i m σ H,W i m σ H ->
 (J.stop i H/\D.nx σ H)∨(J.go i H/\∃N:St->Hp->Prop,(∀σ' H',N σ' H'->∃m',m' < m/\W (i+1) m' σ' H')/\∀x H',J.yld i H x H'->g x σ H' λσ2 H2=>tb { D with nx:=N,ct:=N,bk:=D.nx } σ2 H2)
def m5 (fp:List Oo) (h:O9):List (Oo×Obj):=fp.filterMap λb=>(h.get? b).map λo=>(b,o)
theorem eJ {fp:List Oo} {h:O9} {b:Oo} {o:Obj} (hb:b∈fp) (e:h.get? b=some o):(b,o)∈m5 fp h:=Tp.mpr ⟨b,hb,by rw [e]; rfl⟩
theorem By {fp:List Oo} {h:O9} {p:Oo×Obj} (hp:p∈m5 fp h):p.1∈fp/\h.get? p.1=some p.2:=by
 obtain⟨b,hb,e⟩:=Tp.mp hp
 cases q:h.get? b with
 | none=>rw [q] at e; cases e
 | some o =>
  rw [q] at e
  have e':(b,o)=p:=OU e
  subst e'
  exact⟨hb,q⟩
theorem aC.pinned {σ:St} {H:Hp} {fp:List Oo} (I:aC X pins σ H s) (hf:∀b∈fp,eG X pins H b) (ho:∀b∈fp,∃o,s.heap.get? b=some o/\∀v,o.data≠.cell v):aC X (pins++m5 fp s.heap) σ H s :=
 I.pins_of λp hp=>(Pv.mp hp).elim (λz=>I.pin p (OC _ z)) λz=>by
  obtain⟨hb,e⟩:=By z
  obtain⟨f0,f1,f2,_⟩:=hf p.1 hb
  obtain⟨o,e',d⟩:=ho p.1 hb
  rw [e] at e'; cases e'
  exact⟨e,f0,f1,f2,d⟩
theorem aC.unpinned {pins pl:List (Oo×Obj)} {σ:St} {H:Hp} (I:aC X (pins++pl) σ H s):aC X pins σ H s:=I.pins_of λp hp=>I.pin p (OC _ (Q8 _ hp))
theorem Dw {iter:OP} {body:List Rf} {wi:TI} {g:TG} {tb:TS} (hp:U5 (OE X.prog X.w) X.A X.env X.xe) (hc:X.calm=true) (hi:PI X tg iter wi) (hg:PG X tg g) (hb:gN X body tb)
  (hs:∀x,Qz iter X.env x=pure x:=by with_unfolding_all (intro _; rfl)):PS X (.For tg iter body [] pos) (Lx wi g tb):=by
 intro pins s σ H D I h
 refine wpAny_For (bG (hi pins s σ H _ I h) λv s1 h1=>bG h1 λitv s2 h2=>?_) hs
 obtain⟨it,fp,tn,J,H2,e,I2,T,st2,f2,W,⟨m0,w0⟩,turn⟩:=h2
 subst e
 -- what stays true of the iterator's objects through the loop
 have stat:∀{H':Hp},(∀b∈fp,H' b=none)->∀b∈fp,eG X pins H' b:=λhn b hb=>⟨hn b hb,(f2 b hb).2⟩
 refine codeAny_forLoop_any (λn s'=>∃i σ' H',aC X pins σ' H' s'/\tn i s'.heap/\(∀b∈fp,H' b=none)/\W i n σ' H') ?_ m0 ⟨0,σ,H2,I2,st2,λb hb=>(f2 b hb).1,w0⟩
 rintro n s3 ⟨i,σ3,H3,I3,st3,fr3,w3⟩
 rcases turn i n σ3 H3 w3 with ⟨stop,qn⟩ | ⟨go,N,hN,step⟩
 ·refine Q3 hp (bG (T.done X rfl rfl rfl hc i pins s3 σ3 H3 X.xe I3 (stat fr3) st3 stop) λr s4 ⟨hr,I4⟩=>?_)
  subst hr
  exact Q2 ⟨σ3,H3,I4,qn⟩
 ·refine Q3 hp (bG (T.item X rfl rfl rfl hc i pins s3 σ3 H3 X.xe I3 (stat fr3) st3 go) λr s4 ⟨u,hr,h4⟩=>?_)
  subst hr
  refine Q3 hp (bG h4 λ_ s5 ⟨x,H5,I5,r5,y5,st5,fr5⟩=>?_)
  have I5':=I5.pinned (stat fr5) (T.obj _ _ st5)
  refine Q3 hp (bG (hg _ s5 σ3 H5 x u _ I5' r5 (step x H5 y5)) λ_ s6 ⟨σ6,H6,I6,q6⟩=>?_)
  refine Q3 hp (bG (hb _ s6 σ6 H6 _ I6 q6) λf s7 q7=>?_)
  have again:∀{σ7:St} {H7:Hp},aC X (pins++m5 fp s5.heap) σ7 H7 s7->N σ7 H7->∃m,m < n/\∃i σ' H',aC X pins σ' H' s7/\tn i s7.heap/\(∀b∈fp,H' b=none)/\W i m σ' H':=λ{σ7 H7} I7 n7=>by
   obtain⟨m',hm,w7⟩:=hN σ7 H7 n7
   refine⟨m',hm,i+1,σ7,H7,I7.unpinned,T.keep _ _ _ st5 λb hb o e=>(I7.pin (b,o) (OC _ (OC _ (eJ hb e)))).1,λb hb=>?_,w7⟩
   obtain⟨o,e,d⟩:=T.obj _ _ st5 b hb
   exact (I7.pin (b,o) (OC _ (OC _ (eJ hb e)))).2.1
  cases f with
  | next=>obtain⟨σ7,H7,I7,n7⟩:=q7; exact again I7 n7
  | cont=>obtain⟨σ7,H7,I7,n7⟩:=q7; exact again I7 n7
  | brk=>obtain⟨σ7,H7,I7,q7⟩:=q7; exact⟨σ7,H7,I7.unpinned,q7⟩
  | ret v=>obtain⟨x7,σ7,H7,I7,r7,q7⟩:=q7; exact⟨x7,σ7,H7,I7.unpinned,r7,q7⟩
end
abbrev R2:=V->V->Hp->VK->Prop
def lO (X:Cx) (f:Om->Om->Sem Om) (r:R2):Prop :=
 ∀(pins:List (Oo×Obj)) (s:Os) (σ:St) (H:Hp) (x y:V) (v u:Om) (Q:VK),aC X pins σ H s->aP x v->aP y u->r x y H Q ->
  Ov (OE X.prog X.w) X.A (f v u) (EP X pins σ Q) X.xe s
def dI (X:Cx) (f:Om) (r:List V->Hp->VK->Prop):Prop :=
 ∀(pins:List (Oo×Obj)) (s:Os) (σ:St) (H:Hp) (xs:List V) (us:List Om) (Q:VK),aC X pins σ H s->aO xs us->r xs H Q ->
  Ov (OE X.prog X.w) X.A (call f us) (EP X pins σ Q) X.xe s
def Ly (X:Cx) (r:V->Hp->(Bool->Hp->Prop)->Prop):Prop :=
 ∀(pins:List (Oo×Obj)) (s:Os) (σ:St) (H:Hp) (x:V) (v:Om) (Q:Bool->Hp->Prop),aC X pins σ H s->aP x v->r x H Q ->
  Ov (OE X.prog X.w) X.A (Ye v) (TP X pins σ Q) X.xe s

def Jy (r:R2) (ta tb:TE):TE:=λσ H Q=>ta σ H λx H1=>tb σ H1 λy H2=>r x y H2 Q
def rI (C:Int->Int->Prop) (g:Int->Int->V):R2:=λx y H Q=>∃i j,x=.int i/\y=.int j/\C i j/\Q (g i j) H
def Ae (g:Int->Int->V):R2:=λx y H Q=>∃i j,x=.int i/\y=.int j/\Q (g i j) H
section
variable {X:Cx} {a b c:OP} {ta tb tc:TE}
theorem Jz (ha:PE X a ta) (hb:PE X b tb) {σ:St} {H:Hp} {R:V->V->Hp->Prop} (I:aC X pins σ H s)
  (h:ta σ H λx H1=>tb σ H1 λy H2=>R x y H2) {Q:Om->Os->Prop} {f:Om->Om->Sem Om}
  (hf:∀v u s2 x y H2,aC X pins σ H2 s2->aP x v->aP y u->R x y H2->Ov (OE X.prog X.w) X.A (f v u) Q X.xe s2) :
  Ov (OE X.prog X.w) X.A (O2 a X.env) (λv s₁=>Ov (OE X.prog X.w) X.A (O2 b X.env) (λu s₂=>Ov (OE X.prog X.w) X.A (f v u) Q X.xe s₂) X.xe s₁) X.xe s:=by
 refine bG (ha pins s σ H _ I h) λv s1 ⟨x,H1,I1,r1,q1⟩=>?_
 refine bG (hb pins s1 σ H1 _ I1 q1) λu s2 ⟨y,H2,I2,r2,q2⟩=>?_
 exact hf v u s2 x y H2 I2 r1 r2 q2

theorem fo {op:W3} {r:R2} (ho:lO X (RE op) r) (ha:PE X a ta) (hb:PE X b tb):PE X (.BinOp a op b pos) (Jy r ta tb):=by
 intro pins s σ H Q I h
 exact wpAny_BinOp (Jz ha hb I h λv u s2 x y H2 I2 rx ry q=>ho pins s2 σ H2 x y v u Q I2 rx ry q)
theorem MU {f:Om->Om->Sem Om} {C:Int->Int->Prop} {g:Int->Int->Int}
  (Zi:∀(i j:Int) (t u:Tok) (s:Os) (Q:Om->Os->Prop) (E:Om->Os->Prop),C i j->Q (.int (g i j) s.toks) { s with toks:=s.toks+1 }->Ov (OE X.prog X.w) X.A (f (.int i t) (.int j u)) Q E s) :
  lO X f (rI C λi j=>.int (g i j)):=by
 intro pins s σ H x y v u Q I rx ry h
 obtain⟨i,j,rfl,rfl,hc,q⟩:=h
 obtain⟨t,rfl⟩:=rx
 obtain⟨t',rfl⟩:=ry
 exact Zi i j t t' s _ _ hc ⟨.int (g i j),H,I.tok _,⟨_,rfl⟩,q⟩
theorem Lz {f:Om->Om->Sem Om} {g:Int->Int->Int}
  (Zi:∀(i j:Int) (t u:Tok) (s:Os) (Q:Om->Os->Prop) (E:Om->Os->Prop),Q (.int (g i j) s.toks) { s with toks:=s.toks+1 }->Ov (OE X.prog X.w) X.A (f (.int i t) (.int j u)) Q E s) :
  lO X f (Ae λi j=>.int (g i j)):=by
 intro pins s σ H x y v u Q I rx ry h
 obtain⟨i,j,rfl,rfl,q⟩:=h
 obtain⟨t,rfl⟩:=rx
 obtain⟨t',rfl⟩:=ry
 exact Zi i j t t' s _ _ ⟨.int (g i j),H,I.tok _,⟨_,rfl⟩,q⟩
theorem JA {f:Om->Om->Sem Om} {g:Int->Int->Bool}
  (Zi:∀(i j:Int) (t u:Tok) (s:Os) (Q:Om->Os->Prop) (E:Om->Os->Prop),Q (.bool (g i j)) s->Ov (OE X.prog X.w) X.A (f (.int i t) (.int j u)) Q E s) :
  lO X f (Ae λi j=>.bl (g i j)):=by
 intro pins s σ H x y v u Q I rx ry h
 obtain⟨i,j,rfl,rfl,q⟩:=h
 obtain⟨t,rfl⟩:=rx
 obtain⟨t',rfl⟩:=ry
 exact Zi i j t t' s _ _ ⟨.bl (g i j),H,I,rfl,q⟩

def Ni (i j:Int):Prop:=0 < j/\j < 1073741824
def Nj (i j:Int):Prop:=0≤j/\j≤1000000/\i.natAbs < 2 ^ 64
def JB (i j:Int):Prop:=(-(2 ^ 64) < i/\i < 2 ^ 64)∨(-(2 ^ 64) < j/\j < 2 ^ 64)
theorem JB.ok {i j:Int} (h:JB i j):IntMulOk i j:=by
 rcases h with ⟨h1,h2⟩ | ⟨h1,h2⟩
 ·exact .of_left (XH h1 h2)
 ·exact .of_right (XH h1 h2)
theorem fI:lO X (RE .Add) (Ae λi j=>.int (i+j)):=Lz λ_ _ _ _ _ _ _ q=>add_int q
theorem Dx:lO X (RE .Sub) (Ae λi j=>.int (i - j)):=Lz λ_ _ _ _ _ _ _ q=>sub_int q
theorem Dy:lO X (RE .Mult) (rI JB λi j=>.int (i * j)):=MU λ_ _ _ _ _ _ _ hc q=>mul_int q hc.ok
theorem vg:lO X (RE .FloorDiv) (rI Ni λi j=>.int (i / j)):=MU λi j _ _ _ _ _ hc q=>by
 have h1:(0:Int) < j:=hc.1
 have h2:j < 1073741824:=hc.2
 exact floordiv_int (by omega) (by rw [Int.fdiv_eq_ediv_of_nonneg i (by omega)]; exact q) (.inl (PyProof.noPylong_small (by omega)))
theorem m7:lO X (RE .Mod) (rI (λ_ j=>0 < j) λi j=>.int (i % j)):=MU λi j _ _ _ _ _ hc q=>by
 have h1:(0:Int) < j:=hc
 exact mod_int' (by omega) (by rw [Int.fmod_eq_emod_of_nonneg i (by omega)]; exact q)
theorem Dz:lO X (RE .Pow) (rI Nj λi j=>.int (i ^ j.toNat)):=MU λ_ _ _ _ _ _ _ hc q=>pow_int_small hc.1 hc.2.1 hc.2.2 q
end
def DA:V->V->Bool
 | .non,.non=>true | .non,.int _=>true | .int _,.non=>true | .non,.bl _=>true | .bl _,.non=>true | .non,.str _=>true | .str _,.non=>true
 | .int _,.int _=>true | .bl _,.bl _=>true | .str _,.str _=>true | .byt _,.byt _=>true
 | .int _,.str _=>true | .str _,.int _=>true | .bl _,.str _=>true | .str _,.bl _=>true
 | _,_=>false
def N3:R2:=λx y H Q=>DA x y=true/\Q (.bl (decide (x=y))) H
def N4:R2:=λx y H Q=>DA x y=true/\Q (.bl (!decide (x=y))) H

theorem Af {i j:Int}:decide (V.int i=V.int j)=(i == j):=by
 rw [SS]
 simp
theorem DB {i j:Bool}:decide (V.bl i=V.bl j)=(i == j):=by
 rw [SS]
 simp
theorem Ag {i j:Str}:decide (V.str i=V.str j)=(i == j):=by
 rw [SS]
 simp
theorem Ah {i j:Array UInt8}:decide (V.byt i=V.byt j)=(i.toList == j.toList):=by
 rw [SS]
 cases i
 cases j
 simp

section
variable {X:Cx} {a b c:OP} {ta tb tc:TE}
theorem bN {σ:St} {H:Hp} {Q:VK} {k k':Bool} (I:aC X pins σ H s) (q:Q (.bl k) H) (e:k=k'):EP X pins σ Q (.bool k') s:=by
 subst e
 exact⟨.bl k,H,I,rfl,q⟩
theorem f8:lO X (P3 .Eq) N3:=by
 intro pins s σ H x y v u Q I rx ry h
 obtain⟨hs,q⟩:=h
 cases x with
 | non =>
  cases rx
  cases y with
  | non=>cases ry; exact Xq (bN I q (by simp))
  | bl j=>cases ry; exact Xr (bN I q (by simp))
  | int j=>obtain⟨t',rfl⟩:=ry; exact XI (bN I q (by simp))
  | str j=>obtain⟨t',rfl⟩:=ry; exact XJ (bN I q (by simp))
  | _=>exact absurd (show false=true from hs) OK
 | bl i =>
  cases rx
  cases y with
  | non=>cases ry; exact Xs (bN I q (by simp))
  | bl j=>cases ry; exact eq_bool (bN I q DB)
  | str j=>obtain⟨t',rfl⟩:=ry; exact Xu (bN I q (by simp))
  | _=>exact absurd (show false=true from hs) OK
 | int i =>
  obtain⟨t,rfl⟩:=rx
  cases y with
  | non=>cases ry; exact XM (bN I q (by simp))
  | int j=>obtain⟨t',rfl⟩:=ry; exact eq_int (bN I q Af)
  | str j=>obtain⟨t',rfl⟩:=ry; exact XN (bN I q (by simp))
  | _=>exact absurd (show false=true from hs) OK
 | str i =>
  obtain⟨t,rfl⟩:=rx
  cases y with
  | non=>cases ry; exact XO (bN I q (by simp))
  | bl j=>cases ry; exact Xv (bN I q (by simp))
  | int j=>obtain⟨t',rfl⟩:=ry; exact XQ (bN I q (by simp))
  | str j=>obtain⟨t',rfl⟩:=ry; exact eq_str (bN I q Ag)
  | _=>exact absurd (show false=true from hs) OK
 | byt i =>
  obtain⟨t,rfl⟩:=rx
  cases y with
  | byt j=>obtain⟨t',rfl⟩:=ry; exact PySem.W.eq_bytes (bN I q Ah)
  | _=>exact absurd (show false=true from hs) OK
 | _=>cases y<;>exact absurd (show false=true from hs) OK
theorem pZ:lO X (P3 .NotEq) N4:=by
 intro pins s σ H x y v u Q I rx ry h
 obtain⟨hs,q⟩:=h
 cases x with
 | non =>
  cases rx
  cases y with
  | non=>cases ry; exact Xw (bN I q (by simp))
  | bl j=>cases ry; exact Xx (bN I q (by simp))
  | int j=>obtain⟨t',rfl⟩:=ry; exact XR (bN I q (by simp))
  | str j=>obtain⟨t',rfl⟩:=ry; exact XS (bN I q (by simp))
  | _=>exact absurd (show false=true from hs) OK
 | bl i =>
  cases rx
  cases y with
  | non=>cases ry; exact Xy (bN I q (by simp))
  | bl j=>cases ry; exact ne_bool (bN I q (congrArg not DB))
  | str j=>obtain⟨t',rfl⟩:=ry; exact Xz (bN I q (by simp))
  | _=>exact absurd (show false=true from hs) OK
 | int i =>
  obtain⟨t,rfl⟩:=rx
  cases y with
  | non=>cases ry; exact XT (bN I q (by simp))
  | int j=>obtain⟨t',rfl⟩:=ry; exact ne_int (bN I q (congrArg not Af))
  | str j=>obtain⟨t',rfl⟩:=ry; exact XU (bN I q (by simp))
  | _=>exact absurd (show false=true from hs) OK
 | str i =>
  obtain⟨t,rfl⟩:=rx
  cases y with
  | non=>cases ry; exact XV (bN I q (by simp))
  | bl j=>cases ry; exact XB (bN I q (by simp))
  | int j=>obtain⟨t',rfl⟩:=ry; exact XW (bN I q (by simp))
  | str j=>obtain⟨t',rfl⟩:=ry; exact ne_str (bN I q (congrArg not Ag))
  | _=>exact absurd (show false=true from hs) OK
 | byt i =>
  obtain⟨t,rfl⟩:=rx
  cases y with
  | byt j=>obtain⟨t',rfl⟩:=ry; exact PySem.W.ne_bytes (bN I q (congrArg not Ah))
  | _=>exact absurd (show false=true from hs) OK
 | _=>cases y<;>exact absurd (show false=true from hs) OK

theorem qa:lO X (P3 .Lt) (Ae λi j=>.bl (decide (i < j))):=JA λ_ _ _ _ _ _ _ q=>lt_int q
theorem Iw:lO X (P3 .Gt) (Ae λi j=>.bl (decide (j < i))):=JA λ_ _ _ _ _ _ _ q=>gt_int q
theorem LA:lO X (P3 .GtE) (Ae λi j=>.bl (decide (j≤i))):=JA λ_ _ _ _ _ _ _ q=>ge_int q
theorem jj (b:OP) {op:Wx} (h:op≠.In:=by decide) (h2:op≠.NotIn:=by decide):Pz op b=false:=by
 have e1:(op == ZQ)=false:=by cases op<;>first | rfl | exact absurd rfl h
 have e2:(op == YG)=false:=by cases op<;>first | rfl | exact absurd rfl h2
 cases b<;>simp [Pz,e1,e2]
theorem Gv {op:Wx} {r:R2} (ho:lO X (P3 op) r) (ha:PE X a ta) (hb:PE X b tb) (hm:Pz op b=false):PE X (.Compare a [op] [b] pos) (Jy r ta tb):=by
 intro pins s σ H Q I h
 exact W1 (Jz ha hb I h λv u s2 x y H2 I2 rx ry q=>ho pins s2 σ H2 x y v u Q I2 rx ry q) hm
def wO (t:TE):TT:=λσ H Q=>t σ H λx H'=>∃k,x=.bl k/\Q k H'
theorem vh {op:Wx} {r:R2} (ho:lO X (P3 op) r) (ha:PE X a ta) (hb:PE X b tb) (hm:Pz op b=false):PT X (.Compare a [op] [b] pos) (wO (Jy r ta tb)):=by
 intro pins s σ H Q I h
 refine UD (bG (ha pins s σ H _ I h) λv s1 ⟨x,H1,I1,r1,q1⟩=>bG (hb pins s1 σ H1 _ I1 q1) λu s2 ⟨y,H2,I2,r2,q2⟩ =>
  bG (ho pins s2 σ H2 x y v u _ I2 r1 r2 q2) λc s3 ⟨z,H3,I3,r3,k,e,q3⟩=>?_) hm
 subst e
 cases r3
 exact Qc ⟨H3,I3,q3⟩
def LB (K:Ou) (x:V) (H:Hp) (k:Bool):Prop :=
 match x with
 | .non=>k=false
 | .bl b=>k=b
 | .int i=>k=(i != 0)
 | .str y=>y.length≤OA/\k=((y.length:Int) != 0)
 | .byt y=>y.size≤OA/\k=((y.size:Int) != 0)
 | .ref p=>(∃xs,hW K H p xs/\k=!xs.isEmpty)∨(∃xs,hZ K H p xs/\k=!xs.isEmpty)∨∃kvs,H p=some (.dK kvs)/\k=!kvs.isEmpty
 | _=>False
theorem yG {κ:Type} {kvs:List (κ×V)} {vs:List (κ×Om)} (r:KV kvs vs):(!vs.isEmpty)=!kvs.isEmpty:=by
 cases r<;>rfl
theorem k7 {xs:List V} {its:List Om} (r:aO xs its):(!its.toArray.isEmpty)=!xs.isEmpty:=by
 cases r<;>simp
theorem qb:(OA:Nat) < 2 ^ 63:=by rw [O4]; decide
theorem yH:Ly X (λx H Q=>∃k,LB X.K x H k/\Q k H):=by
 intro pins s σ H x v Q I rx h
 obtain⟨k,e,q⟩:=h
 have hl:=qb
 have hs:OA=16777216:=O4
 cases x with
 | non =>
  cases rx
  have e':k=false:=e
  subst e'
  exact truthy_none ⟨H,I,q⟩
 | bl b =>
  cases rx
  have e':k=b:=e
  subst e'
  exact Qc ⟨H,I,q⟩
 | int i =>
  obtain⟨t,rfl⟩:=rx
  have e':k=(i != 0):=e
  subst e'
  exact PySem.P.truthy_int ⟨H,I,q⟩
 | str y =>
  obtain⟨t,rfl⟩:=rx
  obtain⟨hy,e'⟩:y.length≤OA/\k=((y.length:Int) != 0):=e
  subst e'
  exact PySem.P.truthy_str (by omega) ⟨H,I.tok _,q⟩
 | byt y =>
  obtain⟨t,rfl⟩:=rx
  obtain⟨hy,e'⟩:y.size≤OA/\k=((y.size:Int) != 0):=e
  subst e'
  exact PySem.W.truthy_bytes (by omega) ⟨H,I.tok _,q⟩
 | ref p =>
  cases rx
  have e':(∃xs,hW X.K H p xs/\k=!xs.isEmpty)∨(∃xs,hZ X.K H p xs/\k=!xs.isEmpty)∨∃kvs,H p=some (.dK kvs)/\k=!kvs.isEmpty:=e
  rcases e' with ⟨xs,hx,e'⟩ | ⟨xs,hx,e'⟩ | ⟨kvs,hx,e'⟩
  ·subst e'
   obtain⟨its,r,pl,hz⟩:=I.list hx
   have hlen:=r.length
   exact VU pl.isList (by simp only [Ot]; omega) ⟨H,I.tok _,by rw [k7 r]; exact q⟩
  ·subst e'
   obtain⟨its,r,pl,hz⟩:=I.tuple hx
   have hlen:=r.length
   exact truthy_tuple pl (by simp only [Ot]; omega) ⟨H,I.tok _,by rw [k7 r]; exact q⟩
  ·subst e'
   obtain⟨hz,hS,vs,r,m⟩:kvs.length≤OA/\(p == P0)=false/\∃vs,KV kvs vs/\s.heap.DictOf (aV X.prog X.w) p vs:=I.hok p _ hx
   have hlen:kvs.length=vs.length:=Pe r
   exact wpAny_truthy_dict hS m (by omega) ⟨H,I.tok _,by rw [yG r]; exact q⟩
 | _=>exact (show False from e).elim
theorem wP (ha:PE X a ta) (he:∀whole,We a X.env whole=(do let v <-whole; QL a.pos; Ra [v] (Ye v))) :
  PT X a (λσ H Q=>ta σ H λx H'=>∃k,LB X.K x H' k/\Q k H'):=by
 intro pins s σ H Q I h
 exact VQ (bG (ha pins s σ H _ I h) λv s1 ⟨x,H1,I1,r1,q1⟩=>yH pins s1 σ H1 x v Q I1 r1 q1) (he _)

theorem jk {x:V} (r:aO [x] us):∃u,us=[u]/\aP x u:=by
 cases r with
 | cons r1 r2=>cases r2; exact⟨_,rfl,r1⟩
theorem DC {x y:V} (r:aO [x,y] us):∃u w',us=[u,w']/\aP x u/\aP y w':=by
 cases r with
 | cons r1 r2 =>
  cases r2 with
  | cons r3 r4=>cases r4; exact⟨_,_,rfl,r1,r3⟩
theorem Bz (hc:X.calm=true):dI X (.builtin "max") (λxs H Q=>∃i j,xs=[.int i,.int j]/\Q (.int (if j > i then j else i)) H):=by
 intro pins s σ H xs us Q I r h
 obtain⟨i,j,rfl,q⟩:=h
 obtain⟨u,w',rfl,⟨t,rfl⟩,⟨t',rfl⟩⟩:=DC r
 refine max_two_ints (I.ok.hd hc) λh' tk k=>⟨_,H,I.kept k,?_,q⟩
 by_cases hj:j > i
 ·rw [if_pos hj,if_pos hj]; exact⟨_,rfl⟩
 ·rw [if_neg hj,if_neg hj]; exact⟨_,rfl⟩
theorem BB (hc:X.calm=true):dI X (.builtin "min") (λxs H Q=>∃i j,xs=[.int i,.int j]/\Q (.int (if j < i then j else i)) H):=by
 intro pins s σ H xs us Q I r h
 obtain⟨i,j,rfl,q⟩:=h
 obtain⟨u,w',rfl,⟨t,rfl⟩,⟨t',rfl⟩⟩:=DC r
 refine min_two_ints (I.ok.hd hc) λh' tk k=>⟨_,H,I.kept k,?_,q⟩
 by_cases hj:j < i
 ·rw [if_pos hj,if_pos hj]; exact⟨_,rfl⟩
 ·rw [if_neg hj,if_neg hj]; exact⟨_,rfl⟩
end
structure yI (h:O9) (x dx C:Oo) (mA:Str->Option Om):Prop where
 obj:h.get? x=some (QF C dx)
 ns:h.Ns1 dx mA
 ne:dx≠x

theorem BC {h:O9} {dx:Oo} {mA:Str->Option Om} (n:h.Ns1 dx mA):∃od,h.get? dx=some od/\∀name,Tq name od=some (mA name):=by
 obtain⟨o,es,ep,ho,hd,hk,_,hm⟩:=n
 refine⟨o,ho,λname=>?_⟩
 have e:=hm name
 unfold nsFind findBy at e
 rw [<-Array.find?_toList] at e
 unfold Tq
 rw [hd]
 dsimp only
 split
 ·rename_i y q
  rw [q] at e
  exact congrArg some e
 ·rename_i q
  rw [q] at e
  have a:es.toList.any (·.refKey)=false:=by
   rw [List.any_eq_false]
   intro y hy
   obtain⟨z,t,hkey⟩:=hk y (Array.mem_toList_iff.mp hy)
   simp [ZI,hkey]
  have a':¬es.toList.any (·.refKey)=true:=by rw [a]; exact OK
  rw [if_neg a']
  exact congrArg some e

theorem yI.look {h:O9} {x dx C:Oo} {mA:Str->Option Om} (I:yI h x dx C mA):∃od,PySem.W.InstAt h x (QF C dx) C (some od)/\∀name,Tq name od=some (mA name) :=
 let ⟨od,ho,hl⟩:=BC I.ns
 ⟨od,⟨I.obj,rfl,rfl,ho⟩,hl⟩

section
variable {x dx C f:Oo} {mA:Str->Option Om} {name:Str} {v:Om}
theorem Gw {expr:Bool} {Q:Om->Os->Prop} (X:K.In s.heap) (I:yI s.heap x dx C mA) (hg:Su K C name=true) (hh:TW K C=true)
  (ha:Pq K (.ref C) name=some none) (hv:mA name=some v) (hv':Wh v=true) (h:Q v { s with toks:=s.toks+1 }) :
  Ov (OE prog w) A (Zz (.ref x) name expr) Q E s:=by
 obtain⟨od,J,hl⟩:=I.look
 exact PySem.W.get_value X J (SZ hg).1 (PySem.W.findObj_own hh ha rfl (by rw [hl,hv])) hv' h

theorem DD {pl:Sem Bool} {Q:Om×List Om->Os->Prop} (X:K.In s.heap) (I:yI s.heap x dx C mA) (hg:Su K C name=true)
  (hf:Pq K (.ref C) name=some (some (.ref f))) (ht:Sc K (.ref f)=true) (hv:mA name=none) (h:Q (.ref f,[.ref x]) s) :
  Ov (OE prog w) A (QA (.ref x) name pl) Q E s:=by
 obtain⟨od,J,hl⟩:=I.look
 exact PySem.W.method_fn X J (SZ hg).1 (SZ hg).2 hf (beq_iff_eq.mp ht) (by show (Tq name od).map (·.isSome)=some false; rw [hl,hv]; rfl) h

theorem Gz {ns:List Str} {Q:Unit->Os->Prop} (X:K.In s.heap) (I:yI s.heap x dx C mA)
  (hs:Pq K (.ref C) "__setattr__" = some (some (.builtin "object.__setattr__"))) (hp:VW K C=true) (ht:Ux K C name=some none) (hh:TW K C=true)
  (hw:VP mA ns) (hsz:ns.length≤OA)
  (h:∀h',yI h' x dx C (λy=>if y=name then some v else mA y)->P9 dx s.heap h'->Q () { s with heap:=h',toks:=s.toks+2 }) :
  Ov (OE prog w) A (setAttr (.ref x) name v) Q E s:=by
 obtain⟨od,J,hl⟩:=I.look
 refine PySem.W.set_plain X J hs (PySem.W.osa_open (s:={ s with toks:=s.toks+1 }) (r:=none) X J hp ht λb=>?_)
 obtain⟨cd,hc,hd'⟩:=PySem.W.any_some hh
 have hx:s.heap.get? x=some ⟨.ref C,some dx,.plain,#[]⟩:=I.obj
 refine Ol (On (Ol (Ol (wpAny_loadPart hx (Ol (Zj (s:={ s with toks:=s.toks+1 }) (PySem.W.looks_clsIn X hc) ?_))))))
 rw [hd']
 refine On (a:=some dx) (Ol (On (Ol ?_)))
 refine wpAny_nsSet1 (s:={ s with toks:=s.toks+1 }) I.ns λh' hn2 hs2=>?_
 obtain⟨oD,esD,epD,hoD,hdD,hcD⟩:=hn2.count (ZA name v hw)
 refine Ol (wpAny_lookBehind hoD (by rw [hdD]; exact pastItsLine_dict (Pi hcD (by rw [Pw]; omega))) ?_)
 exact On (h _ ⟨(hs2.2 _ (P5 I.ne)).trans I.obj,hn2,I.ne⟩ hs2)

theorem wQ {R:Yh->Os->Prop} {vs:List Om} {kw:List (Str×Om)} (X:K.In s.heap) (hm:Uy K C=true)
  (hi:Pq K (.ref C) "__init__" = some (some (.ref f))) (hf:PySem.W.typeIn K (.ref f)=some (.type "function"))
  (h:RX (OE prog w) (A.under (.builtin "type.__call__" ⟨.ref C::vs,kw⟩)) (.call (.ref f) ⟨.ref (s.heap.objs.size+1)::vs,kw⟩) (PySem.W.InitBack (s.heap.objs.size+1) R)
   { s with heap:=(s.heap.push PR).push (QF C s.heap.objs.size) }) :
  RX (OE prog w) A (.call (.ref C) ⟨vs,kw⟩) R s:=by
 obtain⟨hh,g,d,t,os⟩:=s
 exact PySem.W.make_core (PySem.W.makes_of X hm) (PySem.W.looks_findIn X hi) (λself=>PySem.W.bind_fn X self hf) (.inl rfl) h
end
def iz (f:Str) (v:V):List (Str×V)->List (Str×V)
 | []=>[(f,v)]
 | (g,x)::r=>if g=f then (g,v)::r else (g,x)::iz f v r
theorem n9 (f g:Str) (v:V):∀fs:List (Str×V),(iz f v fs).lookup g=if g=f then some v else fs.lookup g
 | []=>by
  show Rb g [(f,v)]=_
  by_cases h:g=f
  ·have hb:(g == f)=true:=beq_iff_eq.mpr h
   simp only [Rb,hb,if_pos h]
  ·have hb:(g == f)=false:=beq_eq_false_iff_ne.mpr h
   simp only [Rb,hb,if_neg h]
 | (k,x)::r=>by
  have ih:=n9 f g v r
  rw [show iz f v ((k,x)::r)=(if k=f then (k,v)::r else (k,x)::iz f v r) from rfl]
  by_cases hk:k=f
  ·rw [if_pos hk]
   by_cases h:g=k
   ·have hb:(g == k)=true:=beq_iff_eq.mpr h
    simp only [Rb,hb,if_pos (h.trans hk)]
   ·have hb:(g == k)=false:=beq_eq_false_iff_ne.mpr h
    simp only [Rb,hb,if_neg (λe:g=f=>h (e.trans hk.symm))]
  ·rw [if_neg hk]
   by_cases h:g=k
   ·have hb:(g == k)=true:=beq_iff_eq.mpr h
    simp only [Rb,hb,if_neg (λe:g=f=>hk (h.symm.trans e))]
   ·have hb:(g == k)=false:=beq_eq_false_iff_ne.mpr h
    simp only [Rb,hb]
    exact ih
theorem m8 (f:Str) (v:V):∀fs:List (Str×V),f∈(iz f v fs).map (·.1)/\∀g,g∈fs.map (·.1)->g∈(iz f v fs).map (·.1)
 | []=>⟨by simp [iz],λg h=>by simp at h⟩
 | (k,x)::r=>by
  obtain⟨i1,i2⟩:=m8 f v r
  rw [show iz f v ((k,x)::r)=(if k=f then (k,v)::r else (k,x)::iz f v r) from rfl]
  by_cases hk:k=f
  ·rw [if_pos hk]
   subst hk
   exact⟨by simp,λg h=>by simpa using h⟩
  ·rw [if_neg hk]
   refine⟨?_,λg h=>?_⟩
   ·rw [OV]
    exact OF _ i1
   ·rw [OV] at h ⊢
    rcases ON.mp h with e | e
    ·exact ON.mpr (.inl e)
    ·exact OF _ (i2 g e)
theorem oa (f:Str) (v:V):∀fs:List (Str×V),(iz f v fs).length≤fs.length+1
 | []=>by simp [iz]
 | (k,x)::r=>by
  have ih:=oa f v r
  rw [show iz f v ((k,x)::r)=(if k=f then (k,v)::r else (k,x)::iz f v r) from rfl]
  by_cases hk:k=f
  ·rw [if_pos hk,Pw,Pw]; omega
  ·rw [if_neg hk,Pw,Pw]; omega

theorem fH.some_of {v:V} {o:Option Om} (r:fH (some v) o):∃u,o=some u/\aP v u:=by
 cases o with
 | none=>exact (show False from r).elim
 | some u=>exact⟨u,rfl,r⟩
theorem fH.none_of {o:Option Om} (r:fH none o):o=none:=by
 cases o with
 | none=>rfl
 | some u=>exact (show False from r).elim
theorem BD {v:V} {u:Om} (r:aP v u):Wh u=true:=by
 cases v with
 | non=>cases (show u=Pr from r); rfl
 | bl b=>cases (show u=Qm b from r); rfl
 | int i=>obtain⟨t,e⟩:=(show ∃t,u=Q1 i t from r); cases e; rfl
 | str x=>obtain⟨t,e⟩:=(show ∃t,u=U4 x t from r); cases e; rfl
 | byt b=>obtain⟨t,e⟩:=(show ∃t,u=YD b t from r); cases e; rfl
 | flt b=>obtain⟨t,e⟩:=(show ∃t,u=Ww b t from r); cases e; rfl
 | ref a=>cases (show u=OJ a from r); rfl
 | ty n=>cases (show u=VB n from r); rfl

section
variable {H H':Hp} {h h':O9} {a C dx:Oo} {fs fs':List (Str×V)}
theorem pG (hok:iT P w H h) (e:H a=some (.ins C dx fs)):∃mA,yI h a dx C mA/\(∀f,fH (fs.lookup f) (mA f))/\VP mA (fs.map (·.1))/\fs.length≤1000/\H dx=some (.own a):=by
 obtain⟨d,z,ne,ob,mA,n,r,q⟩:=(show ci P w H h a (.ins C dx fs) from hok a _ e)
 exact⟨mA,⟨ob,n,ne⟩,r,q,z,d⟩
end
structure mX (K:Ou) (C:Oo):Prop where
 pg:Su K C Str.empty=true
 hd:TW K C=true
 po:VW K C=true
 sa:Pq K (.ref C) "__setattr__" = some (some (.builtin "object.__setattr__"))
theorem mX.get {C:Oo} (c:mX K C) (f:Str):Su K C f=true:=c.pg
def cq (K:Ou) (C:Oo) (f:Str):Prop:=Pq K (.ref C) f=some none
theorem cq.taker {C:Oo} {f:Str} (n:cq K C f):Ux K C f=some none:=by
 unfold Ux
 rw [show Pq K (.ref C) f=some none from n]
 rfl
structure oU (K:Ou) (C:Oo) (m:Str) (f:Oo):Prop where
 at_:Pq K (.ref C) m=some (some (.ref f))
 fn:Sc K (.ref f)=true
 kp:O3 K (.ref f)=true

section
variable {X:Cx} {σ:St} {H:Hp} {a C dx:Oo} {fs:List (Str×V)} {f:Str} {v:V}
theorem yJ {b:Bool} {Q:Om->Os->Prop} (I:aC X pins σ H s) (e:H a=some (.ins C dx fs)) (c:mX X.K C) (n:cq X.K C f) (l:fs.lookup f=some v)
  (h:∀u s',aC X pins σ H s'->aP v u->Q u s'):Ov (OE X.prog X.w) A (Zz (.ref a) f b) Q E s:=by
 obtain⟨mA,O,r,_,_,_⟩:=pG I.hok e
 obtain⟨u,hu,ru⟩:=fH.some_of (v:=v) (o:=mA f) (by rw [<-l]; exact r f)
 exact Gw I.kIn O (c.get f) c.hd n hu (BD ru) (h u _ (I.tok _) ru)

theorem eM {m:Str} {g:Oo} {pl:Sem Bool} {Q:Om×List Om->Os->Prop} (I:aC X pins σ H s) (e:H a=some (.ins C dx fs)) (c:mX X.K C) (k:oU X.K C m g) (l:fs.lookup m=none)
  (h:Q (.ref g,[.ref a]) s):Ov (OE X.prog X.w) A (QA (.ref a) m pl) Q E s:=by
 obtain⟨mA,O,r,_,_,_⟩:=pG I.hok e
 have hn:mA m=none:=fH.none_of (by rw [<-l]; exact r m)
 exact DD I.kIn O (c.get m) k.at_ k.fn hn h

theorem yK {y:V} {u:Om} {Q:Unit->Os->Prop} (I:aC X pins σ H s) (e:H a=some (.ins C dx fs)) (c:mX X.K C) (n:cq X.K C f) (hl:fs.length < 1000) (ry:aP y u)
  (h:∀s',aC X pins σ (upd H a (.ins C dx (iz f y fs))) s'->Q () s'):Ov (OE X.prog X.w) A (setAttr (.ref a) f u) Q E s:=by
 obtain⟨mA,O,r,wi,_,ho⟩:=pG I.hok e
 have hz:(fs.map (·.1)).length≤OA:=by rw [O7,O4]; omega
 refine Gz I.kIn O c.sa c.po n.taker c.hd wi hz λh' O' sb=>h _ ?_
 have hd:∃o,h'.get? dx=some o:=let ⟨o,_,_,e',_⟩:=O'.ns; ⟨o,e'⟩
 refine I.write (x:=a) (e:=dx) (by rw [e]; exact Qd) (.inr ho) (λb q hb z=>(sb.2 b hb).trans z) hd ?_
 refine⟨by rw [ao O.ne]; exact ho,?_,O.ne,O'.obj,_,O'.ns,λg=>?_,λg hg=>?_⟩
 ·have:=oa f y fs; omega
 ·show fH ((iz f y fs).lookup g) (if g=f then some u else mA g)
  rw [n9]
  by_cases q:g=f
  ·rw [if_pos q,if_pos q]; exact ry
  ·rw [if_neg q,if_neg q]; exact r g
 ·by_cases q:g=f
  ·rw [q]; exact (m8 f y fs).1
  ·refine (m8 f y fs).2 g (wi g λz=>hg ?_)
   show (if g=f then some u else mA g)=none
   rw [if_neg q]; exact z

theorem aC.made (I:aC X pins σ H s):aC X pins σ (upd (upd H s.heap.objs.size (.own (s.heap.objs.size+1))) (s.heap.objs.size+1) (.ins C s.heap.objs.size []))
  { s with heap:=(s.heap.push PR).push (QF C s.heap.objs.size) }:=by
 have e1:(s.heap.push PR).get? s.heap.objs.size=some PR:=Ox s.heap rfl
 have e2:((s.heap.push PR).push (QF C s.heap.objs.size)).get? (s.heap.objs.size+1)=some (QF C s.heap.objs.size):=by
  have:=Ox (s.heap.push PR) (o:=QF C s.heap.objs.size) rfl
  rwa [QR] at this
 have e3:(s.heap.push PR).Ns s.heap.objs.size (λ_=>none):=⟨PR,#[],_,e1,rfl,(λe he=>absurd he (by simp)),λ_=>rfl⟩
 have I1:=I.laid (a:=s.heap.objs.size) (o:=.own (s.heap.objs.size+1)) (h':=s.heap.push PR) (t':=s.toks) (λb u q=>Op _ q) (OB _) ⟨_,e1⟩
 refine I1.laid (a:=s.heap.objs.size+1) (o:=.ins C s.heap.objs.size []) (t':=s.toks) (λb u q=>Op _ q) (Yi (QR _ _)) ?_
 have ne:s.heap.objs.size≠s.heap.objs.size+1:=OG (Pj _)
 refine⟨by rw [ao ne,aF],Pu _,ne,e2,λ_=>none,(Heap.Ns1.of_empty e3).at λo q=>Op _ q,λ_=>Qd,λy hy=>absurd rfl hy⟩

theorem GA {env:Env} {e:OP} {Q:Om->Os->Prop} (hb:OW e f env (O2 e env)=O2 e env)
  (h:Ov (OE prog w) A (O2 e env) (λo s₁=>Ov (OE prog w) A (Zz o f true) Q E s₁) E s):Ov (OE prog w) A (O2 (.Attribute e f pos) env) Q E s :=
 Attribute_any_ h (by rw [arm_eval_Attribute,hb])
end
def Nk (K:Ou) (ta:TE) (f:Str):TE:=λσ H Q=>ta σ H λx H1=>∃a C dx fs v,x=.ref a/\H1 a=some (.ins C dx fs)/\mX K C/\cq K C f/\fs.lookup f=some v/\Q v H1
def Nl (K:Ou) (ta tv:TE) (f:Str):TS:=λD σ H=>tv σ H λy H1=>ta σ H1 λx H2=>∃a C dx fs,x=.ref a/\H2 a=some (.ins C dx fs)/\mX K C/\cq K C f/\fs.length < 1000 /\
 D.nx σ (upd H2 a (.ins C dx (iz f y fs)))
section
variable {X:Cx} {o e value:OP} {f:Str} {pos pos' tpos:Pos} {ta tv:TE}
theorem JC (he:PE X e ta) (hb:OW e f X.env (O2 e X.env)=O2 e X.env):PE X (.Attribute e f pos) (Nk X.K ta f):=by
 intro pins s σ H Q I h
 refine GA hb (bG (he pins s σ H _ I h) λu s1 ⟨x,H1,I1,rx,a,C,dx,fs,v,ex,ea,c,n,l,q⟩=>?_)
 subst ex
 obtain rfl:u=OJ a:=rx
 exact yJ I1 ea c n l λu' s2 I2 ru=>⟨v,H1,I2,ru,q⟩
theorem JD (ha:PE X o ta) (hv:PE X value tv) (hs:PJ value (some (.Attribute o f pos')) pos.line X.env=pure false):PS X (.Assign [.Attribute o f pos'] value pos) (Nl X.K ta tv f):=by
 intro pins s σ H D I h
 refine plainObj_wpAny_Assign_Attribute (bG (hv pins s σ H _ I h) λu s1 ⟨y,H1,I1,ry,q⟩=>bG (ha pins s1 σ H1 _ I1 q) λov s2 ⟨x,H2,I2,rx,a,C,dx,fs,ex,ea,c,n,l,q2⟩=>?_) hs
 subst ex
 obtain rfl:ov=OJ a:=rx
 exact yK I2 ea c n l ry λs3 I3=>⟨σ,_,I3,q2⟩
theorem Iy {pl:Sem Bool} {m:Str} {apos:Pos} {args:List OP} {σ:St} {H:Hp} {Q:Om->Os->Prop} {te:TE} (he:PE X e te) (I:aC X pins σ H s)
  (h:te σ H λx H1=>∃a C dx fs g,x=.ref a/\H1 a=some (.ins C dx fs)/\mX X.K C/\oU X.K C m g/\fs.lookup m=none /\
   ∀s1,aC X pins σ H1 s1->Ov (OE X.prog X.w) X.A (Rk pos (.ref g) [.ref a] (Qa pos (OQ args X.env)) (PD pos (O5 [] X.env))) Q X.xe s1)
  (ht:O2 (.Call (.Attribute e m apos) args [] pos) X.env=(do
   let ov <-O2 e X.env
   QL apos.atName
   let (f,first) <-Ra [ov] (QA ov m pl)
   Rk pos f first (Qa pos (OQ args X.env)) (PD pos (O5 [] X.env)))) :
  Ov (OE X.prog X.w) X.A (O2 (.Call (.Attribute e m apos) args [] pos) X.env) Q X.xe s:=by
 refine Ql (pl:=pl) (bG (he pins s σ H _ I h) λu s1 ⟨x,H1,I1,rx,a,C,dx,fs,g,ex,ea,c,k,l,q⟩=>?_) ht
 subst ex
 obtain rfl:u=OJ a:=rx
 exact eM I1 ea c k l (q s1 I1)
end
section
variable {X:Cx} {σ:St} {H:Hp} {Q:Om->Os->Prop} {c:Om} {b:Bool}
inductive m9 (K:Ou) (H:Hp):V->Om->Prop where
 | non:m9 K H .non (.type "NoneType")
 | bl (x:Bool):m9 K H (.bl x) (.type "bool")
 | int (i:Int):m9 K H (.int i) (.type "int")
 | str (x:Str):m9 K H (.str x) (.type "str")
 | flt (x:UInt64):m9 K H (.flt x) (.type "float")
 | lst {a:Oo} {xs:List V} (e:H a=some (.lst xs)):m9 K H (.ref a) (.type "list")
 | frz {a:Oo} {o:Obj} {xs:List V} (e:H a=some (.frz o (.lst xs))):m9 K H (.ref a) (.type "list")
 | tup {a:Oo} {xs:List V} (e:H a=some (.tup xs)):m9 K H (.ref a) (.type "tuple")
 | dK {a:Oo} {kvs:List (bv×V)} (e:H a=some (.dK kvs)):m9 K H (.ref a) (.type "dict")
 | dT {a:Oo} {kvs:List (List bv×V)} (e:H a=some (.dT kvs)):m9 K H (.ref a) (.type "dict")
 | ins {a C dx:Oo} {fs:List (Str×V)} (e:H a=some (.ins C dx fs)) (cl:mX K C) (ha:Pq K (.ref C) "__class__" = some (some (.builtin "object.__class__")))
   (hn:PySem.W.specialIn K (.builtin "object.__class__") "__get__" = some (some (.builtin "getset_descriptor.__get__"))) (htk:PySem.W.takesIn K (.builtin "object.__class__")=some true)
   (hm:PySem.W.mroIn K C (.type "object")=some true):m9 K H (.ref a) (.ref C)
theorem BH {x:V} {u t:Om} (I:aC X pins σ H s) (rx:aP x u) (ty:m9 X.K H x t) (e:W5 X.K t c=some b) (h:∀tk,Q (.bool b) { s with toks:=tk }) :
  Ov (OE X.prog X.w) A (call (.builtin "isinstance") [u,c]) Q E s:=by
 cases ty with
 | non=>cases (show u=Pr from rx); exact PL PySem.W.kitx_none I.kIn Qd e (λz=>nomatch z) h
 | bl y=>cases (show u=Qm y from rx); exact PL PySem.W.kitx_bool I.kIn Qd e (λz=>nomatch z) h
 | int i=>obtain⟨t,q⟩:=(show ∃t,u=Q1 i t from rx); cases q; exact PL PySem.W.kitx_int I.kIn Qd e (λz=>nomatch z) h
 | str y=>obtain⟨t,q⟩:=(show ∃t,u=U4 y t from rx); cases q; exact PL PySem.W.kitx_str I.kIn Qd e (λz=>nomatch z) h
 | flt y=>obtain⟨t,q⟩:=(show ∃t,u=Ww y t from rx); cases q; exact PL PySem.W.kitx_float I.kIn Qd e (λz=>nomatch z) h
 | @lst a xs ea =>
  cases (show u=OJ a from rx)
  obtain⟨_,_,n,_,h1⟩:=(show ci X.prog X.w H s.heap a (.lst xs) from I.hok a _ ea)
  exact PL VX I.kIn ⟨_,h1,rfl⟩ e (λz=>nomatch z) h
 | @frz a ob xs ea =>
  cases (show u=OJ a from rx)
  obtain⟨_,_,_,n,_,h1⟩:=(show ci X.prog X.w H s.heap a (.frz ob (.lst xs)) from I.hok a _ ea)
  exact PL VX I.kIn ⟨_,h1,rfl⟩ e (λz=>nomatch z) h
 | @tup a xs ea =>
  cases (show u=OJ a from rx)
  obtain⟨_,_,_,p⟩:=(show ci X.prog X.w H s.heap a (.tup xs) from I.hok a _ ea)
  obtain⟨o,h1,h2,_⟩:=p
  exact PL PySem.W.kitx_tuple I.kIn ⟨o,h1,h2⟩ e (λz=>nomatch z) h
 | @dK a kvs ea =>
  cases (show u=OJ a from rx)
  obtain⟨_,_,vs,_,p⟩:=(show ci X.prog X.w H s.heap a (.dK kvs) from I.hok a _ ea)
  obtain⟨o,es,ep,h1,h2,_⟩:=p
  exact PL VY I.kIn ⟨o,h1,h2.1⟩ e (λz=>nomatch z) h
 | @dT a kvs ea =>
  cases (show u=OJ a from rx)
  obtain⟨_,_,xs,_,o,es,ep,h1,h2,_⟩:=(show ci X.prog X.w H s.heap a (.dT kvs) from I.hok a _ ea)
  exact PL VY I.kIn ⟨o,h1,h2.1⟩ e (λz=>nomatch z) h
 | @ins a C dx fs ea cl ha hn htk hm =>
  cases (show u=OJ a from rx)
  obtain⟨mA,O,_⟩:=pG I.hok ea
  obtain⟨od,J,_⟩:=O.look
  exact PL (PySem.W.kitx_own (cl.get _) cl.hd ha hn htk hm) I.kIn J e (λz=>nomatch z) h
end
structure bn (k:Nat) (A:P6):Prop where
 hd:A.handled=none
 dp:A.depth+3 * k+5 < Rl
 un:A.units+16 * k+200 < Qf
theorem bn.mono {j k:Nat} (r:bn k A) (h:j≤k):bn j A:=⟨r.hd,by have:=r.dp; omega,by have:=r.un; omega⟩
theorem bn.deeper {k:Nat} (r:bn (k+1) A) (env:Env):bn k (A.deeper env) :=
 ⟨r.hd,by have:=r.dp; show A.depth+1+3 * k+5 < _; omega,by have:=r.un; show A.units+3+16 * k+200 < _; omega⟩
theorem bn.in1 {k:Nat} (r:bn (k+1) A):bn k A.in1 :=
 ⟨r.hd,by have:=r.dp; show A.depth+3 * k+5 < _; omega,by have:=r.un; show A.units+1+16 * k+200 < _; omega⟩
theorem yL {C:Oo} {kw:List (Str×Om)}:(A.under (.builtin "type.__call__" ⟨.ref C::us,kw⟩)).depth=A.depth+1:=by
 first | rfl | simp [VZ,Code.weight,Code.isCreation,Code.isGuard,Code.isCaller,YH,V0,guardIds]
theorem yM {C:Oo} {kw:List (Str×Om)}:(A.under (.builtin "type.__call__" ⟨.ref C::us,kw⟩)).units=A.units+1:=by
 first | rfl | simp [VZ,Code.cUnits,YH,V0]
theorem bn.make {k:Nat} (r:bn (k+1) A) (C:Oo) (us:List Om) (kw:List (Str×Om)):bn k (A.under (.builtin "type.__call__" ⟨.ref C::us,kw⟩)) :=
 ⟨r.hd,by have:=r.dp; rw [yL]; omega,by have:=r.un; rw [yM]; omega⟩
theorem bn.depth {k:Nat} (r:bn k A):A.depth < Rl:=by have:=r.dp; omega
theorem bn.units {k:Nat} (r:bn k A):A.units+64 < Qf:=by have:=r.un; omega
def qc:TA:=λ_ H Q=>Q [] H
def qd (ta:TE) (tr:TA):TA:=λσ H Q=>ta σ H λx H1=>tr σ H1 λxs H2=>Q (x::xs) H2
section
variable {X:Cx} {e:OP} {te:TE} {t:TA}
theorem iA:PA X [] qc:=λ_ _ _ _ H Q I h=>RC ⟨[],H,I,.nil,h⟩
abbrev hE9 (X:Cx) (e:OP) (es:List OP):Prop:=OQ (e::es) X.env=(false,O2 e X.env)::OQ es X.env
abbrev hP9 (X:Cx) (p:Pos) (es:List OP):Prop:=(Qa p (OQ es X.env)).any (·.1)=false
abbrev hD9 (x:Str):Prop:=(x==("__debug__":Str))=false
theorem dW (ha:PE X e te) (hr:PA X es t) (hs:hE9 X e es:=by nofun):PA X (e::es) (qd te t):=by
 intro pos pins s σ H Q I h
 rw [hs]
 show Ov _ _ (Zy ((false,O2 e X.env)::Qa pos (OQ es X.env))) _ _ s
 refine Qo (bG (ha pins s σ H _ I h) λu s1 ⟨x,H1,I1,r1,q1⟩=>?_)
 exact bG (hr pos pins s1 σ H1 _ I1 q1) λus s2 ⟨xs,H2,I2,r2,q2⟩=>⟨x::xs,H2,I2,.cons r1 r2,q2⟩

def Nm (t:TA):TE:=λσ H Q=>t σ H λxs H1=>xs.length≤OA/\∀p,H1 p=none->Q (.ref p) (upd H1 p (.tup xs))
def Nn (t:TA):TE:=λσ H Q=>t σ H λxs H1=>xs.length≤OA/\∀p,H1 p=none->Q (.ref p) (upd H1 p (.lst xs))
theorem JE {x1} (h:PA X es t):PE X (.Tuple es x1 pos) (Nm t):=by
 intro pins s σ H Q I hq
 refine wpAny_Tuple_spliced (bG (h pos pins s σ H _ I hq) λus s1 ⟨xs,H1,I1,r,z,q⟩=>⟨by rw [<-r.length]; exact z,?_⟩)
 have hf:H1 s1.heap.objs.size=none:=I1.hok.fresh (OB _)
 refine⟨.ref s1.heap.objs.size,upd H1 s1.heap.objs.size (.tup xs),I1.laid (t':=s1.toks) (λb u e=>Op _ e) (OB _) ?_,rfl,q _ hf⟩
 exact⟨z,us,r,⟨_,Ox _ rfl,rfl,_,rfl⟩⟩
theorem JF (h:PA X es t):PE X (.List es pos) (Nn t):=by
 intro pins s σ H Q I hq
 refine wpAny_List_spliced (bG (h pos pins s σ H _ I hq) λus s1 ⟨xs,H1,I1,r,z,q⟩=>⟨by rw [<-r.length]; exact z,?_⟩)
 have hf:H1 s1.heap.objs.size=none:=I1.hok.fresh (OB _)
 refine⟨.ref s1.heap.objs.size,upd H1 s1.heap.objs.size (.lst xs),I1.laid (t':=s1.toks) (λb u e=>Op _ e) (OB _) ?_,rfl,q _ hf⟩
 exact⟨z,us,0,r,Ox _ rfl⟩
end
abbrev Sp:=List V->Hp->VK->XK->Prop
abbrev lP:=List Env->Hp->Os->XK->Om->Os->Prop

structure k8 (P:OZ) (w:Pl) (K:Ou) (mg:Str->Option Om) (base:O9) (A:P6) (outer:List Env) (s:Os) (H:Hp):Prop where
 frames:A.frames=some outer
 mod:Mod K mg base
 bs:∀b o,base.get? b=some o->s.heap.get? b=some o/\H b=none
 bsz:base.objs.size≤s.heap.objs.size
 funs:s.heap.FunFrames base outer
 frf:∀b∈iU outer,H b=none
 hok:iT P w H s.heap
 bare:SD s.gens
def CE (outer:List Env) (P:OZ) (w:Pl) (H:Hp) (s:Os) (Q:VK) (u:Om) (s':Os):Prop :=
 ∃v H',s'.os=s.os/\SD s'.gens/\Un (iU outer) [] H H' s.heap s'.heap/\iT P w H' s'.heap/\aP v u/\Q v H'
def CR (CX:lP) (outer:List Env) (P:OZ) (w:Pl) (H:Hp) (s:Os) (Q:VK) (E:XK) (r:Yh) (s':Os):Prop :=
 match r with
 | .ok (.ret u)=>CE outer P w H s Q u s'
 | .ok _=>False
 | .error e=>CX outer H s E e s'
structure cr (P:OZ) (w:Pl) (K:Ou) (mg:Str->Option Om) (base:O9) (CX:lP) (k:Nat) (f:Oo) (fd:SH) (ps:List Str) (sp:Sp):Prop where
 len:∀vs H Q E,sp vs H Q E->vs.length=ps.length
 run:∀(A:P6) (outer:List Env) (s:Os) (H:Hp) (args:Args) (us:List Om) (vs:List V) (Q:VK) (E:XK),bn k A->k8 P w K mg base A outer s H->U6 s fd args (ps.zip us)->aO vs us->sp vs H Q E ->
  RX (OE P w) A (.call (.ref f) args) (CR CX outer P w H s Q E) s
theorem cr.mono {CX:lP} {j k:Nat} {f:Oo} {ps:List Str} {sp:Sp} (F:cr P w K mg base CX j f fd ps sp) (h:j≤k) :
  cr P w K mg base CX k f fd ps sp:=⟨F.len,λA outer s H args us vs Q E hr=>F.run A outer s H args us vs Q E (hr.mono h)⟩
theorem k8.make {outer:List Env} {H:Hp} (e:k8 P w K mg base A outer s H) (C:Oo) (us:List Om) (kw:List (Str×Om)) :
  k8 P w K mg base (A.under (.builtin "type.__call__" ⟨.ref C::us,kw⟩)) outer s H:=⟨by first | exact e.frames | (simpa [VZ,Code.envs,V0,pushEnvs] using e.frames),e.mod,e.bs,e.bsz,e.funs,e.frf,e.hok,e.bare⟩
theorem k8.in1 {outer:List Env} {H:Hp} (e:k8 P w K mg base A outer s H) :
  k8 P w K mg base A.in1 outer s H:=⟨e.frames,e.mod,e.bs,e.bsz,e.funs,e.frf,e.hok,e.bare⟩

section
variable {X:Cx} {σ:St} {H:Hp} {s s':Os}
theorem aC.env0 (I:aC X pins σ H s):k8 X.prog X.w X.K X.mg X.base X.A X.stack s H :=
 ⟨I.ok.frames,I.ok.mod,I.bs,Pi I.ok.bsz I.sz,I.stack,I.stkFree,I.hok,I.bare⟩
theorem aC.after {Q:VK} {u:Om} (I:aC X pins σ H s) (h:CE X.stack X.prog X.w H s Q u s'):EP X pins σ Q u s':=by
 obtain⟨v,H',os,bare,un,hok,r,q⟩:=h
 obtain⟨hh,g,d,t,os'⟩:=s'
 obtain rfl:os'=s.os:=os
 exact⟨v,H',I.call (h':=hh) (g':=g) (d':=d) (t':=t) (ch:=[]) un hok bare (λb z=>absurd z (by simp)),r,q⟩
end
def iV (sp:Sp) (dvs:List V) (E:XK) (t:TA):TE:=λσ H Q=>t σ H λvs H1=>sp (vs++dvs) H1 Q E
def uf (C:Oo) (m:Str) (sp:Sp) (dvs:List V) (E:XK) (ta:TE) (t:TA):TE:=λσ H Q=>ta σ H λx H1=>∃a dx fs,x=.ref a/\H1 a=some (.ins C dx fs)/\fs.lookup m=none /\
 t σ H1 λvs H2=>sp (x::(vs++dvs)) H2 Q E
def Iz (C:Oo) (sp:Sp) (dvs:List V) (E:XK) (t:TA):TE:=λσ H Q=>t σ H λvs H1=>∀x dx,H1 x=none->H1 dx=none->dx≠x ->
 sp (.ref x::(vs++dvs)) (upd (upd H1 dx (.own x)) x (.ins C dx [])) (λv H2=>v=.non/\Q (.ref x) H2) E

def cP (K:Ou) (fd:SH) (ps:List Str) (ds:List Om):Prop :=
 ∀(s:Os) (us:List Om),K.In s.heap->(us++ds).length=ps.length->U6 s fd ⟨us,[]⟩ (ps.zip (us++ds))
theorem cP.all {ps:List Str} (h:∀us:List Om,us.length=ps.length->Sd fd ⟨us,[]⟩=pure (ps.zip us)):cP K fd ps []:=λs us _ hl=>by
 rw [QG] at hl ⊢
 exact .of_eq (h us hl)

def cB (CX:lP) (X:Cx) (E:XK):Prop:=∀(pins:List (Oo×Obj)) (σ:St) (H:Hp) (s:Os) (e:Om) (s':Os),aC X pins σ H s->CX X.stack H s E e s'->X.xe e s'

section
variable {X:Cx} {CX:lP} {k:Nat} {f C:Oo} {ps:List Str} {sp:Sp} {dvs:List V} {ds:List Om} {E:XK} {x m:Str} {p pos apos:Pos} {e o:OP} {ta:TE} {t:TA}
theorem qf {σ:St} {H:Hp} {Q:VK} {vs:List V} (F:cr X.prog X.w X.K X.mg X.base CX k f fd ps sp) (hr:bn k X.A) (hb:cP X.K fd ps ds) (hd:aO dvs ds) (hx:cB CX X E)
  (I:aC X pins σ H s) (r:aO vs us) (h:sp (vs++dvs) H Q E):Ov (OE X.prog X.w) X.A (call (.ref f) us) (EP X pins σ Q) X.xe s:=by
 have r2:aO (vs++dvs) (us++ds):=r.append hd
 have hl:(us++ds).length=ps.length:=by rw [<-r2.length]; exact F.len _ _ _ _ h
 refine RF (PZ (F.run X.A X.stack s H ⟨us,[]⟩ (us++ds) (vs++dvs) Q E hr I.env0 (hb s us I.kIn hl) r2 h) λr s' hq=>?_)
 cases r with
 | error e=>exact hx pins σ H s e s' I hq
 | ok fl =>
  cases fl with
  | ret u=>exact I.after hq
  | next=>exact OX hq
  | brk=>exact OX hq
  | cont=>exact OX hq

theorem Ai (F:cr X.prog X.w X.K X.mg X.base CX k f fd ps sp) (hr:bn k X.A) (hg:Gl X x) (hm:X.mg x=some (.ref f)) (hk:O3 X.K (.ref f)=true) (hb:cP X.K fd ps ds) (hd:aO dvs ds) (hx:cB CX X E)
  (ha:PA X (e::es) t) (hdb:(x == ("__debug__":Str))=false:=by decide) (he:hE9 X e es:=by nofun) (hpl:hP9 X pos es:=by nofun) :
  PE X (.Call (.Name x p) (e::es) [] pos) (iV sp dvs E t):=by
 intro pins s σ H Q I h
 refine Pk (dQ I hg hm ?_ hdb)
 refine Qp (h₀:=X.base) I.ok.mod.kin hk (bG (ha pos pins s σ H _ I h) λus s1 ⟨vs,H1,I1,r,q⟩=>⟨I1.kIn,?_⟩) he hpl
 exact qf F hr hb hd hx I1 r q
theorem DE (F:cr X.prog X.w X.K X.mg X.base CX k f fd ps sp) (hr:bn k X.A) (hg:Gl X x) (hm:X.mg x=some (.ref f)) (hk:O3 X.K (.ref f)=true) (hb:cP X.K fd ps ds) (hd:aO dvs ds) (hx:cB CX X E)
  (hdb:(x == ("__debug__":Str))=false:=by decide):PE X (.Call (.Name x p) [] [] pos) (iV sp dvs E qc):=by
 intro pins s σ H Q I h
 refine Pk (dQ I hg hm ?_ hdb)
 exact Vd I.kIn hk (qf (us:=[]) F hr hb hd hx I .nil h)

theorem GB {pl:Sem Bool} (he:PE X o ta) (c:mX X.K C) (hm:oU X.K C m f) (F:cr X.prog X.w X.K X.mg X.base CX k f fd ps sp) (hr:bn k X.A) (hb:cP X.K fd ps ds) (hd:aO dvs ds) (hx:cB CX X E) (ha:PA X (e::es) t)
  (hst:hE9 X e es:=by nofun) (hpl:hP9 X pos es:=by nofun)
  (ht:O2 (.Call (.Attribute o m apos) (e::es) [] pos) X.env=(do
   let ov <-O2 o X.env
   QL apos.atName
   let (f,first) <-Ra [ov] (QA ov m pl)
   Rk pos f first (Qa pos (OQ (e::es) X.env)) (PD pos (O5 [] X.env))):=by nofun) :
  PE X (.Call (.Attribute o m apos) (e::es) [] pos) (uf C m sp dvs E ta t):=by
 intro pins s σ H Q I h
 refine Ql (pl:=pl) (bG (he pins s σ H _ I h) λu s1 ⟨x,H1,I1,rx,a,dx,fs,ex,ea,l,q⟩=>?_) ht
 subst ex
 obtain rfl:u=OJ a:=rx
 refine eM I1 ea c hm l ?_
 refine Qp (first:=[.ref a]) (h₀:=X.base) I.ok.mod.kin hm.kp (bG (ha pos pins s1 σ H1 _ I1 q) λus s2 ⟨vs,H2,I2,r,q2⟩=>⟨I2.kIn,?_⟩) hst hpl
 exact qf (us:=.ref a::us) (vs:=.ref a::vs) F hr hb hd hx I2 (.cons rfl r) q2
theorem DF {pl:Sem Bool} (he:PE X o ta) (c:mX X.K C) (hm:oU X.K C m f) (F:cr X.prog X.w X.K X.mg X.base CX k f fd ps sp) (hr:bn k X.A) (hb:cP X.K fd ps ds) (hd:aO dvs ds) (hx:cB CX X E)
  (ht:O2 (.Call (.Attribute o m apos) [] [] pos) X.env=(do
   let ov <-O2 o X.env
   QL apos.atName
   let (f,first) <-Ra [ov] (QA ov m pl)
   Rk pos f first (Qa pos (OQ [] X.env)) (PD pos (O5 [] X.env))):=by nofun) :
  PE X (.Call (.Attribute o m apos) [] [] pos) (uf C m sp dvs E ta qc):=by
 intro pins s σ H Q I h
 refine Ql (pl:=pl) (bG (he pins s σ H _ I h) λu s1 ⟨x,H1,I1,rx,a,dx,fs,ex,ea,l,q⟩=>?_) ht
 subst ex
 obtain rfl:u=OJ a:=rx
 refine eM I1 ea c hm l ?_
 exact Vd (first:=[.ref a]) I1.kIn hm.kp (qf (us:=[.ref a]) (vs:=[.ref a]) F hr hb hd hx I1 (.cons rfl .nil) q)

structure Mk (K:Ou) (C f:Oo):Prop where
 makes:Uy K C=true
 init:Pq K (.ref C) "__init__" = some (some (.ref f))
 fn:Sc K (.ref f)=true
 kp:O3 K (.ref C)=true

theorem DG {σ:St} {H:Hp} {Q:VK} {vs:List V} (M:Mk X.K C f) (F:cr X.prog X.w X.K X.mg X.base CX k f fd ps sp) (hr:bn (k+1) X.A) (hb:cP X.K fd ps ds) (hd:aO dvs ds)
  (hx:cB CX X E) (I:aC X pins σ H s) (r:aO vs us)
  (h:∀x dx,H x=none->H dx=none->dx≠x->sp (.ref x::(vs++dvs)) (upd (upd H dx (.own x)) x (.ins C dx [])) (λv H2=>v=.non/\Q (.ref x) H2) E) :
  Ov (OE X.prog X.w) X.A (call (.ref C) us) (EP X pins σ Q) X.xe s:=by
 have hq:=h (s.heap.objs.size+1) s.heap.objs.size (I.hok.fresh (YI _)) (I.hok.fresh (OB _)) (OG (Pj _))
 have I2:=aC.made (C:=C) I
 have r2:aO (V.ref (s.heap.objs.size+1)::(vs++dvs)) (OJ (s.heap.objs.size+1)::(us++ds)):=.cons rfl (r.append hd)
 have hl:(OJ (s.heap.objs.size+1)::us++ds).length=ps.length:=by
  have e:=r2.length
  rw [F.len _ _ _ _ hq] at e
  exact e.symm
 refine RF (wQ (f:=f) I.kIn M.makes M.init (beq_iff_eq.mp M.fn) (PZ (F.run _ X.stack _ _ ⟨OJ (s.heap.objs.size+1)::us,[]⟩ (OJ (s.heap.objs.size+1)::(us++ds)) _ _ E (hr.make C us [])
  (I2.env0.make C us []) (hb _ (OJ (s.heap.objs.size+1)::us) I2.kIn hl) r2 hq) λr s' hq'=>?_))
 cases r with
 | error e=>exact hx pins σ _ _ e s' I2 hq'
 | ok fl =>
  cases fl with
  | ret u =>
   obtain⟨v,H',I3,rv,ev,q3⟩:=I2.after hq'
   subst ev
   exact⟨rv,⟨V.ref (s.heap.objs.size+1),H',I3,rfl,q3⟩⟩
  | next=>exact OX hq'
  | brk=>exact OX hq'
  | cont=>exact OX hq'
theorem GC (M:Mk X.K C f) (F:cr X.prog X.w X.K X.mg X.base CX k f fd ps sp) (hr:bn (k+1) X.A) (hg:Gl X x) (hm:X.mg x=some (.ref C)) (hb:cP X.K fd ps ds) (hd:aO dvs ds) (hx:cB CX X E)
  (ha:PA X (e::es) t) (hdb:(x == ("__debug__":Str))=false:=by decide) (he:hE9 X e es:=by nofun) (hpl:hP9 X pos es:=by nofun) :
  PE X (.Call (.Name x p) (e::es) [] pos) (Iz C sp dvs E t):=by
 intro pins s σ H Q I h
 refine Pk (dQ I hg hm ?_ hdb)
 refine Qp (h₀:=X.base) I.ok.mod.kin M.kp (bG (ha pos pins s σ H _ I h) λus s1 ⟨vs,H1,I1,r,q⟩=>⟨I1.kIn,?_⟩) he hpl
 exact DG M F hr hb hd hx I1 r q
end
def PK (X:Cx) (kws:List Se) (t:TA):Prop :=
 ∀(pos:Pos) (pins:List (Oo×Obj)) (s:Os) (σ:St) (H:Hp) (Q:List V->Hp->Prop),aC X pins σ H s->t σ H Q->Ov (OE X.prog X.w) X.A (Yj ((PD pos (O5 kws X.env)).map (·.2))) (AP X pins σ Q) X.xe s
section
variable {X:Cx} {CX:lP} {k:Nat} {f C:Oo} {ps ks:List Str} {sp:Sp} {E:XK} {x m:Str} {p pos apos kpos:Pos} {e o:OP} {kws:List Se} {te ta:TE} {t tk:TA} {nm:Option Str}
theorem JG:PK X [] qc:=λ_ _ _ _ H Q I h=>Sf ⟨[],H,I,.nil,h⟩
theorem GD (ha:PE X e te) (hr:PK X kws t):PK X (⟨nm,e,kpos⟩::kws) (qd te t):=by
 intro pos pins s σ H Q I h
 show Ov _ _ (Yj ((do let v <-O2 e X.env; QL pos; pure v)::(PD pos (O5 kws X.env)).map (·.2))) _ _ s
 refine Ts (Ol (bG (ha pins s σ H _ I h) λu s1 ⟨x,H1,I1,r1,q1⟩=>Ol (P7 (On ?_))))
 exact bG (hr pos pins s1 σ H1 _ I1 q1) λus s2 ⟨xs,H2,I2,r2,q2⟩=>⟨x::xs,H2,I2,.cons r1 r2,q2⟩

variable {g:List Om->List Om->List Om} {gV:List V->List V->List V}
end
structure al (N P:List Str) (sc:Pp):Prop where
 kind:sc.kind=.function
 co:sc.isCoroutine=false
 gen:sc.isGenerator=false
 nd:N.Nodup
 pre:N.take P.length=P
 par:∀x∈P,sc.names.lookup x=some .local∨sc.names.lookup x=some .cell
 nofree:∀y∈sc.names,y.2≠.free

theorem uh {kindOf:Str->Option QS} {x:Str}:∀{binds:List (Str×Om)} {m:Str->Option Om},(∀v,(x,v) ∉ binds)->Wy kindOf binds m x=m x
 | [],_,_=>rfl
 | (n,v)::r,m,h=>by
  unfold Wy
  rw [uh λw hw=>h w (OF _ hw)]
  split
  ·have:x≠n:=by rintro rfl; exact h v Oz
   simp [this]
  ·rfl
theorem ui {kindOf:Str->Option QS} {x:Str}:∀{binds:List (Str×Om)} {m:Str->Option Om},(∀v,(x,v) ∉ binds)->Wz kindOf binds m x=m x
 | [],_,_=>rfl
 | (n,v)::r,m,h=>by
  unfold Wz
  rw [ui λw hw=>h w (OF _ hw)]
  split
  ·rfl
  ·have:x≠n:=by rintro rfl; exact h v Oz
   simp [this]
theorem uj {kindOf:Str->Option QS} {x:Str} {v:Om}:∀{P:List Str} {vs:List Om} {i:Nat} {m:Str->Option Om},P.Nodup->P[i]?=some x->vs[i]?=some v->kindOf x=some .local ->
  Wy kindOf (P.zip vs) m x=some v
 | [],_,_,_,_,h,_,_=>by simp at h
 | _::_,[],_,_,_,_,h,_=>by simp at h
 | p::P,w::vs,0,m,nd,h1,h2,hk=>by
  simp at h1 h2; subst h1; subst h2
  show Wy kindOf ((p,w)::P.zip vs) m p=_
  unfold Wy
  rw [uh λv hv=>(PM.mp nd).1 (SU hv).1,if_pos hk]
  simp
 | p::P,w::vs,i+1,m,nd,h1,h2,hk=>by
  show Wy kindOf ((p,w)::P.zip vs) m x=_
  unfold Wy
  exact uj (i:=i) (PM.mp nd).2 (by simpa using h1) (by simpa using h2) hk
theorem uk {kindOf:Str->Option QS} {x:Str} {v:Om}:∀{P:List Str} {vs:List Om} {i:Nat} {m:Str->Option Om},P.Nodup->P[i]?=some x->vs[i]?=some v->kindOf x≠some .local ->
  Wz kindOf (P.zip vs) m x=some v
 | [],_,_,_,_,h,_,_=>by simp at h
 | _::_,[],_,_,_,_,h,_=>by simp at h
 | p::P,w::vs,0,m,nd,h1,h2,hk=>by
  simp at h1 h2; subst h1; subst h2
  show Wz kindOf ((p,w)::P.zip vs) m p=_
  unfold Wz
  rw [ui λv hv=>(PM.mp nd).1 (SU hv).1,if_neg hk]
  simp
 | p::P,w::vs,i+1,m,nd,h1,h2,hk=>by
  show Wz kindOf ((p,w)::P.zip vs) m x=_
  unfold Wz
  exact uk (i:=i) (PM.mp nd).2 (by simpa using h1) (by simpa using h2) hk

def fq (N:List Str) (vs:List V):St:=vs.map some++UO (N.length - vs.length) none

@[reducible] def ck (CX:lP) (P:OZ) (w:Pl) (K:Ou) (mg:Str->Option Om) (base:O9) (N:List Str) (qual:Str) (scope:Pp) (f:Oo) (cd:Om) (A:P6) (outer:List Env) (s:Os) (H:Hp) (E:XK):Cx where
 prog:=P
 w:=w
 K:=K
 mg:=mg
 base:=base
 A:=A.deeper (QT qual scope s.heap.objs.size f cd)
 N:=N
 s₀:=s
 H₀:=H
 env:=QT qual scope s.heap.objs.size f cd
 outer:=outer
 stack:=QT qual scope s.heap.objs.size f cd::outer
 ex:=[]
 calm:=true
 fn:=λ_=>true
 pn:=[]
 xe:=λe s'=>Ov (OE P w) (A.deeper (QT qual scope s.heap.objs.size f cd)) (WW (QT qual scope s.heap.objs.size f cd) e) (λ_ s''=>CX outer H s E e s'') (λe' s''=>CX outer H s E e' s'') s'

theorem wR {sc:Pp} {n:Nat} {x:Str} (h:sc.names.lookup x=some .cell):∃c,(U7 n sc.names []).lookup x=some c:=by
 have q:=Sg sc.names n [] (.inl h)
 exact T4.mp q

theorem ul {CX:lP} {N ps:List Str} {qual:Str} {scope:Pp} {f:Oo} {cd:Om} {outer:List Env} {s s1:Os} {H:Hp} {E:XK} {vs:List V}
  (S:al N ps scope) (hd:A.handled=none) (e0:k8 P w K mg base A outer s H) (hl:vs.length=ps.length) (r:aO vs us)
  (x:InCallC s s.heap.objs.size (Wy (QT qual scope s.heap.objs.size f cd).kindOf (ps.zip us) λ_=>none) (U7 (s.heap.objs.size+1) scope.names []) (Wz (QT qual scope s.heap.objs.size f cd).kindOf (ps.zip us) λ_=>none) s1) :
  aC (ck CX P w K mg base N qual scope f cd A outer s H E) [] (fq N vs) H s1:=by
 have hpl:ps.length≤N.length:=by have:=congrArg List.length S.pre; rw [Sv] at this; omega
 obtain⟨h1,tk,rfl,hk⟩:=x.done
 have noA:∀b:Oo,b ∉ (ck CX P w K mg base N qual scope f cd A outer s H E).ex:=λb z=>absurd (show b∈([]:List Oo) from z) (by simp)
 refine⟨⟨e0.mod,S.kind,rfl,rfl,OB _,λy z c h1 h2=>?_,λy hy=>?_,λy c _ h=>?_,λ_=>hd,UP e0.frames,.inr ⟨rfl,rfl⟩,λb z=>absurd z (noA b),e0.bs,e0.bsz,λb _ _=>noA b,λb z=>absurd z (noA b),e0.funs,e0.frf⟩,
  rfl,e0.bare,Un.kept hk,⟨_,x.toInCall.ns,λi y v h1 h2 h3=>?_⟩,λy c h=>⟨_,x.cell y c h⟩,e0.hok.fresh (OB _),λy c h=>?_,λp hp=>absurd (show p∈([]:List (Oo×Obj)) from hp) (by simp),e0.hok.kept hk,?_⟩
 ·exact name_of_addr x.apart (Rj h1) (Rj h2)
 ·have hy:scope.names.lookup y=some .cell∨scope.names.lookup y=some .free:=hy
  rcases hy with hy | hy
  ·exact wR hy
  ·exact absurd rfl (S.nofree _ (Rj hy))
 ·exact PY (x.above y c (Rj h))
 ·have hi:i < vs.length:=by
   unfold fq at h2
   by_cases hi:i < vs.length
   ·exact hi
   ·rw [List.getElem?_append_right (by simpa using hi)] at h2
    rw [List.getElem?_replicate] at h2
    split at h2<;>cases h2
  have ha:vs[i]?=some v:=by
   unfold fq at h2
   rw [PQ (by simpa using hi),PF] at h2
   cases e:vs[i]? with
   | none=>rw [e] at h2; cases h2
   | some a=>rw [e] at h2; cases h2; rfl
  obtain⟨u,hu,rv⟩:=r.get ha
  have hp:ps[i]?=some y:=by
   rw [<-S.pre,List.getElem?_take_of_lt (by omega)]; exact h1
  have ndP:ps.Nodup:=by rw [<-S.pre]; exact S.nd.sublist (List.take_sublist _ _)
  refine⟨u,rv,?_⟩
  rcases S.par y (OR hp) with k | k
  ·exact .inl ⟨k,uj ndP hp hu k⟩
  ·obtain⟨c,e⟩:=wR (n:=s.heap.objs.size+1) k
   refine .inr ⟨.inl k,c,e,?_⟩
   have q:=x.cell y c e
   rw [uk ndP hp hu (by show scope.names.lookup y≠_; rw [k]; decide)] at q
   exact q
 ·exact e0.hok.fresh (PY (x.above y c (Rj h)))
 ·unfold fq
  show _=N.length
  rw [Qq,O7,List.length_replicate]
  omega

theorem DH {CX:lP} {k:Nat} {f:Oo} {name qual:Str} {params:U8} {body:List Rf} {scope:Pp} {dV kV doc pm cdv ct oc:Om} {an od:Option Oo}
  {N ps:List Str} {sp:Sp} (lk:K.lookup f=some ⟨oc,od,.func (Ph name qual params body scope dV kV doc pm an cdv ct),osl⟩) (hcd:Qh K cdv qual=true) (S:al N ps scope)
  (len:∀vs H Q E,sp vs H Q E->vs.length=ps.length)
  (hbody:∀(A:P6) (outer:List Env) (s:Os) (H:Hp) (vs:List V) (Q:VK) (E:XK),bn k (A.deeper (QT qual scope s.heap.objs.size f cdv))->sp vs H Q E ->
   ∃t,gN (ck CX P w K mg base N qual scope f cdv A outer s H E) body t/\t { nx:=λ_ H'=>Q .non H',rt:=Q } (fq N vs) H) :
  cr P w K mg base CX (k+1) f (Ph name qual params body scope dV kV doc pm an cdv ct) ps sp:=by
 refine⟨len,λA outer s H args us vs Q E hr e0 hb r hsp=>?_⟩
 have hl:=len _ _ _ _ hsp
 have KX:K.In s.heap:=e0.mod.kin.keeps λb o e=>(e0.bs b o e).1
 have lim:s.heap.NoLimit:=e0.mod.nolimit.keeps λb o e=>(e0.bs b o e).1
 have hkind:∀y∈ps.zip us,scope.names.lookup y.1=some .local∨(scope.names.lookup y.1=some .cell/\((U7 (s.heap.objs.size+1) scope.names []).lookup y.1).isSome=true):=λ⟨n,v⟩ hy=>by
  rcases S.par n (SU hy).1 with q | q
  ·exact .inl q
  ·exact .inr ⟨q,Sg _ _ _ (.inl q)⟩
 refine UE hr.depth (KX _ _ lk) rfl S.co S.gen rfl (VF KX hcd) (hb _ _ _ _ ?_)
 refine Tt S.kind hkind λenv he s1 x=>?_
 subst he
 refine⟨lim.keeps x.toInCall.keep,Yk ?_⟩
 obtain⟨t,ht,hq⟩:=hbody A outer s H vs Q E (hr.deeper _) hsp
 have I:aC (ck CX P w K mg base N qual scope f cdv A outer s H E) [] (fq N vs) H s1:=ul S hr.hd e0 hl r x
 refine OS (ht [] s1 (fq N vs) H _ I hq) (λfl s' hs=>?_) λe s' hs=>hs
 have fin:∀{σ':St} {H':Hp} {v:V} {u:Om},aC (ck CX P w K mg base N qual scope f cdv A outer s H E) [] σ' H' s'->aP v u->Q v H'->CE outer P w H s Q u s' :=
  λ{σ' H' v u} J rv q=>⟨v,H',J.os,J.bare,J.base,J.hok,rv,q⟩
 cases fl with
 | ret u =>
  obtain⟨v,σ',H',J,rv,q⟩:=hs
  exact fin J rv q
 | next =>
  obtain⟨σ',H',J,q⟩:=hs
  exact fin (v:=V.non) (u:=Pr) J rfl q
 | brk =>
  obtain⟨_,_,_,q⟩:=hs
  exact OX q
 | cont =>
  obtain⟨_,_,_,q⟩:=hs
  exact OX q
section
variable {X:Cx} {x:Str} {p pos:Pos} {e:OP} {t:TA} {id T:String} {r:List V->Hp->VK->Prop}
def K3 (r:List V->Hp->VK->Prop) (t:TA):TE:=λσ H Q=>t σ H λvs H1=>r vs H1 Q
theorem lQ (hc:dI X (.builtin id) r) (hg:Gl X x) (hm:X.mg x=none) (hv:Pb x=some (.builtin id)) (ha:PA X (e::es) t) (hn:x ≠ "__name__":=by decide) (hdb:(x == ("__debug__":Str))=false:=by decide)
  (he:hE9 X e es:=by nofun) (hpl:hP9 X pos es:=by nofun):PE X (.Call (.Name x p) (e::es) [] pos) (K3 r t):=by
 intro pins s σ H Q I h
 refine Pk (iw I hg hm hv ?_ hn hdb)
 exact Rm (bG (ha pos pins s σ H _ I h) λus s1 ⟨vs,H1,I1,r1,q1⟩=>hc pins s1 σ H1 vs us Q I1 r1 q1) he hpl
theorem uo (hc:dI X (.type T) r) (hg:Gl X x) (hm:X.mg x=none) (hv:Pb x=some (.type T)) (ha:PA X (e::es) t) (hn:x ≠ "__name__":=by decide) (hdb:(x == ("__debug__":Str))=false:=by decide)
  (he:hE9 X e es:=by nofun) (hpl:hP9 X pos es:=by nofun):PE X (.Call (.Name x p) (e::es) [] pos) (K3 r t):=by
 intro pins s σ H Q I h
 refine Pk (iw I hg hm hv ?_ hn hdb)
 exact RA (bG (ha pos pins s σ H _ I h) λus s1 ⟨vs,H1,I1,r1,q1⟩=>hc pins s1 σ H1 vs us Q I1 r1 q1) he hpl
end
end L2
variable {xs:List L2.V} {vs:List L2.V} {H:L2.Hp} {X:L2.Cx} {σ:L2.St}
namespace HT
open PySem PyProof.Rows
section
open PySem.SeqAt
open PySem.AutoSeq1 (wpAny_loadPart')
open PySem.MeetsSeq PySem.MeetsSeq2 PySem.MeetsSeq3
end
section
theorem cat_tup {t b:Oo} {vs ws:List Om} {Q:Om->Os->Prop} (ht:Vo s.heap t vs.toArray) (hb:Vo s.heap b ws.toArray) (hv:vs≠[])
  (h1:ws=[]->Q (.ref t) s) (h2:ws≠[]->Q (.ref s.heap.objs.size) { s with heap:=s.heap.push { cls:=.type "tuple",data:=.seq (vs++ws).toArray } })
  (hsz:vs.length+ws.length≤OA):Ov (OE prog w) A (RE .Add (.ref t) (.ref b)) Q E s:=by
 obtain⟨⟨cls,dd,data,sl⟩,ho,hc,n,hd⟩:=id ht
 obtain⟨⟨cls2,dd2,data2,sl2⟩,ho2,hc2,n2,hd2⟩:=id hb
 simp only at hc hd hc2 hd2
 subst hc hd hc2 hd2
 have e:vs.toArray++ws.toArray=(vs++ws).toArray:=by simp
 by_cases hw:ws=[]
 ·exact V1 ⟨_,ho,rfl⟩ ⟨_,ho2,rfl⟩ T7 Vr Sh R5 (RN _ _)
   (tuple_addW1 t b vs.toArray ws.toArray n n2 dd dd2 sl sl2 (by simpa using hv) (by simp [hw])) ⟨ho,ho2,h1 hw⟩
 ·refine V1 ⟨_,ho,rfl⟩ ⟨_,ho2,rfl⟩ T7 Vr Sh R5 (RN _ _)
   (tuple_addW2 t b vs.toArray ws.toArray n n2 dd dd2 sl sl2 (by simpa using hv) (by simpa using hw) (by rw [Ot,Ot]; exact hsz)) ⟨ho,ho2,?_⟩
  rw [e]
  exact h2 hw

def sIx (n d:Nat):Option Int->Nat
 | none=>d
 | some v=>if v < 0 then (v+(n:Int)).toNat else min v.toNat n
theorem sIx_none (n d:Nat):sIx n d none=d:=rfl
theorem sIx_nat (n d k:Nat):sIx n d (some (k:Int))=min k n:=by
 show (if (k:Int) < 0 then ((k:Int)+(n:Int)).toNat else min (k:Int).toNat n)=min k n
 rw [if_neg (by omega),RD]
theorem JH (n d:Nat) (hd:d≤n) (o:Option Int):sIx n d o≤n:=by
 cases o with
 | none=>exact hd
 | some v =>
  show (if v < 0 then (v+(n:Int)).toNat else min v.toNat n)≤n
  by_cases hv:v < 0
  ·rw [if_pos hv]; omega
  ·rw [if_neg hv]; exact Nat.min_le_right _ _
theorem Aj (v:Int) (n d:Nat):(if v < 0 then max (v+(n:Int)) 0 else min v (n:Int))=((sIx n d (some v):Nat):Int):=by
 show (if v < 0 then max (v+(n:Int)) 0 else min v (n:Int))=(((if v < 0 then (v+(n:Int)).toNat else min v.toNat n):Nat):Int)
 by_cases hv:v < 0
 ·simp only [if_pos hv]; omega
 ·simp only [if_neg hv]; omega
theorem yN (lo hi:Option Int) (n:Nat):RL lo hi 1 (n:Int)=(((sIx n 0 lo:Nat):Int),((sIx n n hi:Nat):Int)):=by
 have h1:¬((1:Int) < 0):=by omega
 unfold RL
 simp only [h1,if_false]
 refine Prod.ext ?_ ?_
 ·cases lo with
  | none=>rfl
  | some v=>exact Aj v n 0
 ·cases hi with
  | none=>rfl
  | some v=>exact Aj v n n
theorem yO (i j:Nat):QY (i:Int) (j:Int) 1=j - i:=by
 unfold QY
 have h1:(1:Int) > 0:=by omega
 simp only [h1,if_true,Int.ediv_one]
 split<;>omega
theorem qg {v:Om} {o:Option Int} {Q:Option Int->Os->Prop} (p:Uk v o) (h:Q o s):Ov (OE prog w) A (WF v) Q E s:=by
 cases p with
 | none=>exact W6 h
 | int i t=>exact slicePart_int h
theorem sliceApplied_gen {sl:Oo} {vl vu:Om} {lo hi:Option Int} {n:Nat} {Q:Int×Int×Nat->Os->Prop} (hs:s.heap.IsSliceOf sl vl vu .none) (pl:Uk vl lo) (pu:Uk vu hi)
  (h:Q (((sIx n 0 lo:Nat):Int),1,sIx n n hi - sIx n 0 lo) s):Ov (OE prog w) A (Tu (.ref sl) (pure (n:Int))) Q E s:=by
 obtain⟨os,hos,hcs,hds⟩:=id hs
 unfold Tu XC
 refine Ol (Ol (Rc hos hds (x:=vl) rfl (Ol (Rc hos hds (x:=vu) rfl (Ol (Rc hos hds (x:=.none) rfl (On ?_)))))))
 refine Ol (W6 ?_)
 show Ov _ _ (if ((1:Int) == 0)=true then _ else _) _ _ s
 rw [if_neg (by decide)]
 refine Ol (qg pl (Ol (qg pu (Ol (On ?_)))))
 show Ov _ _ (match RL lo hi 1 (n:Int) with | (lo,hi)=>pure (lo,(1:Int),QY lo hi 1)) _ _ s
 rw [yN lo hi n]
 show Ov _ _ (pure (((sIx n 0 lo:Nat):Int),(1:Int),QY ((sIx n 0 lo:Nat):Int) ((sIx n n hi:Nat):Int) 1)) _ _ s
 rw [yO]
 exact On h
theorem DI (xs:Array Om) (i k:Nat):((Ss k).filterMap λ(m:Nat)=>xs[((i:Int)+(m:Int) * 1).toNat]?).toArray=((xs.toList.drop i).take k).toArray:=by
 have e:(λ(m:Nat)=>xs[((i:Int)+(m:Int) * 1).toNat]?)=λm=>xs[i+m]?:=by
  funext m
  have:((i:Int)+(m:Int) * 1).toNat=i+m:=by omega
  rw [this]
 rw [e]
 have:=pick_run xs i k
 rw [List.filterMap_map] at this
 have e2:((λx=>xs[x]?)∘λx=>i+x)=λm=>xs[i+m]?:=rfl
 rw [e2] at this
 rw [this]

theorem getItem_tuple_cut {t sl:Oo} {items:Array Om} {vl vu:Om} {lo hi:Option Int} {Q:Om->Os->Prop} (ht:Vo s.heap t items) (hs:s.heap.IsSliceOf sl vl vu .none) (pl:Uk vl lo) (pu:Uk vu hi)
  (hw:¬(sIx items.size 0 lo=0/\sIx items.size items.size hi=items.size))
  (h:Q (.ref s.heap.objs.size) { s with heap:=s.heap.push { cls:=.type "tuple",data:=.seq ((items.toList.drop (sIx items.size 0 lo)).take (sIx items.size items.size hi - sIx items.size 0 lo)).toArray } })
  (hsz:items.size≤OA):Ov (OE prog w) A (S9 (.ref t) (.ref sl)) Q E s:=by
 have htake:sizeOk (.seq ((items.toList.drop (sIx items.size 0 lo)).take (sIx items.size items.size hi - sIx items.size 0 lo)).toArray):=by
  show ((items.toList.drop (sIx items.size 0 lo)).take (sIx items.size items.size hi - sIx items.size 0 lo)).toArray.size≤OA
  rw [Ot,Sv,T8,O6]
  omega
 have hj:sIx items.size items.size hi≤items.size:=JH _ _ (OB _) hi
 obtain⟨os,hos,hcs,hds⟩:=id hs
 have hTs:s.TypeIs (.ref sl) "slice":=⟨os,hos,hcs⟩
 unfold S9
 try with_reducible refine Ps ?_
 first | refine Ol (On ?_) | skip
 refine Ol (V2 ht.typeIs (by decide) ?_)
 refine Ol (P4 (name:=Oq "__getitem__") ht.typeIs Pf
  (Po Pf ht.typeIs Ve ?_ (VG _ _)))
 show Ov _ _ (Tv (.ref t) >>= _) _ _ s
 refine Ol (XX ht ?_)
 refine Ol (Ul hTs ?_)
 rw [if_pos (by decide)]
 refine Ol (sliceApplied_gen hs pl pu ?_)
 have hno:¬((((sIx items.size 0 lo:Nat):Int) == 0 && (1:Int) == 1 && (sIx items.size items.size hi - sIx items.size 0 lo) == items.size)=true):=by
  intro q
  rw [OI,OI] at q
  have q1:((sIx items.size 0 lo:Nat):Int)=0:=eq_of_beq q.1.1
  have q2:sIx items.size items.size hi - sIx items.size 0 lo=items.size:=eq_of_beq q.2
  exact hw ⟨by omega,by omega⟩
 show Ov _ _ (if (((sIx items.size 0 lo:Nat):Int) == 0 && (1:Int) == 1 && (sIx items.size items.size hi - sIx items.size 0 lo) == items.size)=true then _ else _) _ _ s
 rw [if_neg hno,DI]
 first
  | exact Ol (m:=Rg _) (Pc (On ⟨_,rfl,On h⟩) htake)
  | exact Ol (m:=Rg _) (Pc (Ol (On (On ⟨_,rfl,On h⟩))) htake)
  | exact Ol (Ol (m:=Rg _) (Pc (On (On ⟨_,rfl,On h⟩)) htake))
  | exact Ol (Ol (m:=Rg _) (Pc (On ⟨_,rfl,On h⟩) htake))
end
end HT
namespace L2
open PySem PySem.Spec PyProof.Rows
abbrev TO:=St->Hp->(Option Int->Hp->Prop)->Prop
def PO (X:Cx) (e:Option OP) (t:TO):Prop :=
 ∀(pins:List (Oo×Obj)) (s:Os) (σ:St) (H:Hp) (Q:Option Int->Hp->Prop),aC X pins σ H s->t σ H Q ->
  Ov (OE X.prog X.w) X.A (evalPart e X.env) (λu s'=>∃o H',aC X pins σ H' s'/\Uk u o/\Q o H') X.xe s
def Ak:TO:=λ_ H Q=>Q none H
def IA (t:TE):TO:=λσ H Q=>t σ H λx H1=>∃i,x=.int i/\Q (some i) H1

section
variable {e:OP} {te:TE} {lo hi:Option OP} {tl th:TO} {pos p2:Pos}
theorem Al:PO X none Ak:=by
 intro pins s σ H Q I h
 rw [XY]
 exact On ⟨none,H,I,.none,h⟩
theorem Am (h:PE X e te):PO X (some e) (IA te):=by
 intro pins s σ H Q I hw
 rw [evalPart_some]
 refine bG (h pins s σ H _ I hw) λu s1 ⟨x,H1,I1,r1,q1⟩=>?_
 obtain⟨i,rfl,q⟩:=q1
 obtain⟨t,rfl⟩:=r1
 exact⟨some i,H1,I1,.int i t,q⟩

def K4 (X:Cx) (r:V->Option Int->Option Int->Hp->VK->Prop):Prop :=
 ∀(pins:List (Oo×Obj)) (s:Os) (σ:St) (H:Hp) (x:V) (v vl vu:Om) (lo hi:Option Int) (sl:Oo) (Q:VK),aC X pins σ H s->aP x v->s.heap.IsSliceOf sl vl vu .none->Uk vl lo->Uk vu hi->r x lo hi H Q ->
  ∃T id,typeLookup (.type T) "__getitem__" = pure (some (.builtin id))/\s.TypeIs v T/\Ov (OE X.prog X.w) X.A (S9 v (.ref sl)) (EP X pins σ Q) X.xe s
def N5 (r:V->Option Int->Option Int->Hp->VK->Prop) (te:TE) (tl th:TO):TE:=λσ H Q=>te σ H λx H1=>tl σ H1 λl H2=>th σ H2 λu H3=>r x l u H3 Q
theorem wS {r:V->Option Int->Option Int->Hp->VK->Prop} (hr:K4 X r) (he:PE X e te) (hl:PO X lo tl) (hu:PO X hi th):PE X (.Subscript e (.Slice lo hi none p2) pos) (N5 r te tl th):=by
 intro pins s σ H Q I h
 refine VH (bG (he pins s σ H _ I h) λv s1 ⟨x,H1,I1,r1,q1⟩=>?_)
 refine wpAny_Slice (bG (hl pins s1 σ H1 _ I1 q1) λvl s2 ⟨l,H2,I2,pl,q2⟩=>bG (hu pins s2 σ H2 _ I2 q2) λvu s3 ⟨u,H3,I3,pu,q3⟩=>?_)
 rw [XY]
 refine On ?_
 have I4:aC X pins σ H3 { s3 with heap:=s3.heap.push { cls:=.type "slice",data:=.fields #[vl,vu,.none] } }:=I3.kept (t':=s3.toks) λb ob q=>Op _ q
 obtain⟨T,id,hT,ht,hg⟩:=hr pins { s3 with heap:=s3.heap.push { cls:=.type "slice",data:=.fields #[vl,vu,.none] } } σ H3 x v vl vu l u s3.heap.objs.size Q I4 r1 (Zk ..) pl pu q3
 show Ov (OE X.prog X.w) X.A (Vs e (.Slice lo hi none p2) v (.ref s3.heap.objs.size)) (EP X pins σ Q) X.xe { s3 with heap:=s3.heap.push { cls:=.type "slice",data:=.fields #[vl,vu,.none] } }
 exact tail_any (ops:=[.ref s3.heap.objs.size,v]) ht hT hg (by nofun)

def k9 (xs:List V) (lo hi:Option Int):List V:=(xs.drop (HT.sIx xs.length 0 lo)).take (HT.sIx xs.length xs.length hi - HT.sIx xs.length 0 lo)
theorem og (xs:List V) (lo hi:Option Int):(k9 xs lo hi).length≤xs.length:=by
 unfold k9
 rw [Sv,T8]
 omega
def No (K:Ou):V->Option Int->Option Int->Hp->VK->Prop:=λx lo hi H Q=>∃a xs,x=.ref a/\hZ K H a xs /\
 ¬(HT.sIx xs.length 0 lo=0/\HT.sIx xs.length xs.length hi=xs.length)/\∀p,H p=none->Q (.ref p) (upd H p (.tup (k9 xs lo hi)))
theorem JI:K4 X (No X.K):=by
 intro pins s σ H x v vl vu lo hi sl Q I rx hs pl pu h
 obtain⟨a,xs,rfl,hx,hw,q⟩:=h
 cases rx
 obtain⟨its,r,ht,hz⟩:=I.tuple hx
 have hlen:its.toArray.size=xs.length:=by rw [Ot]; exact r.length.symm
 refine⟨"tuple",_,Pf.lookup,ht.typeIs,?_⟩
 refine HT.getItem_tuple_cut ht hs pl pu (by rw [hlen]; exact hw) ?_ (by rw [hlen]; exact hz)
 rw [hlen]
 refine⟨.ref s.heap.objs.size,_,I.laid (t':=s.toks) (o:=.tup (k9 xs lo hi)) (λb ob q=>Op _ q) (OB _) ?_,rfl,q _ (I.hok.fresh (OB _))⟩
 exact⟨Pi (og xs lo hi) hz,_,(r.drop (HT.sIx xs.length 0 lo)).take (HT.sIx xs.length xs.length hi - HT.sIx xs.length 0 lo),Wf _ _⟩

def LC (K:Ou):R2:=λx y H Q=>∃a b xs ys,x=.ref a/\y=.ref b/\hZ K H a xs/\hZ K H b ys/\xs≠[]/\xs.length+ys.length≤OA /\
 (ys=[]->Q (.ref a) H)/\(ys≠[]->∀p,H p=none->Q (.ref p) (upd H p (.tup (xs++ys))))
theorem aO.nil_iff (r:aO xs us):us=[] ↔ xs=[]:=by
 cases r with
 | nil=>simp
 | cons _ _=>simp
theorem GE:lO X (RE .Add) (LC X.K):=by
 intro pins s σ H x y v u Q I rx ry h
 obtain⟨a,b,xs,ys,rfl,rfl,ha,hb,hx,hz,q1,q2⟩:=h
 cases rx
 cases ry
 obtain⟨its,r1,p1,_⟩:=I.tuple ha
 obtain⟨its2,r2,p2,_⟩:=I.tuple hb
 refine HT.cat_tup p1 p2 (λz=>hx (r1.nil_iff.mp z)) (λz=>⟨.ref a,H,I,rfl,q1 (r2.nil_iff.mp z)⟩) (λz=>?_) (by rw [<-r1.length,<-r2.length]; exact hz)
 refine⟨.ref s.heap.objs.size,_,I.laid (t':=s.toks) (o:=.tup (xs++ys)) (λb ob q=>Op _ q) (OB _) ?_,rfl,q2 (λw=>z (r2.nil_iff.mpr w)) _ (I.hok.fresh (OB _))⟩
 exact⟨by rw [Qq]; exact hz,_,r1.append r2,Wf _ _⟩
end
def DJ (n:Nat) (i:Int):Option Nat:=if 0≤i then (if i < n then some i.toNat else none) else if -(n:Int)≤i then some (i+n).toNat else none
def Gg {α:Type} (xs:List α) (i:Int):Option α:=(DJ xs.length i).bind λj=>xs[j]?
theorem GF {n:Nat} {i:Int} {j:Nat} (h:DJ n i=some j):X8 i n=some j/\j < n /\ -(n:Int)≤i/\i < n:=by
 unfold DJ at h
 by_cases h0:0≤i
 ·rw [if_pos h0] at h
  by_cases h1:i < n
  ·rw [if_pos h1] at h
   have e:i.toNat=j:=OU h
   exact⟨by rw [seqIndex_of h0 h1,e],by omega,by omega,h1⟩
  ·rw [if_neg h1] at h; cases h
 ·rw [if_neg h0] at h
  by_cases h1:-(n:Int)≤i
  ·rw [if_pos h1] at h
   have e:(i+n).toNat=j:=OU h
   exact⟨by rw [seqIndex_neg (by omega) h1,e],by omega,h1,by omega⟩
  ·rw [if_neg h1] at h; cases h
theorem An {α:Type} {xs:List α} {i:Int} {v:α} (h:Gg xs i=some v):∃j,X8 i xs.length=some j/\xs[j]?=some v/\j < xs.length /\ -(xs.length:Int)≤i/\i < xs.length:=by
 unfold Gg at h
 cases e:DJ xs.length i with
 | none=>rw [e] at h; cases h
 | some j =>
  rw [e] at h
  obtain⟨h1,h2,h3,h4⟩:=GF e
  exact⟨j,h1,h,h2,h3,h4⟩
theorem Ao {α:Type} {xs:List α} {j:Nat} {v:α} (h:xs[j]?=some v):Gg xs (j:Int)=some v:=by
 have hj:j < xs.length:=(Ow.mp h).1
 have e:DJ xs.length (j:Int)=some j:=by
  unfold DJ
  rw [if_pos (by omega),if_pos (by omega)]; simp
 unfold Gg; rw [e]; exact h
def Ap (b:OP):Prop:=∀o i,UQ b false o i=ZB [o,i] (S9 o i)
def MV (X:Cx) (r:R2):Prop :=
 ∀(value slice:OP) (pins:List (Oo×Obj)) (s:Os) (σ:St) (H:Hp) (x y:V) (v u:Om) (Q:VK),aC X pins σ H s->aP x v->aP y u->r x y H Q ->
  UQ slice false v u=ZB [v,u] (S9 v u)->Ov (OE X.prog X.w) X.A (Vs value slice v u) (EP X pins σ Q) X.xe s
def Oc (X:Cx) (id:String) (r:V->List V->Hp->VK->Prop):Prop :=
 ∀(pins:List (Oo×Obj)) (s:Os) (σ:St) (H:Hp) (x:V) (xs:List V) (v:Om) (us:List Om) (Q:VK),aC X pins σ H s->aP x v->aO xs us->r x xs H Q ->
  Ov (OE X.prog X.w) X.A (call (.builtin id) (v::us)) (EP X pins σ Q) X.xe s
section
variable {a b:OP} {ta tb:TE}
theorem IB {r:R2} (hr:MV X r) (ha:PE X a ta) (hb:PE X b tb) (hs:Ap b):PE X (.Subscript a b pos) (Jy r ta tb):=by
 intro pins s σ H Q I h
 exact VH (Jz ha hb I h λv u s2 x y H2 I2 rx ry q=>hr a b pins s2 σ H2 x y v u Q I2 rx ry q (hs _ _))

def Np (K:Ou):R2:=λx y H Q=>∃p xs i v,x=.ref p/\y=.int i/\hW K H p xs/\Gg xs i=some v/\Q v H
def Nq (K:Ou):R2:=λx y H Q=>∃p xs i v,x=.ref p/\y=.int i/\hZ K H p xs/\Gg xs i=some v/\Q v H
theorem Aq:MV X (Np X.K):=by
 intro value slice pins s σ H x y v u Q I rx ry h hs
 obtain⟨p,xs,i,z,rfl,rfl,hq,he,q⟩:=h
 cases rx
 obtain⟨t,rfl⟩:=ry
 obtain⟨its,r,pl,hz⟩:=I.list hq
 obtain⟨j,h1,h2,h3,h4,h5⟩:=An he
 obtain⟨w,ew,rw'⟩:=r.get h2
 have hl:=r.length
 have hn:=qb
 have fin:EP X pins σ Q w s:=⟨z,H,I,rw',q⟩
 by_cases h0:0≤i
 ·have hj:i.toNat=j:=by
   rw [seqIndex_of h0 h5] at h1
   exact OU h1
  exact item_listR pl.isList h0 (by omega) (by rw [hj]; simpa using ew) fin hs
 ·have hj:(i+(its.toArray.size:Int)).toNat=j:=by
   rw [seqIndex_neg (by omega) h4] at h1
   rw [Ot,<-hl]
   exact OU h1
  exact Si (x:=w) pl.isList.typeIs V3.lookup
   (wpAny_getItem_list_neg (Q:=λr s'=>r=w/\EP X pins σ Q r s') pl.isList (by omega) (by rw [Ot]<;>omega) (by omega) (by rw [hj]; simpa using ew) ⟨rfl,fin⟩) hs
theorem JJ:MV X (Nq X.K):=by
 intro value slice pins s σ H x y v u Q I rx ry h hs
 obtain⟨p,xs,i,z,rfl,rfl,hq,he,q⟩:=h
 cases rx
 obtain⟨t,rfl⟩:=ry
 obtain⟨its,r,pl,hz⟩:=I.tuple hq
 obtain⟨j,h1,h2,h3,h4,h5⟩:=An he
 obtain⟨w,ew,rw'⟩:=r.get h2
 have hl:=r.length
 have hn:=qb
 have fin:EP X pins σ Q w s:=⟨z,H,I,rw',q⟩
 exact Si (x:=w) pl.typeIs Pf.lookup
  (XZ (j:=j) (Q:=λr s'=>r=w/\EP X pins σ Q r s') pl (by omega) (by omega) (by rw [Ot,<-hl]; exact h1) (by simpa using ew) ⟨rfl,fin⟩) hs
theorem aC.lst {pins:List (Oo×Obj)} {σ:St} {H:Hp} {s:Os} {p:Oo} {xs:List V} (I:aC X pins σ H s) (h:H p=some (.lst xs)) :
  ∃(its:List Om) (n:Nat),aO xs its/\s.heap.get? p=some { cls:=.type "list",data:=.seq its.toArray n }/\xs.length≤OA:=by
 obtain⟨z,its,n,r,e⟩:=I.hok p _ h
 exact⟨its,n,r,e,z⟩
theorem aC.lstUpd {p:Oo} {xs ys:List V} {its its':List Om} {n n':Nat} {f:Obj->Obj} (I:aC X pins σ H s) (h:H p=some (.lst xs))
  (ho:s.heap.get? p=some { cls:=.type "list",data:=.seq its.toArray n }) (hf:f { cls:=.type "list",data:=.seq its.toArray n }={ cls:=.type "list",data:=.seq its'.toArray n' }) (r:aO ys its') (hz:ys.length≤OA) (t:Nat) :
  aC X pins σ (upd H p (.lst ys)) { s with heap:=s.heap.update p f,toks:=t }:=by
 have e:(s.heap.update p f).get? p=some { cls:=.type "list",data:=.seq its'.toArray n' }:=by
  rw [Rx f ho (by rw [hf]<;>rfl),hf]
 refine I.write (x:=p) (e:=p) (by rw [h]; trivial) (.inl rfl) (λb u hb q=>(QM _ _ (P5 hb)).trans q) ⟨_,e⟩ ?_
 exact⟨hz,its',n',r,e⟩
def IC:V->V->V->Hp->(Hp->Prop)->Prop:=λo i v H Q=>∃p xs k j,o=.ref p/\i=.int k/\H p=some (.lst xs)/\DJ xs.length k=some j/\Q (upd H p (.lst (xs.set j v)))
theorem vi (lo hi:Option Int) (n:Nat):(R6 lo hi none n).1=((HT.sIx n 0 lo:Nat):Int)/\(R6 lo hi none n).2.1=((HT.sIx n n hi:Nat):Int)/\(R6 lo hi none n).2.2=1:=by
 refine⟨?_,?_,rfl⟩
 ·cases lo with
  | none=>simp [R6,HT.sIx]
  | some i =>
   simp only [R6,HT.sIx,Wi,show (1:Int) > 0 by decide,if_true]
   by_cases h:i < 0
   ·simp only [h,if_true]<;>omega
   ·simp only [h,if_false]<;>omega
 ·cases hi with
  | none=>simp [R6,HT.sIx]
  | some i =>
   simp only [R6,HT.sIx,Wi,show (1:Int) > 0 by decide,if_true]
   by_cases h:i < 0
   ·simp only [h,if_true]<;>omega
   ·simp only [h,if_false]<;>omega
theorem sw (its:List Om) (lo hi:Option Int):slicePick its.toArray lo hi none=((its.drop (HT.sIx its.length 0 lo)).take (HT.sIx its.length its.length hi - HT.sIx its.length 0 lo)).toArray:=by
 obtain⟨h1,h2,h3⟩:=vi lo hi its.toArray.size
 unfold slicePick
 rw [h1,h2,h3]
 simp only [sliceRange_one,pick_run,Ot]<;>rfl
def Nr (K:Ou):V->Option Int->Option Int->Hp->VK->Prop:=λx lo hi H Q=>∃a xs,x=.ref a/\hW K H a xs/\∀p,H p=none->Q (.ref p) (upd H p (.lst (k9 xs lo hi)))
theorem MW:K4 X (Nr X.K):=by
 intro pins s σ H x v vl vu lo hi sl Q I rx hs pl pu h
 obtain⟨a,xs,rfl,hx,q⟩:=h
 cases rx
 obtain⟨its,r,ht,hz⟩:=I.list hx
 have hlen:=r.length
 refine⟨"list",_,V3.lookup,ht.isList.typeIs,?_⟩
 refine wpAny_getItem_list_slice ht.isList hs pl pu .none (by simp) ?_ (by rw [Ot]<;>omega)
 rw [sw,<-hlen]
 refine⟨.ref s.heap.objs.size,_,I.laid (t':=s.toks) (o:=.lst (k9 xs lo hi)) (λb ob q=>Op _ q) (OB _) ?_,rfl,q _ (I.hok.fresh (OB _))⟩
 exact⟨Pi (og xs lo hi) hz,_,0,(r.drop (HT.sIx xs.length 0 lo)).take (HT.sIx xs.length xs.length hi - HT.sIx xs.length 0 lo),Ox _ rfl⟩

def er:V->Bool
 | .non=>true
 | .bl _=>true
 | .int _=>true
 | .str _=>true
 | _=>false
def yA:V->V->Bool
 | .non,.non=>true
 | .bl a,.bl b=>a == b
 | .bl a,.int b=>(if a then 1 else 0) == b
 | .int a,.bl b=>a == (if b then 1 else 0)
 | .int a,.int b=>a == b
 | .str a,.str b=>a == b
 | _,_=>false
theorem DK {y x:V} {u v:Om} (ry:aP y u) (rx:aP x v) (fy:er y=true) (fx:er x=true):Sw A s u v (yA y x):=by
 cases y with
 | non =>
  cases ry
  cases x with
  | non=>cases rx; exact WG _
  | bl b=>cases rx; exact YJ b
  | int b=>obtain⟨t,rfl⟩:=rx; exact Y4 b t
  | str b=>obtain⟨t,rfl⟩:=rx; exact Y5 b t
  | _=>exact absurd (show false=true from fx) OK
 | bl a =>
  cases ry
  cases x with
  | non=>cases rx; exact YK a
  | bl b=>cases rx; exact YL a b
  | int b=>obtain⟨t,rfl⟩:=rx; exact Y6 a b t
  | str b=>obtain⟨t,rfl⟩:=rx; exact Y7 a b t
  | _=>exact absurd (show false=true from fx) OK
 | int a =>
  obtain⟨t',rfl⟩:=ry
  cases x with
  | non=>cases rx; exact Y8 a t'
  | bl b=>cases rx; exact Y9 a t' b
  | int b=>obtain⟨t,rfl⟩:=rx; exact Zl a t' b t
  | str b=>obtain⟨t,rfl⟩:=rx; exact Vz a t' b t
  | _=>exact absurd (show false=true from fx) OK
 | str a =>
  obtain⟨t',rfl⟩:=ry
  cases x with
  | non=>cases rx; exact Za a t'
  | bl b=>cases rx; exact Zb a t' b
  | int b=>obtain⟨t,rfl⟩:=rx; exact VA a t' b t
  | str b=>obtain⟨t,rfl⟩:=rx; exact Zm a t' b t
  | _=>exact absurd (show false=true from fx) OK
 | _=>exact absurd (show false=true from fy) OK
def yP (x:V) (u:Om):Bool:=match u with
 | .none=>yA .non x
 | .bool b=>yA (.bl b) x
 | .int i _=>yA (.int i) x
 | .str z _=>yA (.str z) x
 | _=>false
theorem DL {x y:V} {u:Om} (r:aP y u) (f:er y=true):yP x u=yA y x:=by
 cases y with
 | non=>cases r; rfl
 | bl b=>cases r; rfl
 | int i=>obtain⟨t,rfl⟩:=r; rfl
 | str z=>obtain⟨t,rfl⟩:=r; rfl
 | _=>exact absurd (show false=true from f) OK
theorem lR {x:V}:∀{xs:List V} {us:List Om},aO xs us->xs.all er=true->us.any (yP x)=xs.any λy=>yA y x
 | _,_,.nil,_=>rfl
 | y::xs,u::us,.cons r t,f=>by
  rw [Qx,OI] at f
  rw [RO,RO,DL r f.1,lR t f.2]
theorem jl {A:P6} {s:Os} {x:V} {v:Om} (rx:aP x v) (fx:er x=true):∀{xs:List V} {us:List Om},aO xs us->xs.all er=true->∀u∈us,Sw A s u v (yP x u)
 | _,_,.nil,_=>λu hu=>by cases hu
 | y::xs,u::us,.cons r t,f=>λu' hu=>by
  rw [Qx,OI] at f
  rcases ON.mp hu with rfl | hu
  ·rw [DL r f.1]; exact DK r rx f.1 fx
  ·exact jl rx fx t f.2 u' hu
def Gh (x:V) (xs:List V):Bool:=xs.any λy=>yA y x
def Nt (K:Ou) (neg:Bool):R2:=λx y H Q=>∃p xs,y=.ref p/\(hW K H p xs∨hZ K H p xs)/\er x=true/\xs.all er=true/\Q (.bl (if neg then !Gh x xs else Gh x xs)) H
theorem BJ:lO X (P3 .In) (Nt X.K false):=by
 intro pins s σ H x y v u Q I rx ry h
 obtain⟨p,xs,rfl,hq,fx,fs,q⟩:=h
 cases ry
 rcases hq with hq | hq
 ·obtain⟨its,r,pl,hz⟩:=I.list hq
  refine SeqAt.in_listAt (yP x) pl.isList (λw hw=>jl rx fx r fs w (by simpa using hw)) ⟨.bl _,H,I,rfl,?_⟩
  rw [show its.toArray.any (yP x)=its.any (yP x) by simp,lR r fs]
  exact q
 ·obtain⟨its,r,pl,hz⟩:=I.tuple hq
  refine SeqAt.in_tupleAt (yP x) pl (λw hw=>jl rx fx r fs w (by simpa using hw)) ⟨.bl _,H,I,rfl,?_⟩
  rw [show its.toArray.any (yP x)=its.any (yP x) by simp,lR r fs]
  exact q
theorem lS:lO X (P3 .NotIn) (Nt X.K true):=by
 intro pins s σ H x y v u Q I rx ry h
 obtain⟨p,xs,rfl,hq,fx,fs,q⟩:=h
 cases ry
 rcases hq with hq | hq
 ·obtain⟨its,r,pl,hz⟩:=I.list hq
  refine SeqAt.notIn_listAt (yP x) pl.isList (λw hw=>jl rx fx r fs w (by simpa using hw)) ⟨.bl _,H,I,rfl,?_⟩
  rw [show its.toArray.any (yP x)=its.any (yP x) by simp,lR r fs]
  exact q
 ·obtain⟨its,r,pl,hz⟩:=I.tuple hq
  refine SeqAt.notIn_tupleAt (yP x) pl (λw hw=>jl rx fx r fs w (by simpa using hw)) ⟨.bl _,H,I,rfl,?_⟩
  rw [show its.toArray.any (yP x)=its.any (yP x) by simp,lR r fs]
  exact q
theorem lT:dI X (.builtin "len") (λxs H Q=>∃p ys,xs=[.ref p]/\(hW X.K H p ys∨hZ X.K H p ys)/\Q (.int ys.length) H):=by
 intro pins s σ H xs us Q I r h
 obtain⟨p,ys,rfl,hq,q⟩:=h
 obtain⟨u,rfl,rx⟩:=jk r
 cases rx
 have hn:=qb
 rcases hq with hq | hq
 ·obtain⟨its,r',pl,hz⟩:=I.list hq
  have hlen:=r'.length
  exact Calls.call_len_list pl.isList (by simp only [Ot]<;>omega) ⟨.int ys.length,H,I.tok _,⟨s.toks+1,by rw [Ot,hlen]⟩,q⟩
 ·obtain⟨its,r',pl,hz⟩:=I.tuple hq
  have hlen:=r'.length
  exact len_tuple pl (by simp only [Ot]<;>omega) ⟨.int ys.length,H,I.tok _,⟨s.toks+1,by rw [Ot,hlen]⟩,q⟩
theorem gQ:dI X (.type "tuple") (λxs H Q=>∃p ys,xs=[.ref p]/\((hW X.K H p ys/\∀l,H l=none->Q (.ref l) (upd H l (.tup ys)))∨(hZ X.K H p ys/\Q (.ref p) H))):=by
 intro pins s σ H xs us Q I r h
 obtain⟨p,ys,rfl,h⟩:=h
 obtain⟨u,rfl,rx⟩:=jk r
 cases rx
 rcases h with ⟨hq,q⟩ | ⟨hq,q⟩
 ·obtain⟨its,r',pl,hz⟩:=I.list hq
  have hlen:=r'.length
  refine call_tuple_list pl.isList (λh' kp=>?_) (by simp only [Ot]<;>omega)
  have I1:aC X pins σ H { s with heap:=h' }:=I.kept (t':=s.toks) kp
  have I2:aC X pins σ (upd H h'.objs.size (.tup ys)) { s with heap:=h'.push { cls:=.type "tuple",data:=.seq its.toArray } } :=
   I1.laid (t':=s.toks) (λb o e=>Op _ e) (OB _) (show ci X.prog X.w _ _ _ (.tup ys) from ⟨hz,its,r',Wf _ _⟩)
  exact⟨.ref h'.objs.size,_,I2,rfl,q _ (I1.hok.fresh (OB _))⟩
 ·obtain⟨its,r',pl,hz⟩:=I.tuple hq
  exact call_tuple_same pl ⟨.ref p,H,I,rfl,q⟩

def N6 (K:Ou) (T:String) (x:V) (H:Hp):Prop:=match x with
 | .str _=>T = "str"
 | .int _=>T = "int"
 | .ref p=>(T = "list" /\ ∃xs,hW K H p xs)∨(T = "tuple" /\ ∃o,K.lookup p=some o/\o.cls=.type "tuple" /\ o.dict=none) ∨
   (T = "dict" /\ ((∃kvs,H p=some (.dK kvs))∨∃kvs,H p=some (.dT kvs)))∨(T = "set" /\ ∃S n,H p=some (.set S n))
 | _=>False
theorem JK {T:String} {x:V} {v:Om} (I:aC X pins σ H s) (r:aP x v) (ty:N6 X.K T x H) :
  s.TypeIs v T/\∀a,v=.ref a->∃ob,s.heap.get? a=some ob/\ob.dict=none:=by
 cases x with
 | str z =>
  obtain⟨t,rfl⟩:=r
  cases (show T = "str" from ty)
  exact⟨typeIs_str s z t,λ_ e=>nomatch e⟩
 | int i =>
  obtain⟨t,rfl⟩:=r
  cases (show T = "int" from ty)
  exact⟨typeIs_int s i t,λ_ e=>nomatch e⟩
 | ref p =>
  cases r
  rcases ty with ⟨rfl,xs,hq⟩ | ⟨rfl,o,hk,hc,hd⟩ | ⟨rfl,hk⟩ | ⟨rfl,S,n,hk⟩
  ·obtain⟨its,_,pl,_⟩:=I.list hq
   refine⟨pl.isList.typeIs,λa e=>?_⟩
   cases e
   obtain⟨o,n,e,c,hd,_⟩:=pl
   exact⟨o,e,hd⟩
  ·refine⟨⟨o,I.kIn p o hk,hc⟩,λa e=>?_⟩
   cases e
   exact⟨o,I.kIn _ o hk,hd⟩
  ·have z:∃o,s.heap.get? p=some o/\o.ExactDict:=by
    rcases hk with ⟨kvs,hk⟩ | ⟨kvs,hk⟩
    ·obtain⟨_,_,_,_,o,_,_,e,ex,_⟩:=I.hok p _ hk
     exact⟨o,e,ex⟩
    ·obtain⟨_,_,_,_,o,_,_,e,ex,_⟩:=I.hok p _ hk
     exact⟨o,e,ex⟩
   obtain⟨o,e,ex⟩:=z
   refine⟨⟨o,e,ex.1⟩,λa e2=>?_⟩
   cases e2
   exact⟨o,e,ex.2.1⟩
  ·obtain⟨o,_,_,_,e,ex,_⟩:=I.hok p _ hk
   refine⟨⟨o,e,ex.1⟩,λa e2=>?_⟩
   cases e2
   exact⟨o,e,ex.2.1⟩
 | _=>exact OX ty
def Nu (K:Ou) (T:String) (r:V->List V->Hp->VK->Prop) (to:TE) (t:TA):TE:=λσ H Q=>to σ H λx H1=>N6 K T x H1/\t σ H1 λxs H2=>r x xs H2 Q
variable {o e:OP} {to:TE} {t:TA} {name:Str} {apos cpos:Pos} {T id:String} {r:V->List V->Hp->VK->Prop}
theorem kq (pa:PlainAttrs T) (slot:Slot T name id) (hty:typeOf (.builtin id)=pure (.type "method_descriptor")) (hm:Oc X id r) (ho:PE X o to) (ha:PA X (e::es) t)
  (hbase:OW o name X.env (O2 o X.env)=O2 o X.env:=by nofun)
  (hfew:((Qa cpos (OQ (e::es) X.env)).all (λx=>!x.1) && (PD cpos (O5 [] X.env)).all (λx=>x.1.isSome)
   && decide ((e::es).length+([]:List Se).length+(if ([]:List Se).isEmpty then 0 else 1) < 30))=true:=by nofun)
  (hline:(apos.endLine == cpos.line)=true:=by nofun) (hs:hE9 X e es:=by nofun) (hplain:hP9 X cpos es:=by nofun) :
  PE X (.Call (.Attribute o name apos) (e::es) [] cpos) (Nu X.K T r to t):=by
 intro pins s σ H Q I h
 refine wpAny_Call_method_late hbase hfew hline rfl (bG (ho pins s σ H _ I h) λv s1 ⟨x,H1,I1,r1,ty,q1⟩=>?_)
 obtain⟨h1,h2⟩:=JK I1 r1 ty
 refine⟨T,id,pa,slot,hty,h1,h2,?_⟩
 have hA:=ha cpos pins s1 σ H1 _ I1 q1
 rw [hs] at hA ⊢
 refine Qi (by show (false || (Qa cpos (OQ es X.env)).any (·.1))=false; rw [hplain]<;>rfl) (Re ?_)
 exact bG hA λus s2 ⟨vs,H2,I2,r2,q2⟩=>hm pins s2 σ H2 x vs v us Q I2 r1 r2 q2
end
def Nv (X:Cx) (id:String) (r:V->List V->Hp->VK->Prop):Prop :=
 ∀(pins:List (Oo×Obj)) (s:Os) (σ:St) (H:Hp) (x:V) (xs:List V) (v:Om) (us:List Om) (Q:VK),aC X pins σ H s->aP x v->aO xs us->r x xs H Q ->
  Ov (OE X.prog X.w) X.A (call (.builtin id) (v::us)) (EP X pins σ Q) X.xe s

theorem aO.one:∀{x:V} {us:List Om},aO [x] us->∃u,us=[u]/\aP x u
 | _,_,.cons r .nil=>⟨_,rfl,r⟩
section
variable {l b:Oo} {xs ys zs:List V}
theorem aC.lset {its its':List Om} {n:Nat} {f:Array Om->Array Om} {t':Nat} (I:aC X pins σ H s) (hH:H l=some (.lst xs))
  (e:s.heap.get? l=some { cls:=.type "list",data:=.seq its.toArray n }) (hf:f its.toArray=its'.toArray) (hv:aO ys its') (hz:ys.length≤OA) :
  aC X pins σ (upd H l (.lst ys)) { s with heap:=s.heap.update l (Pa f),toks:=t' }:=by
 have q:=ZJ e f
 rw [hf] at q
 refine I.write (x:=l) (e:=l) (by rw [hH]; exact trivial) (.inl rfl) (λb' u hb hu=>(QM s.heap (Pa f) (P5 hb)).trans hu) ⟨_,q⟩ ?_
 exact⟨hz,its',_,hv,q⟩
theorem aC.lstM (I:aC X pins σ H s) (hH:H l=some (.lst xs)):xs.length≤OA/\∃(its:List Om) (n:Nat),aO xs its/\xs.length=its.length/\s.heap.get? l=some { cls:=.type "list",data:=.seq its.toArray n }:=by
 obtain⟨z,its,n,r,e⟩:=I.hok l _ hH
 exact⟨z,its,n,r,r.length,e⟩

theorem DM {n:Nat} (h:n≤OA):RP n=false:=by
 unfold RP
 exact decide_eq_false (by omega)
end
section
def GG:V->List V->Hp->VK->Prop:=λx vs H Q=>∃l xs y,x=.ref l/\vs=[y]/\H l=some (.lst xs)/\xs.length < OA/\Q .non (upd H l (.lst (xs++[y])))
theorem BK:Nv X "list.append" GG:=by
 intro pins s σ H x vs v us Q I rx rv h
 obtain⟨l,xs,y,rfl,rfl,hH,hz,q⟩:=h
 cases rx
 obtain⟨u,rfl,ru⟩:=rv.one
 obtain⟨z,its,n,r,hl,e⟩:=I.lstM hH
 refine call_meets PH ⟨_,e,rfl⟩ F.entry_list_append (F.args_list_append_2 _ _) (PySem.list_append l its.toArray n u (by rw [Ot]; omega)) ⟨e,?_⟩
 refine⟨.non,_,I.lset (its':=its++[u]) hH e (by simp) (r.append (.cons ru .nil)) ?_,rfl,q⟩
 rw [Qq,UF]
 omega

def Ar:V->List V->Hp->VK->Prop:=λx vs H Q=>∃l b xs zs,x=.ref l/\vs=[.ref b]/\H l=some (.lst xs)/\H b=some (.lst zs)/\xs.length+zs.length≤OA/\Q .non (upd H l (.lst (xs++zs)))
theorem jS:Nv X "list.extend" Ar:=by
 intro pins s σ H x vs v us Q I rx rv h
 obtain⟨l,b,xs,zs,rfl,rfl,hH,hB,hz,q⟩:=h
 cases rx
 obtain⟨u,rfl,ru⟩:=rv.one
 cases ru
 obtain⟨z,its,n,r,hl,e⟩:=I.lstM hH
 obtain⟨z2,its2,n2,r2,hl2,e2⟩:=I.lstM hB
 have hsz:its.toArray.size+its2.toArray.size≤OA:=by rw [Ot,Ot]; omega
 have hlong:¬(!its.toArray.isEmpty && RP (its.toArray.size+its2.toArray.size))=true:=by
  rw [DM hsz,Bool.and_false]
  exact OK
 refine call_meets QH ⟨_,e,rfl⟩ F.entry_list_extend (F.args_list_extend_2 _ _)
  (AutoSeq1.list_extend_list_list_0 l its.toArray n b its2.toArray n2 hlong (by rw [Ot]; omega) (by omega)) ⟨e,e2,?_⟩
 refine⟨.non,_,I.lset (its':=its++its2) hH e (by simp) (r.append r2) ?_,rfl,q⟩
 rw [Qq]
 omega

end
section
end
section
end
section
variable {κ:Type} [DecidableEq κ]
def c3 (kvs:List (κ×V)) (k:κ):Option V:=(kvs.find? λkv=>decide (kv.1=k)).map (·.2)
def cW (kvs:List (κ×V)) (k:κ) (v:V):List (κ×V) :=
 if (kvs.any λkv=>decide (kv.1=k))=true then kvs.map (λkv=>if kv.1=k then (kv.1,v) else kv) else kvs++[(k,v)]
def h9 (kvs:List (κ×V)) (k:κ):List (κ×V):=kvs.filter λkv=>decide (kv.1≠k)

theorem qh {p:κ×V} {r:List (κ×V)} {k:κ} (e:p.1=k):c3 (p::r) k=some p.2:=by simp [c3,QI,e]
theorem lU {p:κ×V} {r:List (κ×V)} {k:κ} (e:¬p.1=k):c3 (p::r) k=c3 r k:=by simp [c3,QI,e]
theorem qi (k:κ):∀kvs:List (κ×V),(kvs.any λkv=>decide (kv.1=k))=(c3 kvs k).isSome
 | []=>rfl
 | p::r=>by
  rw [RO]
  by_cases e:p.1=k
  ·simp only [qh e,decide_eq_true e,Bool.true_or,VI]
  ·rw [lU e,decide_eq_false e,Bool.false_or]; exact qi k r
theorem jm (kvs:List (κ×V)) (k:κ) (v:V):(cW kvs k v).length≤kvs.length+1:=by
 unfold cW
 split
 ·rw [O7]; omega
 ·rw [Qq,Pw,Uz]; omega
theorem fH.isSome_eq {o:Option V} {u:Option Om} (r:fH o u):o.isSome=u.isSome:=by
 cases o with
 | none=>cases u with
  | none=>rfl
  | some _=>exact (show False from r).elim
 | some _=>cases u with
  | none=>exact (show False from r).elim
  | some _=>rfl
theorem fH.getD {o:Option V} {u:Option Om} {d:V} {d':Om} (r:fH o u) (rd:aP d d'):aP (o.getD d) (u.getD d'):=by
 cases o with
 | none=>cases u with
  | none=>exact rd
  | some _=>exact (show False from r).elim
 | some _=>cases u with
  | none=>exact (show False from r).elim
  | some _=>exact r

theorem KV.val {kvs:List (κ×V)} {vs:List (κ×Om)} (r:KV kvs vs) (k:κ):fH (c3 kvs k) (SE vs k):=by
 unfold KV at r
 induction r with
 | nil=>exact Qd
 | @cons p q ps qs h t ih =>
  obtain⟨h1,h2⟩:=h
  by_cases e:p.1=k
  ·have e':q.1=k:=h1.symm.trans e
   have b:SE (q::qs) k=some q.2:=by simp [SE,QI,e']
   rw [qh e,b]; exact h2
  ·have e':¬q.1=k:=λz=>e (h1.trans z)
   have b:SE (q::qs) k=SE qs k:=by simp [SE,QI,e']
   rw [lU e,b]; exact ih
theorem KV.any {kvs:List (κ×V)} {vs:List (κ×Om)} (r:KV kvs vs) (k:κ):(kvs.any λkv=>decide (kv.1=k))=vs.any λkv=>decide (kv.1=k):=by
 unfold KV at r
 induction r with
 | nil=>rfl
 | cons h t ih=>rw [RO,RO,ih,h.1]
theorem KV.repl {kvs:List (κ×V)} {vs:List (κ×Om)} (r:KV kvs vs) (k:κ) {y:V} {u:Om} (ry:aP y u) :
  KV (kvs.map λkv=>if kv.1=k then (kv.1,y) else kv) (vs.map λkv=>if kv.1=k then (kv.1,u) else kv):=by
 unfold KV at r ⊢
 induction r with
 | nil=>exact .nil
 | @cons p q ps qs h t ih =>
  rw [OV,OV]
  refine .cons ?_ ih
  obtain⟨h1,h2⟩:=h
  by_cases e:p.1=k
  ·rw [if_pos e,if_pos (h1.symm.trans e)]; exact⟨h1,ry⟩
  ·rw [if_neg e,if_neg (λz=>e (h1.trans z))]; exact⟨h1,h2⟩
theorem KV.put {kvs:List (κ×V)} {vs:List (κ×Om)} (r:KV kvs vs) (k:κ) {y:V} {u:Om} (ry:aP y u):KV (cW kvs k y) (stored vs k u):=by
 unfold cW stored
 rw [r.any k]
 by_cases e:(vs.any λkv=>decide (kv.1=k))=true
 ·rw [if_pos e,if_pos e]; exact r.repl k ry
 ·rw [if_neg e,if_neg e]; exact WA r ⟨rfl,ry⟩
theorem KV.drop {kvs:List (κ×V)} {vs:List (κ×Om)} (r:KV kvs vs) (k:κ):KV (h9 kvs k) (without vs k):=by
 unfold KV at r ⊢
 unfold h9 without
 induction r with
 | nil=>exact .nil
 | @cons p q ps qs h t ih =>
  obtain⟨h1,h2⟩:=h
  rw [QO,QO]
  by_cases e:p.1=k
  ·have a:¬decide (p.1≠k)=true:=by simp [e]
   have b:¬decide (q.1≠k)=true:=by simp [h1.symm.trans e]
   rw [if_neg a,if_neg b]; exact ih
  ·have e':¬q.1=k:=λz=>e (h1.trans z)
   have a:decide (p.1≠k)=true:=by simp [e]
   have b:decide (q.1≠k)=true:=by simp [e']
   rw [if_pos a,if_pos b]; exact .cons ⟨h1,h2⟩ ih
theorem KV.length {kvs:List (κ×V)} {vs:List (κ×Om)} (r:KV kvs vs):kvs.length=vs.length:=Pe r
theorem wT (kvs:List (κ×V)) (k:κ):(h9 kvs k).length≤kvs.length:=List.length_filter_le _ _
end
theorem jn {k:bv} {u:Om} (r:aP (kV k) u):(aV P w).is k u=true:=by
 cases k with
 | inl i=>obtain⟨t,e⟩:=(show ∃t,u=Q1 i t from r); subst e; exact wJ P w i t
 | inr x=>obtain⟨t,e⟩:=(show ∃t,u=U4 x t from r); subst e; exact ji P w x t
theorem uq {P:OZ} {w:Pl}:∀{ks:List bv} {us:List Om},aO (ks.map kV) us->ItemsAre (aV P w) ks us
 | [],_,r=>by rw [Ta] at r; cases r; exact .nil
 | k::ks,_,r=>by
  rw [OV] at r
  cases r with
  | cons h t=>exact .cons (jn h) (uq t)

abbrev KT (H:Hp):List (List bv×V)->List (List bv×Oo×Om)->Prop:=Paired λp q=>p.1=q.1/\H q.2.1=some (.tup (p.1.map kV))/\aP p.2 q.2.2
theorem KT.val {kvs:List (List bv×V)} {xs:List (List bv×Oo×Om)} (r:KT H kvs xs) (k:List bv):fH (c3 kvs k) ((Vt xs k).map (·.2)):=by
 induction r with
 | nil=>exact Qd
 | @cons p q ps qs h t ih =>
  obtain⟨h1,_,h2⟩:=h
  by_cases e:p.1=k
  ·have e':q.1=k:=h1.symm.trans e
   have b:Vt (q::qs) k=some q.2:=by simp [Vt,QI,e']
   rw [qh e,b]; exact h2
  ·have e':¬q.1=k:=λz=>e (h1.trans z)
   have b:Vt (q::qs) k=Vt qs k:=by simp [Vt,QI,e']
   rw [lU e,b]; exact ih
theorem KT.repl {kvs:List (List bv×V)} {xs:List (List bv×Oo×Om)} (r:KT H kvs xs) (k:List bv) {y:V} {u:Om} (ry:aP y u) :
  KT H (kvs.map λkv=>if kv.1=k then (kv.1,y) else kv) (xs.map (putAt k u)):=by
 induction r with
 | nil=>exact .nil
 | @cons p q ps qs h t ih =>
  rw [OV,OV]
  refine .cons ?_ ih
  obtain⟨h1,h2,h3⟩:=h
  unfold putAt
  by_cases e:p.1=k
  ·rw [if_pos e,if_pos (h1.symm.trans e)]; exact⟨h1,h2,ry⟩
  ·rw [if_neg e,if_neg (λz=>e (h1.trans z))]; exact⟨h1,h2,h3⟩
theorem KT.put {kvs:List (List bv×V)} {xs:List (List bv×Oo×Om)} (r:KT H kvs xs) (k:List bv) {b:Oo} {y:V} {u:Om} (hb:H b=some (.tup (k.map kV))) (ry:aP y u) :
  KT H (cW kvs k y) (storedH xs k b u):=by
 have e:(kvs.any λkv=>decide (kv.1=k))=(Vt xs k).isSome:=by
  rw [qi,(r.val k).isSome_eq,Sj]
 unfold cW storedH
 rw [e]
 by_cases q:(Vt xs k).isSome=true
 ·rw [if_pos q,if_pos q]; exact r.repl k ry
 ·rw [if_neg q,if_neg q]; exact WA r ⟨rfl,hb,ry⟩
theorem KT.keeps {H H':Hp} {kvs:List (List bv×V)} {xs:List (List bv×Oo×Om)} (r:KT H kvs xs) (ht:∀b ys,H b=some (.tup ys)->H' b=some (.tup ys)):KT H' kvs xs :=
 Paired.mapP r λ_ _ z=>⟨z.1,ht _ _ z.2.1,z.2.2⟩

section
variable {h:O9} {a:Oo}
theorem ID {u:HO} (ok:iT P w H h) (e:Rd H a u):ci P w H h a u:=e.ok ok
theorem oh {kvs:List (bv×V)} (ok:iT P w H h) (e:Rd H a (.dK kvs)):kvs.length≤OA/\(a == P0)=false/\∃vs,KV kvs vs/\h.DictOf (aV P w) a vs :=
 show ci P w H h a (.dK kvs) from ID ok e
theorem ur {kvs:List (bv×V)} (ok:iT P w H h) (e:H a=some (.dK kvs)):kvs.length≤OA/\(a == P0)=false/\∃vs,KV kvs vs/\h.DictOf (aV P w) a vs:=oh ok (.inl e)
theorem dj {ks:List bv} (ok:iT P w H h) (e:H a=some (.tup (ks.map kV))):(Sr (aV P w)).is h ks a:=by
 obtain⟨_,its,r,o,h1,h2,n,h3⟩:=(show ci P w H h a (.tup (ks.map kV)) from ok a _ e)
 exact⟨o,its.toArray,n,h1,h2,h3,by simpa using uq r⟩
theorem oi {kvs:List (List bv×V)} (ok:iT P w H h) (e:Rd H a (.dT kvs)):kvs.length≤OA/\(a == P0)=false /\
  ∃xs,KT H kvs xs/\h.DictOfH (Sr (aV P w)) a xs:=by
 obtain⟨z,y,xs,r,o,es,ep,h1,h2,h3,h4,h5⟩:=(show ci P w H h a (.dT kvs) from ID ok e)
 refine⟨z,y,xs,r,o,es,ep,h1,h2,h3,h4,λx hx=>?_,h5⟩
 have all:∀{l:List (List bv×V)} {m:List (List bv×Oo×Om)},KT H l m->∀x∈m,(Sr (aV P w)).is h x.1 x.2.1:=by
  intro l m q
  induction q with
  | nil=>intro x hx; exact nomatch hx
  | @cons p q ps qs hq t ih =>
   intro x hx
   rcases ON.mp hx with e | hx
   ·subst e
    exact dj ok (by rw [<-hq.1]; exact hq.2.1)
   ·exact ih x hx
 exact all r x hx
theorem IE {kvs:List (List bv×V)} (ok:iT P w H h) (e:H a=some (.dT kvs)):kvs.length≤OA/\(a == P0)=false /\
  ∃xs,KT H kvs xs/\h.DictOfH (Sr (aV P w)) a xs:=oi ok (.inl e)
end
def iB (H:Hp) (a:Oo) (y:V) (r:Option V):Prop :=
 (∃kvs k,Rd H a (.dK kvs)/\y=kV k/\r=c3 kvs k)∨∃kvs k b,Rd H a (.dT kvs)/\y=.ref b/\H b=some (.tup (k.map kV))/\r=c3 kvs k
def sy (H:Hp) (a:Oo) (y v:V) (H':Hp):Prop :=
 (∃kvs k,H a=some (.dK kvs)/\y=kV k/\kvs.length < OA/\H'=upd H a (.dK (cW kvs k v))) ∨
 ∃kvs k b,H a=some (.dT kvs)/\y=.ref b/\H b=some (.tup (k.map kV))/\kvs.length < OA/\H'=upd H a (.dT (cW kvs k v))
theorem iB.k {H:Hp} {a:Oo} {kvs:List (bv×V)} {k:bv} (e:H a=some (.dK kvs)):iB H a (kV k) (c3 kvs k):=.inl ⟨kvs,k,.inl e,rfl,rfl⟩
theorem sy.k {H:Hp} {a:Oo} {kvs:List (bv×V)} {k:bv} {v:V} (e:H a=some (.dK kvs)) (hl:kvs.length < OA):sy H a (kV k) v (upd H a (.dK (cW kvs k v))):=.inl ⟨kvs,k,e,rfl,hl,rfl⟩
theorem sy.t {H:Hp} {a b:Oo} {kvs:List (List bv×V)} {k:List bv} {v:V} (e:H a=some (.dT kvs)) (eb:H b=some (.tup (k.map kV))) (hl:kvs.length < OA) :
  sy H a (.ref b) v (upd H a (.dT (cW kvs k v))):=.inr ⟨kvs,k,b,e,rfl,eb,hl,rfl⟩


section
variable {a:Oo} {y v:V} {u r:Om} {o:Option V}
theorem aC.big (I:aC X pins σ H s):P0 < s.heap.objs.size:=by
 have h:O0 < s.heap.objs.size:=(I.mod.glob.keeps I.bk).lt
 exact Nat.lt_trans (by decide) h

theorem ut {Q:Om->Os->Prop} (hu:A.units+1 < Qf) (I:aC X pins σ H s) (g:iB H a y (some v)) (ry:aP y u) (h:∀w' s',aC X pins σ H s'->aP v w'->Q w' s') :
  Ov (OE X.prog X.w) A (S9 (.ref a) u) Q E s:=by
 rcases g with ⟨kvs,k,e,ey,l⟩ | ⟨kvs,k,b,e,ey,eb,l⟩
 ·subst ey
  obtain⟨z,hd,vs,rel,dd⟩:=oh I.hok e
  obtain⟨w',hw,rw'⟩:=fH.some_of (v:=v) (o:=SE vs k) (by rw [l]; exact rel.val k)
  exact Wj (jn ry) dd.mapOf hw (h w' _ (I.tok _) rw')
 ·subst ey
  cases (show u=OJ b from ry)
  obtain⟨z,hd,xs,rel,dd⟩:=oi I.hok e
  obtain⟨w',hw,rw'⟩:=fH.some_of (v:=v) (o:=(Vt xs k).map (·.2)) (by rw [l]; exact rel.val k)
  obtain⟨p,hp,hp2⟩:=QN.mp hw
  refine wpAny_getItem_heap (Qr hu) (dj I.hok eb) dd hp ?_
  rw [hp2]
  exact h w' _ (I.tok _) rw'
theorem Nw {Q:Om->Os->Prop} (hu:A.units+1 < Qf) (I:aC X pins σ H s) (g:iB H a y o) (ry:aP y u) (h:∀s',aC X pins σ H s'->Q (.bool o.isSome) s') :
  Ov (OE X.prog X.w) A (P3 .In u (.ref a)) Q E s:=by
 rcases g with ⟨kvs,k,e,ey,l⟩ | ⟨kvs,k,b,e,ey,eb,l⟩
 ·subst ey
  obtain⟨z,hd,vs,rel,dd⟩:=oh I.hok e
  refine wpAny_in_of (jn ry) hd dd.mapOf ?_
  rw [<- (rel.val k).isSome_eq,<-l]
  exact h _ (I.tok _)
 ·subst ey
  cases (show u=OJ b from ry)
  obtain⟨z,hd,xs,rel,dd⟩:=oi I.hok e
  refine wpAny_in_heap (Qr hu) (dj I.hok eb) hd dd ?_
  have q:=(rel.val k).isSome_eq
  rw [Sj] at q
  rw [<-q,<-l]
  exact h _ (I.tok _)
theorem GH {Q:Om->Os->Prop} (hu:A.units+1 < Qf) (I:aC X pins σ H s) (g:iB H a y o) (ry:aP y u) (h:∀s',aC X pins σ H s'->Q (.bool (!o.isSome)) s') :
  Ov (OE X.prog X.w) A (P3 .NotIn u (.ref a)) Q E s:=by
 rcases g with ⟨kvs,k,e,ey,l⟩ | ⟨kvs,k,b,e,ey,eb,l⟩
 ·subst ey
  obtain⟨z,hd,vs,rel,dd⟩:=oh I.hok e
  refine wpAny_notIn_of (jn ry) hd dd.mapOf ?_
  rw [<- (rel.val k).isSome_eq,<-l]
  exact h _ (I.tok _)
 ·subst ey
  cases (show u=OJ b from ry)
  obtain⟨z,hd,xs,rel,dd⟩:=oi I.hok e
  refine wpAny_notIn_heap (Qr hu) (dj I.hok eb) hd dd ?_
  have q:=(rel.val k).isSome_eq
  rw [Sj] at q
  rw [<-q,<-l]
  exact h _ (I.tok _)
theorem lV {h':O9} {t':Nat} {ob:HO} (I:aC X pins σ H s) (mu:Le (H a)) (hs:P9 a s.heap h') (he:∃q,h'.get? a=some q) (new:ci X.prog X.w (upd H a ob) h' a ob) :
  aC X pins σ (upd H a ob) { s with heap:=h',toks:=t' } :=
 I.write (x:=a) (e:=a) mu (.inl rfl) (λb q hb z=>(hs.2 b hb).trans z) he new
theorem yQ {H':Hp} {h':O9} {kvs:List (bv×V)} {vs:List (bv×Om)} (z:kvs.length≤OA) (hd:(a == P0)=false) (rel:KV kvs vs) (dd:h'.DictOf (aV P w) a vs) :
  ci P w H' h' a (.dK kvs):=⟨z,hd,vs,rel,dd⟩
theorem uu {H':Hp} {Q:Unit->Os->Prop} (hu:A.units+1 < Qf) (I:aC X pins σ H s) (g:sy H a y v H') (ry:aP y u) (rv:aP v r) (h:∀s',aC X pins σ H' s'->Q () s') :
  Ov (OE X.prog X.w) A (setItem (.ref a) u r) Q E s:=by
 rcases g with ⟨kvs,k,e,ey,l,eH⟩ | ⟨kvs,k,b,e,ey,eb,l,eH⟩
 ·subst ey eH
  obtain⟨z,hd,vs,rel,dd⟩:=ur I.hok e
  have hz:vs.length≤OA:=by rw [<-rel.length]; exact z
  have hl:(cW kvs k v).length≤OA:=by have:=jm kvs k v; omega
  refine wpAny_setItem_pairs (hsz:=hz) (jn ry) dd λh' dd' hs=>h _ ?_
  have he:∃q,h'.get? a=some q:=let ⟨q,_,_,hq,_⟩:=dd'; ⟨q,hq⟩
  exact lV I (by rw [e]; exact Qd) hs he (yQ hl hd (rel.put k rv) dd')
 ·subst ey eH
  cases (show u=OJ b from ry)
  obtain⟨z,hd,xs,rel,dd⟩:=IE I.hok e
  have hz:xs.length≤OA:=by rw [<-Pe rel]; exact z
  have hl:(cW kvs k v).length≤OA:=by have:=jm kvs k v; omega
  refine wpAny_setItem_heap (hsz:=hz) (Qr hu) (dj I.hok eb) dd λh' dd' hs=>h _ ?_
  obtain⟨q,es,ep,hq,h2,h3,h4,_,h5⟩:=dd'
  refine lV I (by rw [e]; exact Qd) hs ⟨q,hq⟩ ⟨hl,hd,_,(rel.put k eb rv).keeps λc ys ec=>?_,q,es,ep,hq,h2,h3,h4,h5⟩
  rw [ao (Io ec e (λz=>nomatch z))]
  exact ec
end
section
variable {a:Oo} {kvs:List (bv×V)} {k:bv} {u:Om}
theorem BL {Q:Unit->Os->Prop} (I:aC X pins σ H s) (e:H a=some (.dK kvs)) (ry:aP (kV k) u) (l:(c3 kvs k).isSome=true) (h:∀s',aC X pins σ (upd H a (.dK (h9 kvs k))) s'->Q () s') :
  Ov (OE X.prog X.w) A (delItem (.ref a) u) Q E s:=by
 obtain⟨z,hd,vs,rel,dd⟩:=ur I.hok e
 refine VJ dd.typeIs (by decide) QZ
  (RJ QZ dd.typeIs Tw (Tc _ _) (meets_dict_delitem_pairs (aV X.prog X.w) a (jn ry)) ⟨vs,dd,by rw [<-rel.length]; exact z,by rw [<- (rel.val k).isSome_eq]; exact l,λh' dd' hs=>h _ ?_⟩)
 have he:∃q,h'.get? a=some q:=let ⟨q,_,_,hq,_⟩:=dd'; ⟨q,hq⟩
 exact lV I (by rw [e]; exact Qd) hs he (yQ (Pi (wT kvs k) z) hd (rel.drop k) dd')
end
def DN (i:OP):Prop:=∀ov iv,UQ i false ov iv=ZB [ov,iv] (S9 ov iv)
theorem vj {env:Env} {value slice:OP} {T id:String} {Q:Om->Os->Prop}
  (hl:typeLookup (.type T) "__getitem__" = pure (some (.builtin id))) (hs:DN slice)
  (h:Ov (OE prog w) A (O2 value env) (λo s₁=>Ov (OE prog w) A (O2 slice env) (λi s₂=>s₂.TypeIs o T/\Ov (OE prog w) A (S9 o i) Q E s₂) E s₁) E s) :
  Ov (OE prog w) A (O2 (.Subscript value slice pos) env) Q E s:=by
 refine VH (OS h (λo s₁ h₁=>OS h₁ (λi s₂ h₂=>?_) λ_ _ x=>x) λ_ _ x=>x)
 obtain⟨hT,h₂⟩:=h₂
 unfold Vs
 refine Ol ?_
 rw [getitemInPython_of_ne hT.not_modules]
 refine Ol (WH hT hl ?_)
 have fin:Ov (OE prog w) A (UQ slice false o i) (λr s₃=>Ov (OE prog w) A (letTemporaryGo value o r >>= λ_=>pure r) Q E s₃) E s₂:=by
  rw [hs o i]
  exact wpAny_operating (OS h₂ (λr s₃ h₃=>Ol (wpAny_letTemporaryGo (On h₃))) λ_ _ x=>x)
 first
  | exact On (Ol fin)
  | exact Ol (On (Ol fin))
  | exact Ol fin

theorem oj {a:Oo} {y:V} {o:Option V} (I:aC X pins σ H s) (g:iB H a y o):s.TypeIs (.ref a) "dict":=by
 rcases g with ⟨kvs,k,e,_,_⟩ | ⟨kvs,k,b,e,_,_,_⟩
 ·obtain⟨_,_,vs,_,dd⟩:=oh I.hok e
  exact dd.typeIs
 ·obtain⟨_,_,xs,_,dd⟩:=oi I.hok e
  exact dd.typeIs
def LD (td ty:TE):TE:=λσ H Q=>td σ H λx H1=>ty σ H1 λy H2=>∃a v,x=.ref a/\iB H2 a y (some v)/\Q v H2
def LE (ty td:TE):TE:=λσ H Q=>ty σ H λy H1=>td σ H1 λx H2=>∃a o,x=.ref a/\iB H2 a y o/\Q (.bl o.isSome) H2
def As (ty td:TE):TE:=λσ H Q=>ty σ H λy H1=>td σ H1 λx H2=>∃a o,x=.ref a/\iB H2 a y o/\Q (.bl (!o.isSome)) H2
def LF (td ty tv:TE):TS:=λD σ H=>tv σ H λv H1=>td σ H1 λx H2=>ty σ H2 λy H3=>∃a H4,x=.ref a/\sy H3 a y v H4/\D.nx σ H4
section
variable {o i e value:OP} {pos pos' tpos:Pos} {td ty tv:TE}
theorem GI (hu:X.A.units+1 < Qf) (ho:PE X o td) (hi:PE X i ty) (hs:DN i):PE X (.Subscript o i pos) (LD td ty):=by
 intro pins s σ H Q I h
 refine vj RM.lookup hs (bG (ho pins s σ H _ I h) λu s1 ⟨x,H1,I1,rx,q1⟩=>bG (hi pins s1 σ H1 _ I1 q1) λiv s2 ⟨y,H2,I2,ry,a,v,ex,g,q2⟩=>?_)
 subst ex
 obtain rfl:u=OJ a:=rx
 exact⟨oj I2 g,ut hu I2 g ry λw' s3 I3 rw'=>⟨v,H2,I3,rw',q2⟩⟩
theorem DO (hu:X.A.units+1 < Qf) (hi:PE X i ty) (ho:PE X o td):PC X .In i o (LE ty td):=by
 intro pins s σ H Q I h
 refine bG (hi pins s σ H _ I h) λiv s1 ⟨y,H1,I1,ry,q1⟩=>bG (ho pins s1 σ H1 _ I1 q1) λu s2 ⟨x,H2,I2,rx,a,ov,ex,g,q2⟩=>?_
 subst ex
 obtain rfl:u=OJ a:=rx
 exact Nw hu I2 g ry λs3 I3=>⟨.bl ov.isSome,H2,I3,rfl,q2⟩
theorem BM (hu:X.A.units+1 < Qf) (hi:PE X i ty) (ho:PE X o td):PC X .NotIn i o (As ty td):=by
 intro pins s σ H Q I h
 refine bG (hi pins s σ H _ I h) λiv s1 ⟨y,H1,I1,ry,q1⟩=>bG (ho pins s1 σ H1 _ I1 q1) λu s2 ⟨x,H2,I2,rx,a,ov,ex,g,q2⟩=>?_
 subst ex
 obtain rfl:u=OJ a:=rx
 exact GH hu I2 g ry λs3 I3=>⟨.bl (!ov.isSome),H2,I3,rfl,q2⟩
theorem GJ (hu:X.A.units+1 < Qf) (ho:PE X o td) (hi:PE X i ty) (hv:PE X value tv) (hs:PJ value (some (.Subscript o i pos')) pos.line X.env=pure false) :
  PS X (.Assign [.Subscript o i pos'] value pos) (LF td ty tv):=by
 intro pins s σ H D I h
 refine Um (bG (hv pins s σ H _ I h) λr s1 ⟨v,H1,I1,rv,q1⟩=>bG (ho pins s1 σ H1 _ I1 q1) λu s2 ⟨x,H2,I2,rx,q2⟩=>bG (hi pins s2 σ H2 _ I2 q2) λiv s3 ⟨y,H3,I3,ry,a,H4,ex,g,q3⟩=>?_) hs
 subst ex
 obtain rfl:u=OJ a:=rx
 exact uu hu I3 g ry rv λs4 I4=>⟨σ,H4,I4,q3⟩
end
theorem wU (h:O9) (hb:P0 < h.objs.size):ci P w H (h.push { cls:=.type "dict",data:=.dict #[] }) h.objs.size (.dK []) :=
 ⟨Pu _,beq_eq_false_iff_ne.mpr (P5 (OG hb)),[],.nil,WI h⟩
theorem DP (h:O9) (hb:P0 < h.objs.size):ci P w H (h.push { cls:=.type "dict",data:=.dict #[] }) h.objs.size (.dT []) :=
 ⟨Pu _,beq_eq_false_iff_ne.mpr (P5 (OG hb)),[],.nil,_,#[],0,Ox _ rfl,⟨rfl,rfl,rfl⟩,rfl,rfl,Tx⟩
def JL:TE:=λ_ H Q=>∀p,H p=none->Q (.ref p) (upd H p (.dK []))
def JM:TE:=λ_ H Q=>∀p,H p=none->Q (.ref p) (upd H p (.dT []))
section
theorem wV:PE X (.Dict [] [] pos) JL:=λpins s σ H Q I h =>
 Wk ⟨.ref s.heap.objs.size,_,I.laid (a:=s.heap.objs.size) (o:=.dK []) (t':=s.toks) (λ_ _ q=>Op _ q) (OB _) (wU s.heap I.big),rfl,h _ (I.hok.fresh (OB _))⟩
theorem DQ:PE X (.Dict [] [] pos) JM:=λpins s σ H Q I h =>
 Wk ⟨.ref s.heap.objs.size,_,I.laid (a:=s.heap.objs.size) (o:=.dT []) (t':=s.toks) (λ_ _ q=>Op _ q) (OB _) (DP s.heap I.big),rfl,h _ (I.hok.fresh (OB _))⟩
end
def qj:List (TE×TE)->St->Hp->(List (V×V)->Hp->Prop)->Prop
 | [],_,H,Q=>Q [] H
 | (tk,tv)::r,σ,H,Q=>tk σ H λx H1=>tv σ H1 λy H2=>qj r σ H2 λps H3=>Q ((x,y)::ps) H3
abbrev VV:List (V×V)->List (Om×Om)->Prop:=Paired λp q=>aP p.1 q.1/\aP p.2 q.2
def LG (X:Cx) (pos:Pos) (keys:List (Option OP)) (values:List OP) (trs:List (TE×TE)):Prop :=
 ∀(pins:List (Oo×Obj)) (s:Os) (σ:St) (H:Hp) (Q:List (V×V)->Hp->Prop),aC X pins σ H s->qj trs σ H Q ->
  Ov (OE X.prog X.w) X.A (evalPairs (pairTrees keys values X.env pos)) (λvs s'=>∃ps H',aC X pins σ H' s'/\VV ps vs/\Q ps H') X.xe s
theorem At:LG X pos [] [] []:=λpins s σ H Q I h=>pairTrees_nil_walk ⟨[],H,I,.nil,h⟩
theorem qo {k v:OP} {ks:List (Option OP)} {vs:List OP} {tk tv:TE} {trs:List (TE×TE)} (hk:PE X k tk) (hv:PE X v tv) (hr:LG X pos ks vs trs) :
  LG X pos (some k::ks) (v::vs) ((tk,tv)::trs):=λpins s σ H Q I h =>
 pairTrees_cons_walk (bG (hk pins s σ H _ I h) λu s1 ⟨x,H1,I1,rx,q1⟩=>bG (hv pins s1 σ H1 _ I1 q1) λw2 s2 ⟨y,H2,I2,ry,q2⟩ =>
  bG (hr pins s2 σ H2 _ I2 q2) λws s3 ⟨ps,H3,I3,rel,q3⟩=>⟨(x,y)::ps,H3,I3,.cons ⟨rx,ry⟩ rel,q3⟩)

def dB (kvs more:List (bv×V)):List (bv×V):=more.foldl (λacc kv=>cW acc kv.1 kv.2) kvs
theorem KV.merge:∀{more:List (bv×V)} {rs:List (bv×Om)} {kvs:List (bv×V)} {vs:List (bv×Om)},KV more rs->KV kvs vs->KV (dB kvs more) (merged vs rs):=by
 intro more rs kvs vs r
 unfold KV at r
 induction r generalizing kvs vs with
 | nil=>intro q; exact q
 | @cons p q ps qs h t ih =>
  intro r0
  have e:KV (cW kvs p.1 p.2) (stored vs q.1 q.2):=by
   have:=r0.put p.1 h.2
   rw [<-h.1]; exact this
  exact ih e
theorem kr:∀(more kvs:List (bv×V)),(dB kvs more).length≤kvs.length+more.length
 | [],kvs=>by show kvs.length≤kvs.length+0; omega
 | p::r,kvs=>by
  have h1:=kr r (cW kvs p.1 p.2)
  have h2:=jm kvs p.1 p.2
  show (dB (cW kvs p.1 p.2) r).length≤_
  rw [Pw]; omega
theorem qr {P:OZ} {w:Pl}:∀{kvs:List (bv×V)} {ws:List (Om×Om)},VV (kvs.map λkv=>(kV kv.1,kv.2)) ws->∃rs,Carries (aV P w) ws rs/\KV kvs rs
 | [],_,r=>by rw [Ta] at r; cases r; exact⟨[],Qd,.nil⟩
 | p::kvs,_,r=>by
  rw [OV] at r
  cases r with
  | @cons a b as bs h t =>
   obtain⟨rs,c,q⟩:=qr (P:=P) (w:=w) t
   obtain⟨b1,b2⟩:=b
   exact⟨(p.1,b2)::rs,⟨jn h.1,rfl,c⟩,.cons ⟨rfl,h.2⟩ q⟩
def LH (trs:List (TE×TE)):TE:=λσ H Q=>∀p,H p=none->qj trs σ (upd H p (.dK [])) λps H2=>H2 p=some (.dK [])/\∃kvs:List (bv×V),ps=kvs.map (λkv=>(kV kv.1,kv.2))/\kvs.length≤15/\Q (.ref p) (upd H2 p (.dK (dB [] kvs)))
theorem Au {keys:List (Option OP)} {values:List OP} {trs:List (TE×TE)} (h:LG X pos keys values trs) (hall:keys.all (·.isSome)=true) (hl:keys.length=values.length) (h0:keys≠[])
  (h15:keys.length≤15):PE X (.Dict keys values pos) (LH trs):=by
 intro pins s σ H Q I q
 have hn:=I.hok.fresh (OB s.heap.objs.size)
 have I1:=I.laid (a:=s.heap.objs.size) (o:=.dK []) (h':=s.heap.push { cls:=.type "dict",data:=.dict #[] }) (t':=s.toks) (λ_ _ q=>Op _ q) (OB _) (wU s.heap I.big)
 refine wpAny_Dict_walk (knd:=aV X.prog X.w) hall hl h0 h15 (bG (h pins _ σ _ _ I1 (q _ hn)) λws s2 ⟨ps,H2,I2,rel,e,kvs,ep,lk,q2⟩=>?_)
 subst ep
 obtain⟨rs,c,rk⟩:=qr (P:=X.prog) (w:=X.w) rel
 obtain⟨z,hd,vs0,r0,dd⟩:=ur I2.hok e
 cases r0
 refine⟨rs,c,dd,λh' dd' hs=>⟨.ref s.heap.objs.size,_,?_,rfl,q2⟩⟩
 have hz:(dB [] kvs).length≤OA:=by
  have h1:=kr kvs []
  rw [Uz] at h1
  rw [O4]; omega
 have he:∃q,h'.get? s.heap.objs.size=some q:=let ⟨q,_,_,hq,_⟩:=dd'; ⟨q,hq⟩
 exact lV I2 (by rw [e]; exact Qd) hs he (yQ hz hd (rk.merge .nil) dd')


structure M1 (X:Cx) (o:OP) (m:Str) (apos:Pos) (e:OP) (cpos:Pos):Prop where
 base:OW o m X.env (O2 o X.env)=O2 o X.env
 few:((Qa cpos (OQ [e] X.env)).all (λx=>!x.1) && (PD cpos (O5 [] X.env)).all (λx=>x.1.isSome)
  && decide (([e]:List OP).length+([]:List Se).length+(if ([]:List Se).isEmpty then 0 else 1) < 30))=true
 line:(apos.endLine == cpos.line)=true
 trees:Qa cpos (OQ [e] X.env)=[(false,O2 e X.env)]
structure M2 (X:Cx) (o:OP) (m:Str) (apos:Pos) (e f:OP) (cpos:Pos):Prop where
 base:OW o m X.env (O2 o X.env)=O2 o X.env
 few:((Qa cpos (OQ [e,f] X.env)).all (λx=>!x.1) && (PD cpos (O5 [] X.env)).all (λx=>x.1.isSome)
  && decide (([e,f]:List OP).length+([]:List Se).length+(if ([]:List Se).isEmpty then 0 else 1) < 30))=true
 line:(apos.endLine == cpos.line)=true
 trees:Qa cpos (OQ [e,f] X.env)=[(false,O2 e X.env),(false,O2 f X.env)]

def MX (H:Hp) (a:Oo):Prop:=(∃kvs,Rd H a (.dK kvs))∨∃kvs,Rd H a (.dT kvs)
theorem yR {a:Oo} (I:aC X pins σ H s) (d:MX H a) :
  s.TypeIs (.ref a) "dict" /\ (∀b,OJ a=.ref b->∃ob,s.heap.get? b=some ob/\ob.dict=none)/\(a == P0)=false:=by
 rcases d with ⟨kvs,e⟩ | ⟨kvs,e⟩
 ·obtain⟨_,hd,vs,_,dd⟩:=oh I.hok e
  refine⟨dd.typeIs,λb q=>?_,hd⟩
  cases q
  obtain⟨ob,_,_,h1,h2,_⟩:=dd
  exact⟨ob,h1,h2.2.1⟩
 ·obtain⟨_,hd,xs,_,dd⟩:=oi I.hok e
  refine⟨dd.typeIs,λb q=>?_,hd⟩
  cases q
  obtain⟨ob,_,_,h1,h2,_⟩:=dd
  exact⟨ob,h1,h2.2.1⟩

section
variable {a:Oo} {y d:V} {u r:Om} {o:Option V}
theorem JN {Q:Om->Os->Prop} (hu:A.units+1 < Qf) (I:aC X pins σ H s) (g:iB H a y o) (ry:aP y u) (h:∀w' s',aC X pins σ H s'->aP (o.getD .non) w'->Q w' s') :
  Ov (OE X.prog X.w) A (call (.builtin "dict.get") [.ref a,u]) Q E s:=by
 rcases g with ⟨kvs,k,e,ey,l⟩ | ⟨kvs,k,b,e,ey,eb,l⟩
 ·subst ey
  obtain⟨z,hd,vs,rel,dd⟩:=oh I.hok e
  refine RJ PU dd.typeIs Rr (T9 _ _) (meets_dict_get (aV X.prog X.w) a (jn ry) hd) ⟨_,dd.mapOf,h _ _ (I.tok _) ?_⟩
  rw [l]
  exact (rel.val k).getD rfl
 ·subst ey
  cases (show u=OJ b from ry)
  obtain⟨z,hd,xs,rel,dd⟩:=oi I.hok e
  refine RJ PU dd.typeIs Rr (T9 _ _) (meetsH_dict_get (Sr (aV X.prog X.w)) a b hd) ⟨Qr hu,k,xs,dj I.hok eb,dd,h _ _ (I.tok _) ?_⟩
  rw [l]
  exact (rel.val k).getD rfl
theorem DR {Q:Om->Os->Prop} (hu:A.units+1 < Qf) (I:aC X pins σ H s) (g:iB H a y o) (ry:aP y u) (rd:aP d r) (h:∀w' s',aC X pins σ H s'->aP (o.getD d) w'->Q w' s') :
  Ov (OE X.prog X.w) A (call (.builtin "dict.get") [.ref a,u,r]) Q E s:=by
 rcases g with ⟨kvs,k,e,ey,l⟩ | ⟨kvs,k,b,e,ey,eb,l⟩
 ·subst ey
  obtain⟨z,hd,vs,rel,dd⟩:=oh I.hok e
  refine RJ PU dd.typeIs Rr (Ua _ _ _) (meets_dict_get_default (aV X.prog X.w) a (jn ry) hd r) ⟨_,dd.mapOf,h _ _ (I.tok _) ?_⟩
  rw [l]
  exact (rel.val k).getD rd
 ·subst ey
  cases (show u=OJ b from ry)
  obtain⟨z,hd,xs,rel,dd⟩:=oi I.hok e
  refine RJ PU dd.typeIs Rr (Ua _ _ _) (meetsH_dict_get_default (Sr (aV X.prog X.w)) a b hd r) ⟨Qr hu,k,xs,dj I.hok eb,dd,h _ _ (I.tok _) ?_⟩
  rw [l]
  exact (rel.val k).getD rd
end
def JO (td ty:TE):TE:=λσ H Q=>td σ H λx H1=>∃a,x=.ref a/\MX H1 a/\ty σ H1 λy H2=>∃o,iB H2 a y o/\Q (o.getD .non) H2
def JP (td ty tx:TE):TE:=λσ H Q=>td σ H λx H1=>∃a,x=.ref a/\MX H1 a/\ty σ H1 λy H2=>tx σ H2 λz H3=>∃o,iB H3 a y o/\Q (o.getD z) H3
section
variable {o e f:OP} {apos cpos:Pos} {td ty tx:TE}
theorem DS (hu:X.A.units+1 < Qf) (ho:PE X o td) (he:PE X e ty) (m:M1 X o "get" apos e cpos):PE X (.Call (.Attribute o "get" apos) [e] [] cpos) (JO td ty):=by
 intro pins s σ H Q I h
 refine TX m.base m.few m.line QB PU So (bG (ho pins s σ H _ I h) λu s1 ⟨x,H1,I1,rx,a,ex,d,q1⟩=>?_)
 subst ex
 obtain rfl:u=OJ a:=rx
 obtain⟨t1,t2,_⟩:=yR I1 d
 refine⟨t1,t2,?_⟩
 rw [m.trees]
 refine Qi rfl (Re (Qo (bG (he pins s1 σ H1 _ I1 q1) λiv s2 ⟨y,H2,I2,ry,ov,g,q2⟩=>RC ?_)))
 exact JN hu I2 g ry λw' s3 I3 rw'=>⟨_,H2,I3,rw',q2⟩
theorem DT (hu:X.A.units+1 < Qf) (ho:PE X o td) (he:PE X e ty) (hf:PE X f tx) (m:M2 X o "get" apos e f cpos):PE X (.Call (.Attribute o "get" apos) [e,f] [] cpos) (JP td ty tx):=by
 intro pins s σ H Q I h
 refine TX m.base m.few m.line QB PU So (bG (ho pins s σ H _ I h) λu s1 ⟨x,H1,I1,rx,a,ex,d,q1⟩=>?_)
 subst ex
 obtain rfl:u=OJ a:=rx
 obtain⟨t1,t2,_⟩:=yR I1 d
 refine⟨t1,t2,?_⟩
 rw [m.trees]
 refine Qi rfl (Re (Qo (bG (he pins s1 σ H1 _ I1 q1) λiv s2 ⟨y,H2,I2,ry,q2⟩ =>
  Qo (bG (hf pins s2 σ H2 _ I2 q2) λfv s3 ⟨z,H3,I3,rz,ov,g,q3⟩=>RC ?_))))
 exact DR hu I3 g ry rz λw' s4 I4 rw'=>⟨_,H3,I4,rw',q3⟩
end
section
variable {a:Oo} {kvs:List (bv×V)}
end
section
variable {a:Oo} {y:V} {u:Om}
end
end L2
namespace Att
open PySem PySem.W PySem.Calls PyProof.Rows
theorem oV {P:UR} {h:O9}:∀(ns:List Int) (vs:List Om),WellAll P h vs (ns.map ZK)->SF vs ns:=by
 intro ns
 induction ns with
 | nil =>
  intro vs w
  rw [Ta] at w
  cases w
  exact .nil
 | cons n ns ih =>
  intro vs w
  rw [OV] at w
  cases w with
  | cons a b =>
   cases a
   exact .cons _ _ (ih _ b)

theorem BN {l:TL} {n:Nat} (hn:l.most=some n) {P:UR} {h:O9} {args:List WData} {vals:List Om}
  (hpre:l.row.toRowW.claim.pre args=true) (hwl:WellAll P h vals args) :
  ∃a vs ns,vals=[OJ a]/\args=[WData.list (ns.map ZK)]/\h.get? a=some { cls:=.type "list",data:=.seq vs.toArray }/\SF vs ns/\ns.length≤n:=by
 have hsh:WShape.hasAll [] args [.list .int]=true:=(pre_splitW hpre).1
 have hc:l.pre.holds [] { args:=args }=true:=(pre_splitW hpre).2
 obtain⟨d,r,rfl,h1,h2⟩:=hasAllW_cons hsh
 obtain rfl:=hasAllW_nil h2
 obtain⟨xs,rfl,h3⟩:=hasW_list h1
 obtain⟨ns,rfl⟩:=items_int h3
 have hlen:ns.length≤n:=by
  unfold OpenLaw.pre at hc
  have h4:(WTm.not (.lt (.lit (.int (n:Int))) (.len (.arg 0)))).holds [] { args:=[.list (ns.map .int)] }=true:=by
   have h4:=(holds_andW hc).1
   rw [hn] at h4
   exact h4
  have h5:=condW_of h4 (w_not (w_lt w_lit (w_len_list (w_arg rfl))))
  rw [O7] at h5
  refine Nat.le_of_not_lt λq=>?_
  have q':(n:Int) < ((ns.length:Nat):Int):=by omega
  first
   | (rw [decide_eq_true q'] at h5; exact absurd h5 (by decide))
   | (simp at h5; omega)
 cases hwl with
 | cons w1 w2 =>
  cases w2
  cases w1 with
  | list ho hall=>exact⟨_,_,ns,rfl,rfl,ho,oV ns _ hall,hlen⟩

theorem BO (l:TL) (args:List WData):l.row.toRowW.claim.post args (.bool true) args=true :=
 postW_of (r:=l.row.toRowW) (X:=(true == true))
  (show Zn [] (.bool true) .bool=true by first | rfl | decide | simp [Zn,WShape.arms,WShape.armsAll])
  (show (WTm.eq .res (.lit (.bool true))).value [] { args:=args,res:=some (.bool true),after:=args }=some (.bool (true == true)) from w_eq_bool (w_res rfl) w_lit) rfl

theorem attach_call {l:TL} {n:Nat} {q:OZ} {loose:List Str} {XP:(Str->Option Om)->O9->Prop} {YP:Pl->O9->Prop} {d:DefRec}
  (hn:l.most=some n) (hdf:d.params.defaults=[])
  (call:∀(w:Pl) (s₀ s₁:Os) (mg mb:Str->Option Om) (fa:Oo) (o:Obj) (pm cd doc:Om) (a:Oo) (vs:List Om) (ns:List Int),
   Ground q loose [] XP w s₀ mg mb s₁.heap->YP w s₁.heap ->
   s₁.heap.get? fa=some o->o.data=.func (docDef d.name d.params d.body d.scope pm cd doc)->s₁.heap.CodeRec cd d.name->mg d.name=some (.ref fa) ->
   s₁.heap.get? a=some { cls:=.type "list",data:=.seq vs.toArray }->SF vs ns->ns.length≤n->s₁.gens=#[] ->
   RX (OE l.prog w) U9 (.call (.ref fa) ⟨[.ref a],[]⟩) (λr s'=>r=.ok (.ret (.bool true))/\OldK s₁.heap s'.heap/\s'.os=s₁.os/\SD s'.gens) s₁) :
  ZL q loose XP YP l.row.toRowW d [] (λf vs=>PySem.call f vs):=by
 intro w s₀ s₁ mg mb G Y fa o pm cd doc dV kV ho hd hcd hD hmg hg args vals as hpre hlay hrd hwl hlo
 obtain rfl:dV=.none:=Dflts.none hD hdf
 obtain rfl:kV=.none:=Dflts.noKw hD
 obtain⟨a,vs,ns,rfl,rfl,hobj,hints,hlen⟩:=BN hn hpre hwl
 refine enter_call (PZ (call w s₀ s₁ mg mb fa o pm cd doc a vs ns G Y ho (fd_plain hd) hcd hmg hobj hints hlen hg) λr s' hq=>?_)
 obtain⟨rfl,h2,h3,h4⟩:=hq
 exact⟨.inl ⟨.bool true,.bool true,[],rfl,λ_=>rfl,.bool true,BO l _,λ_=>⟨ZC,λ_ hm=>(nomatch hm)⟩⟩,h2,h3,h4⟩

section
variable {K:Ou}
end
end Att
namespace L2
open PySem PySem.Spec PyProof.Rows
theorem uw:∀{vs:List Om} {ns:List Int},SF vs ns->aO (ns.map V.int) vs
 | _,_,.nil=>.nil
 | _,_,.cons n t h=>.cons ⟨t,rfl⟩ (uw h)

end L2
namespace L2
open PySem PySem.Spec PyProof.Rows
def ay (s:Rf) (j:Nat):Rf:=match s with
 | .ClassDef _ _ _ body _ _ _ _ _ _ _=>body.getD j (.Pass ⟨0,0,0,0⟩)
 | _=>.Pass ⟨0,0,0,0⟩
def bY (s:Rf):U8:=match s with
 | .FunctionDef _ a _ _ _ _ _ _ _ _=>a
 | _=>{ posonlyargs:=[],args:=[],vararg:=none,kwonlyargs:=[],kw_defaults:=[],kwarg:=none,defaults:=[] }
def a9 (s:Rf):List Rf:=match s with
 | .FunctionDef _ _ b _ _ _ _ _ _ _=>b
 | _=>[]
def af (s:Rf):Pp:=match s with
 | .FunctionDef _ _ _ _ _ _ sc _ _ _=>sc
 | _=>{ kind:=.function,names:=[],isGenerator:=false,isCoroutine:=false }

abbrev fR:lP:=λ_ _ _ _ _ _=>False
abbrev E0:XK:=λ_ _ _=>False
theorem IF:cB fR X E0:=λ_ _ _ _ _ _ _ h=>h.elim

structure Fun (K:Ou) (x qual:Str) (st:Rf) (f:Oo) (fd:SH):Prop where
 ex:∃(oc:Om) (od:Option Oo) (kV doc pm:Om) (an:Option Oo) (cdv ct:Om) (osl:Array (Option Om)),
  fd=Ph x qual (bY st) (a9 st) (af st) .none kV doc pm an cdv ct/\K.lookup f=some ⟨oc,od,.func fd,osl⟩/\Qh K cdv qual=true
 kp:O3 K (.ref f)=true
section
theorem Fun.ok {x qual:Str} {f:Oo} {N ps:List Str} {k:Nat} {sp:Sp} (F:Fun K x qual st f fd) (S:al N ps (af st)) (len:∀vs H Q E,sp vs H Q E->vs.length=ps.length)
  (hbody:∀(cdv:Om) (A:P6) (outer:List Env) (s:Os) (H:Hp) (vs:List V) (Q:VK) (E:XK),bn k (A.deeper (QT qual (af st) s.heap.objs.size f cdv))->sp vs H Q E ->
   ∃t,gN (ck fR P w K mg base N qual (af st) f cdv A outer s H E).nox (a9 st) t/\t { nx:=λ_ H'=>Q .non H',rt:=Q } (fq N vs) H):cr P w K mg base fR (k+1) f fd ps sp:=by
 obtain⟨oc,od,kV,doc,pm,an,cdv,ct,osl,rfl,lk,hcd⟩:=F.ex
 refine DH lk hcd S len λA outer s H vs Q E hr hsp=>?_
 obtain⟨t,h,q⟩:=hbody cdv A outer s H vs Q E hr hsp
 exact⟨t,h.nox,q⟩
theorem Fun.binds {x qual:Str} {f:Oo} {ps:List Str} (F:Fun K x qual st f fd)
  (h:∀(kV doc pm:Om) (an:Option Oo) (cdv ct:Om) (us:List Om),us.length=ps.length->Sd (Ph x qual (bY st) (a9 st) (af st) .none kV doc pm an cdv ct) ⟨us,[]⟩=pure (ps.zip us)):cP K fd ps []:=by
 obtain⟨oc,od,kV,doc,pm,an,cdv,ct,osl,rfl,lk,hcd⟩:=F.ex
 exact .all (h kV doc pm an cdv ct)
theorem qt {x qual:Str} {f:Oo} {oc:Om} {od an:Option Oo} {kV doc pm cdv ct:Om} (l:K.lookup f=some ⟨oc,od,.func (Ph x qual (bY st) (a9 st) (af st) .none kV doc pm an cdv ct),osl⟩)
  (c:Qh K cdv qual=true) (k:O3 K (.ref f)=true):Fun K x qual st f (Ph x qual (bY st) (a9 st) (af st) .none kV doc pm an cdv ct):=⟨⟨oc,od,kV,doc,pm,an,cdv,ct,osl,rfl,l,c⟩,k⟩
end
theorem di {k:Nat} (hr:bn k A):A.units+1 < Qf:=Tz (Vf (by decide:1≤64) _) hr.units
theorem cF {n:Nat} (h:n≤1000):n < OA:=Tz h (by decide)

section
theorem pv (i:Nat) {x:Str} (hN:X.N[i]?=some x:=by nofun) (hv:Lf X.env.scope x:=by with_unfolding_all (first | exact TB rfl | exact US (TB rfl) | exact US (US rfl))) (hd:(x == ("__debug__":Str))=false:=by decide)
  (hcd:(x == ("__classdict__":Str))=false:=by decide):PE X (.Name x pos) (Dn i):=yD hN hv hd hcd
end
theorem sA {A B:Prop} (h:B):if false=true then A else B:=by
 rw [if_neg OK]
 exact h
theorem sB {A B:Prop} (h:A):if true=true then A else B:=by
 rw [if_pos rfl]
 exact h
def JQ (H H':Hp):Prop:=∀b o,H b=some o->H' b=some o
section
variable {κ:Type} [DecidableEq κ]
theorem Av:∀{l:List κ} {k:κ},l.Nodup->¬k∈l->(l++[k]).Nodup
 | [],k,_,_=>by simp
 | a::r,k,h,hk=>by
  obtain⟨h1,h2⟩:=PM.mp h
  show (a::(r++[k])).Nodup
  refine PM.mpr ⟨λm=>?_,Av h2 λm=>hk (ON.mpr (US m))⟩
  rcases Pv.mp m with q | q
  ·exact h1 q
  ·exact hk (ON.mpr (TB (Qt.mp q).symm))
end
end L2
set_option maxHeartbeats 4000000
namespace OH
open PySem PySem.W PySem.Calls PyProof.Rows
noncomputable abbrev p0:Pos:=⟨0,0,0,0⟩
noncomputable abbrev K5:Option Om:=some (.ref 6)
noncomputable def o4:List Obj:=[{ cls:=.type "tuple",data:=.seq #[] },{ cls:=.none,data:=.fields #[] },
 { cls:=.type "code",data:=.fields #[.str "<module>" 182,.str "<module>" 183,.str "/claim/cut.py" 184,.int 1 0,.int 0 0,.int 0 0,.int 0 0,.int 0 0,.ref 11,.bool false,.int 181 0,.ref 12,.none,.none,.none,.none,.int 185 0,.int 1 0,.str "/claim/cut.py" 186] },
 { cls:=.type "frame",slots:=#[some (.ref 13),some (.ref 3),some (.ref 3),none,some (.str "__main__" 164),none,some (.ref 0)] }]
noncomputable def bt:List Obj->Nat->BT->BT
 | [],_,t=>t
 | o::l,i,t=>bt l (i+1) (t.ins i o)
noncomputable def Tb (P:UR):BT:=bt ((Rn P).objs.toList++o4) 0 .nil
noncomputable abbrev St (w:Pl) (os:OsState):SharedT:=⟨Tb w.params,15,{},#[],W7,187,os⟩
noncomputable abbrev S0 (w:Pl) (os:OsState):Os:=⟨Rn w.params,YM [],W7,boot_toks,os⟩
noncomputable abbrev env (p:OZ):Env:={ scope:=p.main.scope,locals:=mainNs,globals:=mainNs,cells:=[],code:=.ref 13,frame:=some 14 }
noncomputable abbrev cd (p:OZ):Code:=.body (Sx p) (env p)
noncomputable abbrev B:List Frame:=[topFrame p0]
section
variable {p q:OZ} {loose:List Str} {Xt:Os->Bool} {N M:Nat} {K:UR->Ou} {as ts:List Oo} {ek:∀P,as=(K P).map (·.1)}
theorem LI (P:UR):((Rn P).isNs O0 && (YM []:Array YF).size == 0,(Rn P).objs.size,(Rn P).nsMap O0 "__annotations__")=(true,11,K5):=by kernel_rfl
theorem JR (w:Pl) (pos:Pos) (s:Os):topRun Sy p w 11 K5 2 s ⟨doneF .next,cd p,pos,B⟩=some s:=by cases s; rfl
noncomputable abbrev gt (t:BT) (a:Oo):Option Obj:=(t.get a).bind alive
theorem JS {t:BT} {n:Nat} {life:Life} {a:Oo} {o:Obj} (h:Qk a n=true) (g:gt t a=some o):(absHeap t n life).get? a=some o:=by
 obtain⟨o',g1,g2⟩:=Option.bind_eq_some_iff.mp g
 rw [abs_get (Sq h) g1,g2]
theorem vk {t:BT} {n:Nat} {life:Life}:∀{as:List Oo} {os:List (Option Obj)},as.all (λa=>Qk a n)=true->os.all (·.isSome)=true->as.map (gt t)=os->as.map (absHeap t n life).get?=os
 | [],_,_,_,e=>e
 | a::as,os,h,k,e=>by
  subst e
  rw [Qx,OI] at h
  rw [OV,Qx,OI] at k
  rw [OV,OV,vk h.2 k.2 rfl]
  obtain⟨o,ho⟩:=T4.mp k.1
  rw [ho,JS h.1 ho]
theorem GK (e:opening p=plainProg p.main.scope.names) (hN:Pg 600 N=true) (f:∀s,fenceModules? p s=some s)
  (pre:∀w os,topGo Sy p w 11 K5 12 (S0 w os) (topStub p)=some ((St w os).abs,⟨denote Sy (cd p),cd p,p0,B⟩))
  (blk:∀w os,segRun Sy p w 11 K5 1 1 (St w os).abs (blockOf (Sx p) (env p) (cd p) p0 B)=some (.next,(St w os).abs,cd p,p0))
  (main:∀w,(λos=>(segRunT Sy p w 11 K5 1 M (St w os) (piecesOf (Sx p) (env p) (cd p) p0 B)).map λr=>(r.1,r.2.2.1,
    (X9 (Ru p.main.body) (Rn w.params) r.2.1.abs.heap && W8 p r.2.1.abs.heap && YN r.2.1.abs && YO (Rn w.params) r.2.1.abs.heap),
    YQ q loose (Ru p.main.body) Xt true r.2.1.abs,as.all (λa=>Qk a r.2.1.n),ts.all (λa=>Qk a r.2.1.n),as.map (gt r.2.1.tree),ts.map (gt r.2.1.tree))) =
   λ_=>some (.next,cd p,true,YR q loose,true,true,(K w.params).map (λp=>some p.2),ts.map λ_=>some (RY #[])))
  (le:Pg (12+(1+(M+2))) N=true):LeftO p q loose Xt (kmHook K as ek ts).obs (kmHook K as ek ts).val N:=λw=>by
 obtain⟨⟨h,gs,d,k,os⟩,e1,e'⟩:=QN.mp (boot_open e hN f w)
 obtain⟨rfl,rfl,rfl,rfl⟩:h=Rn w.params/\gs=YM []/\d=W7/\k=boot_toks:=by simpa using e'
 obtain⟨⟨fl,sT,c',pos'⟩,m1,m2⟩:=QN.mp (congrFun (main w) os)
 obtain⟨rfl,m2⟩:=Rq m2
 obtain⟨rfl,m2⟩:=Rq m2
 obtain⟨l1,m2⟩:=Rq m2
 obtain⟨l2,m2⟩:=Rq m2
 obtain⟨a1,m2⟩:=Rq m2
 obtain⟨a2,m2⟩:=Rq m2
 obtain⟨a3,a4⟩:=Rq m2
 have k1:=piece_app (rest:=[]) (segRun_of m1) (piece_nil (JR w pos' sT.abs))
 rw [QG] at k1
 have r0:=go_top (pre w os) (piece_block (blk w os) k1)
 have r:=topRun_mono (N - (12+(1+(M+2)))) _ _ _ _ r0
 rw [show 12+(1+(M+2))+(N - (12+(1+(M+2))))=N by have:=Sq le; omega] at r
 obtain⟨z1,z2⟩:=Rq (LI w.params)
 obtain⟨z2,z3⟩:=Rq z2
 have t:ZD Sy p w N (S0 w os)=some sT.abs:=by
  unfold ZD
  dsimp only
  rw [z1,z2,z3,r]
  show (match X9 (Ru p.main.body) (Rn w.params) sT.abs.heap && W8 p sT.abs.heap && YN sT.abs && YO (Rn w.params) sT.abs.heap with | true=>some sT.abs | false=>none)=_
  rw [l1]
 have y1:as.map sT.abs.heap.get?=(K w.params).map λp=>some p.2:=vk a1 (by rw [Uo]; exact Wl.mpr λ_ _=>rfl) a3
 have y2:ts.map sT.abs.heap.get?=ts.map λ_=>some (RY #[]):=vk a2 (by rw [Uo]; exact Wl.mpr λ_ _=>rfl) a4
 unfold openEnds
 rw [e1]
 show (ZD Sy p w N (S0 w os)).map _=_
 rw [t]
 show some (YQ q loose (Ru p.main.body) Xt true sT.abs,as.map sT.abs.heap.get?,ts.map sT.abs.heap.get?)=some (YR q loose,(K w.params).map (λp=>some p.2),ts.map λ_=>some (RY #[]))
 rw [l2,y1,y2]
end
end OH
variable {σ:L2.St}
namespace RB
open PySem
def aG (i:Nat):Rf:=QU.main.body.getD i (.Pass ⟨0,0,0,0⟩)
end RB
namespace OH
open PySem PySem.W PySem.Calls PyProof.Rows L2
noncomputable abbrev kE (P:UR) (x:Str) (t:Nat) (v:Om):Q4:=⟨PyData.keyHash P x,.str x t,v⟩
noncomputable abbrev kD (es:List Q4) (n:Nat):Obj:={ cls:=.type "dict",data:=.dict ⟨es⟩ n }
noncomputable abbrev kL (x:Str) (a n t t':Nat):Obj:={ cls:=.type "type",data:=.cls { name:=x,bases:=[.type "object"],mro:=[.ref a,.type "object"],ns:=n,qualname:=x },slots:=#[none,none,some (.str x t),some (.str x t'),some (.builtin "object.__new__"),some (.bool true)] }
noncomputable abbrev kC (x y:Str) (t l ac po ko fl a t':Nat):Obj:={ cls:=.type "code",data:=.fields #[.str x t,.str y (t+1),.str "/claim/cut.py" (t+2),.int l 0,.int ac 0,.int po 0,.int ko 0,.int fl 0,.ref a,.bool true,.int 181 0,.ref (a+1),.none,.ref (a+2),.ref (a+3),.ref (a+4),.int t' 0,.int l 0,.str "/claim/cut.py" (t'+1)] }
noncomputable abbrev kQ (x y:Str) (t l ac po ko fl a t':Nat):Obj:={ cls:=.type "code",data:=.fields #[.str x t,.str y (t+1),.str "/claim/cut.py" (t+2),.int l 0,.int ac 0,.int po 0,.int ko 0,.int fl 0,.ref a,.bool true,.int 181 0,.ref (a+1),.none,.none,.none,.ref (a+2),.int t' 0,.int l 0,.str "/claim/cut.py" (t'+1)] }
noncomputable abbrev kF (x y:Str) (st:Rf) (kV:Om) (m:Str) (t c:Nat):Obj:={ cls:=.type "function",data:=.func (Ph x y (bY st) (a9 st) (af st) .none kV .none (.str m t) none (.ref c) .none) }
noncomputable abbrev kX (x:Str) (bs mr:List Om) (n:Nat) (sb:List Om) (z t t':Nat):Obj:={ cls:=.type "type",data:=.cls { name:=x,bases:=bs,mro:=mr,ns:=n,qualname:=x,subclasses:=sb },slots:=#[some (.ref z),none,some (.str x t),some (.str x t'),some (.builtin "ValueError.__new__"),some (.bool true)] }
open RB
noncomputable abbrev pw:=QU
noncomputable abbrev qv:OZ:=view pw [106]
noncomputable abbrev ls:List Str:=(pw.main.scope.names.map (·.1)).dropLast
noncomputable def KK:UR->Ou:=λP =>
 (nat_lit 3,kD (kE P "__name__" 165 (.str "law_lockstretch_k44_granted_in_turn" 1567)::kE P "__doc__" 166 .none::kE P "__package__" 167 .none::kE P "__loader__" 168 (.builtin "__main__.__loader__#opaque")::kE P "__spec__" 169 .none::kE P "__annotations__" 170 (.ref 6)::kE P "__builtins__" 171 (.ref 4)::kE P "__file__" 173 (.str "/claim/cut.py" 172)::kE P "__cached__" 174 .none::kE P "_wall" 193 (.ref 21)::kE P "LockError" 213 (.ref 31)::kE P "NoTask" 229 (.ref 44)::kE P "Asleep" 245 (.ref 56)::kE P "Awake" 261 (.ref 68)::kE P "NoHandle" 277 (.ref 80)::kE P "NoMark" 293 (.ref 92)::kE P "NoFile" 309 (.ref 104)::kE P "BadMode" 325 (.ref 116)::kE P "BadKind" 341 (.ref 128)::kE P "BadStretch" 357 (.ref 140)::kE P "Held" 382 (.ref 159)::kE P "Stuck" 398 (.ref 171)::kE P "NoAsk" 414 (.ref 183)::kE P "NoBack" 430 (.ref 195)::kE P "is_whole" 439 (.ref 204)::kE P "is_stretch" 448 (.ref 211)::kE P "lot_of" 458 (.ref 218)::kE P "joined" 466 (.ref 225)::kE P "without" 474 (.ref 232)::kE P "both" 488 (.ref 239)::kE P "meets" 497 (.ref 246)::kE P "gaps_of" 508 (.ref 253)::kE P "reaches" 516 (.ref 260)::kE P "earlier_end" 524 (.ref 267)::kE P "later_end" 532 (.ref 274)::kE P "KINDS" 537 (.ref 275)::kE P "HOLDERS" 540 (.ref 276)::kE P "MODES" 544 (.ref 277)::kE P "WORDS" 547 (.ref 278)::kE P "is_key" 555 (.ref 285)::kE P "check_task" 563 (.ref 292)::kE P "check_awake" 571 (.ref 299)::kE P "check_file" 579 (.ref 306)::kE P "check_mode" 586 (.ref 313)::kE P "check_kind" 593 (.ref 320)::kE P "check_by" 600 (.ref 327)::kE P "check_word" 607 (.ref 334)::kE P "check_stretch" 614 (.ref 341)::kE P "mark_at" 625 (.ref 348)::kE P "mark_of" 635 (.ref 355)::kE P "awake_mark" 644 (.ref 362)::kE P "opened_mark" 652 (.ref 369)::kE P "ask_entry" 660 (.ref 376)::kE P "lock_order" 674 (.ref 383)::kE P "lock_rows" 680 (.ref 388)::kE P "told_locks" 688 (.ref 395)::kE P "told_whole" 696 (.ref 402)::kE P "told_asks" 702 (.ref 407)::kE P "ask_of" 715 (.ref 414)::kE P "clash" 723 (.ref 421)::kE P "blocking_stretches" 729 (.ref 426)::kE P "blocking_wholes" 735 (.ref 431)::kE P "blocking_locks" 743 (.ref 438)::kE P "asks_are_against" 751 (.ref 445)::kE P "blocking_asks" 757 (.ref 450)::kE P "is_blocked" 765 (.ref 457)::kE P "first_blocker" 775 (.ref 464)::kE P "keep_lots" 786 (.ref 471)::kE P "free_cells" 798 (.ref 478)::kE P "take" 815 (.ref 485)::kE P "fall_asleep" 826 (.ref 492)::kE P "wake" 836 (.ref 499)::kE P "tasks_behind" 849 (.ref 506)::kE P "needs_of" 855 (.ref 511)::kE P "can_go" 861 (.ref 516)::kE P "stuck_asks" 867 (.ref 521)::kE P "give_up_stuck" 875 (.ref 528)::kE P "first_unblocked" 883 (.ref 535)::kE P "grant" 891 (.ref 542)::kE P "settle" 898 (.ref 549)::kE P "WRONG_MODES" 907 (.ref 550)::kE P "new_handle" 918 (.ref 557)::kE P "add_user" 930 (.ref 564)::kE P "lead" 941 (.ref 571)::kE P "lose_user" 947 (.ref 576)::kE P "shut" 953 (.ref 581)::kE P "end_task" 964 (.ref 588)::kE P "take_or_wait" 974 (.ref 595)::kE P "do_begin" 983 (.ref 602)::kE P "do_attach" 996 (.ref 609)::kE P "do_dup" 1008 (.ref 616)::kE P "do_close" 1018 (.ref 623)::kE P "do_fork" 1031 (.ref 630)::kE P "do_end" 1040 (.ref 637)::kE P "do_lock" 1056 (.ref 644)::kE P "do_unlock" 1070 (.ref 651)::kE P "do_cancel" 1079 (.ref 658)::kE P "do_lock_whole" 1092 (.ref 665)::kE P "do_unlock_whole" 1103 (.ref 672)::kE P "DEEDS" 1126 (.ref 673)::kE P "do_deed" 1137 (.ref 680)::kE P "Tables" 1215 (.ref 723)::kE P "Desk" 1566 (.ref 985)::kE P "_law_draw" 1580 (.ref 996)::kE P "_law_begun" 1586 (.ref 1003)::kE P "_law_is_awake" 1596 (.ref 1010)::kE P "law" 1602 (.ref 1015)::[]) 107) ::
 (nat_lit 30,kD (kE P "__module__" 203 (.str "lockstretch.errors" 194)::kE P "__firstlineno__" 207 (.int 5 206)::kE P "__static_attributes__" 208 (.ref 29)::kE P "__weakref__" 210 (.ref 32)::kE P "__doc__" 211 .none::[]) 3) ::
 (nat_lit 31,kX "LockError" [.type "ValueError"] [.ref 31,.type "ValueError",.type "Exception",.type "BaseException",.type "object"] 30 [.ref 44,.ref 56,.ref 68,.ref 80,.ref 92,.ref 104,.ref 116,.ref 128,.ref 140,.ref 159,.ref 171,.ref 183,.ref 195] 22 196 204) ::
 (nat_lit 67,kD (kE P "__module__" 253 (.str "lockstretch.errors" 194)::kE P "__firstlineno__" 257 (.int 11 256)::kE P "__static_attributes__" 258 (.ref 66)::kE P "__doc__" 259 .none::[]) 2) ::
 (nat_lit 68,kX "Awake" [.ref 31] [.ref 68,.ref 31,.type "ValueError",.type "Exception",.type "BaseException",.type "object"] 67 [] 59 246 254) ::
 (nat_lit 203,kC "is_whole" "is_whole" 433 36 1 0 0 3 198 437) ::
 (nat_lit 204,kF "is_whole" "is_whole" (aG 17) .none "lockstretch.lots" 431 203) ::
 (nat_lit 210,kC "is_stretch" "is_stretch" 440 38 1 0 0 3 205 446) ::
 (nat_lit 211,kF "is_stretch" "is_stretch" (aG 18) .none "lockstretch.lots" 431 210) ::
 (nat_lit 217,kC "lot_of" "lot_of" 449 45 1 0 0 3 212 456) ::
 (nat_lit 218,kF "lot_of" "lot_of" (aG 19) .none "lockstretch.lots" 431 217) ::
 (nat_lit 224,kC "joined" "joined" 459 53 2 0 0 3 219 464) ::
 (nat_lit 225,kF "joined" "joined" (aG 20) .none "lockstretch.lots" 431 224) ::
 (nat_lit 231,kC "without" "without" 467 55 2 0 0 3 226 472) ::
 (nat_lit 232,kF "without" "without" (aG 21) .none "lockstretch.lots" 431 231) ::
 (nat_lit 238,kC "both" "both" 475 57 2 0 0 3 233 486) ::
 (nat_lit 239,kF "both" "both" (aG 22) .none "lockstretch.lots" 431 238) ::
 (nat_lit 245,kC "meets" "meets" 489 71 2 0 0 3 240 495) ::
 (nat_lit 246,kF "meets" "meets" (aG 23) .none "lockstretch.lots" 431 245) ::
 (nat_lit 252,kC "gaps_of" "gaps_of" 498 74 1 0 0 3 247 506) ::
 (nat_lit 253,kF "gaps_of" "gaps_of" (aG 24) .none "lockstretch.lots" 431 252) ::
 (nat_lit 266,kC "earlier_end" "earlier_end" 517 87 2 0 0 3 261 522) ::
 (nat_lit 267,kF "earlier_end" "earlier_end" (aG 26) .none "lockstretch.lots" 431 266) ::
 (nat_lit 275,{ cls:=.type "tuple",data:=.seq #[.str "shared" 535,.str "alone" 536] }) ::
 (nat_lit 276,{ cls:=.type "tuple",data:=.seq #[.str "task" 538,.str "mark" 539] }) ::
 (nat_lit 277,{ cls:=.type "tuple",data:=.seq #[.str "read" 541,.str "write" 542,.str "both" 543] }) ::
 (nat_lit 284,kC "is_key" "is_key" 548 102 2 0 0 3 279 553) ::
 (nat_lit 285,kF "is_key" "is_key" (aG 33) .none "lockstretch.checks" 533 284) ::
 (nat_lit 291,kC "check_task" "check_task" 556 104 2 0 0 3 286 561) ::
 (nat_lit 292,kF "check_task" "check_task" (aG 34) .none "lockstretch.checks" 533 291) ::
 (nat_lit 298,kC "check_awake" "check_awake" 564 107 2 0 0 3 293 569) ::
 (nat_lit 299,kF "check_awake" "check_awake" (aG 35) .none "lockstretch.checks" 533 298) ::
 (nat_lit 305,kC "check_file" "check_file" 572 111 2 0 0 3 300 577) ::
 (nat_lit 306,kF "check_file" "check_file" (aG 36) .none "lockstretch.checks" 533 305) ::
 (nat_lit 312,kC "check_mode" "check_mode" 580 114 1 0 0 3 307 584) ::
 (nat_lit 313,kF "check_mode" "check_mode" (aG 37) .none "lockstretch.checks" 533 312) ::
 (nat_lit 319,kC "check_kind" "check_kind" 587 117 1 0 0 3 314 591) ::
 (nat_lit 320,kF "check_kind" "check_kind" (aG 38) .none "lockstretch.checks" 533 319) ::
 (nat_lit 326,kC "check_by" "check_by" 594 120 1 0 0 3 321 598) ::
 (nat_lit 327,kF "check_by" "check_by" (aG 39) .none "lockstretch.checks" 533 326) ::
 (nat_lit 340,kC "check_stretch" "check_stretch" 608 126 1 0 0 3 335 612) ::
 (nat_lit 341,kF "check_stretch" "check_stretch" (aG 41) .none "lockstretch.checks" 533 340) ::
 (nat_lit 347,kC "mark_at" "mark_at" 615 129 3 0 0 3 342 623) ::
 (nat_lit 348,kF "mark_at" "mark_at" (aG 42) .none "lockstretch.checks" 533 347) ::
 (nat_lit 354,kC "mark_of" "mark_of" 626 135 3 0 0 3 349 633) ::
 (nat_lit 355,kF "mark_of" "mark_of" (aG 43) .none "lockstretch.checks" 533 354) ::
 (nat_lit 361,kC "awake_mark" "awake_mark" 636 141 3 0 0 3 356 642) ::
 (nat_lit 362,kF "awake_mark" "awake_mark" (aG 44) .none "lockstretch.checks" 533 361) ::
 (nat_lit 375,kC "ask_entry" "ask_entry" 653 148 2 0 0 3 370 658) ::
 (nat_lit 376,kF "ask_entry" "ask_entry" (aG 46) .none "lockstretch.checks" 533 375) ::
 (nat_lit 382,kC "lock_order" "lock_order" 663 153 1 0 0 3 377 672) ::
 (nat_lit 383,kF "lock_order" "lock_order" (aG 48) .none "lockstretch.claims" 661 382) ::
 (nat_lit 387,kQ "lock_rows" "lock_rows" 675 156 2 0 0 3 384 678) ::
 (nat_lit 388,kF "lock_rows" "lock_rows" (aG 49) .none "lockstretch.claims" 661 387) ::
 (nat_lit 394,kC "told_locks" "told_locks" 681 162 2 0 0 3 389 686) ::
 (nat_lit 395,kF "told_locks" "told_locks" (aG 50) .none "lockstretch.claims" 661 394) ::
 (nat_lit 401,kC "told_whole" "told_whole" 689 164 2 0 0 3 396 694) ::
 (nat_lit 402,kF "told_whole" "told_whole" (aG 51) .none "lockstretch.claims" 661 401) ::
 (nat_lit 406,kQ "told_asks" "told_asks" 697 166 1 0 0 3 403 700) ::
 (nat_lit 407,kF "told_asks" "told_asks" (aG 52) .none "lockstretch.claims" 661 406) ::
 (nat_lit 413,kC "ask_of" "ask_of" 703 168 6 0 0 3 408 713) ::
 (nat_lit 414,kF "ask_of" "ask_of" (aG 53) .none "lockstretch.claims" 661 413) ::
 (nat_lit 420,kC "clash" "clash" 716 171 2 0 0 3 415 721) ::
 (nat_lit 421,kF "clash" "clash" (aG 54) .none "lockstretch.claims" 661 420) ::
 (nat_lit 425,kQ "blocking_stretches" "blocking_stretches" 724 173 2 0 0 3 422 727) ::
 (nat_lit 426,kF "blocking_stretches" "blocking_stretches" (aG 55) .none "lockstretch.claims" 661 425) ::
 (nat_lit 430,kQ "blocking_wholes" "blocking_wholes" 730 182 2 0 0 3 427 733) ::
 (nat_lit 431,kF "blocking_wholes" "blocking_wholes" (aG 56) .none "lockstretch.claims" 661 430) ::
 (nat_lit 437,kC "blocking_locks" "blocking_locks" 736 185 2 0 0 3 432 741) ::
 (nat_lit 438,kF "blocking_locks" "blocking_locks" (aG 57) .none "lockstretch.claims" 661 437) ::
 (nat_lit 444,kC "asks_are_against" "asks_are_against" 744 189 2 0 0 3 439 749) ::
 (nat_lit 445,kF "asks_are_against" "asks_are_against" (aG 58) .none "lockstretch.claims" 661 444) ::
 (nat_lit 449,kQ "blocking_asks" "blocking_asks" 752 195 2 0 0 3 446 755) ::
 (nat_lit 450,kF "blocking_asks" "blocking_asks" (aG 59) .none "lockstretch.claims" 661 449) ::
 (nat_lit 456,kC "is_blocked" "is_blocked" 758 200 2 0 0 3 451 763) ::
 (nat_lit 457,kF "is_blocked" "is_blocked" (aG 60) .none "lockstretch.claims" 661 456) ::
 (nat_lit 463,kC "first_blocker" "first_blocker" 766 202 2 0 0 3 458 773) ::
 (nat_lit 464,kF "first_blocker" "first_blocker" (aG 61) .none "lockstretch.claims" 661 463) ::
 (nat_lit 470,kC "keep_lots" "keep_lots" 776 208 5 0 0 3 465 784) ::
 (nat_lit 471,kF "keep_lots" "keep_lots" (aG 62) .none "lockstretch.claims" 661 470) ::
 (nat_lit 477,kC "free_cells" "free_cells" 787 213 4 0 0 3 472 796) ::
 (nat_lit 478,kF "free_cells" "free_cells" (aG 63) .none "lockstretch.claims" 661 477) ::
 (nat_lit 484,kC "take" "take" 799 216 2 0 0 3 479 813) ::
 (nat_lit 485,kF "take" "take" (aG 64) .none "lockstretch.claims" 661 484) ::
 (nat_lit 491,kC "fall_asleep" "fall_asleep" 818 229 2 0 0 3 486 824) ::
 (nat_lit 492,kF "fall_asleep" "fall_asleep" (aG 66) .none "lockstretch.waits" 816 491) ::
 (nat_lit 498,kC "wake" "wake" 827 237 3 0 0 3 493 834) ::
 (nat_lit 499,kF "wake" "wake" (aG 67) .none "lockstretch.waits" 816 498) ::
 (nat_lit 505,kC "tasks_behind" "tasks_behind" 837 242 2 0 0 3 500 847) ::
 (nat_lit 506,kF "tasks_behind" "tasks_behind" (aG 68) .none "lockstretch.waits" 816 505) ::
 (nat_lit 510,kQ "needs_of" "needs_of" 850 247 2 0 0 3 507 853) ::
 (nat_lit 511,kF "needs_of" "needs_of" (aG 69) .none "lockstretch.waits" 816 510) ::
 (nat_lit 515,kQ "can_go" "can_go" 856 251 2 0 0 3 512 859) ::
 (nat_lit 516,kF "can_go" "can_go" (aG 70) .none "lockstretch.waits" 816 515) ::
 (nat_lit 520,kQ "stuck_asks" "stuck_asks" 862 253 1 0 0 3 517 865) ::
 (nat_lit 521,kF "stuck_asks" "stuck_asks" (aG 71) .none "lockstretch.waits" 816 520) ::
 (nat_lit 527,kC "give_up_stuck" "give_up_stuck" 868 265 1 0 0 3 522 873) ::
 (nat_lit 528,kF "give_up_stuck" "give_up_stuck" (aG 72) .none "lockstretch.waits" 816 527) ::
 (nat_lit 534,kC "first_unblocked" "first_unblocked" 876 270 1 0 0 3 529 881) ::
 (nat_lit 535,kF "first_unblocked" "first_unblocked" (aG 73) .none "lockstretch.waits" 816 534) ::
 (nat_lit 541,kC "grant" "grant" 884 275 1 0 0 3 536 889) ::
 (nat_lit 542,kF "grant" "grant" (aG 74) .none "lockstretch.waits" 816 541) ::
 (nat_lit 548,kC "settle" "settle" 892 281 1 0 0 3 543 896) ::
 (nat_lit 549,kF "settle" "settle" (aG 75) .none "lockstretch.waits" 816 548) ::
 (nat_lit 550,kD (kE P "shared" 901 (.str "write" 902)::kE P "alone" 903 (.str "read" 904)::[]) 2) ::
 (nat_lit 556,kC "new_handle" "new_handle" 908 287 2 0 0 3 551 916) ::
 (nat_lit 557,kF "new_handle" "new_handle" (aG 78) .none "lockstretch.deeds" 899 556) ::
 (nat_lit 563,kC "add_user" "add_user" 919 293 3 0 0 3 558 928) ::
 (nat_lit 564,kF "add_user" "add_user" (aG 79) .none "lockstretch.deeds" 899 563) ::
 (nat_lit 570,kC "lead" "lead" 931 296 4 0 0 3 565 939) ::
 (nat_lit 571,kF "lead" "lead" (aG 80) .none "lockstretch.deeds" 899 570) ::
 (nat_lit 575,kQ "lose_user" "lose_user" 942 300 3 0 0 3 572 945) ::
 (nat_lit 576,kF "lose_user" "lose_user" (aG 81) .none "lockstretch.deeds" 899 575) ::
 (nat_lit 580,kQ "shut" "shut" 948 309 3 0 0 3 577 951) ::
 (nat_lit 581,kF "shut" "shut" (aG 82) .none "lockstretch.deeds" 899 580) ::
 (nat_lit 587,kC "end_task" "end_task" 954 317 2 0 0 3 582 962) ::
 (nat_lit 588,kF "end_task" "end_task" (aG 83) .none "lockstretch.deeds" 899 587) ::
 (nat_lit 594,kC "take_or_wait" "take_or_wait" 965 324 3 0 0 3 589 972) ::
 (nat_lit 595,kF "take_or_wait" "take_or_wait" (aG 84) .none "lockstretch.deeds" 899 594) ::
 (nat_lit 601,kC "do_begin" "do_begin" 975 334 2 0 0 3 596 981) ::
 (nat_lit 602,kF "do_begin" "do_begin" (aG 85) .none "lockstretch.deeds" 899 601) ::
 (nat_lit 608,kC "do_attach" "do_attach" 984 338 2 0 0 3 603 994) ::
 (nat_lit 609,kF "do_attach" "do_attach" (aG 86) .none "lockstretch.deeds" 899 608) ::
 (nat_lit 636,kC "do_end" "do_end" 1032 372 2 0 0 3 631 1038) ::
 (nat_lit 637,kF "do_end" "do_end" (aG 90) .none "lockstretch.deeds" 899 636) ::
 (nat_lit 643,kC "do_lock" "do_lock" 1041 376 2 0 0 3 638 1054) ::
 (nat_lit 644,kF "do_lock" "do_lock" (aG 91) .none "lockstretch.deeds" 899 643) ::
 (nat_lit 650,kC "do_unlock" "do_unlock" 1057 386 2 0 0 3 645 1068) ::
 (nat_lit 651,kF "do_unlock" "do_unlock" (aG 92) .none "lockstretch.deeds" 899 650) ::
 (nat_lit 657,kC "do_cancel" "do_cancel" 1071 393 2 0 0 3 652 1077) ::
 (nat_lit 658,kF "do_cancel" "do_cancel" (aG 93) .none "lockstretch.deeds" 899 657) ::
 (nat_lit 664,kC "do_lock_whole" "do_lock_whole" 1080 399 2 0 0 3 659 1090) ::
 (nat_lit 665,kF "do_lock_whole" "do_lock_whole" (aG 94) .none "lockstretch.deeds" 899 664) ::
 (nat_lit 671,kC "do_unlock_whole" "do_unlock_whole" 1093 404 2 0 0 3 666 1101) ::
 (nat_lit 672,kF "do_unlock_whole" "do_unlock_whole" (aG 95) .none "lockstretch.deeds" 899 671) ::
 (nat_lit 673,kD (kE P "begin" 1104 (.ref 602)::kE P "attach" 1105 (.ref 609)::kE P "dup" 1106 (.ref 616)::kE P "close" 1107 (.ref 623)::kE P "fork" 1108 (.ref 630)::kE P "end" 1109 (.ref 637)::kE P "lock" 1110 (.ref 644)::kE P "unlock" 1111 (.ref 651)::kE P "cancel" 1112 (.ref 658)::kE P "lock_whole" 1113 (.ref 665)::kE P "unlock_whole" 1114 (.ref 672)::[]) 11) ::
 (nat_lit 679,kC "do_deed" "do_deed" 1127 409 3 0 0 3 674 1135) ::
 (nat_lit 680,kF "do_deed" "do_deed" (aG 97) .none "lockstretch.deeds" 899 679) ::
 (nat_lit 691,kQ "__init__" "Tables.__init__" 1152 417 3 0 0 3 688 1155) ::
 (nat_lit 692,kF "__init__" "Tables.__init__" (ay (aG 99) 0) .none "lockstretch.tables" 1138 691) ::
 (nat_lit 698,kC "put" "Tables.put" 1158 430 4 0 0 3 693 1165) ::
 (nat_lit 699,kF "put" "Tables.put" (ay (aG 99) 1) .none "lockstretch.tables" 1138 698) ::
 (nat_lit 705,kC "drop" "Tables.drop" 1168 434 3 0 0 3 700 1174) ::
 (nat_lit 706,kF "drop" "Tables.drop" (ay (aG 99) 2) .none "lockstretch.tables" 1138 705) ::
 (nat_lit 712,kC "undo_to" "Tables.undo_to" 1177 439 2 0 0 3 707 1185) ::
 (nat_lit 713,kF "undo_to" "Tables.undo_to" (ay (aG 99) 3) .none "lockstretch.tables" 1138 712) ::
 (nat_lit 719,kC "fresh" "Tables.fresh" 1188 447 2 0 0 3 714 1194) ::
 (nat_lit 720,kF "fresh" "Tables.fresh" (ay (aG 99) 4) .none "lockstretch.tables" 1138 719) ::
 (nat_lit 722,kD (kE P "__module__" 1147 (.str "lockstretch.tables" 1138)::kE P "__firstlineno__" 1151 (.int 415 1150)::kE P "__init__" 1157 (.ref 692)::kE P "put" 1167 (.ref 699)::kE P "drop" 1176 (.ref 706)::kE P "undo_to" 1187 (.ref 713)::kE P "fresh" 1196 (.ref 720)::kE P "__static_attributes__" 1208 (.ref 721)::kE P "__dict__" 1210 (.ref 724)::kE P "__weakref__" 1212 (.ref 725)::kE P "__doc__" 1213 .none::[]) 4) ::
 (nat_lit 723,kL "Tables" 723 722 1140 1148) ::
 (nat_lit 735,kD (kE P "fair" 1230 (.bool false)::[]) 1) ::
 (nat_lit 741,kC "__init__" "Desk.__init__" 1231 454 2 0 1 3 736 1237) ::
 (nat_lit 742,kF "__init__" "Desk.__init__" (ay (aG 101) 0) (.ref 735) "lockstretch.desks" 1216 741) ::
 (nat_lit 748,kC "perform" "Desk.perform" 1240 461 3 0 0 3 743 1248) ::
 (nat_lit 749,kF "perform" "Desk.perform" (ay (aG 101) 1) .none "lockstretch.desks" 1216 748) ::
 (nat_lit 755,kC "do" "Desk.do" 1251 471 3 0 0 3 750 1258) ::
 (nat_lit 756,kF "do" "Desk.do" (ay (aG 101) 2) .none "lockstretch.desks" 1216 755) ::
 (nat_lit 762,kC "begin" "Desk.begin" 1261 476 1 0 0 3 757 1265) ::
 (nat_lit 763,kF "begin" "Desk.begin" (ay (aG 101) 3) .none "lockstretch.desks" 1216 762) ::
 (nat_lit 764,kD (kE P "mode" 1269 (.str "both" 1268)::[]) 1) ::
 (nat_lit 770,kC "attach" "Desk.attach" 1270 479 3 0 1 3 765 1277) ::
 (nat_lit 771,kF "attach" "Desk.attach" (ay (aG 101) 4) (.ref 764) "lockstretch.desks" 1216 770) ::
 (nat_lit 799,kC "end" "Desk.end" 1308 491 2 0 0 3 794 1313) ::
 (nat_lit 800,kF "end" "Desk.end" (ay (aG 101) 8) .none "lockstretch.desks" 1216 799) ::
 (nat_lit 801,kD (kE P "by" 1317 (.str "task" 1316)::kE P "wait" 1318 (.bool false)::[]) 2) ::
 (nat_lit 807,kC "lock" "Desk.lock" 1319 494 5 0 2 3 802 1329) ::
 (nat_lit 808,kF "lock" "Desk.lock" (ay (aG 101) 9) (.ref 801) "lockstretch.desks" 1216 807) ::
 (nat_lit 809,kD (kE P "by" 1333 (.str "task" 1332)::[]) 1) ::
 (nat_lit 815,kC "unlock" "Desk.unlock" 1334 497 4 0 1 3 810 1342) ::
 (nat_lit 816,kF "unlock" "Desk.unlock" (ay (aG 101) 10) (.ref 809) "lockstretch.desks" 1216 815) ::
 (nat_lit 822,kC "cancel" "Desk.cancel" 1345 500 2 0 0 3 817 1350) ::
 (nat_lit 823,kF "cancel" "Desk.cancel" (ay (aG 101) 11) .none "lockstretch.desks" 1216 822) ::
 (nat_lit 824,kD (kE P "wait" 1353 (.bool false)::[]) 1) ::
 (nat_lit 830,kC "lock_whole" "Desk.lock_whole" 1354 503 4 0 1 3 825 1362) ::
 (nat_lit 831,kF "lock_whole" "Desk.lock_whole" (ay (aG 101) 12) (.ref 824) "lockstretch.desks" 1216 830) ::
 (nat_lit 837,kC "unlock_whole" "Desk.unlock_whole" 1365 506 3 0 0 3 832 1371) ::
 (nat_lit 838,kF "unlock_whole" "Desk.unlock_whole" (ay (aG 101) 13) .none "lockstretch.desks" 1216 837) ::
 (nat_lit 865,kC "is_asleep" "Desk.is_asleep" 1397 519 2 0 0 3 860 1402) ::
 (nat_lit 866,kF "is_asleep" "Desk.is_asleep" (ay (aG 101) 17) .none "lockstretch.desks" 1216 865) ::
 (nat_lit 880,kC "locks" "Desk.locks" 1419 526 2 0 0 3 875 1424) ::
 (nat_lit 881,kF "locks" "Desk.locks" (ay (aG 101) 19) .none "lockstretch.desks" 1216 880) ::
 (nat_lit 887,kC "whole_locks" "Desk.whole_locks" 1427 530 2 0 0 3 882 1432) ::
 (nat_lit 888,kF "whole_locks" "Desk.whole_locks" (ay (aG 101) 20) .none "lockstretch.desks" 1216 887) ::
 (nat_lit 901,kC "asks" "Desk.asks" 1456 547 1 0 0 3 896 1460) ::
 (nat_lit 902,kF "asks" "Desk.asks" (ay (aG 101) 22) .none "lockstretch.desks" 1216 901) ::
 (nat_lit 908,kC "outcome" "Desk.outcome" 1463 550 2 0 0 3 903 1468) ::
 (nat_lit 909,kF "outcome" "Desk.outcome" (ay (aG 101) 23) .none "lockstretch.desks" 1216 908) ::
 (nat_lit 984,kD (kE P "__module__" 1225 (.str "lockstretch.desks" 1216)::kE P "__firstlineno__" 1229 (.int 452 1228)::kE P "__init__" 1239 (.ref 742)::kE P "perform" 1250 (.ref 749)::kE P "do" 1260 (.ref 756)::kE P "begin" 1267 (.ref 763)::kE P "attach" 1279 (.ref 771)::kE P "dup" 1290 (.ref 779)::kE P "close" 1299 (.ref 786)::kE P "fork" 1307 (.ref 793)::kE P "end" 1315 (.ref 800)::kE P "lock" 1331 (.ref 808)::kE P "unlock" 1344 (.ref 816)::kE P "cancel" 1352 (.ref 823)::kE P "lock_whole" 1364 (.ref 831)::kE P "unlock_whole" 1373 (.ref 838)::kE P "tasks" 1380 (.ref 845)::kE P "handles" 1388 (.ref 852)::kE P "mark" 1396 (.ref 859)::kE P "is_asleep" 1404 (.ref 866)::kE P "probe" 1418 (.ref 874)::kE P "locks" 1426 (.ref 881)::kE P "whole_locks" 1434 (.ref 888)::kE P "may" 1455 (.ref 895)::kE P "asks" 1462 (.ref 902)::kE P "outcome" 1470 (.ref 909)::kE P "why" 1478 (.ref 916)::kE P "ending" 1485 (.ref 923)::kE P "deeds" 1491 (.ref 928)::kE P "undone" 1498 (.ref 935)::kE P "back" 1508 (.ref 942)::kE P "again" 1517 (.ref 949)::kE P "counts" 1524 (.ref 956)::kE P "many_locks" 1530 (.ref 961)::kE P "__eq__" 1538 (.ref 968)::kE P "__len__" 1545 (.ref 975)::kE P "__str__" 1552 (.ref 982)::kE P "__static_attributes__" 1558 (.ref 983)::kE P "__dict__" 1560 (.ref 986)::kE P "__weakref__" 1562 (.ref 987)::kE P "__doc__" 1563 .none::kE P "__hash__" 1564 .none::[]) 5) ::
 (nat_lit 985,kL "Desk" 985 984 1218 1226) ::
 (nat_lit 995,kC "_law_draw" "_law_draw" 1569 599 3 0 0 3 990 1578) ::
 (nat_lit 996,kF "_law_draw" "_law_draw" (aG 103) .none "law_lockstretch_k44_granted_in_turn" 1567 995) ::
 (nat_lit 1002,kC "_law_begun" "_law_begun" 1581 609 0 0 0 3 997 1584) ::
 (nat_lit 1003,kF "_law_begun" "_law_begun" (aG 104) .none "law_lockstretch_k44_granted_in_turn" 1567 1002) ::
 (nat_lit 1009,kC "_law_is_awake" "_law_is_awake" 1587 611 2 0 0 3 1004 1594) ::
 (nat_lit 1010,kF "_law_is_awake" "_law_is_awake" (aG 105) .none "law_lockstretch_k44_granted_in_turn" 1567 1009) ::
 (nat_lit 1014,kQ "law" "law" 1597 618 1 0 0 3 1011 1600) ::
 (nat_lit 1015,kF "law" "law" (aG 106) .none "law_lockstretch_k44_granted_in_turn" 1567 1014)::[]
noncomputable def ks:List Oo:=3::30::31::67::68::203::204::210::211::217::218::224::225::231::232::238::239::245::246::252::253::266::267::275::276::277::284::285::291::292::298::299::305::306::312::313::319::320::326::327::340::341::347::348::354::355::361::362::375::376::382::383::387::388::394::395::401::402::406::407::413::414::420::421::425::426::430::431::437::438::444::445::449::450::456::457::463::464::470::471::477::478::484::485::491::492::498::499::505::506::510::511::515::516::520::521::527::528::534::535::541::542::548::549::550::556::557::563::564::570::571::575::576::580::581::587::588::594::595::601::602::608::609::636::637::643::644::650::651::657::658::664::665::671::672::673::679::680::691::692::698::699::705::706::712::713::719::720::722::723::735::741::742::748::749::755::756::762::763::764::770::771::799::800::801::807::808::809::815::816::822::823::824::830::831::837::838::865::866::880::881::887::888::901::902::908::909::984::985::995::996::1002::1003::1009::1010::1014::1015::[]
theorem LJ (P:UR):ks=(KK P).map (·.1):=rfl
noncomputable abbrev Hk:Hook:=kmHook KK ks LJ [213]
noncomputable abbrev Xt (s:Os):Bool:=xlAt qv [] s && recOk (RowW.records OY.row.toRowW) s
abbrev Mn (w:Pl):Prop:=(λos=>(segRunT Sy pw w 11 K5 1 7442 (St w os) (piecesOf (Sx pw) (env pw) (cd pw) p0 B)).map λr=>(r.1,r.2.2.1,
  (X9 (Ru pw.main.body) (Rn w.params) r.2.1.abs.heap && W8 pw r.2.1.abs.heap && YN r.2.1.abs && YO (Rn w.params) r.2.1.abs.heap),
  YQ qv ls (Ru pw.main.body) Xt true r.2.1.abs,ks.all (λa=>Qk a r.2.1.n),[213].all (λa=>Qk a r.2.1.n),ks.map (gt r.2.1.tree),[213].map (gt r.2.1.tree))) =
 λ_=>some (.next,cd pw,true,YR qv ls,true,true,(KK w.params).map (λp=>some p.2),[213].map λ_=>some (RY #[]))
theorem Nx (w:Pl):Mn (w.withFollow "special-get-raises" false):=by
 show (λos=>_)=_
 rw [RZ,R0,RQ,RS]
 kernel_rfl
theorem Ny (w:Pl):Mn (w.withFollow "special-get-raises" true):=by
 show (λos=>_)=_
 rw [RZ,R0,RQ,RS]
 kernel_rfl
theorem left:LeftO pw qv ls Xt Hk.obs Hk.val 20000:=GK (K:=KK) (M:=7442) (by kernel_rfl) (by decide) (λs=>by kernel_rfl) (λw os=>by kernel_rfl) (λw os=>by kernel_rfl) (byRow2 "special-get-raises" Nx Ny) (by decide)
noncomputable abbrev rl:TL:=OY
noncomputable abbrev dL:DefRec:=⟨"law",bY (RB.aG 106),a9 (RB.aG 106),af (RB.aG 106),⟨618,0,654,145⟩⟩
theorem hd1:defOf qv rl.row.name=some (dL,[]):=by kernel_rfl
theorem hd2:rl.row.prog.theDef rl.row.name=some (dL.params,dL.body,dL.scope):=by kernel_rfl
theorem hd3:kwWritten? dL.params.kwonlyargs dL.params.kw_defaults=some []:=by kernel_rfl
theorem hd4:(!rl.row.writes || rl.row.records.isEmpty)=true:=by kernel_rfl
theorem hd5:(chainsOk qv && opensWell rl.row.prog && (frees rl.row.toRowW && rl.row.within.isEmpty))=true:=by kernel_rfl
theorem hd6:rl.row.prog.bare:=⟨rfl,rfl,rfl,rfl,rfl,by decide +kernel⟩
theorem said:rl.wellSaid=true:=by
 unfold OpenLaw.wellSaid OpenRow.wellSaid
 repeat' with_reducible refine look_both ?_ ?_
 all_goals decide +kernel
end OH
namespace L2
open PySem PySem.Spec PyProof.Rows
def fJ (cells:List (Str×Oo)):List (Str×QS)->List (Str×Oo)->List (Str×Oo)
 | [],acc=>acc
 | (n,k)::r,acc=>if k == .free then fJ cells r ((n,(cells.lookup n).getD 0)::acc) else fJ cells r acc
theorem GL {env:Env} {names:List (Str×QS)} (h:∀y∈names,y.2=.free->∃c,env.cells.lookup y.1=some c) (acc:List (Str×Oo)) :
  (forIn (m:=Sem) names acc λx cs=>do
   let (name,kind):=x
   if kind == .free then
    let c <-cellOf env name
    pure (SV ((name,c)::cs))
   else pure (SV cs))=pure (fJ env.cells names acc):=by
 induction names generalizing acc with
 | nil=>rfl
 | cons y r ih =>
  obtain⟨n,k⟩:=y
  have hr:∀y∈r,y.2=.free->∃c,env.cells.lookup y.1=some c:=λy hy=>h y (OF _ hy)
  rw [WJ]
  cases hk:(k == PN) with
  | true =>
   have e:k=.free:=by simpa using hk
   obtain⟨c,hc⟩:=h (n,k) Oz e
   have hc':cellOf env n=pure c:=by unfold cellOf; rw [show env.cells.lookup n=some c from hc]
   simp only [hk,if_true,hc',fJ]
   have:=ih hr ((n,c)::acc)
   rw [show (env.cells.lookup n).getD 0=c by rw [show env.cells.lookup n=some c from hc]; rfl]
   exact this
  | false =>
   simp only [hk,OT,if_false,fJ]
   exact ih hr acc
theorem ff {sc:Pp} {env:Env} (h:∀y∈sc.names,y.2=.free->∃c,env.cells.lookup y.1=some c):W9 sc env=pure (fJ env.cells sc.names []):=by
 have:=GL h []
 unfold W9
 refine (congrArg (λ(m:Sem (List (Str×Oo)))=>m >>= λcs=>pure cs) this).trans ?_
 rfl
theorem ib {cells:List (Str×Oo)} {x:Str} {c:Oo}:∀{names:List (Str×QS)} {acc:List (Str×Oo)},(∀y∈names,y.2=.free->∃c,cells.lookup y.1=some c)->(∀x c,acc.lookup x=some c->cells.lookup x=some c) ->
  (fJ cells names acc).lookup x=some c->cells.lookup x=some c
 | [],acc,_,ha,h=>ha x c h
 | (n,k)::r,acc,hf,ha,h=>by
  have hr:∀y∈r,y.2=.free->∃c,cells.lookup y.1=some c:=λy hy=>hf y (OF _ hy)
  unfold fJ at h
  split at h
  ·rename_i hk
   refine ib hr (λz d hz=>?_) h
   rw [Px] at hz
   split at hz
   ·rename_i e
    have e:z=n:=by simpa using e
    subst e
    obtain⟨c',hc'⟩:=hf (z,k) Oz (by simpa using hk)
    rw [show cells.lookup z=some c' from hc'] at hz ⊢
    exact hz
   ·exact ha z d hz
  ·exact ib hr ha h
theorem lW {cells:List (Str×Oo)} {x:Str}:∀{names:List (Str×QS)} {acc:List (Str×Oo)},((x,PN)∈names∨∃c,acc.lookup x=some c)->∃c,(fJ cells names acc).lookup x=some c
 | [],acc,h=>by
  rcases h with h | h
  ·simp at h
  ·exact h
 | (n,k)::r,acc,h=>by
  unfold fJ
  by_cases hk:(k == PN)=true
  ·rw [if_pos hk]
   refine lW ?_
   rcases h with h | ⟨c,h⟩
   ·rcases ON.mp h with e | h
    ·cases e
     exact .inr ⟨_,by rw [Px,beq_self_eq_true]⟩
    ·exact .inl h
   ·right
    rw [Px]
    cases e:(x == n)
    ·exact⟨c,h⟩
    ·exact⟨_,rfl⟩
  ·rw [if_neg hk]
   refine lW ?_
   rcases h with h | h
   ·rcases ON.mp h with e | h
    ·cases e
     simp at hk
    ·exact .inl h
   ·exact .inr h

@[reducible] def dC (X:Cx) (sc:Pp) (Nc:List Str) (C:Oo) (s:Os) (H:Hp) (ex:List Oo) (pn:List (Oo×Obj)):Cx where
 prog:=X.prog
 w:=X.w
 K:=X.K
 mg:=X.mg
 base:=X.base
 A:=X.A
 N:=Nc
 s₀:=s
 H₀:=H
 env:=SK sc (fJ X.env.cells sc.names []) C X.env
 outer:=X.stack
 stack:=X.stack
 ex:=ex
 fn:=λ_=>false
 calm:=X.calm
 pn:=pn
 xe:=λ_ _=>False

structure aR (up:Pp) (N:List Str) (sc:Pp) (Nc:List Str) (ix:List (Option Nat)):Prop where
 kind:sc.kind=.function
 nocell:∀y∈sc.names,y.2≠.cell
 loc:∀y∈sc.names,y.2=.local->sc.names.lookup y.1=some .local
 free:∀y∈sc.names,y.2=.free->up.names.lookup y.1=some .cell∨up.names.lookup y.1=some .free
 nd:Nc.Nodup
 len:ix.length=Nc.length
 map:∀p∈Nc.zip ix,(match p.2 with
  | none=>true
  | some j=>decide (N[j]?=some p.1) && decide (up.names.lookup p.1=some .cell∨up.names.lookup p.1=some .free) && decide ((p.1,PN)∈sc.names) && decide (sc.names.lookup p.1=some .free))=true
def iu (ix:List (Option Nat)) (σ:St):St:=ix.map λo=>o.bind λj=>σ[j]?.join
def yS (σ σ':St):Prop:=σ.length=σ'.length/\∀(i:Nat) v,σ[i]?=some (some v)->σ'[i]?=some (some v)
theorem qw {sc:Pp} {env:Env} {x:Str} (h:(TY sc env).names.lookup x=some .cell∨(TY sc env).names.lookup x=some .free) (hn:∀y∈sc.names,y.2≠.cell):(x,PN)∈sc.names:=by
 have key:∀names:List (Str×QS),(∀y∈names,y.2≠.cell)->∀k,(names.map λ(n,k)=>if (k == PN && env.scope.kind == .function && env.kindOf n == some .cell) then (n,Vu) else (n,k)).lookup x=some k->(k=.cell∨k=.free)->(x,PN)∈names:=by
  intro names
  induction names with
  | nil=>intro _ k h; simp at h
  | cons y r ih =>
   intro hn k h hk
   obtain⟨n,k'⟩:=y
   have hr:∀y∈r,y.2≠.cell:=λy hy=>hn y (OF _ hy)
   rw [OV] at h
   dsimp only at h
   by_cases hc:(k' == PN && env.scope.kind == .function && env.kindOf n == some .cell)=true
   ·rw [if_pos hc,Px] at h
    cases e:(x == n)
    ·rw [e] at h
     exact OF _ (ih hr k h hk)
    ·have e:x=n:=by simpa using e
     subst e
     have:k'=.free:=by
      simp only [OI,beq_iff_eq] at hc
      exact hc.1.1
     subst this
     exact Oz
   ·rw [if_neg hc,Px] at h
    cases e:(x == n)
    ·rw [e] at h
     exact OF _ (ih hr k h hk)
    ·rw [e] at h
     have e:x=n:=by simpa using e
     subst e
     have h:k'=k:=by simpa using h
     subst h
     rcases hk with hk | hk
     ·exact absurd hk (hn _ Oz)
     ·subst hk; exact Oz
 rcases h with h | h
 ·exact key sc.names hn _ h (.inl rfl)
 ·exact key sc.names hn _ h (.inr rfl)
theorem vm {sc:Pp} {env:Env} {x:Str}:sc.names.lookup x=some .free->(TY sc env).names.lookup x=some .cell∨(TY sc env).names.lookup x=some .free:=by
 have key:∀names:List (Str×QS),names.lookup x=some .free->(names.map λ(n,k)=>if (k == PN && env.scope.kind == .function && env.kindOf n == some .cell) then (n,Vu) else (n,k)).lookup x=some .cell ∨
   (names.map λ(n,k)=>if (k == PN && env.scope.kind == .function && env.kindOf n == some .cell) then (n,Vu) else (n,k)).lookup x=some .free:=by
  intro names
  induction names with
  | nil=>intro h; simp at h
  | cons y r ih =>
   intro h
   obtain⟨n,k'⟩:=y
   rw [OV]
   dsimp only
   rw [Px] at h
   by_cases hc:(k' == PN && env.scope.kind == .function && env.kindOf n == some .cell)=true
   ·rw [if_pos hc]
    cases e:(x == n)
    ·rw [e] at h
     simp only [Px,e]
     exact ih h
    ·simp only [Px,e]
     exact .inl trivial
   ·rw [if_neg hc]
    cases e:(x == n)
    ·rw [e] at h
     simp only [Px,e]
     exact ih h
    ·rw [e] at h
     simp only [Px,e]
     exact .inr (by simpa using h)
 exact key sc.names

section
variable {sc:Pp} {Nc:List Str}
theorem aC.lcCl (I:aC X pins σ H s) (S:aR X.env.scope X.N sc Nc ix):∀y∈sc.names,y.2=.free->∃c,X.env.cells.lookup y.1=some c:=λy hy e=>I.ok.has y.1 (S.free y hy e)

theorem aC.lcOk {C:Oo} {fp:List Oo} {pn:List (Oo×Obj)} (I:aC X pins σ H s) (S:aR X.env.scope X.N sc Nc ix) (hC:s.heap.objs.size≤C) (hf:∀b∈fp,eG X pins H b) (hfs:∀b∈fp,b < s.heap.objs.size) :
  (dC X sc Nc C s H fp pn).Ok:=by
 have hcl:=I.lcCl S
 have sub:∀x c,(fJ X.env.cells sc.names []).lookup x=some c->X.env.cells.lookup x=some c:=λx c h=>ib hcl (λ_ _ z=>by simp at z) h
 refine⟨I.ok.mod,S.kind,I.ok.glob,I.ok.blt,hC,λx y c h1 h2=>I.ok.inj x y c (sub _ _ h1) (sub _ _ h2),λx hx=>?_,λx c h=>(by cases h),I.ok.hd,I.ok.frames,.inl rfl,λb hb=>⟨?_,λx c e=>(hf b hb).2.2.2.2.1 x c (sub x c e)⟩,
  I.bs,Pi I.ok.bsz I.sz,λb o e hb=>?_,λb hb hm=>?_,I.stack,I.stkFree⟩
 ·exact lW (.inl (qw hx S.nocell))
 ·exact OG (OM (hfs b hb) hC)
 ·rcases (hf b hb).2.2.2.1 with z | z
  ·exact I.ok.noex b o e z
  ·exact absurd (OM (Oy e) (Pi I.ok.bsz z)) (Qw _)
 ·rcases ON.mp (I.stkSub b hm) with z | z
  ·exact (hf b hb).2.1 z
  ·exact (hf b hb).2.2.1 z

theorem GM {N:List Str} {up:Pp} (S:aR up N sc Nc ix) {i:Nat} {x:Str} {v:V} (h1:Nc[i]?=some x) (h2:(iu ix σ)[i]?=some (some v)) :
  ∃j:Nat,N[j]?=some x/\σ[j]?=some (some v)/\(up.names.lookup x=some .cell∨up.names.lookup x=some .free)/\(x,PN)∈sc.names/\sc.names.lookup x=some .free:=by
 unfold iu at h2
 rw [PF] at h2
 cases e:ix[i]? with
 | none=>rw [e] at h2; cases h2
 | some o =>
  rw [e] at h2
  cases o with
  | none=>simp at h2
  | some j =>
   have hm:(x,some j)∈Nc.zip ix:=by
    refine OR (i:=i) ?_
    rw [TM]
    exact⟨h1,e⟩
   have q:=S.map _ hm
   simp only [OI,decide_eq_true_eq] at q
   obtain⟨⟨⟨q1,q2⟩,q3⟩,q4⟩:=q
   refine⟨j,q1,?_,q2,q3,q4⟩
   have h2:(σ[j]?).join=some v:=by simpa using h2
   cases z:σ[j]? with
   | none=>rw [z] at h2; cases h2
   | some u =>
    rw [z] at h2
    have h2:u=some v:=h2
    rw [h2]

theorem aC.lcStart {fp:List Oo} {h₁:O9} {tk:Nat} (I:aC X pins σ H s) (S:aR X.env.scope X.N sc Nc ix) (hf:∀b∈fp,eG X pins H b) (hfs:∀b∈fp,b < s.heap.objs.size)
  (hns:∃m,h₁.Ns s.heap.objs.size m) (hk:∀b o,s.heap.get? b=some o->h₁.get? b=some o) :
  aC (dC X sc Nc s.heap.objs.size s H fp (X.pn++pins)) [] (iu ix σ) H { s with heap:=h₁,toks:=tk }:=by
 have hcl:=I.lcCl S
 have sub:∀x c,(fJ X.env.cells sc.names []).lookup x=some c->X.env.cells.lookup x=some c:=λx c h=>ib hcl (λ_ _ z=>by simp at z) h
 have cellK:∀c v,s.heap.IsCell c v->h₁.IsCell c v:=λc v ⟨o,ho,hd⟩=>⟨o,hk c o ho,hd⟩
 obtain⟨m,hn⟩:=hns
 refine⟨I.lcOk S (OB _) hf hfs,rfl,I.bare,Un.kept hk,⟨m,hn,λi x v h1 h2 _=>?_⟩,λx c h=>?_,I.hok.fresh (OB _),λx c h=>I.freeC x c (sub x c h),λp hp=>?_,I.hok.kept hk,?_⟩
 ·obtain⟨j,e1,e2,e3,e4,e5⟩:=GM S h1 h2
  obtain⟨m',hn',hl⟩:=I.loc
  obtain⟨u,r,l⟩:=hl j x v e1 e2 (.inr e3)
  refine⟨u,r,.inr ⟨vm e5,?_⟩⟩
  have e3':X.env.kindOf x=some .cell∨X.env.kindOf x=some .free:=e3
  rcases l with ⟨k,_⟩ | ⟨k,c,hc,hcell⟩
  ·rw [k] at e3'
   rcases e3' with z | z<;>cases z
  ·obtain⟨c',hc'⟩:=lW (cells:=X.env.cells) (names:=sc.names) (acc:=[]) (.inl e4)
   have:=sub x c' hc'
   rw [hc] at this
   cases this
   exact⟨c,hc',cellK _ _ hcell⟩
 ·obtain⟨v,hv⟩:=I.cell x c (sub x c h)
  exact⟨v,cellK _ _ hv⟩
 ·have hp:p∈X.pn++pins:=by
   have hp:p∈(X.pn++pins)++[]:=hp
   rwa [QG] at hp
  obtain⟨e,n,ne,nf,d⟩:=I.pin p hp
  refine⟨hk _ _ e,n,OG (Oy e),λhm=>?_,d⟩
  rcases ON.mp (I.stkSub p.1 hm) with z | z
  ·exact ne z
  ·exact nf z
 ·unfold iu
  rw [O7]
  exact S.len

theorem aC.lcEnd {C D:Oo} {fp:List Oo} {pn:List (Oo×Obj)} {σ':St} {He:Hp} {se:Os} {its:List Om} {n:Nat} (I:aC X pins σ H s) (Ie:aC (dC X sc Nc C s H (D::fp) pn) [] σ' He se)
  (hf:∀b∈D::fp,eG X pins H b) (hD:He D=none) (hdat:se.heap.get? D=some { cls:=.type "list",data:=.seq its.toArray n }) (hv:aO vs its) (hz:vs.length≤OA) :
  aC X pins σ (upd He D (.lst vs)) se:=by
 have hb:Un (iU X.stack) (D::fp) H He s.heap se.heap:=Ie.base
 have hDn:H D=none:=(hf D Oz).1
 have un:Un (iU X.stack) (D::fp) H (upd He D (.lst vs)) s.heap se.heap:=by
  have ne:∀b,b ∉ D::fp->b≠D:=λb h z=>h (z▸Oz)
  have neS:∀b u,H b=some u->b≠D:=λb u e z=>by subst z; rw [hDn] at e; cases e
  exact⟨hb.keep,hb.slot,λb o q n hx=>by rw [ao (ne b hx)]; exact hb.free b o q n hx,hb.there,λb xs q=>by rw [ao (neS b _ q)]; exact hb.tups b xs q,λb o u q=>by rw [ao (neS b _ q)]; exact hb.frzs b o u q,
   λb ps q=>by rw [ao (neS b _ q)]; exact hb.tbls b ps q⟩
 have hok:iT X.prog X.w (upd He D (.lst vs)) se.heap:=λb u e=>by
  by_cases h:b=D
  ·subst h
   rw [aF] at e
   cases e
   exact⟨hz,its,n,hv,hdat⟩
  ·rw [ao h] at e
   refine (Ie.hok b u e).stay (λ_ _ _ q=>q) (λc q=>?_) λc xs q=>?_
   ·rw [ao (by intro z; subst z; rw [hD] at q; cases q)]; exact q
   ·rw [ao (by intro z; subst z; rw [hD] at q; cases q)]; exact q
 exact I.call' Ie.os un hok Ie.bare λb hb=>⟨(hf b hb).2.2.2.1,(hf b hb).2.1,(hf b hb).2.2.2.2.1,(hf b hb).2.2.2.2.2⟩
end
def oW (X:Cx) (ifs:List OP) (tt:TT):Prop :=
 ∀(pins:List (Oo×Obj)) (s:Os) (σ:St) (H:Hp) (Q:Bool->Hp->Prop),aC X pins σ H s->tt σ H Q ->
  Ov (OE X.prog X.w) X.A (forIn ifs true λc r=>if r=true then do let ok <-We c X.env (O2 c X.env); pure (SV ok) else pure (SV r)) (TP X pins σ Q) X.xe s
def Nz:TT:=λ_ H Q=>Q true H
theorem DU:oW X [] Nz:=λ_ _ _ H _ I h=>On ⟨H,I,h⟩
theorem DV {c:OP} {t:TT} (h:PT X c t):oW X [c] t:=by
 intro pins s σ H Q I hw
 rw [WJ]
 simp only [if_true]
 refine Ol (Ol (bG (h pins s σ H Q I hw) λb s1 q=>?_))
 exact On (On q)

def JT (ix:List (Option Nat)) (wi:TI) (g:TG) (tt:TT) (te:TE):TE:=λσ H Q=>wi σ H λJ H1=>∃W:Nat->Nat->List V->Hp->Prop,(∃m,W 0 m [] H1)/\∀i m ys H,W i m ys H->ys.length < OA /\
 ((J.stop i H/\∀p,H p=none->Q (.ref p) (upd H p (.lst ys)))∨(J.go i H/\∀x H',J.yld i H x H'->g x (iu ix σ) H' λσ2 H2=>yS (iu ix σ) σ2/\tt σ2 H2 λb H3 =>
  if b=true then te σ2 H3 λy H4=>∃m',m' < m/\W (i+1) m' (ys++[y]) H4 else ∃m',m' < m/\W (i+1) m' ys H3))

section
variable {sc:Pp} {Nc:List Str} {elt tg iter:OP} {ifs:List OP} {wi:TI} {g:TG} {tt:TT} {te:TE}
theorem wW {s₂:Os} {it:Oo} {fp:List Oo} {tn:Nat->O9->Prop} {J:It} {H2:Hp} {RR:Om->Oo->Yh->Os->Prop} 
  (hc:X.calm=true) (S:aR X.env.scope X.N sc Nc ix) (hg:∀C s H ex pn,PG (dC X sc Nc C s H ex pn) tg g) (hif:∀C s H ex pn,oW (dC X sc Nc C s H ex pn) ifs tt) (he:∀C s H ex pn,PE (dC X sc Nc C s H ex pn) elt te)
  (I:aC X pins σ H2 s₂) (T:wM X.prog X.w X.K tg J fp it tn) (st:tn 0 s₂.heap) (hf:∀b∈fp,eG X pins H2 b)
  (W:Nat->Nat->List V->Hp->Prop) (h0:∃m,W 0 m [] H2) (Qe:List V->Hp->Prop)
  (turn:∀i m ys H,W i m ys H->ys.length < OA/\((J.stop i H/\Qe ys H)∨(J.go i H/\∀x H',J.yld i H x H'->g x (iu ix σ) H' λσ2 H2=>yS (iu ix σ) σ2/\tt σ2 H2 λb H3 =>
   if b=true then te σ2 H3 λy H4=>∃m',m' < m/\W (i+1) m' (ys++[y]) H4 else ∃m',m' < m/\W (i+1) m' ys H3)))
  (hRR:∀(D C:Oo) (ys:List V) (He:Hp) (se:Os),aC X pins σ (upd He D (.lst ys)) se->He D=none->eG X pins (upd He D (.lst ys)) C->(∃m,se.heap.Ns C m)->C≠D->Qe ys He->RR (.ref D) C (.ok .next) se) :
  Ov (OE X.prog X.w) X.A (newList []) (λacc s₃=>Ov (OE X.prog X.w) X.A (Xa sc X.env.globals (fJ X.env.cells sc.names []) [] X.env.qual none .none (some X.env)) (λcenv s₄ =>
   RX (OE X.prog X.w) X.A (.compStart (.ListComp elt [⟨tg,iter,ifs,0⟩] sc pos) 0 (.ref it) acc { cenv with scope:=TY sc X.env }) (RR acc cenv.locals) s₄) E s₃) E s₂:=by
 refine Pc (SL S.nocell (by intro y hy; simp at hy) (λh₁ hns₁ hsb₁=>?_) S.kind)
 dsimp only at hns₁ hsb₁ ⊢
 generalize hH2:s₂.heap.push { cls:=.type "list",dict:=none,data:=.seq ([]:List Om).toArray }=h3 at hns₁ hsb₁ ⊢
 have hC:h3.objs.size=s₂.heap.objs.size+1:=by rw [<-hH2,QR]
 have k3:∀b o,s₂.heap.get? b=some o->h3.get? b=some o:=λb o e=>hH2▸Op _ e
 have gD:h3.get? s₂.heap.objs.size=some { cls:=.type "list",dict:=none,data:=.seq ([]:List Om).toArray }:=by rw [<-hH2]; exact Ox _ rfl
 have I3:aC X pins σ H2 { s₂ with heap:=h3 }:=I.kept (t':=s₂.toks) k3
 have nD:H2 s₂.heap.objs.size=none:=I.hok.fresh (OB _)
 have fD:eG X pins H2 s₂.heap.objs.size:=I.fpOk (OB _) nD
 have fpsz:∀b∈fp,b < s₂.heap.objs.size:=λb hb=>by
  obtain⟨o,e,_⟩:=T.obj 0 _ st b hb
  exact Oy e
 have iH:∀b∈s₂.heap.objs.size::fp,eG X pins H2 b:=λb hb=>by
  rcases ON.mp hb with e | hb
  ·subst e; exact fD
  ·exact hf b hb
 have k1:∀b o,h3.get? b=some o->h₁.get? b=some o:=λb o e=>hsb₁.extBut b o (OG (Oy e)) (Op _ e)
 have I4:aC (dC X sc Nc h3.objs.size { s₂ with heap:=h3 } H2 (s₂.heap.objs.size::fp) (X.pn++pins)) [] (iu ix σ) H2 { s₂ with heap:=h₁,toks:=s₂.toks+([]:List (Str×Om)).length } :=
  I3.lcStart S iH (λb hb=>by
   show b < h3.objs.size
   rw [hC]
   rcases ON.mp hb with e | hb
   ·rw [e]; exact Pj _
   ·exact QC (fpsz b hb)) ⟨_,hns₁⟩ k1
 generalize hXc:dC X sc Nc h3.objs.size { s₂ with heap:=h3 } H2 (s₂.heap.objs.size::fp) (X.pn++pins)=Xc at I4
 have eE:Xc.env=SK sc (fJ X.env.cells sc.names []) h3.objs.size X.env:=by rw [<-hXc]
 have eP:Xc.prog=X.prog:=by rw [<-hXc]
 have eW:Xc.w=X.w:=by rw [<-hXc]
 have eK:Xc.K=X.K:=by rw [<-hXc]
 have eA:Xc.A=X.A:=by rw [<-hXc]
 have eC:Xc.calm=true:=by rw [<-hXc]; exact hc
 have eX:Xc.xe=λ_ _=>False:=by rw [<-hXc]
 have hg':PG Xc tg g:=by rw [<-hXc]; exact hg _ _ _ _ _
 have hif':oW Xc ifs tt:=by rw [<-hXc]; exact hif _ _ _ _ _
 have he':PE Xc elt te:=by rw [<-hXc]; exact he _ _ _ _ _
 have eF:Xc.fs=iU X.stack:=by rw [<-hXc]
 have eEx:Xc.ex=s₂.heap.objs.size::fp:=by rw [<-hXc]
 have ePn:Xc.pn=X.pn++pins:=by rw [<-hXc]
 have hcl:=I.lcCl S
 have sub:∀x c,(fJ X.env.cells sc.names []).lookup x=some c->X.env.cells.lookup x=some c:=λx c h=>ib hcl (λ_ _ z=>by simp at z) h
 have szAll:∀b∈s₂.heap.objs.size::fp,b≠h3.objs.size:=λb hb=>by
  rw [hC]
  rcases ON.mp hb with e | hb
  ·rw [e]; exact OG (Pj _)
  ·exact OG (QC (fpsz b hb))
 have fpD:∀b∈fp,s₂.heap.objs.size≠b:=λb hb=>RI (fpsz b hb)
 have stat:∀{H':Hp} {pp:List (Oo×Obj)},∀b∈s₂.heap.objs.size::fp,H' b=none->(∀p∈pp,p.1≠b)->eG Xc pp H' b:=λ{H' pp} b hb hn hpp=>by
  refine⟨hn,?_,?_,.inl (by rw [eEx]; exact hb),?_,?_⟩
  ·rw [eE]; exact szAll b hb
  ·rw [eF]
   intro hm
   rcases ON.mp (I.stkSub b hm) with z | z
   ·exact (iH b hb).2.1 z
   ·exact (iH b hb).2.2.1 z
  ·rw [eE]
   intro x c e
   exact (iH b hb).2.2.2.2.1 x c (sub x c e)
  ·rw [ePn]
   intro p hp
   rcases Pv.mp hp with hp | hp
   ·exact (iH b hb).2.2.2.2.2 p hp
   ·exact hpp p hp
 obtain⟨m0,w0⟩:=h0
 have loop:∀s₃:Os,s₃={ s₂ with heap:=h₁,toks:=s₂.toks+([]:List (Str×Om)).length } ->
   RX (OE X.prog X.w) X.A (.compLoop (.ListComp elt [⟨tg,iter,ifs,0⟩] sc pos) 0 (.ref it) (.ref s₂.heap.objs.size) (SK sc (fJ X.env.cells sc.names []) h3.objs.size X.env)) (RR (.ref s₂.heap.objs.size) h3.objs.size) s₃:=by
  rintro s₃ rfl
  refine Yl rfl (λn s'=>∃i H' vs its k,aC Xc [] (iu ix σ) H' s'/\tn i s'.heap/\(∀b∈s₂.heap.objs.size::fp,H' b=none)/\s'.heap.get? s₂.heap.objs.size=some { cls:=.type "list",data:=.seq its.toArray k }/\aO vs its/\W i n vs H') ?_ m0
   ⟨0,H2,[],[],_,I4,T.keep _ _ _ st λb hb o e=>k1 b o (k3 b o e),λb hb=>(iH b hb).1,k1 _ _ gD,.nil,w0⟩
  rintro n s5 ⟨i,H5,vs,its,k,I5,st5,fr5,hd5,rv5,w5⟩
  show Ov _ _ ((compTurn (.ListComp elt [⟨tg,iter,ifs,0⟩] sc pos) 0 (.ref it) (.ref s₂.heap.objs.size) (SK sc (fJ X.env.cells sc.names []) h3.objs.size X.env)).onRaise (λx=>do Th x (SK sc (fJ X.env.cells sc.names []) h3.objs.size X.env); WK x)) _ _ s5
  refine wpAny_noted ?_
  rw [compTurn_list]
  refine Ol (P7 (Ol ?_))
  obtain⟨hsz,hturn⟩:=turn i n vs H5 w5
  have pD:∀{H':Hp} {sx:Os} {σx:St} {o:Obj},aC Xc [] σx H' sx->H' s₂.heap.objs.size=none->sx.heap.get? s₂.heap.objs.size=some o->(∀v,o.data≠.cell v)->aC Xc [(s₂.heap.objs.size,o)] σx H' sx:=λ{H' sx σx o} Ix hn ho hd =>
   Ix.pins_of λp hp=>by
    have e:p=(s₂.heap.objs.size,o):=by simpa using hp
    subst e
    have q:eG Xc [] H' s₂.heap.objs.size:=stat _ Oz hn (λp hp=>by simp at hp)
    exact⟨ho,hn,q.2.1,q.2.2.1,hd⟩
  have f5:∀{H':Hp} {o:Obj},(∀b∈fp,H' b=none)->∀b∈fp,eG Xc [(s₂.heap.objs.size,o)] H' b:=λ{H' o} fr b hb=>stat b (OF _ hb) (fr b hb) (λp hp=>by
   have e:p=(s₂.heap.objs.size,o):=by simpa using hp
   subst e
   exact fpD b hb)
  have I5p:=pD I5 (fr5 _ Oz) hd5 (λv z=>by cases z)
  have fr5':∀b∈fp,H5 b=none:=λb hb=>fr5 b (OF _ hb)
  rcases hturn with ⟨stop,qe⟩ | ⟨go,step⟩
  ·have q:=T.done Xc eP eW eK eC i _ s5 (iu ix σ) H5 (λ_ _=>False) I5p (f5 fr5') st5 stop
   rw [eA] at q
   refine OS q (λr s6 ⟨hr,I6⟩=>?_) λ_ _ z=>z.elim
   subst hr
   refine On ?_
   have hD6:=I6.pin (s₂.heap.objs.size,_) (OC _ Oz)
   have I6':aC (dC X sc Nc h3.objs.size { s₂ with heap:=h3 } H2 (s₂.heap.objs.size::fp) (X.pn++pins)) [] (iu ix σ) H5 s6:=by rw [hXc]; exact I6.pins_of (λp hp=>by simp at hp)
   have Ie:=I3.lcEnd (vs:=vs) (its:=its) I6' iH hD6.2.1 hD6.1 rv5 (PY hsz)
   have fr6:H5 h3.objs.size=none:=I6'.free
   have neC:h3.objs.size≠s₂.heap.objs.size:=P5 (szAll _ Oz)
   obtain⟨m6,hn6,_⟩:=I6'.loc
   refine hRR _ _ vs H5 s6 Ie hD6.2.1 (I3.fpOk (OB _) ?_) ⟨m6,hn6⟩ neC qe
   rw [ao neC]; exact fr6
  ·have q:=T.item Xc eP eW eK eC i _ s5 (iu ix σ) H5 (λ_ _=>False) I5p (f5 fr5') st5 go
   rw [eA] at q
   refine OS q (λr s6 ⟨u,hr,h6⟩=>?_) λ_ _ z=>z.elim
   subst hr
   refine Ol (OS h6 (λ_ s7 ⟨x,H7,I7,r7,y7,st7,fr7⟩=>?_) λ_ _ z=>z.elim)
   have I7':=I7.pinned (f5 fr7) (T.obj _ _ st7)
   have q8:=hg' _ s7 (iu ix σ) H7 x u _ I7' r7 (step x H7 y7)
   rw [eP,eW,eA,eE,eX] at q8
   refine Ol (OS q8 (λ_ s8 ⟨σ8,H8,I8,q8⟩=>?_) λ_ _ z=>z.elim)
   obtain⟨kp,q8⟩:=q8
   have q9:=hif' _ s8 σ8 H8 _ I8 q8
   rw [eP,eW,eA,eE,eX] at q9
   refine Ol (OS q9 (λb s9 ⟨H9,I9,q9⟩=>?_) λ_ _ z=>z.elim)
   -- what the pins say behind a step
   have back:∀{H':Hp} {sx:Os},aC Xc ([(s₂.heap.objs.size,({ cls:=.type "list",data:=.seq its.toArray k }:Obj))]++m5 fp s7.heap) σ8 H' sx ->
     aC Xc [] (iu ix σ) H' sx/\tn (i+1) sx.heap/\(∀b∈s₂.heap.objs.size::fp,H' b=none)/\sx.heap.get? s₂.heap.objs.size=some { cls:=.type "list",data:=.seq its.toArray k }:=λ{H' sx} Ix=>by
    have pd:=Ix.pin (s₂.heap.objs.size,_) (OC _ Oz)
    refine⟨(Ix.pins_of (pins':=[]) (λp hp=>by simp at hp)).weak kp.1 kp.2,T.keep _ _ _ st7 λb hb o e=>(Ix.pin (b,o) (OC _ (OC _ (eJ hb e)))).1,λb hb=>?_,pd.1⟩
    rcases ON.mp hb with e | hb
    ·rw [e]; exact pd.2.1
    ·obtain⟨o,e,d⟩:=T.obj _ _ st7 b hb
     exact (Ix.pin (b,o) (OC _ (OC _ (eJ hb e)))).2.1
   cases b with
   | false =>
    obtain⟨m',hm,w9⟩:=(by simpa using q9:∃m',m' < n/\W (i+1) m' vs H9)
    obtain⟨a1,a2,a3,a4⟩:=back I9
    exact On ⟨rfl,m',hm,i+1,H9,vs,its,k,a1,a2,a3,a4,rv5,w9⟩
   | true =>
    have q9:te σ8 H9 λy H4=>∃m',m' < n/\W (i+1) m' (vs++[y]) H4:=by simpa using q9
    have q10:=he' _ s9 σ8 H9 _ I9 q9
    rw [eP,eW,eA,eE,eX] at q10
    refine Ol (Ol (OS q10 (λy s10 ⟨v10,H10,I10,r10,q10⟩=>?_) λ_ _ z=>z.elim))
    obtain⟨m',hm,w10⟩:=q10
    obtain⟨a1,a2,a3,a4⟩:=back I10
    refine Ol (wpAny_list_append_plain (l:=s₂.heap.objs.size) (items:=its.toArray) ⟨k,a4⟩ (λh' hp hsb=>?_) (by rw [Ot,<-rv5.length]; exact PY hsz))
    have fd:eG Xc [] H10 s₂.heap.objs.size:=stat _ Oz (a3 _ Oz) (λp hp=>by simp at hp)
    have I11:aC Xc [] (iu ix σ) H10 { s10 with heap:=h' }:=a1.turned (t':=s10.toks) (it:=s₂.heap.objs.size) (λb o hb e=>(hsb.2 b hb).trans e) fd.1 fd.2.1 fd.2.2.2.1 fd.2.2.2.2.1 fd.2.2.2.2.2
    obtain⟨k',hp⟩:=hp
    refine On (On ⟨rfl,m',hm,i+1,H10,vs++[v10],its++[y],k',I11,T.keep _ _ _ a2 λb hb o e=>(hsb.2 b (P5 (fpD b hb))).trans e,a3,?_,rv5.append (.cons r10 .nil),w10⟩)
    rw [List.push_toArray] at hp
    exact hp
 exact codeAny_compStart_list (loop _ rfl) (T.self _ 0 _ _ _ (T.keep _ _ _ st λb hb o e=>k1 b o (k3 b o e)) (loop _ rfl))

theorem aC.letGo {C:Oo} {h':O9} (I:aC X pins σ H s) (f:eG X pins H C) (hs:P9 C s.heap h'):aC X pins σ H { s with heap:=h' } :=
 I.turned (t':=s.toks) (λb o hb e=>(hs.2 b hb).trans e) f.1 f.2.1 f.2.2.2.1 f.2.2.2.2.1 f.2.2.2.2.2

theorem fS (hc:X.calm=true) (S:aR X.env.scope X.N sc Nc ix) (hi:PI X tg iter wi) (hg:∀C s H ex pn,PG (dC X sc Nc C s H ex pn) tg g) (hif:∀C s H ex pn,oW (dC X sc Nc C s H ex pn) ifs tt) (he:∀C s H ex pn,PE (dC X sc Nc C s H ex pn) elt te)
  (hs:∀x,Qz iter X.env x=pure x:=by with_unfolding_all (intro _; rfl)):PE X (.ListComp elt [⟨tg,iter,ifs,0⟩] sc pos) (JT ix wi g tt te):=by
 intro pins s σ H Q I h
 rw [eval_ListComp]
 refine Rh (use:=none) rfl hs (ff (I.lcCl S)) S.kind S.loc (bG (hi pins s σ H _ I h) λv s1 h1=>bG h1 λitv s2 h2=>?_)
 obtain⟨it,fp,tn,J,H2,e,I2,T,st2,f2,W,w0,turn⟩:=h2
 subst e
 refine wW hc S hg hif he I2 T st2 f2 W w0 (λys H=>∀p,H p=none->Q (.ref p) (upd H p (.lst ys))) turn (RR:=λacc C=>Xb (OE X.prog X.w) X.A X.xe none (EP X pins σ Q) acc C) ?_
 intro D C ys He se Ie hD fC hn hCD q
 obtain⟨m,hn⟩:=hn
 exact⟨m,hn,λh' hs'=>⟨.ref D,_,Ie.letGo fC hs',rfl,q D hD⟩⟩

theorem jo {i:Nat} {x:Str} {pos' spos:Pos} (hc:X.calm=true) (hN:X.N.Nodup) (hx:X.N[i]?=some x) (hl:X.env.scope.names.lookup x=some .local) (S:aR X.env.scope X.N sc Nc ix) (hi:PI X tg iter wi) (hg:∀C s H ex pn,PG (dC X sc Nc C s H ex pn) tg g)
  (hif:∀C s H ex pn,oW (dC X sc Nc C s H ex pn) ifs tt) (he:∀C s H ex pn,PE (dC X sc Nc C s H ex pn) elt te)
  (hsw:PJ (.ListComp elt [⟨tg,iter,ifs,0⟩] sc pos) (some (.Name x pos')) spos.line X.env=pure true:=by nofun)
  (hs:∀x,Qz iter X.env x=pure x:=by with_unfolding_all (intro _; rfl)):PS X (.Assign [.Name x pos'] (.ListComp elt [⟨tg,iter,ifs,0⟩] sc pos) spos) (k6 (JT ix wi g tt te) (h8 i)):=by
 intro pins s σ H D I h
 rw [UG _ _ _ _ hsw]
 refine Ol (P7 (Ol ?_))
 show Ov _ X.A (do let _ <-X0 (.ListComp elt [⟨tg,iter,ifs,0⟩] sc pos) sc X.env _ (newList []) false (O2 iter X.env) (some (Tj (.Name x pos') X.env))) _ _ s
 refine Ol (OS (Rh (use:=some (Tj (.Name x pos') X.env)) (Q:=λ_ s'=>SP X pins D .next s') rfl hs (ff (I.lcCl S)) S.kind S.loc
  (bG (hi pins s σ H _ I h) λv s1 h1=>bG h1 λitv s2 h2=>?_)) (λ_ s' hq=>On (On hq)) λ_ _ e=>e)
 obtain⟨it,fp,tn,J,H2,e,I2,T,st2,f2,W,w0,turn⟩:=h2
 subst e
 refine wW hc S hg hif he I2 T st2 f2 W w0 (λys H=>∀p,H p=none->D.nx (σ.set i (some (.ref p))) (upd H p (.lst ys))) turn (RR:=λacc C=>Xb (OE X.prog X.w) X.A X.xe (some (Tj (.Name x pos') X.env)) (λ_ s'=>SP X pins D .next s') acc C) ?_
 intro L C ys He se Ie hD fC hn hCD q
 obtain⟨m,hn⟩:=hn
 show Ov _ X.A (Tj (.Name x pos') X.env (.ref L)) _ _ se
 refine TU (mZ (v:=.ref L) Ie hN hx (.inl hl) rfl (λs' I' ⟨a,hsb,ha⟩=>?_) (.inr hl))
 have ne:C≠a:=by
  rcases ha with e | e
  ·rw [e]; exact fC.2.1
  ·exact P5 (fC.2.2.2.2.1 x a e)
 exact⟨m,hn.sameBut hsb ne,λh' hs'=>⟨_,_,I'.letGo fC hs',q L hD⟩⟩
end
inductive D where
 | non | bl (b:Bool) | int (i:Int) | str (x:Str) | tup (ds:List D) | lst (ds:List D)
mutual
def cj (H:Hp):D->V->Prop
 | .non,v=>v=.non
 | .bl b,v=>v=.bl b
 | .int i,v=>v=.int i
 | .str x,v=>v=.str x
 | .tup ds,v=>∃a vs,v=.ref a/\H a=some (.tup vs)/\cw H ds vs
 | .lst ds,v=>∃a vs,v=.ref a/\H a=some (.lst vs)/\cw H ds vs
def cw (H:Hp):List D->List V->Prop
 | [],vs=>vs=[]
 | d::ds,vs=>∃v r,vs=v::r/\cj H d v/\cw H ds r
end
mutual
theorem cj.mono {H H':Hp} (k:JQ H H'):∀{d:D} {v:V},cj H d v->cj H' d v
 | .non,_,h=>by simpa [cj] using h
 | .bl _,_,h=>by simpa [cj] using h
 | .int _,_,h=>by simpa [cj] using h
 | .str _,_,h=>by simpa [cj] using h
 | .tup ds,v,h=>by
  rw [cj] at h ⊢
  obtain⟨a,vs,e,ha,r⟩:=h
  exact⟨a,vs,e,k _ _ ha,cw.mono k r⟩
 | .lst ds,v,h=>by
  rw [cj] at h ⊢
  obtain⟨a,vs,e,ha,r⟩:=h
  exact⟨a,vs,e,k _ _ ha,cw.mono k r⟩
theorem cw.mono {H H':Hp} (k:JQ H H'):∀{ds:List D} {vs:List V},cw H ds vs->cw H' ds vs
 | [],vs,h=>by rw [cw] at h ⊢; exact h
 | d::ds,vs,h=>by
  rw [cw] at h ⊢
  obtain⟨v,r,e,h1,h2⟩:=h
  exact⟨v,r,e,cj.mono k h1,cw.mono k h2⟩
end
theorem cw.cons {H:Hp} {d:D} {ds:List D} {v:V} {vs:List V} (h:cj H d v) (r:cw H ds vs):cw H (d::ds) (v::vs):=by
 rw [cw]; exact⟨v,vs,rfl,h,r⟩
theorem cw.nil:cw H [] []:=by rw [cw]
theorem cw.uncons {d:D} {ds:List D} (h:cw H (d::ds) vs):∃v r,vs=v::r/\cj H d v/\cw H ds r:=by
 rw [cw] at h; exact h
theorem cw.unnil (h:cw H [] vs):vs=[]:=by
 rw [cw] at h; exact h
theorem cw.length:∀{ds:List D} {vs:List V},cw H ds vs->vs.length=ds.length
 | [],vs,h=>by rw [h.unnil]; rfl
 | d::ds,vs,h=>by
  obtain⟨v,r,rfl,_,h2⟩:=h.uncons
  simp [cw.length h2]
theorem cw.get:∀{ds:List D} {vs:List V} {i:Nat} {d:D},cw H ds vs->ds[i]?=some d->∃v,vs[i]?=some v/\cj H d v
 | [],_,_,_,_,e=>by simp at e
 | d::ds,vs,0,d',h,e=>by
  obtain⟨v,r,rfl,h1,_⟩:=h.uncons
  simp at e; subst e
  exact⟨v,rfl,h1⟩
 | d::ds,vs,i+1,d',h,e=>by
  obtain⟨v,r,rfl,_,h2⟩:=h.uncons
  obtain⟨w,e1,e2⟩:=cw.get (i:=i) h2 (by simpa using e)
  exact⟨w,by simpa using e1,e2⟩
mutual
theorem cj.inj {H:Hp}:∀{d e:D} {v:V},cj H d v->cj H e v->d=e
 | .non,e,v,h,h'=>by
  rw [cj] at h; subst h
  cases e<;>simp [cj] at h'<;>rfl
 | .bl b,e,v,h,h'=>by
  rw [cj] at h; subst h
  cases e<;>simp [cj] at h'
  rw [h']
 | .int b,e,v,h,h'=>by
  rw [cj] at h; subst h
  cases e<;>simp [cj] at h'
  rw [h']
 | .str b,e,v,h,h'=>by
  rw [cj] at h; subst h
  cases e<;>simp [cj] at h'
  rw [h']
 | .tup ds,e,v,h,h'=>by
  rw [cj] at h
  obtain⟨a,vs,rfl,ha,r⟩:=h
  cases e with
  | tup es =>
   rw [cj] at h'
   obtain⟨a',vs',e1,ha',r'⟩:=h'
   cases e1
   rw [ha] at ha'; cases ha'
   rw [cw.inj r r']
  | lst es =>
   rw [cj] at h'
   obtain⟨a',vs',e1,ha',r'⟩:=h'
   cases e1
   rw [ha] at ha'; cases ha'
  | _=>simp [cj] at h'
 | .lst ds,e,v,h,h'=>by
  rw [cj] at h
  obtain⟨a,vs,rfl,ha,r⟩:=h
  cases e with
  | lst es =>
   rw [cj] at h'
   obtain⟨a',vs',e1,ha',r'⟩:=h'
   cases e1
   rw [ha] at ha'; cases ha'
   rw [cw.inj r r']
  | tup es =>
   rw [cj] at h'
   obtain⟨a',vs',e1,ha',r'⟩:=h'
   cases e1
   rw [ha] at ha'; cases ha'
  | _=>simp [cj] at h'
theorem cw.inj {H:Hp}:∀{ds es:List D} {vs:List V},cw H ds vs->cw H es vs->ds=es
 | [],[],_,_,_=>rfl
 | [],e::es,vs,h,h'=>by
  rw [h.unnil] at h'
  obtain⟨_,_,e,_⟩:=h'.uncons
  cases e
 | d::ds,[],vs,h,h'=>by
  rw [h'.unnil] at h
  obtain⟨_,_,e,_⟩:=h.uncons
  cases e
 | d::ds,e::es,vs,h,h'=>by
  obtain⟨v,r,e1,h1,h2⟩:=h.uncons
  obtain⟨v',r',e2,h1',h2'⟩:=h'.uncons
  subst e1
  cases e2
  rw [cj.inj h1 h1',cw.inj h2 h2']
end
theorem cj.tup_of {ds:List D} {v:V} (h:cj H (.tup ds) v):∃a vs,v=.ref a/\H a=some (.tup vs)/\cw H ds vs:=by rw [cj] at h; exact h
theorem cj.lst_of {ds:List D} {v:V} (h:cj H (.lst ds) v):∃a vs,v=.ref a/\H a=some (.lst vs)/\cw H ds vs:=by rw [cj] at h; exact h
theorem cj.tup {H:Hp} {ds:List D} {a:Oo} {vs:List V} (h:H a=some (.tup vs)) (r:cw H ds vs):cj H (.tup ds) (.ref a):=by rw [cj]; exact⟨a,vs,rfl,h,r⟩
theorem cj.lst {H:Hp} {ds:List D} {a:Oo} {vs:List V} (h:H a=some (.lst vs)) (r:cw H ds vs):cj H (.lst ds) (.ref a):=by rw [cj]; exact⟨a,vs,rfl,h,r⟩
theorem cj.int {i:Int}:cj H (.int i) (.int i):=by rw [cj]
theorem cj.non:cj H .non .non:=by rw [cj]
theorem cj.bl {b:Bool}:cj H (.bl b) (.bl b):=by rw [cj]
theorem cj.str {x:Str}:cj H (.str x) (.str x):=by rw [cj]
theorem cj.int_of {i:Int} {v:V} (h:cj H (.int i) v):v=.int i:=by rw [cj] at h; exact h
theorem cj.non_of {v:V} (h:cj H .non v):v=.non:=by rw [cj] at h; exact h
theorem cj.bl_of {b:Bool} {v:V} (h:cj H (.bl b) v):v=.bl b:=by rw [cj] at h; exact h
theorem cj.str_of {b:Str} {v:V} (h:cj H (.str b) v):v=.str b:=by rw [cj] at h; exact h
mutual
def cG:D->D->Bool
 | .non,.non=>true
 | .bl a,.bl b=>a == b
 | .bl a,.int b=>(if a then 1 else 0) == b
 | .int a,.bl b=>a == (if b then 1 else 0)
 | .int a,.int b=>a == b
 | .str a,.str b=>a == b
 | .tup xs,.tup ys=>iC xs ys
 | .lst xs,.lst ys=>iC xs ys
 | _,_=>false
def iC:List D->List D->Bool
 | [],[]=>true
 | x::xs,y::ys=>cG x y && iC xs ys
 | _,_=>false
end
mutual
theorem wX:∀d:D,cG d d=true
 | .non=>by simp [cG]
 | .bl _=>by simp [cG]
 | .int _=>by simp [cG]
 | .str _=>by simp [cG]
 | .tup xs=>by rw [cG]; exact nh xs
 | .lst xs=>by rw [cG]; exact nh xs
theorem nh:∀xs:List D,iC xs xs=true
 | []=>by simp [iC]
 | x::xs=>by rw [iC,wX x,nh xs]; rfl
end
mutual
def wH:D->Nat
 | .tup xs=>oX xs+1
 | .lst xs=>oX xs+1
 | _=>0
def oX:List D->Nat
 | []=>0
 | x::xs=>max (wH x) (oX xs)
end
theorem wY:∀{xs:List D} {i:Nat} {d:D},xs[i]?=some d->wH d≤oX xs
 | [],_,_,e=>by simp at e
 | x::xs,0,d,e=>by simp at e; subst e; rw [oX]; exact Nat.le_max_left _ _
 | x::xs,i+1,d,e=>by
  have:=wY (i:=i) (xs:=xs) (d:=d) (by simpa using e)
  rw [oX]
  exact Pi this (Nat.le_max_right _ _)
theorem qx:∀{xs ys:List D},xs.length≠ys.length->iC xs ys=false
 | [],[],h=>absurd rfl h
 | [],y::ys,_=>by simp [iC]
 | x::xs,[],_=>by simp [iC]
 | x::xs,y::ys,h=>by
  rw [iC,qx (xs:=xs) (ys:=ys) (λe=>h (by simp [e]))]
  simp
theorem qy:∀{xs ys:List D},xs.length=ys.length->iC xs ys=(Ss xs.length).all λi=>cG (xs.getD i .non) (ys.getD i .non)
 | [],[],_=>by simp [iC]
 | [],y::ys,h=>by simp at h
 | x::xs,[],h=>by simp at h
 | x::xs,y::ys,h=>by
  rw [iC,qy (xs:=xs) (ys:=ys) (by simpa using h),Pw,List.range_succ_eq_map,Qx,Uo]
  rfl

section
theorem BQ {d e:D} {x y:V} {u v:Om} (hd:cj H d x) (he:cj H e y) (ru:aP x u) (rv:aP y v) (fx:er x=true) (fy:er y=true):Sw A s u v (cG d e):=by
 have q:=DK (A:=A) (s:=s) ru rv fx fy
 have e1:yA x y=cG d e:=by
  cases d<;>simp only [cj] at hd
  all_goals first | (subst hd) | (obtain⟨_,_,hd,_⟩:=hd; rw [hd] at fx; cases fx)
  all_goals (cases e<;>simp only [cj] at he)
  all_goals first | (subst he; simp [yA,cG]) | (obtain⟨_,_,he,_⟩:=he; rw [he] at fy; cases fy)
 rw [<-e1]; exact q

def dD:D->Bool
 | .tup _=>true
 | .lst _=>true
 | _=>false
theorem DW {xs ys:List D} {n m:Nat} (l1:n=xs.length) (l2:m=ys.length) :
  (((Ss (min n m)).all λi=>cG (xs.getD i .non) (ys.getD i .non)) && (n == m))=iC xs ys:=by
 subst l1 l2
 by_cases hl:xs.length=ys.length
 ·rw [qy hl,hl]; simp
 ·rw [qx hl]; simp [hl]
theorem NA (I:aC X pins σ H s) {n:Nat} (ih:∀{d e:D} {x y:V} {u v:Om},wH d≤n->cj H d x->cj H e y->aP x u->aP y v->Sw A.in1 s u v (cG d e)) (hA:A.units+2 < Qf) {d e:D} {x y:V} {u v:Om} (fd:dD d=true) (fe:dD e=true) (hdp:wH d≤n+1) (hd:cj H d x) (he:cj H e y) (ru:aP x u) (rv:aP y v) :
  SeqAt.RcAt A s u v (cG d e)/\SeqAt.RcNeAt A s u v (!cG d e):=by
 have it:∀{xs ys:List D} {vs ws:List V} {its its':List Om},oX xs≤n->cw H xs vs->cw H ys ws->aO vs its->aO ws its'->its.toArray.size=xs.length->its'.toArray.size=ys.length->∀j (h1:j < its.toArray.size) (h2:j < its'.toArray.size),Sw A.in1 s its.toArray[j] its'.toArray[j] (cG (xs.getD j .non) (ys.getD j .non)):=by
  intro xs ys vs ws its its' hx hr hr' rl rl' l1 l2 j h1 h2
  have j1:j < xs.length:=by rw [<-l1]; exact h1
  have j2:j < ys.length:=by rw [<-l2]; exact h2
  have g1:xs[j]?=some (xs.getD j .non):=by simp [Sz,j1]
  have g2:ys[j]?=some (ys.getD j .non):=by simp [Sz,j2]
  obtain⟨w1,a1,b1⟩:=hr.get g1
  obtain⟨w2,a2,b2⟩:=hr'.get g2
  obtain⟨u1,c1,d1⟩:=rl.get a1
  obtain⟨u2,c2,d2⟩:=rl'.get a2
  have k1:its.toArray[j]=u1:=by simpa using (Ow.mp c1).2
  have k2:its'.toArray[j]=u2:=by simpa using (Ow.mp c2).2
  rw [k1,k2]
  exact ih (by have:=wY g1; omega) b1 b2 d1 d2
 cases d with
 | tup xs =>
  obtain⟨a,vs,rfl,ha,hr⟩:=hd.tup_of
  cases ru
  obtain⟨its,rl,p,hz⟩:=I.tuple (hZ.of ha)
  have l1:its.toArray.size=xs.length:=by rw [Ot,<-rl.length,hr.length]
  cases e with
  | tup ys =>
   obtain⟨b,ws,rfl,hb,hr'⟩:=he.tup_of
   cases rv
   obtain⟨its',rl',p',hz'⟩:=I.tuple (hZ.of hb)
   have l2:its'.toArray.size=ys.length:=by rw [Ot,<-rl'.length,hr'.length]
   have z:=it (by simp [wH] at hdp; omega) hr hr' rl rl' l1 l2
   rw [cG,<-DW l1 l2]
   exact⟨ZE p p' (by omega) z,Zc p p' (by omega) z⟩
  | lst ys =>
   obtain⟨b,ws,rfl,hb,hr'⟩:=he.lst_of
   cases rv
   obtain⟨its',rl',p',hz'⟩:=I.list (hW.of hb)
   simp only [cG]
   exact⟨Yw p p'.isList (by omega),Yb p p'.isList (by omega)⟩
  | _=>cases fe
 | lst xs =>
  obtain⟨a,vs,rfl,ha,hr⟩:=hd.lst_of
  cases ru
  obtain⟨its,rl,p,hz⟩:=I.list (hW.of ha)
  have l1:its.toArray.size=xs.length:=by rw [Ot,<-rl.length,hr.length]
  cases e with
  | lst ys =>
   obtain⟨b,ws,rfl,hb,hr'⟩:=he.lst_of
   cases rv
   obtain⟨its',rl',p',hz'⟩:=I.list (hW.of hb)
   have l2:its'.toArray.size=ys.length:=by rw [Ot,<-rl'.length,hr'.length]
   by_cases hl:xs.length=ys.length
   ·have z:=it (by simp [wH] at hdp; omega) hr hr' rl rl' l1 l2
    have e1:((Ss its.toArray.size).all λi=>cG (xs.getD i .non) (ys.getD i .non))=cG (.lst xs) (.lst ys):=by rw [l1,cG,qy hl]
    rw [<-e1]
    exact⟨ZM p.isList p'.isList (by rw [l1,l2,hl]) (by omega) z,Zo p.isList p'.isList (by rw [l1,l2,hl]) (by omega) z⟩
   ·have n1:its.toArray.size≠its'.toArray.size:=by rw [l1,l2]; exact hl
    rw [cG,qx hl]
    exact⟨X1 p.isList p'.isList (by simpa using n1) (by omega),Xd p.isList p'.isList (by simpa using n1) (by omega)⟩
  | tup ys =>
   obtain⟨b,ws,rfl,hb,hr'⟩:=he.tup_of
   cases rv
   obtain⟨its',rl',p',hz'⟩:=I.tuple (hZ.of hb)
   simp only [cG]
   exact⟨Yx p.isList p' (by omega),Yc p.isList p' (by omega)⟩
  | _=>cases fe
 | _=>cases fd

theorem Aw:∀{d:D} {x:V},cj H d x->dD d=false->er x=true
 | .non,_,h,_=>by rw [h.non_of]; rfl
 | .bl _,_,h,_=>by rw [h.bl_of]; rfl
 | .int _,_,h,_=>by rw [h.int_of]; rfl
 | .str _,_,h,_=>by rw [h.str_of]; rfl
theorem DX:∀{d:D} {x:V},cj H d x->dD d=true->∃a,x=.ref a
 | .tup _,_,h,_=>by obtain⟨a,_,e,_⟩:=h.tup_of; exact⟨a,e⟩
 | .lst _,_,h,_=>by obtain⟨a,_,e,_⟩:=h.lst_of; exact⟨a,e⟩
theorem wZ (I:aC X pins σ H s) {d e:D} {x y:V} {u v:Om} (hu:A.units < Qf) (hd:cj H d x) (he:cj H e y) (ru:aP x u) (rv:aP y v) (hm:(dD d && dD e)=false):Sw A s u v (cG d e):=by
 cases fd:dD d with
 | false =>
  cases fe:dD e with
  | false=>exact BQ hd he ru rv (Aw hd fd) (Aw he fe)
  | true =>
   cases e with
   | tup ys =>
    obtain⟨b,ws,rfl,hb,_⟩:=he.tup_of
    cases rv
    obtain⟨_,_,p,_⟩:=I.tuple (hZ.of hb)
    cases d with
    | non=>rw [hd.non_of] at ru; cases ru; simp only [cG]; exact Yy p (by omega)
    | bl a=>rw [hd.bl_of] at ru; cases ru; simp only [cG]; exact Yz a p (by omega)
    | int a=>rw [hd.int_of] at ru; obtain⟨t,rfl⟩:=ru; simp only [cG]; exact YS a t p (by omega)
    | str a=>rw [hd.str_of] at ru; obtain⟨t,rfl⟩:=ru; simp only [cG]; exact YT a t p (by omega)
    | _=>cases fd
   | lst ys =>
    obtain⟨b,ws,rfl,hb,_⟩:=he.lst_of
    cases rv
    obtain⟨_,_,p,_⟩:=I.list (hW.of hb)
    cases d with
    | non=>rw [hd.non_of] at ru; cases ru; simp only [cG]; exact YU p.isList (by omega)
    | bl a=>rw [hd.bl_of] at ru; cases ru; simp only [cG]; exact YV a p.isList (by omega)
    | int a=>rw [hd.int_of] at ru; obtain⟨t,rfl⟩:=ru; simp only [cG]; exact Zd a t p.isList (by omega)
    | str a=>rw [hd.str_of] at ru; obtain⟨t,rfl⟩:=ru; simp only [cG]; exact Ze a t p.isList (by omega)
    | _=>cases fd
   | _=>cases fe
 | true =>
  have fe:dD e=false:=by rw [fd] at hm; exact hm
  cases d with
  | tup ys =>
   obtain⟨b,ws,rfl,hb,_⟩:=hd.tup_of
   cases ru
   obtain⟨_,_,p,_⟩:=I.tuple (hZ.of hb)
   cases e with
   | non=>rw [he.non_of] at rv; cases rv; simp only [cG]; exact YA p (by omega)
   | bl b=>rw [he.bl_of] at rv; cases rv; simp only [cG]; exact YB b p (by omega)
   | int b=>rw [he.int_of] at rv; obtain⟨t,rfl⟩:=rv; simp only [cG]; exact YW b t p (by omega)
   | str b=>rw [he.str_of] at rv; obtain⟨t,rfl⟩:=rv; simp only [cG]; exact YX b t p (by omega)
   | _=>cases fe
  | lst ys =>
   obtain⟨b,ws,rfl,hb,_⟩:=hd.lst_of
   cases ru
   obtain⟨_,_,p,_⟩:=I.list (hW.of hb)
   cases e with
   | non=>rw [he.non_of] at rv; cases rv; simp only [cG]; exact YY p.isList (by omega)
   | bl b=>rw [he.bl_of] at rv; cases rv; simp only [cG]; exact YZ b p.isList (by omega)
   | int b=>rw [he.int_of] at rv; obtain⟨t,rfl⟩:=rv; simp only [cG]; exact Zf b t p.isList (by omega)
   | str b=>rw [he.str_of] at rv; obtain⟨t,rfl⟩:=rv; simp only [cG]; exact Zg b t p.isList (by omega)
   | _=>cases fe
  | _=>cases fd
theorem DY (I:aC X pins σ H s):∀(n:Nat) {A:P6} {d e:D} {x y:V} {u v:Om},wH d≤n->A.units+n+1 < Qf->cj H d x->cj H e y->aP x u->aP y v->Sw A s u v (cG d e):=by
 intro n
 induction n with
 | zero =>
  intro A d e x y u v hdp hu hd he ru rv
  refine wZ I (by omega) hd he ru rv ?_
  cases d<;>first | rfl | (simp [wH] at hdp)
 | succ n ih =>
  intro A d e x y u v hdp hu hd he ru rv
  cases hm:dD d && dD e with
  | false=>exact wZ I (by omega) hd he ru rv hm
  | true =>
   have hm:=SM.mp hm
   obtain⟨a,rfl⟩:=DX hd hm.1
   obtain⟨b,rfl⟩:=DX he hm.2
   have R:=(NA I (λh1 h2 h3 h4 h5=>ih h1 (by show A.units+1+n+1 < Qf; omega) h2 h3 h4 h5) (by omega) hm.1 hm.2 hdp hd he ru rv).1
   cases ru
   cases rv
   by_cases hab:a=b
   ·subst hab
    rw [cj.inj hd he,wX]
    exact WG _
   ·exact Zq hab R
end
def JU (neg:Bool):R2:=λx y H Q=>∃d e,cj H d x/\cj H e y/\dD d=true/\dD e=true/\wH d≤50/\Q (.bl (if neg then !cG d e else cG d e)) H
section
theorem DZ (hu:X.A.units+52 < Qf):lO X (P3 .Eq) (JU false):=by
 intro pins s σ H x y v u Q I rx ry ⟨d,e,hd,he,fd,fe,hdp,q⟩
 exact (NA I (n:=50) (λh1 h2 h3 h4 h5=>DY I 50 h1 (by show X.A.units+1+50+1 < Qf; omega) h2 h3 h4 h5) (by omega) fd fe (by omega) hd he rx ry).1 _ _ _ _ ⟨.bl _,H,I,rfl,q⟩
theorem yT (hu:X.A.units+52 < Qf):lO X (P3 .NotEq) (JU true):=by
 intro pins s σ H x y v u Q I rx ry ⟨d,e,hd,he,fd,fe,hdp,q⟩
 exact (NA I (n:=50) (λh1 h2 h3 h4 h5=>DY I 50 h1 (by show X.A.units+1+50+1 < Qf; omega) h2 h3 h4 h5) (by omega) fd fe (by omega) hd he rx ry).2 _ _ _ _ ⟨.bl _,H,I,rfl,q⟩

def GN (H:Hp):V->Option String
 | .non=>some "NoneType"
 | .bl _=>some "bool"
 | .int _=>some "int"
 | .str _=>some "str"
 | .ref a=>match H a with
  | some (.lst _)=>some "list"
  | some (.tup _)=>some "tuple"
  | some (.dK _)=>some "dict"
  | some (.dT _)=>some "dict"
  | _=>none
 | _=>none
theorem JV {x:V} {n:String} (h:GN H x=some n):m9 K H x (.type n):=by
 cases x with
 | non=>cases h; exact .non
 | bl b=>cases h; exact .bl b
 | int i=>cases h; exact .int i
 | str z=>cases h; exact .str z
 | ref a =>
  unfold GN at h
  cases e:H a with
  | none=>simp [e] at h
  | some o =>
   cases o<;>simp [e] at h
   ·subst h; exact .lst e
   ·subst h; exact .tup e
   ·subst h; exact .dK e
   ·subst h; exact .dT e
 | _=>cases h
def D0:String->String->Option Bool
 | "int","bool"=>some false | "int","int"=>some true | "int","tuple"=>some false | "int","str"=>some false
 | "bool","bool"=>some true | "bool","int"=>some true | "bool","tuple"=>some false | "bool","str"=>some false
 | "str","bool"=>some false | "str","int"=>some false | "str","tuple"=>some false | "str","str"=>some true
 | "tuple","bool"=>some false | "tuple","int"=>some false | "tuple","tuple"=>some true | "tuple","str"=>some false
 | "list","bool"=>some false | "list","int"=>some false | "list","tuple"=>some false | "list","str"=>some false
 | "NoneType","bool"=>some false | "NoneType","int"=>some false | "NoneType","tuple"=>some false | "NoneType","str"=>some false
 | _,_=>none
theorem D1 {n c:String} {b:Bool} (h:D0 n c=some b):W5 K (.type n) (.type c)=some b:=by
 unfold D0 at h
 split at h<;>first | (cases h; rfl) | cases h
def D2:List V->Hp->VK->Prop:=λxs H Q=>match xs with
 | [x,.ty c]=>(match GN H x with
  | some n=>(match D0 n c with
   | some b=>Q (.bl b) H
   | none=>False)
  | none=>False)
 | _=>False
theorem GO {Q:VK} (h:D2 xs H Q):∃x n c b,xs=[x,.ty c]/\GN H x=some n/\D0 n c=some b/\Q (.bl b) H:=by
 unfold D2 at h
 split at h
 ·split at h
  ·split at h
   ·exact⟨_,_,_,_,rfl,‹_›,‹_›,h⟩
   ·exact h.elim
  ·exact h.elim
 ·exact h.elim
theorem D3:dI X (.builtin "isinstance") D2:=by
 intro pins s σ H xs us Q I r h
 obtain⟨x,n,c,b,rfl,ht,hk,q⟩:=GO h
 obtain⟨u,w',rfl,ru,rw'⟩:=DC r
 cases rw'
 exact BH I ru (JV ht) (D1 hk) λtk=>⟨.bl b,H,I.tok tk,rfl,q⟩

def LK (K:Ou):V->Option Int->Option Int->Hp->VK->Prop:=λx lo hi H Q=>∃a xs,x=.ref a/\hZ K H a xs/\HT.sIx xs.length 0 lo=0/\HT.sIx xs.length xs.length hi=xs.length/\Q (.ref a) H
theorem jZ {t sl:Oo} {items:Array Om} {vl vu:Om} {lo hi:Option Int} {Q:Om->Os->Prop} (ht:Vo s.heap t items) (hs:s.heap.IsSliceOf sl vl vu .none) (pl:Uk vl lo) (pu:Uk vu hi)
  (h1:HT.sIx items.size 0 lo=0) (h2:HT.sIx items.size items.size hi=items.size) (h:Q (.ref t) s):Ov (OE prog w) A (S9 (.ref t) (.ref sl)) Q E s:=by
 obtain⟨os,hos,hcs,hds⟩:=id hs
 have hTs:s.TypeIs (.ref sl) "slice":=⟨os,hos,hcs⟩
 unfold S9
 refine Ps (Ol (V2 ht.typeIs (by decide) ?_))
 refine Ol (P4 (name:=Oq "__getitem__") ht.typeIs Pf (Po Pf ht.typeIs Ve ?_ (VG _ _)))
 show Ov _ _ (Tv (.ref t) >>= _) _ _ s
 refine Ol (XX ht (Ol (Ul hTs ?_)))
 rw [if_pos (by decide)]
 refine Ol (HT.sliceApplied_gen hs pl pu ?_)
 rw [h1,h2]
 show Ov _ _ (if ((((0:Nat):Int) == 0 && (1:Int) == 1 && (items.size - 0) == items.size)=true) then _ else _) _ _ s
 rw [if_pos (by simp)]
 refine Ol (Ol (Ul ht.typeIs (On ?_)))
 rw [if_pos (by decide)]
 exact Ol (Tl (On ⟨_,rfl,On h⟩))
theorem GP:K4 X (LK X.K):=by
 intro pins s σ H x v vl vu lo hi sl Q I rx hs pl pu h
 obtain⟨a,xs,rfl,hx,h1,h2,q⟩:=h
 cases rx
 obtain⟨its,r,ht,hz⟩:=I.tuple hx
 have hlen:its.toArray.size=xs.length:=by rw [Ot]; exact r.length.symm
 exact⟨"tuple",_,Pf.lookup,ht.typeIs,jZ ht hs pl pu (by rw [hlen]; exact h1) (by rw [hlen]; exact h2) ⟨.ref a,H,I,rfl,q⟩⟩
def NB:V->Option Int->Option Int->Hp->VK->Prop:=λx lo hi H Q=>∃a xs,x=.ref a/\H a=some (.tup xs)/\(∀p,H p=none->Q (.ref p) (upd H p (.tup (k9 xs lo hi))))/\(k9 xs lo hi=xs->Q (.ref a) H)
theorem GQ:K4 X NB:=by
 intro pins s σ H x v vl vu lo hi sl Q I rx hs pl pu h
 obtain⟨a,xs,rfl,hx,q1,q2⟩:=h
 by_cases hw:HT.sIx xs.length 0 lo=0/\HT.sIx xs.length xs.length hi=xs.length
 ·refine GP pins s σ H _ v vl vu lo hi sl Q I rx hs pl pu ⟨a,xs,rfl,hZ.of hx,hw.1,hw.2,q2 ?_⟩
  unfold k9
  rw [hw.1,hw.2]
  simp
 ·exact JI pins s σ H _ v vl vu lo hi sl Q I rx hs pl pu ⟨a,xs,rfl,hZ.of hx,hw,q1⟩

def LL:R2:=λx y H Q=>∃a b xs ys,x=.ref a/\y=.ref b/\H a=some (.tup xs)/\H b=some (.tup ys)/\xs.length+ys.length≤OA/\(xs=[]->Q (.ref b) H)/\(ys=[]->Q (.ref a) H)/\(∀p,H p=none->Q (.ref p) (upd H p (.tup (xs++ys))))
theorem GR:lO X (RE .Add) LL:=by
 intro pins s σ H x y v u Q I rx ry h
 obtain⟨a,b,xs,ys,rfl,rfl,ha,hb,hz,q0,q1,q2⟩:=h
 by_cases hx:xs=[]
 ·cases rx
  cases ry
  obtain⟨its,r,ht,_⟩:=I.tuple (hZ.of ha)
  obtain⟨its',r',ht',_⟩:=I.tuple (hZ.of hb)
  obtain⟨⟨cls,dd,data,sl⟩,ho,hc,n,hd⟩:=id ht
  obtain⟨⟨cls2,dd2,data2,sl2⟩,ho2,hc2,n2,hd2⟩:=id ht'
  simp only at hc hd hc2 hd2
  subst hc hd hc2 hd2
  have e0:its=[]:=r.nil_iff.mpr hx
  exact V1 ⟨_,ho,rfl⟩ ⟨_,ho2,rfl⟩ T7 Vr Sh R5 (RN _ _)
   (tuple_addW0 a b its.toArray its'.toArray n n2 dd dd2 sl sl2 (by rw [e0]; rfl)) ⟨ho,ho2,⟨.ref b,H,I,rfl,q0 hx⟩⟩
 ·exact GE pins s σ H _ _ v u Q I rx ry ⟨a,b,xs,ys,rfl,rfl,hZ.of ha,hZ.of hb,hx,hz,q1,λ_=>q2⟩
end
namespace Zp
section
end
end Zp
end L2
namespace L2
open PySem PySem.Spec PyProof.Rows
section
end
theorem bR:Pb "tuple" = some (.type "tuple"):=by decide +kernel
theorem qA:Pb "list" = some (.type "list"):=by decide +kernel
theorem BR:Pb "int" = some (.type "int"):=by decide +kernel
theorem qB:Pb "bool" = some (.type "bool"):=by decide +kernel
theorem ni:Pb "isinstance" = some (.builtin "isinstance"):=by decide +kernel
theorem BU:Pb "min" = some (.builtin "min"):=by decide +kernel
theorem BV:Pb "max" = some (.builtin "max"):=by decide +kernel
theorem cg:Pb "sorted" = some (.builtin "sorted"):=by decide +kernel
theorem BW:Pb "set" = some (.type "set"):=by decide +kernel
structure Mods (mg:Str->Option Om):Prop where
 len:mg "len" = none
 isinstance:mg "isinstance" = none
 int:mg "int" = none
 bool:mg "bool" = none
 tuple:mg "tuple" = none
 list:mg "list" = none
 range:mg "range" = none
 zip:mg "zip" = none
 min:mg "min" = none
 max:mg "max" = none
 sorted:mg "sorted" = none
 set:mg "set" = none
def cU (K:Ou) (mg:Str->Option Om) (x:Str) (st:Rf):Prop:=∃f fd,Fun K x x st f fd/\mg x=some (.ref f)
def Gi (P:OZ) (w:Pl) (K:Ou) (mg:Str->Option Om) (base:O9) (x:Str) (k:Nat) (ps:List Str) (sp:Sp):Prop :=
 ∃f fd,cr P w K mg base fR k f fd ps sp/\mg x=some (.ref f)/\O3 K (.ref f)=true/\cP K fd ps []
section
variable {x:Str} {k:Nat} {ps:List Str} {sp:Sp} {p pos:Pos} {e:OP} {t:TA}
theorem vn (c:Gi X.prog X.w X.K X.mg X.base x k ps sp) (hr:bn k X.A) (ha:PA X (e::es) t) (hg:Gl X x:=by nofun) (hdb:(x == ("__debug__":Str))=false:=by decide)
  (he:hE9 X e es:=by nofun) (hpl:hP9 X pos es:=by nofun):PE X (.Call (.Name x p) (e::es) [] pos) (iV sp [] E0 t):=by
 obtain⟨f,fd,F,hm,hk,hb⟩:=c
 exact Ai F hr hg hm hk hb .nil IF ha hdb he hpl
theorem GS (c:Gi X.prog X.w X.K X.mg X.base x k ps sp) (hr:bn k X.A) (hg:Gl X x:=by nofun) (hdb:(x == ("__debug__":Str))=false:=by decide):PE X (.Call (.Name x p) [] [] pos) (iV sp [] E0 qc):=by
 obtain⟨f,fd,F,hm,hk,hb⟩:=c
 exact DE F hr hg hm hk hb .nil IF hdb
end
section
theorem cU.ok {x:Str} {N ps:List Str} {k:Nat} {sp:Sp} (d:cU K mg x st) (S:al N ps (af st)) (len:∀vs H Q E,sp vs H Q E->vs.length=ps.length)
  (hb:∀(kV doc pm:Om) (an:Option Oo) (cdv ct:Om) (us:List Om),us.length=ps.length->Sd (Ph x x (bY st) (a9 st) (af st) .none kV doc pm an cdv ct) ⟨us,[]⟩=pure (ps.zip us))
  (hbody:∀(f:Oo) (cdv:Om) (A:P6) (outer:List Env) (s:Os) (H:Hp) (vs:List V) (Q:VK) (E:XK),bn k (A.deeper (QT x (af st) s.heap.objs.size f cdv))->sp vs H Q E ->
   ∃t,gN (ck fR P w K mg base N x (af st) f cdv A outer s H E).nox (a9 st) t/\t { nx:=λ_ H'=>Q .non H',rt:=Q } (fq N vs) H):Gi P w K mg base x (k+1) ps sp:=by
 obtain⟨f,fd,F,hm⟩:=d
 exact⟨f,fd,F.ok S len (hbody f),hm,F.kp,F.binds hb⟩
end
theorem D4 {k:Nat} (hr:bn k A):A.units+52 < Qf:=Tz (Vf (by decide:52≤64) _) hr.units
def gv (H:Hp):V->Option (List V)
 | .ref a=>match H a with
  | some (.lst xs)=>some xs
  | some (.tup xs)=>some xs
  | some (.frz _ (.lst xs))=>some xs
  | _=>none
 | _=>none
def ic (H:Hp):V->Option (List V)
 | .ref a=>match H a with
  | some (.tup xs)=>some xs
  | _=>none
 | _=>none
def on {α:Type} (o:Option α) (P:α->Prop):Prop:=match o with
 | some x=>P x
 | none=>False
theorem dJ {α:Type} {o:Option α} {P:α->Prop} (h:on o P):∃x,o=some x/\P x:=by
 cases o with
 | none=>exact h.elim
 | some x=>exact⟨x,rfl,h⟩
theorem bZ {α:Type} {x:α} {P:α->Prop}:on (some x) P=P x:=rfl
theorem lX {v:V} (h:ic H v=some xs):∃a,v=.ref a/\H a=some (.tup xs)/\hZ K H a xs:=by
 cases v with
 | ref a =>
  simp only [ic] at h
  split at h
  ·cases h; exact⟨a,rfl,‹_›,hZ.of ‹_›⟩
  ·cases h
 | _=>cases h
theorem lY {v:V} (h:gv H v=some xs):∃a,v=.ref a/\(hW K H a xs∨hZ K H a xs):=by
 cases v with
 | ref a =>
  simp only [gv] at h
  split at h
  ·cases h; exact⟨a,rfl,.inl (.inl (.inl ‹_›))⟩
  ·cases h; exact⟨a,rfl,.inr (hZ.of ‹_›)⟩
  ·cases h; exact⟨a,rfl,.inl (.inl (.inr ⟨_,‹_›⟩))⟩
  ·cases h
 | _=>cases h
theorem BX {a:Oo} (h:H a=some (.lst xs)):gv H (.ref a)=some xs:=by simp [gv,h]
theorem BY {a:Oo} (h:H a=some (.tup xs)):gv H (.ref a)=some xs:=by simp [gv,h]
theorem ie {a:Oo} (h:H a=some (.tup xs)):ic H (.ref a)=some xs:=by simp [ic,h]
section
def Ax:List V->Hp->VK->Prop:=λxs H Q=>match xs with
 | [x]=>on (gv H x) λys=>Q (.int ys.length) H
 | _=>False
theorem eO:dI X (.builtin "len") Ax:=by
 intro pins s σ H xs us Q I r h
 unfold Ax at h
 split at h
 ·obtain⟨ys,e,q⟩:=dJ h
  obtain⟨a,rfl,hs⟩:=lY (K:=X.K) e
  exact lT pins s σ H _ us Q I r ⟨a,ys,rfl,hs,q⟩
 ·exact h.elim
def JW:R2:=λx y H Q=>match y with
 | .int i=>on (gv H x) λxs=>on (Gg xs i) λv=>Q v H
 | _=>False
theorem NC:MV X JW:=by
 intro ve se pins s σ H x y v u Q I rx ry h hsub
 unfold JW at h
 split at h
 ·obtain⟨xs,e,h⟩:=dJ h
  obtain⟨w',e',q⟩:=dJ h
  obtain⟨a,rfl,hs⟩:=lY (K:=X.K) e
  rcases hs with hs | hs
  ·exact Aq ve se pins s σ H _ _ v u Q I rx ry ⟨a,xs,_,w',rfl,rfl,hs,e',q⟩ hsub
  ·exact JJ ve se pins s σ H _ _ v u Q I rx ry ⟨a,xs,_,w',rfl,rfl,hs,e',q⟩ hsub
 ·exact h.elim
def LM (t:Dr) (n:Nat):TG:=λv σ H Q=>on (ic H v) λxs=>xs.length=n/\t xs σ H Q
theorem GT {k:Nat} {t:Dr} {n:Nat} (hc:X.calm=true) (h:Ac X es t)
  (hn:(QP es X.env).length=n:=by nofun) (hst:(QP es X.env).findIdx? (·.1)=none:=by nofun):PG X (.Tuple es k pos) (LM t n):=by
 intro pins s σ H v u Q I r hw
 obtain⟨xs,e,hl,q⟩:=dJ hw
 obtain⟨a,rfl,_,hs⟩:=lX (K:=X.K) e
 exact Ju hc h hn hst pins s σ H _ u Q I r ⟨a,xs,rfl,hs,hl,q⟩
def GU (neg:Bool):R2:=λx y H Q=>on (gv H y) λxs=>er x=true/\xs.all er=true/\Q (.bl (if neg then !Gh x xs else Gh x xs)) H
theorem D5:lO X (P3 .In) (GU false):=by
 intro pins s σ H x y v u Q I rx ry h
 obtain⟨xs,e,h1,h2,q⟩:=dJ h
 obtain⟨a,rfl,hs⟩:=lY (K:=X.K) e
 exact BJ pins s σ H _ _ v u Q I rx ry ⟨a,xs,rfl,hs,h1,h2,q⟩
theorem ux:lO X (P3 .NotIn) (GU true):=by
 intro pins s σ H x y v u Q I rx ry h
 obtain⟨xs,e,h1,h2,q⟩:=dJ h
 obtain⟨a,rfl,hs⟩:=lY (K:=X.K) e
 exact lS pins s σ H _ _ v u Q I rx ry ⟨a,xs,rfl,hs,h1,h2,q⟩
def pH:List V->Hp->VK->Prop:=λxs H Q=>match xs with
 | [x]=>on (gv H x) λys=>(∀l,H l=none->Q (.ref l) (upd H l (.tup ys)))/\(ic H x=some ys->Q x H)
 | _=>False
theorem bV:dI X (.type "tuple") pH:=by
 intro pins s σ H xs us Q I r h
 unfold pH at h
 split at h
 ·rename_i x
  obtain⟨ys,e,h1,h2⟩:=dJ h
  cases x with
  | ref a =>
   simp only [gv] at e
   split at e
   ·cases e; exact gQ pins s σ H _ us Q I r ⟨a,_,rfl,.inl ⟨.inl (.inl ‹_›),h1⟩⟩
   ·cases e; exact gQ pins s σ H _ us Q I r ⟨a,_,rfl,.inr ⟨hZ.of ‹_›,h2 (ie ‹_›)⟩⟩
   ·cases e; exact gQ pins s σ H _ us Q I r ⟨a,_,rfl,.inl ⟨.inl (.inr ⟨_,‹_›⟩),h1⟩⟩
   ·cases e
  | _=>cases e
 ·exact h.elim
def IG:V->Option Int->Option Int->Hp->VK->Prop:=λx lo hi H Q=>on (ic H x) λxs=>(∀p,H p=none->Q (.ref p) (upd H p (.tup (k9 xs lo hi))))/\(k9 xs lo hi=xs->Q x H)
theorem Ay:K4 X IG:=by
 intro pins s σ H x v vl vu lo hi sl Q I rx hs pl pu h
 obtain⟨xs,e,q1,q2⟩:=dJ h
 obtain⟨a,rfl,ha,_⟩:=lX (K:=X.K) e
 exact GQ pins s σ H _ v vl vu lo hi sl Q I rx hs pl pu ⟨a,xs,rfl,ha,q1,q2⟩
def qC:V->List V->Hp->VK->Prop:=λx vs H Q=>match x,vs with
 | .ref l,[y]=>(match H l with
  | some (.lst xs)=>xs.length < OA/\Q .non (upd H l (.lst (xs++[y])))
  | _=>False)
 | _,_=>False
theorem eQ:Nv X "list.append" qC:=by
 intro pins s σ H x vs v us Q I rx rv h
 unfold qC at h
 split at h
 ·split at h
  ·exact BK pins s σ H _ _ v us Q I rx rv ⟨_,_,_,rfl,rfl,‹_›,h.1,h.2⟩
  ·exact h.elim
 ·exact h.elim
def yU:R2:=λx y H Q=>on (ic H x) λxs=>on (ic H y) λys=>xs.length+ys.length≤OA/\(xs=[]->Q y H)/\(ys=[]->Q x H)/\∀p,H p=none->Q (.ref p) (upd H p (.tup (xs++ys)))
theorem dl:lO X (RE .Add) yU:=by
 intro pins s σ H x y v u Q I rx ry h
 obtain⟨xs,e,h⟩:=dJ h
 obtain⟨ys,e',h1,h2,h3,h4⟩:=dJ h
 obtain⟨a,rfl,ha,_⟩:=lX (K:=X.K) e
 obtain⟨b,rfl,hb,_⟩:=lX (K:=X.K) e'
 exact GR pins s σ H _ _ v u Q I rx ry ⟨a,b,xs,ys,rfl,rfl,ha,hb,h1,h2,h3,h4⟩
def sC:V->Option bv
 | .int i=>some (.inl i)
 | .str x=>some (.inr x)
 | _=>none
theorem vo {y:V} {k:bv} (h:sC y=some k):y=kV k:=by
 cases y<;>cases h<;>rfl
def ig (H:Hp):V->Option (List (bv×V))
 | .ref a=>match H a with
  | some (.dK kvs)=>some kvs
  | _=>none
 | _=>none
theorem lZ {v:V} {kvs:List (bv×V)} (h:ig H v=some kvs):∃a,v=.ref a/\H a=some (.dK kvs):=by
 cases v with
 | ref a =>
  simp only [ig] at h
  split at h
  ·cases h; exact⟨a,rfl,‹_›⟩
  ·cases h
 | _=>cases h
theorem cQ {a:Oo} {kvs:List (bv×V)} (h:H a=some (.dK kvs)):ig H (.ref a)=some kvs:=by simp [ig,h]
def D6 (td ty:TE):TE:=λσ H Q=>td σ H λx H1=>ty σ H1 λy H2=>on (ig H2 x) λkvs=>on (sC y) λk=>on (c3 kvs k) λv=>Q v H2
theorem jp {o i:OP} {td ty:TE} (hu:X.A.units+1 < Qf) (ho:PE X o td) (hi:PE X i ty) (hs:DN i):PE X (.Subscript o i pos) (D6 td ty):=by
 intro pins s σ H Q I h
 refine vj RM.lookup hs (bG (ho pins s σ H _ I h) λu s1 ⟨x,H1,I1,rx,q1⟩=>bG (hi pins s1 σ H1 _ I1 q1) λiv s2 ⟨y,H2,I2,ry,q2⟩=>?_)
 obtain⟨kvs,e,q3⟩:=dJ q2
 obtain⟨k,ek,q4⟩:=dJ q3
 obtain⟨v,ev,q5⟩:=dJ q4
 obtain⟨a,rfl,ha⟩:=lZ e
 have ey:=vo ek
 subst ey
 obtain rfl:u=OJ a:=rx
 have g:iB H2 a (kV k) (some v):=by rw [<-ev]; exact iB.k ha
 exact⟨oj I2 g,ut hu I2 g ry λw' s3 I3 rw'=>⟨v,H2,I3,rw',q5⟩⟩
def D7 (td ty tv:TE):TS:=λDd σ H=>tv σ H λv H1=>td σ H1 λx H2=>ty σ H2 λy H3=>match x with
 | .ref a=>on (ig H3 x) λkvs=>on (sC y) λk=>kvs.length < OA/\Dd.nx σ (upd H3 a (.dK (cW kvs k v)))
 | _=>False
theorem w4 {o i value:OP} {td ty tv:TE} {pos pos':Pos} (hu:X.A.units+1 < Qf) (ho:PE X o td) (hi:PE X i ty) (hv:PE X value tv) (hs:PJ value (some (.Subscript o i pos')) pos.line X.env=pure false) :
  PS X (.Assign [.Subscript o i pos'] value pos) (D7 td ty tv):=by
 intro pins s σ H Dd I h
 refine Um (bG (hv pins s σ H _ I h) λr s1 ⟨v,H1,I1,rv,q1⟩=>bG (ho pins s1 σ H1 _ I1 q1) λu s2 ⟨x,H2,I2,rx,q2⟩=>bG (hi pins s2 σ H2 _ I2 q2) λiv s3 ⟨y,H3,I3,ry,q3⟩=>?_) hs
 cases x with
 | ref a =>
  obtain⟨kvs,e,q4⟩:=dJ q3
  obtain⟨k,ek,hl,q5⟩:=dJ q4
  obtain⟨a',ea,ha⟩:=lZ e
  cases ea
  have ey:=vo ek
  subst ey
  obtain rfl:u=OJ a:=rx
  exact uu hu I3 (sy.k ha hl) ry rv λs4 I4=>⟨σ,_,I4,q5⟩
 | _=>exact q3.elim
def Az (td ty tx:TE):TE:=λσ H Q=>td σ H λx H1=>on (ig H1 x) λ_=>ty σ H1 λy H2=>tx σ H2 λz H3=>on (ig H3 x) λkvs=>on (sC y) λk=>Q ((c3 kvs k).getD z) H3
theorem BZ {o e f:OP} {td ty tx:TE} {apos cpos:Pos} (hu:X.A.units+1 < Qf) (ho:PE X o td) (he:PE X e ty) (hf:PE X f tx) (m:M2 X o "get" apos e f cpos):PE X (.Call (.Attribute o "get" apos) [e,f] [] cpos) (Az td ty tx):=by
 intro pins s σ H Q I h
 refine TX m.base m.few m.line QB PU So (bG (ho pins s σ H _ I h) λu s1 ⟨x,H1,I1,rx,q1⟩=>?_)
 obtain⟨kvs,e1,q1⟩:=dJ q1
 obtain⟨a,rfl,ha⟩:=lZ e1
 obtain rfl:u=OJ a:=rx
 obtain⟨t1,t2,_⟩:=yR I1 (.inl ⟨kvs,.inl ha⟩)
 refine⟨t1,t2,?_⟩
 rw [m.trees]
 refine Qi rfl (Re (Qo (bG (he pins s1 σ H1 _ I1 q1) λiv s2 ⟨y,H2,I2,ry,q2⟩=>Qo (bG (hf pins s2 σ H2 _ I2 q2) λfv s3 ⟨z,H3,I3,rz,q3⟩=>RC ?_))))
 obtain⟨kvs',e2,q4⟩:=dJ q3
 obtain⟨k,ek,q5⟩:=dJ q4
 obtain⟨a',ea,ha'⟩:=lZ e2
 cases ea
 have ey:=vo ek
 subst ey
 exact DR hu I3 (iB.k ha') ry rz λw' s4 I4 rw'=>⟨_,H3,I4,rw',q5⟩
def sE (H:Hp):V->Option Bool
 | .non=>some false
 | .bl b=>some b
 | .int i=>some (i != 0)
 | .ref a=>match H a with
  | some (.lst xs)=>some !xs.isEmpty
  | some (.tup xs)=>some !xs.isEmpty
  | some (.frz _ (.lst xs))=>some !xs.isEmpty
  | some (.dK kvs)=>some !kvs.isEmpty
  | _=>none
 | _=>none
def D8 (ta:TE):TT:=λσ H Q=>ta σ H λx H1=>on (sE H1 x) λb=>Q b H1
theorem da {a:OP} {ta:TE} (ha:PE X a ta) (he:∀whole,We a X.env whole=(do let v <-whole; QL a.pos; Ra [v] (Ye v)):=by with_unfolding_all (intro _; rfl)):PT X a (D8 ta):=by
 intro pins s σ H Q I h
 refine VQ (bG (ha pins s σ H _ I h) λv s1 ⟨x,H1,I1,r1,q1⟩=>yH pins s1 σ H1 x v Q I1 r1 ?_) (he _)
 obtain⟨b,e,q⟩:=dJ q1
 refine⟨b,?_,q⟩
 cases x with
 | non=>cases e; rfl
 | bl b=>cases e; rfl
 | int i=>cases e; rfl
 | ref a =>
  simp only [sE] at e
  split at e
  ·cases e; exact .inl ⟨_,.inl (.inl ‹_›),rfl⟩
  ·cases e; exact .inr (.inl ⟨_,hZ.of ‹_›,rfl⟩)
  ·cases e; exact .inl ⟨_,.inl (.inr ⟨_,‹_›⟩),rfl⟩
  ·cases e; exact .inr (.inr ⟨_,‹_›,rfl⟩)
  ·cases e
 | _=>cases e
end
section
variable {Q:VK} {Qb:Bool->Hp->Prop} {Qs:List V->Hp->Prop} {Dd:wK} {ta tb tc:TE} {tt tu:TT} {ts tr:TS} {te:TA} {g:TG} {sp:Sp} {r:R2}
theorem AA:Js ts tr Dd σ H=ts { Dd with nx:=tr Dd } σ H:=rfl
theorem D9:Ip Dd σ H=Dd.nx σ H:=rfl
theorem pI:Ln ta Dd σ H=ta σ H Dd.rt:=rfl
theorem GV:Lp tt ts tr Dd σ H=tt σ H λb H1=>if b=true then ts Dd σ H1 else tr Dd σ H1:=rfl
theorem AB:k6 ta g Dd σ H=ta σ H λx H1=>g x σ H1 Dd.nx:=rfl
theorem w6 {i:Nat} {v:V} {Qg:St->Hp->Prop}:h8 i v σ H Qg=Qg (σ.set i (some v)) H:=rfl
theorem vq {i:Nat}:Dn i σ H Q=on (σ[i]?.join) λv=>Q v H:=by
 unfold Dn
 cases e:σ[i]? with
 | none=>simp [on]
 | some o =>
  cases o with
  | none=>simp [on]
  | some v=>simp [on]
theorem IH {v:V}:tC v σ H Q=Q v H:=rfl
theorem yV:Jy r ta tb σ H Q=ta σ H λx H1=>tb σ H1 λy H2=>r x y H2 Q:=rfl
theorem JX:NX tt ta tb σ H Q=tt σ H λc H1=>if c=true then ta σ H1 Q else tb σ H1 Q:=rfl
def ND (x:V) (P:Bool->Prop):Prop:=match x with
 | .bl b=>P b
 | _=>False
theorem Ea {b:Bool} {P:Bool->Prop}:ND (.bl b) P=P b:=rfl
theorem JY {x:V} {P:Bool->Prop}:(∃c,x=.bl c/\P c)=ND x P:=by
 refine propext ⟨λh=>?_,λh=>?_⟩
 ·obtain⟨c,rfl,h⟩:=h; exact h
 ·cases x with
  | bl b=>exact⟨b,rfl,h⟩
  | _=>exact h.elim
theorem Eb:wO ta σ H Qb=ta σ H λx H1=>ND x λc=>Qb c H1:=by
 unfold wO; congr 1; funext x H1; exact JY
theorem JZ {u:List V->Hp->VK->Prop}:K3 u te σ H Q=te σ H λvs H1=>u vs H1 Q:=rfl
theorem Ec {dvs:List V} {E:XK}:iV sp dvs E te σ H Q=te σ H λvs H1=>sp (vs++dvs) H1 Q E:=rfl
theorem Ed:qd ta te σ H Qs=ta σ H λx H1=>te σ H1 λxs H2=>Qs (x::xs) H2:=rfl
theorem AC:qc σ H Qs=Qs [] H:=rfl
theorem qD {f:Int->Int->V} {i j:Int}:Ae f (.int i) (.int j) H Q=Q (f i j) H:=by
 unfold Ae
 refine propext ⟨λh=>?_,λh=>⟨i,j,rfl,rfl,h⟩⟩
 obtain⟨i',j',e1,e2,h⟩:=h
 cases e1; cases e2; exact h
theorem om {C:Int->Int->Prop} {f:Int->Int->V} {i j:Int}:rI C f (.int i) (.int j) H Q=(C i j/\Q (f i j) H):=by
 unfold rI
 refine propext ⟨λh=>?_,λh=>⟨i,j,rfl,rfl,h⟩⟩
 obtain⟨i',j',e1,e2,h⟩:=h
 cases e1; cases e2; exact h
theorem B0:D6 ta tb σ H Q=ta σ H λx H1=>tb σ H1 λy H2=>on (ig H2 x) λkvs=>on (sC y) λk=>on (c3 kvs k) λv=>Q v H2:=rfl
theorem yW:Az ta tb tc σ H Q=ta σ H λx H1=>on (ig H1 x) λ_=>tb σ H1 λy H2=>tc σ H2 λz H3=>on (ig H3 x) λkvs=>on (sC y) λk=>Q ((c3 kvs k).getD z) H3:=rfl
def II (Dd:wK) (σ:St) (x y v:V) (H:Hp):Prop:=match x with
 | .ref a=>on (ig H x) λkvs=>on (sC y) λk=>kvs.length < OA/\Dd.nx σ (upd H a (.dK (cW kvs k v)))
 | _=>False
theorem B1:D7 ta tb tc Dd σ H=tc σ H λv H1=>ta σ H1 λx H2=>tb σ H2 λy H3=>II Dd σ x y v H3:=rfl
theorem qE {a:Oo} {y v:V}:II Dd σ (.ref a) y v H=on (ig H (.ref a)) λkvs=>on (sC y) λk=>kvs.length < OA/\Dd.nx σ (upd H a (.dK (cW kvs k v))):=rfl
theorem l0 {i:Int}:sC (.int i)=some (.inl i):=rfl
theorem Ee {x:Str}:sC (.str x)=some (.inr x):=rfl
end
def Kp (h h':O9):Prop:=∀b o,h.get? b=some o->h'.get? b=some o
theorem Kp.trans {h h1 h2:O9} (x:Kp h h1) (y:Kp h1 h2):Kp h h2:=λb o e=>y b o (x b o e)
theorem Kp.push (h:O9) (o:Obj):Kp h (h.push o):=λ_ _ e=>Op _ e
def qF (a:Oo) (h h':O9):Prop:=∀b o,b≠a->h.get? b=some o->h'.get? b=some o
theorem qF.upd (h:O9) (a:Oo) (g:Obj->Obj):qF a h (h.update a g):=λb o n e=>(PB _ _ _ _ n).trans e
theorem qF.kp {a:Oo} {h h1 h2:O9} (x:qF a h h1) (y:Kp h1 h2):qF a h h2:=λb o n e=>y b o (x b o n e)
theorem qF.trans {a:Oo} {h h1 h2:O9} (x:qF a h h1) (y:qF a h1 h2):qF a h h2:=λb o n e=>y b o n (x b o n e)

section
variable {a kS:Oo} {vs:List Om} {kz:List Int} {keys:Array Om} {e e1:Nat} {P:Wm->Os->Prop}
theorem w8 {st:SortSt} (nk:s.heap.get? kS=some (OO "list" keys e)) (na:s.heap.get? a=some (OO "list" #[] e1)) (hka:kS≠a)
  (hlen:kz.length=vs.length) (hk:SF keys.toList kz) (h64:vs.length < 64) (hp:(Ub st).Perm (keys.zip vs.toArray)) (hs:SortedTo (Ub st) (Ub st).size) (hfl:Uc st=none)
  (h:∀h' out c,(∀b o,b≠a->b≠kS->s.heap.get? b=some o->h'.get? b=some o)->h'.get? a=some (OO "list" out c)->Ym false kz vs out.toList->P (.done (.ret .none)) { s with heap:=h' }) :
  Ov (OE prog w) A (Xe a false e1 (.ref kS) st) P E s:=by
 have z1:keys.size=vs.length:=by have:=hk.length; rw [O6] at this; omega
 have z2:(Ub st).size=vs.length:=by rw [hp.size_eq,Xf,z1,Ot,Yn]
 have z3:((Ub st).map (·.2)).size=vs.length:=by rw [Array.size_map]; exact z2
 have na1:(s.heap.update kS (Pa λ_=>(#[]:Array Om))).get? a=some (OO "list" #[] e1):=(PB _ _ _ _ hka.symm).trans na
 unfold Xe
 dsimp only
 refine Ol (P8 nk rfl ?_ (by rw [z1,O4]; omega) (Pu _))
 refine Ol (UT (Ol (R9 na1 rfl ?_)))
 refine Ol (P8 na1 rfl ?_ (Pu _) (by simp only [OT,if_false]; rw [z3,O4]; omega))
 rw [hfl]
 simp only [bne_self_eq_false,OT,if_false]
 refine On (h _ ((Ub st).map (·.2)) _ (λb o n1 n2 q=>?_) (Q5 na1 λ_=>(Ub st).map (·.2)) (by simpa using ksk_out (b:=false) hk hp hs))
 exact (PB _ _ _ _ n1).trans ((PB _ _ _ _ n2).trans q)

theorem GW (nk:s.heap.get? kS=some (OO "list" keys e)) (na:s.heap.get? a=some (OO "list" #[] e1)) (hka:kS≠a)
  (hlen:kz.length=vs.length) (hk:SF keys.toList kz) (h64:vs.length < 64)
  (h:∀h' out c,(∀b o,b≠a->b≠kS->s.heap.get? b=some o->h'.get? b=some o)->h'.get? a=some (OO "list" out c)->Ym false kz vs out.toList->P (.done (.ret .none)) { s with heap:=h' }) :
  Ov (OE prog w) A (WX a false vs.toArray e1 (.ref kS) keys) P E s:=by
 have z1:keys.size=vs.length:=by have:=hk.length; rw [O6] at this; omega
 have z2:(keys.zip vs.toArray).size=vs.length:=by rw [Xf,z1,Ot,Yn]
 unfold WX
 simp only [OT,if_false]
 by_cases h2:vs.toArray.size < 2
 ·rw [if_pos h2,if_pos h2]
  refine Ol (On ?_)
  rw [UA]
  refine Ol (On ?_)
  refine w8 (st:=SA Xg (keys.zip vs.toArray) #[] 7 none) nk na hka hlen hk h64 (WL _) (λi j l1 l2=>?_) rfl h
  have l3:j < (keys.zip vs.toArray).size:=l2
  rw [z2] at l3
  rw [Ot] at h2
  obtain rfl:i=j:=by omega
  exact Qy _
 ·rw [if_neg h2,if_neg h2]
  rw [Ot] at h2
  rw [ksk_kind hk (by omega)]
  refine Ol (On ?_)
  refine Ol (OS (wpS_sortRuns (a₀:=keys.zip vs.toArray) (st:=SA oneType' (keys.zip vs.toArray) #[] 7 none)
   (Q:=λ_ r=>(Ub r).Perm (keys.zip vs.toArray)/\Uc r=none/\SortedTo (Ub r) (keys.zip vs.toArray).size)
   (ksk_intKeys hk) ⟨WL _,rfl,rfl,rfl⟩ (by omega) (by omega) λr q1 q2 q3=>⟨q1,q2,q3⟩) ?_ λ_ _ q=>q)
  rintro ⟨⟨⟩,r⟩ s' ⟨rfl,hp,hf,hs⟩
  exact w8 nk na hka hlen hk h64 hp (by rw [hp.size_eq]; exact hs) hf h

theorem Ef {f:Om} (nk:s.heap.get? kS=some (OO "list" #[] 0)) (na:s.heap.get? a=some (OO "list" #[] e1)) (hka:kS≠a) (hlen:kz.length=vs.length) (h64:vs.length < 64)
  (turn:∀(i:Nat) (v:Om) (k:Int),vs[i]?=some v->kz[i]?=some k->∀(h:O9) (tk:Nat),qF kS s.heap h ->
   Ov (OE prog w) A (call f [v]) (λu s'=>∃h' tk' t,s'={ s with heap:=h',toks:=tk' }/\Kp h h'/\u=.int k t) (λ_ _=>False) { s with heap:=h,toks:=tk })
  (h:∀h' tk out c,(∀b o,b≠a->b≠kS->s.heap.get? b=some o->h'.get? b=some o)->h'.get? a=some (OO "list" out c)->Ym false kz vs out.toList->P (.done (.ret .none)) { s with heap:=h',toks:=tk }) :
  Ov (OE prog w) A (Xh a f false vs.toArray e1 (.ref kS)) P E s:=by
 unfold Xh
 refine Ol (Tl ?_)
 first
  | rw [VL]
  | (rw [<-VM]; simp only [Vg])
 refine Ol (ksk_fold (λi s'=>∃h' tk kA e,s'={ s with heap:=h',toks:=tk }/\qF kS s.heap h'/\h'.get? kS=some (OO "list" kA e)/\SF kA.toList (kz.take i)) vs 0 s
  ⟨s.heap,s.toks,#[],0,rfl,λ_ _ _ q=>q,nk,by simpa using IntsAre.nil⟩ ?step ?done)
 case step =>
  rintro j x s' hx ⟨g,tk,kA,e,rfl,kp,hS,hk⟩
  simp only [V4] at hk ⊢
  have hj:j < vs.length:=(Ow.mp hx).1
  have hkj:kz[j]?=some kz[j]:=Pt (by omega)
  have hz:kA.size≤vs.length:=by have:=hk.length; rw [O6,Sv] at this; omega
  refine Ol (RT (OS (turn j x _ hx hkj g tk kp) (λv s'' he=>?_) λ_ _ q=>q.elim))
  obtain⟨g2,tk2,t2,rfl,kp2,rfl⟩:=he
  dsimp only
  refine Ol (P8 (kp2 _ _ hS) rfl ?_ (by rw [O4]; omega) (by rw [WM,O4]; omega))
  refine On ⟨rfl,_,_,kA.push (.int kz[j] t2),_,rfl,(kp.kp kp2).trans (qF.upd _ _ _),Q5 (kp2 _ _ hS) (·.push (.int kz[j] t2)),?_⟩
  have q1:kz.take (j+1)=kz.take j++[kz[j]]:=by rw [List.take_add_one,hkj]; rfl
  have q2:(kA.push (Q1 kz[j] t2)).toList=kA.toList++[Q1 kz[j] t2]:=by simp
  rw [q1,q2]
  exact ksk_snoc hk
 case done =>
  rintro s' ⟨g,tk,kA,e,rfl,kp,hS,hk⟩
  rw [Up (by omega)] at hk
  refine Ol (Td hS rfl ?_)
  exact GW (s:={ s with heap:=g,toks:=tk }) hS (kp a _ hka.symm na) hka hlen hk h64 λh' out c kk ha ho=>h h' tk out c (λb o n1 n2 q=>kk b o n1 n2 (kp b o n2 q)) ha ho

theorem Eg {f:Om} {n:Nat} (ho:s.heap.get? a=some (OO "list" vs.toArray n)) (hlen:kz.length=vs.length) (h64:vs.length < 64)
  (turn:∀(i:Nat) (v:Om) (k:Int),vs[i]?=some v->kz[i]?=some k->∀(h:O9) (tk:Nat),qF a s.heap h ->
   Ov (OE prog w) A (call f [v]) (λu s'=>∃h' tk' t,s'={ s with heap:=h',toks:=tk' }/\Kp h h'/\u=.int k t) (λ_ _=>False) { s with heap:=h,toks:=tk })
  (h:∀h' tk out c,qF a s.heap h'->h'.get? a=some (OO "list" out c)->Ym false kz vs out.toList->P (.done (.ret .none)) { s with heap:=h',toks:=tk }) :
  Ov (OE prog w) A (Y0 a f false) P E s:=by
 have la:a < s.heap.objs.size:=Oy ho
 have z0:((s.heap.update a (Pa λ_=>(#[]:Array Om))).push (OO "tuple" vs.toArray 0)).objs.size=s.heap.objs.size+1:=by rw [size_push',Heap.size_update]
 have ho1:=Q5 ho λ_=>(#[]:Array Om)
 unfold Y0
 have few:vs.length≤OA:=by rw [O4]; omega
 refine Ol (Td ho rfl (Ol (P8 ho rfl (Ol (R9 ho1 rfl (Ol (TC (Ol (Rw (Ps ?_) (Pu _))) few)))) (by rw [Ot]; exact few) (Pu _))))
 have kpA:qF a s.heap (((s.heap.update a (Pa λ_=>(#[]:Array Om))).push (OO "tuple" vs.toArray 0)).push (OO "list" #[] 0)):=((qF.upd _ _ _).kp (Kp.push _ _)).kp (Kp.push _ _)
 have lk:∀b o,s.heap.get? b=some o->b≠((s.heap.update a (Pa λ_=>(#[]:Array Om))).push (OO "tuple" vs.toArray 0)).objs.size:=λb o q=>by
  rw [z0]; exact OG (QC (Oy q))
 refine Ef (s:={ s with heap:=((s.heap.update a (Pa λ_=>(#[]:Array Om))).push (OO "tuple" vs.toArray 0)).push (OO "list" #[] 0) }) (kS:=((s.heap.update a (Pa λ_=>(#[]:Array Om))).push (OO "tuple" vs.toArray 0)).objs.size)
  (Ox _ rfl) (Op _ (Op _ ho1)) (lk a _ ho).symm hlen h64 (λi v k q1 q2 g tk kp=>?_) λh' tk out c kk ha hq=>?_
 ·exact turn i v k q1 q2 g tk λb o nb q=>kp b o (lk b o q) (kpA b o nb q)
 ·exact h h' tk out c (λb o nb q=>kk b o nb (lk b o q) (kpA b o nb q)) ha hq
end
section
variable {vs:List Om} {kz:List Int} {Q:Om->Os->Prop}
theorem yX {t q:Oo} (ht:Vo s.heap t vs.toArray) (hlen:kz.length=vs.length) (h64:vs.length < 64)
  (turn:∀(i:Nat) (v:Om) (k:Int),vs[i]?=some v->kz[i]?=some k->∀(h:O9) (tk:Nat),Kp s.heap h ->
   Ov (OE prog w) A.in1.in1 (call (.ref q) [v]) (λu s'=>∃h' tk' t,s'={ s with heap:=h',toks:=tk' }/\Kp h h'/\u=.int k t) (λ_ _=>False) { s with heap:=h,toks:=tk })
  (h:∀D h' tk out c,Kp s.heap h'->s.heap.get? D=none->h'.get? D=some (OO "list" out c)->Ym false kz vs out.toList->Q (.ref D) { s with heap:=h',toks:=tk }) :
  Ov (OE prog w) A (call (.builtin "sorted") [.ref t] [(Oq "key",.ref q)]) Q E s:=by
 have few:vs.length≤OA:=by rw [O4]; omega
 obtain⟨o,ho,hc,n,hd⟩:=ht
 refine Uq UU Ur Us (ksk_s1 _ _) ?_
 unfold QX.«sorted»
 refine Ol (m:=VN "sorted" 1 1 _) (On (Ol (TZ t (.inr rfl) ho hc hd (λg kg=>?_) (by rw [Ot]; exact few))))
 refine Ol (Rw ?_ few)
 have hoL:(g.push (OO "list" vs.toArray 0)).get? g.objs.size=some (OO "list" vs.toArray 0):=Ox _ rfl
 have kp0:Kp s.heap (g.push (OO "list" vs.toArray 0)):=Kp.trans kg (Kp.push _ _)
 have fr:s.heap.get? g.objs.size=none:=by
  cases e:s.heap.get? g.objs.size with
  | none=>rfl
  | some ob=>exact absurd (Oy (kg _ _ e)) (Qw _)
 have nD:∀b ob,s.heap.get? b=some ob->b≠g.objs.size:=λb ob e z=>by rw [z,fr] at e; cases e
 show Ov _ _ _ _ _ { s with heap:=g.push (OO "list" vs.toArray 0) }
 refine Ol (Ps (Vh TD ⟨_,hoL,rfl⟩ SW ?_ (ksk_l1 _ _)))
 rw [ksk_t1]
 refine Eg (s:={ s with heap:=g.push (OO "list" vs.toArray 0) }) hoL hlen h64 (λi v k q1 q2 g2 tk kp=>?_) λh' tk out c kp hD hq=>⟨_,rfl,?_⟩
 ·exact turn i v k q1 q2 g2 tk λb ob e=>kp b ob (nD b ob e) (kp0 b ob e)
 ·exact On ⟨_,rfl,h _ h' tk out c (λb ob e=>kp b ob (nD b ob e) (kp0 b ob e)) fr hD hq⟩

theorem GX {f c' t:Oo} {qual x:Str} {params:U8} {scope:Pp} {pm ctv:Om} {p1 p2 p3:Pos} {kd:Nat} {items:Array Om} {k:Int} {u:Tok}
  (ho:s.heap.get? f=some (WN "<lambda>" qual params (.Subscript (.Name x p1) (.Constant (.int 0) kd p2) p3) scope [] pm c' ctv)) (hcd:s.heap.CodeRec (.ref c') qual)
  (hroom:A.depth < Rl) (lim:s.heap.NoLimit)
  (hb:∀v,Sd (UV "<lambda>" qual params (.Subscript (.Name x p1) (.Constant (.int 0) kd p2) p3) scope [] pm (.ref c') ctv) ⟨[v],[]⟩=pure [(x,v)])
  (hx:scope.names.lookup x=some .local) (hcell:∀y∈scope.names,y.2≠.cell) (hk:scope.kind=.function) (hco:scope.isCoroutine=false) (hgen:scope.isGenerator=false) (hdb:(x == ("__debug__":Str))=false)
  (ht:Vo s.heap t items) (h0:items[0]?=some (.int k u)) (hsz:items.size < 64) :
  Ov (OE prog w) A (call (.ref f) [.ref t]) (λr s'=>∃h' tk' t',s'={ s with heap:=h',toks:=tk' }/\Kp s.heap h'/\r=.int k t') E s:=by
 refine RF (PySem.W.kla_callFunE hroom ho rfl hco hgen rfl hcd ?_)
 rw [hb]
 refine On (SL hcell (λy hy=>?_) (λh₁ hns hsb=>?_) hk)
 ·rw [Qt.mp hy]; exact hx
 ·have kp:Kp s.heap h₁:=λb ob e=>hsb.extBut b ob (OG (Oy e)) (Op _ e)
  refine⟨lim.keeps kp,PySem.W.kla_codeExpr ?_⟩
  refine VH (VC (SJ hk hx hns (v:=.ref t) (by simp) ?_) hdb)
  refine VD ?_
  have ht1:Vo h₁ t items:=ht.keeps kp
  have h1:0 < items.size:=by
   rcases Nat.eq_zero_or_pos items.size with z | z
   ·rw [Ut (by omega)] at h0; cases h0
   ·exact z
  refine Si (x:=.int k u) (T:="tuple") ht1.typeIs Pf.lookup ?_
  exact XZ (j:=0) ht1 (by decide) (by decide) (by simp [X8,h1]) h0 ⟨rfl,h₁,_,u,rfl,kp,rfl⟩
end
structure LN (K:Ou) (mg:Str->Option Om) (c P:Oo):Prop where
 hd:∀h,K.In h->PySem.W.CodeHd h c P
 ng:O0≠P
def AD (c':Oo) (qual:Str):HO:=.ext λh=>h.CodeRec (.ref c') qual
def l4 (H:Hp) (P:Oo) (pos:Pos) (qual:Str):Prop :=
 ∃ps,H P=some (.tbl ps)/\TriplesOk ps.toList/\(Yd pos ps.toList=none∨∃c',Yd pos ps.toList=some (.ref c')/\H c'=some (AD c' qual))
def IJ:Om->V
 | .ref a=>.ref a
 | _=>.non
def GY (kz:List Int) (xs ys:List V):Prop:=∃ps:List (Int×V),ps.Perm (kz.zip xs)/\ys=ps.map Prod.snd/\ps.Pairwise λp q=>p.1≤q.1
def vt (K:Ou) (P:Oo) (lp:Pos) (qual:Str) (te:TE):TE:=λσ H Q=>te σ H λv H1=>∃t xs kz,v=.ref t/\H1 t=some (.tup xs)/\xs.length < 64/\kz.length=xs.length /\
 (∀(i:Nat) (x:V) (k:Int),xs[i]?=some x->kz[i]?=some k->∃b ys,x=.ref b/\H1 b=some (.tup (.int k::ys))/\ys.length < 60)/\l4 H1 P lp qual /\
 ∀D H2 ys,H1 D=none->H2 D=some (.lst ys)->(∀b o,b≠P->H1 b=some o->H2 b=some o)->l4 H2 P lp qual->GY kz xs ys->Q (.ref D) H2
theorem ci.some {h:O9} {a:Oo} {o:HO} (x:ci P w H h a o):∃u,h.get? a=some u:=by
 cases o with
 | lst xs=>obtain⟨_,_,_,_,e⟩:=x; exact⟨_,e⟩
 | tup xs=>obtain⟨_,_,_,u,e,_⟩:=x; exact⟨u,e⟩
 | dK kvs=>obtain⟨_,_,_,_,u,_,_,e,_⟩:=x; exact⟨u,e⟩
 | dT kvs=>obtain⟨_,_,_,_,u,_,_,e,_⟩:=x; exact⟨u,e⟩
 | set S n=>obtain⟨u,_,_,_,e,_⟩:=x; exact⟨u,e⟩
 | ins C dx fs=>obtain⟨_,_,_,e,_⟩:=x; exact⟨_,e⟩
 | own y=>exact x
 | xd fs=>obtain⟨_,⟨u,_,_,e,_⟩,_⟩:=x; exact⟨u,e⟩
 | rng lo hi=>obtain⟨_,_,_,e⟩:=x; exact⟨_,e⟩
 | frz ob u=>exact⟨_,x.1⟩
 | tbl ps=>exact⟨_,x⟩
 | met f y=>exact⟨_,x⟩
 | ext φ=>exact x.2.1
theorem xa:∀{l:List Om},(∀u∈l,aP (IJ u) u)->aO (l.map IJ) l
 | [],_=>.nil
 | u::l,h=>.cons (h u Oz) (xa λv hv=>h v (OF _ hv))
theorem TriplesOk.snoc {a b:Int} {t u:Tok} {c:Om}:∀{l:List Om},TriplesOk l->TriplesOk (l++[.int a t,.int b u,c])
 | [],_=>trivial
 | .int _ _::.int _ _::_::rest,h=>TriplesOk.snoc (l:=rest) h
section
variable {c P:Oo}
theorem xb {Q:VK} {qual x:Str} {lparams:U8} {lscope:Pp} {p1 p2 p3 lp:Pos} {kd:Nat} {pm ctv:Om} {F c' t:Oo} {g:O9} {tk:Nat} {ps ps':Array Om} {kz:List Int}
  (I:aC X pins σ H s) (hroom:X.A.depth < Rl)
  (hb:∀v,Sd (UV "<lambda>" qual lparams (.Subscript (.Name x p1) (.Constant (.int 0) kd p2) p3) lscope [] pm (.ref c') ctv) ⟨[v],[]⟩=pure [(x,v)])
  (hx:lscope.names.lookup x=some .local) (hcell:∀y∈lscope.names,y.2≠.cell) (hk:lscope.kind=.function) (hco:lscope.isCoroutine=false) (hgen:lscope.isGenerator=false) (hdb:(x == ("__debug__":Str))=false)
  (kB:qF P s.heap g) (hP0:H P=some (.tbl ps)) (hP:g.get? P=some (RY ps')) (hmore:∃more,ps'=ps++more) (h3:TriplesOk ps'.toList) (hca:Yd lp ps'.toList=some (.ref c'))
  (hF:g.get? F=some (WN "<lambda>" qual lparams (.Subscript (.Name x p1) (.Constant (.int 0) kd p2) p3) lscope [] pm c' ctv)) (hcd:g.CodeRec (.ref c') qual)
  (hc:(s.heap.get? c'=none/\H c'=none)∨H c'=some (AD c' qual))
  (ht:H t=some (.tup xs)) (h64:xs.length < 64) (hlen:kz.length=xs.length)
  (hxs:∀(i:Nat) (x:V) (k:Int),xs[i]?=some x->kz[i]?=some k->∃b ys,x=.ref b/\H b=some (.tup (.int k::ys))/\ys.length < 60)
  (q:∀D H2 ys,H D=none->H2 D=some (.lst ys)->(∀b o,b≠P->H b=some o->H2 b=some o)->l4 H2 P lp qual->GY kz xs ys->Q (.ref D) H2) :
  Ov (OE X.prog X.w) X.A (call (.builtin "sorted") [.ref t] [(Oq "key",.ref F)]) (EP X pins σ Q) X.xe { s with heap:=g,toks:=tk }:=by
 obtain⟨z,us,rv,tp⟩:=I.hok t _ ht
 have nP:∀b o,H b=some o->(∀ps,o≠.tbl ps)->b≠P:=λb o e n z=>by rw [z,hP0] at e; cases e; exact n _ rfl
 have tpg:Vo g t us.toArray:=by
  obtain⟨o,ho,r⟩:=tp
  exact⟨o,kB _ _ (nP t _ ht λ_ z=>by cases z) ho,r⟩
 have hul:=rv.length
 -- all items are references
 have isref:∀(i:Nat) (u:Om) (k:Int),us[i]?=some u->kz[i]?=some k->∃b items tt,u=.ref b/\Vo g b items/\items[0]?=some (.int k tt)/\items.size < 64/\xs[i]?=some (.ref b):=λi u k e1 e2=>by
  have hi:i < us.length:=(Ow.mp e1).1
  obtain⟨x,ex⟩:∃x,xs[i]?=some x:=⟨_,Pt (by omega)⟩
  obtain⟨b,ys,rfl,hbt,hy⟩:=hxs i x k ex e2
  obtain⟨u',eu,ru⟩:=rv.get ex
  rw [e1] at eu; cases eu
  cases ru
  obtain⟨zb,its,rb,ob,hob,r⟩:=I.hok b _ hbt
  obtain⟨v0,rest,rfl,r0,rr⟩:∃v0 rest,its=v0::rest/\aP (.int k) v0/\aO ys rest:=by
   cases rb with
   | cons ra rt=>exact⟨_,_,rfl,ra,rt⟩
  obtain⟨tt,rfl⟩:=r0
  refine⟨b,_,tt,rfl,⟨ob,kB _ _ (nP b _ hbt λ_ z=>by cases z) hob,r⟩,by simp,?_,ex⟩
  have:=rr.length
  simp
  omega
 refine yX (s:={ s with heap:=g,toks:=tk }) (kz:=kz) tpg (by omega) (by omega) (λi u k e1 e2 h2 tk2 kp=>?_) λD h2 tk2 out cc kp fr hD hq=>?_
 ·obtain⟨b,items,tt,rfl,hbt,h0,hz,_⟩:=isref i u k e1 e2
  exact GX (s:={ s with heap:=h2,toks:=tk2 }) (kp _ _ hF) (hcd.keeps kp) hroom (I.ok.mod.nolimit.keeps λb o e=>kp _ _ (kB b o (λz=>by have:=(I.bs b o e).2; rw [z,hP0] at this; cases this) (I.bk b o e))) hb hx hcell hk hco hgen hdb (hbt.keeps kp) h0 hz
 ·obtain⟨prs,pm,eo,pw⟩:=hq
  have nDc:D≠c':=λz=>by
   obtain⟨c2,oc,_,_,e2,hoc,_⟩:=hcd
   cases e2
   rw [<-z] at hoc
   rw [show g.get? D=none from fr] at hoc; cases hoc
  have nDP:D≠P:=λz=>by have f':g.get? D=none:=fr; rw [z,hP] at f'; cases f'
  have sD:s.heap.get? D=none:=by
   cases e:s.heap.get? D with
   | none=>rfl
   | some o=>exact absurd ((kB D o nDP e).symm.trans fr) (by simp)
  have HD:H D=none:=by
   cases e:H D with
   | none=>rfl
   | some o =>
    obtain⟨u,hu⟩:=(I.hok D o e).some
    rw [sD] at hu; cases hu
  have ncP:c'≠P:=λz=>by
   rcases hc with ⟨_,n⟩ | n
   ·rw [z,hP0] at n; cases n
   ·rw [z,hP0] at n; cases n
  generalize hys:out.toList.map IJ=ys
  generalize hH:upd (upd (upd H P (.tbl ps')) c' (AD c' qual)) D (.lst ys)=H3
  have gD:H3 D=some (.lst ys):=by rw [<-hH]; exact aF
  have gc:H3 c'=some (AD c' qual):=by rw [<-hH,ao nDc.symm]; exact aF
  have gP:H3 P=some (.tbl ps'):=by rw [<-hH,ao nDP.symm,ao ncP.symm]; exact aF
  have go:∀b,b≠P->b≠c'->b≠D->H3 b=H b:=λb n1 n2 n3=>by rw [<-hH,ao n3,ao n2,ao n1]
  have same:∀b o,b≠P->H b=some o->H3 b=some o:=λb o n e=>by
   by_cases z1:b=D
   ·rw [z1,HD] at e; cases e
   ·by_cases z2:b=c'
    ·rcases hc with ⟨_,n'⟩ | n'
     ·rw [z2,n'] at e; cases e
     ·rw [z2,n'] at e; rw [z2,gc]; exact e
    ·rw [go b n z2 z1]; exact e
  have kall:∀b o,b≠P->s.heap.get? b=some o->h2.get? b=some o:=λb o n e=>kp _ _ (kB b o n e)
  have outref:∀u∈out.toList,aP (IJ u) u:=λu hu=>by
   rw [eo] at hu
   obtain⟨⟨k,u'⟩,hp,rfl⟩:=RK.mp hu
   have hm:=pm.mem_iff.mp hp
   obtain⟨i,hi⟩:=List.mem_iff_getElem?.mp hm
   rw [TM] at hi
   obtain⟨b,_,_,e,_⟩:=isref i u' k hi.2 hi.1
   show aP (IJ u') u'
   rw [e]; rfl
  have sorted:GY kz xs ys:=by
   have exs:xs=us.map IJ:=by
    apply List.ext_getElem?
    intro i
    rw [PF]
    by_cases hi:i < us.length
    ·obtain⟨b,_,_,e,_,_,_,ex⟩:=isref i us[i] kz[i] (Pt hi) (Pt (by omega))
     rw [Pt hi,ex,e]; rfl
    ·rw [UH (by omega),UH (by omega)]; rfl
   refine⟨prs.map λp=>(p.1,IJ p.2),?_,?_,?_⟩
   ·have:=pm.map λp:Int×Om=>(p.1,IJ p.2)
    rw [exs,List.zip_map_right]
    exact this
   ·rw [<-hys,eo,Te,Te]; rfl
   ·rw [T0]; simpa using pw
  refine⟨.ref D,H3,?_,rfl,q D H3 ys HD gD same ⟨ps',gP,h3,.inr ⟨c',hca,gc⟩⟩ sorted⟩
  show aC X pins σ H3 { s with heap:=h2,gens:=s.gens,drawn:=s.drawn,toks:=tk2 }
  refine I.step (ch:=[]) (λ_ z=>nomatch z) (λb o _ _ _ e n=>kall b o (λz=>by rw [z,hP0] at n; cases n) e) (λb o _ _ _ e n=>⟨o.slots,kall b o (λz=>by rw [z,hP0] at n; cases n) e⟩)
   (λb o _ e n=>?_) (λb o _ e=>?_) (λb xs e=>same b _ (nP b _ e λ_ z=>by cases z) e) (λb o u e=>same b _ (nP b _ e λ_ z=>by cases z) e) (λb qs e=>?_) (λm hm=>?_) (λb o e=>?_) I.bare
  ·-- free
   by_cases z1:b=D
   ·rw [z1,sD] at e; cases e
   ·by_cases z2:b=c'
    ·rcases hc with ⟨n',_⟩ | n'
     ·rw [z2,n'] at e; cases e
     ·rw [z2,n'] at n; cases n
    ·by_cases z3:b=P
     ·rw [z3,hP0] at n; cases n
     ·rw [go b z3 z2 z1]; exact n
  ·by_cases z3:b=P
   ·rw [z3]; exact⟨_,kp _ _ hP⟩
   ·exact⟨o,kall b o z3 e⟩
  ·by_cases z3:b=P
   ·rw [z3,hP0] at e; cases e
    obtain⟨more,em⟩:=hmore
    exact⟨more,by rw [z3,gP,em]⟩
   ·exact⟨#[],by rw [same b _ z3 e]; simp⟩
  ·obtain⟨o,es,ep,ho,r⟩:=hm
   exact⟨o,es,ep,kall _ o (λz=>by have:=I.free; rw [z,hP0] at this; cases this) ho,r⟩
  ·by_cases z1:b=D
   ·rw [z1,gD] at e; cases e
    rw [z1]
    have hl:ys.length=out.toList.length:=by rw [<-hys,O7]
    refine⟨?_,out.toList,cc,?_,by rw [hD]⟩
    ·rw [hl,eo,O7,pm.length_eq,List.length_zip]
     exact PY (cF (by omega))
    ·rw [<-hys]
     exact xa outref
   ·by_cases z2:b=c'
    ·rw [z2,gc] at e; cases e
     rw [z2]
     refine⟨hcd.keeps kp,?_,?_⟩
     ·obtain⟨c2,oc,_,_,e2,hoc,_⟩:=hcd.keeps kp
      cases e2; exact⟨oc,hoc⟩
     ·rintro h4 h5 ⟨c2,oc,vs,tt,e2,hoc,r⟩ hk5
      cases e2
      exact⟨_,oc,vs,tt,rfl,hk5 oc hoc,r⟩
    ·by_cases z3:b=P
     ·rw [z3,gP] at e; cases e
      rw [z3]; exact kp _ _ hP
     ·rw [go b z3 z2 z1] at e
      refine (I.hok b o e).stay (λb' u hb' e'=>kall b' u ?_ e') (λb' e'=>?_) λb' zs e'=>?_
      ·rcases hb' with rfl | e2
       ·exact z3
       ·exact nP b' _ e2 λ_ z=>by cases z
      ·exact same b' _ (nP b' _ e' λ_ z=>by cases z) e'
      ·exact same b' _ (nP b' _ e' λ_ z=>by cases z) e'
theorem Eh {e:OP} {te:TE} {x:Str} {lparams:U8} {lscope:Pp} {p p1 p2 p3 lp kp pos:Pos} {kd:Nat} (L:LN X.K X.mg c P) (hB:X.base.BuiltinsAt X.mg P) (hcode:X.env.code=.ref c) (hroom:X.A.depth < Rl) (hm:X.mg "sorted" = none) (he:PE X e te)
  (hdef:defaultsOf lparams X.env=([],[]):=by nofun) (hcl:W9 lscope X.env=pure []:=by nofun)
  (hb:∀qual pm c' ctv v,Sd (UV "<lambda>" qual lparams (.Subscript (.Name x p1) (.Constant (.int 0) kd p2) p3) lscope [] pm (.ref c') ctv) ⟨[v],[]⟩=pure [(x,v)]:=by with_unfolding_all (intros; rfl))
  (hx:lscope.names.lookup x=some .local:=by nofun) (hcell:∀y∈lscope.names,y.2≠.cell:=by with_unfolding_all decide) (hk:lscope.kind=.function:=by nofun) (hco:lscope.isCoroutine=false:=by nofun) (hgen:lscope.isGenerator=false:=by nofun) (hdb:(x == ("__debug__":Str))=false:=by decide)
  (hg:Gl X "sorted":=by nofun) (hst:OQ [e] X.env=(false,O2 e X.env)::OQ [] X.env:=by nofun) :
  PE X (.Call (.Name "sorted" p) [e] [⟨some "key",.Lambda lparams (.Subscript (.Name x p1) (.Constant (.int 0) kd p2) p3) lscope lp,kp⟩] pos) (vt X.K P lp (X.env.qual ++ "<lambda>") te):=by
 intro pins s σ H Q I h
 refine Pk (iw I hg hm cg ?_)
 refine UW (by rw [hst]; rfl) (by rfl) (Yo (by rfl) ?_ hst)
 have ha:PA X [e] (qd te qc):=dW he iA hst
 refine bG (ha pos pins s σ H (λvs H1=>match vs with
  | [v]=>∃t xs kz,v=.ref t/\H1 t=some (.tup xs)/\xs.length < 64/\kz.length=xs.length /\
   (∀(i:Nat) (x:V) (k:Int),xs[i]?=some x->kz[i]?=some k->∃b ys,x=.ref b/\H1 b=some (.tup (.int k::ys))/\ys.length < 60)/\l4 H1 P lp (X.env.qual ++ "<lambda>") /\
   ∀D H2 ys,H1 D=none->H2 D=some (.lst ys)->(∀b o,b≠P->H1 b=some o->H2 b=some o)->l4 H2 P lp (X.env.qual ++ "<lambda>")->GY kz xs ys->Q (.ref D) H2
  | _=>False) I h) λus s1 ⟨vs,H1,I1,rv,q1⟩=>?_
 match vs,q1 with
 | [v],⟨t,xs,kz,ev,ht,h64,hlen,hxs,⟨ps,hP,h3,hps⟩,q⟩ =>
 subst ev
 obtain⟨u,rfl,ru⟩:=jk rv
 cases ru
 have hP1:s1.heap.get? P=some (RY ps):=I1.hok P _ hP
 have ne:∀b o,X.base.get? b=some o->b≠P:=λb o e z=>by have:=(I1.bs b o e).2; rw [z,hP] at this; cases this
 have hbA:s1.heap.BuiltinsAt X.mg P:=by
  obtain⟨bm,ob,b1,b2,b3,b4,b5,b6⟩:=hB
  exact⟨bm,ob,b1,b2,b3,b4,I1.bk _ _ b5,b6⟩
 have hgl:X.env.globals=O0:=I1.ok.glob
 have hns:s1.heap.Ns O0 X.mg:=I1.mod.glob.keeps I1.bk
 show Ov _ _ (Yj [do let v <-O2 (.Lambda lparams (.Subscript (.Name x p1) (.Constant (.int 0) kd p2) p3) lscope lp) X.env; QL pos; pure v]) _ _ s1
 refine Ts (Ol (PySem.W.kla_eval hdef ?_))
 rcases hps with hn | ⟨c',hc,hx'⟩
 ·refine PySem.W.kla_makeFunction (mg:=X.mg) hcl hgl hns hcode (L.hd _ I1.kIn) hP1 h3 hn L.ng hbA λc' ctv g tk hx1 hge hlt hrec htb=>?_
  refine Ol (P7 (On (Sf ?_)))
  have fr:s1.heap.get? c'=none:=SI hge
  refine xb (s:=s1) (ps:=ps) I1 hroom (λv=>hb _ _ _ _ v) hx hcell hk hco hgen hdb (λb o n e=>Op _ (hx1 b o n e)) hP (Op _ htb) ⟨_,rfl⟩ ?_ ?_ (Ox _ rfl) (hrec.push _) (.inl ⟨fr,I1.hok.fresh hge⟩) ht h64 hlen hxs q
  ·simpa [To] using TriplesOk.snoc h3
  ·simpa using codeAmong_snoc _ h3 hn
 ·refine PySem.W.kla_makeFunctionHit (mg:=X.mg) hcl hgl hns hcode (L.hd _ I1.kIn) hP1 h3 hc hbA λctv g tk hk1 hsz=>?_
  refine Ol (P7 (On (Sf ?_)))
  have hrec:s1.heap.CodeRec (.ref c') (X.env.qual ++ "<lambda>"):=(I1.hok c' _ hx').1
  exact xb (s:=s1) (ps:=ps) I1 hroom (λv=>hb _ _ _ _ v) hx hcell hk hco hgen hdb (λb o n e=>Op _ (hk1 b o e)) hP (Op _ (hk1 _ _ hP1)) ⟨#[],by simp⟩ h3 hc (Ox _ rfl) ((hrec.keeps hk1).push _) (.inr hx') ht h64 hlen hxs q
end
section
end
section
def J0 (K:Ou) (mg:Str->Option Om) (x:Str) (st:Rf) (c:Oo):Prop :=
 ∃(f:Oo) (oc:Om) (od:Option Oo) (kV doc pm:Om) (an:Option Oo) (ct:Om) (osl:Array (Option Om)),
  K.lookup f=some ⟨oc,od,.func (Ph x x (bY st) (a9 st) (af st) .none kV doc pm an (.ref c) ct),osl⟩/\Qh K (.ref c) x=true/\O3 K (.ref f)=true/\mg x=some (.ref f)
end
section
end
section
end
theorem B2 {mg mb:Str->Option Om} {k:Nat} {fa a T:Oo} {x:Str} {sp:Sp} {s₁:Os} {vs:List Om} {ns:List Int}
  (KX:K.In s₁.heap) (hns:s₁.heap.Ns O0 mg) (hb:s₁.heap.Ns WZ mb) (hbb:∀x:Str,x ≠ "__name__" -> mb x=Pb x) (hlim:s₁.heap.NoLimit) (hg:s₁.gens=#[])
  (hB:s₁.heap.BuiltinsAt mg T) (hT:s₁.heap.get? T=some (RY #[])) (hKT:K.lookup T=none) (hct:isCodeTable s₁.heap T)
  (ha:s₁.heap.get? a=some { cls:=.type "list",data:=.seq vs.toArray }) (hi:SF vs ns) (hl:ns.length≤OA) (hr:bn k U9)
  (F:∀base:O9,K.In base->base.Ns O0 mg->base.BuiltinsAt mg T->cr P w K mg base fR k fa fd [x] sp) (hbind:∀(s:Os) (u:Om),U6 s fd ⟨[u],[]⟩ [(x,u)])
  (hsp:∀H:Hp,hW K H a (ns.map V.int)->H T=some (.tbl #[])->sp [.ref a] H (λv _=>v=.bl true) λ_ _ _=>False) :
  RX (OE P w) U9 (.call (.ref fa) ⟨[.ref a],[]⟩) (λr s'=>r=.ok (.ret (.bool true))/\OldK s₁.heap s'.heap/\s'.os=s₁.os/\SD s'.gens) s₁:=by
 have rv:=uw hi
 have lenV:=hi.length
 have naT:a≠T:=λz=>by rw [z,hT] at ha; cases ha
 have core:∀H:Hp,hW K H a (ns.map V.int)->H T=some (.tbl #[])->iT P w H s₁.heap->(∀b u,H b=some u->b=T∨(b=a/\∃o xs,u=.frz o (.lst xs)))->(H a≠none->K.lookup a=none) ->
   RX (OE P w) U9 (.call (.ref fa) ⟨[.ref a],[]⟩) (λr s'=>r=.ok (.ret (.bool true))/\OldK s₁.heap s'.heap/\s'.os=s₁.os/\SD s'.gens) s₁:=by
  intro H hS hHT hok hA hK
  have noA:∀{b:Oo} {o:Obj} {es:Array Q4} {ep:Nat},s₁.heap.get? b=some o->o.data=.dict es ep->H b=none:=λ{b o es ep} e d=>by
   cases q:H b with
   | none=>rfl
   | some u =>
    rcases hA b u q with z | ⟨z,_⟩
    ·rw [z,hT] at e; cases e; cases d
    ·rw [z,ha] at e; cases e; cases d
  have nsK:∀{b:Oo} {m:Str->Option Om},s₁.heap.Ns b m->(vb s₁.heap H).Ns b m:=λ{b m} ⟨o,es,ep,e,d,r⟩=>⟨o,es,ep,pW e (noA e d),d,r⟩
  have hKb:K.In (vb s₁.heap H):=λb o e=>pW (KX b o e) (by
   cases q:H b with
   | none=>rfl
   | some u =>
    rcases hA b u q with z | ⟨z,_⟩
    ·rw [z,hKT] at e; cases e
    ·have:H a≠none:=by rw [<-z,q]; simp
     rw [z,hK this] at e; cases e)
  have hM:Mod K mg (vb s₁.heap H):=⟨hKb,nsK hns,⟨mb,nsK hb,hbb⟩,let ⟨mc,h1,h2⟩:=hlim; ⟨mc,nsK h1,h2⟩⟩
  have e0:k8 P w K mg (vb s₁.heap H) U9 [] s₁ H:=⟨rfl,hM,λb o e=>Gm e,Yi (Bw _ _),trivial,λb z=>absurd (show b∈([]:List Oo) from z) (by simp),hok,.of_eq hg⟩
  have hBb:(vb s₁.heap H).BuiltinsAt mg T:=by
   obtain⟨bm,ob,b1,b2,b3,b4,b5,b6,b7,b8⟩:=hB
   refine⟨bm,ob,b1,b2,b3,b4,pW b5 ?_,b6,b7,b8⟩
   cases q:H bm with
   | none=>rfl
   | some u =>
    rcases hA bm u q with z | ⟨z,_⟩
    ·exact absurd z b4
    ·rw [z,ha] at b5; cases b5; simp at b6
  refine PZ ((F _ hKb (nsK hns) hBb).run U9 [] s₁ H ⟨[.ref a],[]⟩ [.ref a] [.ref a] _ _ hr e0 (hbind s₁ (.ref a)) (.cons rfl .nil) (hsp H hS hHT)) λr s' h=>?_
  cases r with
  | error e=>exact (show False from h).elim
  | ok fl =>
   cases fl with
   | next=>exact OX h
   | brk=>exact OX h
   | cont=>exact OX h
   | ret u =>
    obtain⟨v,H',os,bare,un,hok',r',q⟩:=h
    have q':v=.bl true:=q
    subst q'
    obtain rfl:u=Qm true:=r'
    refine⟨rfl,⟨λb o e=>?_,λb o e=>un.there b o e (by simp)⟩,os,bare⟩
    cases q:H b with
    | none=>exact .inl (un.keep b o e q (by intro z; exact absurd (show b∈([]:List Oo) from z) (by simp)) (by simp))
    | some u =>
     rcases hA b u q with z | ⟨z,ob,xs,z1⟩
     ·obtain⟨more,e2⟩:=un.tbls b #[] (by rw [z]; exact hHT)
      have e3:=hok' b _ e2
      rw [z,hT] at e; cases e
      exact .inr (.inl ⟨z▸hct,rfl,#[],more,rfl,e3⟩)
     ·rw [z1] at q
      have z2:=un.frzs b ob _ q
      obtain⟨e1,_⟩:=hok b _ q
      obtain⟨e2,_⟩:=hok' b _ z2
      rw [e] at e1; cases e1
      exact .inl e2
 cases hk:K.lookup a with
 | some o =>
  have e:=KX a o hk
  rw [ha] at e
  cases e
  refine core (λb=>if b=T then some (.tbl #[]) else none) (.inr ⟨_,vs.toArray,_,hk,rfl,rfl,rfl,by rw [Ot,lenV]; exact hl,by simpa using rv⟩) (if_pos rfl) (λb u z=>?_) (λb u z=>?_) λz=>absurd (if_neg naT) z
  ·by_cases hb:b=T
   ·have z':=(if_pos hb).symm.trans z
    cases z'
    subst hb
    exact hT
   ·cases (if_neg hb).symm.trans z
  ·by_cases hb:b=T
   ·exact .inl hb
   ·cases (if_neg hb).symm.trans z
 | none =>
  refine core (λb=>if b=T then some (.tbl #[]) else if b=a then some (.frz { cls:=.type "list",data:=.seq vs.toArray } (.lst (ns.map V.int))) else none)
   (.inl (.inr ⟨{ cls:=.type "list",data:=.seq vs.toArray },(if_neg naT).trans (if_pos rfl)⟩)) (if_pos rfl) (λb u z=>?_) (λb u z=>?_) λ_=>hk
  ·by_cases hb:b=T
   ·have z':=(if_pos hb).symm.trans z
    cases z'
    subst hb
    exact hT
   ·have z1:=(if_neg hb).symm.trans z
    by_cases hb2:b=a
    ·have z':=(if_pos hb2).symm.trans z1
     cases z'
     subst hb2
     exact⟨ha,by rw [O7]; exact hl,vs,_,rv,ha⟩
    ·cases (if_neg hb2).symm.trans z1
  ·by_cases hb:b=T
   ·exact .inl hb
   ·have z1:=(if_neg hb).symm.trans z
    by_cases hb2:b=a
    ·have z':=(if_pos hb2).symm.trans z1
     cases z'
     exact .inr ⟨hb2,_,_,rfl⟩
    ·cases (if_neg hb2).symm.trans z1
theorem Ei {l:TL} {n k:Nat} {q:OZ} {loose:List Str} {XP:(Str->Option Om)->O9->Prop} {YP:Pl->O9->Prop} {d:DefRec} {K:UR->Ou} {sp:Pl->Sp} {x:Str} {T:Oo}
  (hn:l.most=some n) (hn2:n≤OA) (hdf:d.params.defaults=[]) (hr:bn k U9)
  (hY:∀(w:Pl) (h:O9),YP w h->(K w.params).In h/\h.get? T=some (RY #[]))
  (F:∀(w:Pl) (mg:Str->Option Om) (fa:Oo) (h:O9),(K w.params).In h->h.Ns O0 mg->mg d.name=some (.ref fa) ->
   (K w.params).lookup T=none/\(∃c,SB (K w.params) c T=true)/\∃fd:SH,(∀(s:Os) (u:Om),U6 s fd ⟨[u],[]⟩ [(x,u)]) /\
    ∀base:O9,(K w.params).In base->base.Ns O0 mg->base.BuiltinsAt mg T->cr l.prog w (K w.params) mg base fR k fa fd [x] (sp w))
  (hsp:∀(w:Pl) (H:Hp) (a:Oo) (ns:List Int),ns.length≤n->hW (K w.params) H a (ns.map V.int)->H T=some (.tbl #[])->sp w [.ref a] H (λv _=>v=.bl true) λ_ _ _=>False) :
  ZL q loose XP YP l.row.toRowW d [] (λf vs=>PySem.call f vs):=by
 refine Att.attach_call hn hdf λw s₀ s₁ mg mb fa o pm cd doc a vs ns G Y ho hd hcd hmg hobj hints hlen hg=>?_
 obtain⟨KX,hT⟩:=hY w _ Y
 obtain⟨hKT,⟨c,hc⟩,fd,hb,hF⟩:=F w mg fa _ KX G.T.g hmg
 obtain⟨oc,vs',_,_,_,_,_,_,_,g1,g2,g3,g4,_⟩:=Vi KX hc
 have hB:s₁.heap.BuiltinsAt mg T:=by
  obtain⟨bm,ob,b1,b2,b3,b4,b5,b6⟩:=G.T.bmain
  refine⟨bm,ob,b1,b2,λz=>?_,λz=>?_,b3,b4,b5,b6⟩
  ·obtain⟨o,es,ep,e,hd',_⟩:=G.T.g
   rw [z,e] at b3; cases b3; rw [hd'] at b6; cases b6
  ·rw [z,hT] at b3; cases b3; cases b4
 exact B2 KX G.T.g G.T.b G.T.builtins G.T.nolimit hg hB hT hKT ⟨c,oc,vs',g1,g2,g3,g4⟩ hobj hints (Pi hlen hn2) hr hF hb λH hS hHT=>hsp w H a ns hlen hS hHT
section
def yY:List V->Hp->VK->Prop:=λxs H Q=>match xs with
 | [.int i,.int j]=>Q (.int (if j > i then j else i)) H
 | _=>False
def yZ:List V->Hp->VK->Prop:=λxs H Q=>match xs with
 | [.int i,.int j]=>Q (.int (if j < i then j else i)) H
 | _=>False
theorem y8 (hc:X.calm=true):dI X (.builtin "max") yY:=by
 intro pins s σ H xs us Q I r h
 unfold yY at h
 split at h
 ·exact Bz hc pins s σ H _ us Q I r ⟨_,_,rfl,h⟩
 ·exact h.elim
theorem y9 (hc:X.calm=true):dI X (.builtin "min") yZ:=by
 intro pins s σ H xs us Q I r h
 unfold yZ at h
 split at h
 ·exact BB hc pins s σ H _ us Q I r ⟨_,_,rfl,h⟩
 ·exact h.elim
end
theorem vv {g:Str×QS->QS} (hg:∀p,p.2=.cell∨p.2=.free->g p=.cell∨g p=.free):∀{names:List (Str×QS)} {x:Str},(names.lookup x=some .cell∨names.lookup x=some .free) ->
  ((names.map λp=>(p.1,g p)).lookup x=some .cell∨(names.map λp=>(p.1,g p)).lookup x=some .free)
 | [],x,h=>by simp at h
 | (n,k)::r,x,h=>by
  rw [OV,Px]
  rw [Px] at h
  cases e:(x == n) with
  | true =>
   rw [e] at h
   simp only at h ⊢
   have:=hg (n,k) (by simpa using h)
   simpa using this
  | false =>
   rw [e] at h
   simp only at h ⊢
   exact vv hg h
theorem sF (sc:Pp) (env:Env):∃g:Str×QS->QS,(∀p,p.2=.cell∨p.2=.free->g p=.cell∨g p=.free)/\(TY sc env).names=sc.names.map λp=>(p.1,g p):=by
 refine⟨λp=>if (p.2 == PN && env.scope.kind == .function && env.kindOf p.1 == some .cell) then .cell else p.2,λp h=>?_,?_⟩
 ·dsimp only
  split
  ·exact .inl rfl
  ·exact h
 ·unfold TY
  dsimp only
  apply Vj
  intro p _
  obtain⟨n,k⟩:=p
  dsimp only
  split<;>rfl
theorem aR.re {up:Pp} {N:List Str} {sc:Pp} {Nc:List Str} {env:Env} (S:aR up N sc Nc ix):aR (TY up env) N sc Nc ix:=by
 obtain⟨g,hg,e⟩:=sF up env
 refine⟨S.kind,S.nocell,S.loc,λy hy h=>?_,S.nd,S.len,λp hp=>?_⟩
 ·rw [e]; exact vv hg (S.free y hy h)
 ·have:=S.map p hp
  revert this
  cases p.2 with
  | none=>intro _; rfl
  | some j =>
   intro this
   simp only [OI,decide_eq_true_eq] at this ⊢
   obtain⟨⟨⟨h1,h2⟩,h3⟩,h4⟩:=this
   exact⟨⟨⟨h1,by rw [e]; exact vv hg h2⟩,h3⟩,h4⟩
end L2
namespace RB
open PySem L2
inductive AV where
 | non | bl (b:Bool) | int (s:Bool) (lo hi:Int) | str (i:Nat) | ref (n:Nat) | ext (i:Nat) | tn | tc (h t:AV)
inductive AO where
 | lst (xs:List AV)
 | dk (kvs:List (AV×AV))
 | dt (kvs:List (AV×AV))
 | ins (c:Nat) (fs:List (Nat×AV))
 /-- a dict that a loop walks: read,not written -/
 | fz (o:AO)
inductive Tr where
 | lf | nd (l:Tr) (o:AO) (r:Tr)
def Tr.get0:Tr->Nat->Option AO
 | .lf,_=>none
 | .nd l o r,n=>match OL n 0 with
  | true=>some o
  | false=>match OL (n % 2) 1 with
   | true=>l.get0 (n / 2)
   | false=>r.get0 (n / 2 - 1)
def Tr.put0:Tr->Nat->AO->Tr
 | .lf,_,x=>.nd .lf x .lf
 | .nd l o r,n,x=>match OL n 0 with
  | true=>.nd l x r
  | false=>match OL (n % 2) 1 with
   | true=>.nd (l.put0 (n / 2) x) o r
   | false=>.nd l o (r.put0 (n / 2 - 1) x)
structure aU where
 n:Nat
 sym:Bool
 t:Tr
def Tr.has:Tr->Nat->Prop
 | .lf,_=>False
 | .nd l _ r,n=>if n=0 then True else if n % 2=1 then l.has (n / 2) else r.has (n / 2 - 1)
theorem gu (n m:Nat):OL n m=decide (n=m):=by
 cases e:OL n m with
 | true=>rw [OD e]; simp
 | false=>rw [decide_eq_false (Nat.ne_of_beq_eq_false e)]
theorem Tr.put0_same:∀(t:Tr) (n:Nat) (x:AO),(t.has n∨∀i,i < n->t.has i)->(t.put0 n x).get0 n=some x
 | .lf,n,x,h=>by
  have:n=0:=by
   rcases h with h | h
   ·exact h.elim
   ·cases n with
    | zero=>rfl
    | succ n=>exact (h 0 (Yp _)).elim
  subst this
  rfl
 | .nd l o r,n,x,h=>by
  by_cases h0:n=0
  ·subst h0; rfl
  ·have e0:OL n 0=false:=by rw [gu]; simp [h0]
   by_cases h1:n % 2=1
   ·have e1:OL (n % 2) 1=true:=by rw [gu]; simp [h1]
    have hl:l.has (n / 2)∨∀i,i < n / 2->l.has i:=by
     rcases h with h | h
     ·left
      unfold Tr.has at h
      simpa [h0,h1] using h
     ·right
      intro i hi
      have:=h (2 * i+1) (by omega)
      unfold Tr.has at this
      have z:(2 * i+1) / 2=i:=by omega
      have z1:(2 * i+1) % 2=1:=by omega
      simpa [z,z1] using this
    have:=Tr.put0_same l (n / 2) x hl
    unfold Tr.put0
    rw [e0,e1]
    dsimp only
    unfold Tr.get0
    rw [e0,e1]
    exact this
   ·have e1:OL (n % 2) 1=false:=by rw [gu]; simp [h1]
    have hl:r.has (n / 2 - 1)∨∀i,i < n / 2 - 1->r.has i:=by
     rcases h with h | h
     ·left
      unfold Tr.has at h
      simpa [h0,h1] using h
     ·right
      intro i hi
      have:=h (2 * i+2) (by omega)
      unfold Tr.has at this
      have z:(2 * i+2) / 2 - 1=i:=by omega
      have z1:¬(2 * i+2) % 2=1:=by omega
      simpa [z,z1] using this
    have:=Tr.put0_same r (n / 2 - 1) x hl
    unfold Tr.put0
    rw [e0,e1]
    dsimp only
    unfold Tr.get0
    rw [e0,e1]
    exact this
theorem Tr.put0_ne:∀(t:Tr) (n m:Nat) (x:AO),(t.has n∨∀i,i < n->t.has i)->m≠n->(t.put0 n x).get0 m=t.get0 m
 | .lf,n,m,x,h,hm=>by
  have:n=0:=by
   rcases h with h | h
   ·exact h.elim
   ·cases n with
    | zero=>rfl
    | succ n=>exact (h 0 (Yp _)).elim
  subst this
  show (Tr.nd .lf x .lf).get0 m=none
  unfold Tr.get0
  have e0:OL m 0=false:=by rw [gu]; simp [hm]
  rw [e0]
  dsimp only
  split<;>rfl
 | .nd l o r,n,m,x,h,hm=>by
  by_cases h0:n=0
  ·subst h0
   have e0:OL m 0=false:=by rw [gu]; simp [hm]
   show (Tr.nd l x r).get0 m=_
   unfold Tr.get0
   rw [e0]
  ·have e0:OL n 0=false:=by rw [gu]; simp [h0]
   by_cases h1:n % 2=1
   ·have e1:OL (n % 2) 1=true:=by rw [gu]; simp [h1]
    have hl:l.has (n / 2)∨∀i,i < n / 2->l.has i:=by
     rcases h with h | h
     ·left
      unfold Tr.has at h
      simpa [h0,h1] using h
     ·right
      intro i hi
      have:=h (2 * i+1) (by omega)
      unfold Tr.has at this
      have z:(2 * i+1) / 2=i:=by omega
      have z1:(2 * i+1) % 2=1:=by omega
      simpa [z,z1] using this
    conv=>lhs; unfold Tr.put0
    rw [e0,e1]
    dsimp only
    by_cases m0:m=0
    ·subst m0; rfl
    ·have f0:OL m 0=false:=by rw [gu]; simp [m0]
     unfold Tr.get0
     rw [f0]
     dsimp only
     by_cases m1:m % 2=1
     ·have f1:OL (m % 2) 1=true:=by rw [gu]; simp [m1]
      rw [f1]
      exact Tr.put0_ne l (n / 2) (m / 2) x hl (by omega)
     ·have f1:OL (m % 2) 1=false:=by rw [gu]; simp [m1]
      rw [f1]
   ·have e1:OL (n % 2) 1=false:=by rw [gu]; simp [h1]
    have hl:r.has (n / 2 - 1)∨∀i,i < n / 2 - 1->r.has i:=by
     rcases h with h | h
     ·left
      unfold Tr.has at h
      simpa [h0,h1] using h
     ·right
      intro i hi
      have:=h (2 * i+2) (by omega)
      unfold Tr.has at this
      have z:(2 * i+2) / 2 - 1=i:=by omega
      have z1:¬(2 * i+2) % 2=1:=by omega
      simpa [z,z1] using this
    conv=>lhs; unfold Tr.put0
    rw [e0,e1]
    dsimp only
    by_cases m0:m=0
    ·subst m0; rfl
    ·have f0:OL m 0=false:=by rw [gu]; simp [m0]
     unfold Tr.get0
     rw [f0]
     dsimp only
     by_cases m1:m % 2=1
     ·have f1:OL (m % 2) 1=true:=by rw [gu]; simp [m1]
      rw [f1]
     ·have f1:OL (m % 2) 1=false:=by rw [gu]; simp [m1]
      rw [f1]
      exact Tr.put0_ne r (n / 2 - 1) (m / 2 - 1) x hl (by omega)
theorem Tr.has_of_get0:∀(t:Tr) (n:Nat) (o:AO),t.get0 n=some o->t.has n
 | .lf,_,_,h=>by cases h
 | .nd l o r,n,x,h=>by
  unfold Tr.get0 at h
  rw [gu,gu] at h
  unfold Tr.has
  by_cases h0:n=0
  ·simp [h0]
  ·by_cases h1:n % 2=1
   ·simp only [h0,h1,if_false,if_true,decide_true,decide_false] at h ⊢
    exact Tr.has_of_get0 l _ _ h
   ·simp only [h0,h1,if_false,decide_false] at h ⊢
    exact Tr.has_of_get0 r _ _ h
def Tr.get (t:Tr):Nat->Option AO:=Tr.rec (motive:=λ_=>Nat->Option AO) (λ_=>none) (λ_ o _ gl gr n=>TF (motive:=λ_=>Option AO) (TF (motive:=λ_=>Option AO) (gr (Nat.sub (Yq n 2) 1)) (gl (Yq n 2)) (OL (Nat.mod n 2) 1)) (some o) (OL n 0)) t
def Tr.put (t:Tr):Nat->AO->Tr:=Tr.rec (motive:=λ_=>Nat->AO->Tr) (λ_ x=>.nd .lf x .lf) (λl o r pl pr n x=>TF (motive:=λ_=>Tr) (TF (motive:=λ_=>Tr) (.nd l o (pr (Nat.sub (Yq n 2) 1) x)) (.nd (pl (Yq n 2) x) o r) (OL (Nat.mod n 2) 1)) (.nd l x r) (OL n 0)) t
theorem Tr.get_eq:∀(t:Tr) (n:Nat),t.get n=t.get0 n
 | .lf,_=>rfl
 | .nd l o r,n=>by
  have hl:=Tr.get_eq l (n / 2)
  have hr:=Tr.get_eq r (n / 2 - 1)
  unfold Tr.get0
  rw [<-hl,<-hr]
  show TF (motive:=λ_=>Option AO) (TF (motive:=λ_=>Option AO) (r.get (n / 2 - 1)) (l.get (n / 2)) (OL (n % 2) 1)) (some o) (OL n 0)=_
  cases OL n 0<;>cases OL (n % 2) 1<;>rfl
theorem Tr.put_eq:∀(t:Tr) (n:Nat) (x:AO),t.put n x=t.put0 n x
 | .lf,_,_=>rfl
 | .nd l o r,n,x=>by
  have hl:=Tr.put_eq l (n / 2) x
  have hr:=Tr.put_eq r (n / 2 - 1) x
  unfold Tr.put0
  rw [<-hl,<-hr]
  show TF (motive:=λ_=>Tr) (TF (motive:=λ_=>Tr) (.nd l o (r.put (n / 2 - 1) x)) (.nd (l.put (n / 2) x) o r) (OL (n % 2) 1)) (.nd l x r) (OL n 0)=_
  cases OL n 0<;>cases OL (n % 2) 1<;>rfl
theorem Tr.put_same (t:Tr) (n:Nat) (x:AO) (h:t.has n∨∀i,i < n->t.has i):(t.put n x).get n=some x:=by rw [Tr.get_eq,Tr.put_eq]; exact Tr.put0_same t n x h
theorem Tr.put_ne (t:Tr) (n m:Nat) (x:AO) (h:t.has n∨∀i,i < n->t.has i) (hm:m≠n):(t.put n x).get m=t.get m:=by rw [Tr.get_eq,Tr.get_eq,Tr.put_eq]; exact Tr.put0_ne t n m x h hm
theorem Tr.has_of_get (t:Tr) (n:Nat) (o:AO) (h:t.get n=some o):t.has n:=by rw [Tr.get_eq] at h; exact Tr.has_of_get0 t n o h
def bh:List Str:=[Oq "a",Oq "again",Oq "alone",Oq "ask",Oq "asks",Oq "asleep",Oq "attach",Oq "awake",Oq "b",Oq "back",Oq "bad kind",Oq "bad mode",Oq "bad stretch",Oq "begin",Oq "blocker",Oq "both",Oq "c",Oq "cancel",Oq "cancelled",Oq "changes",Oq "close",Oq "count",Oq "deeds",Oq "do",Oq "drop",Oq "dup",Oq "end",Oq "ended",Oq "ending",Oq "fair",Oq "file",Oq "files",Oq "fork",Oq "fresh",Oq "future",Oq "given",Oq "granted",Oq "handles",Oq "held",Oq "is wrong",Oq "is_asleep",Oq "leads",Oq "lock",Oq "lock_whole",Oq "locks",Oq "mark",Oq "no ask",Oq "no back",Oq "no file",Oq "no handle",Oq "no mark",Oq "no task",Oq "no text",Oq "odd",Oq "opened",Oq "outcome",Oq "outcomes",Oq "past",Oq "perform",Oq "probe",Oq "put",Oq "read",Oq "rests",Oq "shared",Oq "stuck",Oq "tables",Oq "task",Oq "tasks",Oq "told",Oq "undo_to",Oq "undone",Oq "unlock",Oq "unlock_whole",Oq "waiting",Oq "waits",Oq "whole",Oq "whole_locks",Oq "why",Oq "write",Oq "zz"]
theorem vw:bh.Nodup:=by decide +kernel
theorem nj {α:Type} {xs:List α} (h:xs.Nodup) {i j:Nat} {x:α} (h1:xs[i]?=some x) (h2:xs[j]?=some x):i=j:=by
 obtain⟨a,e1⟩:=Ow.mp h1
 obtain⟨b,e2⟩:=Ow.mp h2
 have p:=List.pairwise_iff_getElem.mp h
 rcases Nat.lt_trichotomy i j with q | q | q
 ·exact absurd (e1.trans e2.symm) (p i j a b q)
 ·exact q
 ·exact absurd (e2.trans e1.symm) (p j i b a q)
theorem eR {i j:Nat} {x:Str} (h1:bh[i]?=some x) (h2:bh[j]?=some x):i=j:=by
 exact nj vw h1 h2
def j0:List Nat:=[31,29,35,41,54,38,75,73,5,56,19,65,57,34]
structure Fx where
 ext:Nat->V
 own:Oo->Prop
 J:Hp->Prop
 st:∀H H',J H->(∀b o,(own b∨∃φ,o=.ext φ)->H b=some o->H' b=some o)->J H'
structure Gy where
 cl:Nat->Oo
 /-- the own errors' classes; the defs that are met as values -/
 xc:Nat->Oo
 fe:Nat->Oo
 /-- the code YE that a lambda's code comes into,where the lambda stands,its name -/
 tT:Oo
 tP:Pos
 tQ:Str
 /-- what a law knows of what is fixed from its fq on -/
 dr:Fx->Prop
structure Gx extends Gy where
 E:XK
section
variable (F:Fx) (y:Option Int) (ρ:List Oo) (H:Hp)
def j4:AV->(V->Prop)×(List V->Prop)
 | .non=>(λv=>v=.non,λ_=>False)
 | .bl b=>(λv=>v=.bl b,λ_=>False)
 | .int false lo hi=>(λv=>∃z,v=.int z/\lo≤z/\z≤hi,λ_=>False)
 | .int true lo hi=>(λv=>∃x z,y=some x/\v=.int z/\x+lo≤z/\z≤x+hi,λ_=>False)
 | .str i=>(λv=>∃x,bh[i]?=some x/\v=.str x,λ_=>False)
 | .ref n=>(λv=>∃a,ρ[n]?=some a/\v=.ref a,λ_=>False)
 | .ext i=>(λv=>v=F.ext i,λ_=>False)
 | .tn=>(λv=>∃a,v=.ref a/\H a=some (.tup []),λws=>ws=[])
 | .tc h t=>(λv=>∃a w ws,v=.ref a/\H a=some (.tup (w::ws))/\(j4 h).1 w/\(j4 t).2 ws,λws=>∃w r,ws=w::r/\(j4 h).1 w/\(j4 t).2 r)
abbrev aY (av:AV) (v:V):Prop:=(j4 F y ρ H av).1 v
abbrev xf (av:AV) (vs:List V):Prop:=(j4 F y ρ H av).2 vs
abbrev aZ:List AV->List V->Prop:=Paired (aY F y ρ H)
def fH:Option AV->Option V->Prop
 | none,_=>True
 | some a,some v=>aY F y ρ H a v
 | _,_=>False
abbrev fT:List (Option AV)->St->Prop:=Paired (fH F y ρ H)
def gR:AV->bv->Prop
 | .int false lo hi,k=>lo=hi/\k=.inl lo
 | .str i,k=>∃x,bh[i]?=some x/\k=.inr x
 | _,_=>False
def gw:AV->List bv->Prop
 | .tn,ks=>ks=[]
 | .tc h t,ks=>∃k r,ks=k::r/\gR h k/\gw t r
 | _,_=>False
def dE (g:Gx):AO->HO->Prop
 | .lst xs,o=>∃vs,o=.lst vs/\aZ F y ρ H xs vs
 | .dk kvs,o=>∃ks,o=.dK ks/\Paired (λp q=>gR p.1 q.1/\aY F y ρ H p.2 q.2) kvs ks
 | .dt kvs,o=>∃ks,o=.dT ks/\Paired (λp q=>gw p.1 q.1/\aY F y ρ H p.2 q.2) kvs ks
 | .ins c fs,o=>∃dx gs,(c < 2/\o=.ins (g.cl c) dx gs/\∀p∈fs,p.1∈j0)/\Paired (λp q=>bh[p.1]?=some q.1/\aY F y ρ H p.2 q.2) fs gs
 | .fz a,o=>∃ob u,o=.frz ob u/\dE g a u
end
structure LO (g:Gx) (F:Fx):Prop where
 dr:g.dr F
 own:F.own g.tT
 lam:∀H,F.J H->l4 H g.tT g.tP g.tQ
 re:∀H H',F.J H->l4 H' g.tT g.tP g.tQ->(∀b o,b≠g.tT->H b=some o->H' b=some o)->F.J H'
structure aM (g:Gx) (F:Fx) (y:Option Int) (ρ:List Oo) (S:aU) (H:Hp):Prop where
 n:S.n=ρ.length
 sym:S.sym=y.isSome
 pos:∀x,y=some x->1≤x
 nd:ρ.Nodup
 at_:∀i a,ρ[i]?=some a->∃o ho,S.t.get i=some o/\H a=some ho/\dE F y ρ H g o ho
 own:∀a∈ρ,¬F.own a
 fe:∀i,i < 11->F.ext i=.ref (g.fe i)
 ol:∀b,F.own b->H b≠none
 J:F.J H
 fl:LO g F
structure aE (F:Fx) (y:Option Int) (ρ:List Oo) (H:Hp) (y':Option Int) (ρ':List Oo) (H':Hp):Prop where
 y:∀x,y=some x->y'=some x
 pre:∃r,ρ'=ρ++r
 new:∀a∈ρ',a∈ρ∨H a=none
 keep:∀b o,H b=some o->b ∉ ρ->¬F.own b->H' b=some o
 tup:∀b vs,H b=some (.tup vs)->H' b=some (.tup vs)
 live:∀b,H' b=none->H b=none
 frz:∀b o u,H b=some (.frz o u)->H' b=some (.frz o u)
section
variable {g:Gx} {F:Fx} {y y1 y2:Option Int} {ρ ρ1 ρ2:List Oo} {H H1 H2:Hp} {S S1:aU}
theorem aE.refl:aE F y ρ H y ρ H:=⟨λ_ h=>h,⟨[],by simp⟩,λ_ h=>.inl h,λ_ _ h _ _=>h,λ_ _ h=>h,λ_ h=>h,λ_ _ _ h=>h⟩
theorem aE.trans (a:aE F y ρ H y1 ρ1 H1) (b:aE F y1 ρ1 H1 y2 ρ2 H2):aE F y ρ H y2 ρ2 H2:=by
 refine⟨λx h=>b.y x (a.y x h),?_,λc hc=>?_,λc o h n w=>?_,λc vs h=>b.tup c vs (a.tup c vs h),λc h=>a.live c (b.live c h),λc o u h=>b.frz c o u (a.frz c o u h)⟩
 ·obtain⟨r,rfl⟩:=a.pre
  obtain⟨r',rfl⟩:=b.pre
  exact⟨r++r',by simp⟩
 ·rcases b.new c hc with h | h
  ·exact a.new c h
  ·exact .inr (a.live c h)
 ·refine b.keep c o (a.keep c o h n w) (λm=>?_) w
  rcases a.new c m with h' | h'
  ·exact n h'
  ·rw [h'] at h; cases h
structure gx (F:Fx) (y:Option Int) (ρ:List Oo) (H:Hp) (y':Option Int) (ρ':List Oo) (H':Hp):Prop where
 y:∀x,y=some x->y'=some x
 pre:∃r,ρ'=ρ++r
 new:∀a∈ρ',a∈ρ∨H a=none
 keep:∀b o,H b=some o->b ∉ ρ->¬F.own b->H' b=some o
 tup:∀b vs,H b=some (.tup vs)->H' b=some (.tup vs)
 live:∀b,H' b=none->H b=none
theorem aE.to0 (a:aE F y ρ H y1 ρ1 H1):gx F y ρ H y1 ρ1 H1:=⟨a.y,a.pre,a.new,a.keep,a.tup,a.live⟩
theorem gx.trans (a:gx F y ρ H y1 ρ1 H1) (b:gx F y1 ρ1 H1 y2 ρ2 H2):gx F y ρ H y2 ρ2 H2:=by
 refine⟨λx h=>b.y x (a.y x h),?_,λc hc=>?_,λc o h n w=>?_,λc vs h=>b.tup c vs (a.tup c vs h),λc h=>a.live c (b.live c h)⟩
 ·obtain⟨r,rfl⟩:=a.pre
  obtain⟨r',rfl⟩:=b.pre
  exact⟨r++r',by simp⟩
 ·rcases b.new c hc with h | h
  ·exact a.new c h
  ·exact .inr (a.live c h)
 ·refine b.keep c o (a.keep c o h n w) (λm=>?_) w
  rcases a.new c m with h' | h'
  ·exact n h'
  ·rw [h'] at h; cases h
theorem aE.mem (a:aE F y ρ H y1 ρ1 H1) {i:Nat} {c:Oo} (h:ρ[i]?=some c):ρ1[i]?=some c:=by
 obtain⟨r,rfl⟩:=a.pre
 obtain⟨hi,e⟩:=Ow.mp h
 rw [PQ hi]; exact h
structure Mo (y:Option Int) (ρ:List Oo) (H:Hp) (y':Option Int) (ρ':List Oo) (H':Hp):Prop where
 y:∀x,y=some x->y'=some x
 mem:∀{i:Nat} {c:Oo},ρ[i]?=some c->ρ'[i]?=some c
 tup:∀b vs,H b=some (.tup vs)->H' b=some (.tup vs)
theorem aE.mo (a:aE F y ρ H y1 ρ1 H1):Mo y ρ H y1 ρ1 H1:=⟨a.y,λh=>a.mem h,a.tup⟩
theorem j4.mono (a:Mo y ρ H y1 ρ1 H1):∀av:AV,(∀v,(j4 F y ρ H av).1 v->(j4 F y1 ρ1 H1 av).1 v)/\∀vs,(j4 F y ρ H av).2 vs->(j4 F y1 ρ1 H1 av).2 vs
 | .non=>⟨λ_ h=>h,λ_ h=>h⟩
 | .bl _=>⟨λ_ h=>h,λ_ h=>h⟩
 | .int false _ _=>⟨λ_ h=>h,λ_ h=>h⟩
 | .int true _ _=>⟨λ_ ⟨x,z,h1,h2⟩=>⟨x,z,a.y x h1,h2⟩,λ_ h=>h⟩
 | .str _=>⟨λ_ h=>h,λ_ h=>h⟩
 | .ref n=>⟨λ_ ⟨c,h1,h2⟩=>⟨c,a.mem h1,h2⟩,λ_ h=>h⟩
 | .ext _=>⟨λ_ h=>h,λ_ h=>h⟩
 | .tn=>⟨λ_ ⟨c,h1,h2⟩=>⟨c,h1,a.tup _ _ h2⟩,λ_ h=>h⟩
 | .tc h t=>⟨λ_ ⟨c,w,ws,h1,h2,h3,h4⟩=>⟨c,w,ws,h1,a.tup _ _ h2,(j4.mono a h).1 _ h3,(j4.mono a t).2 _ h4⟩,λ_ ⟨w,r,h1,h2,h3⟩=>⟨w,r,h1,(j4.mono a h).1 _ h2,(j4.mono a t).2 _ h3⟩⟩
theorem aY.monoM (a:Mo y ρ H y1 ρ1 H1) {av:AV} {v:V} (h:aY F y ρ H av v):aY F y1 ρ1 H1 av v:=(j4.mono a av).1 v h
theorem aY.mono (a:aE F y ρ H y1 ρ1 H1) {av:AV} {v:V} (h:aY F y ρ H av v):aY F y1 ρ1 H1 av v:=aY.monoM a.mo h
theorem a6 {α β:Type} {R R':α->β->Prop} (h:∀a b,R a b->R' a b) {xs:List α} {ys:List β} (p:Paired R xs ys):Paired R' xs ys:=Paired.mapP p h
theorem aZ.mono (a:aE F y ρ H y1 ρ1 H1) {xs:List AV} (h:aZ F y ρ H xs vs):aZ F y1 ρ1 H1 xs vs:=a6 (λ_ _=>aY.mono a) h
theorem fH.mono (a:aE F y ρ H y1 ρ1 H1) {x:Option AV} {v:Option V} (h:fH F y ρ H x v):fH F y1 ρ1 H1 x v:=by
 cases x with
 | none=>trivial
 | some x=>cases v with
  | none=>exact h
  | some v=>exact aY.mono a (av:=x) h
theorem fT.mono (a:aE F y ρ H y1 ρ1 H1) {xs:List (Option AV)} {vs:St} (h:fT F y ρ H xs vs):fT F y1 ρ1 H1 xs vs:=a6 (λ_ _=>fH.mono a) h
def NE (F:Fx) (y:Option Int) (ρ:List Oo) (H:Hp) (av:AV):Option Oo->Prop
 | none=>av=.non
 | some dx=>∃v,H dx=some (.xd [("blocker",v)])/\aY F y ρ H av v
abbrev KE:=Nat->AV->aU->Bool
def l5 (g:Gx) (F:Fx) (y:Option Int) (ρ:List Oo) (H:Hp) (ke:KE):Prop :=
 ∀y' ρ' S' H' c av d,gx F y ρ H y' ρ' H'->aM g F y' ρ' S' H'->NE F y' ρ' H' av d->ke c av S'=true->g.E (.ref (g.xc c)) d H'
theorem l5.mono0 {ke:KE} (p:l5 g F y ρ H ke) (a:gx F y ρ H y1 ρ1 H1):l5 g F y1 ρ1 H1 ke:=λy' ρ' S' H' c av d b=>p y' ρ' S' H' c av d (a.trans b)
theorem l5.mono {ke:KE} (p:l5 g F y ρ H ke) (a:aE F y ρ H y1 ρ1 H1):l5 g F y1 ρ1 H1 ke:=p.mono0 a.to0
structure eg where
 v:List (Option AV)
 ke:KE
structure bL (g:Gx) (F:Fx) (y:Option Int) (ρ:List Oo) (H:Hp) (σa:eg) (σ:St):Prop where
 v:fT F y ρ H σa.v σ
 e:l5 g F y ρ H σa.ke
theorem bL.mono (a:aE F y ρ H y1 ρ1 H1) {xs:eg} {vs:St} (h:bL g F y ρ H xs vs):bL g F y1 ρ1 H1 xs vs:=⟨fT.mono a h.v,h.e.mono a⟩
theorem dE.monoM (a:Mo y ρ H y1 ρ1 H1):∀{o:AO} {ho:HO},dE F y ρ H g o ho->dE F y1 ρ1 H1 g o ho:=by
 intro o ho h
 cases o with
 | lst xs=>obtain⟨vs,e,h⟩:=h; exact⟨vs,e,a6 (λ_ _=>aY.monoM a) h⟩
 | dk kvs=>obtain⟨vs,e,h⟩:=h; exact⟨vs,e,a6 (λ_ _ q=>⟨q.1,aY.monoM a q.2⟩) h⟩
 | dt kvs=>obtain⟨vs,e,h⟩:=h; exact⟨vs,e,a6 (λ_ _ q=>⟨q.1,aY.monoM a q.2⟩) h⟩
 | ins c fs=>obtain⟨dx,vs,e,h⟩:=h; exact⟨dx,vs,e,a6 (λ_ _ q=>⟨q.1,aY.monoM a q.2⟩) h⟩
 | fz o=>obtain⟨ob,u,e,h⟩:=h; exact⟨ob,u,e,dE.monoM a h⟩
theorem dE.mono (a:aE F y ρ H y1 ρ1 H1) {o:AO} {ho:HO} (h:dE F y ρ H g o ho):dE F y1 ρ1 H1 g o ho:=dE.monoM a.mo h
def chain:List AV->AV
 | []=>.tn
 | x::r=>.tc x (chain r)
def xg:AV->Option (List AV)
 | .tn=>some []
 | .tc h t=>match xg t with
  | some r=>some (h::r)
  | none=>none
 | _=>none
theorem f9:∀{t:AV} {xs:List AV},xg t=some xs->t=chain xs
 | .tn,xs,h=>by cases h; rfl
 | .tc a t,xs,h=>by
  unfold xg at h
  cases e:xg t with
  | none=>rw [e] at h; cases h
  | some r=>rw [e] at h; cases h; rw [f9 e]; rfl
 | .non,_,h=>by cases h
 | .bl _,_,h=>by cases h
 | .int _ _ _,_,h=>by cases h
 | .str _,_,h=>by cases h
 | .ref _,_,h=>by cases h
 | .ext _,_,h=>by cases h
theorem pJ:∀{xs:List AV} {vs:List V},aZ F y ρ H xs vs->xf F y ρ H (chain xs) vs
 | _,_,.nil=>rfl
 | _,_,.cons r t=>⟨_,_,rfl,r,pJ t⟩
theorem no:∀{xs:List AV} {vs:List V},xf F y ρ H (chain xs) vs->aZ F y ρ H xs vs
 | [],_,h=>by cases h; exact .nil
 | x::r,_,⟨w,ws,e,h1,h2⟩=>by subst e; exact .cons h1 (no h2)
theorem aY.chain_of {xs:List AV} {v:V} (h:aY F y ρ H (chain xs) v):∃a vs,v=.ref a/\H a=some (.tup vs)/\aZ F y ρ H xs vs:=by
 cases xs with
 | nil=>obtain⟨a,e,h⟩:=h; exact⟨a,[],e,h,.nil⟩
 | cons x r=>obtain⟨a,w,ws,e,h,h1,h2⟩:=h; exact⟨a,w::ws,e,h,.cons h1 (no h2)⟩
theorem aY.chain {xs:List AV} {a:Oo} (h:H a=some (.tup vs)) (r:aZ F y ρ H xs vs):aY F y ρ H (RB.chain xs) (.ref a):=by
 cases r with
 | nil=>exact⟨a,rfl,h⟩
 | cons r t=>exact⟨a,_,_,rfl,h,r,pJ t⟩
theorem aM.live (C:aM g F y ρ S H) {a:Oo} (h:a∈ρ):∃ho,H a=some ho/\∀vs,ho≠.tup vs:=by
 obtain⟨i,e⟩:=SN h
 obtain⟨o,ho,_,h2,h3⟩:=C.at_ i a e
 refine⟨ho,h2,λvs z=>?_⟩
 subst z
 cases o with
 | lst _=>obtain⟨_,e,_⟩:=h3; cases e
 | dk _=>obtain⟨_,e,_⟩:=h3; cases e
 | dt _=>obtain⟨_,e,_⟩:=h3; cases e
 | ins _ _=>obtain⟨_,_,⟨_,e,_⟩,_⟩:=h3; cases e
 | fz _=>obtain⟨_,_,e,_⟩:=h3; cases e
theorem aM.notExt (C:aM g F y ρ S H) {a:Oo} {u:HO} (h:a∈ρ) (e:H a=some u) (w:F.own a∨∃φ,u=.ext φ):False:=by
 rcases w with w | ⟨φ,w⟩
 ·exact C.own a h w
 ·subst w
  obtain⟨i,e1⟩:=SN h
  obtain⟨o,ho,_,h2,h3⟩:=C.at_ i a e1
  rw [e] at h2
  cases h2
  cases o with
  | lst _=>obtain⟨_,e,_⟩:=h3; cases e
  | dk _=>obtain⟨_,e,_⟩:=h3; cases e
  | dt _=>obtain⟨_,e,_⟩:=h3; cases e
  | ins _ _=>obtain⟨_,_,⟨_,e,_⟩,_⟩:=h3; cases e
  | fz _=>obtain⟨_,_,e,_⟩:=h3; cases e
theorem aM.fresh (C:aM g F y ρ S H) {p:Oo} (h:H p=none):p ∉ ρ:=λm=>by
 obtain⟨ho,e,_⟩:=C.live m
 rw [h] at e; cases e
theorem aM.has (C:aM g F y ρ S H) {i:Nat} (hi:i < S.n):S.t.has i:=by
 rw [C.n] at hi
 obtain⟨o,_,e,_⟩:=C.at_ i ρ[i] (by simp [hi])
 exact Tr.has_of_get _ _ _ e
theorem aE.lay {p:Oo} {o:HO} (h:H p=none):aE F y ρ H y ρ (upd H p o):=by
 have ne:∀b u,H b=some u->b≠p:=λb u e z=>by subst z; rw [h] at e; cases e
 refine⟨λ_ h=>h,⟨[],by simp⟩,λ_ h=>.inl h,λb u e _ _=>?_,λb vs e=>?_,λb e=>?_,λb o u e=>?_⟩
 ·rw [ao (ne b u e)]; exact e
 ·rw [ao (ne b _ e)]; exact e
 ·by_cases z:b=p
  ·rw [z]; exact h
  ·rw [ao z] at e; exact e
 ·rw [ao (ne b _ e)]; exact e
theorem aM.step (C:aM g F y ρ S H) (a:aE F y ρ H y ρ H1) (k:∀b∈ρ,H1 b=H b) (j:F.J H1):aM g F y ρ S H1:=by
 refine⟨C.n,C.sym,C.pos,C.nd,λi c e=>?_,C.own,C.fe,λb w e=>C.ol b w (a.live b e),j,C.fl⟩
 obtain⟨o,ho,h1,h2,h3⟩:=C.at_ i c e
 exact⟨o,ho,h1,by rw [k c (OR e)]; exact h2,dE.mono a h3⟩
theorem aM.lay (C:aM g F y ρ S H) {p:Oo} {o:HO} (h:H p=none):aM g F y ρ S (upd H p o):=by
 refine C.step (aE.lay h) (λb hb=>ao λz=>C.fresh h (z▸hb)) (F.st _ _ C.J λb u _ e=>?_)
 have:b≠p:=λz=>by subst z; rw [h] at e; cases e
 rw [ao this]; exact e
def aU.add (S:aU) (o:AO):aU:=⟨S.n+1,S.sym,S.t.put S.n o⟩
theorem aE.add {p:Oo} {o:HO} (h:H p=none):aE F y ρ H y (ρ++[p]) (upd H p o):=by
 have a:aE F y ρ H y ρ (upd H p o):=aE.lay h
 refine⟨a.y,⟨[p],rfl⟩,λc hc=>?_,a.keep,a.tup,a.live,a.frz⟩
 rcases Pv.mp hc with h' | h'
 ·exact .inl h'
 ·rw [Qt.mp h']; exact .inr h
theorem aM.add (C:aM g F y ρ S H) {p:Oo} {o:AO} {ho:HO} (h:H p=none) (ob:dE F y (ρ++[p]) (upd H p ho) g o ho):aM g F y (ρ++[p]) (S.add o) (upd H p ho):=by
 have hp:=C.fresh h
 have st:aE F y ρ H y (ρ++[p]) (upd H p ho):=aE.add h
 have hfull:S.t.has S.n∨∀i,i < S.n->S.t.has i:=.inr λi hi=>C.has hi
 refine⟨by simp [aU.add,C.n],C.sym,C.pos,?_,λi c e=>?_,λc hc=>?_,C.fe,λb w e=>C.ol b w (st.live b e),F.st _ _ C.J λb u _ e=>?_,C.fl⟩
 ·rw [List.nodup_append]
  exact⟨C.nd,by simp,λa ha b hb e=>by rw [Qt.mp hb] at e; exact hp (e▸ha)⟩
 ·by_cases hi:i < ρ.length
  ·have e':ρ[i]?=some c:=by rw [PQ hi] at e; exact e
   obtain⟨o',ho',h1,h2,h3⟩:=C.at_ i c e'
   refine⟨o',ho',?_,?_,dE.mono st h3⟩
   ·show (S.t.put S.n o).get i=_
    rw [Tr.put_ne _ _ _ _ hfull (by rw [C.n]; omega)]; exact h1
   ·rw [ao λz=>hp (by rw [<-z]; exact OR e')]; exact h2
  ·have hi':i=ρ.length:=by
    have:=(Ow.mp e).1
    simp at this; omega
   subst hi'
   have:c=p:=by simpa using e.symm
   subst this
   refine⟨o,ho,?_,aF,ob⟩
   show (S.t.put S.n o).get ρ.length=_
   rw [<-C.n]
   exact Tr.put_same _ _ _ hfull
 ·rcases Pv.mp hc with h' | h'
  ·exact C.own c h'
  ·rw [Qt.mp h']; exact λw=>C.ol p w h
 ·have:b≠p:=λz=>by subst z; rw [h] at e; cases e
  rw [ao this]; exact e
def aU.set (S:aU) (i:Nat) (o:AO):aU:=⟨S.n,S.sym,S.t.put i o⟩
theorem aE.set (C:aM g F y ρ S H) {i:Nat} {a:Oo} {o ho:HO} (h:ρ[i]?=some a) (e0:H a=some ho) (nf:∀o u,ho≠.frz o u:=by intro _ _ z; cases z):aE F y ρ H y ρ (upd H a o):=by
 have m:=OR h
 obtain⟨ho',e0',nt⟩:=C.live m
 rw [e0] at e0'; cases e0'
 refine⟨λ_ h=>h,⟨[],by simp⟩,λ_ h=>.inl h,λb u e n _=>?_,λb vs e=>?_,λb e=>?_,λb o u e=>?_⟩
 ·rw [ao λz=>n (by rw [z]; exact m)]; exact e
 ·have:b≠a:=λz=>by
   subst z
   rw [e0] at e; cases e
   exact nt vs rfl
  rw [ao this]; exact e
 ·by_cases z:b=a
  ·subst z; rw [aF] at e; cases e
  ·rw [ao z] at e; exact e
 ·have:b≠a:=λz=>by
   subst z
   rw [e0] at e; cases e
   exact nf _ _ rfl
  rw [ao this]; exact e
theorem aM.set (C:aM g F y ρ S H) {i:Nat} {a:Oo} {o:AO} {ho ho1:HO} (h:ρ[i]?=some a) (e0:H a=some ho1) (nf:∀o u,ho1≠.frz o u:=by intro _ _ z; cases z) (ob:dE F y ρ (upd H a ho) g o ho):aM g F y ρ (S.set i o) (upd H a ho):=by
 have m:=OR h
 have st:aE F y ρ H y ρ (upd H a ho):=aE.set C h e0 nf
 have hi:i < S.n:=by rw [C.n]; exact (Ow.mp h).1
 have hfull:S.t.has i∨∀j,j < i->S.t.has j:=.inl (C.has hi)
 refine⟨C.n,C.sym,C.pos,C.nd,λj c e=>?_,C.own,C.fe,λb w e=>C.ol b w (st.live b e),F.st _ _ C.J λb u w e=>?_,C.fl⟩
 ·by_cases z:j=i
  ·subst z
   rw [h] at e; cases e
   exact⟨o,ho,Tr.put_same _ _ _ hfull,aF,ob⟩
  ·obtain⟨o',ho',h1,h2,h3⟩:=C.at_ j c e
   refine⟨o',ho',?_,?_,dE.mono st h3⟩
   ·show (S.t.put i o).get j=_
    rw [Tr.put_ne _ _ _ _ hfull z]; exact h1
   ·rw [ao]
    ·exact h2
    ·intro w
     subst w
     exact z (nj C.nd e h)
 ·rw [ao λz=>by subst z; exact C.notExt m e w]; exact e
theorem aE.thaw (st:aE F y ρ H y1 ρ1 H1) {a:Oo} {u:HO} (hm:a∈ρ) (ha:H a=some u) (nt:∀vs,u≠.tup vs) (nf:∀o w,u≠.frz o w):aE F y ρ H y1 ρ1 (upd H1 a u):=by
 refine⟨st.y,st.pre,st.new,λb o e n w=>?_,λb vs e=>?_,λb e=>?_,λb o w e=>?_⟩
 ·rw [ao λz=>n (by rw [z]; exact hm)]; exact st.keep b o e n w
 ·rw [ao λz=>by rw [z,ha] at e; exact nt vs (OU e)]; exact st.tup b vs e
 ·by_cases z:b=a
  ·subst z; rw [aF] at e; cases e
  ·rw [ao z] at e; exact st.live b e
 ·rw [ao λz=>by rw [z,ha] at e; exact nf o w (OU e)]; exact st.frz b o w e
theorem aM.thaw (C:aM g F y ρ S H) {n:Nat} {a:Oo} {ob:Obj} {u:HO} {o:AO} (h:ρ[n]?=some a) (e:H a=some (.frz ob u)) (q:S.t.get n=some (.fz o)):aM g F y ρ (S.set n o) (upd H a u):=by
 have m:=OR h
 have mo:Mo y ρ H y ρ (upd H a u):=⟨λ_ h=>h,λh=>h,λb vs q=>by rw [ao λz=>by rw [z,e] at q; cases q]; exact q⟩
 have hi:n < S.n:=by rw [C.n]; exact (Ow.mp h).1
 have hfull:S.t.has n∨∀j,j < n->S.t.has j:=.inl (C.has hi)
 refine⟨C.n,C.sym,C.pos,C.nd,λj c ec=>?_,C.own,C.fe,λb w ec=>?_,F.st _ _ C.J λb u w ec=>?_,C.fl⟩
 ·by_cases z:j=n
  ·subst z
   rw [h] at ec; cases ec
   obtain⟨o',ho',h1,h2,h3⟩:=C.at_ j a h
   rw [q] at h1; cases h1
   rw [e] at h2; cases h2
   obtain⟨ob1,u1,e1,h4⟩:=h3
   cases e1
   exact⟨o,u,Tr.put_same _ _ _ hfull,aF,dE.monoM mo h4⟩
  ·obtain⟨o',ho',h1,h2,h3⟩:=C.at_ j c ec
   refine⟨o',ho',?_,?_,dE.monoM mo h3⟩
   ·show (S.t.put n o).get j=_
    rw [Tr.put_ne _ _ _ _ hfull z]; exact h1
   ·rw [ao]
    ·exact h2
    ·intro w
     subst w
     exact z (nj C.nd ec h)
 ·by_cases z:b=a
  ·subst z; rw [aF] at ec; cases ec
  ·rw [ao z] at ec; exact C.ol b w ec
 ·rw [ao λz=>by subst z; exact C.notExt m ec w]; exact ec
def jd (g:Gx) (F:Fx) (y:Option Int) (ρ:List Oo) (H:Hp) (k:AV->aU->Bool) (Q:VK):Prop :=
 ∀y' ρ' S' H' av v,aE F y ρ H y' ρ' H'->aM g F y' ρ' S' H'->aY F y' ρ' H' av v->k av S'=true->Q v H'
def uy (g:Gx) (F:Fx) (y:Option Int) (ρ:List Oo) (H:Hp) (k:Bool->aU->Bool) (Q:Bool->Hp->Prop):Prop :=
 ∀y' ρ' S' H' b,aE F y ρ H y' ρ' H'->aM g F y' ρ' S' H'->k b S'=true->Q b H'
def LP (g:Gx) (F:Fx) (y:Option Int) (ρ:List Oo) (H:Hp) (k:List AV->aU->Bool) (Q:List V->Hp->Prop):Prop :=
 ∀y' ρ' S' H' av v,aE F y ρ H y' ρ' H'->aM g F y' ρ' S' H'->aZ F y' ρ' H' av v->k av S'=true->Q v H'
def l6 (g:Gx) (F:Fx) (y:Option Int) (ρ:List Oo) (H:Hp) (k:eg->aU->Bool) (Q:St->Hp->Prop):Prop :=
 ∀y' ρ' S' H' σa σ,aE F y ρ H y' ρ' H'->aM g F y' ρ' S' H'->bL g F y' ρ' H' σa σ->k σa S'=true->Q σ H'
theorem jd.mono {k:AV->aU->Bool} {Q:VK} (p:jd g F y ρ H k Q) (a:aE F y ρ H y1 ρ1 H1):jd g F y1 ρ1 H1 k Q:=λy' ρ' S' H' av v b=>p y' ρ' S' H' av v (a.trans b)
theorem uy.mono {k:Bool->aU->Bool} {Q:Bool->Hp->Prop} (p:uy g F y ρ H k Q) (a:aE F y ρ H y1 ρ1 H1):uy g F y1 ρ1 H1 k Q:=λy' ρ' S' H' av b=>p y' ρ' S' H' av (a.trans b)
theorem l6.mono {k:eg->aU->Bool} {Q:St->Hp->Prop} (p:l6 g F y ρ H k Q) (a:aE F y ρ H y1 ρ1 H1):l6 g F y1 ρ1 H1 k Q:=λy' ρ' S' H' av v b=>p y' ρ' S' H' av v (a.trans b)
end
abbrev BE:=eg->aU->(AV->aU->Bool)->Bool
abbrev BT:=eg->aU->(Bool->aU->Bool)->Bool
abbrev BA:=eg->aU->(List AV->aU->Bool)->Bool
structure Ds where
 nx:eg->aU->Bool
 rt:AV->aU->Bool
 bk:eg->aU->Bool
 ct:eg->aU->Bool
abbrev BS:=Ds->eg->aU->Bool
abbrev BG:=AV->eg->aU->(eg->aU->Bool)->Bool
section
variable (g:Gx)
def up (b:BE):TE:=λσ H Q=>∃F y ρ S σa k,aM g F y ρ S H/\bL g F y ρ H σa σ/\b σa S k=true/\jd g F y ρ H k Q
def f6 (b:BT):TT:=λσ H Q=>∃F y ρ S σa k,aM g F y ρ S H/\bL g F y ρ H σa σ/\b σa S k=true/\uy g F y ρ H k Q
def hV (b:BA):TA:=λσ H Q=>∃F y ρ S σa k,aM g F y ρ S H/\bL g F y ρ H σa σ/\b σa S k=true/\LP g F y ρ H k Q
def c9 (b:BS):TS:=λD σ H=>∃F y ρ S σa d,aM g F y ρ S H/\bL g F y ρ H σa σ/\b d σa S=true/\l6 g F y ρ H d.nx D.nx/\jd g F y ρ H d.rt D.rt/\l6 g F y ρ H d.bk D.bk/\l6 g F y ρ H d.ct D.ct
def LQ (sl:List Nat) (σ σ':St):Prop:=σ'.length=σ.length/\∀j,j ∉ sl->σ'[j]?=σ[j]?
def IK (g:Gx) (sl:List Nat) (σ:St) (F:Fx) (y:Option Int) (ρ:List Oo) (H:Hp) (k:eg->aU->Bool) (Q:St->Hp->Prop):Prop :=
 ∀y' ρ' S' H' σa σ',aE F y ρ H y' ρ' H'->aM g F y' ρ' S' H'->bL g F y' ρ' H' σa σ'->LQ sl σ σ'->k σa S'=true->Q σ' H'
def qG (sl:List Nat) (b:BG):TG:=λv σ H Q=>∃F y ρ S av σa k,aM g F y ρ S H/\aY F y ρ H av v/\bL g F y ρ H σa σ/\b av σa S k=true/\IK g sl σ F y ρ H k Q
end
abbrev BF:=List AV->aU->(AV->aU->Bool)->KE->Bool
def mY (gy:Gy) (n:Nat) (b:BF):Sp:=λvs H Q E=>∃F y ρ S avs k ke,aM ⟨gy,E⟩ F y ρ S H/\aZ F y ρ H avs vs/\vs.length=n/\b avs S k ke=true/\jd ⟨gy,E⟩ F y ρ H k Q/\l5 ⟨gy,E⟩ F y ρ H ke
theorem PE.imp {e:OP} {t t':TE} (h:∀σ H Q,t' σ H Q->t σ H Q) (p:PE X e t):PE X e t':=λpins s σ H Q I q=>p pins s σ H Q I (h _ _ _ q)
theorem PT.imp {e:OP} {t t':TT} (h:∀σ H Q,t' σ H Q->t σ H Q) (p:PT X e t):PT X e t':=λpins s σ H Q I q=>p pins s σ H Q I (h _ _ _ q)
theorem PW.imp {e:OP} {t t':TT} (h:∀σ H Q,t' σ H Q->t σ H Q) (p:PW X e t):PW X e t':=λwh pins s σ H Q I q=>p wh pins s σ H Q I (h _ _ _ q)
theorem PA.imp {e:List OP} {t t':TA} (h:∀σ H Q,t' σ H Q->t σ H Q) (p:PA X e t):PA X e t':=λpos pins s σ H Q I q=>p pos pins s σ H Q I (h _ _ _ q)
theorem PS.imp {e:Rf} {t t':TS} (h:∀D σ H,t' D σ H->t D σ H) (p:PS X e t):PS X e t':=λpins s σ H D I q=>p pins s σ H D I (h _ _ _ q)
theorem gN.imp {e:List Rf} {t t':TS} (h:∀D σ H,t' D σ H->t D σ H) (p:gN X e t):gN X e t':=λpins s σ H D I q=>p pins s σ H D I (h _ _ _ q)
theorem PG.imp {e:OP} {t t':TG} (h:∀v σ H Q,t' v σ H Q->t v σ H Q) (p:PG X e t):PG X e t':=λpins s σ H v u Q I r q=>p pins s σ H v u Q I r (h _ _ _ _ q)
def GZ (l:List (Option AV)):Nat->Option AV:=ZR (motive:=λ_=>Nat->Option AV) (λ_=>none) (λx _ ih n=>Va (motive:=λ_=>Option AV) x (λm _=>ih m) n) l
def LR (l:List (Option AV)):Nat->AV->List (Option AV):=ZR (motive:=λ_=>Nat->AV->List (Option AV)) (λ_ _=>[]) (λx r ih n v=>Va (motive:=λ_=>List (Option AV)) (some v::r) (λm _=>x::ih m v) n) l
def LS (σ:eg) (i:Nat):Option AV:=GZ σ.v i
def za (σ:eg) (i:Nat) (v:AV):eg:=⟨LR σ.v i v,σ.ke⟩
def ae (i:Nat):BE:=λσ S k=>match LS σ i with
 | some v=>k v S
 | none=>false
def bC (v:AV):BE:=λ_ S k=>k v S
def bS (f:AV->AV->aU->(AV->aU->Bool)->Bool) (a b:BE):BE:=λσ S k=>a σ S λx S1=>b σ S1 λy S2=>f x y S2 k
def bB (a:BE):BT:=λσ S k=>a σ S λx S1=>match x with
 | .bl c=>k c S1
 | _=>false
def Ej (a b:BT):BT:=λσ S k=>a σ S λc S1=>match c with
 | true=>b σ S1 k
 | false=>k false S1
def Gj (a b:BT):BT:=λσ S k=>a σ S λc S1=>match c with
 | true=>k true S1
 | false=>b σ S1 k
def qH (a:BT):BT:=λσ S k=>a σ S λc S1=>k (!c) S1
def xh (a b:BE):BE:=λσ S k=>a σ S λx S1=>match x with
 | .bl true=>b σ S1 k
 | .bl false=>k (.bl false) S1
 | _=>false
def J1 (a b:BE):BE:=λσ S k=>a σ S λx S1=>match x with
 | .bl true=>k (.bl true) S1
 | .bl false=>b σ S1 k
 | _=>false
def IL (a:BE):BE:=λσ S k=>a σ S λx S1=>match x with
 | .bl c=>k (.bl (!c)) S1
 | _=>false
def IM (t:BT) (a b:BE):BE:=λσ S k=>t σ S λc S1=>match c with
 | true=>a σ S1 k
 | false=>b σ S1 k
def am:BA:=λ_ S k=>k [] S
def ad (a:BE) (r:BA):BA:=λσ S k=>a σ S λx S1=>r σ S1 λxs S2=>k (x::xs) S2
def bW (a:BA):BE:=λσ S k=>a σ S λxs S1=>match Pg xs.length 1000 with
 | true=>k (chain xs) S1
 | false=>false
def nq (a:BA):BE:=λσ S k=>a σ S λxs S1=>match Pg xs.length 1000 with
 | true=>k (.ref S1.n) (S1.add (.lst xs))
 | false=>false
def aH (f:BF) (a:BA):BE:=λσ S k=>a σ S λxs S1=>f xs S1 k σ.ke
section
variable {g:Gx} {F:Fx} {S:aU}
theorem qI:∀{σa:List (Option AV)} {σ:St} {i:Nat} {av:AV},fT F y ρ H σa σ->GZ σa i=some av->∃v,σ[i]?=some (some v)/\aY F y ρ H av v
 | _,_,_,_,.nil,e=>by cases e
 | _,_,0,av,.cons (a:=x) (b:=v) r _,e=>by
  change x=some av at e
  subst e
  cases v with
  | none=>exact r.elim
  | some v=>exact⟨v,rfl,r⟩
 | _,_,i+1,av,.cons _ t,e=>by
  obtain⟨v,h1,h2⟩:=qI (i:=i) (av:=av) t e
  exact⟨v,by simpa using h1,h2⟩
theorem qJ:∀{σa:List (Option AV)} {σ:St} {i:Nat} {av:AV} {v:V},fT F y ρ H σa σ->aY F y ρ H av v->fT F y ρ H (LR σa i av) (σ.set i (some v))
 | _,_,_,_,_,.nil,_=>.nil
 | _,_,0,_,_,.cons _ t,r=>.cons r t
 | _,_,i+1,_,_,.cons q t,r=>.cons q (qJ (i:=i) t r)
theorem xi {σa:eg} {i:Nat} {av:AV} (h:bL g F y ρ H σa σ) (e:LS σa i=some av):∃v,σ[i]?=some (some v)/\aY F y ρ H av v:=qI h.v e
theorem dm {σa:eg} {i:Nat} {av:AV} {v:V} (h:bL g F y ρ H σa σ) (r:aY F y ρ H av v):bL g F y ρ H (za σa i av) (σ.set i (some v)):=⟨qJ h.v r,h.e⟩
theorem bD {a b:Nat} (h:Pg a b=true):a≤b:=Sq h
def jq (g:Gx) (r:R2) (f:AV->AV->aU->(AV->aU->Bool)->Bool):Prop :=
 ∀F y ρ S H x z ax az k Q,aM g F y ρ S H->aY F y ρ H ax x->aY F y ρ H az z->f ax az S k=true->jd g F y ρ H k Q->r x z H Q
def oY (g:Gx) (r:List V->Hp->VK->Prop) (f:List AV->aU->(AV->aU->Bool)->Bool):Prop :=
 ∀F y ρ S H xs axs k Q,aM g F y ρ S H->aZ F y ρ H axs xs->f axs S k=true->jd g F y ρ H k Q->r xs H Q
theorem aD {b:BE} {Q:VK} {σa:eg} {k:AV->aU->Bool} (C:aM g F y ρ S H) (r:bL g F y ρ H σa σ) (h:b σa S k=true)
  (n:∀y1 ρ1 S1 H1 av v,aE F y ρ H y1 ρ1 H1->aM g F y1 ρ1 S1 H1->bL g F y1 ρ1 H1 σa σ->aY F y1 ρ1 H1 av v->k av S1=true->Q v H1):up g b σ H Q :=
 ⟨F,y,ρ,S,σa,k,C,r,h,λy1 ρ1 S1 H1 av v st C1 r1 q=>n y1 ρ1 S1 H1 av v st C1 (bL.mono st r) r1 q⟩
theorem ft {b:BT} {Q:Bool->Hp->Prop} {σa:eg} {k:Bool->aU->Bool} (C:aM g F y ρ S H) (r:bL g F y ρ H σa σ) (h:b σa S k=true)
  (n:∀y1 ρ1 S1 H1 c,aE F y ρ H y1 ρ1 H1->aM g F y1 ρ1 S1 H1->bL g F y1 ρ1 H1 σa σ->k c S1=true->Q c H1):f6 g b σ H Q :=
 ⟨F,y,ρ,S,σa,k,C,r,h,λy1 ρ1 S1 H1 c st C1 q=>n y1 ρ1 S1 H1 c st C1 (bL.mono st r) q⟩
theorem bq {b:BA} {Q:List V->Hp->Prop} {σa:eg} {k:List AV->aU->Bool} (C:aM g F y ρ S H) (r:bL g F y ρ H σa σ) (h:b σa S k=true)
  (n:∀y1 ρ1 S1 H1 av v,aE F y ρ H y1 ρ1 H1->aM g F y1 ρ1 S1 H1->bL g F y1 ρ1 H1 σa σ->aZ F y1 ρ1 H1 av v->k av S1=true->Q v H1):hV g b σ H Q :=
 ⟨F,y,ρ,S,σa,k,C,r,h,λy1 ρ1 S1 H1 av v st C1 r1 q=>n y1 ρ1 S1 H1 av v st C1 (bL.mono st r) r1 q⟩
theorem jd.here {k:AV->aU->Bool} {Q:VK} (p:jd g F y ρ H k Q) (C:aM g F y ρ S H) {av:AV} {v:V} (r:aY F y ρ H av v) (h:k av S=true):Q v H:=p y ρ S H av v .refl C r h
theorem uy.here {k:Bool->aU->Bool} {Q:Bool->Hp->Prop} (p:uy g F y ρ H k Q) (C:aM g F y ρ S H) {b:Bool} (h:k b S=true):Q b H:=p y ρ S H b .refl C h
theorem l6.here {k:eg->aU->Bool} {Q:St->Hp->Prop} (p:l6 g F y ρ H k Q) (C:aM g F y ρ S H) {σa:eg} (r:bL g F y ρ H σa σ) (h:k σa S=true):Q σ H:=p y ρ S H σa σ .refl C r h
end
section
variable {g:Gx} {a b c e:OP} {ba bb:BE} {bt bu:BT} {br:BA} {es rest:List OP}
theorem J2 (i:Nat) {x:Str} (h:PE X (.Name x pos) (Dn i)):PE X (.Name x pos) (up g (ae i)):=by
 refine PE.imp (λσ H Q ⟨F,y,ρ,S,σa,k,C,r,h,p⟩=>?_) h
 unfold ae at h
 cases q:LS σa i with
 | none=>rw [q] at h; cases h
 | some av =>
  rw [q] at h
  obtain⟨v,h1,h2⟩:=xi r q
  exact⟨v,h1,p.here C h2 h⟩
theorem G0 {v:V} {av:AV} (h:PE X e (tC v)) (hr:∀F y ρ H,aY F y ρ H av v):PE X e (up g (bC av)) :=
 PE.imp (λσ H Q ⟨F,y,ρ,S,σa,k,C,r,h,p⟩=>p.here C (hr F y ρ H) h) h
theorem aA {i:Int} {j}:PE X (.Constant (.int i) j pos) (up g (bC (.int false i i))):=G0 cY λ_ _ _ _=>⟨i,rfl,Qy _,Qy _⟩
theorem kG {d:Bool} {j}:PE X (.Constant (.bool d) j pos) (up g (bC (.bl d))):=G0 Lg λ_ _ _ _=>rfl
theorem lg {j}:PE X (.Constant .none j pos) (up g (bC .non)):=G0 Do λ_ _ _ _=>rfl
theorem a8 (i:Nat) {x:Str} {j} (h:bh[i]?=some x:=by decide +kernel):PE X (.Constant (.str x) j pos) (up g (bC (.str i))):=G0 gO λ_ _ _ _=>⟨x,h,rfl⟩
theorem vy {r:R2} {f} (hf:jq g r f):∀σ H Q,up g (bS f ba bb) σ H Q->Jy r (up g ba) (up g bb) σ H Q:=λσ H Q ⟨F,y,ρ,S,σa,k,C,r,h,p⟩ =>
 aD C r h λy1 ρ1 S1 H1 ax x st C1 r1 rx h1=>aD C1 r1 h1 λy2 ρ2 S2 H2 az z st2 C2 r2 rz h2=>hf F y2 ρ2 S2 H2 x z ax az k Q C2 (aY.mono st2 rx) rz h2 (p.mono (st.trans st2))
theorem dn {op:W3} {r:R2} {f} (ho:lO X (RE op) r) (hf:jq g r f) (ha:PE X a (up g ba)) (hb:PE X b (up g bb)):PE X (.BinOp a op b pos) (up g (bS f ba bb)):=PE.imp (vy hf) (fo ho ha hb)
theorem jr {op:Wx} {r:R2} {f} (ho:lO X (P3 op) r) (hf:jq g r f) (ha:PE X a (up g ba)) (hb:PE X b (up g bb)) (hm:Pz op b=false):PE X (.Compare a [op] [b] pos) (up g (bS f ba bb)):=PE.imp (vy hf) (Gv ho ha hb hm)
theorem ga {t:TE} {d:BE} (h:∀σ H Q,up g d σ H Q->t σ H Q):∀σ H Q,f6 g (bB d) σ H Q->wO t σ H Q:=λσ H Q ⟨F,y,ρ,S,σa,k,C,r,q,p⟩ =>
 h σ H _ (aD C r q λy1 ρ1 S1 H1 ax x st C1 r1 rx h1=>by
  cases ax with
  | bl c =>
   have:x=.bl c:=rx
   subst this
   exact⟨c,rfl,p y1 ρ1 S1 H1 c st C1 h1⟩
  | _=>cases h1)
theorem bE {op:Wx} {r:R2} {f} (ho:lO X (P3 op) r) (hf:jq g r f) (ha:PE X a (up g ba)) (hb:PE X b (up g bb)) (hm:Pz op b=false):PT X (.Compare a [op] [b] pos) (f6 g (bB (bS f ba bb))):=PT.imp (ga (vy hf)) (vh ho ha hb hm)
theorem c4 (h:PE X e (up g ba)) (he:∀whole,We e X.env whole=(do let v <-whole; QL e.pos; Ra [v] (Ye v)):=by with_unfolding_all (intro _; rfl)):PT X e (f6 g (bB ba)) :=
 PT.imp (ga (t:=up g ba) λ_ _ _ h=>h) (show PT X e (wO (up g ba)) from Jl h he)
theorem G1:∀σ H Q,f6 g (Ej bt bu) σ H Q->Lh (f6 g bt) (f6 g bu) σ H Q:=λσ H Q ⟨F,y,ρ,S,σa,k,C,r,h,p⟩ =>
 ft C r h λy1 ρ1 S1 H1 c st C1 r1 h1=>by
  cases c with
  | true=>exact sB ⟨F,y1,ρ1,S1,σa,k,C1,r1,h1,p.mono st⟩
  | false=>exact sA (p y1 ρ1 S1 H1 false st C1 h1)
theorem J3:∀σ H Q,f6 g (Gj bt bu) σ H Q->NW (f6 g bt) (f6 g bu) σ H Q:=λσ H Q ⟨F,y,ρ,S,σa,k,C,r,h,p⟩ =>
 ft C r h λy1 ρ1 S1 H1 c st C1 r1 h1=>by
  cases c with
  | false=>exact sA ⟨F,y1,ρ1,S1,σa,k,C1,r1,h1,p.mono st⟩
  | true=>exact sB (p y1 ρ1 S1 H1 true st C1 h1)
theorem vz (ha:PT X a (f6 g bt)):PW X (.BoolOp .And [a] pos) (f6 g bt):=Gq ha
theorem lh (ha:PT X a (f6 g bt)):PW X (.BoolOp .Or [a] pos) (f6 g bt):=Jm ha
theorem zc (ha:PT X a (f6 g bt)) (hb:PW X (.BoolOp .And (b::rest) pos) (f6 g bu)):PW X (.BoolOp .And (a::b::rest) pos) (f6 g (Ej bt bu)):=PW.imp G1 (Jn ha hb)
theorem oo (ha:PT X a (f6 g bt)) (hb:PW X (.BoolOp .Or (b::rest) pos) (f6 g bu)):PW X (.BoolOp .Or (a::b::rest) pos) (f6 g (Gj bt bu)):=PW.imp J3 (Li ha hb)
theorem gS (ha:PT X a (f6 g bt)):PT X (.UnaryOp .Not a pos) (f6 g (qH bt)) :=
 PT.imp (λσ H Q ⟨F,y,ρ,S,σa,k,C,r,h,p⟩=>ft C r h λy1 ρ1 S1 H1 c st C1 r1 h1=>p y1 ρ1 S1 H1 (!c) st C1 h1) (Jo ha)
theorem li {op} (h:PE X a (up g ba)):PE X (.BoolOp op [a] pos) (up g ba):=Jp h
theorem vA (ha:PE X a (up g ba)) (hb:PE X (.BoolOp .And (b::rest) pos) (up g bb)):PE X (.BoolOp .And (a::b::rest) pos) (up g (xh ba bb)):=by
 refine PE.imp (λσ H Q ⟨F,y,ρ,S,σa,k,C,r,h,p⟩=>?_) (Jq ha hb)
 refine aD C r h λy1 ρ1 S1 H1 ax x st C1 r1 rx h1=>?_
 cases ax with
 | bl c =>
  have:x=.bl c:=rx
  subst this
  refine⟨c,rfl,?_⟩
  cases c with
  | true=>exact sB ⟨F,y1,ρ1,S1,σa,k,C1,r1,h1,p.mono st⟩
  | false=>exact sA (p y1 ρ1 S1 H1 (.bl false) _ st C1 rfl h1)
 | _=>cases h1
theorem IN (ha:PE X a (up g ba)) (hb:PE X (.BoolOp .Or (b::rest) pos) (up g bb)):PE X (.BoolOp .Or (a::b::rest) pos) (up g (J1 ba bb)):=by
 refine PE.imp (λσ H Q ⟨F,y,ρ,S,σa,k,C,r,h,p⟩=>?_) (Ll ha hb)
 refine aD C r h λy1 ρ1 S1 H1 ax x st C1 r1 rx h1=>?_
 cases ax with
 | bl c =>
  have:x=.bl c:=rx
  subst this
  refine⟨c,rfl,?_⟩
  cases c with
  | false=>exact sA ⟨F,y1,ρ1,S1,σa,k,C1,r1,h1,p.mono st⟩
  | true=>exact sB (p y1 ρ1 S1 H1 (.bl true) _ st C1 rfl h1)
 | _=>cases h1
theorem J4 (ha:PE X a (up g ba)):PE X (.UnaryOp .Not a pos) (up g (IL ba)):=by
 refine PE.imp (λσ H Q ⟨F,y,ρ,S,σa,k,C,r,h,p⟩=>?_) (Jr ha)
 refine aD C r h λy1 ρ1 S1 H1 ax x st C1 r1 rx h1=>?_
 cases ax with
 | bl c =>
  have:x=.bl c:=rx
  subst this
  exact⟨c,rfl,p y1 ρ1 S1 H1 (.bl (!c)) _ st C1 rfl h1⟩
 | _=>cases h1
theorem gb (hc:PT X c (f6 g bt)) (ha:PE X a (up g ba)) (hb:PE X b (up g bb)):PE X (.IfExp c a b pos) (up g (IM bt ba bb)):=by
 refine PE.imp (λσ H Q ⟨F,y,ρ,S,σa,k,C,r,h,p⟩=>?_) (pY hc ha hb)
 refine ft C r h λy1 ρ1 S1 H1 d st C1 r1 h1=>?_
 cases d with
 | true=>exact sB ⟨F,y1,ρ1,S1,σa,k,C1,r1,h1,p.mono st⟩
 | false=>exact sA ⟨F,y1,ρ1,S1,σa,k,C1,r1,h1,p.mono st⟩
theorem ag:PA X [] (hV g am):=PA.imp (λσ H Q ⟨F,y,ρ,S,σa,k,C,r,h,p⟩=>p y ρ S H [] [] .refl C .nil h) iA
theorem aa (ha:PE X e (up g ba)) (hr:PA X es (hV g br)) (hs:hE9 X e es:=by nofun):PA X (e::es) (hV g (ad ba br)) :=
 PA.imp (λσ H Q ⟨F,y,ρ,S,σa,k,C,r,h,p⟩=>aD C r h λy1 ρ1 S1 H1 ax x st C1 r1 rx h1=>bq C1 r1 h1 λy2 ρ2 S2 H2 az z st2 C2 r2 rz h2=>p y2 ρ2 S2 H2 (ax::az) (x::z) (st.trans st2) C2 (.cons (aY.mono st2 rx) rz) h2) (dW ha hr hs)
theorem aW {F:Fx} {xs:List AV} (h:aZ F y ρ H xs vs):xs.length=vs.length:=Pe h
theorem AE {n:Nat} (h:Pg n 1000=true):n≤OA:=PY (cF (bD h))
theorem aQ {x1} (h:PA X es (hV g br)):PE X (.Tuple es x1 pos) (up g (bW br)):=by
 refine PE.imp (λσ H Q ⟨F,y,ρ,S,σa,k,C,r,h,p⟩=>?_) (JE h)
 refine bq C r h λy1 ρ1 S1 H1 axs xs st C1 r1 rx h1=>?_
 cases q:Pg axs.length 1000 with
 | false=>simp only [q] at h1; cases h1
 | true =>
  simp only [q] at h1
  refine⟨by rw [<-aW rx]; exact AE q,λpl hp=>?_⟩
  have st2:aE F y1 ρ1 H1 y1 ρ1 (upd H1 pl (.tup xs)):=aE.lay hp
  exact p y1 ρ1 S1 _ (chain axs) _ (st.trans st2) (C1.lay hp) (aY.chain aF (aZ.mono st2 rx)) h1
theorem fM (h:PA X es (hV g br)):PE X (.List es pos) (up g (nq br)):=by
 refine PE.imp (λσ H Q ⟨F,y,ρ,S,σa,k,C,r,h,p⟩=>?_) (JF h)
 refine bq C r h λy1 ρ1 S1 H1 axs xs st C1 r1 rx h1=>?_
 cases q:Pg axs.length 1000 with
 | false=>simp only [q] at h1; cases h1
 | true =>
  simp only [q] at h1
  refine⟨by rw [<-aW rx]; exact AE q,λpl hp=>?_⟩
  have st2:aE F y1 ρ1 H1 y1 (ρ1++[pl]) (upd H1 pl (.lst xs)):=aE.add hp
  exact p y1 _ _ _ (.ref S1.n) _ (st.trans st2) (C1.add (o:=.lst axs) hp ⟨xs,rfl,aZ.mono st2 rx⟩) ⟨pl,by rw [C1.n]; simp,rfl⟩ h1
def bU (n:Nat) (f:BF):BF:=λxs S k ke=>match OL xs.length n with
 | true=>f xs S k ke
 | false=>false
theorem Ek {n:Nat} {f:BF}:∀σ H Q,up g (aH (bU n f) br) σ H Q->iV (mY g.toGy n f) [] g.E (hV g br) σ H Q:=λσ H Q ⟨F,y,ρ,S,σa,k,C,r,h,p⟩ =>
 bq C r h λy1 ρ1 S1 H1 axs xs st C1 r1 rx h1=>by
  unfold bU at h1
  cases q:OL axs.length n with
  | false=>simp only [q] at h1; cases h1
  | true =>
   simp only [q] at h1
   rw [QG]
   exact⟨F,y1,ρ1,S1,axs,k,σa.ke,C1,rx,by rw [<-aW rx]; exact OD q,h1,p.mono st,r1.e⟩
end
def bw:BS:=λd σ S=>d.nx σ S
def ar (a b:BS):BS:=λd σ S=>a { d with nx:=b d } σ S
def aN (a:BE):BS:=λd σ S=>a σ S λ_ S1=>d.nx σ S1
def bA (a:BE):BS:=λd σ S=>a σ S d.rt
def IO:BS:=λd _ S=>d.rt .non S
def ca (t:BT) (a b:BS):BS:=λd σ S=>t σ S λc S1=>match c with
 | true=>a d σ S1
 | false=>b d σ S1
def bO:BS:=λ_ _ _=>false
def ai (i:Nat):BG:=λv σ S k=>k (za σ i v) S
def aX (a:BE) (t:BG):BS:=λd σ S=>a σ S λx S1=>t x σ S1 d.nx
section
variable {g:Gx} {rest:List Rf} {a b:BS} {e c:OP} {be:BE} {bt:BT}
theorem a7:gN X [] (c9 g bw):=gN.imp (λD σ H ⟨F,y,ρ,S,σa,d,C,r,h,p,_⟩=>p.here C r h) Aa
theorem ah (h1:PS X st (c9 g a)) (h2:gN X rest (c9 g b)):gN X (st::rest) (c9 g (ar a b)) :=
 gN.imp (λD σ H ⟨F,y,ρ,S,σa,d,C,r,h,p,pr,pb,pc⟩=>⟨F,y,ρ,S,σa,_,C,r,h,λy1 ρ1 S1 H1 σ1 σ2 st1 C1 r1 h1=>⟨F,y1,ρ1,S1,σ1,d,C1,r1,h1,p.mono st1,pr.mono st1,pb.mono st1,pc.mono st1⟩,pr,pb,pc⟩) (dU h1 h2)
theorem aj (h1:PS X st (c9 g a)):gN X [st] (c9 g a):=pF h1
theorem au (he:PE X e (up g be)) (hs:PJ e none pos.line X.env=pure false:=by nofun):PS X (.Expr e pos) (c9 g (aN be)) :=
 PS.imp (λD σ H ⟨F,y,ρ,S,σa,d,C,r,h,p,_⟩=>aD C r h λy1 ρ1 S1 H1 ax x st C1 r1 rx h1=>p y1 ρ1 S1 H1 σa σ st C1 r1 h1) (Ab he hs)
theorem aK (he:PE X e (up g be)):PS X (.Return (some e) pos) (c9 g (bA be)) :=
 PS.imp (λD σ H ⟨F,y,ρ,S,σa,d,C,r,h,_,p,_⟩=>⟨F,y,ρ,S,σa,d.rt,C,r,h,p⟩) (vf he)
theorem G2:PS X (.Return none pos) (c9 g IO):=PS.imp (λD σ H ⟨F,y,ρ,S,σa,d,C,r,h,_,p,_⟩=>p.here C (av:=.non) rfl h) Gr
theorem bg {s1 s2:List Rf} (hc:PT X c (f6 g bt)) (ha:gN X s1 (c9 g a)) (hb:gN X s2 (c9 g b)):PS X (.If c s1 s2 pos) (c9 g (ca bt a b)):=by
 refine PS.imp (λD σ H ⟨F,y,ρ,S,σa,d,C,r,h,p,pr,pb,pc⟩=>?_) (Iq hc ha hb)
 refine ft C r h λy1 ρ1 S1 H1 c st C1 r1 h1=>?_
 cases c with
 | true=>exact sB ⟨F,y1,ρ1,S1,σa,d,C1,r1,h1,p.mono st,pr.mono st,pb.mono st,pc.mono st⟩
 | false=>exact sA ⟨F,y1,ρ1,S1,σa,d,C1,r1,h1,p.mono st,pr.mono st,pb.mono st,pc.mono st⟩
theorem a5:PS X st (c9 g bO):=PS.imp (λD σ H ⟨F,y,ρ,S,σa,d,C,r,h,_⟩=>by cases h) Dq
theorem G3 {x:Str} (i:Nat) (h:PG X (.Name x pos) (h8 i)):PG X (.Name x pos) (qG g [i] (ai i)) :=
 PG.imp (λv σ H Q ⟨F,y,ρ,S,av,σa,k,C,rv,r,h,p⟩=>p y ρ S H _ _ .refl C (dm r rv) ⟨WO ..,λj hj=>Q9 λe=>hj (by simp [e])⟩ h) h
theorem G4 {t:BG}:∀D σ H,c9 g (aX be t) D σ H->k6 (up g be) (qG g sl t) D σ H:=λD σ H ⟨F,y,ρ,S,σa,d,C,r,h,p,_⟩ =>
 aD C r h λy1 ρ1 S1 H1 ax x st C1 r1 rx h1=>⟨F,y1,ρ1,S1,ax,σa,d.nx,C1,rx,r1,h1,λy2 ρ2 S2 H2 σ2 σ3 st2 C2 r2 _ h2=>p y2 ρ2 S2 H2 σ2 σ3 (st.trans st2) C2 r2 h2⟩
theorem J5 {x:Str} {p:Pos} (i:Nat) (h:PS X (.Assign [.Name x p] e pos) (k6 (up g be) (h8 i))):PS X (.Assign [.Name x p] e pos) (c9 g (aX be (ai i))) :=
 PS.imp (λD σ H ⟨F,y,ρ,S,σa,d,C,r,h,p,_⟩=>aD C r h λy1 ρ1 S1 H1 ax x st C1 r1 rx h1=>p y1 ρ1 S1 H1 _ _ st C1 (dm r1 rx) h1) h
end
def dw:Int->Int->Bool
 | .ofNat m,.ofNat n=>Pg m n
 | .negSucc m,.negSucc n=>Pg n m
 | .negSucc _,.ofNat _=>true
 | .ofNat _,.negSucc _=>false
theorem bT {a b:Int}:dw a b=true ↔ a≤b:=by
  cases a with
  | ofNat m=>cases b with
    | ofNat n =>
      show Pg m n=true ↔ (m:Int)≤(n:Int)
      rw [Zr]; omega
    | negSucc n =>
      constructor
      · intro h; cases h
      · intro h; exfalso; have:(m:Int)≤WB n:=h; omega
  | negSucc m=>cases b with
    | ofNat n =>
      constructor
      · intro _; show WB m≤(n:Int); omega
      · intro _; rfl
    | negSucc n =>
      show Pg n m=true ↔ _
      rw [Zr]; omega
def El (a b:Int):Bool:=!dw b a
theorem vB {a b:Int}:El a b=true ↔ a < b:=by
 unfold El
 have:=bT (a:=b) (b:=a)
 cases h:dw b a
 ·rw [h] at this; simp at this ⊢; omega
 ·rw [h] at this; simp at this ⊢; omega
def Gk:Bool->Int->Int->Bool->Int->Int->Option Bool
 | false,lo,hi,false,lo',hi'=>match El hi lo' with
  | true=>some true
  | false=>match dw hi' lo with
   | true=>some false
   | false=>none
 | true,lo,hi,true,lo',hi'=>match El hi lo' with
  | true=>some true
  | false=>match dw hi' lo with
   | true=>some false
   | false=>none
 | true,lo,_,false,_,hi'=>match dw hi' (lo+1) with
  | true=>some false
  | false=>none
 | false,_,hi,true,lo',_=>match dw hi lo' with
  | true=>some true
  | false=>none
def K6:Bool->Int->Int->Bool->Int->Int->Option Bool
 | s,lo,hi,s',lo',hi'=>match s,s' with
  | false,true=>match dw hi lo' with
   | true=>some false
   | false=>none
  | true,false=>match dw hi' lo with
   | true=>some false
   | false=>none
  | _,_=>match El hi lo' with
   | true=>some false
   | false=>match El hi' lo with
    | true=>some false
    | false=>match dw hi lo' with
     | true=>match dw hi' lo with
      | true=>match dw hi lo with
       | true=>match dw hi' lo' with
        | true=>some true
        | false=>none
       | false=>none
      | false=>none
     | false=>none
def Bd (y:Option Int) (s:Bool) (lo hi z:Int):Prop:=match s with
 | false=>lo≤z/\z≤hi
 | true=>∃x,y=some x/\x+lo≤z/\z≤x+hi
theorem bf {F:Fx} {s:Bool} {lo hi:Int} {v:V}:aY F y ρ H (.int s lo hi) v ↔ ∃z,v=.int z/\Bd y s lo hi z:=by
 cases s with
 | false=>exact Iff.rfl
 | true=>exact⟨λ⟨x,z,h1,h2,h3⟩=>⟨z,h2,x,h1,h3⟩,λ⟨z,h2,x,h1,h3⟩=>⟨x,z,h1,h2,h3⟩⟩
theorem vC (hy:∀x,y=some x->1≤x) {s s':Bool} {lo hi lo' hi' z z':Int} {b:Bool} (h1:Bd y s lo hi z) (h2:Bd y s' lo' hi' z') (h:Gk s lo hi s' lo' hi'=some b):decide (z < z')=b:=by
 have close:∀{p q:Bool} {c d:Int},(El hi lo'=p)->(dw hi' lo=q)->c+lo≤z->z≤c+hi->c+lo'≤z'->z'≤c+hi' ->
   (match p with | true=>some true | false=>match q with | true=>some false | false=>none)=some b->decide (z < z')=b:=by
  intro p q c _ hp hq a1 a2 a3 a4 e
  cases p with
  | true =>
   cases e
   rw [vB] at hp
   exact decide_eq_true (by omega)
  | false=>cases q with
   | true =>
    cases e
    rw [bT] at hq
    exact decide_eq_false (by omega)
   | false=>cases e
 cases s<;>cases s'
 ·obtain⟨a1,a2⟩:=h1
  obtain⟨a3,a4⟩:=h2
  exact close (c:=0) (d:=0) rfl rfl (by omega) (by omega) (by omega) (by omega) h
 ·obtain⟨a1,a2⟩:=h1
  obtain⟨x,e,a3,a4⟩:=h2
  have:=hy x e
  cases q:dw hi lo' with
  | false=>simp only [Gk,q] at h; cases h
  | true=>simp only [Gk,q] at h; cases h; rw [bT] at q; exact decide_eq_true (by omega)
 ·obtain⟨x,e,a1,a2⟩:=h1
  obtain⟨a3,a4⟩:=h2
  have:=hy x e
  cases q:dw hi' (lo+1) with
  | false=>simp only [Gk,q] at h; cases h
  | true=>simp only [Gk,q] at h; cases h; rw [bT] at q; exact decide_eq_false (by omega)
 ·obtain⟨x,e,a1,a2⟩:=h1
  obtain⟨x',e',a3,a4⟩:=h2
  rw [e] at e'; cases e'
  exact close (c:=x) (d:=0) rfl rfl a1 a2 a3 a4 h
theorem Em (hy:∀x,y=some x->1≤x) {s s':Bool} {lo hi lo' hi' z z':Int} {b:Bool} (h1:Bd y s lo hi z) (h2:Bd y s' lo' hi' z') (h:K6 s lo hi s' lo' hi'=some b):decide (z=z')=b:=by
 have close:∀{c:Int},c+lo≤z->z≤c+hi->c+lo'≤z'->z'≤c+hi' ->
   (match El hi lo' with
   | true=>some false
   | false=>match El hi' lo with
    | true=>some false
    | false=>match dw hi lo' with
     | true=>match dw hi' lo with
      | true=>match dw hi lo with
       | true=>match dw hi' lo' with
        | true=>some true
        | false=>none
       | false=>none
      | false=>none
     | false=>none)=some b->decide (z=z')=b:=by
  intro c a1 a2 a3 a4 e
  cases p1:El hi lo' with
  | true=>simp only [p1] at e; cases e; rw [vB] at p1; exact decide_eq_false (by omega)
  | false =>
   simp only [p1] at e
   cases p2:El hi' lo with
   | true=>simp only [p2] at e; cases e; rw [vB] at p2; exact decide_eq_false (by omega)
   | false =>
    simp only [p2] at e
    cases p3:dw hi lo' with
    | false=>simp only [p3] at e; cases e
    | true =>
     simp only [p3] at e
     cases p4:dw hi' lo with
     | false=>simp only [p4] at e; cases e
     | true =>
      simp only [p4] at e
      cases p5:dw hi lo with
      | false=>simp only [p5] at e; cases e
      | true =>
       simp only [p5] at e
       cases p6:dw hi' lo' with
       | false=>simp only [p6] at e; cases e
       | true =>
        simp only [p6] at e
        cases e
        rw [bT] at p3 p4 p5 p6
        exact decide_eq_true (by omega)
 cases s<;>cases s'
 ·obtain⟨a1,a2⟩:=h1
  obtain⟨a3,a4⟩:=h2
  exact close (c:=0) (by omega) (by omega) (by omega) (by omega) h
 ·obtain⟨a1,a2⟩:=h1
  obtain⟨x,e,a3,a4⟩:=h2
  have:=hy x e
  cases q:dw hi lo' with
  | false=>simp only [K6,q] at h; cases h
  | true=>simp only [K6,q] at h; cases h; rw [bT] at q; exact decide_eq_false (by omega)
 ·obtain⟨x,e,a1,a2⟩:=h1
  obtain⟨a3,a4⟩:=h2
  have:=hy x e
  cases q:dw hi' lo with
  | false=>simp only [K6,q] at h; cases h
  | true=>simp only [K6,q] at h; cases h; rw [bT] at q; exact decide_eq_false (by omega)
 ·obtain⟨x,e,a1,a2⟩:=h1
  obtain⟨x',e',a3,a4⟩:=h2
  rw [e] at e'; cases e'
  exact close (c:=x) a1 a2 a3 a4 h
def kb (o:Option Bool) (S:aU) (k:AV->aU->Bool):Bool:=match o with
 | some b=>k (.bl b) S
 | none=>false
def oZ:AV->AV->aU->(AV->aU->Bool)->Bool:=λa b S k=>match a,b with
 | .int false lo hi,.int s lo' hi'=>k (.int s (lo+lo') (hi+hi')) S
 | .int true lo hi,.int false lo' hi'=>k (.int true (lo+lo') (hi+hi')) S
 | _,_=>false
def J6:AV->AV->aU->(AV->aU->Bool)->Bool:=λa b S k=>match a,b with
 | .int true lo hi,.int true lo' hi'=>k (.int false (lo - hi') (hi - lo')) S
 | .int s lo hi,.int false lo' hi'=>k (.int s (lo - hi') (hi - lo')) S
 | _,_=>false
def J7:AV->AV->aU->(AV->aU->Bool)->Bool:=λa b S k=>match a,b with
 | .int s lo hi,.int s' lo' hi'=>kb (Gk s lo hi s' lo' hi') S k
 | _,_=>false
def NF:AV->AV->aU->(AV->aU->Bool)->Bool:=λa b S k=>match a,b with
 | .int s lo hi,.int s' lo' hi'=>kb (Gk s' lo' hi' s lo hi) S k
 | _,_=>false
def J8:Option Bool->Option Bool
 | some b=>some (!b)
 | none=>none
def IP:AV->AV->Option Bool
 | .non,.non=>some true
 | .non,.int _ _ _=>some false
 | .int _ _ _,.non=>some false
 | .non,.bl _=>some false
 | .bl _,.non=>some false
 | .non,.str _=>some false
 | .str _,.non=>some false
 | .int s lo hi,.int s' lo' hi'=>K6 s lo hi s' lo' hi'
 | .bl a,.bl b=>some (a == b)
 | .str i,.str j=>some (OL i j)
 | .int _ _ _,.str _=>some false
 | .str _,.int _ _ _=>some false
 | .bl _,.str _=>some false
 | .str _,.bl _=>some false
 | _,_=>none
def yB:AV->AV->aU->(AV->aU->Bool)->Bool:=λa b S k=>kb (IP a b) S k
def IQ:AV->AV->aU->(AV->aU->Bool)->Bool:=λa b S k=>kb (J8 (IP a b)) S k
section
variable {g:Gx} {F:Fx} {S:aU}
theorem iD {o:Option Bool} {k:AV->aU->Bool} (h:kb o S k=true):∃b,o=some b/\k (.bl b) S=true:=by
 cases o with
 | none=>cases h
 | some b=>exact⟨b,rfl,h⟩
theorem uz {o:Option Bool} {b:Bool} (h:J8 o=some b):o=some (!b):=by
 cases o with
 | none=>cases h
 | some c=>cases h; simp
theorem fg:jq g (Ae λi j=>.int (i+j)) oZ:=by
 intro F y ρ S H x z ax az k Q C rx rz h p
 cases ax with
 | int s lo hi=>cases az with
  | int s' lo' hi' =>
   obtain⟨i,rfl,b1⟩:=bf.mp rx
   obtain⟨j,rfl,b2⟩:=bf.mp rz
   refine⟨i,j,rfl,rfl,?_⟩
   cases s with
   | false=>cases s' with
    | false=>exact p.here C (bf.mpr ⟨_,rfl,by obtain⟨a1,a2⟩:=b1; obtain⟨a3,a4⟩:=b2; exact⟨by omega,by omega⟩⟩) h
    | true=>exact p.here C (bf.mpr ⟨_,rfl,by obtain⟨a1,a2⟩:=b1; obtain⟨x,e,a3,a4⟩:=b2; exact⟨x,e,by omega,by omega⟩⟩) h
   | true=>cases s' with
    | false=>exact p.here C (bf.mpr ⟨_,rfl,by obtain⟨x,e,a1,a2⟩:=b1; obtain⟨a3,a4⟩:=b2; exact⟨x,e,by omega,by omega⟩⟩) h
    | true=>cases h
  | _=>cases s<;>cases h
 | _=>cases h
theorem AF:jq g (Ae λi j=>.int (i - j)) J6:=by
 intro F y ρ S H x z ax az k Q C rx rz h p
 cases ax with
 | int s lo hi=>cases az with
  | int s' lo' hi' =>
   obtain⟨i,rfl,b1⟩:=bf.mp rx
   obtain⟨j,rfl,b2⟩:=bf.mp rz
   refine⟨i,j,rfl,rfl,?_⟩
   cases s with
   | false=>cases s' with
    | false=>exact p.here C (bf.mpr ⟨_,rfl,by obtain⟨a1,a2⟩:=b1; obtain⟨a3,a4⟩:=b2; exact⟨by omega,by omega⟩⟩) h
    | true=>cases h
   | true=>cases s' with
    | false=>exact p.here C (bf.mpr ⟨_,rfl,by obtain⟨x,e,a1,a2⟩:=b1; obtain⟨a3,a4⟩:=b2; exact⟨x,e,by omega,by omega⟩⟩) h
    | true=>exact p.here C (bf.mpr ⟨_,rfl,by obtain⟨x,e,a1,a2⟩:=b1; obtain⟨x',e',a3,a4⟩:=b2; rw [e] at e'; cases e'; exact⟨by omega,by omega⟩⟩) h
  | _=>cases s<;>cases h
 | _=>cases h
theorem nu:jq g (Ae λi j=>.bl (decide (i < j))) J7:=by
 intro F y ρ S H x z ax az k Q C rx rz h p
 cases ax with
 | int s lo hi=>cases az with
  | int s' lo' hi' =>
   obtain⟨i,rfl,b1⟩:=bf.mp rx
   obtain⟨j,rfl,b2⟩:=bf.mp rz
   obtain⟨b,e,hk⟩:=iD h
   refine⟨i,j,rfl,rfl,?_⟩
   dsimp only
   rw [vC C.pos b1 b2 e]
   exact p.here C (av:=.bl b) rfl hk
  | _=>cases h
 | _=>cases h
theorem En:jq g (Ae λi j=>.bl (decide (j < i))) NF:=by
 intro F y ρ S H x z ax az k Q C rx rz h p
 cases ax with
 | int s lo hi=>cases az with
  | int s' lo' hi' =>
   obtain⟨i,rfl,b1⟩:=bf.mp rx
   obtain⟨j,rfl,b2⟩:=bf.mp rz
   obtain⟨b,e,hk⟩:=iD h
   refine⟨i,j,rfl,rfl,?_⟩
   dsimp only
   rw [vC C.pos b2 b1 e]
   exact p.here C (av:=.bl b) rfl hk
  | _=>cases h
 | _=>cases h
theorem zd (hy:∀x,y=some x->1≤x) {ax az:AV} {x z:V} {b:Bool} (rx:aY F y ρ H ax x) (rz:aY F y ρ H az z) (h:IP ax az=some b):DA x z=true/\decide (x=z)=b:=by
 cases ax with
 | non =>
  cases (show x=.non from rx)
  cases az with
  | non=>cases (show z=.non from rz); cases h; exact⟨rfl,rfl⟩
  | int s lo hi=>obtain⟨j,rfl,_⟩:=bf.mp rz; cases h; exact⟨rfl,rfl⟩
  | bl d=>cases (show z=.bl d from rz); cases h; exact⟨rfl,rfl⟩
  | str i=>obtain⟨w,_,rfl⟩:=rz; cases h; exact⟨rfl,rfl⟩
  | _=>cases h
 | int s lo hi =>
  obtain⟨i,rfl,b1⟩:=bf.mp rx
  cases az with
  | non=>cases (show z=.non from rz); cases h; exact⟨rfl,rfl⟩
  | int s' lo' hi' =>
   obtain⟨j,rfl,b2⟩:=bf.mp rz
   have:=Em hy b1 b2 h
   refine⟨rfl,?_⟩
   rw [<-this]
   by_cases q:i=j
   ·subst q; simp
   ·have:¬(V.int i=V.int j):=λe=>q (by injection e)
    simp [q]
  | str i=>obtain⟨w,_,rfl⟩:=rz; cases h; exact⟨rfl,rfl⟩
  | _=>cases h
 | bl c =>
  cases (show x=.bl c from rx)
  cases az with
  | non=>cases (show z=.non from rz); cases h; exact⟨rfl,rfl⟩
  | bl d =>
   cases (show z=.bl d from rz); cases h
   refine⟨rfl,?_⟩
   cases c<;>cases d<;>rfl
  | str i=>obtain⟨w,_,rfl⟩:=rz; cases h; exact⟨rfl,rfl⟩
  | _=>cases h
 | str i =>
  obtain⟨w,e1,rfl⟩:=rx
  cases az with
  | non=>cases (show z=.non from rz); cases h; exact⟨rfl,rfl⟩
  | int s lo hi=>obtain⟨j,rfl,_⟩:=bf.mp rz; cases h; exact⟨rfl,rfl⟩
  | bl d=>cases (show z=.bl d from rz); cases h; exact⟨rfl,rfl⟩
  | str j =>
   obtain⟨w',e2,rfl⟩:=rz
   cases h
   refine⟨rfl,?_⟩
   rw [gu]
   by_cases q:i=j
   ·subst q
    rw [e1] at e2; cases e2
    simp
   ·have:¬(V.str w=V.str w'):=λe=>q (by injection e with e; subst e; exact eR e1 e2)
    simp [q,this]
  | _=>cases h
 | _=>cases az<;>cases h
theorem dF:jq g N3 yB:=by
 intro F y ρ S H x z ax az k Q C rx rz h p
 obtain⟨b,e,hk⟩:=iD h
 obtain⟨h1,h2⟩:=zd C.pos rx rz e
 refine⟨h1,?_⟩
 rw [h2]
 exact p.here C (av:=.bl b) rfl hk
theorem lj:jq g N4 IQ:=by
 intro F y ρ S H x z ax az k Q C rx rz h p
 obtain⟨b,e,hk⟩:=iD h
 obtain⟨h1,h2⟩:=zd C.pos rx rz (uz e)
 refine⟨h1,?_⟩
 rw [h2,Yr]
 exact p.here C (av:=.bl b) rfl hk
end
section
variable {g:Gx} {F:Fx} {S:aU} {n:Nat} {v:V}
theorem aM.obj (C:aM g F y ρ S H) (r:aY F y ρ H (.ref n) v) {o:AO} (e:S.t.get n=some o):∃a ho,v=.ref a/\ρ[n]?=some a/\H a=some ho/\dE F y ρ H g o ho:=by
 obtain⟨a,ha,rfl⟩:=r
 obtain⟨o',ho,h1,h2,h3⟩:=C.at_ n a ha
 rw [e] at h1; cases h1
 exact⟨a,ho,rfl,ha,h2,h3⟩
theorem aM.lst (C:aM g F y ρ S H) (r:aY F y ρ H (.ref n) v) {xs:List AV} (e:S.t.get n=some (.lst xs)):∃a vs,v=.ref a/\ρ[n]?=some a/\H a=some (.lst vs)/\aZ F y ρ H xs vs:=by
 obtain⟨a,ho,h1,h2,h3,vs,rfl,h4⟩:=C.obj r e
 exact⟨a,vs,h1,h2,h3,h4⟩
theorem aM.dk (C:aM g F y ρ S H) (r:aY F y ρ H (.ref n) v) {xs:List (AV×AV)} (e:S.t.get n=some (.dk xs)):∃a ks,v=.ref a/\ρ[n]?=some a/\H a=some (.dK ks)/\Paired (λp q=>gR p.1 q.1/\aY F y ρ H p.2 q.2) xs ks:=by
 obtain⟨a,ho,h1,h2,h3,vs,rfl,h4⟩:=C.obj r e
 exact⟨a,vs,h1,h2,h3,h4⟩
theorem aM.dt (C:aM g F y ρ S H) (r:aY F y ρ H (.ref n) v) {xs:List (AV×AV)} (e:S.t.get n=some (.dt xs)):∃a ks,v=.ref a/\ρ[n]?=some a/\H a=some (.dT ks)/\Paired (λp q=>gw p.1 q.1/\aY F y ρ H p.2 q.2) xs ks:=by
 obtain⟨a,ho,h1,h2,h3,vs,rfl,h4⟩:=C.obj r e
 exact⟨a,vs,h1,h2,h3,h4⟩
theorem aM.ins (C:aM g F y ρ S H) (r:aY F y ρ H (.ref n) v) {c:Nat} {fs:List (Nat×AV)} (e:S.t.get n=some (.ins c fs)):∃a dx gs,v=.ref a/\ρ[n]?=some a/\c < 2/\H a=some (.ins (g.cl c) dx gs)/\Paired (λp q=>bh[p.1]?=some q.1/\aY F y ρ H p.2 q.2) fs gs/\∀p∈fs,p.1∈j0:=by
 obtain⟨a,ho,h1,h2,h3,dx,gs,⟨h5,rfl,h6⟩,h4⟩:=C.obj r e
 exact⟨a,dx,gs,h1,h2,h5,h3,h4,h6⟩
end
def NG:AV->Option Bool
 | .non=>some true
 | .ext _=>none
 | _=>some false
def js (a:BE):BE:=λσ S k=>a σ S λx S1=>kb (NG x) S1 k
def Eo (a:BE):BE:=λσ S k=>a σ S λx S1=>kb (J8 (NG x)) S1 k
theorem Ep {F:Fx} {ax:AV} {x:V} {b:Bool} (r:aY F y ρ H ax x) (h:NG ax=some b):decide (x=.non)=b:=by
 cases ax with
 | non=>cases h; cases (show x=.non from r); rfl
 | bl c=>cases h; cases (show x=.bl c from r); rfl
 | int s lo hi=>cases h; obtain⟨z,rfl,_⟩:=bf.mp r; rfl
 | str i=>cases h; obtain⟨w,_,rfl⟩:=r; rfl
 | ref n=>cases h; obtain⟨a,_,rfl⟩:=r; rfl
 | ext i=>cases h
 | tn=>cases h; obtain⟨a,rfl,_⟩:=r; rfl
 | tc p q=>cases h; obtain⟨a,_,_,rfl,_⟩:=r; rfl
section
variable {g:Gx} {a b e o:OP} {ba bb bc:BE} {br:BA}
theorem AG:∀σ H Q,up g (js ba) σ H Q->Go (up g ba) σ H Q:=λσ H Q ⟨F,y,ρ,S,σa,k,C,r,h,p⟩ =>
 aD C r h λy1 ρ1 S1 H1 ax x st C1 r1 rx h1=>by
  obtain⟨b,e,hk⟩:=iD h1
  rw [Ep rx e]
  exact p y1 ρ1 S1 H1 (.bl b) _ st C1 rfl hk
theorem Er:∀σ H Q,up g (Eo ba) σ H Q->Dp (up g ba) σ H Q:=λσ H Q ⟨F,y,ρ,S,σa,k,C,r,h,p⟩ =>
 aD C r h λy1 ρ1 S1 H1 ax x st C1 r1 rx h1=>by
  obtain⟨b,e,hk⟩:=iD h1
  rw [Ep rx (uz e),Yr]
  exact p y1 ρ1 S1 H1 (.bl b) _ st C1 rfl hk
theorem ze {n:OP} (h:PE X (.Compare a [.Is] [n] pos) (Go (up g ba))):PE X (.Compare a [.Is] [n] pos) (up g (js ba)):=PE.imp AG h
theorem ge {n:OP} (h:PT X (.Compare a [.Is] [n] pos) (tB (Go (up g ba)))):PT X (.Compare a [.Is] [n] pos) (f6 g (bB (js ba))):=PT.imp (ga AG) h
theorem G5 {n:OP} (h:PT X (.Compare a [.IsNot] [n] pos) (tB (Dp (up g ba)))):PT X (.Compare a [.IsNot] [n] pos) (f6 g (bB (Eo ba))):=PT.imp (ga Er) h
def xj (f:Nat):List (Nat×AV)->Option AV
 | []=>none
 | (i,v)::r=>match OL i f with
  | true=>some v
  | false=>xj f r
def aT (f:Nat) (a:BE):BE:=λσ S k=>a σ S λx S1=>match x with
 | .ref n=>match S1.t.get n with
  | some (.ins c fs)=>match xj f fs with
   | some v=>k v S1
   | none=>false
  | _=>false
 | _=>false
theorem xk {F:Fx} {y:Option Int} {ρ:List Oo} {H:Hp} {f:Nat} {x:Str} (hf:bh[f]?=some x):∀{fs:List (Nat×AV)} {gs:List (Str×V)} {av:AV},Paired (λp q=>bh[p.1]?=some q.1/\aY F y ρ H p.2 q.2) fs gs->xj f fs=some av->∃v,gs.lookup x=some v/\aY F y ρ H av v
 | _,_,_,.nil,h=>by cases h
 | _,_,av,.cons (a:=(i,w)) (b:=(z,v)) hd tl,h=>by
  unfold xj at h
  obtain⟨h1,h2⟩:=hd
  dsimp only at h1 h2 h
  rw [gu] at h
  by_cases q:i=f
  ·subst q
   simp at h
   subst h
   rw [hf] at h1; cases h1
   exact⟨v,by simp [Rb],h2⟩
  ·simp [q] at h
   obtain⟨v',e1,e2⟩:=xk hf tl h
   have:(x == z)=false:=by
    rw [beq_eq_false_iff_ne]
    intro e; subst e
    exact q (eR h1 hf)
   exact⟨v',by rw [Rb,this]; exact e1,e2⟩
theorem eS {f:Str} (i:Nat) (hi:bh[i]?=some f) (hc:∀c,c < 2->mX X.K (g.cl c)) (hn:∀c,c < 2->cq X.K (g.cl c) f) (he:PE X e (up g ba)) (hb:OW e f X.env (O2 e X.env)=O2 e X.env):PE X (.Attribute e f pos) (up g (aT i ba)):=by
 refine PE.imp (λσ H Q ⟨F,y,ρ,S,σa,k,C,r,h,p⟩=>?_) (JC he hb)
 refine aD C r h λy1 ρ1 S1 H1 ax x st C1 r1 rx h1=>?_
 cases ax with
 | ref n =>
  dsimp only at h1
  cases q:S1.t.get n with
  | none=>rw [q] at h1; cases h1
  | some ob =>
   rw [q] at h1
   cases ob with
   | ins c fs =>
    dsimp only at h1
    cases q2:xj i fs with
    | none=>rw [q2] at h1; cases h1
    | some av =>
     rw [q2] at h1
     obtain⟨a,dx,gs,rfl,_,hc2,ha,pr,_⟩:=C1.ins rx q
     obtain⟨v,e1,e2⟩:=xk hi pr q2
     exact⟨a,_,dx,gs,v,rfl,ha,hc c hc2,hn c hc2,e1,p y1 ρ1 S1 H1 av v st C1 e2 h1⟩
   | _=>cases h1
 | _=>cases h1
def oq (f:Nat) (v:AV):List (Nat×AV)->List (Nat×AV)
 | []=>[(f,v)]
 | (i,x)::r=>match OL i f with
  | true=>(i,v)::r
  | false=>(i,x)::oq f v r
theorem xl {F:Fx} {y:Option Int} {ρ:List Oo} {H:Hp} {f:Nat} {x:Str} {av:AV} {v:V} (hf:bh[f]?=some x) (rv:aY F y ρ H av v):∀{fs:List (Nat×AV)} {gs:List (Str×V)},Paired (λp q=>bh[p.1]?=some q.1/\aY F y ρ H p.2 q.2) fs gs->Paired (λp q=>bh[p.1]?=some q.1/\aY F y ρ H p.2 q.2) (oq f av fs) (iz x v gs)
 | _,_,.nil=>.cons ⟨hf,rv⟩ .nil
 | _,_,.cons (a:=(i,w)) (b:=(z,u)) hd tl=>by
  unfold oq iz
  obtain⟨h1,h2⟩:=hd
  dsimp only at h1 h2 ⊢
  rw [gu]
  by_cases q:i=f
  ·subst q
   rw [hf] at h1; cases h1
   simp
   exact .cons ⟨hf,rv⟩ tl
  ·have:¬z=x:=λe=>by subst e; exact q (eR h1 hf)
   simp [q,this]
   exact .cons ⟨h1,h2⟩ (xl hf rv tl)
def et (f:Nat) (a v:BE):BS:=λd σ S=>v σ S λw S1=>a σ S1 λx S2=>match x with
 | .ref n=>match S2.t.get n with
  | some (.ins c fs)=>match Pg fs.length 100 with
   | true=>d.nx σ (S2.set n (.ins c (oq f w fs)))
   | false=>false
  | _=>false
 | _=>false
theorem uA {f:Nat} {v:AV} (hf:f∈j0):∀{fs:List (Nat×AV)},(∀p∈fs,p.1∈j0)->∀p∈oq f v fs,p.1∈j0
 | [],_,p,hp=>by
  simp [oq] at hp
  subst hp; exact hf
 | (i,x)::r,h,p,hp=>by
  unfold oq at hp
  split at hp
  ·rcases ON.mp hp with e | e
   ·subst e; exact h (i,x) Oz
   ·exact h p (OF _ e)
  ·rcases ON.mp hp with e | e
   ·subst e; exact h (i,x) Oz
   ·exact uA hf (λq hq=>h q (OF _ hq)) p e
theorem c5 {f:Str} {pos':Pos} (i:Nat) (hi:bh[i]?=some f) (hif:i∈j0) (hc:∀c,c < 2->mX X.K (g.cl c)) (hn:∀c,c < 2->cq X.K (g.cl c) f) (ha:PE X o (up g ba)) (hv:PE X e (up g bb)) (hs:PJ e (some (.Attribute o f pos')) pos.line X.env=pure false) :
  PS X (.Assign [.Attribute o f pos'] e pos) (c9 g (et i ba bb)):=by
 refine PS.imp (λD σ H ⟨F,y,ρ,S,σa,d,C,r,h,p,_⟩=>?_) (JD ha hv hs)
 refine aD C r h λy1 ρ1 S1 H1 aw w st C1 r1 rw' h1=>aD C1 r1 h1 λy2 ρ2 S2 H2 ax x st2 C2 r2 rx h2=>?_
 cases ax with
 | ref n =>
  dsimp only at h2
  cases q:S2.t.get n with
  | none=>rw [q] at h2; cases h2
  | some ob =>
   rw [q] at h2
   cases ob with
   | ins c fs =>
    dsimp only at h2
    cases q2:Pg fs.length 100 with
    | false=>rw [q2] at h2; cases h2
    | true =>
     rw [q2] at h2
     obtain⟨a,dx,gs,rfl,hρ,hc2,ha,pr,hfl⟩:=C2.ins rx q
     have hl:=Pe pr
     have hl2:=bD q2
     have st3:aE F y2 ρ2 H2 y2 ρ2 (upd H2 a (.ins (g.cl c) dx (iz f w gs))):=aE.set C2 hρ ha
     refine⟨a,_,dx,gs,rfl,ha,hc c hc2,hn c hc2,by omega,?_⟩
     refine p y2 ρ2 _ _ σa σ ((st.trans st2).trans st3) (C2.set hρ ha (o:=.ins c (oq i aw fs)) (ob:=⟨dx,_,⟨hc2,rfl,uA hif hfl⟩,xl hi (aY.mono (st2.trans st3) rw') (a6 (λ_ _ z=>⟨z.1,aY.mono st3 z.2⟩) pr)⟩)) (bL.mono st3 r2) h2
   | _=>cases h2
 | _=>cases h2
end
def fU:AV->Bool
 | .int false lo hi=>dw lo hi && dw hi lo
 | .str _=>true
 | _=>false
def fN:AV->Bool
 | .tn=>true
 | .tc h t=>fU h && fN t
 | _=>false
def yC:AV->AV->Bool
 | .int _ lo _,.int _ lo' _=>dw lo lo' && dw lo' lo
 | .str i,.str j=>OL i j
 | .tn,.tn=>true
 | .tc a b,.tc c d=>yC a c && yC b d
 | _,_=>false
section
variable {F:Fx}
theorem dj {ax:AV} {x:V} (h:fU ax=true) (r:aY F y ρ H ax x):∃k,gR ax k/\x=kV k:=by
 cases ax with
 | int s lo hi=>cases s with
  | true=>cases h
  | false =>
   simp only [fU,OI,bT] at h
   obtain⟨z,rfl,h1,h2⟩:=r
   have e:z=lo:=by omega
   subst e
   exact⟨.inl z,⟨by omega,rfl⟩,rfl⟩
 | str i=>obtain⟨w,e,rfl⟩:=r; exact⟨.inr w,⟨w,e,rfl⟩,rfl⟩
 | _=>cases h
theorem xm:∀{ax:AV} {xs:List V},fN ax=true->xf F y ρ H ax xs->∃ks:List bv,gw ax ks/\xs=ks.map kV
 | .tn,_,_,r=>⟨[],rfl,r⟩
 | .tc a b,_,h,⟨w,ws,e,h1,h2⟩=>by
  simp only [fN,OI] at h
  obtain⟨k,hk,rfl⟩:=dj h.1 h1
  obtain⟨ks,hks,rfl⟩:=xm h.2 h2
  exact⟨k::ks,⟨k,ks,rfl,hk,hks⟩,e⟩
 | .non,_,h,_=>by cases h
 | .bl _,_,h,_=>by cases h
 | .int _ _ _,_,h,_=>by cases h
 | .str _,_,h,_=>by cases h
 | .ref _,_,h,_=>by cases h
 | .ext _,_,h,_=>by cases h
theorem vD {ax:AV} {x:V} (h:fN ax=true) (r:aY F y ρ H ax x):∃(ks:List bv) (b:Oo),gw ax ks/\x=.ref b/\H b=some (.tup (ks.map kV)):=by
 cases ax with
 | tn=>obtain⟨a,rfl,ha⟩:=r; exact⟨[],a,rfl,rfl,ha⟩
 | tc p q =>
  obtain⟨a,w,ws,rfl,ha,h1,h2⟩:=r
  obtain⟨ks,hks,e⟩:=xm (ax:=.tc p q) (xs:=w::ws) h ⟨w,ws,rfl,h1,h2⟩
  exact⟨ks,a,hks,rfl,by rw [ha,e]⟩
 | _=>cases h
theorem gz {a b:AV} {k l:bv} (h1:gR a k) (h2:gR b l):yC a b=decide (k=l):=by
 cases a with
 | int s lo hi=>cases s with
  | true=>exact h1.elim
  | false =>
   obtain⟨_,rfl⟩:=h1
   cases b with
   | int s' lo' hi'=>cases s' with
    | true=>exact h2.elim
    | false =>
     obtain⟨_,rfl⟩:=h2
     unfold yC
     by_cases q:lo=lo'
     ·subst q; simp [bT]
     ·have:¬(RW lo:bv)=RW lo':=λe=>q (by injection e)
      rw [decide_eq_false this]
      cases e:(dw lo lo' && dw lo' lo) with
      | false=>rfl
      | true=>simp only [OI,bT] at e; exact absurd (by omega) q
   | str j =>
    obtain⟨x,_,rfl⟩:=h2
    simp [yC]
   | _=>exact h2.elim
 | str i =>
  obtain⟨x,e1,rfl⟩:=h1
  cases b with
  | int s' lo' hi'=>cases s' with
   | true=>exact h2.elim
   | false =>
    obtain⟨_,rfl⟩:=h2
    simp [yC]
  | str j =>
   obtain⟨x',e2,rfl⟩:=h2
   unfold yC
   rw [gu]
   by_cases q:i=j
   ·subst q
    rw [e1] at e2; cases e2
    simp
   ·have:¬(Rz x:bv)=Rz x':=λe=>q (by injection e with e; subst e; exact eR e1 e2)
    simp [q,this]
  | _=>exact h2.elim
 | _=>exact h1.elim
theorem jt:∀{a b:AV} {k l:List bv},gw a k->gw b l->yC a b=decide (k=l)
 | .tn,.tn,_,_,h1,h2=>by cases h1; cases h2; simp [yC]
 | .tn,.tc c d,_,_,h1,⟨k,r,e,_⟩=>by cases h1; subst e; simp [yC]
 | .tc a b,.tn,_,_,⟨k,r,e,_⟩,h2=>by cases h2; subst e; simp [yC]
 | .tc a b,.tc c d,_,_,⟨k,r,e,h1,h2⟩,⟨k',r',e',h3,h4⟩=>by
  subst e e'
  unfold yC
  rw [gz h1 h3,jt h2 h4]
  by_cases q:k=k'<;>by_cases q2:r=r'<;>simp [q,q2]
 | .non,_,_,_,h,_=>h.elim
 | .bl _,_,_,_,h,_=>h.elim
 | .int _ _ _,_,_,_,h,_=>h.elim
 | .str _,_,_,_,h,_=>h.elim
 | .ref _,_,_,_,h,_=>h.elim
 | .ext _,_,_,_,h,_=>h.elim
 | .tn,.non,_,_,_,h=>h.elim
 | .tn,.bl _,_,_,_,h=>h.elim
 | .tn,.int _ _ _,_,_,_,h=>h.elim
 | .tn,.str _,_,_,_,h=>h.elim
 | .tn,.ref _,_,_,_,h=>h.elim
 | .tn,.ext _,_,_,_,h=>h.elim
 | .tc _ _,.non,_,_,_,h=>h.elim
 | .tc _ _,.bl _,_,_,_,h=>h.elim
 | .tc _ _,.int _ _ _,_,_,_,h=>h.elim
 | .tc _ _,.str _,_,_,_,h=>h.elim
 | .tc _ _,.ref _,_,_,_,h=>h.elim
 | .tc _ _,.ext _,_,_,_,h=>h.elim
end
def dX:List (AV×AV)->AV->Option AV
 | [],_=>none
 | (k,v)::r,x=>match yC k x with
  | true=>some v
  | false=>dX r x
def xn:List (AV×AV)->AV->AV->List (AV×AV)
 | [],_,_=>[]
 | (k,v)::r,x,w=>match yC k x with
  | true=>(k,w)::xn r x w
  | false=>(k,v)::xn r x w
def ou:List (AV×AV)->AV->List (AV×AV)
 | [],_=>[]
 | (k,v)::r,x=>match yC k x with
  | true=>ou r x
  | false=>(k,v)::ou r x
def sG (kvs:List (AV×AV)) (x w:AV):List (AV×AV):=match dX kvs x with
 | some _=>xn kvs x w
 | none=>kvs++[(x,w)]
section
variable {κ:Type} [DecidableEq κ] {KR:AV->κ->Prop} {R:AV->V->Prop} (hK:∀a b k l,KR a k->KR b l->yC a b=decide (k=l)) {ax:AV} {k:κ} (hx:KR ax k)
include hK hx
theorem ii:∀{kvs:List (AV×AV)} {ks:List (κ×V)},Paired (λp q=>KR p.1 q.1/\R p.2 q.2) kvs ks->(∀av,dX kvs ax=some av->∃v,c3 ks k=some v/\R av v)/\(dX kvs ax=none->c3 ks k=none)
 | _,_,.nil=>⟨λ_ h=>by (cases h),λ_=>rfl⟩
 | _,_,.cons (a:=(l,w)) (b:=(l',v)) hd tl=>by
  obtain⟨h1,h2⟩:=hd
  dsimp only at h1 h2
  unfold dX
  rw [hK l ax l' k h1 hx]
  by_cases q:l'=k
  ·subst q
   simp [c3,QI]
   exact h2
  ·have ih:=ii tl
   have e:∀r:List (κ×V),c3 ((l',v)::r) k=c3 r k:=λr=>lU q
   simp only [q,decide_false]
   rw [e]
   exact ih
theorem qK {w:AV} {v:V} (rw':R w v):∀{kvs:List (AV×AV)} {ks:List (κ×V)},Paired (λp q=>KR p.1 q.1/\R p.2 q.2) kvs ks->Paired (λp q=>KR p.1 q.1/\R p.2 q.2) (xn kvs ax w) (ks.map λkv=>if kv.1=k then (kv.1,v) else kv)
 | _,_,.nil=>.nil
 | _,_,.cons (a:=(l,u)) (b:=(l',u')) hd tl=>by
  obtain⟨h1,h2⟩:=hd
  dsimp only at h1 h2
  unfold xn
  rw [hK l ax l' k h1 hx,OV]
  by_cases q:l'=k
  ·simp only [q,decide_true,if_true]
   exact .cons ⟨by rw [<-q]; exact h1,rw'⟩ (qK rw' tl)
  ·simp only [q,decide_false,if_false]
   exact .cons ⟨h1,h2⟩ (qK rw' tl)
theorem l7:∀{kvs:List (AV×AV)} {ks:List (κ×V)},Paired (λp q=>KR p.1 q.1/\R p.2 q.2) kvs ks->Paired (λp q=>KR p.1 q.1/\R p.2 q.2) (ou kvs ax) (h9 ks k)
 | _,_,.nil=>.nil
 | _,_,.cons (a:=(l,u)) (b:=(l',u')) hd tl=>by
  obtain⟨h1,h2⟩:=hd
  dsimp only at h1 h2
  unfold ou h9
  rw [hK l ax l' k h1 hx,QO]
  by_cases q:l'=k
  ·simp only [q,decide_true,ne_eq,not_true,decide_false]
   exact l7 tl
  ·simp only [q,decide_false,ne_eq,not_false_eq_true,decide_true,if_true]
   exact .cons ⟨h1,h2⟩ (l7 tl)
theorem pK {w:AV} {v:V} (rw':R w v) {kvs:List (AV×AV)} {ks:List (κ×V)} (h:Paired (λp q=>KR p.1 q.1/\R p.2 q.2) kvs ks):Paired (λp q=>KR p.1 q.1/\R p.2 q.2) (sG kvs ax w) (cW ks k v):=by
 have q:=ii hK hx h
 have e:(ks.any λkv=>decide (kv.1=k))=(c3 ks k).isSome:=qi ..
 unfold sG cW
 rw [e]
 cases z:dX kvs ax with
 | none =>
  rw [q.2 z]
  simp only [Option.isSome_none,OT,if_false]
  exact WA h ⟨hx,rw'⟩
 | some av =>
  obtain⟨v',hv,_⟩:=q.1 av z
  rw [hv]
  simp only [VI,if_true]
  exact qK hK hx rw' h
end
def iW (S:aU) (x y:AV):Option (Option AV):=match x with
 | .ref n=>match S.t.get n with
  | some (.dk kvs)=>match fU y with
   | true=>some (dX kvs y)
   | false=>none
  | some (.dt kvs)=>match fN y with
   | true=>some (dX kvs y)
   | false=>none
  | some (.fz (.dk kvs))=>match fU y with
   | true=>some (dX kvs y)
   | false=>none
  | some (.fz (.dt kvs))=>match fN y with
   | true=>some (dX kvs y)
   | false=>none
  | _=>none
 | _=>none
def AH (S:aU) (x y v:AV):Option aU:=match x with
 | .ref n=>match S.t.get n with
  | some (.dk kvs)=>match fU y && Pg kvs.length 1000 with
   | true=>some (S.set n (.dk (sG kvs y v)))
   | false=>none
  | some (.dt kvs)=>match fN y && Pg kvs.length 1000 with
   | true=>some (S.set n (.dt (sG kvs y v)))
   | false=>none
  | _=>none
 | _=>none
section
variable {g:Gx} {F:Fx} {S:aU}
def NH (F:Fx) (y:Option Int) (ρ:List Oo) (H:Hp):Option AV->Option V->Prop
 | some a,o=>∃v,o=some v/\aY F y ρ H a v
 | none,o=>o=none
theorem AI {kvs:List (AV×AV)} {ks:List (bv×V)} {a:Oo} (hr:Rd H a (.dK ks)) (pr:Paired (λp q=>gR p.1 q.1/\aY F y ρ H p.2 q.2) kvs ks) {ak:AV} {k:V} (q2:fU ak=true) (rk:aY F y ρ H ak k):∃o,iB H a k o/\NH F y ρ H (dX kvs ak) o:=by
 obtain⟨kk,hk,rfl⟩:=dj q2 rk
 obtain⟨l1,l2⟩:=ii (KR:=gR) (R:=aY F y ρ H) (λ_ _ _ _ h1 h2=>gz h1 h2) hk pr
 refine⟨c3 ks kk,.inl ⟨ks,kk,hr,rfl,rfl⟩,?_⟩
 cases z:dX kvs ak with
 | none=>exact l2 z
 | some av=>exact l1 av z
theorem AJ {kvs:List (AV×AV)} {ks:List (List bv×V)} {a:Oo} (hr:Rd H a (.dT ks)) (pr:Paired (λp q=>gw p.1 q.1/\aY F y ρ H p.2 q.2) kvs ks) {ak:AV} {k:V} (q2:fN ak=true) (rk:aY F y ρ H ak k):∃o,iB H a k o/\NH F y ρ H (dX kvs ak) o:=by
 obtain⟨kk,b,hk,rfl,hb⟩:=vD q2 rk
 obtain⟨l1,l2⟩:=ii (KR:=gw) (R:=aY F y ρ H) (λ_ _ _ _ h1 h2=>jt h1 h2) hk pr
 refine⟨c3 ks kk,.inr ⟨ks,kk,b,hr,rfl,hb,rfl⟩,?_⟩
 cases z:dX kvs ak with
 | none=>exact l2 z
 | some av=>exact l1 av z
theorem ju (C:aM g F y ρ S H) {ax ak:AV} {x k:V} (rx:aY F y ρ H ax x) (rk:aY F y ρ H ak k) {r:Option AV} (h:iW S ax ak=some r):∃a o,x=.ref a/\iB H a k o/\NH F y ρ H r o:=by
 cases ax with
 | ref n =>
  unfold iW at h
  dsimp only at h
  cases q:S.t.get n with
  | none=>rw [q] at h; cases h
  | some ob =>
   rw [q] at h
   obtain⟨a,ho,rfl,_,ha,obr⟩:=C.obj rx q
   cases ob with
   | dk kvs =>
    dsimp only at h
    cases q2:fU ak with
    | false=>rw [q2] at h; cases h
    | true =>
     rw [q2] at h; cases h
     obtain⟨ks,rfl,pr⟩:=obr
     obtain⟨o,h1,h2⟩:=AI (.inl ha) pr q2 rk
     exact⟨a,o,rfl,h1,h2⟩
   | dt kvs =>
    dsimp only at h
    cases q2:fN ak with
    | false=>rw [q2] at h; cases h
    | true =>
     rw [q2] at h; cases h
     obtain⟨ks,rfl,pr⟩:=obr
     obtain⟨o,h1,h2⟩:=AJ (.inl ha) pr q2 rk
     exact⟨a,o,rfl,h1,h2⟩
   | fz ob2 =>
    obtain⟨o1,u,rfl,obr⟩:=obr
    cases ob2 with
    | dk kvs =>
     dsimp only at h
     cases q2:fU ak with
     | false=>rw [q2] at h; cases h
     | true =>
      rw [q2] at h; cases h
      obtain⟨ks,rfl,pr⟩:=obr
      obtain⟨o,h1,h2⟩:=AI (.inr ⟨_,ha⟩) pr q2 rk
      exact⟨a,o,rfl,h1,h2⟩
    | dt kvs =>
     dsimp only at h
     cases q2:fN ak with
     | false=>rw [q2] at h; cases h
     | true =>
      rw [q2] at h; cases h
      obtain⟨ks,rfl,pr⟩:=obr
      obtain⟨o,h1,h2⟩:=AJ (.inr ⟨_,ha⟩) pr q2 rk
      exact⟨a,o,rfl,h1,h2⟩
    | _=>cases h
   | _=>cases h
 | _=>cases h
theorem Es (C:aM g F y ρ S H) {ax ak aw:AV} {x k w:V} (rx:aY F y ρ H ax x) (rk:aY F y ρ H ak k) (rw':aY F y ρ H aw w) {S':aU} (h:AH S ax ak aw=some S') :
  ∃a H',x=.ref a/\sy H a k w H'/\aE F y ρ H y ρ H'/\aM g F y ρ S' H':=by
 cases ax with
 | ref n =>
  unfold AH at h
  dsimp only at h
  cases q:S.t.get n with
  | none=>rw [q] at h; cases h
  | some ob =>
   rw [q] at h
   cases ob with
   | dk kvs =>
    dsimp only at h
    cases q2:fU ak && Pg kvs.length 1000 with
    | false=>rw [q2] at h; cases h
    | true =>
     rw [q2] at h; cases h
     rw [OI] at q2
     obtain⟨a,ks,rfl,hρ,ha,pr⟩:=C.dk rx q
     obtain⟨kk,hk,rfl⟩:=dj q2.1 rk
     have hl:=Pe pr
     have st:aE F y ρ H y ρ (upd H a (.dK (cW ks kk w))):=aE.set C hρ ha
     refine⟨a,_,rfl,sy.k ha (by rw [<-hl]; exact cF (bD q2.2)),st,C.set hρ ha (o:=.dk (sG kvs ak aw)) (ob:=⟨_,rfl,?_⟩)⟩
     exact pK (KR:=gR) (R:=aY F y ρ _) (λ_ _ _ _ h1 h2=>gz h1 h2) hk (aY.mono st rw') (a6 (λ_ _ z=>⟨z.1,aY.mono st z.2⟩) pr)
   | dt kvs =>
    dsimp only at h
    cases q2:fN ak && Pg kvs.length 1000 with
    | false=>rw [q2] at h; cases h
    | true =>
     rw [q2] at h; cases h
     rw [OI] at q2
     obtain⟨a,ks,rfl,hρ,ha,pr⟩:=C.dt rx q
     obtain⟨kk,b,hk,rfl,hb⟩:=vD q2.1 rk
     have hl:=Pe pr
     have st:aE F y ρ H y ρ (upd H a (.dT (cW ks kk w))):=aE.set C hρ ha
     refine⟨a,_,rfl,sy.t ha hb (by rw [<-hl]; exact cF (bD q2.2)),st,C.set hρ ha (o:=.dt (sG kvs ak aw)) (ob:=⟨_,rfl,?_⟩)⟩
     exact pK (KR:=gw) (R:=aY F y ρ _) (λ_ _ _ _ h1 h2=>jt h1 h2) hk (aY.mono st rw') (a6 (λ_ _ z=>⟨z.1,aY.mono st z.2⟩) pr)
   | _=>cases h
 | _=>cases h
def nv (S:aU) (x:AV):Bool:=match x with
 | .ref n=>match S.t.get n with
  | some (.dk _)=>true
  | some (.dt _)=>true
  | _=>false
 | _=>false
theorem uB (C:aM g F y ρ S H) {ax:AV} {x:V} (rx:aY F y ρ H ax x) (h:nv S ax=true):∃a,x=.ref a/\MX H a:=by
 cases ax with
 | ref n =>
  unfold nv at h
  dsimp only at h
  cases q:S.t.get n with
  | none=>rw [q] at h; cases h
  | some ob =>
   rw [q] at h
   cases ob with
   | dk kvs =>
    obtain⟨a,ks,rfl,_,ha,pr⟩:=C.dk rx q
    exact⟨a,rfl,.inl ⟨ks,.inl ha⟩⟩
   | dt kvs =>
    obtain⟨a,ks,rfl,_,ha,pr⟩:=C.dt rx q
    exact⟨a,rfl,.inr ⟨ks,.inl ha⟩⟩
   | _=>cases h
 | _=>cases h
end
def bJ (a b:BE):BE:=λσ S k=>a σ S λx S1=>b σ S1 λz S2=>match iW S2 x z with
 | some (some v)=>k v S2
 | _=>false
def vE (b a:BE):BE:=λσ S k=>b σ S λz S1=>a σ S1 λx S2=>match iW S2 x z with
 | some (some _)=>k (.bl true) S2
 | some none=>k (.bl false) S2
 | none=>false
def pL (b a:BE):BE:=λσ S k=>b σ S λz S1=>a σ S1 λx S2=>match iW S2 x z with
 | some (some _)=>k (.bl false) S2
 | some none=>k (.bl true) S2
 | none=>false
def IR (a b:BE):BE:=λσ S k=>a σ S λx S1=>match nv S1 x with
 | true=>b σ S1 λz S2=>match iW S2 x z with
  | some (some v)=>k v S2
  | some none=>k .non S2
  | none=>false
 | false=>false
def Et (a b c:BE):BE:=λσ S k=>a σ S λx S1=>match nv S1 x with
 | true=>b σ S1 λz S2=>c σ S2 λw S3=>match iW S3 x z with
  | some (some v)=>k v S3
  | some none=>k w S3
  | none=>false
 | false=>false
def Eu (a b c:BE):BS:=λd σ S=>c σ S λv S1=>a σ S1 λx S2=>b σ S2 λz S3=>match AH S3 x z v with
 | some S4=>d.nx σ S4
 | none=>false
section
variable {g:Gx} {a b c e o i f value:OP} {ba bb bc:BE} {br:BA} {pos pos':Pos}
theorem aS (hu:X.A.units+1 < Qf) (ho:PE X o (up g ba)) (hi:PE X i (up g bb)) (hs:DN i):PE X (.Subscript o i pos) (up g (bJ ba bb)):=by
 refine PE.imp (λσ H Q ⟨F,y,ρ,S,σa,k,C,r,h,p⟩=>?_) (GI hu ho hi hs)
 refine aD C r h λy1 ρ1 S1 H1 ax x st C1 r1 rx h1=>aD C1 r1 h1 λy2 ρ2 S2 H2 az z st2 C2 r2 rz h2=>?_
 cases q:iW S2 ax az with
 | none=>simp only [q] at h2; cases h2
 | some o=>cases o with
  | none=>simp only [q] at h2; cases h2
  | some v =>
   simp only [q] at h2
   obtain⟨a,o,rfl,dg,w,rfl,rw'⟩:=ju C2 (aY.mono st2 rx) rz q
   exact⟨a,w,rfl,dg,p y2 ρ2 S2 H2 v w (st.trans st2) C2 rw' h2⟩
theorem AK:∀σ H Q,up g (vE bb ba) σ H Q->LE (up g bb) (up g ba) σ H Q:=λσ H Q ⟨F,y,ρ,S,σa,k,C,r,h,p⟩ =>
 aD C r h λy1 ρ1 S1 H1 az z st C1 r1 rz h1=>aD C1 r1 h1 λy2 ρ2 S2 H2 ax x st2 C2 r2 rx h2=>by
  cases q:iW S2 ax az with
  | none=>simp only [q] at h2; cases h2
  | some o =>
   obtain⟨a,ov,rfl,dg,w⟩:=ju C2 rx (aY.mono st2 rz) q
   refine⟨a,ov,rfl,dg,?_⟩
   cases o with
   | none =>
    simp only [q] at h2
    cases (show ov=none from w)
    exact p y2 ρ2 S2 H2 (.bl false) _ (st.trans st2) C2 rfl h2
   | some v =>
    simp only [q] at h2
    obtain⟨w,rfl,_⟩:=w
    exact p y2 ρ2 S2 H2 (.bl true) _ (st.trans st2) C2 rfl h2
theorem zf:∀σ H Q,up g (pL bb ba) σ H Q->As (up g bb) (up g ba) σ H Q:=λσ H Q ⟨F,y,ρ,S,σa,k,C,r,h,p⟩ =>
 aD C r h λy1 ρ1 S1 H1 az z st C1 r1 rz h1=>aD C1 r1 h1 λy2 ρ2 S2 H2 ax x st2 C2 r2 rx h2=>by
  cases q:iW S2 ax az with
  | none=>simp only [q] at h2; cases h2
  | some o =>
   obtain⟨a,ov,rfl,dg,w⟩:=ju C2 rx (aY.mono st2 rz) q
   refine⟨a,ov,rfl,dg,?_⟩
   cases o with
   | none =>
    simp only [q] at h2
    cases (show ov=none from w)
    exact p y2 ρ2 S2 H2 (.bl true) _ (st.trans st2) C2 rfl h2
   | some v =>
    simp only [q] at h2
    obtain⟨w,rfl,_⟩:=w
    exact p y2 ρ2 S2 H2 (.bl false) _ (st.trans st2) C2 rfl h2
theorem zg (hu:X.A.units+1 < Qf) (hi:PE X i (up g bb)) (ho:PE X o (up g ba)) (h1:Pz .In o=false):PE X (.Compare i [.In] [o] pos) (up g (vE bb ba)):=PE.imp AK (vd (DO hu hi ho) h1)
theorem zh (hu:X.A.units+1 < Qf) (hi:PE X i (up g bb)) (ho:PE X o (up g ba)) (h1:Pz .In o=false):PT X (.Compare i [.In] [o] pos) (f6 g (bB (vE bb ba))):=PT.imp (ga AK) (dS (DO hu hi ho) h1)
theorem uC (hu:X.A.units+1 < Qf) (hi:PE X i (up g bb)) (ho:PE X o (up g ba)) (h1:Pz .NotIn o=false):PT X (.Compare i [.NotIn] [o] pos) (f6 g (bB (pL bb ba))):=PT.imp (ga zf) (dS (BM hu hi ho) h1)
theorem G6 {apos cpos:Pos} (hu:X.A.units+1 < Qf) (ho:PE X o (up g ba)) (he:PE X e (up g bb)) (m:M1 X o "get" apos e cpos):PE X (.Call (.Attribute o "get" apos) [e] [] cpos) (up g (IR ba bb)):=by
 refine PE.imp (λσ H Q ⟨F,y,ρ,S,σa,k,C,r,h,p⟩=>?_) (DS hu ho he m)
 refine aD C r h λy1 ρ1 S1 H1 ax x st C1 r1 rx h1=>?_
 cases q0:nv S1 ax with
 | false=>simp only [q0] at h1; cases h1
 | true =>
  simp only [q0] at h1
  obtain⟨a,rfl,isd⟩:=uB C1 rx q0
  refine⟨a,rfl,isd,aD C1 r1 h1 λy2 ρ2 S2 H2 az z st2 C2 r2 rz h2=>?_⟩
  cases q:iW S2 ax az with
  | none=>simp only [q] at h2; cases h2
  | some o =>
   obtain⟨a',ov,e,dg,w⟩:=ju C2 (aY.mono st2 rx) rz q
   cases e
   refine⟨ov,dg,?_⟩
   cases o with
   | none =>
    simp only [q] at h2
    cases (show ov=none from w)
    exact p y2 ρ2 S2 H2 .non _ (st.trans st2) C2 rfl h2
   | some v =>
    simp only [q] at h2
    obtain⟨w,rfl,rw'⟩:=w
    exact p y2 ρ2 S2 H2 v _ (st.trans st2) C2 rw' h2
theorem AL {apos cpos:Pos} (hu:X.A.units+1 < Qf) (ho:PE X o (up g ba)) (he:PE X e (up g bb)) (hf:PE X f (up g bc)) (m:M2 X o "get" apos e f cpos):PE X (.Call (.Attribute o "get" apos) [e,f] [] cpos) (up g (Et ba bb bc)):=by
 refine PE.imp (λσ H Q ⟨F,y,ρ,S,σa,k,C,r,h,p⟩=>?_) (DT hu ho he hf m)
 refine aD C r h λy1 ρ1 S1 H1 ax x st C1 r1 rx h1=>?_
 cases q0:nv S1 ax with
 | false=>simp only [q0] at h1; cases h1
 | true =>
  simp only [q0] at h1
  obtain⟨a,rfl,isd⟩:=uB C1 rx q0
  refine⟨a,rfl,isd,aD C1 r1 h1 λy2 ρ2 S2 H2 az z st2 C2 r2 rz h2=>aD C2 r2 h2 λy3 ρ3 S3 H3 aw w st3 C3 r3 rw' h3=>?_⟩
  cases q:iW S3 ax az with
  | none=>simp only [q] at h3; cases h3
  | some o =>
   obtain⟨a',ov,e,dg,u⟩:=ju C3 (aY.mono (st2.trans st3) rx) (aY.mono st3 rz) q
   cases e
   refine⟨ov,dg,?_⟩
   cases o with
   | none =>
    simp only [q] at h3
    cases (show ov=none from u)
    exact p y3 ρ3 S3 H3 aw _ ((st.trans st2).trans st3) C3 rw' h3
   | some v =>
    simp only [q] at h3
    obtain⟨w,rfl,rw'⟩:=u
    exact p y3 ρ3 S3 H3 v _ ((st.trans st2).trans st3) C3 rw' h3
theorem AM (hu:X.A.units+1 < Qf) (ho:PE X o (up g ba)) (hi:PE X i (up g bb)) (hv:PE X value (up g bc)) (hs:PJ value (some (.Subscript o i pos')) pos.line X.env=pure false):PS X (.Assign [.Subscript o i pos'] value pos) (c9 g (Eu ba bb bc)):=by
 refine PS.imp (λD σ H ⟨F,y,ρ,S,σa,d,C,r,h,p,_⟩=>?_) (GJ hu ho hi hv hs)
 refine aD C r h λy1 ρ1 S1 H1 av v st C1 r1 rv h1=>aD C1 r1 h1 λy2 ρ2 S2 H2 ax x st2 C2 r2 rx h2=>aD C2 r2 h2 λy3 ρ3 S3 H3 az z st3 C3 r3 rz h3=>?_
 cases q:AH S3 ax az av with
 | none=>simp only [q] at h3; cases h3
 | some S4 =>
  simp only [q] at h3
  obtain⟨a,H',rfl,dp,st4,C4⟩:=Es C3 (aY.mono st3 rx) rz (aY.mono (st2.trans st3) rv) q
  exact⟨a,H',rfl,dp,p y3 ρ3 S4 H' σa σ (((st.trans st2).trans st3).trans st4) C4 (bL.mono st4 r3) h3⟩
def ll:BE:=λ_ S k=>k (.ref S.n) (S.add (.dk []))
def Ev:BE:=λ_ S k=>k (.ref S.n) (S.add (.dt []))
theorem ij:PE X (.Dict [] [] pos) (up g ll):=by
 refine PE.imp (λσ H Q ⟨F,y,ρ,S,σa,k,C,r,h,p⟩=>?_) wV
 intro pl hp
 exact p y _ _ _ (.ref S.n) _ (aE.add hp) (C.add (o:=.dk []) hp ⟨[],rfl,.nil⟩) ⟨pl,by rw [C.n]; simp,rfl⟩ h
theorem Ew:PE X (.Dict [] [] pos) (up g Ev):=by
 refine PE.imp (λσ H Q ⟨F,y,ρ,S,σa,k,C,r,h,p⟩=>?_) DQ
 intro pl hp
 exact p y _ _ _ (.ref S.n) _ (aE.add hp) (C.add (o:=.dt []) hp ⟨[],rfl,.nil⟩) ⟨pl,by rw [C.n]; simp,rfl⟩ h
def vF (S:aU):AV->Option (List AV)
 | .ref n=>match S.t.get n with
  | some (.lst xs)=>some xs
  | _=>none
 | .tn=>some []
 | .tc h t=>xg (.tc h t)
 | _=>none
theorem pM {F:Fx} {S:aU} (C:aM g F y ρ S H) {ax:AV} {x:V} (rx:aY F y ρ H ax x) {xs:List AV} (h:vF S ax=some xs):∃vs,gv H x=some vs/\aZ F y ρ H xs vs:=by
 have ch:∀{ax:AV},aY F y ρ H ax x->xg ax=some xs->∃vs,gv H x=some vs/\aZ F y ρ H xs vs:=λ{ax} rx h=>by
  rw [f9 h] at rx
  obtain⟨a,vs,rfl,ha,pr⟩:=rx.chain_of
  exact⟨vs,BY ha,pr⟩
 cases ax with
 | ref n =>
  unfold vF at h
  cases q:S.t.get n with
  | none=>simp only [q] at h; cases h
  | some ob =>
   simp only [q] at h
   cases ob with
   | lst ys =>
    cases h
    obtain⟨a,vs,rfl,_,ha,pr⟩:=C.lst rx q
    exact⟨vs,BX ha,pr⟩
   | _=>cases h
 | tn=>exact ch rx h
 | tc p q=>exact ch rx h
 | _=>cases h
def nw:AV->Option (List AV)
 | .tn=>some []
 | .tc h t=>xg (.tc h t)
 | _=>none
theorem ik:∀{ax:AV} {xs:List AV},nw ax=some xs->ax=chain xs
 | .tn,_,h=>by cases h; rfl
 | .tc _ _,_,h=>f9 h
 | .non,_,h=>by cases h
 | .bl _,_,h=>by cases h
 | .int _ _ _,_,h=>by cases h
 | .str _,_,h=>by cases h
 | .ref _,_,h=>by cases h
 | .ext _,_,h=>by cases h
theorem gA {F:Fx} {ax:AV} {x:V} (rx:aY F y ρ H ax x) {xs:List AV} (h:nw ax=some xs):∃a vs,x=.ref a/\H a=some (.tup vs)/\aZ F y ρ H xs vs:=by
 rw [ik h] at rx
 exact rx.chain_of
def MY (xs:List AV) (i:Int):Option AV:=match i with
 | .ofNat j=>xs[j]?
 | .negSucc j=>match Pg (j+1) xs.length with
  | true=>xs[xs.length - (j+1)]?
  | false=>none
theorem dY {F:Fx} {y:Option Int} {ρ:List Oo} {H:Hp}:∀{xs:List AV} {vs:List V} {i:Nat} {av:AV},aZ F y ρ H xs vs->xs[i]?=some av->∃v,vs[i]?=some v/\aY F y ρ H av v
 | _,_,_,_,.nil,e=>by simp at e
 | _,_,0,_,.cons r _,e=>by simp at e; subst e; exact⟨_,rfl,r⟩
 | _,_,i+1,av,.cons _ t,e=>by
  obtain⟨v,h1,h2⟩:=dY (i:=i) (av:=av) t (by simpa using e)
  exact⟨v,by simpa using h1,h2⟩
theorem J9 {F:Fx} {xs:List AV} {i:Int} {av:AV} (r:aZ F y ρ H xs vs) (h:MY xs i=some av):∃v,Gg vs i=some v/\aY F y ρ H av v:=by
 cases i with
 | ofNat j =>
  obtain⟨v,h1,h2⟩:=dY r h
  exact⟨v,Ao h1,h2⟩
 | negSucc j =>
  unfold MY at h
  dsimp only at h
  cases q:Pg (j+1) xs.length with
  | false=>rw [q] at h; cases h
  | true =>
   rw [q] at h
   have hl:=aW r
   have hq:=bD q
   obtain⟨v,h1,h2⟩:=dY r h
   refine⟨v,?_,h2⟩
   unfold Gg DJ
   rw [if_neg (by omega),if_pos (by omega)]
   show vs[(WB j+(vs.length:Int)).toNat]?=some v
   rw [<-h1,hl]
   congr 1
   omega
def fG:AV->AV->aU->(AV->aU->Bool)->Bool:=λa b S k=>match b with
 | .int false lo hi=>match dw lo hi && dw hi lo with
  | true=>match vF S a with
   | some xs=>match MY xs lo with
    | some v=>k v S
    | none=>false
   | none=>false
  | false=>false
 | _=>false
theorem Ka:jq g JW fG:=by
 intro F y ρ S H x z ax az k Q C rx rz h p
 cases az with
 | int s lo hi=>cases s with
  | true=>cases h
  | false =>
   unfold fG at h
   dsimp only at h
   cases q0:dw lo hi && dw hi lo with
   | false=>rw [q0] at h; cases h
   | true =>
    rw [q0] at h
    simp only [OI,bT] at q0
    obtain⟨i,rfl,h1,h2⟩:=rz
    have:i=lo:=by omega
    subst this
    dsimp only at h
    cases q:vF S ax with
    | none=>rw [q] at h; cases h
    | some xs =>
     rw [q] at h
     dsimp only at h
     cases q2:MY xs i with
     | none=>rw [q2] at h; cases h
     | some av =>
      rw [q2] at h
      obtain⟨vs,e,pr⟩:=pM C rx q
      obtain⟨v,e2,rv⟩:=J9 pr q2
      show on (gv H x) λxs=>on (Gg xs i) λv=>Q v H
      rw [e,bZ,e2,bZ]
      exact p.here C rv h
 | _=>cases h
theorem bi (ha:PE X a (up g ba)) (hb:PE X b (up g bb)) (hs:Ap b):PE X (.Subscript a b pos) (up g (bS fG ba bb)):=PE.imp (vy Ka) (IB NC ha hb hs)
def j5 (f:List AV->aU->(AV->aU->Bool)->Bool) (r:BA):BE:=λσ S k=>r σ S λxs S1=>f xs S1 k
theorem Ex {r:List V->Hp->VK->Prop} {f} (hf:oY g r f):∀σ H Q,up g (j5 f br) σ H Q->K3 r (hV g br) σ H Q:=λσ H Q ⟨F,y,ρ,S,σa,k,C,r,h,p⟩ =>
 bq C r h λy1 ρ1 S1 H1 ax x st C1 r1 rx h1=>hf F y1 ρ1 S1 H1 x ax k Q C1 rx h1 (p.mono st)
theorem cb {x:Str} {p:Pos} {id:String} {r:List V->Hp->VK->Prop} {f} (hc:dI X (.builtin id) r) (hf:oY g r f) (hg:Gl X x) (hm:X.mg x=none) (hv:Pb x=some (.builtin id)) (ha:PA X (e::es) (hV g br)) (hn:x ≠ "__name__":=by decide) (hdb:(x == ("__debug__":Str))=false:=by decide)
  (he:hE9 X e es:=by nofun) (hpl:hP9 X pos es:=by nofun):PE X (.Call (.Name x p) (e::es) [] pos) (up g (j5 f br)):=PE.imp (Ex hf) (lQ hc hg hm hv ha hn hdb he hpl)
theorem b9 {x:Str} {p:Pos} {T:String} {r:List V->Hp->VK->Prop} {f} (hc:dI X (.type T) r) (hf:oY g r f) (hg:Gl X x) (hm:X.mg x=none) (hv:Pb x=some (.type T)) (ha:PA X (e::es) (hV g br)) (hn:x ≠ "__name__":=by decide) (hdb:(x == ("__debug__":Str))=false:=by decide)
  (he:hE9 X e es:=by nofun) (hpl:hP9 X pos es:=by nofun):PE X (.Call (.Name x p) (e::es) [] pos) (up g (j5 f br)):=PE.imp (Ex hf) (uo hc hg hm hv ha hn hdb he hpl)
def vG:List AV->aU->(AV->aU->Bool)->Bool:=λxs S k=>match xs with
 | [x]=>match vF S x with
  | some ys=>k (.int false (.ofNat ys.length) (.ofNat ys.length)) S
  | none=>false
 | _=>false
theorem iE:oY g Ax vG:=by
 intro F y ρ S H xs axs k Q C rx h p
 cases rx with
 | nil=>cases h
 | cons r t=>cases t with
  | cons _ _=>cases h
  | nil =>
   unfold vG at h
   dsimp only at h
   split at h
   ·rename_i ys q
    obtain⟨vs,e,pr⟩:=pM C r q
    unfold Ax
    dsimp only
    rw [e,bZ]
    have:=aW pr
    exact p.here C (av:=.int false _ _) ⟨_,rfl,by rw [<-this]; exact Qy _,by rw [<-this]; exact Qy _⟩ h
   ·cases h
def eT:List AV->aU->(AV->aU->Bool)->Bool:=λxs S k=>match xs with
 | [x]=>match vF S x with
  | some ys=>k (chain ys) S
  | none=>false
 | _=>false
theorem zi {S:aU} {F:Fx} {x:V} (C:aM g F y ρ S H):∀{ax:AV} {xs:List AV} {vs:List V},aY F y ρ H ax x->vF S ax=some xs->ic H x=some vs->ax=chain xs
 | .ref n,xs,vs,r,h,t=>by
  unfold vF at h
  cases q:S.t.get n with
  | none=>simp only [q] at h; cases h
  | some ob =>
   simp only [q] at h
   cases ob with
   | lst ys =>
    obtain⟨a,ws,rfl,_,ha,pr⟩:=C.lst r q
    simp [ic,ha] at t
   | _=>cases h
 | .tn,_,_,_,h,_=>by cases h; rfl
 | .tc _ _,_,_,_,h,_=>f9 h
 | .non,_,_,_,h,_=>by cases h
 | .bl _,_,_,_,h,_=>by cases h
 | .int _ _ _,_,_,_,h,_=>by cases h
 | .str _,_,_,_,h,_=>by cases h
 | .ext _,_,_,_,h,_=>by cases h
theorem cH:oY g pH eT:=by
 intro F y ρ S H xs axs k Q C rx h p
 cases rx with
 | nil=>cases h
 | cons r t=>cases t with
  | cons _ _=>cases h
  | nil =>
   unfold eT at h
   dsimp only at h
   split at h
   ·rename_i ys q
    obtain⟨vs,e,pr⟩:=pM C r q
    unfold pH
    dsimp only
    rw [e,bZ]
    refine⟨λl hl=>?_,λht=>?_⟩
    ·have st:aE F y ρ H y ρ (upd H l (.tup vs)):=aE.lay hl
     exact p y ρ S _ (chain ys) _ st (C.lay hl) (aY.chain aF (aZ.mono st pr)) h
    ·rw [zi C r q ht] at r
     exact p.here C r h
   ·cases h
def iX:AV->AV->aU->(AV->aU->Bool)->Bool:=λa b S k=>match nw a with
 | some xs=>match nw b with
  | some ys=>match Pg (xs.length+ys.length) 1000 with
   | true=>k (chain (xs++ys)) S
   | false=>false
  | none=>false
 | none=>false
theorem dZ {F:Fx} {y:Option Int} {ρ:List Oo} {H:Hp}:∀{xs ys:List AV} {vs ws:List V},aZ F y ρ H xs vs->aZ F y ρ H ys ws->aZ F y ρ H (xs++ys) (vs++ws)
 | _,_,_,_,.nil,s=>s
 | _,_,_,_,.cons r t,s=>.cons r (dZ t s)
theorem dq:jq g yU iX:=by
 intro F y ρ S H x z ax az k Q C rx rz h p
 unfold iX at h
 split at h
 ·rename_i xs q
  split at h
  ·rename_i ys q2
   split at h
   ·rename_i q3
    obtain⟨a,vs,rfl,ha,pr⟩:=gA rx q
    obtain⟨b,ws,rfl,hb,pr2⟩:=gA rz q2
    have l1:=aW pr
    have l2:=aW pr2
    have l3:=bD q3
    unfold yU
    rw [ie ha,bZ,ie hb,bZ]
    refine⟨PY (cF (by omega)),λe=>?_,λe=>?_,λpl hp=>?_⟩
    ·subst e
     cases pr
     have e:=ik q2
     subst e
     exact p.here C rz h
    ·subst e
     cases pr2
     have e:=ik q
     rw [QG] at h
     subst e
     exact p.here C rx h
    ·have st:aE F y ρ H y ρ (upd H pl (.tup (vs++ws))):=aE.lay hp
     exact p y ρ S _ _ _ st (C.lay hp) (aY.chain aF (aZ.mono st (dZ pr pr2))) h
   ·cases h
  ·cases h
 ·cases h
def l8 (S:aU):AV->Option (List AV)
 | .ref n=>match S.t.get n with
  | some (.lst xs)=>some xs
  | _=>none
 | _=>none
theorem fh {F:Fx} {S:aU} (C:aM g F y ρ S H) {ax:AV} {x:V} (rx:aY F y ρ H ax x) {xs:List AV} (h:l8 S ax=some xs):∃n a vs,ax=.ref n/\x=.ref a/\ρ[n]?=some a/\H a=some (.lst vs)/\aZ F y ρ H xs vs:=by
 cases ax with
 | ref n =>
  unfold l8 at h
  cases q:S.t.get n with
  | none=>simp only [q] at h; cases h
  | some ob =>
   simp only [q] at h
   cases ob with
   | lst ys =>
    cases h
    obtain⟨a,vs,rfl,h2,ha,pr⟩:=C.lst rx q
    exact⟨n,a,vs,rfl,rfl,h2,ha,pr⟩
   | _=>cases h
 | _=>cases h
end
section
variable {g:Gx} {a b c e o:OP} {ba bb bc:BE} {bt:BT} {br:BA}
def sH (a b:Int):Int:=match dw a b with
 | true=>b
 | false=>a
def B3 (a b:Int):Int:=match dw a b with
 | true=>a
 | false=>b
theorem pN (a b:Int):sH a b=max a b:=by
 unfold sH
 cases h:dw a b with
 | true=>rw [bT] at h; show b=_; omega
 | false =>
  have:¬a≤b:=λq=>by rw [bT.mpr q] at h; cases h
  show a=_; omega
theorem pO (a b:Int):B3 a b=min a b:=by
 unfold B3
 cases h:dw a b with
 | true=>rw [bT] at h; show a=_; omega
 | false =>
  have:¬a≤b:=λq=>by rw [bT.mpr q] at h; cases h
  show b=_; omega
def Od:List AV->aU->(AV->aU->Bool)->Bool:=λxs S k=>match xs with
 | [.int false lo hi,.int false lo' hi']=>k (.int false (sH lo lo') (sH hi hi')) S
 | [.int true lo hi,.int true lo' hi']=>k (.int true (sH lo lo') (sH hi hi')) S
 | [.int false lo hi,.int true lo' hi']=>match dw hi lo' with
  | true=>k (.int true lo' hi') S
  | false=>false
 | [.int true lo hi,.int false lo' hi']=>match dw hi' lo with
  | true=>k (.int true lo hi) S
  | false=>false
 | _=>false
def Kb:List AV->aU->(AV->aU->Bool)->Bool:=λxs S k=>match xs with
 | [.int false lo hi,.int false lo' hi']=>k (.int false (B3 lo lo') (B3 hi hi')) S
 | [.int true lo hi,.int true lo' hi']=>k (.int true (B3 lo lo') (B3 hi hi')) S
 | [.int false lo hi,.int true lo' hi']=>match dw hi lo' with
  | true=>k (.int false lo hi) S
  | false=>false
 | [.int true lo hi,.int false lo' hi']=>match dw hi' lo with
  | true=>k (.int false lo' hi') S
  | false=>false
 | _=>false
theorem G7:oY g yZ Kb:=by
 intro F y ρ S H xs axs k Q C rx h p
 unfold Kb at h
 split at h
 ·cases rx with | cons r t=>cases t with | cons r' t'=>cases t' with | nil =>
  obtain⟨i,rfl,a1,a2⟩:=r
  obtain⟨j,rfl,a3,a4⟩:=r'
  show Q (.int (if j < i then j else i)) H
  refine p.here C (av:=.int false _ _) ⟨_,rfl,?_⟩ h
  rw [pO,pO]
  split<;>constructor<;>omega
 ·cases rx with | cons r t=>cases t with | cons r' t'=>cases t' with | nil =>
  obtain⟨x,i,e,rfl,a1,a2⟩:=r
  obtain⟨x',j,e',rfl,a3,a4⟩:=r'
  rw [e] at e'; cases e'
  show Q (.int (if j < i then j else i)) H
  refine p.here C (av:=.int true _ _) ⟨x,_,e,rfl,?_⟩ h
  rw [pO,pO]
  split<;>constructor<;>omega
 ·split at h
  ·rename_i q
   rw [bT] at q
   cases rx with | cons r t=>cases t with | cons r' t'=>cases t' with | nil =>
   obtain⟨i,rfl,a1,a2⟩:=r
   obtain⟨x',j,e',rfl,a3,a4⟩:=r'
   have:=C.pos _ e'
   show Q (.int (if j < i then j else i)) H
   refine p.here C (av:=.int false _ _) ⟨_,rfl,?_⟩ h
   split<;>constructor<;>omega
  ·cases h
 ·split at h
  ·rename_i q
   rw [bT] at q
   cases rx with | cons r t=>cases t with | cons r' t'=>cases t' with | nil =>
   obtain⟨x',i,e',rfl,a1,a2⟩:=r
   obtain⟨j,rfl,a3,a4⟩:=r'
   have:=C.pos _ e'
   show Q (.int (if j < i then j else i)) H
   refine p.here C (av:=.int false _ _) ⟨_,rfl,?_⟩ h
   split<;>constructor<;>omega
  ·cases h
 ·cases h
inductive K7 | int | bool | tuple
def K7.name:K7->String
 | .int=>"int"
 | .bool=>"bool"
 | .tuple=>"tuple"
def LT (t:K7):AV->Option Bool
 | .non=>some false
 | .bl _=>match t with
  | .tuple=>some false
  | _=>some true
 | .int _ _ _=>match t with
  | .int=>some true
  | _=>some false
 | .str _=>some false
 | .tn=>match t with
  | .tuple=>some true
  | _=>some false
 | .tc _ _=>match t with
  | .tuple=>some true
  | _=>some false
 | _=>none
theorem G8 {F:Fx} {t:K7} {ax:AV} {x:V} {b:Bool} (r:aY F y ρ H ax x) (h:LT t ax=some b):∃n,GN H x=some n/\D0 n t.name=some b:=by
 cases ax with
 | non=>cases (show x=.non from r); cases t<;>cases h<;>exact⟨_,rfl,rfl⟩
 | bl c=>cases (show x=.bl c from r); cases t<;>cases h<;>exact⟨_,rfl,rfl⟩
 | int s lo hi=>obtain⟨z,rfl,_⟩:=bf.mp r; cases t<;>cases h<;>exact⟨_,rfl,rfl⟩
 | str i=>obtain⟨w,_,rfl⟩:=r; cases t<;>cases h<;>exact⟨_,rfl,rfl⟩
 | tn =>
  obtain⟨a,rfl,ha⟩:=r
  have e:GN H (.ref a)=some "tuple":=by simp [GN,ha]
  cases t<;>cases h<;>exact⟨_,e,rfl⟩
 | tc p q =>
  obtain⟨a,_,_,rfl,ha,_⟩:=r
  have e:GN H (.ref a)=some "tuple":=by simp [GN,ha]
  cases t<;>cases h<;>exact⟨_,e,rfl⟩
 | _=>cases h
def G9 (t:K7) (a:BE):BE:=λσ S k=>a σ S λx S1=>kb (LT t x) S1 k
theorem zj (t:K7) {p:Pos} {T:OP} (hg:Gl X "isinstance") (hm:X.mg "isinstance" = none) (ha:PE X e (up g ba)) (hT:PE X T (tC (.ty t.name)))
  (he:OQ [e,T] X.env=(false,O2 e X.env)::OQ [T] X.env:=by nofun) (he2:OQ [T] X.env=(false,O2 T X.env)::OQ [] X.env:=by nofun) (hpl:(Qa pos (OQ [T] X.env)).any (·.1)=false:=by nofun):PE X (.Call (.Name "isinstance" p) [e,T] [] pos) (up g (G9 t ba)):=by
 refine PE.imp (λσ H Q ⟨F,y,ρ,S,σa,k,C,r,h,p⟩=>?_) (lQ D3 hg hm ni (dW ha (dW hT iA he2) he) (by decide) (by decide) he hpl)
 refine aD C r h λy1 ρ1 S1 H1 ax x st C1 r1 rx h1=>?_
 obtain⟨b,e,hk⟩:=iD h1
 obtain⟨n,e1,e2⟩:=G8 rx e
 show D2 [x,.ty t.name] H1 Q
 unfold D2
 simp only [e1,e2]
 exact p y1 ρ1 S1 H1 (.bl b) _ st C1 rfl hk
def B4 (S:aU):AV->Option Bool
 | .non=>some false
 | .bl b=>some b
 | .tn=>some false
 | .tc _ _=>some true
 | .ref n=>match S.t.get n with
  | some (.lst xs)=>some (!xs.isEmpty)
  | some (.dk xs)=>some (!xs.isEmpty)
  | _=>none
 | _=>none
theorem iF {α β:Type} {R:α->β->Prop} {xs:List α} {ys:List β} (p:Paired R xs ys):xs.isEmpty=ys.isEmpty:=by cases p<;>rfl
theorem AN {F:Fx} {S:aU} (C:aM g F y ρ S H) {ax:AV} {x:V} {b:Bool} (r:aY F y ρ H ax x) (h:B4 S ax=some b):sE H x=some b:=by
 cases ax with
 | non=>cases (show x=.non from r); exact h
 | bl c=>cases (show x=.bl c from r); exact h
 | tn=>obtain⟨a,rfl,ha⟩:=r; cases h; simp [sE,ha]
 | tc p q=>obtain⟨a,_,_,rfl,ha,_⟩:=r; cases h; simp [sE,ha]
 | ref n =>
  unfold B4 at h
  cases q:S.t.get n with
  | none=>simp only [q] at h; cases h
  | some ob =>
   simp only [q] at h
   cases ob with
   | lst ys =>
    cases h
    obtain⟨a,vs,rfl,_,ha,pr⟩:=C.lst r q
    simp only [sE,ha,iF pr]
   | dk ys =>
    cases h
    obtain⟨a,vs,rfl,_,ha,pr⟩:=C.dk r q
    simp only [sE,ha,iF pr]
   | _=>cases h
 | _=>cases h
def l9 (a:BE):BT:=λσ S k=>a σ S λx S1=>match B4 S1 x with
 | some b=>k b S1
 | none=>false
theorem eU (h:PT X a (D8 (up g ba))):PT X a (f6 g (l9 ba)):=by
 refine PT.imp (λσ H Q ⟨F,y,ρ,S,σa,k,C,r,h,p⟩=>?_) h
 refine aD C r h λy1 ρ1 S1 H1 ax x st C1 r1 rx h1=>?_
 cases q:B4 S1 ax with
 | none=>simp only [q] at h1; cases h1
 | some b =>
  simp only [q] at h1
  rw [AN C1 rx q,bZ]
  exact p y1 ρ1 S1 H1 b st C1 h1
def uD:AV->Bool
 | .non=>true
 | .bl _=>true
 | .int _ _ _=>true
 | .str _=>true
 | _=>false
def Ha (x:AV):List AV->Option Bool
 | []=>some false
 | z::r=>match IP z x with
  | some true=>match r.all uD with
   | true=>some true
   | false=>none
  | some false=>Ha x r
  | none=>none
theorem qL {F:Fx} {ax:AV} {x:V} (r:aY F y ρ H ax x) (h:uD ax=true):er x=true:=by
 cases ax with
 | non=>cases (show x=.non from r); rfl
 | bl c=>cases (show x=.bl c from r); rfl
 | int s lo hi=>obtain⟨z,rfl,_⟩:=bf.mp r; rfl
 | str i=>obtain⟨w,_,rfl⟩:=r; rfl
 | _=>cases h
theorem Hb {x z:V} (h:DA x z=true) (hx:er x=true):yA x z=decide (x=z):=by
 cases x<;>cases z<;>simp_all [DA,er,yA]<;>rfl
theorem Ey {F:Fx} {y:Option Int} {ρ:List Oo} {H:Hp} {ax az:AV} {b:Bool} (h:IP ax az=some b):uD ax=true/\uD az=true:=by
 cases ax<;>cases az<;>first | (cases h; done) | exact⟨rfl,rfl⟩
theorem AQ {F:Fx} {y:Option Int} {ρ:List Oo} {H:Hp} (hy:∀x,y=some x->1≤x) {ax:AV} {x:V} (r:aY F y ρ H ax x):∀{zs:List AV} {vs:List V} {b:Bool},aZ F y ρ H zs vs->Ha ax zs=some b->Gh x vs=b/\vs.all er=true
 | _,_,_,.nil,h=>by cases h; exact⟨rfl,rfl⟩
 | _,_,b,.cons (a:=az) (b:=z) (l₁:=l₁) (l₂:=l₂) rz t,h=>by
  unfold Ha at h
  cases q:IP az ax with
  | none=>simp only [q] at h; cases h
  | some c =>
   obtain⟨h1,h2⟩:=zd hy rz r q
   have fz:=qL rz (Ey (F:=F) (y:=y) (ρ:=ρ) (H:=H) q).1
   have e1:yA z x=c:=by rw [Hb h1 fz]; exact h2
   cases c with
   | true =>
    simp only [q] at h
    cases q2:l₁.all uD with
    | false=>rw [q2] at h; cases h
    | true =>
     rw [q2] at h; cases h
     refine⟨by simp [Gh,e1],?_⟩
     rw [Qx,fz,Bool.true_and]
     clear h1 h2 e1 fz rz q
     induction t with
     | nil=>rfl
     | cons r' t' ih =>
      rw [Qx,OI] at q2
      rw [Qx,qL r' q2.1,ih q2.2]; rfl
   | false =>
    simp only [q] at h
    obtain⟨k1,k2⟩:=AQ hy r t h
    refine⟨?_,by rw [Qx,fz,k2]; rfl⟩
    have:Gh x (z::l₂)=(yA z x || Gh x l₂):=rfl
    rw [this,e1,k1]; rfl
def K8 (neg:Bool):AV->AV->aU->(AV->aU->Bool)->Bool:=λx s S k=>match uD x with
 | true=>match vF S s with
  | some zs=>match Ha x zs with
   | some b=>k (.bl (match neg with | true=>!b | false=>b)) S
   | none=>false
  | none=>false
 | false=>false
theorem vH {neg:Bool}:jq g (GU neg) (K8 neg):=by
 intro F y ρ S H x z ax az k Q C rx rz h p
 unfold K8 at h
 split at h
 ·rename_i q0
  split at h
  ·rename_i zs q
   split at h
   ·rename_i b q2
    obtain⟨vs,e,pr⟩:=pM C rz q
    obtain⟨k1,k2⟩:=AQ C.pos rx pr q2
    unfold GU
    rw [e,bZ]
    refine⟨qL rx q0,k2,?_⟩
    rw [k1]
    refine p.here C (av:=.bl _) ?_ h
    cases neg<;>rfl
   ·cases h
  ·cases h
 ·cases h
def sI (y:Option Int):AV->D->Prop
 | .non,d=>d=.non
 | .bl b,d=>d=.bl b
 | .int s lo hi,d=>∃z,d=.int z/\Bd y s lo hi z
 | .str i,d=>∃x,bh[i]?=some x/\d=.str x
 | .tn,d=>d=.tup []
 | .tc h t,d=>∃x r,d=.tup (x::r)/\sI y h x/\sI y t (.tup r)
 | _,_=>False
def Kc:AV->AV->Option Bool
 | .tn,.tn=>some true
 | .tn,.tc _ _=>some false
 | .tc _ _,.tn=>some false
 | .tc a b,.tc c d=>match Kc a c with
  | some true=>Kc b d
  | some false=>some false
  | none=>none
 | .tn,.non=>some false | .tn,.bl _=>some false | .tn,.int _ _ _=>some false | .tn,.str _=>some false
 | .tc _ _,.non=>some false | .tc _ _,.bl _=>some false | .tc _ _,.int _ _ _=>some false | .tc _ _,.str _=>some false
 | .non,.tn=>some false | .bl _,.tn=>some false | .int _ _ _,.tn=>some false | .str _,.tn=>some false
 | .non,.tc _ _=>some false | .bl _,.tc _ _=>some false | .int _ _ _,.tc _ _=>some false | .str _,.tc _ _=>some false
 | a,b=>IP a b
def sJ:AV->Option Nat
 | .tn=>some 1
 | .tc h t=>match sJ h,sJ t with
  | some m,some n=>some (max (m+1) n)
  | _,_=>none
 | .ref _=>none
 | .ext _=>none
 | _=>some 0
end
section
variable {F:Fx}
theorem B5:∀(av:AV) {n:Nat},sJ av=some n->(∀v,aY F y ρ H av v->∃d,cj H d v/\sI y av d/\wH d≤n)/\(∀vs,xf F y ρ H av vs->∃ds,cw H ds vs/\sI y av (.tup ds)/\oX ds+1≤n)
 | .non,n,h=>by
  cases h
  exact⟨λv r=>⟨.non,by cases (show v=.non from r); exact cj.non,rfl,by simp [wH]⟩,λ_ r=>r.elim⟩
 | .bl b,n,h=>by
  cases h
  exact⟨λv r=>⟨.bl b,by cases (show v=.bl b from r); exact cj.bl,rfl,by simp [wH]⟩,λ_ r=>r.elim⟩
 | .int s lo hi,n,h=>by
  cases h
  refine⟨λv r=>?_,λ_ r=>by cases s<;>exact r.elim⟩
  obtain⟨z,rfl,b⟩:=bf.mp r
  exact⟨.int z,cj.int,⟨z,rfl,b⟩,by simp [wH]⟩
 | .str i,n,h=>by
  cases h
  refine⟨λv r=>?_,λ_ r=>r.elim⟩
  obtain⟨x,e,rfl⟩:=r
  exact⟨.str x,cj.str,⟨x,e,rfl⟩,by simp [wH]⟩
 | .ref _,_,h=>by cases h
 | .ext _,_,h=>by cases h
 | .tn,n,h=>by
  cases h
  refine⟨λv r=>?_,λvs r=>?_⟩
  ·obtain⟨a,rfl,ha⟩:=r
   exact⟨.tup [],cj.tup ha .nil,rfl,by simp [wH,oX]⟩
  ·cases (show vs=[] from r)
   exact⟨[],.nil,rfl,by simp [oX]⟩
 | .tc p q,n,h=>by
  unfold sJ at h
  cases e1:sJ p with
  | none=>simp only [e1] at h; cases h
  | some m=>cases e2:sJ q with
   | none=>simp only [e1,e2] at h; cases h
   | some l =>
    simp only [e1,e2] at h
    cases h
    obtain⟨p1,_⟩:=B5 p e1
    obtain⟨_,q2⟩:=B5 q e2
    have tl:∀w ws,aY F y ρ H p w->xf F y ρ H q ws->∃ds,cw H ds (w::ws)/\sI y (.tc p q) (.tup ds)/\oX ds+1≤max (m+1) l:=λw ws rw' rws=>by
     obtain⟨d,a1,a2,a3⟩:=p1 w rw'
     obtain⟨ds,b1,b2,b3⟩:=q2 ws rws
     refine⟨d::ds,.cons a1 b1,⟨d,ds,rfl,a2,b2⟩,?_⟩
     rw [oX]
     omega
    refine⟨λv r=>?_,λvs r=>?_⟩
    ·obtain⟨a,w,ws,rfl,ha,r1,r2⟩:=r
     obtain⟨ds,b1,b2,b3⟩:=tl w ws r1 r2
     exact⟨.tup ds,cj.tup ha b1,b2,by rw [wH]; exact b3⟩
    ·obtain⟨w,ws,rfl,r1,r2⟩:=r
     exact tl w ws r1 r2
theorem cV (hy:∀x,y=some x->1≤x) {a b:AV} {d e:D} {c:Bool} (h1:sI y a d) (h2:sI y b e) (h:IP a b=some c):cG d e=c:=by
 cases a with
 | non =>
  cases (show d=.non from h1)
  cases b with
  | non=>cases (show e=.non from h2); cases h; simp [cG]
  | int s lo hi=>obtain⟨j,rfl,_⟩:=h2; cases h; simp [cG]
  | bl x=>cases (show e=.bl x from h2); cases h; simp [cG]
  | str i=>obtain⟨w,_,rfl⟩:=h2; cases h; simp [cG]
  | _=>cases h
 | int s lo hi =>
  obtain⟨i,rfl,b1⟩:=h1
  cases b with
  | non=>cases (show e=.non from h2); cases h; simp [cG]
  | int s' lo' hi' =>
   obtain⟨j,rfl,b2⟩:=h2
   have:=Em hy b1 b2 h
   rw [cG,<-this]
   by_cases q:i=j<;>simp [q]
  | str i=>obtain⟨w,_,rfl⟩:=h2; cases h; simp [cG]
  | _=>cases h
 | bl x =>
  cases (show d=.bl x from h1)
  cases b with
  | non=>cases (show e=.non from h2); cases h; simp [cG]
  | bl z=>cases (show e=.bl z from h2); cases h; simp [cG]
  | str i=>obtain⟨w,_,rfl⟩:=h2; cases h; simp [cG]
  | _=>cases h
 | str i =>
  obtain⟨w,e1,rfl⟩:=h1
  cases b with
  | non=>cases (show e=.non from h2); cases h; simp [cG]
  | int s lo hi=>obtain⟨j,rfl,_⟩:=h2; cases h; simp [cG]
  | bl x=>cases (show e=.bl x from h2); cases h; simp [cG]
  | str j =>
   obtain⟨w',e2,rfl⟩:=h2
   cases h
   rw [cG,gu]
   by_cases q:i=j
   ·subst q
    rw [e1] at e2; cases e2
    simp
   ·have:¬w=w':=λe=>q (by subst e; exact eR e1 e2)
    simp [q,this]
  | _=>cases h
 | _=>cases b<;>cases h
theorem xo {a:AV} {d:D} (h:sI y a d) (hc:a=.tn∨∃p q,a=.tc p q):∃ds,d=.tup ds:=by
 rcases hc with rfl | ⟨p,q,rfl⟩
 ·exact⟨[],h⟩
 ·obtain⟨x,r,e,_⟩:=h; exact⟨_,e⟩
theorem AR (hy:∀x,y=some x->1≤x):∀(a b:AV) {d e:D} {c:Bool},sI y a d->sI y b e->Kc a b=some c->cG d e=c
 | .tn,.tn,d,e,c,h1,h2,h=>by cases (show d=.tup [] from h1); cases (show e=.tup [] from h2); cases h; simp [cG,iC]
 | .tn,.tc _ _,d,e,c,h1,⟨x,r,h2,_⟩,h=>by cases (show d=.tup [] from h1); subst h2; cases h; simp [cG,iC]
 | .tc _ _,.tn,d,e,c,⟨x,r,h1,_⟩,h2,h=>by cases (show e=.tup [] from h2); subst h1; cases h; simp [cG,iC]
 | .tc a b,.tc p q,d,e,c,⟨x,r,h1,h3,h4⟩,⟨x',r',h2,h5,h6⟩,h=>by
  subst h1 h2
  unfold Kc at h
  cases z:Kc a p with
  | none=>simp only [z] at h; cases h
  | some t =>
   have e1:=AR hy a p h3 h5 z
   cases t with
   | true =>
    simp only [z] at h
    have e2:=AR hy b q h4 h6 h
    rw [cG] at e2 ⊢
    rw [iC,e1,e2]; rfl
   | false =>
    simp only [z] at h
    cases h
    rw [cG,iC,e1]; rfl
 | .tn,.non,d,e,c,h1,h2,h=>by cases h; cases (show d=.tup [] from h1); cases (show e=.non from h2); simp [cG]
 | .tn,.bl x,d,e,c,h1,h2,h=>by cases h; cases (show d=.tup [] from h1); cases (show e=.bl x from h2); simp [cG]
 | .tn,.int _ _ _,d,e,c,h1,⟨z,h2,_⟩,h=>by cases h; cases (show d=.tup [] from h1); subst h2; simp [cG]
 | .tn,.str _,d,e,c,h1,⟨z,_,h2⟩,h=>by cases h; cases (show d=.tup [] from h1); subst h2; simp [cG]
 | .tc _ _,.non,d,e,c,⟨x,r,h1,_⟩,h2,h=>by cases h; subst h1; cases (show e=.non from h2); simp [cG]
 | .tc _ _,.bl x,d,e,c,⟨_,r,h1,_⟩,h2,h=>by cases h; subst h1; cases (show e=.bl x from h2); simp [cG]
 | .tc _ _,.int _ _ _,d,e,c,⟨x,r,h1,_⟩,⟨z,h2,_⟩,h=>by cases h; subst h1; subst h2; simp [cG]
 | .tc _ _,.str _,d,e,c,⟨x,r,h1,_⟩,⟨z,_,h2⟩,h=>by cases h; subst h1; subst h2; simp [cG]
 | .non,.tn,d,e,c,h1,h2,h=>by cases h; cases (show d=.non from h1); cases (show e=.tup [] from h2); simp [cG]
 | .bl x,.tn,d,e,c,h1,h2,h=>by cases h; cases (show d=.bl x from h1); cases (show e=.tup [] from h2); simp [cG]
 | .int _ _ _,.tn,d,e,c,⟨z,h1,_⟩,h2,h=>by cases h; subst h1; cases (show e=.tup [] from h2); simp [cG]
 | .str _,.tn,d,e,c,⟨z,_,h1⟩,h2,h=>by cases h; subst h1; cases (show e=.tup [] from h2); simp [cG]
 | .non,.tc _ _,d,e,c,h1,⟨x,r,h2,_⟩,h=>by cases h; cases (show d=.non from h1); subst h2; simp [cG]
 | .bl x,.tc _ _,d,e,c,h1,⟨_,r,h2,_⟩,h=>by cases h; cases (show d=.bl x from h1); subst h2; simp [cG]
 | .int _ _ _,.tc _ _,d,e,c,⟨z,h1,_⟩,⟨x,r,h2,_⟩,h=>by cases h; subst h1; subst h2; simp [cG]
 | .str _,.tc _ _,d,e,c,⟨z,_,h1⟩,⟨x,r,h2,_⟩,h=>by cases h; subst h1; subst h2; simp [cG]
 | .ref _,_,_,_,_,h1,_,_=>h1.elim
 | .ext _,_,_,_,_,h1,_,_=>h1.elim
 | .tn,.ref _,_,_,_,_,h2,_=>h2.elim
 | .tn,.ext _,_,_,_,_,h2,_=>h2.elim
 | .tc _ _,.ref _,_,_,_,_,h2,_=>h2.elim
 | .tc _ _,.ext _,_,_,_,_,h2,_=>h2.elim
 | .non,.non,_,_,_,h1,h2,h=>cV hy h1 h2 h
 | .non,.bl _,_,_,_,h1,h2,h=>cV hy h1 h2 h
 | .non,.int _ _ _,_,_,_,h1,h2,h=>cV hy h1 h2 h
 | .non,.str _,_,_,_,h1,h2,h=>cV hy h1 h2 h
 | .non,.ref _,_,_,_,h1,h2,h=>cV hy h1 h2 h
 | .non,.ext _,_,_,_,h1,h2,h=>cV hy h1 h2 h
 | .bl _,.non,_,_,_,h1,h2,h=>cV hy h1 h2 h
 | .bl _,.bl _,_,_,_,h1,h2,h=>cV hy h1 h2 h
 | .bl _,.int _ _ _,_,_,_,h1,h2,h=>cV hy h1 h2 h
 | .bl _,.str _,_,_,_,h1,h2,h=>cV hy h1 h2 h
 | .bl _,.ref _,_,_,_,h1,h2,h=>cV hy h1 h2 h
 | .bl _,.ext _,_,_,_,h1,h2,h=>cV hy h1 h2 h
 | .int _ _ _,.non,_,_,_,h1,h2,h=>cV hy h1 h2 h
 | .int _ _ _,.bl _,_,_,_,h1,h2,h=>cV hy h1 h2 h
 | .int _ _ _,.int _ _ _,_,_,_,h1,h2,h=>cV hy h1 h2 h
 | .int _ _ _,.str _,_,_,_,h1,h2,h=>cV hy h1 h2 h
 | .int _ _ _,.ref _,_,_,_,h1,h2,h=>cV hy h1 h2 h
 | .int _ _ _,.ext _,_,_,_,h1,h2,h=>cV hy h1 h2 h
 | .str _,.non,_,_,_,h1,h2,h=>cV hy h1 h2 h
 | .str _,.bl _,_,_,_,h1,h2,h=>cV hy h1 h2 h
 | .str _,.int _ _ _,_,_,_,h1,h2,h=>cV hy h1 h2 h
 | .str _,.str _,_,_,_,h1,h2,h=>cV hy h1 h2 h
 | .str _,.ref _,_,_,_,h1,h2,h=>cV hy h1 h2 h
 | .str _,.ext _,_,_,_,h1,h2,h=>cV hy h1 h2 h
end
section
variable {g:Gx} {a b c e o:OP} {ba bb bc:BE} {bt:BT} {br:BA}
def NI (S:aU) (a b:AV):Option Bool:=match nw a with
 | some _=>match nw b with
  | some _=>match sJ a,sJ b with
   | some n,some _=>match Pg n 50 with
    | true=>Kc a b
    | false=>none
   | _,_=>none
  | none=>none
 | none=>match l8 S a with
  | some xs=>match l8 S b with
   | some ys=>match sJ (chain xs),sJ (chain ys) with
    | some n,some _=>match Pg n 50 with
     | true=>Kc (chain xs) (chain ys)
     | false=>none
    | _,_=>none
   | none=>none
  | none=>none
theorem Kd {F:Fx} {S:aU} (C:aM g F y ρ S H) {ax az:AV} {x z:V} {c:Bool} (rx:aY F y ρ H ax x) (rz:aY F y ρ H az z) (h:NI S ax az=some c) :
  ∃d e,cj H d x/\cj H e z/\dD d=true/\dD e=true/\wH d≤50/\cG d e=c:=by
 unfold NI at h
 split at h
 ·rename_i xs q1
  split at h
  ·rename_i zs q2
   split at h
   ·rename_i n m e1 e2
    split at h
    ·rename_i q3
     obtain⟨d,d1,d2,d3⟩:=(B5 ax e1).1 x rx
     obtain⟨e,f1,f2,f3⟩:=(B5 az e2).1 z rz
     have t1:∃ds,d=.tup ds:=xo d2 (by rw [ik q1]; cases xs; exact .inl rfl; exact .inr ⟨_,_,rfl⟩)
     have t2:∃ds,e=.tup ds:=xo f2 (by rw [ik q2]; cases zs; exact .inl rfl; exact .inr ⟨_,_,rfl⟩)
     obtain⟨ds,rfl⟩:=t1
     obtain⟨es,rfl⟩:=t2
     exact⟨_,_,d1,f1,rfl,rfl,Pi d3 (bD q3),AR C.pos ax az d2 f2 h⟩
    ·cases h
   ·cases h
  ·cases h
 ·split at h
  ·rename_i xs q1
   split at h
   ·rename_i zs q2
    split at h
    ·rename_i n m e1 e2
     split at h
     ·rename_i q3
      obtain⟨n1,a1,vs,rfl,rfl,_,ha,pr⟩:=fh C rx q1
      obtain⟨n2,a2,ws,rfl,rfl,_,hb,pr2⟩:=fh C rz q2
      obtain⟨ds,d1,d2,d3⟩:=(B5 _ e1).2 vs (pJ pr)
      obtain⟨es,f1,f2,f3⟩:=(B5 _ e2).2 ws (pJ pr2)
      have k:=AR C.pos _ _ d2 f2 h
      refine⟨.lst ds,.lst es,cj.lst ha d1,cj.lst hb f1,rfl,rfl,?_,?_⟩
      ·rw [wH]; exact Pi d3 (bD q3)
      ·simp only [cG] at k ⊢; exact k
     ·cases h
    ·cases h
   ·cases h
  ·cases h
def zk (neg:Bool):AV->AV->aU->(AV->aU->Bool)->Bool:=λa b S k=>match NI S a b with
 | some c=>k (.bl (match neg with | true=>!c | false=>c)) S
 | none=>false
theorem ma {neg:Bool}:jq g (JU neg) (zk neg):=by
 intro F y ρ S H x z ax az k Q C rx rz h p
 unfold zk at h
 split at h
 ·rename_i c q
  obtain⟨d,e,h1,h2,h3,h4,h5,h6⟩:=Kd C rx rz q
  refine⟨d,e,h1,h2,h3,h4,h5,?_⟩
  rw [h6]
  refine p.here C (av:=.bl _) ?_ h
  cases neg<;>rfl
 ·cases h
def Dl (f:AV->List AV->aU->(AV->aU->Bool)->Bool) (a:BE) (r:BA):BE:=λσ S k=>a σ S λx S1=>match l8 S1 x with
 | some _=>r σ S1 λxs S2=>f x xs S2 k
 | none=>false
def Hc (g:Gx) (r:V->List V->Hp->VK->Prop) (f:AV->List AV->aU->(AV->aU->Bool)->Bool):Prop :=
 ∀F y ρ S H x xs ax axs k Q,aM g F y ρ S H->aY F y ρ H ax x->aZ F y ρ H axs xs->f ax axs S k=true->jd g F y ρ H k Q->r x xs H Q
theorem Ke {r:V->List V->Hp->VK->Prop} {f} (hf:Hc g r f):∀σ H Q,up g (Dl f ba br) σ H Q->Nu K "list" r (up g ba) (hV g br) σ H Q:=λσ H Q ⟨F,y,ρ,S,σa,k,C,r,h,p⟩ =>
 aD C r h λy1 ρ1 S1 H1 ax x st C1 r1 rx h1=>by
  cases q:l8 S1 ax with
  | none=>simp only [q] at h1; cases h1
  | some ys =>
   simp only [q] at h1
   obtain⟨n,a,vs,rfl,rfl,_,ha,pr⟩:=fh C1 rx q
   refine⟨.inl ⟨rfl,vs,hW.of ha⟩,bq C1 r1 h1 λy2 ρ2 S2 H2 axs xs st2 C2 r2 rxs h2=>?_⟩
   exact hf F y2 ρ2 S2 H2 _ xs _ axs k Q C2 (aY.mono st2 rx) rxs h2 (p.mono (st.trans st2))
theorem kH {r:V->List V->Hp->VK->Prop} {f} (hf:Hc g r f) (h:PE X e (Nu K "list" r (up g ba) (hV g br))):PE X e (up g (Dl f ba br)):=PE.imp (Ke hf) h
def gB:AV->List AV->aU->(AV->aU->Bool)->Bool:=λa xs S k=>match a,xs with
 | .ref n,[w]=>match l8 S (.ref n) with
  | some ys=>match Pg ys.length 900 with
   | true=>k .non (S.set n (.lst (ys++[w])))
   | false=>false
  | none=>false
 | _,_=>false
theorem eV:Hc g qC gB:=by
 intro F y ρ S H x xs ax axs k Q C rx rxs h p
 unfold gB at h
 split at h
 ·rename_i n w
  split at h
  ·rename_i ys q
   split at h
   ·rename_i q2
    obtain⟨n',a,vs,e,rfl,hρ,ha,pr⟩:=fh C rx q
    cases e
    cases rxs with | cons r0 t=>cases t with | nil =>
    rename_i z
    have hl:=aW pr
    have hl2:=bD q2
    show (match H a with
     | some (.lst xs)=>xs.length < OA/\Q .non (upd H a (.lst (xs++[_])))
     | _=>False)
    rw [ha]
    have st:aE F y ρ H y ρ (upd H a (.lst (vs++[z]))):=aE.set C hρ ha
    refine⟨cF (by omega),p y ρ _ _ .non _ st (C.set hρ ha (o:=.lst (ys++[w])) (ob:=⟨_,rfl,dZ (aZ.mono st pr) (.cons (aY.mono st r0) .nil)⟩)) rfl h⟩
   ·cases h
  ·cases h
 ·cases h
def jT:AV->List AV->aU->(AV->aU->Bool)->Bool:=λa xs S k=>match a,xs with
 | .ref n,[w]=>match l8 S (.ref n) with
  | some ys=>match l8 S w with
   | some zs=>match Pg (ys.length+zs.length) 900 with
    | true=>k .non (S.set n (.lst (ys++zs)))
    | false=>false
   | none=>false
  | none=>false
 | _,_=>false
theorem iG:Hc g Ar jT:=by
 intro F y ρ S H x xs ax axs k Q C rx rxs h p
 unfold jT at h
 split at h
 ·rename_i n w
  split at h
  ·rename_i ys q
   split at h
   ·rename_i zs q1
    split at h
    ·rename_i q2
     obtain⟨n',a,vs,e,rfl,hρ,ha,pr⟩:=fh C rx q
     cases e
     cases rxs with | cons r0 t=>cases t with | nil =>
     obtain⟨m,b,ws,rfl,rfl,_,hb,pr2⟩:=fh C r0 q1
     have hl:=aW pr
     have hl3:=aW pr2
     have hl2:=bD q2
     have st:aE F y ρ H y ρ (upd H a (.lst (vs++ws))):=aE.set C hρ ha
     exact⟨a,b,vs,ws,rfl,rfl,ha,hb,PY (cF (by omega)),p y ρ _ _ .non _ st (C.set hρ ha (o:=.lst (ys++zs)) (ob:=⟨_,rfl,dZ (aZ.mono st pr) (aZ.mono st pr2)⟩)) rfl h⟩
    ·cases h
   ·cases h
  ·cases h
 ·cases h
end
section
variable {g:Gx} {a b c e o tg:OP} {ba bb bc:BE} {bt:BT} {br:BA} {s1 s2:BS} {body:List Rf}
abbrev Kf:=List AV->eg->aU->(eg->aU->Bool)->Bool
def Ez (g:Gx) (sl:List Nat) (b:Kf):Dr:=λvs σ H Q=>∃F y ρ S avs σa k,aM g F y ρ S H/\aZ F y ρ H avs vs/\bL g F y ρ H σa σ/\b avs σa S k=true/\IK g sl σ F y ρ H k Q
def cI:Kf:=λxs σ S k=>match xs with
 | []=>k σ S
 | _=>false
def aB (t:BG) (u:Kf):Kf:=λxs σ S k=>match xs with
 | x::r=>t x σ S λσ1 S1=>u r σ1 S1 k
 | []=>false
def cE (n:Nat) (u:Kf):BG:=λx σ S k=>match nw x with
 | some xs=>match OL xs.length n with
  | true=>u xs σ S k
  | false=>false
 | none=>false
theorem Ac.imp {ts:List OP} {t t':Dr} (h:∀v σ H Q,t' v σ H Q->t v σ H Q) (p:Ac X ts t):Ac X ts t':=λpins s σ H v u Q I r q=>p pins s σ H v u Q I r (h _ _ _ _ q)
theorem bx:Ac X [] (Ez g [] cI):=Ac.imp (λvs σ H Q ⟨F,y,ρ,S,avs,σa,k,C,rv,r,h,p⟩=>by
 cases rv with
 | nil=>exact⟨rfl,p y ρ S H _ _ .refl C r ⟨rfl,λ_ _=>rfl⟩ h⟩
 | cons _ _=>cases h) Gu
theorem aq {t:BG} {u:Kf} {sl sl':List Nat} (h1:PG X e (qG g sl t)) (h2:Ac X es (Ez g sl' u)) (hs:(QP (e::es) X.env).map (·.2)=Tj e X.env::(QP es X.env).map (·.2):=by nofun):Ac X (e::es) (Ez g (sl++sl') (aB t u)) :=
 Ac.imp (λvs σ H Q ⟨F,y,ρ,S,avs,σa,k,C,rv,r,h,p⟩=>by
  cases rv with
  | nil=>cases h
  | cons r0 t0=>exact⟨_,_,rfl,F,y,ρ,S,_,σa,_,C,r0,r,h,λy1 ρ1 S1 H1 σ1 σ2 st C1 r1 o1 h1=>⟨F,y1,ρ1,S1,_,σ1,k,C1,aZ.mono st t0,r1,h1,λy2 ρ2 S2 H2 σ3 σ4 st2 C2 r2 o2 h2=>p y2 ρ2 S2 H2 σ3 σ4 (st.trans st2) C2 r2 ⟨o2.1.trans o1.1,λj hj=>(o2.2 j λm=>hj (OC _ m)).trans (o1.2 j λm=>hj (Q8 _ m))⟩ h2⟩⟩) (Dt h1 h2 hs)
theorem bX {u:Kf} {k n:Nat} (hc:X.calm=true) (h:Ac X es (Ez g sl u)) (hn:(QP es X.env).length=n:=by nofun) (hst:(QP es X.env).findIdx? (·.1)=none:=by nofun):PG X (.Tuple es k pos) (qG g sl (cE n u)):=by
 refine PG.imp (λv σ H Q ⟨F,y,ρ,S,av,σa,k,C,rv,r,h,p⟩=>?_) (GT (n:=n) hc h hn hst)
 unfold cE at h
 split at h
 ·rename_i xs q
  split at h
  ·rename_i q2
   obtain⟨a,vs,rfl,ha,pr⟩:=gA rv q
   show on (ic H (.ref a)) λxs=>xs.length=n/\Ez g sl u xs σ H Q
   rw [ie ha,bZ]
   exact⟨by rw [<-aW pr]; exact OD q2,F,y,ρ,S,xs,σa,k,C,pr,r,h,p⟩
  ·cases h
 ·cases h
theorem dG {t:BG} (h:PS X (.Assign [tg] e pos) (k6 (up g ba) (qG g sl t))):PS X (.Assign [tg] e pos) (c9 g (aX ba t)):=PS.imp G4 h
def LU (i j:Nat) (r:BA):BS:=λd σ S=>r σ S λxs S1=>match xs with
 | [v,w]=>d.nx (za (za σ i v) j w) S1
 | _=>false
theorem Kg {i j:Nat} (h:PS X st (Ls i j (hV g br))):PS X st (c9 g (LU i j br)):=by
 refine PS.imp (λD σ H ⟨F,y,ρ,S,σa,d,C,r,h,p,_⟩=>?_) h
 refine bq C r h λy1 ρ1 S1 H1 axs xs st C1 r1 rx h1=>?_
 match axs,xs,rx,h1 with
 | [v,w],[v',w'],.cons r0 (.cons r2 .nil),h1=>exact⟨v',w',rfl,p y1 ρ1 S1 H1 _ _ st C1 (dm (dm r1 r0) r2) h1⟩
def Kh (i:Nat) (f:AV->AV->aU->(AV->aU->Bool)->Bool) (a:BE):BS:=λd σ S=>match LS σ i with
 | some x=>a σ S λz S1=>f x z S1 λw S2=>d.nx (za σ i w) S2
 | none=>false
theorem Ki {i:Nat} {ti:Lq} {f} (hf:jq g ti f) (h:PS X st (Lu i (up g ba) ti)):PS X st (c9 g (Kh i f ba)):=by
 refine PS.imp (λD σ H ⟨F,y,ρ,S,σa,d,C,r,h,p,_⟩=>?_) h
 unfold Kh at h
 split at h
 ·rename_i x q
  obtain⟨v,e1,rv⟩:=xi r q
  refine⟨v,e1,aD C r h λy1 ρ1 S1 H1 az z st C1 r1 rz h1=>?_⟩
  refine hf F y1 ρ1 S1 H1 v z x az _ _ C1 (aY.mono st rv) rz h1 λy2 ρ2 S2 H2 aw w st2 C2 rw' h2=>?_
  exact p y2 ρ2 S2 H2 _ _ (st.trans st2) C2 (dm (bL.mono st2 r1) rw') h2
 ·cases h
theorem B6:jq g (NZ λi j=>i+j) oZ:=λF y ρ S H x z ax az k Q C rx rz h p=>fg F y ρ S H x z ax az k Q C rx rz h p
def LV (a b c:BE):BS:=λd σ S=>c σ S λv S1=>a σ S1 λx S2=>b σ S2 λz S3=>match x,z with
 | .ref n,.int false lo hi=>match dw lo hi && dw hi lo with
  | true=>match l8 S3 (.ref n) with
   | some xs=>match lo with
    | .ofNat j=>match Qk j xs.length with
     | true=>d.nx σ (S3.set n (.lst (xs.set j v)))
     | false=>false
    | .negSucc j=>match Pg (j+1) xs.length with
     | true=>d.nx σ (S3.set n (.lst (xs.set (xs.length - (j+1)) v)))
     | false=>false
   | none=>false
  | false=>false
 | _,_=>false
theorem xq {F:Fx} {y:Option Int} {ρ:List Oo} {H:Hp} {av:AV} {v:V} (r:aY F y ρ H av v):∀{xs:List AV} {vs:List V} (i:Nat),aZ F y ρ H xs vs->aZ F y ρ H (xs.set i av) (vs.set i v)
 | _,_,_,.nil=>.nil
 | _,_,0,.cons _ t=>.cons r t
 | _,_,i+1,.cons q t=>.cons q (xq r i t)
theorem MZ {value:OP} (h:PS X st (k6 (up g bc) (Nh (up g ba) (up g bb) IC))):PS X st (c9 g (LV ba bb bc)):=by
 refine PS.imp (λD σ H ⟨F,y,ρ,S,σa,d,C,r,h,p,_⟩=>?_) h
 refine aD C r h λy1 ρ1 S1 H1 av v st C1 r1 rv h1=>aD C1 r1 h1 λy2 ρ2 S2 H2 ax x st2 C2 r2 rx h2=>aD C2 r2 h2 λy3 ρ3 S3 H3 az z st3 C3 r3 rz h3=>?_
 have rx3:=aY.mono st3 rx
 have rv3:=aY.mono (st2.trans st3) rv
 split at h3
 ·rename_i n lo hi
  split at h3
  ·rename_i q0
   simp only [OI,bT] at q0
   obtain⟨i,rfl,b1,b2⟩:=rz
   have:i=lo:=by omega
   subst this
   split at h3
   ·rename_i xs q
    obtain⟨n',a,vs,e,rfl,hρ,ha,pr⟩:=fh C3 rx3 q
    cases e
    have hl:=aW pr
    have fin:∀j:Nat,DJ vs.length i=some j->d.nx σa (S3.set n (.lst (xs.set j av)))=true->IC (.ref a) (.int i) v H3 λH'=>D.nx σ H':=λj hj hn=>by
     have st4:aE F y3 ρ3 H3 y3 ρ3 (upd H3 a (.lst (vs.set j v))):=aE.set C3 hρ ha
     exact⟨a,vs,i,j,rfl,rfl,ha,hj,p y3 ρ3 _ _ σa σ (((st.trans st2).trans st3).trans st4) (C3.set hρ ha (o:=.lst (xs.set j av)) (ob:=⟨_,rfl,xq (aY.mono st4 rv3) j (aZ.mono st4 pr)⟩)) (bL.mono st4 r3) hn⟩
    split at h3
    ·rename_i j
     split at h3
     ·rename_i q2
      have q2:j+1≤xs.length:=bD q2
      refine fin j ?_ h3
      unfold DJ
      rw [if_pos (by show (0:Int)≤(j:Int); omega),if_pos (by show (j:Int) < _; omega)]
      simp
     ·cases h3
    ·rename_i j
     split at h3
     ·rename_i q2
      have q2:=bD q2
      refine fin _ ?_ h3
      unfold DJ
      rw [if_neg (by omega),if_pos (by omega)]
      congr 1
      omega
     ·cases h3
   ·cases h3
  ·cases h3
 ·cases h3
def gf (fuel:Nat) (t:BT) (s:BS):BS:=λd=>Va (motive:=λ_=>eg->aU->Bool) (λ_ _=>false) (λ_ ih σ S=>t σ S λc S1=>match c with
 | true=>s ⟨ih,d.rt,d.nx,ih⟩ σ S1
 | false=>d.nx σ S1) fuel
theorem B7 {fuel:Nat}:∀D σ H,c9 g (gf fuel bt s1) D σ H->Du (f6 g bt) (c9 g s1) D σ H:=by
 rintro D σ H ⟨F,y,ρ,S,σa,d,C,r,h,p,pr,pb,pc⟩
 refine⟨λm σ' H'=>∃y' ρ' S' σa',aE F y ρ H y' ρ' H'/\aM g F y' ρ' S' H'/\bL g F y' ρ' H' σa' σ'/\gf m bt s1 d σa' S'=true,⟨fuel,y,ρ,S,σa,.refl,C,r,h⟩,?_⟩
 rintro m σ1 H1 ⟨y1,ρ1,S1,σa1,st1,C1,r1,h1⟩
 cases m with
 | zero=>cases h1
 | succ m =>
  refine ft C1 r1 (show bt σa1 S1 (λc S1=>match c with
   | true=>s1 ⟨gf m bt s1 d,d.rt,d.nx,gf m bt s1 d⟩ σa1 S1
   | false=>d.nx σa1 S1)=true from h1) λy2 ρ2 S2 H2 c st2 C2 r2 h2=>?_
  cases c with
  | true =>
   refine sB ⟨λσ' H'=>∃y' ρ' S' σa',aE F y ρ H y' ρ' H'/\aM g F y' ρ' S' H'/\bL g F y' ρ' H' σa' σ'/\gf m bt s1 d σa' S'=true,λσ' H' q=>⟨m,Pj m,q⟩,?_⟩
   have st:=st1.trans st2
   exact⟨F,y2,ρ2,S2,σa1,_,C2,r2,h2,λy3 ρ3 S3 H3 σ3 σ4 st3 C3 r3 h3=>⟨y3,ρ3,S3,σ3,st.trans st3,C3,r3,h3⟩,pr.mono st,p.mono st,λy3 ρ3 S3 H3 σ3 σ4 st3 C3 r3 h3=>⟨y3,ρ3,S3,σ3,st.trans st3,C3,r3,h3⟩⟩
  | false=>exact sA (p y2 ρ2 S2 H2 σa1 σ1 (st1.trans st2) C2 r2 h2)
theorem jv (fuel:Nat) (hp:U5 (OE X.prog X.w) X.A X.env X.xe) (hc:PT X c (f6 g bt)) (hb:gN X body (c9 g s1)):PS X (.While c body [] pos) (c9 g (gf fuel bt s1)):=PS.imp B7 (Dv hp hc hb)
inductive zl where
 | tup (xs:List AV)
 | lst (n:Nat)
 | rng (lo:Int) (n:Nat)
 | dit (n:Nat)
 | dks (n:Nat)
def zm (S:aU) (n:Nat):Option (List (AV×AV)):=match S.t.get n with
 | some (.fz (.dk kvs))=>some kvs
 | some (.fz (.dt kvs))=>some kvs
 | _=>none
def zl.nxt:zl->Nat->aU->Option (Option AV)
 | .tup xs,i,_=>some xs[i]?
 | .lst n,i,S=>match S.t.get n with
  | some (.lst xs)=>some xs[i]?
  | _=>none
 | .rng lo n,i,_=>match Qk i n with
  | true=>some (some (.int false (lo+.ofNat i) (lo+.ofNat i)))
  | false=>some none
 | .dit n,i,S=>match zm S n with
  | some kvs=>match kvs[i]? with
   | some (k,v)=>some (some (.tc k (.tc v .tn)))
   | none=>some none
  | none=>none
 | .dks n,i,S=>match zm S n with
  | some kvs=>match kvs[i]? with
   | some (k,_)=>some (some k)
   | none=>some none
  | none=>none
abbrev BI:=eg->aU->(zl->aU->Bool)->Bool
structure ow (g:Gx) (F:Fx) (y:Option Int) (ρ:List Oo) (H:Hp) (src:zl) (J:It):Prop where
 turn:∀y1 ρ1 S1 H1 i,aE F y ρ H y1 ρ1 H1->aM g F y1 ρ1 S1 H1->(∀av,src.nxt i S1=some (some av)->J.go i H1/\∀x H',J.yld i H1 x H'->aE F y1 ρ1 H1 y1 ρ1 H'/\aM g F y1 ρ1 S1 H'/\aY F y1 ρ1 H' av x)/\(src.nxt i S1=some none->J.stop i H1)
def Dm (g:Gx) (b:BI):TI:=λσ H R=>∃F y ρ S σa k,aM g F y ρ S H/\bL g F y ρ H σa σ/\b σa S k=true/\∀y1 ρ1 S1 H1 src J,aE F y ρ H y1 ρ1 H1->aM g F y1 ρ1 S1 H1->ow g F y1 ρ1 H1 src J->k src S1=true->R J H1
theorem PI.imp {iter:OP} {t t':TI} (h:∀σ H R,t' σ H R->t σ H R) (p:PI X tg iter t):PI X tg iter t':=λpins s σ H R I q=>p pins s σ H R I (h _ _ _ q)
def o3 (fuel:Nat) (it:BI) (t:BG) (s:BS):BS:=λd σ S=>it σ S λsrc S1=>Va (motive:=λ_=>Nat->eg->aU->Bool) (λ_ _ _=>false) (λ_ ih i σ S=>match src.nxt i S with
 | some (some x)=>t x σ S λσ2 S2=>s ⟨ih (i+1),d.rt,d.nx,ih (i+1)⟩ σ2 S2
 | some none=>d.nx σ S
 | none=>false) fuel 0 σ S1
def B8 (t:BG) (s:BS) (d:Ds) (src:zl) (fuel:Nat):Nat->eg->aU->Bool:=Va (motive:=λ_=>Nat->eg->aU->Bool) (λ_ _ _=>false) (λ_ ih i σ S=>match src.nxt i S with
 | some (some x)=>t x σ S λσ2 S2=>s ⟨ih (i+1),d.rt,d.nx,ih (i+1)⟩ σ2 S2
 | some none=>d.nx σ S
 | none=>false) fuel
theorem xr {F:Fx} {y1:Option Int} {ρ1:List Oo} {S1:aU} {H1:Hp} {fuel:Nat} {t:BG} {src:zl} {J:It} {d:Ds} {D:wK} {σ:L2.St} {σa:eg} (C1:aM g F y1 ρ1 S1 H1) (r1:bL g F y1 ρ1 H1 σa σ) (so:ow g F y1 ρ1 H1 src J) (h1:B8 t s1 d src fuel 0 σa S1=true)
  (p:l6 g F y1 ρ1 H1 d.nx D.nx) (pr:jd g F y1 ρ1 H1 d.rt D.rt):∃W:Nat->Nat->L2.St->Hp->Prop,(∃m,W 0 m σ H1)/\∀i m σ H,W i m σ H ->
 (J.stop i H/\D.nx σ H)∨(J.go i H/\∃N:L2.St->Hp->Prop,(∀σ' H',N σ' H'->∃m',m' < m/\W (i+1) m' σ' H')/\∀x H',J.yld i H x H'->qG g sl t x σ H' λσ2 H2=>c9 g s1 { D with nx:=N,ct:=N,bk:=D.nx } σ2 H2):=by
 refine⟨λi m σ' H'=>∃y' ρ' S' σa',aE F y1 ρ1 H1 y' ρ' H'/\aM g F y' ρ' S' H'/\bL g F y' ρ' H' σa' σ'/\B8 t s1 d src m i σa' S'=true,⟨fuel,y1,ρ1,S1,σa,.refl,C1,r1,h1⟩,?_⟩
 rintro i m σ2 H2 ⟨y2,ρ2,S2,σa2,st2,C2,r2,h2⟩
 obtain⟨t1,t2⟩:=so.turn y2 ρ2 S2 H2 i st2 C2
 cases m with
 | zero=>cases h2
 | succ m =>
  have h2:(match src.nxt i S2 with
   | some (some x)=>t x σa2 S2 λσ2 S2=>s1 ⟨B8 t s1 d src m (i+1),d.rt,d.nx,B8 t s1 d src m (i+1)⟩ σ2 S2
   | some none=>d.nx σa2 S2
   | none=>false)=true:=h2
  cases q:src.nxt i S2 with
  | none=>rw [q] at h2; cases h2
  | some ox=>cases ox with
   | none =>
    rw [q] at h2
    exact .inl ⟨t2 q,p y2 ρ2 S2 H2 σa2 σ2 st2 C2 r2 h2⟩
   | some ax =>
    rw [q] at h2
    obtain⟨go,yl⟩:=t1 ax q
    refine .inr ⟨go,λσ' H'=>∃y' ρ' S' σa',aE F y1 ρ1 H1 y' ρ' H'/\aM g F y' ρ' S' H'/\bL g F y' ρ' H' σa' σ'/\B8 t s1 d src m (i+1) σa' S'=true,λσ' H' q=>⟨m,Pj m,q⟩,λx H3 yx=>?_⟩
    obtain⟨st3,C3,rx⟩:=yl x H3 yx
    refine⟨F,y2,ρ2,S2,ax,σa2,_,C3,rx,bL.mono st3 r2,h2,λy4 ρ4 S4 H4 σ4 σ5 st4 C4 r4 _ h4=>?_⟩
    have stb:=(st2.trans st3).trans st4
    exact⟨F,y4,ρ4,S4,σ4,_,C4,r4,h4,λy5 ρ5 S5 H5 σ6 σ7 st5 C5 r5 h5=>⟨y5,ρ5,S5,σ6,stb.trans st5,C5,r5,h5⟩,pr.mono stb,p.mono stb,λy5 ρ5 S5 H5 σ6 σ7 st5 C5 r5 h5=>⟨y5,ρ5,S5,σ6,stb.trans st5,C5,r5,h5⟩⟩
theorem Hd {fuel:Nat} {it:BI} {t:BG}:∀D σ H,c9 g (o3 fuel it t s1) D σ H->Lx (Dm g it) (qG g sl t) (c9 g s1) D σ H:=by
 rintro D σ H ⟨F,y,ρ,S,σa,d,C,r,h,p,pr,pb,pc⟩
 exact⟨F,y,ρ,S,σa,_,C,r,h,λy1 ρ1 S1 H1 src J st C1 so h1=>xr C1 (bL.mono st r) so h1 (p.mono st) (pr.mono st)⟩
theorem gT (fuel:Nat) {iter:OP} {it:BI} {t:BG} (hp:U5 (OE X.prog X.w) X.A X.env X.xe) (hc:X.calm=true) (hi:PI X tg iter (Dm g it)) (hg:PG X tg (qG g sl t)) (hb:gN X body (c9 g s1))
  (hs:∀x,Qz iter X.env x=pure x:=by with_unfolding_all (intro _; rfl)):PS X (.For tg iter body [] pos) (c9 g (o3 fuel it t s1)):=PS.imp Hd (Dw hp hc hi hg hb hs)
def ez (a:BE):BI:=λσ S k=>a σ S λx S1=>match nw x with
 | some xs=>k (.tup xs) S1
 | none=>false
def il (a:BE):BI:=λσ S k=>a σ S λx S1=>match x with
 | .ref n=>match S1.t.get n with
  | some (.lst _)=>k (.lst n) S1
  | _=>false
 | _=>false
def zn (a:BA):BI:=λσ S k=>a σ S λxs S1=>match xs with
 | [.int false lo hi]=>match dw lo hi && dw hi lo && dw (-1000) lo && dw lo 1000 with
  | true=>k (.rng 0 lo.toNat) S1
  | false=>false
 | _=>false
def zo (a:BA):BI:=λσ S k=>a σ S λxs S1=>match xs with
 | [.int false lo hi,.int false lo' hi']=>match dw lo hi && dw hi lo && dw (-1000) lo && dw lo 1000 && dw lo' hi' && dw hi' lo' && dw (-1000) lo' && dw lo' 1000 with
  | true=>k (.rng lo (lo' - lo).toNat) S1
  | false=>false
 | _=>false
theorem c6 (h:PI X tg a (Lw X.K (up g ba))):PI X tg a (Dm g (ez ba)):=by
 refine PI.imp (λσ H R ⟨F,y,ρ,S,σa,k,C,r,h,p⟩=>?_) h
 refine aD C r h λy1 ρ1 S1 H1 ax x st C1 r1 rx h1=>?_
 cases q:nw ax with
 | none=>simp only [q] at h1; cases h1
 | some xs =>
  simp only [q] at h1
  obtain⟨a,vs,rfl,ha,pr⟩:=gA rx q
  refine⟨a,rfl,⟨vs,hZ.of ha⟩,p y1 ρ1 S1 H1 (.tup xs) _ st C1 ⟨λy2 ρ2 S2 H2 i st2 C2=>?_⟩ h1⟩
  have hq:hZ X.K H2 a vs:=hZ.of (st2.tup _ _ ha)
  have pr2:=aZ.mono st2 pr
  refine⟨λav e=>?_,λe=>?_⟩
  ·have e:xs[i]?=some av:=OU e
   obtain⟨v,h3,h4⟩:=dY pr2 e
   refine⟨⟨vs,v,hq,h3⟩,λz H' yz=>?_⟩
   obtain⟨rfl,yz⟩:=yz
   have:=yz vs hq
   rw [h3] at this; cases this
   exact⟨.refl,C2,h4⟩
  ·have e:xs[i]?=none:=OU e
   have:=O1.mp e
   exact⟨vs,hq,by rw [<-aW pr]; exact this⟩
theorem fO (h:PI X tg a (Ir X.K (up g ba))):PI X tg a (Dm g (il ba)):=by
 refine PI.imp (λσ H R ⟨F,y,ρ,S,σa,k,C,r,h,p⟩=>?_) h
 refine aD C r h λy1 ρ1 S1 H1 ax x st C1 r1 rx h1=>?_
 cases ax with
 | ref n =>
  dsimp only at h1
  cases q:S1.t.get n with
  | none=>rw [q] at h1; cases h1
  | some ob=>rw [q] at h1; cases ob with
   | lst xs =>
    obtain⟨a,vs,rfl,hρ,ha,pr⟩:=C1.lst rx q
    refine⟨a,rfl,⟨vs,hW.of ha⟩,p y1 ρ1 S1 H1 (.lst n) _ st C1 ⟨λy2 ρ2 S2 H2 i st2 C2=>?_⟩ h1⟩
    have rx2:aY F y2 ρ2 H2 (.ref n) (.ref a):=aY.mono st2 rx
    unfold zl.nxt
    dsimp only
    cases q2:S2.t.get n with
    | none=>exact⟨λ_ e=>(nomatch e),λe=>(nomatch e)⟩
    | some ob2=>cases ob2 with
     | lst xs2 =>
      obtain⟨a2,vs2,e2,_,ha2,pr2⟩:=C2.lst rx2 q2
      cases e2
      have hq:hW X.K H2 a vs2:=hW.of ha2
      refine⟨λav e=>?_,λe=>?_⟩
      ·have e:xs2[i]?=some av:=OU e
       obtain⟨v,h3,h4⟩:=dY pr2 e
       refine⟨⟨vs2,v,hq,h3⟩,λz H' yz=>?_⟩
       obtain⟨rfl,yz⟩:=yz
       have:=yz vs2 hq
       rw [h3] at this; cases this
       exact⟨.refl,C2,h4⟩
      ·have e:xs2[i]?=none:=OU e
       have:=O1.mp e
       exact⟨vs2,hq,by rw [<-aW pr2]; exact this⟩
     | _=>exact⟨λ_ e=>(nomatch e),λe=>(nomatch e)⟩
   | _=>cases h1
 | _=>cases h1
theorem IS {F:Fx} {lo:Int} {n:Nat}:ow g F y ρ H (.rng lo n) (Lv lo n):=by
 refine⟨λy2 ρ2 S2 H2 i st2 C2=>?_⟩
 unfold zl.nxt
 dsimp only
 cases q:Qk i n with
 | true =>
  have hi:i+1≤n:=bD q
  refine⟨λav e=>⟨hi,λx H' yx=>?_⟩,λe=>(nomatch e)⟩
  obtain⟨rfl,rfl⟩:=yx
  cases e
  exact⟨.refl,C2,_,rfl,Qy _,Qy _⟩
 | false =>
  refine⟨λav e=>(nomatch e),λ_=>?_⟩
  show n≤i
  have:¬i < n:=λh=>by
   have:Qk i n=true:=Nat.ble_eq_true_of_le h
   rw [q] at this; cases this
  omega
theorem AS (h:PI X tg a (Iu (hV g br))):PI X tg a (Dm g (zn br)):=by
 refine PI.imp (λσ H R ⟨F,y,ρ,S,σa,k,C,r,h,p⟩=>?_) h
 refine bq C r h λy1 ρ1 S1 H1 axs xs st C1 r1 rx h1=>?_
 split at h1
 ·rename_i lo hi
  split at h1
  ·rename_i q
   simp only [OI,bT] at q
   cases rx with | cons r0 t0=>cases t0 with | nil =>
   obtain⟨z,rfl,b1,b2⟩:=r0
   have:z=lo:=by omega
   subst this
   exact⟨z,rfl,by omega,by omega,p y1 ρ1 S1 H1 (.rng 0 z.toNat) _ st C1 IS h1⟩
  ·cases h1
 ·cases h1
theorem AT (h:PI X tg a (Iv (hV g br))):PI X tg a (Dm g (zo br)):=by
 refine PI.imp (λσ H R ⟨F,y,ρ,S,σa,k,C,r,h,p⟩=>?_) h
 refine bq C r h λy1 ρ1 S1 H1 axs xs st C1 r1 rx h1=>?_
 split at h1
 ·rename_i lo hi lo' hi'
  split at h1
  ·rename_i q
   simp only [OI,bT] at q
   cases rx with | cons r0 t0=>cases t0 with | cons r2 t2=>cases t2 with | nil =>
   obtain⟨z,rfl,b1,b2⟩:=r0
   obtain⟨w,rfl,b3,b4⟩:=r2
   have:z=lo:=by omega
   subst this
   have:w=lo':=by omega
   subst this
   exact⟨z,w,rfl,⟨by omega,by omega,by omega,by omega⟩,p y1 ρ1 S1 H1 (.rng z (w - z).toNat) _ st C1 IS h1⟩
  ·cases h1
 ·cases h1
def M0 (σ:List (Option AV)):List (Option Nat)->List (Option AV)
 | []=>[]
 | some j::r=>GZ σ j::M0 σ r
 | none::r=>none::M0 σ r
def wI (ix:List (Option Nat)) (σ:eg):eg:=⟨M0 σ.v ix,σ.ke⟩
theorem zq {F:Fx} {y:Option Int} {ρ:List Oo} {H:Hp} {σa:List (Option AV)} {σ:St} (r:fT F y ρ H σa σ):∀ix:List (Option Nat),fT F y ρ H (M0 σa ix) (iu ix σ)
 | []=>.nil
 | none::ix=>.cons trivial (zq r ix)
 | some j::ix=>by
  refine .cons ?_ (zq r ix)
  cases q:GZ σa j with
  | none=>trivial
  | some av =>
   obtain⟨v,e,rv⟩:=qI r q
   show fH F y ρ H (some av) (σ[j]?.join)
   rw [e]; exact rv
theorem EA {F:Fx} {σa:eg} (r:bL g F y ρ H σa σ) (ix:List (Option Nat)):bL g F y ρ H (wI ix σa) (iu ix σ):=⟨zq r.v ix,r.e⟩
def Kj (σ:eg) (t:BG) (tt:BT) (te:BE) (k:AV->aU->Bool) (src:zl) (fuel:Nat):Nat->List AV->aU->Bool:=Va (motive:=λ_=>Nat->List AV->aU->Bool) (λ_ _ _=>false) (λ_ ih i ys S=>match Pg ys.length 900 with
 | false=>false
 | true=>match src.nxt i S with
  | some none=>k (.ref S.n) (S.add (.lst ys))
  | some (some x)=>t x σ S λσ2 S2=>tt σ2 S2 λc S3=>match c with
   | true=>te σ2 S3 λz S4=>ih (i+1) (ys++[z]) S4
   | false=>ih (i+1) ys S3
  | none=>false) fuel
def qM (fuel:Nat) (ix:List (Option Nat)) (it:BI) (t:BG) (tt:BT) (te:BE):BE:=λσ S k=>it σ S λsrc S1=>Kj (wI ix σ) t tt te k src fuel 0 [] S1
def jw:BT:=λ_ S k=>k true S
theorem AU {F:Fx} {y1:Option Int} {ρ1:List Oo} {S1:aU} {H1:Hp} {fuel:Nat} {t:BG} {tt:BT} {te:BE} {src:zl} {J:It} {k:AV->aU->Bool} {Q:VK} {σ:L2.St} {σa:eg} (hsl:∀j∈sl,ix[j]?=some none) (C1:aM g F y1 ρ1 S1 H1) (r1:bL g F y1 ρ1 H1 σa σ) (so:ow g F y1 ρ1 H1 src J)
  (h1:Kj (wI ix σa) t tt te k src fuel 0 [] S1=true) (p:jd g F y1 ρ1 H1 k Q):∃W:Nat->Nat->List V->Hp->Prop,(∃m,W 0 m [] H1)/\∀i m ys H,W i m ys H->ys.length < OA /\
 ((J.stop i H/\∀p,H p=none->Q (.ref p) (upd H p (.lst ys)))∨(J.go i H/\∀x H',J.yld i H x H'->qG g sl t x (iu ix σ) H' λσ2 H2=>L2.yS (iu ix σ) σ2/\f6 g tt σ2 H2 λb H3 =>
  if b=true then up g te σ2 H3 λy H4=>∃m',m' < m/\W (i+1) m' (ys++[y]) H4 else ∃m',m' < m/\W (i+1) m' ys H3)):=by
 refine⟨λi m ys H'=>∃y' ρ' S' ays,aE F y1 ρ1 H1 y' ρ' H'/\aM g F y' ρ' S' H'/\aZ F y' ρ' H' ays ys/\Kj (wI ix σa) t tt te k src m i ays S'=true,⟨fuel,y1,ρ1,S1,[],.refl,C1,.nil,h1⟩,?_⟩
 rintro i m ys H2 ⟨y2,ρ2,S2,ays,st2,C2,r2,h2⟩
 obtain⟨t1,t2⟩:=so.turn y2 ρ2 S2 H2 i st2 C2
 cases m with
 | zero=>cases h2
 | succ m =>
  have h2:(match Pg ays.length 900 with
   | false=>false
   | true=>match src.nxt i S2 with
    | some none=>k (.ref S2.n) (S2.add (.lst ays))
    | some (some x)=>t x (wI ix σa) S2 λσ2 S2=>tt σ2 S2 λc S3=>match c with
     | true=>te σ2 S3 λz S4=>Kj (wI ix σa) t tt te k src m (i+1) (ays++[z]) S4
     | false=>Kj (wI ix σa) t tt te k src m (i+1) ays S3
    | none=>false)=true:=h2
  cases q0:Pg ays.length 900 with
  | false=>rw [q0] at h2; cases h2
  | true =>
   rw [q0] at h2
   have hl:=aW r2
   have hl2:=bD q0
   refine⟨cF (by omega),?_⟩
   dsimp only at h2
   cases q:src.nxt i S2 with
   | none=>rw [q] at h2; cases h2
   | some ox=>cases ox with
    | none =>
     rw [q] at h2
     refine .inl ⟨t2 q,λpl hp=>?_⟩
     have st3:aE F y2 ρ2 H2 y2 (ρ2++[pl]) (upd H2 pl (.lst ys)):=aE.add hp
     exact p y2 _ _ _ (.ref S2.n) _ (st2.trans st3) (C2.add (o:=.lst ays) hp ⟨ys,rfl,aZ.mono st3 r2⟩) ⟨pl,by rw [C2.n]; simp,rfl⟩ h2
    | some ax =>
     rw [q] at h2
     obtain⟨go,yl⟩:=t1 ax q
     refine .inr ⟨go,λx H3 yx=>?_⟩
     obtain⟨st3,C3,rx⟩:=yl x H3 yx
     have rl:bL g F y2 ρ2 H3 (wI ix σa) (iu ix σ):=EA (bL.mono (st2.trans st3) r1) ix
     refine⟨F,y2,ρ2,S2,ax,_,_,C3,rx,rl,h2,λy4 ρ4 S4 H4 σ4 σ5 st4 C4 r4 o4 h4=>⟨⟨o4.1.symm,λj v e=>?_⟩,?_⟩⟩
     ·rw [o4.2 j λm=>?_]
      ·exact e
      ·have z:=hsl j m
       unfold iu at e
       rw [PF,z] at e
       cases e
     ·refine ft C4 r4 h4 λy5 ρ5 S5 H5 c st5 C5 r5 h5=>?_
      have stc:=((st2.trans st3).trans st4).trans st5
      have r25:=aZ.mono ((st3.trans st4).trans st5) r2
      cases c with
      | false=>exact sA ⟨m,Pj m,y5,ρ5,S5,ays,stc,C5,r25,h5⟩
      | true =>
       refine sB (aD C5 r5 h5 λy6 ρ6 S6 H6 az z oS C6 r6 rz h6=>?_)
       exact⟨m,Pj m,y6,ρ6,S6,ays++[az],stc.trans oS,C6,dZ (aZ.mono oS r25) (.cons rz .nil),h6⟩
theorem EB {fuel:Nat} {it:BI} {t:BG} {tt:BT} {te:BE} (hsl:∀j∈sl,ix[j]?=some none):∀σ H Q,up g (qM fuel ix it t tt te) σ H Q->JT ix (Dm g it) (qG g sl t) (f6 g tt) (up g te) σ H Q:=by
 rintro σ H Q ⟨F,y,ρ,S,σa,k,C,r,h,p⟩
 exact⟨F,y,ρ,S,σa,_,C,r,h,λy1 ρ1 S1 H1 src J st C1 so h1=>AU hsl C1 (bL.mono st r) so h1 (p.mono st)⟩
theorem ce:oW X [] (f6 g jw):=λpins s σ H Q I ⟨F,y,ρ,S,σa,k,C,r,h,p⟩=>DU pins s σ H Q I (p.here C h)
theorem d4 {c:OP} (h:PT X c (f6 g bt)):oW X [c] (f6 g bt):=DV h
theorem fV (fuel:Nat) {it:BI} {t:BG} {tt:BT} {te:BE} (hsl:∀j∈sl,ix[j]?=some none) (h:PE X e (JT ix (Dm g it) (qG g sl t) (f6 g tt) (up g te))):PE X e (up g (qM fuel ix it t tt te)):=PE.imp (EB hsl) h
theorem md (fuel:Nat) (i:Nat) {it:BI} {t:BG} {tt:BT} {te:BE} (hsl:∀j∈sl,ix[j]?=some none) (h:PS X st (k6 (JT ix (Dm g it) (qG g sl t) (f6 g tt) (up g te)) (h8 i))):PS X st (c9 g (aX (qM fuel ix it t tt te) (ai i))) :=
 PS.imp (λD σ H ⟨F,y,ρ,S,σa,d,C,r,h,p,_⟩=>EB (fuel:=fuel) hsl σ H _ (aD C r h λy1 ρ1 S1 H1 ax x st C1 r1 rx h1=>p y1 ρ1 S1 H1 _ _ st C1 (dm r1 rx) h1)) h
end
end RB
variable {F:RB.Fx} {gy:RB.Gy} {g:RB.Gx}
namespace RB
open PySem PySem.Spec PyProof.Rows L2
def uE:Nat->List (Option AV)
 | 0=>[]
 | n+1=>none::uE n
def ny:Nat->List AV->List (Option AV)
 | n,[]=>uE n
 | n,a::r=>some a::ny (n - 1) r
def cf (n:Nat) (b:BS):BF:=λavs S k ke=>b ⟨λ_ S1=>k .non S1,k,λ_ _=>false,λ_ _=>false⟩ ⟨ny n avs,ke⟩ S
section
theorem nA:∀n:Nat,fT F y ρ H (uE n) (UO n none)
 | 0=>.nil
 | n+1=>.cons trivial (nA n)
theorem xt:∀{n:Nat} {avs:List AV} {vs:List V},aZ F y ρ H avs vs->vs.length≤n->fT F y ρ H (ny n avs) (vs.map some++UO (n - vs.length) none)
 | n,_,_,.nil,_=>by simpa [ny] using nA n
 | n,_,_,.cons (l₂:=t2) r t,h=>by
  simp at h
  have:=xt (n:=n - 1) t (by omega)
  unfold ny
  refine .cons r ?_
  have e:n - (t2.length+1)=n - 1 - t2.length:=by omega
  simp only [Pw,e]
  exact this
end
section
theorem qN {n:Nat} {N ps:List Str} {b:BS} {CX:lP} {A:P6} {outer:List Env} {s:Os} {Q:VK} {E:XK} {body:List Rf} (hN:ps.length≤N.length) (hps:ps.length=n)
  (h:mY gy n (cf N.length b) vs H Q E) (hb:gN X body (c9 ⟨gy,E⟩ b)):∃t,gN X body t/\t { nx:=λ_ H'=>Q .non H',rt:=Q } (fq N vs) H:=by
 obtain⟨F,y,ρ,S,avs,k,ke,C,r,hl,h,p,pe⟩:=h
 refine⟨_,hb,F,y,ρ,S,⟨ny N.length avs,ke⟩,_,C,⟨xt r (by omega),pe⟩,h,?_,p,?_,?_⟩
 ·intro y1 ρ1 S1 H1 σ1 σ2 st C1 r1 h1
  exact p y1 ρ1 S1 H1 .non _ st C1 rfl h1
 ·intro y1 ρ1 S1 H1 σ1 σ2 st C1 r1 h1; cases h1
 ·intro y1 ρ1 S1 H1 σ1 σ2 st C1 r1 h1; cases h1
def j6 (P:OZ) (w:Pl) (K:Ou) (mg:Str->Option Om) (base:O9) (gy:Gy) (CX:lP) (x:Str) (k n:Nat) (f:BF):Prop :=
 ∃fa fd ps,ps.length=n/\cr P w K mg base CX k fa fd ps (mY gy n f)/\mg x=some (.ref fa)/\O3 K (.ref fa)=true/\cP K fd ps []
theorem Kk {x:Str} {N ps:List Str} {k n:Nat} {b:BS} (d:cU K mg x st) (S:al N ps (af st)) (hn:ps.length=n:=by decide) (hN:ps.length≤N.length:=by decide)
  (hb:∀(kV doc pm:Om) (an:Option Oo) (cdv ct:Om) (us:List Om),us.length=ps.length->Sd (Ph x x (bY st) (a9 st) (af st) .none kV doc pm an cdv ct) ⟨us,[]⟩=pure (ps.zip us))
  (hbody:∀(f:Oo) (cdv:Om) (A:P6) (outer:List Env) (s:Os) (H:Hp) (E:XK),bn k (A.deeper (QT x (af st) s.heap.objs.size f cdv))->gN (ck fR P w K mg base N x (af st) f cdv A outer s H E).nox (a9 st) (c9 ⟨gy,E⟩ b)) :
  j6 P w K mg base gy fR x (k+1) n (cf N.length b):=by
 obtain⟨f,fd,F,hm⟩:=d
 refine⟨f,fd,ps,hn,F.ok S (λvs H Q E h=>?_) (λcdv A outer s H vs Q E hr h=>?_),hm,F.kp,F.binds hb⟩
 ·obtain⟨_,_,_,_,_,_,_,_,_,hl,_⟩:=h
  rw [hl,hn]
 ·exact qN (CX:=fR) (A:=A) (outer:=outer) (s:=s) hN hn h (hbody f cdv A outer s H E hr)
end
section
variable {CX:lP} {a b c e o:OP} {ba bb bc:BE} {bt:BT} {br bk:BA} {s1 s2:BS} {pos apos:Pos} {x m:Str} {p:Pos} {k n:Nat} {f:BF}
theorem gU:cB fR X g.E:=λ_ _ _ _ _ _ _ h=>h.elim
theorem Kl (c:j6 X.prog X.w X.K X.mg X.base g.toGy CX x k n f) (hr:bn k X.A) (hx:cB CX X g.E) (ha:PA X (e::es) (hV g br)) (hg:Gl X x:=by nofun) (hdb:(x == ("__debug__":Str))=false:=by decide)
  (he:hE9 X e es:=by nofun) (hpl:hP9 X pos es:=by nofun):PE X (.Call (.Name x p) (e::es) [] pos) (up g (aH (bU n f) br)):=by
 obtain⟨fa,fd,ps,hn,F,hm,hk,hb⟩:=c
 exact PE.imp Ek (Ai F hr hg hm hk hb .nil hx ha hdb he hpl)
def nB (P:OZ) (w:Pl) (K:Ou) (mg:Str->Option Om) (base:O9) (gy:Gy) (CX:lP) (c:Nat) (m:Str) (k n:Nat) (dA:List AV) (f:BF):Prop :=
 ∃fa fd ps ds dvs,ps.length=n/\cr P w K mg base CX k fa fd ps (mY gy n f)/\oU K (gy.cl c) m fa/\cP K fd ps ds/\aO dvs ds/\∀F y ρ H,aZ F y ρ H dA dvs
theorem ln {F:Fx} {y:Option Int} {ρ:List Oo} {H:Hp} {m:Str} (hm:∀i∈j0,bh[i]?≠some m):∀{fs:List (Nat×AV)} {gs:List (Str×V)},Paired (λp q=>bh[p.1]?=some q.1/\aY F y ρ H p.2 q.2) fs gs->(∀p∈fs,p.1∈j0)->gs.lookup m=none
 | _,_,.nil,_=>rfl
 | _,_,.cons (a:=(i,w)) (b:=(z,v)) hd tl,h=>by
  have:(m == z)=false:=by
   rw [beq_eq_false_iff_ne]
   intro e; subst e
   exact hm i (h (i,w) Oz) hd.1
  rw [Rb,this]
  exact ln hm tl λp hp=>h p (OF _ hp)
def bd (c n:Nat) (dA:List AV) (f:BF) (a:BE) (r:BA):BE:=λσ S k=>a σ S λx S1=>match x with
 | .ref i=>match S1.t.get i with
  | some (.ins c' _)=>match OL c' c with
   | true=>r σ S1 λxs S2=>bU n f (.ref i::(xs++dA)) S2 k σ.ke
   | false=>false
  | _=>false
 | _=>false
theorem mh {c:Nat} {dA:List AV} {dvs:List V} (hm:∀i∈j0,bh[i]?≠some m) (hd:∀F y ρ H,aZ F y ρ H dA dvs):∀σ H Q,up g (bd c n dA f ba br) σ H Q->uf (g.cl c) m (mY g.toGy n f) dvs g.E (up g ba) (hV g br) σ H Q:=λσ H Q ⟨F,y,ρ,S,σa,k,C,r,h,p⟩ =>
 aD C r h λy1 ρ1 S1 H1 ax x st C1 r1 rx h1=>by
  cases ax with
  | ref i =>
   dsimp only at h1
   cases q:S1.t.get i with
   | none=>rw [q] at h1; cases h1
   | some ob =>
    rw [q] at h1
    cases ob with
    | ins c' fs =>
     dsimp only at h1
     cases q2:OL c' c with
     | false=>rw [q2] at h1; cases h1
     | true =>
      rw [q2] at h1
      have ec:=OD q2
      subst ec
      obtain⟨a,dx,gs,rfl,hρ,hc2,ha,pr,hfl⟩:=C1.ins rx q
      refine⟨a,dx,gs,rfl,ha,ln hm pr hfl,bq C1 r1 h1 λy2 ρ2 S2 H2 axs xs st2 C2 r2 rxs h2=>?_⟩
      have rall:aZ F y2 ρ2 H2 (.ref i::(axs++dA)) (.ref a::(xs++dvs)):=.cons (aY.mono st2 rx) (dZ rxs (hd F y2 ρ2 H2))
      unfold bU at h2
      cases q3:OL (AV.ref i::(axs++dA)).length n with
      | false=>simp only [q3] at h2; cases h2
      | true =>
       simp only [q3] at h2
       exact⟨F,y2,ρ2,S2,_,k,σa.ke,C2,rall,by rw [<-aW rall]; exact OD q3,h2,p.mono (st.trans st2),r2.e⟩
    | _=>cases h1
  | _=>cases h1
theorem AW {pl:Sem Bool} {c:Nat} {dA:List AV} (M:nB X.prog X.w X.K X.mg X.base g.toGy CX c m k n dA f) (hc:mX X.K (g.cl c)) (hm:∀i∈j0,bh[i]?≠some m) (hr:bn k X.A) (hx:cB CX X g.E) (ho:PE X o (up g ba)) (ha:PA X (e::es) (hV g br))
  (hst:hE9 X e es:=by nofun) (hpl:hP9 X pos es:=by nofun)
  (ht:O2 (.Call (.Attribute o m apos) (e::es) [] pos) X.env=(do
   let ov <-O2 o X.env
   QL apos.atName
   let (f,first) <-Ra [ov] (QA ov m pl)
   Rk pos f first (Qa pos (OQ (e::es) X.env)) (PD pos (O5 [] X.env))):=by nofun) :
  PE X (.Call (.Attribute o m apos) (e::es) [] pos) (up g (bd c n dA f ba br)):=by
 obtain⟨fa,fd,ps,ds,dvs,hn,F,me,hb,hd,hA⟩:=M
 exact PE.imp (mh hm hA) (GB ho hc me F hr hb hd hx ha hst hpl ht)
theorem qO {pl:Sem Bool} {c:Nat} {dA:List AV} (M:nB X.prog X.w X.K X.mg X.base g.toGy CX c m k n dA f) (hc:mX X.K (g.cl c)) (hm:∀i∈j0,bh[i]?≠some m) (hr:bn k X.A) (hx:cB CX X g.E) (ho:PE X o (up g ba))
  (ht:O2 (.Call (.Attribute o m apos) [] [] pos) X.env=(do
   let ov <-O2 o X.env
   QL apos.atName
   let (f,first) <-Ra [ov] (QA ov m pl)
   Rk pos f first (Qa pos (OQ [] X.env)) (PD pos (O5 [] X.env))):=by nofun) :
  PE X (.Call (.Attribute o m apos) [] [] pos) (up g (bd c n dA f ba am)):=by
 obtain⟨fa,fd,ps,ds,dvs,hn,F,me,hb,hd,hA⟩:=M
 refine PE.imp (λσ H Q h=>?_) (DF ho hc me F hr hb hd hx ht)
 obtain⟨F',y,ρ,S,σa,k,C,r,h,p⟩:=h
 have:=mh (g:=g) (m:=m) (n:=n) (f:=f) (ba:=ba) (br:=am) (c:=c) hm hA σ H Q ⟨F',y,ρ,S,σa,k,C,r,h,p⟩
 -- the same but for the empty row of arguments
 obtain⟨F2,y2,ρ2,S2,σ2,k2,C2,r2,h2,p2⟩:=this
 refine⟨F2,y2,ρ2,S2,σ2,k2,C2,r2,h2,λy' ρ' S' H' av v st C' rv hk=>?_⟩
 obtain⟨a,dx,fs,e1,e2,e3,F3,y3,ρ3,S3,σ3,k3,C3,r3,h3,p3⟩:=p2 y' ρ' S' H' av v st C' rv hk
 exact⟨a,dx,fs,e1,e2,e3,p3 y3 ρ3 S3 H' [] [] .refl C3 .nil h3⟩
inductive vI where
 | arg (i:Nat)
 | dfl (a:AV) (v:V) (u:Om)
def o6 (zs:List AV):List vI->List AV
 | []=>[]
 | .arg i::r=>zs.getD i .non::o6 zs r
 | .dfl a _ _::r=>a::o6 zs r
def o7 (zs:List V):List vI->List V
 | []=>[]
 | .arg i::r=>zs.getD i .non::o7 zs r
 | .dfl _ v _::r=>v::o7 zs r
def xu (zs:List Om):List vI->List Om
 | []=>[]
 | .arg i::r=>zs.getD i .none::xu zs r
 | .dfl _ _ u::r=>u::xu zs r
def sK:List vI->Prop
 | []=>True
 | .arg _::r=>sK r
 | .dfl a v u::r=>(∀F y ρ H,aY F y ρ H a v)/\aP v u/\sK r
theorem EC {zs:List V} {ws:List Om} (r:aO zs ws) (i:Nat):aP (zs.getD i .non) (ws.getD i .none):=by
 cases e:zs[i]? with
 | none=>simp [Sz,e,r.none_of e,L2.aP]
 | some v =>
  obtain⟨u,h1,h2⟩:=r.get e
  simp [Sz,e,h1,h2]
theorem pP {zs:List V} {ws:List Om} (r:aO zs ws):∀{tpl:List vI},sK tpl->aO (o7 zs tpl) (xu ws tpl)
 | [],_=>.nil
 | .arg i::t,h=>.cons (EC r i) (pP r (tpl:=t) h)
 | .dfl a v u::t,h=>.cons h.2.1 (pP r (tpl:=t) h.2.2)
theorem B9 {zs:List AV} {ws:List V} (r:aZ F y ρ H zs ws) (i:Nat):aY F y ρ H (zs.getD i .non) (ws.getD i .non):=by
 cases e:zs[i]? with
 | none =>
  have hl:=aW r
  have:=O1.mp e
  have e2:ws[i]?=none:=O1.mpr (by omega)
  simp [Sz,e,e2]; rfl
 | some v =>
  obtain⟨u,h1,h2⟩:=dY r e
  simp [Sz,e,h1]; exact h2
theorem mi {F:Fx} {y:Option Int} {ρ:List Oo} {H:Hp} {zs:List AV} {ws:List V} (r:aZ F y ρ H zs ws):∀{tpl:List vI},sK tpl->aZ F y ρ H (o6 zs tpl) (o7 ws tpl)
 | [],_=>.nil
 | .arg i::t,h=>.cons (B9 r i) (mi r (tpl:=t) h)
 | .dfl a v u::t,h=>.cons (h.1 F y ρ H) (mi r (tpl:=t) h.2.2)
def mj (K:Ou) (fd:SH) (ps ks:List Str) (np:Nat) (tpl:List vI):Prop :=
 ∀(s:Os) (us ws:List Om),K.In s.heap->us.length=np->ws.length=ks.length->U6 s fd ⟨us,ks.zip ws⟩ (ps.zip (us++xu ws tpl))
def ED (P:OZ) (w:Pl) (K:Ou) (mg:Str->Option Om) (base:O9) (gy:Gy) (CX:lP) (c:Nat) (m:Str) (k n np:Nat) (ks:List Str) (tpl:List vI) (f:BF):Prop :=
 ∃fa fd ps,ps.length=n/\cr P w K mg base CX k fa fd ps (mY gy n f)/\oU K (gy.cl c) m fa/\mj K fd ps ks np tpl/\sK tpl
theorem Km {fa:Oo} {ps ks:List Str} {np:Nat} {tpl:List vI} {sp:Sp} {σ:L2.St} {Q:VK} {us ws:List Om} {vs zs:List V} (F:cr X.prog X.w X.K X.mg X.base CX k fa fd ps sp) (hr:bn k X.A) (hb:mj X.K fd ps ks np tpl) (ht:sK tpl) (hx:cB CX X g.E)
  (I:aC X pins σ H s) (r:aO vs us) (rz:aO zs ws) (h1:vs.length=np) (h2:zs.length=ks.length) (h:sp (vs++o7 zs tpl) H Q g.E):Ov (OE X.prog X.w) X.A (call (.ref fa) us (ks.zip ws)) (EP X pins σ Q) X.xe s:=by
 have r2:aO (vs++o7 zs tpl) (us++xu ws tpl):=r.append (pP rz ht)
 refine RF (PZ (F.run X.A X.stack s H ⟨us,ks.zip ws⟩ _ _ Q g.E hr I.env0 (hb s us ws I.kIn (by rw [<-r.length]; exact h1) (by rw [<-rz.length]; exact h2)) r2 h) λr s' hq=>?_)
 cases r with
 | error e=>exact hx pins σ H s e s' I hq
 | ok fl =>
  cases fl with
  | ret u=>exact I.after hq
  | next=>exact OX hq
  | brk=>exact OX hq
  | cont=>exact OX hq
def vJ (c n np nk:Nat) (tpl:List vI) (f:BF) (a:BE) (r kw:BA):BE:=λσ S k=>a σ S λx S1=>match x with
 | .ref i=>match S1.t.get i with
  | some (.ins c' _)=>match OL c' c with
   | true=>r σ S1 λxs S2=>kw σ S2 λzs S3=>match OL (xs.length+1) np && OL zs.length nk with
    | true=>bU n f (.ref i::(xs++o6 zs tpl)) S3 k σ.ke
    | false=>false
   | false=>false
  | _=>false
 | _=>false
theorem PK.imp {kws:List Se} {t t':TA} (h:∀σ H Q,t' σ H Q->t σ H Q) (p:PK X kws t):PK X kws t':=λpos pins s σ H Q I q=>p pos pins s σ H Q I (h _ _ _ q)
theorem vK:PK X [] (hV g am):=PK.imp (λσ H Q ⟨F,y,ρ,S,σa,k,C,r,h,p⟩=>p y ρ S H [] [] .refl C .nil h) JG
theorem ml {kws:List Se} {nm:Option Str} {kpos:Pos} (ha:PE X e (up g ba)) (hr:PK X kws (hV g br)):PK X (⟨nm,e,kpos⟩::kws) (hV g (ad ba br)) :=
 PK.imp (λσ H Q ⟨F,y,ρ,S,σa,k,C,r,h,p⟩=>aD C r h λy1 ρ1 S1 H1 ax x st C1 r1 rx h1=>bq C1 r1 h1 λy2 ρ2 S2 H2 az z st2 C2 r2 rz h2=>p y2 ρ2 S2 H2 (ax::az) (x::z) (st.trans st2) C2 (.cons (aY.mono st2 rx) rz) h2) (GD ha hr)
theorem qP {pl:Sem Bool} {c np:Nat} {ks:List Str} {tpl:List vI} {kws:List Se} (M:ED X.prog X.w X.K X.mg X.base g.toGy CX c m k n np ks tpl f) (hc:mX X.K (g.cl c)) (hm:∀i∈j0,bh[i]?≠some m) (hr:bn k X.A) (hx:cB CX X g.E) (ho:PE X o (up g ba)) (ha:PA X (e::es) (hV g br)) (hkw:PK X kws (hV g bk))
  (hall:(PD pos (O5 kws X.env)).all (·.1.isSome)=true:=by nofun) (hks:(PD pos (O5 kws X.env)).filterMap (·.1)=ks:=by nofun)
  (hst:hE9 X e es:=by nofun)
  (hpl:((Qa pos (OQ (e::es) X.env)).any (·.1) || (PD pos (O5 kws X.env)).any (·.1.isNone))=false:=by nofun)
  (ht:O2 (.Call (.Attribute o m apos) (e::es) kws pos) X.env=(do
   let ov <-O2 o X.env
   QL apos.atName
   let (f,first) <-Ra [ov] (QA ov m pl)
   Rk pos f first (Qa pos (OQ (e::es) X.env)) (PD pos (O5 kws X.env))):=by nofun) :
  PE X (.Call (.Attribute o m apos) (e::es) kws pos) (up g (vJ c n np ks.length tpl f ba br bk)):=by
 obtain⟨fa,fd,ps,hn,Fn,me,hb,hk⟩:=M
 intro pins s σ H Q I ⟨F,y,ρ,S,σa,kk,C,r,h,p⟩
 refine Ql (pl:=pl) (bG (ho pins s σ H (λx H1=>∃i a y1 ρ1 S1 dx gs,x=.ref a/\aE F y ρ H y1 ρ1 H1/\aM g F y1 ρ1 S1 H1/\bL g F y1 ρ1 H1 σa σ/\aY F y1 ρ1 H1 (.ref i) (.ref a)/\H1 a=some (.ins (g.cl c) dx gs)/\gs.lookup m=none /\
   br σa S1 (λxs S2=>bk σa S2 λzs S3=>match OL (xs.length+1) np && OL zs.length ks.length with
    | true=>bU n f (.ref i::(xs++o6 zs tpl)) S3 kk σa.ke
    | false=>false)=true) I (aD C r h λy1 ρ1 S1 H1 ax x st C1 r1 rx h1=>?_)) λu s1 ⟨x,H1,I1,rx,i,a,y1,ρ1,S1,dx,gs,ex,st1,C1,r1,ri,ea,l,h1⟩=>?_) ht
 ·cases ax with
  | ref i =>
   dsimp only at h1
   cases q:S1.t.get i with
   | none=>rw [q] at h1; cases h1
   | some ob =>
    rw [q] at h1
    cases ob with
    | ins c' fs =>
     dsimp only at h1
     cases q2:OL c' c with
     | false=>rw [q2] at h1; cases h1
     | true =>
      rw [q2] at h1
      have ec:=OD q2
      subst ec
      obtain⟨a,dx,gs,rfl,hρ,hc2,ha,pr,hfl⟩:=C1.ins rx q
      exact⟨i,a,y1,ρ1,S1,dx,gs,rfl,st,C1,r1,rx,ha,ln hm pr hfl,h1⟩
    | _=>cases h1
  | _=>cases h1
 ·subst ex
  obtain rfl:u=OJ a:=rx
  refine eM I1 ea hc me l ?_
  refine Vk (first:=[.ref a]) (h₀:=X.base) I.ok.mod.kin me.kp hall (bG (ha pos pins s1 σ H1 (λxs H2=>∃axs y2 ρ2 S2,aE F y1 ρ1 H1 y2 ρ2 H2/\aM g F y2 ρ2 S2 H2/\bL g F y2 ρ2 H2 σa σ/\aZ F y2 ρ2 H2 axs xs /\
    bk σa S2 (λzs S3=>match OL (axs.length+1) np && OL zs.length ks.length with
     | true=>bU n f (.ref i::(axs++o6 zs tpl)) S3 kk σa.ke
     | false=>false)=true) I1 (bq C1 r1 h1 λy2 ρ2 S2 H2 axs xs st2 C2 r2 rxs h2=>⟨axs,y2,ρ2,S2,st2,C2,r2,rxs,h2⟩)) λus s2 ⟨vs,H2,I2,rv,axs,y2,ρ2,S2,st2,C2,r2,rxs,h2⟩=>?_) hpl hst
  refine bG (hkw pos pins s2 σ H2 (λzs H3=>zs.length=ks.length/\(V.ref a::vs).length=np/\mY g.toGy n f ((V.ref a::vs)++o7 zs tpl) H3 Q g.E) I2 (bq C2 r2 h2 λy3 ρ3 S3 H3 azs zs st3 C3 r3 rzs h3=>?_)) λws s3 ⟨zs,H3,I3,rz,hz,hv,q3⟩=>⟨I3.kIn,?_⟩
  ·cases q:OL (axs.length+1) np && OL azs.length ks.length with
   | false=>simp only [q] at h3; cases h3
   | true =>
    simp only [q] at h3
    simp only [OI] at q
    have e1:=OD q.1
    have e2:=OD q.2
    have l1:=aW rxs
    have l2:=aW rzs
    have rall:aZ F y3 ρ3 H3 (.ref i::(axs++o6 azs tpl)) (.ref a::(vs++o7 zs tpl)):=.cons (aY.mono (st2.trans st3) ri) (dZ (aZ.mono st3 rxs) (mi rzs hk))
    refine⟨by omega,by simp; omega,?_⟩
    unfold bU at h3
    cases q3:OL (AV.ref i::(axs++o6 azs tpl)).length n with
    | false=>simp only [q3] at h3; cases h3
    | true =>
     simp only [q3] at h3
     exact⟨F,y3,ρ3,S3,_,kk,σa.ke,C3,rall,by rw [List.cons_append,<-aW rall]; exact OD q3,h3,p.mono ((st1.trans st2).trans st3),r3.e⟩
  ·rw [hks]
   exact Km (vs:=V.ref a::vs) Fn hr hb hk hx I3 (.cons (show L2.aP (.ref a) (OJ a) from rfl) rv) rz hv hz q3
def EE (c n:Nat) (f:BF) (r:BA):BE:=λσ S k=>r σ S λxs S1=>bU n f (.ref S1.n::xs) (S1.add (.ins c [])) (λv S2=>match v with
 | .non=>k (.ref S1.n) S2
 | _=>false) σ.ke
theorem EF {c:Nat} (hc:c < 2):∀σ H Q,up g (EE c n f br) σ H Q->Iz (g.cl c) (mY g.toGy n f) [] g.E (hV g br) σ H Q:=λσ H Q ⟨F,y,ρ,S,σa,k,C,r,h,p⟩ =>
 bq C r h λy1 ρ1 S1 H1 axs xs st C1 r1 rx h1=>by
  intro x dx hx hdx ne
  rw [QG]
  have hx2:(upd H1 dx (.own x)) x=none:=by rw [ao (P5 ne)]; exact hx
  have st2:aE F y1 ρ1 H1 y1 ρ1 (upd H1 dx (.own x)):=aE.lay hdx
  have C2:=C1.lay (o:=.own x) hdx
  have st3:aE F y1 ρ1 (upd H1 dx (.own x)) y1 (ρ1++[x]) (upd (upd H1 dx (.own x)) x (.ins (g.cl c) dx [])):=aE.add hx2
  have C3:=C2.add (o:=.ins c []) (ho:=.ins (g.cl c) dx []) hx2 ⟨dx,[],⟨hc,rfl,λp hp=>(nomatch hp)⟩,.nil⟩
  have st4:=(st.trans st2).trans st3
  have rn:∀{H':Hp},aY F y1 (ρ1++[x]) H' (.ref S1.n) (.ref x):=λ{H'}=>⟨x,by rw [C1.n]; simp,rfl⟩
  have rall:aZ F y1 (ρ1++[x]) (upd (upd H1 dx (.own x)) x (.ins (g.cl c) dx [])) (.ref S1.n::axs) (.ref x::xs):=.cons rn (aZ.mono (st2.trans st3) rx)
  unfold bU at h1
  cases q3:OL (AV.ref S1.n::axs).length n with
  | false=>simp only [q3] at h1; cases h1
  | true =>
   simp only [q3] at h1
   refine⟨F,y1,_,_,_,_,σa.ke,C3,rall,by rw [<-Pe rall]; exact OD q3,h1,λy5 ρ5 S5 H5 av v st5 C5 rv h5=>?_,r.e.mono st4⟩
   cases av with
   | non=>exact⟨rv,p y5 ρ5 S5 H5 (.ref S1.n) _ (st4.trans st5) C5 (aY.mono (av:=.ref S1.n) st5 rn) h5⟩
   | _=>cases h5
def NJ (P:OZ) (w:Pl) (K:Ou) (mg:Str->Option Om) (base:O9) (gy:Gy) (CX:lP) (c:Nat) (x:Str) (k n:Nat) (f:BF):Prop :=
 ∃fa fd ps,ps.length=n/\cr P w K mg base CX k fa fd ps (mY gy n f)/\Mk K (gy.cl c) fa/\mg x=some (.ref (gy.cl c))/\cP K fd ps []
theorem Hg {c:Nat} (hc:c < 2) (M:NJ X.prog X.w X.K X.mg X.base g.toGy CX c x k n f) (hr:bn (k+1) X.A) (hx:cB CX X g.E) (ha:PA X (e::es) (hV g br)) (hg:Gl X x:=by nofun) (hdb:(x == ("__debug__":Str))=false:=by decide)
  (he:hE9 X e es:=by nofun) (hpl:hP9 X pos es:=by nofun):PE X (.Call (.Name x p) (e::es) [] pos) (up g (EE c n f br)):=by
 obtain⟨fa,fd,ps,hn,F,mk,hm,hb⟩:=M
 exact PE.imp (EF hc) (GC mk F hr hg hm hb .nil hx ha hdb he hpl)
end
section
theorem Kn {x qual:Str} {fa:Oo} {N ps:List Str} {k n:Nat} {b:BS} (F:Fun K x qual st fa fd) (S:al N ps (af st)) (hn:ps.length=n:=by decide) (hN:ps.length≤N.length:=by decide)
  (hbody:∀(cdv:Om) (A:P6) (outer:List Env) (s:Os) (H:Hp) (E:XK),bn k (A.deeper (QT qual (af st) s.heap.objs.size fa cdv))->gN (ck fR P w K mg base N qual (af st) fa cdv A outer s H E).nox (a9 st) (c9 ⟨gy,E⟩ b)) :
  cr P w K mg base fR (k+1) fa fd ps (mY gy n (cf N.length b)):=by
 refine F.ok S (λvs H Q E h=>?_) (λcdv A outer s H vs Q E hr h=>?_)
 ·obtain⟨_,_,_,_,_,_,_,_,_,hl,_⟩:=h
  rw [hl,hn]
 ·exact qN (CX:=fR) (A:=A) (outer:=outer) (s:=s) hN hn h (hbody cdv A outer s H E hr)
end
end RB
namespace RB
open PySem PySem.Spec L2
theorem Ca:Pb "any" = some (.builtin "any"):=by decide +kernel
theorem Cb:Pb "all" = some (.builtin "all"):=by decide +kernel
structure LW (mg:Str->Option Om):Prop extends Mods mg where
 any:mg "any" = none
 all:mg "all" = none
end RB
namespace L2
open PySem PySem.Spec PyProof.Rows
section
variable {a b:OP} {ta tb:TE} {rest:List OP}
theorem LX:Ly X (λx H Q=>on (sE H x) λb=>Q b H):=by
 intro pins s σ H x v Q I rx h
 obtain⟨b,e,q⟩:=dJ h
 refine yH pins s σ H x v Q I rx ⟨b,?_,q⟩
 cases x with
 | non=>cases e; rfl
 | bl b=>cases e; rfl
 | int i=>cases e; rfl
 | ref a =>
  simp only [sE] at e
  split at e
  ·cases e; exact .inl ⟨_,.inl (.inl ‹_›),rfl⟩
  ·cases e; exact .inr (.inl ⟨_,hZ.of ‹_›,rfl⟩)
  ·cases e; exact .inl ⟨_,.inl (.inr ⟨_,‹_›⟩),rfl⟩
  ·cases e; exact .inr (.inr ⟨_,‹_›,rfl⟩)
  ·cases e
 | _=>cases e
def NK (ta tb:TE):TE:=λσ H Q=>ta σ H λx H1=>on (sE H1 x) λc=>if c=true then Q x H1 else tb σ H1 Q
theorem Ko (ha:PE X a ta) (hb:PE X (.BoolOp .Or (b::rest) pos) tb):PE X (.BoolOp .Or (a::b::rest) pos) (NK ta tb):=by
 intro pins s σ H Q I h
 refine BoolOp_or (bG (ha pins s σ H _ I h) λv s1 ⟨x,H1,I1,r1,q1⟩=>?_)
 refine bG (LX pins s1 σ H1 x v (λc H2=>if c=true then Q x H2 else tb σ H2 Q) I1 r1 q1) λc s2 ⟨H2,I2,q2⟩=>?_
 cases c with
 | false=>exact hb pins s2 σ H2 Q I2 q2
 | true=>exact⟨x,H2,I2,r1,q2⟩
theorem vL:∀{bs:List Bool} {us:List Om},aO (bs.map V.bl) us->us=bs.map Qm
 | [],_,r=>by cases r; rfl
 | b::bs,_,r=>by
  cases r with
  | cons h t=>cases h; rw [vL t]; rfl
theorem xv (bs:List Bool):(Ss bs.length).map (λi=>bs.getD i false)=bs:=by
 apply List.ext_getElem
 ·simp
 ·intro i h1 h2
  simp at h1
  simp [Sz,h1]
def IT:List V->Hp->VK->Prop:=λxs H Q=>∃(a:Oo) (bs:List Bool),xs=[.ref a]/\H a=some (.lst (bs.map V.bl))/\Q (.bl (bs.any id)) H
def IU:List V->Hp->VK->Prop:=λxs H Q=>∃(a:Oo) (bs:List Bool),xs=[.ref a]/\H a=some (.lst (bs.map V.bl))/\Q (.bl (bs.all id)) H
theorem xw (bs:List Bool):TruthOf prog w A (λi v=>(bs.map Qm).toArray[i]?=some v) (λi=>bs.getD i false):=by
 intro i v s Q E hP hQ
 rw [List.getElem?_toArray,PF] at hP
 cases e:bs[i]? with
 | none=>rw [e] at hP; cases hP
 | some c =>
  rw [e] at hP
  cases hP
  have:bs.getD i false=c:=by simp [Sz,e]
  dsimp only at hQ
  rw [this] at hQ
  exact Qc hQ
theorem Cc (hc:X.calm=true):dI X (.builtin "any") IT:=by
 intro pins s σ H xs us Q I r h
 obtain⟨a,bs,rfl,ha,q⟩:=h
 obtain⟨u,rfl,ru⟩:=jk r
 cases ru
 obtain⟨its,n,rv,ho,hz⟩:=I.lst ha
 have e:=vL rv
 subst e
 have hl:s.heap.IsList a (bs.map Qm).toArray:=⟨_,ho,rfl,n,rfl⟩
 have hne:a≠s.heap.objs.size:=OG (Oy ho)
 have kp:∀b o,s.heap.get? b=some o->(s.heap.push { cls:=.type "list_iterator",data:=.fields #[.ref a,.int 0 0] }).get? b=some o:=λb o e=>Op _ e
 refine call_any_walk (TV hl ⟨_,_,_,_,_,_,_,rfl,Zs (A:=X.A.in1) (I.ok.hd hc) s.heap.objs.size a hne (bs.map Qm).toArray,⟨⟨_,Ox _ rfl,rfl,rfl⟩,⟨_,kp a _ ho,rfl,n,rfl⟩⟩,xw bs,λh' tk kk=>?_⟩)
 refine⟨.bl (bs.any id),H,I.kept λb o e=>kk b o (λm=>?_) (kp b o e),?_,q⟩
 ·have:b=s.heap.objs.size:=by simpa using m
  exact absurd (Oy e) (by rw [this]; exact Qw _)
 ·show Qm _=Qm _
  congr 1
  conv=>rhs; rw [<-xv bs]
  rw [List.any_map]
  simp
theorem Cd (hc:X.calm=true):dI X (.builtin "all") IU:=by
 intro pins s σ H xs us Q I r h
 obtain⟨a,bs,rfl,ha,q⟩:=h
 obtain⟨u,rfl,ru⟩:=jk r
 cases ru
 obtain⟨its,n,rv,ho,hz⟩:=I.lst ha
 have e:=vL rv
 subst e
 have hl:s.heap.IsList a (bs.map Qm).toArray:=⟨_,ho,rfl,n,rfl⟩
 have hne:a≠s.heap.objs.size:=OG (Oy ho)
 have kp:∀b o,s.heap.get? b=some o->(s.heap.push { cls:=.type "list_iterator",data:=.fields #[.ref a,.int 0 0] }).get? b=some o:=λb o e=>Op _ e
 refine call_all_walk (TV hl ⟨_,_,_,_,_,_,_,rfl,Zs (A:=X.A.in1) (I.ok.hd hc) s.heap.objs.size a hne (bs.map Qm).toArray,⟨⟨_,Ox _ rfl,rfl,rfl⟩,⟨_,kp a _ ho,rfl,n,rfl⟩⟩,xw bs,λh' tk kk=>?_⟩)
 refine⟨.bl (bs.all id),H,I.kept λb o e=>kk b o (λm=>?_) (kp b o e),?_,q⟩
 ·have:b=s.heap.objs.size:=by simpa using m
  exact absurd (Oy e) (by rw [this]; exact Qw _)
 ·show Qm _=Qm _
  congr 1
  conv=>rhs; rw [<-xv bs]
  rw [Uo]
  simp
theorem o8 {a:Oo} {its:Array Om} (hz:¬(its.size:Int) ≥ 2 ^ 63) :
  Meets (QX.«bool.__new__» ⟨[.type "bool",.ref a],[]⟩) (λ_ R s=>s.heap.IsList a its/\R (.ok (.ret (.bool (!its.isEmpty)))) { s with toks:=s.toks+1+1 }) :=
 Meets.of_wp λpr w' A' R' st hst=>by
  obtain⟨h0,g0,d0,t0,o0⟩:=st
  obtain⟨hl,hs⟩:=hst
  have sub0:=F.conv_sub_bool
  repeat (any_goals (first | assumption | (with_reducible refine VU hl (by omega) ?_) | wp_step))
  all_goals first | exact⟨_,rfl,hs⟩ | exact hs | skip
def EG:List V->Hp->VK->Prop:=λxs H Q=>∃a ys,xs=[.ref a]/\H a=some (.lst ys)/\Q (.bl (!ys.isEmpty)) H
theorem zr:dI X (.type "bool") EG:=by
 intro pins s σ H xs us Q I r h
 obtain⟨a,ys,rfl,ha,q⟩:=h
 obtain⟨u,rfl,ru⟩:=jk r
 cases ru
 obtain⟨its,n,rv,ho,hz⟩:=I.lst ha
 have hlen:=rv.length
 have h63:=qb
 refine call_bool_1 (o8 (a:=a) (its:=its.toArray) (by rw [Ot]; omega)) ⟨⟨_,ho,rfl,n,rfl⟩,?_⟩
 exact⟨rfl,.bl (!ys.isEmpty),H,(I.tok _).tok _,by rw [<-k7 rv]; rfl,q⟩
end
end L2
namespace RB
open PySem L2
section
variable {a b c e o:OP} {ba bb bc:BE} {bt:BT} {br bk:BA} {s1 s2:BS} {es rest:List OP}
def LY (a b:BE):BE:=λσ S k=>a σ S λx S1=>match B4 S1 x with
 | some true=>k x S1
 | some false=>b σ S1 k
 | none=>false
theorem Kq (ha:PE X a (up g ba)) (hb:PE X (.BoolOp .Or (b::rest) pos) (up g bb)):PE X (.BoolOp .Or (a::b::rest) pos) (up g (LY ba bb)):=by
 refine PE.imp (λσ H Q ⟨F,y,ρ,S,σa,k,C,r,h,p⟩=>?_) (Ko ha hb)
 refine aD C r h λy1 ρ1 S1 H1 ax x st C1 r1 rx h1=>?_
 cases q:B4 S1 ax with
 | none=>simp only [q] at h1; cases h1
 | some d =>
  simp only [q] at h1
  rw [AN C1 rx q,bZ]
  cases d with
  | true=>exact sB (p y1 ρ1 S1 H1 ax x st C1 rx h1)
  | false=>exact sA ⟨F,y1,ρ1,S1,σa,k,C1,r1,h1,p.mono st⟩
def EH:List AV->Option (List Bool)
 | []=>some []
 | .bl b::r=>match EH r with
  | some bs=>some (b::bs)
  | none=>none
 | _::_=>none
theorem vM {F:Fx} {y:Option Int} {ρ:List Oo} {H:Hp}:∀{xs:List AV} {vs:List V} {bs:List Bool},aZ F y ρ H xs vs->EH xs=some bs->vs=bs.map V.bl
 | _,_,_,.nil,h=>by cases h; rfl
 | _,_,bs,.cons (a:=ax) r t,h=>by
  cases ax with
  | bl c =>
   unfold EH at h
   split at h
   ·rename_i cs q
    cases h
    rw [vM t q]
    cases (show _=V.bl c from r)
    rfl
   ·cases h
  | _=>cases h
def Kr:List AV->aU->(AV->aU->Bool)->Bool:=λxs S k=>match xs with
 | [x]=>match l8 S x with
  | some ys=>match EH ys with
   | some bs=>k (.bl (bs.any id)) S
   | none=>false
  | none=>false
 | _=>false
def iH:List AV->aU->(AV->aU->Bool)->Bool:=λxs S k=>match xs with
 | [x]=>match l8 S x with
  | some ys=>match EH ys with
   | some bs=>k (.bl (bs.all id)) S
   | none=>false
  | none=>false
 | _=>false
theorem Hh:oY g IT Kr:=by
 intro F y ρ S H xs axs k Q C rx h p
 unfold Kr at h
 split at h
 ·split at h
  ·rename_i ys q
   split at h
   ·rename_i bs q2
    cases rx with | cons r t=>cases t with | nil =>
    obtain⟨n,a,vs,rfl,rfl,_,ha,pr⟩:=fh C r q
    have e:=vM pr q2
    subst e
    exact⟨a,bs,rfl,ha,p.here C (av:=.bl _) rfl h⟩
   ·cases h
  ·cases h
 ·cases h
theorem Hi:oY g IU iH:=by
 intro F y ρ S H xs axs k Q C rx h p
 unfold iH at h
 split at h
 ·split at h
  ·rename_i ys q
   split at h
   ·rename_i bs q2
    cases rx with | cons r t=>cases t with | nil =>
    obtain⟨n,a,vs,rfl,rfl,_,ha,pr⟩:=fh C r q
    have e:=vM pr q2
    subst e
    exact⟨a,bs,rfl,ha,p.here C (av:=.bl _) rfl h⟩
   ·cases h
  ·cases h
 ·cases h
def EI:List AV->aU->(AV->aU->Bool)->Bool:=λxs S k=>match xs with
 | [x]=>match l8 S x with
  | some ys=>k (.bl (!ys.isEmpty)) S
  | none=>false
 | _=>false
theorem EJ:oY g EG EI:=by
 intro F y ρ S H xs axs k Q C rx h p
 unfold EI at h
 split at h
 ·split at h
  ·rename_i ys q
   cases rx with | cons r t=>cases t with | nil =>
   obtain⟨n,a,vs,rfl,rfl,_,ha,pr⟩:=fh C r q
   refine⟨a,vs,rfl,ha,?_⟩
   rw [<-iF pr]
   exact p.here C (av:=.bl _) rfl h
  ·cases h
 ·cases h
def LZ (xs:List AV):Nat->List AV
 | 0=>[]
 | n+1=>xs++LZ xs n
def Oe:AV->AV->aU->(AV->aU->Bool)->Bool:=λa b S k=>match b with
 | .int false lo hi=>match dw lo hi && dw hi lo && dw 0 lo && dw lo 20 with
  | true=>match l8 S a with
   | some xs=>match Pg xs.length 20 with
    | true=>k (.ref S.n) (S.add (.lst (LZ xs lo.toNat)))
    | false=>false
   | none=>false
  | false=>false
 | _=>false
def Ks (n:Nat) (a:BE):BE:=λσ S k=>a σ S λx S1=>match nw x with
 | some xs=>match Pg n xs.length with
  | true=>k (chain (xs.drop n)) S1
  | false=>false
 | none=>false
theorem nC {F:Fx} {y:Option Int} {ρ:List Oo} {H:Hp}:∀{xs:List AV} {vs:List V} (n:Nat),aZ F y ρ H xs vs->aZ F y ρ H (xs.drop n) (vs.drop n)
 | _,_,0,r=>r
 | _,_,_+1,.nil=>.nil
 | _,_,n+1,.cons _ t=>nC n t
theorem Ce (n:Nat) (xs:List V) (h:n≤xs.length):k9 xs (some (n:Int)) none=xs.drop n:=by
 unfold k9
 have e:HT.sIx xs.length 0 (some (n:Int))=min n xs.length:=HT.sIx_nat xs.length 0 n
 rw [e,HT.sIx_none,Nat.min_eq_left h,Up (by rw [T8]; exact OB _)]
theorem EK (n:Nat) (h:PE X e (N5 IG (up g ba) (IA (tC (.int (n:Int)))) Ak)):PE X e (up g (Ks n ba)):=by
 refine PE.imp (λσ H Q ⟨F,y,ρ,S,σa,k,C,r,h,p⟩=>?_) h
 refine aD C r h λy1 ρ1 S1 H1 ax x st C1 r1 rx h1=>⟨(n:Int),rfl,?_⟩
 cases q:nw ax with
 | none=>simp only [q] at h1; cases h1
 | some xs =>
  simp only [q] at h1
  split at h1
  ·rename_i q2
   obtain⟨a,vs,rfl,ha,pr⟩:=gA rx q
   have hl:=aW pr
   have hn:=bD q2
   show on (ic H1 (.ref a)) λxs=>(∀p,H1 p=none->Q (.ref p) (upd H1 p (.tup (k9 xs (some (n:Int)) none))))/\(k9 xs (some (n:Int)) none=xs->Q (.ref a) H1)
   rw [ie ha,bZ,Ce n vs (by omega)]
   refine⟨λpl hp=>?_,λe=>?_⟩
   ·have st2:aE F y1 ρ1 H1 y1 ρ1 (upd H1 pl (.tup (vs.drop n))):=aE.lay hp
    exact p y1 ρ1 S1 _ _ _ (st.trans st2) (C1.lay hp) (aY.chain aF (aZ.mono st2 (nC n pr))) h1
   ·have pr2:=nC n pr
    rw [e] at pr2
    exact p y1 ρ1 S1 H1 _ _ st C1 (aY.chain ha pr2) h1
  ·cases h1
abbrev BP:=eg->aU->(List (AV×AV)->aU->Bool)->Bool
def IV:BP:=λ_ S k=>k [] S
def vN (a b:BE) (r:BP):BP:=λσ S k=>a σ S λx S1=>b σ S1 λz S2=>r σ S2 λps S3=>k ((x,z)::ps) S3
end
end RB
namespace L2
open PySem PySem.Spec PyProof.Rows
structure NL (h:O9) (d:Oo) (ob:Obj) (es:Array Q4) (ep:Nat):Prop where
 at_:h.get? d=some ob
 ex:ob.ExactDict
 dat:ob.data=.dict es ep
section
variable {d it:Oo} {ob:Obj} {es:Array Q4} {ep i:Nat} {ok ov:Om}
theorem xx (hd:(d == P0)=false):MeetsIn prog w (QX.«dict.items» ⟨[.ref d],[]⟩) (λ_ R s=>s.TypeIs (.ref d) "dict" /\
  R (.ok (.ret (.ref s.heap.objs.size))) { s with heap:=s.heap.push { cls:=.type "dict_items",data:=.fields #[.ref d] } }) :=
 .of_wp λA' R' st ⟨ty,h⟩=>by
  unfold QX.«dict.items» Zh
  refine Ol (Ol (UI ty ?_))
  show Ov _ _ (pure d) _ _ st
  refine On (show Ov _ _ (UJ d >>= _) _ _ st from ?_)
  unfold UJ
  rw [if_neg (by rw [hd]; decide)]
  exact Ol (On (Ol (Pc (On ⟨_,rfl,h⟩))))
theorem EL {v:Oo} {Q:Om->Os->Prop} (hv:s.heap.IsItemsView v d) (en:NL s.heap d ob es ep)
  (hQ:Q (.ref s.heap.objs.size) { s with heap:=s.heap.push { cls:=.type "dict_itemiterator",data:=.fields #[.none,.bool false,.ref d,.int 0 0,.int es.size 0,.int ep 0,.none,.none] } }) :
  Ov (OE prog w) A (Wg (.ref v)) Q E s:=by
 obtain⟨o2,g1,g2,g3⟩:=id hv
 refine Sk hv.typeIs Uu (Po Uu hv.typeIs F.entry_dict_items_iter ?_ (F.args_dict_items_iter_1 _))
 unfold QX.«dict_items.__iter__» XD Wn
 refine Ol (On (Ol (Ol (Rc g1 g3 (x:=.ref d) rfl (On (Ol (Ol (Sl en.at_ en.dat (Ol (UB en.at_ en.dat ?_))))))))))
 have own:Rv "dict_itemiterator" = true:=by decide
 rw [own]
 refine Pc (On ⟨_,rfl,"dict_itemiterator",_,⟨_,Ox _ rfl,rfl⟩,Py.lookup,?_⟩) ?_
 ·simpa [To,RU] using hQ
 ·simp only [sizeOk,RU,if_true,Ot,Qq,Pw,Uz,O4]
  omega
theorem EM {Q:Option Om->Os->Prop} {e:Q4} (hit:R1 s.heap it d i es.size ep ok ov) (en:NL s.heap d ob es ep) (hx:es[i]?=some e)
  (hQ:∀h',Vv h' it d (i+1) es.size ep e.key e.val s.heap.objs.size->h'.get? s.heap.objs.size=some { cls:=.type "tuple",data:=.seq #[e.key,e.val] }->h'.objs.size=s.heap.objs.size+1 ->
   (∀b o,b≠it->s.heap.get? b=some o->h'.get? b=some o)->Q (some (.ref s.heap.objs.size)) { s with heap:=h' }) :
  Ov (OE prog w) A (Tn (.ref it)) Q E s:=by
 obtain⟨h0,g0,d0,t0,o0⟩:=s
 have ty:Vw ⟨h0,g0,d0,t0,o0⟩ (.ref it) "dict_itemiterator":=⟨_,hit,rfl⟩
 have own:Rv "dict_itemiterator" = true:=by decide
 have hlt:i < es.size:=(TH.mp hx).1
 unfold Tn
 refine Ol (RT (P4 (name:=Oq "__next__") ty Py (Po Py ty SC ?_ (Sn _))))
 refine Ol (On (Ol (Ol ?_)))
 first | refine Ol (Qu ty (On (Ol (RG hit rfl ?_)))) | refine Ol (Q0 ty (On (Ol (RG hit rfl ?_))))
 rw [own]
 simp only [if_true]
 show Ov _ _ (if (OJ d == Pr)=true then _ else _) _ _ _
 rw [if_neg (show ¬((OJ d == Pr)=true) from OK)]
 refine Ol (On (Ol (Sl en.at_ en.dat ?_)))
 rw [if_neg (by simp)]
 refine Ol (On (Ol (UB en.at_ en.dat ?_)))
 rw [if_neg (by simp)]
 refine On ?_
 simp only [show ¬((i:Int) < 0) from by omega,if_false,RD,hx]
 refine Ol ?_
 first | refine Ol (Qu ty (On (Ol (Rs ty ?_)))) | refine Ol (Q0 ty (On (Ol (Rs ty ?_))))
 show Ov _ _ (setField (.ref it) 3 (To ((i:Int)+1)) >>= _) _ _ ⟨h0,g0,d0,t0,o0⟩
 refine Ol (P1 hit (by simp) λh1 e1 b1=>?_)
 have sb1:P9 it h0 h1:=b1
 have it1:R1 h1 it d (i+1) es.size ep ok ov:=by
  have z:((i+1:Nat):Int)=(i:Int)+1:=by omega
  show h1.get? it=_
  rw [z]
  simpa [To] using e1
 have ty1:Vw ⟨h1,g0,d0,t0,o0⟩ (.ref it) "dict_itemiterator":=⟨_,it1,rfl⟩
 refine Ol (Ps (Ol (Rs ty1 (Ol (Rs ty1 ?_)))))
 show Ov _ _ (Sm (.ref it) 6 e.key e.val) _ _ ⟨h1,g0,d0,t0,o0⟩
 unfold Sm Vx
 refine Ol (TC ?_)
 have sz1:h1.objs.size=h0.objs.size:=sb1.1
 have lt0:it < h0.objs.size:=Oy hit
 have it2:R1 (h1.push { cls:=.type "tuple",data:=.seq #[e.key,e.val] }) it d (i+1) es.size ep ok ov:=Op _ it1
 have tp2:(h1.push { cls:=.type "tuple",data:=.seq #[e.key,e.val] }).get? h0.objs.size=some { cls:=.type "tuple",data:=.seq #[e.key,e.val] }:=by rw [<-sz1]; exact Ox _ rfl
 have sz2:(h1.push { cls:=.type "tuple",data:=.seq #[e.key,e.val] }).objs.size=h0.objs.size+1:=by rw [QR,sz1]
 have kp2:∀b o,b≠it->h0.get? b=some o->(h1.push { cls:=.type "tuple",data:=.seq #[e.key,e.val] }).get? b=some o:=λb o n q=>Op _ (sb1.extBut b o n q)
 show Ov _ _ (_ >>= _) _ _ ⟨h1.push { cls:=.type "tuple",data:=.seq #[e.key,e.val] },g0,d0,t0,o0⟩
 revert it2 tp2 sz2 kp2
 generalize h1.push { cls:=.type "tuple",data:=.seq #[e.key,e.val] }=h2
 intro it2 tp2 sz2 kp2
 rw [sz1]
 refine Ol (Ol (Rc it2 rfl (x:=.none) rfl (On ?_)))
 simp only [if_true]
 refine Ol (Rc it2 rfl (x:=ok) rfl (Ol (Rc it2 rfl (x:=ov) rfl ?_)))
 refine Ol (P1 it2 (by simp) λh3 e3 b3=>?_)
 have it3:R1 h3 it d (i+1) es.size ep e.key ov:=e3
 refine Ol (P1 it3 (by simp) λh4 e4 b4=>?_)
 have it4:R1 h4 it d (i+1) es.size ep e.key e.val:=e4
 refine Ol (P1 it4 (by simp) λh5 e5 b5=>?_)
 have it5:Vv h5 it d (i+1) es.size ep e.key e.val h0.objs.size:=e5
 refine Ol (P1 it5 (by simp) λh6 e6 b6=>?_)
 have it6:Vv h6 it d (i+1) es.size ep e.key e.val h0.objs.size:=e6
 have s3:P9 it h2 h3:=b3
 have s4:P9 it h3 h4:=b4
 have s5:P9 it h4 h5:=b5
 have s6:P9 it h5 h6:=b6
 have all:∀b o,b≠it->h2.get? b=some o->h6.get? b=some o:=λb o n q=>s6.extBut b o n (s5.extBut b o n (s4.extBut b o n (s3.extBut b o n q)))
 refine Ol (UT (On (On ⟨_,rfl,On (hQ h6 it6 (all _ _ (RI lt0) tp2) ?_ λb o n q=>all b o n (kp2 b o n q))⟩)))
 show h6.objs.size=h0.objs.size+1
 rw [s6.1,s5.1,s4.1,s3.1,sz2]
theorem Hj {Q:Option Om->Os->Prop} (hh:A.handled=none) (hit:R1 s.heap it d i es.size ep ok ov) (en:NL s.heap d ob es ep) (hx:es.size≤i)
  (hQ:∀h',Y1 it s.heap h'->Q none { s with heap:=h' }):Ov (OE prog w) A (Tn (.ref it)) Q E s:=by
 have ty:s.TypeIs (.ref it) "dict_itemiterator":=⟨_,hit,rfl⟩
 have own:Rv "dict_itemiterator" = true:=by decide
 unfold Tn
 refine Ol (RT (P4 (name:=Oq "__next__") ty Py (Po Py ty SC ?_ (Sn _))))
 refine Ol (On (Ol (Ol ?_)))
 first | refine Ol (Qu ty (On (Ol (RG hit rfl ?_)))) | refine Ol (Q0 ty (On (Ol (RG hit rfl ?_))))
 rw [own]
 simp only [if_true]
 show Ov _ _ (if (OJ d == Pr)=true then _ else _) _ _ _
 rw [if_neg (show ¬((OJ d == Pr)=true) from OK)]
 refine Ol (On (Ol (Sl en.at_ en.dat ?_)))
 rw [if_neg (by simp)]
 refine Ol (On (Ol (UB en.at_ en.dat ?_)))
 rw [if_neg (by simp)]
 refine On ?_
 simp only [show ¬((i:Int) < 0) from by omega,if_false,RD,Ut hx]
 refine Ol ?_
 first | refine Ol (Qu ty (On ?_)) | refine Ol (Q0 ty (On ?_))
 show Ov _ _ (setField (.ref it) 2 .none >>= _) _ _ s
 refine Ol (Xi hit rfl (by simp) (show Ov _ _ (Zt (.type "StopIteration") [] >>= _) _ _ _ from Ol ?_))
 simp only [Zt,newTuple]
 refine Ol (Pc (Ol (m:=TJ _ _) (WC (a:=Pr) (by first | rfl | (simp only [TJ]; rfl)) (Pc ?_ (by size_fits)))) (by size_fits))
 simp only [raiseNew]
 refine Ol (Vy ?_)
 rw [show A.in1.handled=none from hh]
 refine Ol (On (WD ?_))
 refine Ol (Ud (b:=true) (T:="StopIteration") ⟨_,Ox _ rfl,rfl⟩ Xj ?_)
 exact On (hQ _ (((Vl ..).extBut.push _).push _))
theorem Cg:Xk YE "dict_itemiterator.__iter__" = some QX.«dict_keyiterator.__iter__»:=UX (id':="dict_keyiterator.__iter__") (by kernel_rfl) rfl (by decide +kernel) (by kernel_rfl)
theorem zt {Q:Om->Os->Prop} (hit:R1 s.heap it d i es.size ep ok ov) (h:Q (.ref it) s):Ov (OE prog w) A (Wg (.ref it)) Q E s:=by
 have ty:s.TypeIs (.ref it) "dict_itemiterator":=⟨_,hit,rfl⟩
 refine Sk ty SO (Po SO ty Cg ?_ (F.args_dict_itemiterator_iter_1 _))
 show Ov _ _ (ret (OJ it)) _ _ s
 exact On ⟨_,rfl,"dict_itemiterator",_,ty,Py.lookup,h⟩
end
section
variable {σ:L2.St} {a:Oo} {o1 o2:HO}
theorem aC.ghost (I:aC X pins σ H s) (h1:H a=some o1) (nown:∀x,o1≠.own x) (ntup:∀xs,o1≠.tup xs) (ntbl:∀ps,o1≠.tbl ps) (nf:∀o u,X.H₀ a≠some (.frz o u)) (new:ci X.prog X.w (upd H a o2) s.heap a o2) :
  aC X pins σ (upd H a o2) s:=by
 have ne:∀b,H b=none->b≠a:=λb e z=>by rw [z,h1] at e; cases e
 refine⟨I.ok,I.os,I.bare,⟨I.base.keep,I.base.slot,λb o e n hx=>?_,I.base.there,λb xs e=>?_,λb o u e=>?_,λb ps e=>?_⟩,I.loc,I.cell,?_,λx c e=>?_,λp hp=>?_,λb o e=>?_,I.len⟩
 ·have q:=I.base.free b o e n hx
  rw [ao (ne b q)]; exact q
 ·have q:=I.base.tups b xs e
  rw [ao λz=>by rw [z,h1] at q; exact ntup xs (OU q)]; exact q
 ·have q:=I.base.frzs b o u e
  rw [ao λz=>nf o u (by rw [<-z]; exact e)]; exact q
 ·obtain⟨more,q⟩:=I.base.tbls b ps e
  exact⟨more,by rw [ao λz=>by rw [z,h1] at q; exact ntbl _ (OU q)]; exact q⟩
 ·rw [ao (ne _ I.free)]; exact I.free
 ·rw [ao (ne _ (I.freeC x c e))]; exact I.freeC x c e
 ·obtain⟨p1,p2,p3⟩:=I.pin p hp
  exact⟨p1,by rw [ao (ne _ p2)]; exact p2,p3⟩
 ·by_cases z:b=a
  ·subst z
   rw [aF] at e; cases e
   exact new
  ·rw [ao z] at e
   refine (I.hok b o e).stay (λ_ _ _ q=>q) (λc q=>?_) λc xs q=>?_
   ·rw [ao λw=>by rw [w,h1] at q; exact nown _ (OU q)]; exact q
   ·rw [ao λw=>by rw [w,h1] at q; exact ntup _ (OU q)]; exact q
def qQ:HO->Bool
 | .dK _=>true
 | .dT _=>true
 | _=>false
theorem vO {u:HO} (h:qQ u=true):(∀x,u≠.own x)/\(∀xs,u≠.tup xs)/\(∀ps,u≠.tbl ps)/\∀o w,u≠.frz o w:=by
 cases u<;>first | (cases h; done) | exact⟨λ_ z=>(nomatch z),λ_ z=>(nomatch z),λ_ z=>(nomatch z),λ_ _ z=>(nomatch z)⟩
theorem aC.freeze {u:HO} {ob:Obj} (I:aC X pins σ H s) (hu:qQ u=true) (h1:H a=some u) (ho:s.heap.get? a=some ob):aC X pins σ (upd H a (.frz ob u)) s/\∀o w,X.H₀ a≠some (.frz o w):=by
 obtain⟨n1,n2,n3,n4⟩:=vO hu
 have nf:∀o w,X.H₀ a≠some (.frz o w):=λo w e=>by
  have:=I.base.frzs a o w e
  rw [h1] at this
  exact n4 o w (OU this)
 refine⟨I.ghost h1 n1 n2 n3 nf ⟨ho,(I.hok a u h1).stay (λ_ _ _ q=>q) (λc q=>?_) λc xs q=>?_⟩,nf⟩
 ·rw [ao λw=>by rw [w,h1] at q; exact n1 _ (OU q)]; exact q
 ·rw [ao λw=>by rw [w,h1] at q; exact n2 _ (OU q)]; exact q
theorem aC.thaw {u:HO} {ob:Obj} (I:aC X pins σ H s) (h1:H a=some (.frz ob u)) (nf:∀o w,X.H₀ a≠some (.frz o w)):aC X pins σ (upd H a u) s:=by
 refine I.ghost h1 (λ_ z=>nomatch z) (λ_ z=>nomatch z) (λ_ z=>nomatch z) nf ?_
 obtain⟨_,ok⟩:=I.hok a _ h1
 refine ok.stay (λ_ _ _ q=>q) (λc q=>?_) λc xs q=>?_
 ·rw [ao λw=>by rw [w,h1] at q; cases q]; exact q
 ·rw [ao λw=>by rw [w,h1] at q; cases q]; exact q
end
inductive kJ (H:Hp):HO->List (V×V)->Prop where
 | k {kvs:List (bv×V)}:kJ H (.dK kvs) (kvs.map λp=>(kV p.1,p.2))
 | t {kvs:List (List bv×V)} {prs:List (V×V)}:Paired (λ(p:List bv×V) (q:V×V)=>(∃b,q.1=.ref b/\H b=some (.tup (p.1.map kV)))/\p.2=q.2) kvs prs->kJ H (.dT kvs) prs
structure IW (ob:Obj) (es:Array Q4) (ep:Nat) (prs:List (V×V)):Prop where
 ex:ob.ExactDict
 dat:ob.data=.dict es ep
 len:es.size=prs.length
 get:∀(i:Nat) (k v:V),prs[i]?=some (k,v)->∃e,es[i]?=some e/\aP k e.key/\aP v e.val
theorem AX {k:bv} {u:Om} (h:(aV prog w).is k u=true):aP (kV k) u:=by
 cases k with
 | inl n =>
  have h:UM n u=true:=h
  cases u<;>simp [UM] at h
  exact⟨_,by rw [h]⟩
 | inr x =>
  have h:T3 x u=true:=h
  cases u<;>simp [T3,Value.isStr] at h
  exact⟨_,by rw [h]⟩
theorem Ch {kvs:List (bv×V)} {vs:List (bv×Om)} (r:KV kvs vs) {l:List Q4} (p:Pairs (aV prog w) l vs):l.length=kvs.length/\∀(i:Nat) (k v:V),(kvs.map λp=>(kV p.1,p.2))[i]?=some (k,v)->∃e,l[i]?=some e/\aP k e.key/\aP v e.val:=by
 induction r generalizing l with
 | nil=>cases p; exact⟨rfl,λi k v e=>by simp at e⟩
 | @cons x q xs qs h t ih =>
  cases p with
  | @cons e _ es _ h1 h2 p =>
   obtain⟨l1,l2⟩:=ih p
   refine⟨by simp [l1],λi k v e'=>?_⟩
   cases i with
   | zero =>
    simp at e'
    obtain⟨rfl,rfl⟩:=e'
    refine⟨e,rfl,?_,by rw [h2]; exact h.2⟩
    have h0:=h1
    rw [<-h.1] at h0
    exact AX h0
   | succ i =>
    simp only [OV,QD] at e' ⊢
    exact l2 i k v e'
theorem uF {h:O9} {a:Oo} {u:HO} (ok:ci P w H h a u) (hu:qQ u=true):∃ob es ep prs,h.get? a=some ob/\IW ob es ep prs/\kJ H u prs/\(a == P0)=false:=by
 cases u with
 | dK kvs =>
  obtain⟨z,hd,vs,r,o,es,ep,e1,e2,e3,e4,e5,e6⟩:=ok
  obtain⟨l1,l2⟩:=Ch r e5
  refine⟨o,es,ep,_,e1,⟨e2,e3,by rw [O7,<-l1]; simp,λi k v q=>?_⟩,.k,hd⟩
  obtain⟨e,q1,q2⟩:=l2 i k v q
  exact⟨e,by simpa using q1,q2⟩
 | dT kvs =>
  obtain⟨z,hd,xs,r,o,es,ep,e1,e2,e3,e4,e5⟩:=ok
  have key:∀{l:List (List bv×V)} {m:List (List bv×Oo×Om)},Paired (λ(p:List bv×V) (q:List bv×Oo×Om)=>p.1=q.1/\H q.2.1=some (.tup (p.1.map kV))/\aP p.2 q.2.2) l m ->
    ∃prs:List (V×V),Paired (λ(p:List bv×V) (q:V×V)=>(∃b,q.1=.ref b/\H b=some (.tup (p.1.map kV)))/\p.2=q.2) l prs/\prs.length=m.length/\∀(i:Nat) (k v:V),prs[i]?=some (k,v)->∃x,m[i]?=some x/\k=.ref x.2.1/\aP v x.2.2:=by
   intro l m pr
   induction pr with
   | nil=>exact⟨[],.nil,rfl,λi k v e=>by simp at e⟩
   | @cons p q ps qs h t ih =>
    obtain⟨prs,i1,i2,i3⟩:=ih
    refine⟨(.ref q.2.1,p.2)::prs,.cons ⟨⟨q.2.1,rfl,h.2.1⟩,rfl⟩ i1,by simp [i2],λi k v e=>?_⟩
    cases i with
    | zero =>
     simp at e
     obtain⟨rfl,rfl⟩:=e
     exact⟨q,rfl,rfl,h.2.2⟩
    | succ i =>
     simp only [QD] at e ⊢
     exact i3 i k v e
  obtain⟨prs,i1,i2,i3⟩:=key r
  have hsz:es.size=xs.length:=by rw [<-O6,e4,O7]
  refine⟨o,es,ep,prs,e1,⟨e2,e3,by rw [hsz,i2],λi k v q=>?_⟩,.t i1,hd⟩
  obtain⟨x,q1,rfl,q3⟩:=i3 i k v q
  refine⟨WY (Sr (aV P w)) x,?_,rfl,q3⟩
  rw [<-Ry,e4,PF,q1]; rfl
 | _=>cases hu
def NM (a:Oo) (ob:Obj) (u:HO) (prs:List (V×V)):It :=
 ⟨λi H=>H a=some (.frz ob u)/\i < prs.length,λi H x H'=>∃T k v,H T=none/\prs[i]?=some (k,v)/\x=.ref T/\H'=upd H T (.tup [k,v]),λi H=>H a=some (.frz ob u)/\prs.length≤i⟩
def NN (a:Oo) (ob:Obj) (u:HO) (prs:List (V×V)):It :=
 ⟨λi H=>H a=some (.frz ob u)/\i < prs.length,λi H x H'=>H'=H/\∃v,prs[i]?=some (x,v),λi H=>H a=some (.frz ob u)/\prs.length≤i⟩
section
theorem zu {elts:List OP} {kk:Nat} {a it:Oo} {ob:Obj} {u:HO} {es:Array Q4} {ep:Nat} {prs:List (V×V)} (op:IW ob es ep prs) :
  wM P w K (.Tuple elts kk pos) (NM a ob u prs) [it] it (λi h=>∃ok ov,R1 h it a i es.size ep ok ov) where
 mem:=by simp
 obj:=λi h st b hb=>by
  have e:b=it:=by simpa using hb
  subst e
  obtain⟨ok,ov,e⟩:=st
  exact⟨_,e,λv z=>by cases z⟩
 keep:=λi h h' st k=>by
  obtain⟨ok,ov,e⟩:=st
  exact⟨ok,ov,k it (by simp) _ e⟩
 item:=by
  intro X hP hw hK hc i pins s σ H E I hf st hg
  subst hP hw hK
  obtain⟨hz,hi⟩:=hg
  obtain⟨ok,ov,st⟩:=st
  obtain⟨hob,_⟩:=I.hok a _ hz
  obtain⟨⟨k,v⟩,hp⟩:∃p,prs[i]?=some p:=⟨prs[i],by simp [hi]⟩
  obtain⟨e,he,rk,rv⟩:=op.get i k v hp
  obtain⟨f0,f1,f2,f3,f4,f5⟩:=hf it (by simp)
  have hne:a≠it:=λz=>by rw [z,f0] at hz; cases hz
  have lt:it < s.heap.objs.size:=Oy st
  refine EM st ⟨hob,op.ex,op.dat⟩ he λh1 o1 t1 z1 k1=>⟨_,rfl,?_⟩
  refine wpAny_letOwnedTupleGo_items (s:={ s with heap:=h1 }) o1 λh2 i2 s2=>?_
  have hT:=I.hok.fresh (OB s.heap.objs.size)
  have kk:∀b o,b≠it->h1.get? b=some o->h2.get? b=some o:=λb o n q=>(s2.2 b n).trans q
  have tT:h2.get? s.heap.objs.size=some { cls:=.type "tuple",data:=.seq #[e.key,e.val] }:=kk _ _ (RI lt) t1
  have Il:aC X pins σ (upd H s.heap.objs.size (.tup [k,v])) { s with heap:=s.heap.push { cls:=.type "tuple",data:=.seq #[e.key,e.val] } } :=
   I.laid (t':=s.toks) (λb o q=>Op _ q) (OB _) ⟨by show 2≤OA; decide,[e.key,e.val],.cons rk (.cons rv .nil),⟨_,Ox _ rfl,rfl,_,rfl⟩⟩
  have Ic:aC X pins σ (upd H s.heap.objs.size (.tup [k,v])) { s with heap:=h2 }:=by
   refine aC.turned (s:={ s with heap:=s.heap.push { cls:=.type "tuple",data:=.seq #[e.key,e.val] } }) (t':=s.toks) (h':=h2) (it:=it) Il (λb o n q=>?_) (by rw [ao (OG lt)]; exact f0) f1 f3 f4 f5
   rcases Heap.get?_push_cases q with ⟨z1,z2⟩ | q
   ·subst z1 z2
    exact tT
   ·exact kk b o n (k1 b o n q)
  exact⟨.ref s.heap.objs.size,_,Ic,rfl,⟨_,k,v,hT,hp,rfl,rfl⟩,⟨_,_,i2⟩,λb hb=>by
   have:b=it:=by simpa using hb
   subst this
   rw [ao (OG lt)]; exact f0⟩
 done:=by
  intro X hP hw hK hc i pins s σ H E I hf st hg
  subst hP hw hK
  obtain⟨hz,hi⟩:=hg
  obtain⟨ok,ov,st⟩:=st
  obtain⟨hob,_⟩:=I.hok a _ hz
  obtain⟨f0,f1,f2,f3,f4,f5⟩:=hf it (by simp)
  exact Hj (I.ok.hd hc) st ⟨hob,op.ex,op.dat⟩ (by rw [op.len]; exact hi) λh' eb=>⟨rfl,I.turned (t':=s.toks) (λb o hb e=>eb b o hb e) f0 f1 f3 f4 f5⟩
 self:=λ_ i _ _ _ st h=>by
  obtain⟨ok,ov,st⟩:=st
  exact zt st h
def zw (H₀:Hp) (td:TE):TI:=λσ H R=>td σ H λx H1=>∃a u,x=.ref a/\H1 a=some u/\qQ u=true/\∀ob prs,kJ H1 u prs->(∀o w,H₀ a≠some (.frz o w))->R (NM a ob u prs) (upd H1 a (.frz ob u))
theorem xy {elts:List OP} {kk:Nat} {tpos apos cpos:Pos} {o:OP} {td:TE} (ho:PE X o td) (hbase:OW o "items" X.env (O2 o X.env)=O2 o X.env:=by nofun) (hline:(apos.endLine == cpos.line)=true:=by nofun) :
  PI X (.Tuple elts kk tpos) (.Call (.Attribute o "items" apos) [] [] cpos) (zw X.H₀ td):=by
 intro pins s σ H R I h
 refine Ue hbase hline (bG (ho pins s σ H _ I h) λv s1 ⟨x,H1,I1,r1,a,u,ex,ha,hu,q⟩=>?_)
 subst ex
 cases r1
 obtain⟨ob,es,ep,prs,hob,op,pr,hsys⟩:=uF (I1.hok a u ha) hu
 have ty:s1.TypeIs (.ref a) "dict":=⟨ob,hob,op.ex.1⟩
 refine⟨"dict","dict.items",QB,Ro,Uf,ty,λb e=>by cases e; exact⟨ob,hob,op.ex.2.1⟩,Qi rfl (Vm ?_)⟩
 refine RJ Ro ty T5 (TN _) (xx hsys) ⟨ty,?_⟩
 have I2:aC X pins σ H1 { s1 with heap:=s1.heap.push { cls:=.type "dict_items",data:=.fields #[.ref a] } }:=I1.kept (t':=s1.toks) λb o e=>Op _ e
 have hob2:(s1.heap.push { cls:=.type "dict_items",data:=.fields #[.ref a] }).get? a=some ob:=Op _ hob
 refine EL (s:={ s1 with heap:=s1.heap.push { cls:=.type "dict_items",data:=.fields #[.ref a] } }) ⟨_,Ox _ rfl,rfl,rfl⟩ ⟨hob2,op.ex,op.dat⟩ ?_
 obtain⟨If,nf⟩:=I2.freeze hu ha hob2
 have I3:=If.kept (h':=(s1.heap.push { cls:=.type "dict_items",data:=.fields #[.ref a] }).push { cls:=.type "dict_itemiterator",data:=.fields #[.none,.bool false,.ref a,.int 0 0,.int es.size 0,.int ep 0,.none,.none] }) (t':=s1.toks) λb o e=>Op _ e
 refine⟨_,[(s1.heap.push { cls:=.type "dict_items",data:=.fields #[.ref a] }).objs.size],_,_,_,rfl,I3,zu op,⟨.none,.none,Ox _ rfl⟩,λb hb=>?_,q ob prs pr nf⟩
 have e:b=(s1.heap.push { cls:=.type "dict_items",data:=.fields #[.ref a] }).objs.size:=by simpa using hb
 subst e
 exact If.fpOk (OB _) (If.hok.fresh (OB _))
theorem Ci {tg:OP} {a it:Oo} {ob:Obj} {kvs:List (bv×V)} {vs:List (bv×Om)} {ep:Nat} (hk:KV kvs vs) (op:∃es,ob.ExactDict/\ob.data=.dict es ep/\KeysOf (aV P w) es/\Pairs (aV P w) es.toList vs/\(vs.map (·.1)).Nodup) :
  wM P w K tg (NN a ob (.dK kvs) (kvs.map λp=>(kV p.1,p.2))) [it] it (λi h=>h.IsKeyIter it a i vs.length ep) where
 mem:=by simp
 obj:=λi h st b hb=>by
  have e:b=it:=by simpa using hb
  subst e
  obtain⟨o,e,c,d⟩:=st
  exact⟨o,e,λv z=>by rw [d] at z; cases z⟩
 keep:=λi h h' st k=>st.at λo e=>k it (by simp) o e
 item:=by
  intro X hP hw hK hc i pins s σ H E I hf st hg
  subst hP hw hK
  obtain⟨hz,hi⟩:=hg
  obtain⟨hob,_⟩:=I.hok a _ hz
  obtain⟨es,op⟩:=op
  rw [O7] at hi
  have hl:=Pe hk
  have hv:i < vs.length:=by omega
  have hx:vs[i]?=some (vs[i].1,vs[i].2):=Pt hv
  obtain⟨f0,f1,f2,f3,f4,f5⟩:=hf it (by simp)
  refine wpAny_pyNext_dict_item st ⟨ob,es,hob,op⟩ hx λkey h' hkey st' sb=>?_
  have I1:aC X pins σ H { s with heap:=h' }:=I.turned (t':=s.toks) (λb o hb e=>(sb.2 b hb).trans e) f0 f1 f3 f4 f5
  obtain⟨o,e,c,d⟩:=id st'
  have kp:∀{l:List (bv×V)} {m:List (bv×Om)} (r:KV l m) (i:Nat) (h1:i < l.length) (h2:i < m.length),l[i].1=m[i].1:=by
   intro l m r
   unfold KV at r
   induction r with
   | nil=>intro i h1; simp at h1
   | cons h t ih =>
    intro i h1 h2
    cases i with
    | zero=>exact h.1
    | succ i=>exact ih i (by simpa using h1) (by simpa using h2)
  refine⟨key,rfl,Ad (s:={ s with heap:=h' }) e c d (by decide) ⟨kV kvs[i].1,H,I1,?_,⟨rfl,kvs[i].2,by simp [hi]⟩,st',λb hb=>(hf b hb).1⟩⟩
  rw [kp hk i hi (by omega)]
  exact AX hkey
 done:=by
  intro X hP hw hK hc i pins s σ H E I hf st hg
  subst hP hw hK
  obtain⟨hz,hi⟩:=hg
  obtain⟨hob,_⟩:=I.hok a _ hz
  obtain⟨es,op⟩:=op
  rw [O7] at hi
  have hl:=Pe hk
  obtain⟨f0,f1,f2,f3,f4,f5⟩:=hf it (by simp)
  exact wpAny_pyNext_dict_end (I.ok.hd hc) st ⟨ob,es,hob,op⟩ (by simp; omega) λh' eb=>⟨rfl,I.turned (t':=s.toks) (λb o hb e=>eb b o hb e) f0 f1 f3 f4 f5⟩
 self:=λ_ _ _ _ _ st h=>wpAny_pyIter_keyiter st h
def EN (H₀:Hp) (td:TE):TI:=λσ H R=>td σ H λx H1=>∃a kvs,x=.ref a/\H1 a=some (.dK kvs)/\∀ob,(∀o w,H₀ a≠some (.frz o w))->R (NN a ob (.dK kvs) (kvs.map λp=>(kV p.1,p.2))) (upd H1 a (.frz ob (.dK kvs)))
theorem Hl {tg o:OP} {td:TE} (ho:PE X o td):PI X tg o (EN X.H₀ td):=by
 intro pins s σ H R I h
 refine bG (ho pins s σ H _ I h) λv s1 ⟨x,H1,I1,r1,a,kvs,ex,ha,q⟩=>?_
 subst ex
 cases r1
 obtain⟨z,hd,vs,r,ob,es,ep,e1,op⟩:=I1.hok a _ ha
 refine wpAny_pyIter_dict hd ⟨ob,es,e1,op⟩ ?_
 obtain⟨If,nf⟩:=I1.freeze (u:=.dK kvs) rfl ha e1
 have I3:=If.kept (h':=s1.heap.push { cls:=.type "dict_keyiterator",data:=.fields #[.ref a,.int 0 0,.int vs.length 0,.int ep 0] }) (t':=s1.toks) λb o e=>Op _ e
 refine⟨_,[s1.heap.objs.size],_,_,_,rfl,I3,Ci r ⟨es,op⟩,⟨_,Ox _ rfl,rfl,rfl⟩,λb hb=>?_,q ob nf⟩
 have e:b=s1.heap.objs.size:=by simpa using hb
 subst e
 exact If.fpOk (OB _) (If.hok.fresh (OB _))
end
def Cj (H₀:Hp) (Q:Hp->Prop) (H:Hp):Prop:=∃a ob u,H a=some (.frz ob u)/\(∀o w,H₀ a≠some (.frz o w))/\Q (upd H a u)
theorem PS.thaw {t:TS} (h:PS X st t):PS X st (λD σ H=>t { D with nx:=λσ' H'=>Cj X.H₀ (D.nx σ') H' } σ H):=by
 intro pins s σ H D I q
 refine bG (h pins s σ H _ I q) λf s1 q1=>?_
 cases f with
 | next =>
  obtain⟨σ',H',I',a,ob,u,h1,nf,q2⟩:=q1
  exact⟨σ',_,I'.thaw h1 nf,q2⟩
 | ret v=>exact q1
 | brk=>exact q1
 | cont=>exact q1
end L2
namespace RB
open PySem L2
def Kt (S:aU) (x:AV):Option (Nat×aU):=match x with
 | .ref n=>match S.t.get n with
  | some (.dk kvs)=>some (n,S.set n (.fz (.dk kvs)))
  | some (.dt kvs)=>some (n,S.set n (.fz (.dt kvs)))
  | _=>none
 | _=>none
def Ku (S:aU) (x:AV):Option (Nat×aU):=match x with
 | .ref n=>match S.t.get n with
  | some (.dk kvs)=>some (n,S.set n (.fz (.dk kvs)))
  | _=>none
 | _=>none
def AY (S:aU) (n:Nat):Option aU:=match S.t.get n with
 | some (.fz o)=>some (S.set n o)
 | _=>none
def EO (n:Nat) (k:eg->aU->Bool):eg->aU->Bool:=λσ S=>match AY S n with
 | some S1=>k σ S1
 | none=>false
def xz (n:Nat) (k:AV->aU->Bool):AV->aU->Bool:=λv S=>match AY S n with
 | some S1=>k v S1
 | none=>false
def Ck (keys:Bool) (S:aU) (x:AV):Option (Nat×aU):=match keys with
 | true=>Ku S x
 | false=>Kt S x
def EQ (keys:Bool) (n:Nat):zl:=match keys with
 | true=>.dks n
 | false=>.dit n
def ER (fuel:Nat) (keys:Bool) (a:BE) (t:BG) (s:BS):BS:=λd σ S=>a σ S λx S1=>match Ck keys S1 x with
 | some (n,S2)=>B8 t s ⟨EO n d.nx,d.rt,d.bk,d.ct⟩ (EQ keys n) fuel 0 σ S2
 | none=>false
def Kv (fuel:Nat) (keys:Bool) (ix:List (Option Nat)) (a:BE) (t:BG) (tt:BT) (te:BE):BE:=λσ S k=>a σ S λx S1=>match Ck keys S1 x with
 | some (n,S2)=>Kj (wI ix σ) t tt te (xz n k) (EQ keys n) fuel 0 [] S2
 | none=>false
section
variable {S:aU}
theorem mm {ak:AV} {k:bv} (h:gR ak k):aY F y ρ H ak (kV k):=by
 cases ak with
 | int s lo hi=>cases s with
  | true=>exact h.elim
  | false=>obtain⟨e,rfl⟩:=h; exact⟨lo,rfl,Qy _,by omega⟩
 | str i=>obtain⟨x,e,rfl⟩:=h; exact⟨x,e,rfl⟩
 | _=>exact h.elim
theorem qR:∀{ak:AV} {ks:List bv},gw ak ks->xf F y ρ H ak (ks.map kV)
 | .tn,_,h=>by cases h; rfl
 | .tc a b,_,⟨k,r,e,h1,h2⟩=>by subst e; exact⟨kV k,r.map kV,rfl,mm h1,qR h2⟩
 | .non,_,h=>h.elim
 | .bl _,_,h=>h.elim
 | .int _ _ _,_,h=>h.elim
 | .str _,_,h=>h.elim
 | .ref _,_,h=>h.elim
 | .ext _,_,h=>h.elim
theorem Cl {ak:AV} {ks:List bv} {b:Oo} (h:gw ak ks) (hb:H b=some (.tup (ks.map kV))):aY F y ρ H ak (.ref b):=by
 have t:=qR (F:=F) (y:=y) (ρ:=ρ) (H:=H) h
 cases ak with
 | tn=>cases h; exact⟨b,rfl,hb⟩
 | tc p q =>
  obtain⟨w,ws,e,h1,h2⟩:=t
  exact⟨b,w,ws,rfl,by rw [hb,e],h1,h2⟩
 | _=>exact h.elim
theorem AZ (C:aM g F y ρ S H) {ax:AV} {x:V} (rx:aY F y ρ H ax x) {n:Nat} {S2:aU} (h:Kt S ax=some (n,S2)):∃a u,x=.ref a/\ax=.ref n/\ρ[n]?=some a/\H a=some u/\qQ u=true /\
  ∀ob,aE F y ρ H y ρ (upd H a (.frz ob u))/\aM g F y ρ S2 (upd H a (.frz ob u)):=by
 cases ax with
 | ref m =>
  unfold Kt at h
  dsimp only at h
  cases q:S.t.get m with
  | none=>rw [q] at h; cases h
  | some o =>
   rw [q] at h
   cases o with
   | dk kvs =>
    cases h
    obtain⟨a,ks,rfl,hρ,ha,pr⟩:=C.dk rx q
    refine⟨a,.dK ks,rfl,rfl,hρ,ha,rfl,λob=>?_⟩
    have st:aE F y ρ H y ρ (upd H a (.frz ob (.dK ks))):=aE.set C hρ ha
    exact⟨st,C.set hρ ha (o:=.fz (.dk kvs)) (ob:=⟨ob,_,rfl,ks,rfl,a6 (λ_ _ z=>⟨z.1,aY.mono st z.2⟩) pr⟩)⟩
   | dt kvs =>
    cases h
    obtain⟨a,ks,rfl,hρ,ha,pr⟩:=C.dt rx q
    refine⟨a,.dT ks,rfl,rfl,hρ,ha,rfl,λob=>?_⟩
    have st:aE F y ρ H y ρ (upd H a (.frz ob (.dT ks))):=aE.set C hρ ha
    exact⟨st,C.set hρ ha (o:=.fz (.dt kvs)) (ob:=⟨ob,_,rfl,ks,rfl,a6 (λ_ _ z=>⟨z.1,aY.mono st z.2⟩) pr⟩)⟩
   | _=>cases h
 | _=>cases h
theorem Hm (C:aM g F y ρ S H) {ax:AV} {x:V} (rx:aY F y ρ H ax x) {n:Nat} {S2:aU} (h:Ku S ax=some (n,S2)):∃a ks,x=.ref a/\ax=.ref n/\ρ[n]?=some a/\H a=some (.dK ks) /\
  ∀ob,aE F y ρ H y ρ (upd H a (.frz ob (.dK ks)))/\aM g F y ρ S2 (upd H a (.frz ob (.dK ks))):=by
 cases ax with
 | ref m =>
  unfold Ku at h
  dsimp only at h
  cases q:S.t.get m with
  | none=>rw [q] at h; cases h
  | some o =>
   rw [q] at h
   cases o with
   | dk kvs =>
    cases h
    obtain⟨a,ks,rfl,hρ,ha,pr⟩:=C.dk rx q
    refine⟨a,ks,rfl,rfl,hρ,ha,λob=>?_⟩
    have st:aE F y ρ H y ρ (upd H a (.frz ob (.dK ks))):=aE.set C hρ ha
    exact⟨st,C.set hρ ha (o:=.fz (.dk kvs)) (ob:=⟨ob,_,rfl,ks,rfl,a6 (λ_ _ z=>⟨z.1,aY.mono st z.2⟩) pr⟩)⟩
   | _=>cases h
 | _=>cases h
theorem Hn {u:HO} {prs:List (V×V)} {kvs:List (AV×AV)} {o:AO} (hp:kJ H u prs) (ho:dE F y ρ H g o u) (e:o=.dk kvs∨o=.dt kvs):Paired (λp q=>aY F y ρ H p.1 q.1/\aY F y ρ H p.2 q.2) kvs prs:=by
 cases hp with
 | @k ks =>
  rcases e with rfl | rfl
  ·obtain⟨ks',e,pr⟩:=ho
   cases e
   induction pr with
   | nil=>exact .nil
   | cons h t ih=>exact .cons ⟨mm h.1,h.2⟩ ih
  ·obtain⟨_,e,_⟩:=ho; cases e
 | @t ks prs pp =>
  rcases e with rfl | rfl
  ·obtain⟨_,e,_⟩:=ho; cases e
  ·obtain⟨ks',e,pr⟩:=ho
   cases e
   induction pr generalizing prs with
   | nil=>cases pp; exact .nil
   | cons h t ih =>
    cases pp with
    | cons h' t' =>
     obtain⟨⟨b,e1,e2⟩,e3⟩:=h'
     refine .cons ⟨?_,?_⟩ (ih t')
     ·rw [e1]; exact Cl h.1 e2
     ·rw [<-e3]; exact h.2
theorem qS {H H':Hp} (ht:∀b vs,H b=some (.tup vs)->H' b=some (.tup vs)) {u:HO} {prs:List (V×V)} (h:kJ H u prs):kJ H' u prs:=by
 cases h with
 | k=>exact .k
 | t pp=>exact .t (Paired.mapP pp λ_ _ ⟨⟨b,e1,e2⟩,e3⟩=>⟨⟨b,e1,ht _ _ e2⟩,e3⟩)
theorem lq {α β:Type} {R:α->β->Prop}:∀{xs:List α} {ys:List β} {i:Nat} {a:α},Paired R xs ys->xs[i]?=some a->∃b,ys[i]?=some b/\R a b
 | _,_,_,_,.nil,e=>by simp at e
 | _,_,0,_,.cons r _,e=>by simp at e; subst e; exact⟨_,rfl,r⟩
 | _,_,i+1,a,.cons _ t,e=>by
  obtain⟨v,h1,h2⟩:=lq (i:=i) (a:=a) t (by simpa using e)
  exact⟨v,by simpa using h1,h2⟩
theorem Ho {S1:aU} {n:Nat} {kvs:List (AV×AV)} (h:zm S1 n=some kvs):∃o,S1.t.get n=some (.fz o)/\(o=.dk kvs∨o=.dt kvs):=by
 unfold zm at h
 split at h
 ·cases h; exact⟨_,‹_›,.inl rfl⟩
 ·cases h; exact⟨_,‹_›,.inr rfl⟩
 ·cases h
theorem A0 {a:Oo} {ob:Obj} {u:HO} {prs:List (V×V)} {n:Nat} (hρ:ρ[n]?=some a) (ha:H a=some (.frz ob u)) (hp:kJ H u prs) {y1:Option Int} {ρ1:List Oo} {S1:aU} {H1:Hp} (st:aE F y ρ H y1 ρ1 H1) (C1:aM g F y1 ρ1 S1 H1) {kvs:List (AV×AV)} (h:zm S1 n=some kvs) :
  H1 a=some (.frz ob u)/\Paired (λp q=>aY F y1 ρ1 H1 p.1 q.1/\aY F y1 ρ1 H1 p.2 q.2) kvs prs:=by
 have h1:=st.frz a ob u ha
 obtain⟨o,e,eo⟩:=Ho h
 obtain⟨o',ho,g1,g2,g3⟩:=C1.at_ n a (st.mem hρ)
 rw [e] at g1; cases g1
 rw [h1] at g2; cases g2
 obtain⟨ob1,u1,e1,g4⟩:=g3
 cases e1
 exact⟨h1,Hn (qS st.tup hp) g4 eo⟩
theorem uG {a:Oo} {ob:Obj} {u:HO} {prs:List (V×V)} {n:Nat} (hρ:ρ[n]?=some a) (ha:H a=some (.frz ob u)) (hp:kJ H u prs):ow g F y ρ H (.dit n) (NM a ob u prs):=by
 refine⟨λy1 ρ1 S1 H1 i st C1=>?_⟩
 unfold zl.nxt
 dsimp only
 cases q:zm S1 n with
 | none=>exact⟨λ_ e=>(nomatch e),λe=>(nomatch e)⟩
 | some kvs =>
  obtain⟨h1,pr⟩:=A0 hρ ha hp st C1 q
  have hl:=Pe pr
  dsimp only
  cases q2:kvs[i]? with
  | none =>
   refine⟨λ_ e=>(nomatch e),λ_=>⟨h1,?_⟩⟩
   have:=O1.mp q2
   omega
  | some p =>
   obtain⟨ak,av⟩:=p
   obtain⟨⟨k,v⟩,e2,rk,rv⟩:=lq pr q2
   have hi:=(Ow.mp q2).1
   refine⟨λav' e=>⟨⟨h1,by omega⟩,λx H' yx=>?_⟩,λe=>(nomatch e)⟩
   cases e
   obtain⟨T,k',v',hT,e3,rfl,rfl⟩:=yx
   rw [e2] at e3; cases e3
   have st2:aE F y1 ρ1 H1 y1 ρ1 (upd H1 T (.tup [k,v])):=aE.lay hT
   exact⟨st2,C1.lay hT,aY.chain (xs:=[ak,av]) aF (.cons (aY.mono st2 rk) (.cons (aY.mono st2 rv) .nil))⟩
theorem ES {a:Oo} {ob:Obj} {u:HO} {prs:List (V×V)} {n:Nat} (hρ:ρ[n]?=some a) (ha:H a=some (.frz ob u)) (hp:kJ H u prs):ow g F y ρ H (.dks n) (NN a ob u prs):=by
 refine⟨λy1 ρ1 S1 H1 i st C1=>?_⟩
 unfold zl.nxt
 dsimp only
 cases q:zm S1 n with
 | none=>exact⟨λ_ e=>(nomatch e),λe=>(nomatch e)⟩
 | some kvs =>
  obtain⟨h1,pr⟩:=A0 hρ ha hp st C1 q
  have hl:=Pe pr
  dsimp only
  cases q2:kvs[i]? with
  | none =>
   refine⟨λ_ e=>(nomatch e),λ_=>⟨h1,?_⟩⟩
   have:=O1.mp q2
   omega
  | some p =>
   obtain⟨ak,av⟩:=p
   obtain⟨⟨k,v⟩,e2,rk,rv⟩:=lq pr q2
   have hi:=(Ow.mp q2).1
   refine⟨λav' e=>⟨⟨h1,by omega⟩,λx H' yx=>?_⟩,λe=>(nomatch e)⟩
   cases e
   obtain⟨rfl,v',e3⟩:=yx
   rw [e2] at e3; cases e3
   exact⟨.refl,C1,rk⟩
theorem Cm {a:Oo} {ob:Obj} {u:HO} {n:Nat} {σa:eg} {σ:L2.St} (hρ:ρ[n]?=some a) (e:H a=some (.frz ob u)) (r:bL g F y ρ H σa σ):bL g F y ρ (upd H a u) σa σ:=by
 have nt:∀b vs,H b=some (.tup vs)->(upd H a u) b=some (.tup vs):=λb vs q=>by rw [ao λz=>by rw [z,e] at q; cases q]; exact q
 have mo:Mo y ρ H y ρ (upd H a u):=⟨λ_ h=>h,λh=>h,nt⟩
 refine⟨a6 (λx v hx=>?_) r.v,r.e.mono0 ⟨λ_ h=>h,⟨[],by simp⟩,λ_ h=>.inl h,λb o q n _=>?_,nt,λb q=>?_⟩⟩
 ·cases x with
  | none=>trivial
  | some x=>cases v with
   | none=>exact hx
   | some v=>exact aY.monoM mo (av:=x) hx
 ·rw [ao λz=>n (by rw [z]; exact OR hρ)]; exact q
 ·by_cases z:b=a
  ·subst z; rw [aF] at q; cases q
  ·rw [ao z] at q; exact q
theorem xA {a:Oo} {ob:Obj} {u:HO} {av:AV} {v:V} (e:H a=some (.frz ob u)) (r:aY F y ρ H av v):aY F y ρ (upd H a u) av v :=
 aY.monoM ⟨λ_ h=>h,λh=>h,λb vs q=>by rw [ao λz=>by rw [z,e] at q; cases q]; exact q⟩ r
theorem vP {a:Oo} {ob:Obj} {u:HO} {n:Nat} {H0 H1:Hp} {y1:Option Int} {ρ1:List Oo} {S1 S2:aU} (hρ:ρ[n]?=some a) (ha:H a=some u) (hu:qQ u=true) (st:aE F y ρ (upd H a (.frz ob u)) y1 ρ1 H1) (stf:aE F y ρ H y ρ (upd H a (.frz ob u))) (C1:aM g F y1 ρ1 S1 H1) (h:AY S1 n=some S2) :
  H1 a=some (.frz ob u)/\aE F y ρ H y1 ρ1 (upd H1 a u)/\aM g F y1 ρ1 S2 (upd H1 a u):=by
 have h1:=st.frz a ob u aF
 obtain⟨n1,n2,n3,n4⟩:=vO hu
 unfold AY at h
 split at h
 ·rename_i o q
  cases h
  exact⟨h1,(stf.trans st).thaw (OR hρ) ha n2 n4,C1.thaw (st.mem hρ) h1 q⟩
 ·cases h
end
section
variable {a b c e o tg:OP} {ba bb bc:BE} {bt:BT} {br:BA} {s1 s2:BS} {body:List Rf}
theorem A1 (fuel:Nat) {elts:List OP} {kk:Nat} {tpos apos cpos:Pos} {t:BG} (hp:U5 (OE X.prog X.w) X.A X.env X.xe) (hc:X.calm=true) (ho:PE X o (up g ba)) (hg:PG X (.Tuple elts kk tpos) (qG g sl t)) (hb:gN X body (c9 g s1))
  (hbase:OW o "items" X.env (O2 o X.env)=O2 o X.env:=by nofun) (hline:(apos.endLine == cpos.line)=true:=by nofun)
  (hs:∀x,Qz (.Call (.Attribute o "items" apos) [] [] cpos) X.env x=pure x:=by with_unfolding_all (intro _; rfl)) :
  PS X (.For (.Tuple elts kk tpos) (.Call (.Attribute o "items" apos) [] [] cpos) body [] pos) (c9 g (ER fuel false ba t s1)):=by
 refine PS.imp (λD σ H ⟨F,y,ρ,S,σa,d,C,r,h,p,pr,pb,pc⟩=>?_) (PS.thaw (Dw hp hc (xy ho hbase hline) hg hb hs))
 refine aD C r h λy1 ρ1 S1 H1 ax x st C1 r1 rx h1=>?_
 cases q:Ck false S1 ax with
 | none=>simp only [q] at h1; cases h1
 | some m =>
  obtain⟨n,S2⟩:=m
  simp only [q] at h1
  obtain⟨a,u,rfl,rfl,hρ,ha,hu,fr⟩:=AZ C1 rx q
  refine⟨a,u,rfl,ha,hu,λob prs hprs nf=>?_⟩
  obtain⟨stf,Cf⟩:=fr ob
  refine xr Cf (bL.mono stf r1) (uG hρ aF (qS stf.tup hprs)) h1 (λy3 ρ3 S3 H3 σ3 σ4 st3 C3 r3 h3=>?_) ((pr.mono st).mono stf)
  have h3:EO n d.nx σ3 S3=true:=h3
  unfold EO at h3
  split at h3
  ·rename_i S4 q4
   obtain⟨t1,t2,t3⟩:=vP (H0:=H1) hρ ha hu st3 stf C3 q4
   obtain⟨m1,m2,m3,m4⟩:=vO hu
   refine⟨a,ob,u,t1,nf,p y3 ρ3 S4 _ σ3 σ4 (st.trans t2) t3 ?_ h3⟩
   exact Cm (st3.mem hρ) t1 r3
  ·cases h3
theorem ET (fuel:Nat) (keys:Bool) {t:BG} {tt:BT} {te:BE} {n:Nat} {a:Oo} {ob:Obj} {u:HO} {y y1:Option Int} {ρ ρ1:List Oo} {S2:aU} {H H1:Hp} {k:AV->aU->Bool} {Q:VK} {σ:L2.St} {σa:eg} {J:It} {H₀:Hp}
  (hsl:∀j∈sl,ix[j]?=some none) (st:aE F y ρ H y1 ρ1 H1) (r1:bL g F y1 ρ1 H1 σa σ) (hρ:ρ1[n]?=some a) (ha:H1 a=some u) (hu:qQ u=true) (stf:aE F y1 ρ1 H1 y1 ρ1 (upd H1 a (.frz ob u))) (Cf:aM g F y1 ρ1 S2 (upd H1 a (.frz ob u))) (nf:∀o w,H₀ a≠some (.frz o w))
  (so:ow g F y1 ρ1 (upd H1 a (.frz ob u)) (EQ keys n) J) (h1:Kj (wI ix σa) t tt te (xz n k) (EQ keys n) fuel 0 [] S2=true) (p:jd g F y ρ H k Q):∃W:Nat->Nat->List V->Hp->Prop,(∃m,W 0 m [] (upd H1 a (.frz ob u)))/\∀i m ys H,W i m ys H->ys.length < OA /\
 ((J.stop i H/\∀p,H p=none->Cj H₀ (Q (.ref p)) (upd H p (.lst ys)))∨(J.go i H/\∀x H',J.yld i H x H'->qG g sl t x (iu ix σ) H' λσ2 H2=>L2.yS (iu ix σ) σ2/\f6 g tt σ2 H2 λb H3 =>
  if b=true then up g te σ2 H3 λy H4=>∃m',m' < m/\W (i+1) m' (ys++[y]) H4 else ∃m',m' < m/\W (i+1) m' ys H3)):=by
 refine AU (Q:=λv H'=>Cj H₀ (Q v) H') hsl Cf (bL.mono stf r1) so h1 λy3 ρ3 S3 H3 av v st3 C3 rv h3=>?_
 unfold xz at h3
 split at h3
 ·rename_i S4 q4
  obtain⟨t1,t2,t3⟩:=vP (H0:=H1) hρ ha hu st3 stf C3 q4
  exact⟨a,ob,u,t1,nf,p y3 ρ3 S4 _ av v (st.trans t2) t3 (xA t1 rv) h3⟩
 ·cases h3
theorem Hq (fuel:Nat) {t:BG} {tt:BT} {te:BE} {H₀:Hp} (hsl:∀j∈sl,ix[j]?=some none):∀σ H Q,up g (Kv fuel false ix ba t tt te) σ H Q->JT ix (zw H₀ (up g ba)) (qG g sl t) (f6 g tt) (up g te) σ H (λv H'=>Cj H₀ (Q v) H'):=λσ H Q ⟨F,y,ρ,S,σa,k,C,r,h,p⟩ =>
 aD C r h λy1 ρ1 S1 H1 ax x st C1 r1 rx h1=>by
  cases q:Ck false S1 ax with
  | none=>simp only [q] at h1; cases h1
  | some m =>
   obtain⟨n,S2⟩:=m
   simp only [q] at h1
   obtain⟨a,u,rfl,rfl,hρ,ha,hu,fr⟩:=AZ C1 rx q
   refine⟨a,u,rfl,ha,hu,λob prs hprs nf=>?_⟩
   obtain⟨stf,Cf⟩:=fr ob
   exact ET fuel false hsl st r1 hρ ha hu stf Cf nf (uG hρ aF (qS stf.tup hprs)) h1 p
theorem Cn (fuel:Nat) (i:Nat) {t:BG} {tt:BT} {te:BE} (hsl:∀j∈sl,ix[j]?=some none) (h:PS X st (k6 (JT ix (zw X.H₀ (up g ba)) (qG g sl t) (f6 g tt) (up g te)) (h8 i))):PS X st (c9 g (aX (Kv fuel false ix ba t tt te) (ai i))) :=
 PS.imp (λD σ H ⟨F,y,ρ,S,σa,d,C,r,h,p,_⟩=>Hq fuel hsl σ H _ (aD C r h λy1 ρ1 S1 H1 ax x st C1 r1 rx h1=>p y1 ρ1 S1 H1 _ _ st C1 (dm r1 rx) h1)) (PS.thaw h)
end
end RB
namespace L2
open PySem PySem.Spec PyProof.Rows
section
variable {sc:Pp} {Nc:List Str}
theorem aC.dcEnd {C D:Oo} {fp:List Oo} {pn:List (Oo×Obj)} {σ':St} {He:Hp} {se:Os} {vs:List (bv×V)} {its:List (bv×Om)} (I:aC X pins σ H s) (Ie:aC (dC X sc Nc C s H (D::fp) pn) [] σ' He se)
  (hf:∀b∈D::fp,eG X pins H b) (hD:He D=none) (hdat:se.heap.DictOf (aV X.prog X.w) D its) (hv:KV vs its) (hsm:(D == P0)=false) (hz:vs.length≤OA) :
  aC X pins σ (upd He D (.dK vs)) se:=by
 have hb:Un (iU X.stack) (D::fp) H He s.heap se.heap:=Ie.base
 have hDn:H D=none:=(hf D Oz).1
 have un:Un (iU X.stack) (D::fp) H (upd He D (.dK vs)) s.heap se.heap:=by
  have ne:∀b,b ∉ D::fp->b≠D:=λb h z=>h (z▸Oz)
  have neS:∀b u,H b=some u->b≠D:=λb u e z=>by subst z; rw [hDn] at e; cases e
  exact⟨hb.keep,hb.slot,λb o q n hx=>by rw [ao (ne b hx)]; exact hb.free b o q n hx,hb.there,λb xs q=>by rw [ao (neS b _ q)]; exact hb.tups b xs q,λb o u q=>by rw [ao (neS b _ q)]; exact hb.frzs b o u q,
   λb ps q=>by rw [ao (neS b _ q)]; exact hb.tbls b ps q⟩
 have hok:iT X.prog X.w (upd He D (.dK vs)) se.heap:=λb u e=>by
  by_cases h:b=D
  ·subst h
   rw [aF] at e
   cases e
   exact⟨hz,hsm,its,hv,hdat⟩
  ·rw [ao h] at e
   refine (Ie.hok b u e).stay (λ_ _ _ q=>q) (λc q=>?_) λc xs q=>?_
   ·rw [ao (by intro z; subst z; rw [hD] at q; cases q)]; exact q
   ·rw [ao (by intro z; subst z; rw [hD] at q; cases q)]; exact q
 exact I.call' Ie.os un hok Ie.bare λb hb=>⟨(hf b hb).2.2.2.1,(hf b hb).2.1,(hf b hb).2.2.2.2.1,(hf b hb).2.2.2.2.2⟩
end
def Kw (ix:List (Option Nat)) (wi:TI) (g:TG) (tt:TT) (tk te:TE):TE:=λσ H Q=>wi σ H λJ H1=>∃W:Nat->Nat->List (bv×V)->Hp->Prop,(∃m,W 0 m [] H1)/\∀i m ys H,W i m ys H->ys.length < OA /\
 ((J.stop i H/\∀p,H p=none->Q (.ref p) (upd H p (.dK ys)))∨(J.go i H/\∀x H',J.yld i H x H'->g x (iu ix σ) H' λσ2 H2=>yS (iu ix σ) σ2/\tt σ2 H2 λb H3 =>
  if b=true then tk σ2 H3 λkv H4=>te σ2 H4 λy H5=>∃k,kv=kV k/\∃m',m' < m/\W (i+1) m' (cW ys k y) H5 else ∃m',m' < m/\W (i+1) m' ys H3))
section
variable {sc:Pp} {Nc:List Str} {kx vx tg iter:OP} {ifs:List OP} {wi:TI} {g:TG} {tt:TT} {tk te:TE}
theorem xB {s₂:Os} {it:Oo} {fp:List Oo} {tn:Nat->O9->Prop} {J:It} {H2:Hp} {RR:Om->Oo->Yh->Os->Prop} 
  (hc:X.calm=true) (S:aR X.env.scope X.N sc Nc ix) (hg:∀C s H ex pn,PG (dC X sc Nc C s H ex pn) tg g) (hif:∀C s H ex pn,oW (dC X sc Nc C s H ex pn) ifs tt) (hk:∀C s H ex pn,PE (dC X sc Nc C s H ex pn) kx tk) (he:∀C s H ex pn,PE (dC X sc Nc C s H ex pn) vx te)
  (I:aC X pins σ H2 s₂) (T:wM X.prog X.w X.K tg J fp it tn) (st:tn 0 s₂.heap) (hf:∀b∈fp,eG X pins H2 b)
  (W:Nat->Nat->List (bv×V)->Hp->Prop) (h0:∃m,W 0 m [] H2) (Qe:List (bv×V)->Hp->Prop)
  (turn:∀i m ys H,W i m ys H->ys.length < OA/\((J.stop i H/\Qe ys H)∨(J.go i H/\∀x H',J.yld i H x H'->g x (iu ix σ) H' λσ2 H2=>yS (iu ix σ) σ2/\tt σ2 H2 λb H3 =>
   if b=true then tk σ2 H3 λkv H4=>te σ2 H4 λy H5=>∃k,kv=kV k/\∃m',m' < m/\W (i+1) m' (cW ys k y) H5 else ∃m',m' < m/\W (i+1) m' ys H3)))
  (hRR:∀(D C:Oo) (ys:List (bv×V)) (He:Hp) (se:Os),aC X pins σ (upd He D (.dK ys)) se->He D=none->eG X pins (upd He D (.dK ys)) C->(∃m,se.heap.Ns C m)->C≠D->Qe ys He->RR (.ref D) C (.ok .next) se) :
  Ov (OE X.prog X.w) X.A newDict (λacc s₃=>Ov (OE X.prog X.w) X.A (Xa sc X.env.globals (fJ X.env.cells sc.names []) [] X.env.qual none .none (some X.env)) (λcenv s₄ =>
   RX (OE X.prog X.w) X.A (.compStart (.DictComp kx vx [⟨tg,iter,ifs,0⟩] sc pos) 0 (.ref it) acc { cenv with scope:=TY sc X.env }) (RR acc cenv.locals) s₄) E s₃) E s₂:=by
 refine Pc (SL S.nocell (by intro y hy; simp at hy) (λh₁ hns₁ hsb₁=>?_) S.kind)
 dsimp only at hns₁ hsb₁ ⊢
 generalize hH2:s₂.heap.push { cls:=.type "dict",dict:=none,data:=.dict #[] }=h3 at hns₁ hsb₁ ⊢
 have hC:h3.objs.size=s₂.heap.objs.size+1:=by rw [<-hH2,QR]
 have k3:∀b o,s₂.heap.get? b=some o->h3.get? b=some o:=λb o e=>hH2▸Op _ e
 have gD:h3.DictOf (aV X.prog X.w) s₂.heap.objs.size []:=by rw [<-hH2]; exact WI s₂.heap
 have hsm:(s₂.heap.objs.size == P0)=false:=beq_eq_false_iff_ne.mpr (P5 (OG I.big))
 have I3:aC X pins σ H2 { s₂ with heap:=h3 }:=I.kept (t':=s₂.toks) k3
 have nD:H2 s₂.heap.objs.size=none:=I.hok.fresh (OB _)
 have fD:eG X pins H2 s₂.heap.objs.size:=I.fpOk (OB _) nD
 have fpsz:∀b∈fp,b < s₂.heap.objs.size:=λb hb=>by
  obtain⟨o,e,_⟩:=T.obj 0 _ st b hb
  exact Oy e
 have iH:∀b∈s₂.heap.objs.size::fp,eG X pins H2 b:=λb hb=>by
  rcases ON.mp hb with e | hb
  ·subst e; exact fD
  ·exact hf b hb
 have k1:∀b o,h3.get? b=some o->h₁.get? b=some o:=λb o e=>hsb₁.extBut b o (OG (Oy e)) (Op _ e)
 have I4:aC (dC X sc Nc h3.objs.size { s₂ with heap:=h3 } H2 (s₂.heap.objs.size::fp) (X.pn++pins)) [] (iu ix σ) H2 { s₂ with heap:=h₁,toks:=s₂.toks+([]:List (Str×Om)).length } :=
  I3.lcStart S iH (λb hb=>by
   show b < h3.objs.size
   rw [hC]
   rcases ON.mp hb with e | hb
   ·rw [e]; exact Pj _
   ·exact QC (fpsz b hb)) ⟨_,hns₁⟩ k1
 generalize hXc:dC X sc Nc h3.objs.size { s₂ with heap:=h3 } H2 (s₂.heap.objs.size::fp) (X.pn++pins)=Xc at I4
 have eE:Xc.env=SK sc (fJ X.env.cells sc.names []) h3.objs.size X.env:=by rw [<-hXc]
 have eP:Xc.prog=X.prog:=by rw [<-hXc]
 have eW:Xc.w=X.w:=by rw [<-hXc]
 have eK:Xc.K=X.K:=by rw [<-hXc]
 have eA:Xc.A=X.A:=by rw [<-hXc]
 have eC:Xc.calm=true:=by rw [<-hXc]; exact hc
 have eX:Xc.xe=λ_ _=>False:=by rw [<-hXc]
 have hg':PG Xc tg g:=by rw [<-hXc]; exact hg _ _ _ _ _
 have hif':oW Xc ifs tt:=by rw [<-hXc]; exact hif _ _ _ _ _
 have hk':PE Xc kx tk:=by rw [<-hXc]; exact hk _ _ _ _ _
 have he':PE Xc vx te:=by rw [<-hXc]; exact he _ _ _ _ _
 have eF:Xc.fs=iU X.stack:=by rw [<-hXc]
 have eEx:Xc.ex=s₂.heap.objs.size::fp:=by rw [<-hXc]
 have ePn:Xc.pn=X.pn++pins:=by rw [<-hXc]
 have hcl:=I.lcCl S
 have sub:∀x c,(fJ X.env.cells sc.names []).lookup x=some c->X.env.cells.lookup x=some c:=λx c h=>ib hcl (λ_ _ z=>by simp at z) h
 have szAll:∀b∈s₂.heap.objs.size::fp,b≠h3.objs.size:=λb hb=>by
  rw [hC]
  rcases ON.mp hb with e | hb
  ·rw [e]; exact OG (Pj _)
  ·exact OG (QC (fpsz b hb))
 have fpD:∀b∈fp,s₂.heap.objs.size≠b:=λb hb=>RI (fpsz b hb)
 have stat:∀{H':Hp} {pp:List (Oo×Obj)},∀b∈s₂.heap.objs.size::fp,H' b=none->(∀p∈pp,p.1≠b)->eG Xc pp H' b:=λ{H' pp} b hb hn hpp=>by
  refine⟨hn,?_,?_,.inl (by rw [eEx]; exact hb),?_,?_⟩
  ·rw [eE]; exact szAll b hb
  ·rw [eF]
   intro hm
   rcases ON.mp (I.stkSub b hm) with z | z
   ·exact (iH b hb).2.1 z
   ·exact (iH b hb).2.2.1 z
  ·rw [eE]
   intro x c e
   exact (iH b hb).2.2.2.2.1 x c (sub x c e)
  ·rw [ePn]
   intro p hp
   rcases Pv.mp hp with hp | hp
   ·exact (iH b hb).2.2.2.2.2 p hp
   ·exact hpp p hp
 obtain⟨m0,w0⟩:=h0
 have loop:∀s₃:Os,s₃={ s₂ with heap:=h₁,toks:=s₂.toks+([]:List (Str×Om)).length } ->
   RX (OE X.prog X.w) X.A (.compLoop (.DictComp kx vx [⟨tg,iter,ifs,0⟩] sc pos) 0 (.ref it) (.ref s₂.heap.objs.size) (SK sc (fJ X.env.cells sc.names []) h3.objs.size X.env)) (RR (.ref s₂.heap.objs.size) h3.objs.size) s₃:=by
  rintro s₃ rfl
  refine Yl rfl (λn s'=>∃i H' vs its,aC Xc [] (iu ix σ) H' s'/\tn i s'.heap/\(∀b∈s₂.heap.objs.size::fp,H' b=none)/\s'.heap.DictOf (aV X.prog X.w) s₂.heap.objs.size its/\KV vs its/\W i n vs H') ?_ m0
   ⟨0,H2,[],[],I4,T.keep _ _ _ st λb hb o e=>k1 b o (k3 b o e),λb hb=>(iH b hb).1,gD.at λo e=>k1 _ o e,.nil,w0⟩
  rintro n s5 ⟨i,H5,vs,its,I5,st5,fr5,dd5,rv5,w5⟩
  obtain⟨o5,es5,ep5,hd5,hx5,hdat5,hrest5⟩:=id dd5
  show Ov _ _ ((compTurn (.DictComp kx vx [⟨tg,iter,ifs,0⟩] sc pos) 0 (.ref it) (.ref s₂.heap.objs.size) (SK sc (fJ X.env.cells sc.names []) h3.objs.size X.env)).onRaise (λx=>do Th x (SK sc (fJ X.env.cells sc.names []) h3.objs.size X.env); WK x)) _ _ s5
  refine wpAny_noted ?_
  rw [compTurn_dict]
  refine Ol (P7 (Ol ?_))
  obtain⟨hsz,hturn⟩:=turn i n vs H5 w5
  have pD:∀{H':Hp} {sx:Os} {σx:St} {o:Obj},aC Xc [] σx H' sx->H' s₂.heap.objs.size=none->sx.heap.get? s₂.heap.objs.size=some o->(∀v,o.data≠.cell v)->aC Xc [(s₂.heap.objs.size,o)] σx H' sx:=λ{H' sx σx o} Ix hn ho hd =>
   Ix.pins_of λp hp=>by
    have e:p=(s₂.heap.objs.size,o):=by simpa using hp
    subst e
    have q:eG Xc [] H' s₂.heap.objs.size:=stat _ Oz hn (λp hp=>by simp at hp)
    exact⟨ho,hn,q.2.1,q.2.2.1,hd⟩
  have f5:∀{H':Hp} {o:Obj},(∀b∈fp,H' b=none)->∀b∈fp,eG Xc [(s₂.heap.objs.size,o)] H' b:=λ{H' o} fr b hb=>stat b (OF _ hb) (fr b hb) (λp hp=>by
   have e:p=(s₂.heap.objs.size,o):=by simpa using hp
   subst e
   exact fpD b hb)
  have I5p:=pD I5 (fr5 _ Oz) hd5 (λv z=>by rw [hdat5] at z; cases z)
  have fr5':∀b∈fp,H5 b=none:=λb hb=>fr5 b (OF _ hb)
  rcases hturn with ⟨stop,qe⟩ | ⟨go,step⟩
  ·have q:=T.done Xc eP eW eK eC i _ s5 (iu ix σ) H5 (λ_ _=>False) I5p (f5 fr5') st5 stop
   rw [eA] at q
   refine OS q (λr s6 ⟨hr,I6⟩=>?_) λ_ _ z=>z.elim
   subst hr
   refine On ?_
   have hD6:=I6.pin (s₂.heap.objs.size,_) (OC _ Oz)
   have I6':aC (dC X sc Nc h3.objs.size { s₂ with heap:=h3 } H2 (s₂.heap.objs.size::fp) (X.pn++pins)) [] (iu ix σ) H5 s6:=by rw [hXc]; exact I6.pins_of (λp hp=>by simp at hp)
   have Ie:=I3.dcEnd (vs:=vs) (its:=its) I6' iH hD6.2.1 (dd5.at λo e=>by rw [hd5] at e; cases e; exact hD6.1) rv5 hsm (PY hsz)
   have fr6:H5 h3.objs.size=none:=I6'.free
   have neC:h3.objs.size≠s₂.heap.objs.size:=P5 (szAll _ Oz)
   obtain⟨m6,hn6,_⟩:=I6'.loc
   refine hRR _ _ vs H5 s6 Ie hD6.2.1 (I3.fpOk (OB _) ?_) ⟨m6,hn6⟩ neC qe
   rw [ao neC]; exact fr6
  ·have q:=T.item Xc eP eW eK eC i _ s5 (iu ix σ) H5 (λ_ _=>False) I5p (f5 fr5') st5 go
   rw [eA] at q
   refine OS q (λr s6 ⟨u,hr,h6⟩=>?_) λ_ _ z=>z.elim
   subst hr
   refine Ol (OS h6 (λ_ s7 ⟨x,H7,I7,r7,y7,st7,fr7⟩=>?_) λ_ _ z=>z.elim)
   have I7':=I7.pinned (f5 fr7) (T.obj _ _ st7)
   have q8:=hg' _ s7 (iu ix σ) H7 x u _ I7' r7 (step x H7 y7)
   rw [eP,eW,eA,eE,eX] at q8
   refine Ol (OS q8 (λ_ s8 ⟨σ8,H8,I8,q8⟩=>?_) λ_ _ z=>z.elim)
   obtain⟨kp,q8⟩:=q8
   have q9:=hif' _ s8 σ8 H8 _ I8 q8
   rw [eP,eW,eA,eE,eX] at q9
   refine Ol (OS q9 (λb s9 ⟨H9,I9,q9⟩=>?_) λ_ _ z=>z.elim)
   -- what the pins say behind a step
   have back:∀{H':Hp} {sx:Os},aC Xc ([(s₂.heap.objs.size,o5)]++m5 fp s7.heap) σ8 H' sx ->
     aC Xc [] (iu ix σ) H' sx/\tn (i+1) sx.heap/\(∀b∈s₂.heap.objs.size::fp,H' b=none)/\sx.heap.DictOf (aV X.prog X.w) s₂.heap.objs.size its:=λ{H' sx} Ix=>by
    have pd:=Ix.pin (s₂.heap.objs.size,_) (OC _ Oz)
    refine⟨(Ix.pins_of (pins':=[]) (λp hp=>by simp at hp)).weak kp.1 kp.2,T.keep _ _ _ st7 λb hb o e=>(Ix.pin (b,o) (OC _ (OC _ (eJ hb e)))).1,λb hb=>?_,dd5.at λo e=>by rw [hd5] at e; cases e; exact pd.1⟩
    rcases ON.mp hb with e | hb
    ·rw [e]; exact pd.2.1
    ·obtain⟨o,e,d⟩:=T.obj _ _ st7 b hb
     exact (Ix.pin (b,o) (OC _ (OC _ (eJ hb e)))).2.1
   cases b with
   | false =>
    obtain⟨m',hm,w9⟩:=(by simpa using q9:∃m',m' < n/\W (i+1) m' vs H9)
    obtain⟨a1,a2,a3,a4⟩:=back I9
    exact On ⟨rfl,m',hm,i+1,H9,vs,its,a1,a2,a3,a4,rv5,w9⟩
   | true =>
    have q9:tk σ8 H9 λkv H4=>te σ8 H4 λy H5=>∃k,kv=kV k/\∃m',m' < n/\W (i+1) m' (cW vs k y) H5:=by simpa using q9
    have q10:=hk' _ s9 σ8 H9 _ I9 q9
    rw [eP,eW,eA,eE,eX] at q10
    refine Ol (Ol (OS q10 (λku sk ⟨kv,Hk,Ik,rk,qk⟩=>?_) λ_ _ z=>z.elim))
    have q11:=he' _ sk σ8 Hk _ Ik qk
    rw [eP,eW,eA,eE,eX] at q11
    refine Ol (Ps (OS q11 (λy s10 ⟨v10,H10,I10,r10,q10⟩=>?_) λ_ _ z=>z.elim))
    obtain⟨kk,ek,m',hm,w10⟩:=q10
    subst ek
    obtain⟨a1,a2,a3,a4⟩:=back I10
    refine Ol (P7 (Ps (wpAny_dictSet_pairs (hsz:=by rw [<-rv5.length]; exact PY hsz) (jn rk) a4 λh' hp hsb=>?_)))
    have fd:eG Xc [] H10 s₂.heap.objs.size:=stat _ Oz (a3 _ Oz) (λp hp=>by simp at hp)
    have I11:aC Xc [] (iu ix σ) H10 { s10 with heap:=h',toks:=s10.toks+1 }:=a1.turned (t':=s10.toks+1) (it:=s₂.heap.objs.size) (λb o hb e=>(hsb.2 b hb).trans e) fd.1 fd.2.1 fd.2.2.2.1 fd.2.2.2.2.1 fd.2.2.2.2.2
    exact On ⟨rfl,m',hm,i+1,H10,cW vs kk v10,_,I11,T.keep _ _ _ a2 λb hb o e=>(hsb.2 b (P5 (fpD b hb))).trans e,a3,hp,rv5.put kk r10,w10⟩
 exact codeAny_compStart_dict (loop _ rfl) (T.self _ 0 _ _ _ (T.keep _ _ _ st λb hb o e=>k1 b o (k3 b o e)) (loop _ rfl))

theorem IX (hc:X.calm=true) (S:aR X.env.scope X.N sc Nc ix) (hi:PI X tg iter wi) (hg:∀C s H ex pn,PG (dC X sc Nc C s H ex pn) tg g) (hif:∀C s H ex pn,oW (dC X sc Nc C s H ex pn) ifs tt) (hk:∀C s H ex pn,PE (dC X sc Nc C s H ex pn) kx tk) (he:∀C s H ex pn,PE (dC X sc Nc C s H ex pn) vx te)
  (hs:∀x,Qz iter X.env x=pure x:=by with_unfolding_all (intro _; rfl)):PE X (.DictComp kx vx [⟨tg,iter,ifs,0⟩] sc pos) (Kw ix wi g tt tk te):=by
 intro pins s σ H Q I h
 rw [arm_eval_DictComp]
 refine Rh (use:=none) rfl hs (ff (I.lcCl S)) S.kind S.loc (bG (hi pins s σ H _ I h) λv s1 h1=>bG h1 λitv s2 h2=>?_)
 obtain⟨it,fp,tn,J,H2,e,I2,T,st2,f2,W,w0,turn⟩:=h2
 subst e
 refine xB hc S hg hif hk he I2 T st2 f2 W w0 (λys H=>∀p,H p=none->Q (.ref p) (upd H p (.dK ys))) turn (RR:=λacc C=>Xb (OE X.prog X.w) X.A X.xe none (EP X pins σ Q) acc C) ?_
 intro D C ys He se Ie hD fC hn hCD q
 obtain⟨m,hn⟩:=hn
 exact⟨m,hn,λh' hs'=>⟨.ref D,_,Ie.letGo fC hs',rfl,q D hD⟩⟩

theorem xC {i:Nat} {x:Str} {pos' spos:Pos} (hc:X.calm=true) (hN:X.N.Nodup) (hx:X.N[i]?=some x) (hl:X.env.scope.names.lookup x=some .local) (S:aR X.env.scope X.N sc Nc ix) (hi:PI X tg iter wi) (hg:∀C s H ex pn,PG (dC X sc Nc C s H ex pn) tg g)
  (hif:∀C s H ex pn,oW (dC X sc Nc C s H ex pn) ifs tt) (hk:∀C s H ex pn,PE (dC X sc Nc C s H ex pn) kx tk) (he:∀C s H ex pn,PE (dC X sc Nc C s H ex pn) vx te)
  (hsw:PJ (.DictComp kx vx [⟨tg,iter,ifs,0⟩] sc pos) (some (.Name x pos')) spos.line X.env=pure true:=by nofun)
  (hs:∀x,Qz iter X.env x=pure x:=by with_unfolding_all (intro _; rfl)):PS X (.Assign [.Name x pos'] (.DictComp kx vx [⟨tg,iter,ifs,0⟩] sc pos) spos) (k6 (Kw ix wi g tt tk te) (h8 i)):=by
 intro pins s σ H D I h
 rw [UG _ _ _ _ hsw]
 refine Ol (P7 (Ol ?_))
 show Ov _ X.A (do let _ <-X0 (.DictComp kx vx [⟨tg,iter,ifs,0⟩] sc pos) sc X.env _ newDict false (O2 iter X.env) (some (Tj (.Name x pos') X.env))) _ _ s
 refine Ol (OS (Rh (use:=some (Tj (.Name x pos') X.env)) (Q:=λ_ s'=>SP X pins D .next s') rfl hs (ff (I.lcCl S)) S.kind S.loc
  (bG (hi pins s σ H _ I h) λv s1 h1=>bG h1 λitv s2 h2=>?_)) (λ_ s' hq=>On (On hq)) λ_ _ e=>e)
 obtain⟨it,fp,tn,J,H2,e,I2,T,st2,f2,W,w0,turn⟩:=h2
 subst e
 refine xB hc S hg hif hk he I2 T st2 f2 W w0 (λys H=>∀p,H p=none->D.nx (σ.set i (some (.ref p))) (upd H p (.dK ys))) turn (RR:=λacc C=>Xb (OE X.prog X.w) X.A X.xe (some (Tj (.Name x pos') X.env)) (λ_ s'=>SP X pins D .next s') acc C) ?_
 intro L C ys He se Ie hD fC hn hCD q
 obtain⟨m,hn⟩:=hn
 show Ov _ X.A (Tj (.Name x pos') X.env (.ref L)) _ _ se
 refine TU (mZ (v:=.ref L) Ie hN hx (.inl hl) rfl (λs' I' ⟨a,hsb,ha⟩=>?_) (.inr hl))
 have ne:C≠a:=by
  rcases ha with e | e
  ·rw [e]; exact fC.2.1
  ·exact P5 (fC.2.2.2.2.1 x a e)
 exact⟨m,hn.sameBut hsb ne,λh' hs'=>⟨_,_,I'.letGo fC hs',q L hD⟩⟩
end
end L2
namespace RB
open PySem L2
def K9 (σ:eg) (t:BG) (tt:BT) (tk te:BE) (k:AV->aU->Bool) (src:zl) (fuel:Nat):Nat->List (AV×AV)->aU->Bool:=Va (motive:=λ_=>Nat->List (AV×AV)->aU->Bool) (λ_ _ _=>false) (λ_ ih i ys S=>match Pg ys.length 900 with
 | false=>false
 | true=>match src.nxt i S with
  | some none=>k (.ref S.n) (S.add (.dk ys))
  | some (some x)=>t x σ S λσ2 S2=>tt σ2 S2 λc S3=>match c with
   | true=>tk σ2 S3 λky S4=>te σ2 S4 λz S5=>match fU ky with
    | true=>ih (i+1) (sG ys ky z) S5
    | false=>false
   | false=>ih (i+1) ys S3
  | none=>false) fuel
def La (fuel:Nat) (ix:List (Option Nat)) (it:BI) (t:BG) (tt:BT) (tk te:BE):BE:=λσ S k=>it σ S λsrc S1=>K9 (wI ix σ) t tt tk te k src fuel 0 [] S1
def Kx (fuel:Nat) (keys:Bool) (ix:List (Option Nat)) (a:BE) (t:BG) (tt:BT) (tk te:BE):BE:=λσ S k=>a σ S λx S1=>match Ck keys S1 x with
 | some (n,S2)=>K9 (wI ix σ) t tt tk te (xz n k) (EQ keys n) fuel 0 [] S2
 | none=>false
section
variable {a b c e o tg:OP} {ba bb bc:BE} {bt:BT} {br:BA} {s1 s2:BS} {body:List Rf}
abbrev Co (F:Fx) (y:Option Int) (ρ:List Oo) (H:Hp):List (AV×AV)->List (bv×V)->Prop:=Paired λp q=>gR p.1 q.1/\aY F y ρ H p.2 q.2
theorem Co.mono {y y1:Option Int} {ρ ρ1:List Oo} {H H1:Hp} (st:aE F y ρ H y1 ρ1 H1) {p:List (AV×AV)} {q:List (bv×V)} (h:Co F y ρ H p q):Co F y1 ρ1 H1 p q:=a6 (λ_ _ z=>⟨z.1,aY.mono st z.2⟩) h
theorem A2 {y1:Option Int} {ρ1:List Oo} {S1:aU} {H1:Hp} {fuel:Nat} {t:BG} {tt:BT} {tk te:BE} {src:zl} {J:It} {k:AV->aU->Bool} {Q:VK} {σ:L2.St} {σa:eg} (hsl:∀j∈sl,ix[j]?=some none) (C1:aM g F y1 ρ1 S1 H1) (r1:bL g F y1 ρ1 H1 σa σ) (so:ow g F y1 ρ1 H1 src J)
  (h1:K9 (wI ix σa) t tt tk te k src fuel 0 [] S1=true) (p:jd g F y1 ρ1 H1 k Q):∃W:Nat->Nat->List (bv×V)->Hp->Prop,(∃m,W 0 m [] H1)/\∀i m ys H,W i m ys H->ys.length < OA /\
 ((J.stop i H/\∀p,H p=none->Q (.ref p) (upd H p (.dK ys)))∨(J.go i H/\∀x H',J.yld i H x H'->qG g sl t x (iu ix σ) H' λσ2 H2=>L2.yS (iu ix σ) σ2/\f6 g tt σ2 H2 λb H3 =>
  if b=true then up g tk σ2 H3 λkv H4=>up g te σ2 H4 λy H5=>∃k,kv=kV k/\∃m',m' < m/\W (i+1) m' (cW ys k y) H5 else ∃m',m' < m/\W (i+1) m' ys H3)):=by
 refine⟨λi m ys H'=>∃y' ρ' S' ays,aE F y1 ρ1 H1 y' ρ' H'/\aM g F y' ρ' S' H'/\Co F y' ρ' H' ays ys/\K9 (wI ix σa) t tt tk te k src m i ays S'=true,⟨fuel,y1,ρ1,S1,[],.refl,C1,.nil,h1⟩,?_⟩
 rintro i m ys H2 ⟨y2,ρ2,S2,ays,st2,C2,r2,h2⟩
 obtain⟨t1,t2⟩:=so.turn y2 ρ2 S2 H2 i st2 C2
 cases m with
 | zero=>cases h2
 | succ m =>
  have h2:(match Pg ays.length 900 with
   | false=>false
   | true=>match src.nxt i S2 with
    | some none=>k (.ref S2.n) (S2.add (.dk ays))
    | some (some x)=>t x (wI ix σa) S2 λσ2 S2=>tt σ2 S2 λc S3=>match c with
     | true=>tk σ2 S3 λky S4=>te σ2 S4 λz S5=>match fU ky with
      | true=>K9 (wI ix σa) t tt tk te k src m (i+1) (sG ays ky z) S5
      | false=>false
     | false=>K9 (wI ix σa) t tt tk te k src m (i+1) ays S3
    | none=>false)=true:=h2
  cases q0:Pg ays.length 900 with
  | false=>rw [q0] at h2; cases h2
  | true =>
   rw [q0] at h2
   have hl:=Pe r2
   have hl2:=bD q0
   refine⟨cF (by omega),?_⟩
   dsimp only at h2
   cases q:src.nxt i S2 with
   | none=>rw [q] at h2; cases h2
   | some ox=>cases ox with
    | none =>
     rw [q] at h2
     refine .inl ⟨t2 q,λpl hp=>?_⟩
     have st3:aE F y2 ρ2 H2 y2 (ρ2++[pl]) (upd H2 pl (.dK ys)):=aE.add hp
     exact p y2 _ _ _ (.ref S2.n) _ (st2.trans st3) (C2.add (o:=.dk ays) hp ⟨ys,rfl,Co.mono st3 r2⟩) ⟨pl,by rw [C2.n]; simp,rfl⟩ h2
    | some ax =>
     rw [q] at h2
     obtain⟨go,yl⟩:=t1 ax q
     refine .inr ⟨go,λx H3 yx=>?_⟩
     obtain⟨st3,C3,rx⟩:=yl x H3 yx
     have rl:bL g F y2 ρ2 H3 (wI ix σa) (iu ix σ):=EA (bL.mono (st2.trans st3) r1) ix
     refine⟨F,y2,ρ2,S2,ax,_,_,C3,rx,rl,h2,λy4 ρ4 S4 H4 σ4 σ5 st4 C4 r4 o4 h4=>⟨⟨o4.1.symm,λj v e=>?_⟩,?_⟩⟩
     ·rw [o4.2 j λm=>?_]
      ·exact e
      ·have z:=hsl j m
       unfold iu at e
       rw [PF,z] at e
       cases e
     ·refine ft C4 r4 h4 λy5 ρ5 S5 H5 c st5 C5 r5 h5=>?_
      have stc:=((st2.trans st3).trans st4).trans st5
      have r25:=Co.mono ((st3.trans st4).trans st5) r2
      cases c with
      | false=>exact sA ⟨m,Pj m,y5,ρ5,S5,ays,stc,C5,r25,h5⟩
      | true =>
       refine sB (aD C5 r5 h5 λy6 ρ6 S6 H6 ak kv oS C6 r6 rk h6=>aD C6 r6 h6 λy7 ρ7 S7 H7 az z st7 C7 r7 rz h7=>?_)
       cases qk:fU ak with
       | false=>simp only [qk] at h7; cases h7
       | true =>
        simp only [qk] at h7
        obtain⟨kk,hk,rfl⟩:=RB.dj qk rk
        refine⟨kk,rfl,m,Pj m,y7,ρ7,S7,sG ays ak az,(stc.trans oS).trans st7,C7,?_,h7⟩
        exact pK (KR:=gR) (R:=aY F y7 ρ7 _) (λ_ _ _ _ h1 h2=>gz h1 h2) hk rz (Co.mono (oS.trans st7) r25)
theorem EU {fuel:Nat} {it:BI} {t:BG} {tt:BT} {tk te:BE} (hsl:∀j∈sl,ix[j]?=some none):∀σ H Q,up g (La fuel ix it t tt tk te) σ H Q->Kw ix (Dm g it) (qG g sl t) (f6 g tt) (up g tk) (up g te) σ H Q:=by
 rintro σ H Q ⟨F,y,ρ,S,σa,k,C,r,h,p⟩
 exact⟨F,y,ρ,S,σa,_,C,r,h,λy1 ρ1 S1 H1 src J st C1 so h1=>A2 hsl C1 (bL.mono st r) so h1 (p.mono st)⟩
theorem IY (fuel:Nat) {it:BI} {t:BG} {tt:BT} {tk te:BE} (hsl:∀j∈sl,ix[j]?=some none) (h:PE X e (Kw ix (Dm g it) (qG g sl t) (f6 g tt) (up g tk) (up g te))):PE X e (up g (La fuel ix it t tt tk te)):=PE.imp (EU hsl) h
theorem EV (fuel:Nat) (i:Nat) {it:BI} {t:BG} {tt:BT} {tk te:BE} (hsl:∀j∈sl,ix[j]?=some none) (h:PS X st (k6 (Kw ix (Dm g it) (qG g sl t) (f6 g tt) (up g tk) (up g te)) (h8 i))):PS X st (c9 g (aX (La fuel ix it t tt tk te) (ai i))) :=
 PS.imp (λD σ H ⟨F,y,ρ,S,σa,d,C,r,h,p,_⟩=>EU (fuel:=fuel) hsl σ H _ (aD C r h λy1 ρ1 S1 H1 ax x st C1 r1 rx h1=>p y1 ρ1 S1 H1 _ _ st C1 (dm r1 rx) h1)) h
theorem Hr (fuel:Nat) {t:BG} {tt:BT} {tk te:BE} {H₀:Hp} (hsl:∀j∈sl,ix[j]?=some none):∀σ H Q,up g (Kx fuel true ix ba t tt tk te) σ H Q->Kw ix (EN H₀ (up g ba)) (qG g sl t) (f6 g tt) (up g tk) (up g te) σ H (λv H'=>Cj H₀ (Q v) H'):=λσ H Q ⟨F,y,ρ,S,σa,k,C,r,h,p⟩ =>
 aD C r h λy1 ρ1 S1 H1 ax x st C1 r1 rx h1=>by
  cases q:Ck true S1 ax with
  | none=>simp only [q] at h1; cases h1
  | some m =>
   obtain⟨n,S2⟩:=m
   simp only [q] at h1
   obtain⟨a,ks,rfl,rfl,hρ,ha,fr⟩:=Hm C1 rx q
   refine⟨a,ks,rfl,ha,λob nf=>?_⟩
   obtain⟨stf,Cf⟩:=fr ob
   refine A2 (Q:=λv H'=>Cj H₀ (Q v) H') hsl Cf (bL.mono stf r1) (ES hρ aF .k) h1 λy3 ρ3 S3 H3 av v st3 C3 rv h3=>?_
   unfold xz at h3
   split at h3
   ·rename_i S4 q4
    obtain⟨t1,t2,t3⟩:=vP (H0:=H1) hρ ha rfl st3 stf C3 q4
    exact⟨a,ob,_,t1,nf,p y3 ρ3 S4 _ av v (st.trans t2) t3 (xA t1 rv) h3⟩
   ·cases h3
theorem Cp (fuel:Nat) (i:Nat) {t:BG} {tt:BT} {tk te:BE} (hsl:∀j∈sl,ix[j]?=some none) (h:PS X st (k6 (Kw ix (EN X.H₀ (up g ba)) (qG g sl t) (f6 g tt) (up g tk) (up g te)) (h8 i))):PS X st (c9 g (aX (Kx fuel true ix ba t tt tk te) (ai i))) :=
 PS.imp (λD σ H ⟨F,y,ρ,S,σa,d,C,r,h,p,_⟩=>Hr fuel hsl σ H _ (aD C r h λy1 ρ1 S1 H1 ax x st C1 r1 rx h1=>p y1 ρ1 S1 H1 _ _ st C1 (dm r1 rx) h1)) (PS.thaw h)
end
end RB
namespace L2
open PySem PySem.Spec PyProof.Rows PySem.W
def vQ {α:Type} (f:Nat->Nat->Option Bool):KasT α->Option α
 | .ret a=>some a
 | .ask i j k=>match f i j with
  | some b=>vQ f (k b)
  | none=>none
theorem uH {α:Type} {cmp:Nat->Nat->(Bool->Os->Prop)->Os->Prop} {s:Os} {f:Nat->Nat->Option Bool} (h:∀i j b,f i j=some b->∀C:Bool->Os->Prop,C b s->cmp i j C s) {G:α->Os->Prop} {a:α} (hG:G a s) :
  ∀(t:KasT α),vQ f t=some a->t.kasWp cmp G s
 | .ret b,e=>by cases e; exact hG
 | .ask i j k,e=>by
  unfold vQ at e
  cases q:f i j with
  | none=>rw [q] at e; cases e
  | some b =>
   rw [q] at e
   exact h i j b q _ (uH h hG (k b) e)
def zx (tp:Bool) (kz:List Int) (i j:Nat):Option Bool:=match kz[i]?,kz[j]? with
 | some a,some b=>if tp=true/\a=b then none else some (decide (a < b))
 | _,_=>none
def EW (H:Hp) (tp:Bool):List Int->List V->Prop:=Paired λk x=>match tp with
 | true=>∃b ys,x=.ref b/\H b=some (.tup (.int k::ys))
 | false=>x=.int k
def A3 (prog:OZ) (w:Pl) (A:P6) (us vs:List Om) (p:Array Nat) (s:Os):Prop :=
 ∀(Q:SortSt->Os->Prop) (E:Om->Os->Prop),(∀st',p.size=vs.length->Ub st'=p.map (Y2 (us.toArray.zip vs.toArray))->Uc st'=none->Q st' s) ->
  Ov (OE prog w) A (keyKind' us.toArray) (λκ s'=>Ov (OE prog w) A ((sortRuns').run (SA κ (us.toArray.zip vs.toArray) #[] 7 none)) (λr s''=>Q r.2 s'') E s') E s
theorem uI {H:Hp}:∀{kz:List Int} {ks:List V} {us:List Om},EW H false kz ks->aO ks us->SF us kz
 | _,_,_,.nil,r=>by cases r; exact .nil
 | _,_,_,.cons e t,r=>by
  cases r with
  | cons ru rt =>
   cases (show _=V.int _ from e)
   obtain⟨t',rfl⟩:=ru
   exact .cons _ _ (uI (H:=H) t rt)
theorem qT:∀{kz:List Int} {us:List Om} {i:Nat} {k:Int},SF us kz->kz[i]?=some k->∃t,us[i]?=some (.int k t)
 | _,_,_,_,.nil,e=>by simp at e
 | _,_,0,_,.cons n t _,e=>by simp at e; subst e; exact⟨t,rfl⟩
 | _,_,i+1,k,.cons _ _ r,e=>by
  obtain⟨t,h⟩:=qT (i:=i) (k:=k) r (by simpa using e)
  exact⟨t,by simpa using h⟩
theorem uJ {P:OZ} {w:Pl} {H:Hp} {h:O9} (ok:iT P w H h):∀{kz:List Int} {ks:List V} {us:List Om},EW H true kz ks->aO ks us->∃fs,KatTups h us fs/\SF fs kz /\
  ∀(i:Nat) (k:Int),kz[i]?=some k->∃a o xs n t,us[i]?=some (.ref a)/\h.get? a=some o/\o.data=.seq xs n/\xs.toList.head?=some (.int k t)
 | _,_,_,.nil,r=>by cases r; exact⟨[],KatTups.nil,.nil,λi k e=>by simp at e⟩
 | _,_,_,.cons (a:=k0) e t,r=>by
  cases r with
  | cons ru rt =>
   obtain⟨b,ys,rfl,hb⟩:=e
   cases (show _=OJ b from ru)
   obtain⟨fs,h1,h2,h3⟩:=uJ ok t rt
   obtain⟨z,its,rv,o,e1,e2,n,e3⟩:=ok b _ hb
   cases rv with
   | cons r0 r1 =>
    obtain⟨t0,rfl⟩:=r0
    refine⟨_::fs,KatTups.cons e1 e2 e3 rfl h1,.cons k0 t0 h2,λi k ei=>?_⟩
    cases i with
    | zero=>simp at ei; subst ei; exact⟨b,o,_,n,t0,rfl,e1,e3,rfl⟩
    | succ i =>
     obtain⟨a,o',xs,n',t',q⟩:=h3 i k (by simpa using ei)
     exact⟨a,o',xs,n',t',by simpa using q⟩
theorem EY {xs ys:List Om} {p q:Om} (h1:xs.head?=some p) (h2:ys.head?=some q):∃r,xs.zip ys=(p,q)::r:=by
 cases xs with
 | nil=>cases h1
 | cons x xs=>cases ys with
  | nil=>cases h2
  | cons y ys=>cases h1; cases h2; exact⟨_,rfl⟩
theorem EZ {tp:Bool} {kz:List Int} {ks:List V} {us vs:List Om} {p:Array Nat} (ok:iT prog w H s.heap) (kI:EW H tp kz ks) (rk:aO ks us) (hl:us.length=vs.length) (h2:2≤vs.length) (h64:vs.length < 64)
  (hr:vQ (zx tp kz) (Y3 vs.length)=some p):A3 prog w A us vs p s:=by
 intro Q E hq
 have step:∀κ,(∀i j b,zx tp kz i j=some b->∀C:Bool->Os->Prop,C b s->ZF prog w A κ us i j C s)->Ov (OE prog w) A ((sortRuns').run (SA κ (us.toArray.zip vs.toArray) #[] 7 none)) (λr s''=>Q r.2 s'') E s:=λκ hc =>
  kat_run (Q:=Q) (G:=λp' s'=>p'=p/\s'=s) hl h2 h64 (λp' st' s' z e1 e2 e3=>by obtain⟨rfl,rfl⟩:=e3; exact hq st' z e1 e2) (uH hc ⟨rfl,rfl⟩ _ hr)
 have gd:∀{i:Nat} {v:Om},us[i]?=some v->us.getD i Pr=v:=λ{i v} e=>by rw [Qj,e]; rfl
 cases tp with
 | false =>
  have hI:=uI kI rk
  have hk:=ksk_kind (keys:=us.toArray) (by simpa using hI) (by simpa [hl] using h2)
  rw [hk]
  refine On (step _ λi j b e C hC=>?_)
  unfold zx at e
  split at e
  ·rename_i a c e1 e2
   simp at e
   obtain⟨t1,g1⟩:=qT hI e1
   obtain⟨t2,g2⟩:=qT hI e2
   unfold ZF
   rw [gd g1,gd g2]
   refine kat_lt_int ?_
   rw [e]; exact hC
  ·cases e
 | true =>
  obtain⟨fs,t1,t2,t3⟩:=uJ ok kI rk
  have hfl:0 < fs.length:=by
   have q1:=t2.length
   have q2:=Pe kI
   have q3:=rk.length
   omega
  refine kat_kind (T:=.type "int") t1 hfl (λv hv=>?_) rfl (step _ λi j b e C hC=>?_)
  ·obtain⟨n,t,rfl⟩:=t2.all v hv
   exact .now
  ·unfold zx at e
   split at e
   ·rename_i a c e1 e2
    split at e
    ·cases e
    ·rename_i hne
     simp at e hne
     obtain⟨a1,o1,xs1,n1,u1,g1,g2,g3,g4⟩:=t3 i a e1
     obtain⟨a2,o2,xs2,n2,u2,k1,k2,k3,k4⟩:=t3 j c e2
     unfold ZF
     rw [gd g1,gd k1]
     refine kat_lt g2 g3 k2 k3 ?_
     obtain⟨r,hz⟩:=EY g4 k4
     rw [hz]
     refine kat_cons (Wc ?_)
     have:(a == c)=false:=by simpa using hne
     rw [this]
     refine kat_no (oneLt_int ?_)
     rw [e]; exact hC
   ·cases e
def E1 (prog:OZ) (w:Pl) (A:P6) (us vs out:List Om) (s:Os):Prop :=
 (vs.length < 2/\out=vs)∨(2≤vs.length/\∃p:Array Nat,A3 prog w A us vs p s/\out=p.toList.map λi=>vs.getD i Pr)
section
variable {a kS:Oo} {vs us out:List Om} {e e1:Nat} {P:Wm->Os->Prop}
theorem IZ {n:Nat} (ho:s.heap.get? a=some (OO "list" vs.toArray n)) (h64:vs.length < 64)
  (hs:∀h' tk',qF a s.heap h'->E1 prog w A vs vs out { s with heap:=h',toks:=tk' })
  (h:∀h' c,qF a s.heap h'->h'.get? a=some (OO "list" out.toArray c)->P (.done (.ret .none)) { s with heap:=h' }) :
  Ov (OE prog w) A (QX.«list.sort» ⟨[.ref a],[]⟩) P E s:=by
 have few:vs.length≤OA:=by rw [O4]; omega
 obtain⟨e1,ho1⟩:∃e1,(s.heap.update a (Pa λ_=>(#[]:Array Om))).get? a=some (OO "list" #[] e1):=⟨_,Q5 ho λ_=>#[]⟩
 rw [list_sort_plain]
 refine Ol (Td ho rfl (Ol (P8 ho rfl (Ol (R9 ho1 rfl (Ol (TC (Ol (Rw (Ps ?_) (Pu _))) few)))) (by rw [Ot]; exact few) (Pu _))))
 have kpA:qF a s.heap (((s.heap.update a (Pa λ_=>(#[]:Array Om))).push (OO "tuple" vs.toArray 0)).push (OO "list" #[] 0)):=((qF.upd _ _ _).kp (Kp.push _ _)).kp (Kp.push _ _)
 have ho6:(((s.heap.update a (Pa λ_=>(#[]:Array Om))).push (OO "tuple" vs.toArray 0)).push (OO "list" #[] 0)).get? a=_:=Op _ (Op _ ho1)
 have hs':=hs _ s.toks kpA
 show Ov (OE prog w) A _ P E { s with heap:=((s.heap.update a (Pa λ_=>(#[]:Array Om))).push (OO "tuple" vs.toArray 0)).push (OO "list" #[] 0) }
 dsimp only
 rcases hs' with ⟨h2,rfl⟩ | ⟨h2,p,hp,rfl⟩
 ·have h2':out.toArray.size < 2:=by rw [Ot]; exact h2
  rw [if_pos h2',if_pos h2']
  refine Ol (On ?_)
  rw [UA]
  refine Ol (On ?_)
  have H1:(Ub (SA Xg (out.toArray.zip out.toArray) #[] 7 none)).map (·.2)=out.toArray:=by
   show (out.toArray.zip out.toArray).map (·.2)=out.toArray
   apply Wo.mp
   rw [Wp,ksk_zip]
   simp [Wq]
  have H3:Uc (SA Xg (out.toArray.zip out.toArray) #[] 7 none)=none:=rfl
  dsimp only
  rw [H1]
  refine Ol (R9 ho6 rfl ?_)
  refine Ol (P8 ho6 rfl ?_ (Pu _) (by rw [Ot]; omega))
  (try rw [H3])
  simp only [bne_self_eq_false,OT,if_false]
  exact On (h _ _ (kpA.trans (qF.upd _ _ _)) (Q5 ho6 λ_=>_))
 ·have h2':¬vs.toArray.size < 2:=by rw [Ot]; omega
  rw [if_neg h2',if_neg h2']
  refine Ol (OS (hp (λst' s'=>p.size=vs.length/\Ub st'=p.map (Y2 (vs.toArray.zip vs.toArray))/\Uc st'=none/\s'=_) E λst' q1 q2 q3=>⟨q1,q2,q3,rfl⟩) (λκ s' hk=>Ol (OS hk ?_ λ_ _ x=>x)) λ_ _ x=>x)
  rintro ⟨⟨⟩,st'⟩ s'' ⟨q1,q2,q3,rfl⟩
  have H1:=kat_snds rfl q2
  have H3:=q3
  have H2:(p.toList.map λi=>vs.getD i Pr).length≤OA:=by rw [O7,O6,q1]; exact few
  dsimp only
  rw [H1]
  refine Ol (R9 ho6 rfl ?_)
  refine Ol (P8 ho6 rfl ?_ (Pu _) (by rw [Ot]; omega))
  (try rw [H3])
  simp only [bne_self_eq_false,OT,if_false]
  exact On (h _ _ (kpA.trans (qF.upd _ _ _)) (Q5 ho6 λ_=>_))
end
def N7 (prog:OZ) (w:Pl) (a:Oo) (xs:List V) (s:Os):Prop :=
 ∀(A:P6) (Q:List Om->Os->Prop) (E:Om->Os->Prop),A.handled=none->(∀vs g tk,aO xs vs->Kp s.heap g->Q vs { s with heap:=g,toks:=tk })->Ov (OE prog w) A (collect (.ref a)) Q E s
inductive vR (w:Pl) (H:Hp):Oo->List V->Prop where
 | lst {a:Oo} {xs:List V}:H a=some (.lst xs)->vR w H a xs
 | tup {a:Oo} {xs:List V}:H a=some (.tup xs)->vR w H a xs
 | dk {a:Oo} {kvs:List (bv×V)}:H a=some (.dK kvs)->vR w H a (kvs.map λp=>kV p.1)
theorem uK {kvs:List (bv×V)} {vs:List (bv×Om)} (r:KV kvs vs) (hl:us.length=vs.length) (h:∀(i:Nat) v,us[i]?=some v->∃k x,vs[i]?=some (k,x)/\(aV prog w).is k v=true):aO (kvs.map λp=>kV p.1) us:=by
 induction r generalizing us with
 | nil =>
  cases us with
  | nil=>exact .nil
  | cons _ _=>simp at hl
 | @cons p q ps qs h0 t ih =>
  cases us with
  | nil=>simp at hl
  | cons u us =>
   obtain⟨k,x,e,hk⟩:=h 0 u rfl
   simp at e
   obtain⟨rfl⟩:=e
   refine .cons ?_ (ih (by simpa using hl) λi v e=>by simpa using h (i+1) v (by simpa using e))
   have h1:=h0.1
   dsimp only at h1
   show aP (kV p.1) u
   rw [h1]
   exact AX hk
section
theorem E2 {σ:L2.St} {a:Oo} (I:aC X pins σ H s) (src:vR X.w H a xs):N7 X.prog X.w a xs s:=by
 intro A Q E hh q
 cases src with
 | lst h =>
  obtain⟨its,n,rv,ho,z⟩:=I.lst h
  exact TZ a (.inl rfl) ho rfl rfl (λg kg=>q _ g s.toks rv kg) (by rw [Ot,<-rv.length]; exact z)
 | tup h =>
  obtain⟨z,its,rv,o,ho,hc,n,hd⟩:=I.hok a _ h
  exact TZ a (.inr rfl) ho hc hd (λg kg=>q _ g s.toks rv kg) (by rw [Ot,<-rv.length]; exact z)
 | @dk kvs h =>
  obtain⟨z,hd,vs,rv,dd⟩:=ur I.hok h
  obtain⟨ep,dat⟩:=dd.dictAt
  refine kdu_collect (kdl_dict (knd:=aV X.prog X.w) (kvs:=vs) (ep:=ep) hd) hh dat (by rw [<-rv.length]; exact z) λh' tk acc hk ha=>?_
  refine q _ h' tk (uK (prog:=X.prog) (w:=X.w) rv (by rw [O6]; exact ha.1) λi v e=>?_) hk
  exact ha.2 i v (by rw [<-Ry]; exact e)
def fi (H:Hp) (ks xs out:List V):Prop :=
 (xs.length < 2/\out=xs)∨(2≤xs.length/\∃tp kz p,EW H tp kz ks/\vQ (zx tp kz) (Y3 xs.length)=some p/\p.size≤64/\out=p.toList.map λi=>xs.getD i .non)
theorem nE:∀{xs:List V} {vs:List Om} (i:Nat),aO xs vs->aP (xs.getD i .non) (vs.getD i Pr)
 | _,_,_,.nil=>rfl
 | _,_,0,.cons r _=>r
 | _,_,i+1,.cons _ t=>by simpa using nE i t
theorem uL {xs:List V} {vs:List Om} (r:aO xs vs):∀l:List Nat,aO (l.map λi=>xs.getD i .non) (l.map λi=>vs.getD i Pr)
 | []=>.nil
 | i::l=>.cons (nE i r) (uL r l)
theorem iI {ks xs out:List V} {us vs:List Om} (so:fi H ks xs out) (rk:aO ks us) (r:aO xs vs) (hl:us.length=vs.length) (h64:vs.length < 64) :
  ∃outv,aO out outv/\outv.length≤64/\∀s:Os,iT prog w H s.heap->E1 prog w A us vs outv s:=by
 have hx:=r.length
 rcases so with ⟨h2,rfl⟩ | ⟨h2,tp,kz,p,k,hr,hp,rfl⟩
 ·exact⟨vs,r,by omega,λs _=>.inl ⟨by omega,rfl⟩⟩
 ·rw [hx] at hr h2
  exact⟨_,uL r _,by rw [O7,O6]; exact hp,λs ok=>.inr ⟨h2,p,EZ ok k rk hl h2 h64 hr,rfl⟩⟩
def A4 (w:Pl):List V->Hp->VK->Prop:=λvs H Q=>∃a xs out,vs=[.ref a]/\vR w H a xs/\xs.length < 64/\fi H xs xs out/\∀p,H p=none->Q (.ref p) (upd H p (.lst out))
theorem qU {σ:L2.St} {a:Oo} {ys out:List V} {Q:VK} (hc:X.calm=true) (I:aC X pins σ H s) (col:N7 X.prog X.w a ys s) (h64:ys.length < 64) (so:fi H ys ys out) (q:∀p,H p=none->Q (.ref p) (upd H p (.lst out))) :
  Ov (OE X.prog X.w) X.A (call (.builtin "sorted") [.ref a]) (EP X pins σ Q) X.xe s:=by
 have hh:=I.ok.hd hc
 refine TQ UU Ur Us (Ys _) ?_
 unfold QX.«sorted»
 refine Ol (m:=VN "sorted" 1 1 _) (On (Ol (col _ _ _ hh λvs g tk rv kg=>?_)))
 have hl:=rv.length
 have few:vs.length≤OA:=by rw [O4]; omega
 refine Ol (Rw ?_ few)
 have hoL:(g.push (OO "list" vs.toArray 0)).get? g.objs.size=some (OO "list" vs.toArray 0):=Ox _ rfl
 have kp0:Kp s.heap (g.push (OO "list" vs.toArray 0)):=Kp.trans kg (Kp.push _ _)
 have I1:aC X pins σ H { s with heap:=g,toks:=tk }:=I.kept kg
 have kL:Kp g (g.push (OO "list" vs.toArray 0)):=Kp.push _ _
 have nD:∀b ob,g.get? b=some ob->b≠g.objs.size:=λb ob e=>OG (Oy e)
 obtain⟨outv,ro,lo,sr⟩:=iI (prog:=X.prog) (w:=X.w) (A:=X.A.in1.in1) so rv rv rfl (by omega)
 show Ov _ _ _ _ _ { s with heap:=g.push (OO "list" vs.toArray 0),toks:=tk }
 refine Ol (Ps (Po TD ⟨_,hoL,rfl⟩ SW ?_ (Xl _)))
 refine IZ (s:={ s with heap:=g.push (OO "list" vs.toArray 0),toks:=tk }) hoL (by omega) (λh' tk' kp=>sr _ ?_) λh' c kp hD=>⟨_,rfl,On ⟨_,rfl,?_⟩⟩
 ·exact (I1.kept (h':=h') (t':=tk') λb ob e=>kp b ob (nD b ob e) (kL b ob e)).hok
 ·have e1:out.length≤OA:=by rw [ro.length,O4]; omega
  exact⟨.ref g.objs.size,_,I1.laid (a:=g.objs.size) (h':=h') (o:=.lst out) (t':=tk) (λb ob e=>kp b ob (nD b ob e) (kL b ob e)) (OB _) ⟨e1,outv,c,ro,hD⟩,rfl,q _ (I1.hok.fresh (OB _))⟩
theorem fu (hc:X.calm=true):dI X (.builtin "sorted") (A4 X.w):=by
 intro pins s σ H xs us Q I r h
 obtain⟨a,ys,out,rfl,src,h64,so,q⟩:=h
 obtain⟨u,rfl,ru⟩:=jk r
 cases ru
 exact qU hc I (E2 I src) h64 so q
def E3:List V->Hp->VK->Prop:=λvs H Q=>∃a kvs,vs=[.ref a]/\H a=some (.dK kvs)/\∀p,H p=none->Q (.ref p) (upd H p (.lst (kvs.map λp=>kV p.1)))
theorem qV (hc:X.calm=true):dI X (.type "list") E3:=by
 intro pins s σ H xs us Q I r h
 obtain⟨a,kvs,rfl,ha,q⟩:=h
 obtain⟨u,rfl,ru⟩:=jk r
 cases ru
 obtain⟨z,hd,vs,rv,dd⟩:=ur I.hok ha
 obtain⟨ep,dat⟩:=dd.dictAt
 refine kdl_call (kdl_dict (knd:=aV X.prog X.w) (kvs:=vs) (ep:=ep) hd) (I.ok.hd hc) dat (by rw [<-rv.length]; exact z) λh' tk acc c hk hD ha=>?_
 have rr:aO (kvs.map λp=>kV p.1) acc.toList:=uK (prog:=X.prog) (w:=X.w) rv (by rw [O6]; exact ha.1) λi v e=>ha.2 i v (by rw [<-Ry]; exact e)
 exact⟨.ref s.heap.objs.size,_,I.laid (a:=s.heap.objs.size) (h':=h') (o:=.lst (kvs.map λp=>kV p.1)) (t':=tk) hk (OB _) ⟨by rw [O7]; exact z,acc.toList,c,rr,by rw [hD]⟩,rfl,q _ (I.hok.fresh (OB _))⟩
end
def oy (sp:Sp) (E:XK) (D kS:Oo) (ob:Obj) (Fin:List V->Hp->Prop):List V->List V->Hp->Prop
 | [],ks,H=>Fin ks H
 | x::r,ks,H=>sp [x] H (λk H'=>H' D=some (.frz ob (.lst []))/\H' kS=some (.lst ks)/\oy sp E D kS ob Fin r (ks++[k]) (upd H' kS (.lst (ks++[k])))) E
def A5 (w:Pl) (sp:Sp) (E:XK) (te:TE):TE:=λσ H Q=>te σ H λv H1=>∃a xs,v=.ref a/\vR w H1 a xs/\xs.length < 64/\∀D kS ob,H1 D=none->H1 kS=none->kS≠D ->
 oy sp E D kS ob (λks H2=>∃out,fi H2 ks xs out/\H2 D=some (.frz ob (.lst []))/\H2 kS=some (.lst ks)/\Q (.ref D) (upd (upd H2 kS (.lst [])) D (.lst out))) xs [] (upd (upd H1 D (.frz ob (.lst []))) kS (.lst []))
section
variable {σ:L2.St}
theorem aC.noFrz {a:Oo} (I:aC X pins σ H s) (h:H a=some (.lst xs)):∀o u,X.H₀ a≠some (.frz o u):=λo u e=>by
 have:=I.base.frzs a o u e
 rw [h] at this; cases this
theorem zy {D kS:Oo} {e1 e2:Nat} {ks xs out:List V} {us vs:List Om} {P:Wm->Os->Prop} (I:aC X pins σ H s) (nf:∀o u,X.H₀ D≠some (.frz o u)) (hD:H D=some (.frz (OO "list" #[] e1) (.lst []))) (hS:H kS=some (.lst ks))
  (ho:s.heap.get? kS=some { cls:=.type "list",data:=.seq us.toArray e2 }) (rk:aO ks us) (rv:aO xs vs) (hl:us.length=vs.length) (h64:vs.length < 64) (so:fi H ks xs out)
  (h:∀s',aC X pins σ (upd (upd H kS (.lst [])) D (.lst out)) s'->P (.done (.ret .none)) s') :
  Ov (OE X.prog X.w) A (WX D false vs.toArray e1 (.ref kS) us.toArray) P E s:=by
 obtain⟨outv,ro,lo,sr⟩:=iI (prog:=X.prog) (w:=X.w) (A:=A) so rk rv hl h64
 have hoD:s.heap.get? D=some (OO "list" #[] e1):=(I.hok D _ hD).1
 have ne:kS≠D:=λz=>by rw [z,hD] at hS; cases hS
 have zs:us.toArray.size≤OA:=by rw [Ot,O4]; omega
 -- the tail
 have tail:∀st:SortSt,(Ub st).map (·.2)=outv.toArray->Uc st=none->Ov (OE X.prog X.w) A (Xe D false e1 (.ref kS) st) P E s:=λst h1 h3=>by
  unfold Xe
  dsimp only
  rw [h1]
  have hD1:(s.heap.update kS (Pa λ_=>(#[]:Array Om))).get? D=some (OO "list" #[] e1):=(PB _ _ _ _ ne.symm).trans hoD
  refine Ol (P8 ho rfl ?_ zs (Pu _))
  refine Ol (UT (Ol (R9 hD1 rfl ?_)))
  refine Ol (P8 hD1 rfl ?_ (Pu _) (by simp only [OT,if_false]; rw [Ot,O4]; omega))
  rw [h3]
  simp only [bne_self_eq_false,OT,if_false]
  refine On (h _ ?_)
  have Ia:=I.lstUpd (ys:=[]) (its':=[]) (f:=Pa λ_=>(#[]:Array Om)) hS ho rfl .nil (Pu _) s.toks
  have hDa:(upd H kS (.lst [])) D=some (.frz (OO "list" #[] e1) (.lst [])):=by rw [ao ne.symm]; exact hD
  have Ib:=Ia.thaw hDa nf
  have hDb:(upd (upd H kS (.lst [])) D (.lst [])) D=some (.lst []):=aF
  have Ic:=Ib.lstUpd (ys:=out) (its:=[]) (its':=outv) (n:=e1) (f:=Pa λ_=>outv.toArray) hDb hD1 rfl ro (by rw [ro.length,O4]; omega) s.toks
  rw [z8] at Ic
  exact Ic
 unfold WX
 simp only [OT,if_false]
 rcases sr s I.hok with ⟨h2,rfl⟩ | ⟨h2,p,hp,rfl⟩
 ·have h2':outv.toArray.size < 2:=by rw [Ot]; exact h2
  rw [if_pos h2',if_pos h2']
  refine Ol (On ?_)
  rw [UA]
  refine Ol (On ?_)
  refine tail (SA Xg (us.toArray.zip outv.toArray) #[] 7 none) ?_ rfl
  show (us.toArray.zip outv.toArray).map (·.2)=outv.toArray
  apply Wo.mp
  rw [Wp,ksk_zip]
  simp [Wq,hl]
 ·have h2':¬vs.toArray.size < 2:=by rw [Ot]; omega
  rw [if_neg h2',if_neg h2']
  refine Ol (OS (hp (λst' s'=>p.size=vs.length/\Ub st'=p.map (Y2 (us.toArray.zip vs.toArray))/\Uc st'=none/\s'=s) E λst' q1 q2 q3=>⟨q1,q2,q3,rfl⟩) (λκ s' hk=>Ol (OS hk ?_ λ_ _ x=>x)) λ_ _ x=>x)
  rintro ⟨⟨⟩,st'⟩ s'' ⟨q1,q2,q3,rfl⟩
  exact tail st' (kat_snds hl q2) q3
theorem xD {k:Nat} {f D kS:Oo} {ps:List Str} {sp:Sp} {EX:XK} {e1:Nat} {P:Wm->Os->Prop} {vs:List Om} {Fin:List V->Hp->Prop}
  (F:cr X.prog X.w X.K X.mg X.base fR k f fd ps sp) (hr:bn k A) (henv:∀s H,k8 X.prog X.w X.K X.mg X.base X.A X.stack s H->k8 X.prog X.w X.K X.mg X.base A X.stack s H) (hb:cP X.K fd ps []) (I:aC X pins σ H s) (rv:aO xs vs) (h64:vs.length < 64) (ho:s.heap.get? kS=some (OO "list" #[] 0)) (hS:H kS=some (.lst [])) (hD:H D=some (.frz (OO "list" #[] e1) (.lst [])))
  (h:oy sp EX D kS (OO "list" #[] e1) Fin xs [] H)
  (fin:∀ks us H' s' n,aC X pins σ H' s'->H' D=some (.frz (OO "list" #[] e1) (.lst []))->H' kS=some (.lst ks)->s'.heap.get? kS=some { cls:=.type "list",data:=.seq us.toArray n }->aO ks us->us.length=vs.length->Fin ks H'->Ov (OE X.prog X.w) A (WX D false vs.toArray e1 (.ref kS) us.toArray) P E s') :
  Ov (OE X.prog X.w) A (Xh D (.ref f) false vs.toArray e1 (.ref kS)) P E s:=by
 unfold Xh
 refine Ol (Tl ?_)
 first
  | rw [VL]
  | (rw [<-VM]; simp only [Vg])
 have hxl:=rv.length
 refine Ol (ksk_fold (λi s'=>∃H' ks,aC X pins σ H' s'/\H' D=some (.frz (OO "list" #[] e1) (.lst []))/\H' kS=some (.lst ks)/\ks.length=i/\oy sp EX D kS (OO "list" #[] e1) Fin (xs.drop i) ks H') vs 0 s
  ⟨H,[],I,hD,hS,rfl,h⟩ ?step ?done)
 case step =>
  rintro j x s' hx ⟨H',ks,I',hD',hS',hk,hg⟩
  simp only [V4] at hk hg ⊢
  have hj:j < vs.length:=(Ow.mp hx).1
  obtain⟨x0,hx0⟩:∃x0,xs[j]?=some x0:=⟨_,Pt (by omega)⟩
  have rx:aP x0 x:=by
   have q:=nE j rv
   rw [Qj,Qj,hx0,hx] at q
   exact q
  have ed:xs.drop j=x0::xs.drop (j+1):=by
   obtain⟨hjj,e⟩:=Ow.mp hx0
   rw [<-e]; exact List.drop_eq_getElem_cons hjj
  rw [ed] at hg
  obtain⟨QQ,hQQ⟩:∃QQ:VK,QQ=λk H'=>H' D=some (.frz (OO "list" #[] e1) (.lst []))/\H' kS=some (.lst ks)/\oy sp EX D kS (OO "list" #[] e1) Fin (xs.drop (j+1)) (ks++[k]) (upd H' kS (.lst (ks++[k]))):=⟨_,rfl⟩
  have hg:sp [x0] H' QQ EX:=by rw [hQQ]; exact hg
  have hln:=F.len _ _ _ _ hg
  refine Ol (RT (OS (Q:=EP X pins σ QQ) (E:=λ_ _=>False) (RF (PZ (F.run A X.stack s' H' ⟨[x],[]⟩ [x] [x0] QQ EX hr (henv s' H' I'.env0) (by have:=hb s' [x] I'.kIn (by simpa using hln); simpa using this) (.cons rx .nil) hg) λr s2 hq=>?_)) (λu s2 hu=>?_) λ_ _ q=>q.elim))
  ·cases r with
   | error e=>exact hq
   | ok fl =>
    cases fl with
    | ret u=>exact I'.after hq
    | next=>exact OX hq
    | brk=>exact OX hq
    | cont=>exact OX hq
  ·obtain⟨v,H2,I2,ru,hu⟩:=hu
   rw [hQQ] at hu
   obtain⟨hD2,hS2,g2⟩:=hu
   obtain⟨its,n,rk,ho2,z⟩:=I2.lst hS2
   have hkl:=rk.length
   dsimp only
   refine Ol (P8 ho2 rfl ?_ (by rw [Ot,O4]; omega) (by rw [WM,Ot,O4]; omega))
   have I3:=I2.lstUpd (ys:=ks++[v]) (its':=its++[u]) (f:=Pa (·.push u)) hS2 ho2 (by simp [Pa]; rfl) (rk.append (.cons ru .nil)) (by rw [Qq,UF,O4]; omega) s2.toks
   refine On ⟨rfl,_,ks++[v],I3,?_,aF,by simp [hk],g2⟩
   rw [ao λz=>by rw [z,hS2] at hD2; cases hD2]; exact hD2
 case done =>
  rintro s' ⟨H',ks,I',hD',hS',hk,hg⟩
  simp only [V4] at hk hg
  obtain⟨its,n,rk,ho2,z⟩:=I'.lst hS'
  have hkl:=rk.length
  rw [<-hxl,List.drop_length] at hg
  refine Ol (Td ho2 rfl ?_)
  exact fin ks its H' s' n I' hD' hS' ho2 rk (by omega) hg
theorem xE {k:Nat} {f a:Oo} {ps:List Str} {sp:Sp} {EX:XK} {Q:VK} (F:cr X.prog X.w X.K X.mg X.base fR k f fd ps sp) (hc:X.calm=true) (hr:bn (k+2) X.A) (hb:cP X.K fd ps []) (I:aC X pins σ H s) (src:vR X.w H a xs) (h64:xs.length < 64)
  (h:∀D kS ob,H D=none->H kS=none->kS≠D->oy sp EX D kS ob (λks H2=>∃out,fi H2 ks xs out/\H2 D=some (.frz ob (.lst []))/\H2 kS=some (.lst ks)/\Q (.ref D) (upd (upd H2 kS (.lst [])) D (.lst out))) xs [] (upd (upd H D (.frz ob (.lst []))) kS (.lst []))) :
  Ov (OE X.prog X.w) X.A (call (.builtin "sorted") [.ref a] [(Oq "key",.ref f)]) (EP X pins σ Q) X.xe s:=by
 have hh:=I.ok.hd hc
 refine Uq UU Ur Us (ksk_s1 _ _) ?_
 unfold QX.«sorted»
 refine Ol (m:=VN "sorted" 1 1 _) (On (Ol (E2 I src _ _ _ hh λvs g tk rv kg=>?_)))
 have hl:=rv.length
 have few:vs.length≤OA:=by rw [O4]; omega
 refine Ol (Rw ?_ few)
 have hoL:(g.push (OO "list" vs.toArray 0)).get? g.objs.size=some (OO "list" vs.toArray 0):=Ox _ rfl
 have I1:aC X pins σ H { s with heap:=g,toks:=tk }:=I.kept kg
 have nD:∀b ob,g.get? b=some ob->b≠g.objs.size:=λb ob e=>OG (Oy e)
 show Ov _ _ _ _ _ { s with heap:=g.push (OO "list" vs.toArray 0),toks:=tk }
 refine Ol (Ps (Vh TD ⟨_,hoL,rfl⟩ SW ?_ (ksk_l1 _ _)))
 rw [ksk_t1]
 obtain⟨e1,ho1⟩:∃e1,((g.push (OO "list" vs.toArray 0)).update g.objs.size (Pa λ_=>(#[]:Array Om))).get? g.objs.size=some (OO "list" #[] e1):=⟨_,Q5 hoL λ_=>#[]⟩
 unfold Y0
 refine Ol (Td hoL rfl (Ol (P8 hoL rfl (Ol (R9 ho1 rfl (Ol (TC (Ol (Rw (Ps ?_) (Pu _))) few)))) (by rw [Ot]; exact few) (Pu _))))
 have fD:H g.objs.size=none:=I1.hok.fresh (OB _)
 have Ia:aC X pins σ (upd H g.objs.size (.lst [])) { s with heap:=(g.push (OO "list" vs.toArray 0)).update g.objs.size (Pa λ_=>(#[]:Array Om)),toks:=tk } :=
  I1.laid (a:=g.objs.size) (o:=.lst []) (t':=tk) (λb ob e=>(PB _ _ _ _ (nD b ob e)).trans (Op _ e)) (OB _) ⟨Pu _,[],e1,.nil,ho1⟩
 have nf:=Ia.noFrz aF
 have Ib:aC X pins σ (upd (upd H g.objs.size (.lst [])) g.objs.size (.frz (OO "list" #[] e1) (.lst []))) { s with heap:=(g.push (OO "list" vs.toArray 0)).update g.objs.size (Pa λ_=>(#[]:Array Om)),toks:=tk } :=
  Ia.ghost aF (λ_ z=>nomatch z) (λ_ z=>nomatch z) (λ_ z=>nomatch z) nf ⟨ho1,Pu _,[],e1,.nil,ho1⟩
 rw [z8] at Ib
 have Ic:=Ib.kept (h':=((g.push (OO "list" vs.toArray 0)).update g.objs.size (Pa λ_=>(#[]:Array Om))).push (OO "tuple" vs.toArray 0)) (t':=tk) λ_ _ e=>Op _ e
 have hk0:(((g.push (OO "list" vs.toArray 0)).update g.objs.size (Pa λ_=>(#[]:Array Om))).push (OO "tuple" vs.toArray 0) |>.push (OO "list" #[] 0)).get? (((g.push (OO "list" vs.toArray 0)).update g.objs.size (Pa λ_=>(#[]:Array Om))).push (OO "tuple" vs.toArray 0)).objs.size=some (OO "list" #[] 0):=Ox _ rfl
 have Id:=Ic.laid (a:=(((g.push (OO "list" vs.toArray 0)).update g.objs.size (Pa λ_=>(#[]:Array Om))).push (OO "tuple" vs.toArray 0)).objs.size) (h':=(((g.push (OO "list" vs.toArray 0)).update g.objs.size (Pa λ_=>(#[]:Array Om))).push (OO "tuple" vs.toArray 0)).push (OO "list" #[] 0)) (o:=.lst []) (t':=tk)
  (λ_ _ e=>Op _ e) (OB _) ⟨Pu _,[],0,.nil,hk0⟩
 have fK:=Ic.hok.fresh (OB _)
 have nk:(((g.push (OO "list" vs.toArray 0)).update g.objs.size (Pa λ_=>(#[]:Array Om))).push (OO "tuple" vs.toArray 0)).objs.size≠g.objs.size:=λz=>by rw [z,aF] at fK; cases fK
 have fK':H (((g.push (OO "list" vs.toArray 0)).update g.objs.size (Pa λ_=>(#[]:Array Om))).push (OO "tuple" vs.toArray 0)).objs.size=none:=by rw [ao nk] at fK; exact fK
 refine xD F (A:=X.A.in1.in1) hr.in1.in1 (λ_ _ e=>e.in1.in1) hb Id rv (by omega) hk0 aF (by rw [ao nk.symm]; exact aF) (h _ _ _ fD fK' nk) λks us H' s' n I' hD' hS' ho' rk hl2 ⟨out,so,h1,h2,q⟩=>?_
 exact zy I' nf hD' hS' ho' rk rv hl2 (by omega) so λs2 I2=>⟨_,rfl,On ⟨_,rfl,.ref _,_,I2,rfl,q⟩⟩
theorem Cq {k:Nat} {f:Oo} {ps:List Str} {sp:Sp} {EX:XK} {e:OP} {te:TE} {x:Str} {p p1 kp pos:Pos} (F:cr X.prog X.w X.K X.mg X.base fR k f fd ps sp) (hc:X.calm=true) (hr:bn (k+2) X.A) (hb:cP X.K fd ps []) (hm:X.mg x=some (.ref f)) (hms:X.mg "sorted" = none) (he:PE X e te)
  (hg:Gl X x:=by nofun) (hdb:(x == ("__debug__":Str))=false:=by decide) (hgs:Gl X "sorted":=by nofun) (hst:OQ [e] X.env=(false,O2 e X.env)::OQ [] X.env:=by nofun) :
  PE X (.Call (.Name "sorted" p) [e] [⟨some "key",.Name x p1,kp⟩] pos) (A5 X.w sp EX te):=by
 intro pins s σ H Q I h
 refine Pk (iw I hgs hms cg ?_)
 refine UW (by rw [hst]; rfl) (by rfl) (Yo (by rfl) ?_ hst)
 have ha:PA X [e] (qd te qc):=dW he iA hst
 refine bG (ha pos pins s σ H (λvs H1=>match vs with
  | [v]=>∃a xs,v=.ref a/\vR X.w H1 a xs/\xs.length < 64/\∀D kS ob,H1 D=none->H1 kS=none->kS≠D ->
   oy sp EX D kS ob (λks H2=>∃out,fi H2 ks xs out/\H2 D=some (.frz ob (.lst []))/\H2 kS=some (.lst ks)/\Q (.ref D) (upd (upd H2 kS (.lst [])) D (.lst out))) xs [] (upd (upd H1 D (.frz ob (.lst []))) kS (.lst []))
  | _=>False) I h) λus s1 ⟨vs,H1,I1,rv,q1⟩=>?_
 match vs,q1 with
 | [v],⟨a,xs,ev,src,h64,q⟩ =>
 subst ev
 obtain⟨u,rfl,ru⟩:=jk rv
 cases ru
 show Ov _ _ (Yj [do let v <-O2 (.Name x p1) X.env; QL pos; pure v]) _ _ s1
 refine Ts (Ol (dQ I1 hg hm ?_ hdb))
 refine Ol (P7 (On (Sf ?_)))
 exact xE F hc hr hb I1 src h64 q
end
end L2
namespace RB
open PySem L2 PySem.W
def xF:List (AV×AV)->List AV
 | []=>[]
 | (k,_)::r=>k::xF r
def E4 (S:aU) (x:AV):Option (List AV):=match nw x with
 | some xs=>some xs
 | none=>match x with
  | .ref n=>match S.t.get n with
   | some (.lst xs)=>some xs
   | some (.dk kvs)=>some (xF kvs)
   | _=>none
  | _=>none
def xG (tp:Bool):List AV->Option (List AV)
 | []=>some []
 | x::r=>match xG tp r with
  | some ns=>match tp,x with
   | false,.int s lo hi=>some (.int s lo hi::ns)
   | true,.tc (.int s lo hi) _=>some (.int s lo hi::ns)
   | _,_=>none
  | none=>none
def M3 (a b:AV):Option Bool:=match a,b with
 | .int s lo hi,.int s' lo' hi'=>Gk s lo hi s' lo' hi'
 | _,_=>none
def Ky (tp:Bool) (ns:List AV) (i j:Nat):Option Bool:=match ns[i]?,ns[j]? with
 | some a,some b=>match M3 a b with
  | some true=>some true
  | some false=>match tp with
   | false=>some false
   | true=>match M3 b a with
    | some true=>some false
    | _=>none
  | none=>none
 | _,_=>none
def E5 (xs:List AV):List Nat->List AV
 | []=>[]
 | i::r=>xs.getD i .non::E5 xs r
def L0:List AV->Bool
 | .tc _ _::_=>true
 | _=>false
def qW (ks xs:List AV):Option (List AV):=match Qk xs.length 2 with
 | true=>some xs
 | false=>match Qk xs.length 64 with
  | false=>none
  | true=>match xG (L0 ks) ks with
   | some ns=>match vQ (Ky (L0 ks) ns) (Y3 xs.length) with
    | some p=>match Pg p.size 64 with
     | true=>some (E5 xs p.toList)
     | false=>none
    | none=>none
   | none=>none
section
variable {S:aU}
theorem vS:∀{kvs:List (AV×AV)} {ks:List (bv×V)},Paired (λp q=>gR p.1 q.1/\aY F y ρ H p.2 q.2) kvs ks->aZ F y ρ H (xF kvs) (ks.map λp=>kV p.1)
 | _,_,.nil=>.nil
 | _,_,.cons (a:=(k,v)) h t=>.cons (mm h.1) (vS t)
theorem A6 (w:Pl) (C:aM g F y ρ S H) {ax:AV} {x:V} (rx:aY F y ρ H ax x) {xs:List AV} (h:E4 S ax=some xs):∃a vs,x=.ref a/\vR w H a vs/\aZ F y ρ H xs vs:=by
 unfold E4 at h
 split at h
 ·rename_i ys q
  cases h
  obtain⟨a,vs,rfl,ha,pr⟩:=gA rx q
  exact⟨a,vs,rfl,.tup ha,pr⟩
 ·split at h
  ·rename_i n _
   split at h
   ·rename_i ys q
    cases h
    obtain⟨a,ho,rfl,_,ha,vs,rfl,pr⟩:=C.obj rx q
    exact⟨a,vs,rfl,.lst ha,pr⟩
   ·rename_i kvs q
    cases h
    obtain⟨a,ks,rfl,_,ha,pr⟩:=C.dk rx q
    exact⟨a,_,rfl,.dk ha,vS pr⟩
   ·cases h
  ·cases h
theorem zz (hy:∀x,y=some x->1≤x) {a b:AV} {i j:Int} {c:Bool} (h1:aY F y ρ H a (.int i)) (h2:aY F y ρ H b (.int j)) (h:M3 a b=some c):decide (i < j)=c:=by
 unfold M3 at h
 split at h
 ·obtain⟨z,e,b1⟩:=bf.mp h1
  obtain⟨z',e',b2⟩:=bf.mp h2
  cases e; cases e'
  exact vC hy b1 b2 h
 ·cases h
theorem A7 {tp:Bool}:∀{ks ns:List AV} {vs:List V},aZ F y ρ H ks vs->xG tp ks=some ns->∃kz,EW H tp kz vs/\aZ F y ρ H ns (kz.map V.int)
 | _,_,_,.nil,h=>by cases h; exact⟨[],.nil,.nil⟩
 | x::r,ns,_,.cons r0 t,h=>by
  unfold xG at h
  cases q:xG tp r with
  | none=>simp only [q] at h; cases h
  | some ms =>
   simp only [q] at h
   obtain⟨kz,h1,h2⟩:=A7 t q
   cases tp with
   | false =>
    cases x with
    | int s lo hi =>
     cases h
     obtain⟨z,rfl,b1⟩:=bf.mp r0
     exact⟨z::kz,.cons rfl h1,.cons r0 h2⟩
    | _=>cases h
   | true =>
    cases x with
    | tc hd tl =>
     cases hd with
     | int s lo hi =>
      cases h
      obtain⟨a,w,ws,rfl,ha,hw,_⟩:=r0
      obtain⟨z,rfl,b1⟩:=bf.mp hw
      exact⟨z::kz,.cons ⟨a,ws,rfl,ha⟩ h1,.cons hw h2⟩
     | _=>cases h
    | _=>cases h
theorem L1 {kz:List Int} {i:Nat} {v:V} (h:(kz.map V.int)[i]?=some v):∃k,kz[i]?=some k/\v=.int k:=by
 rw [PF] at h
 cases e:kz[i]? with
 | none=>rw [e] at h; cases h
 | some k=>rw [e] at h; cases h; exact⟨k,rfl,rfl⟩
theorem Kz {tp:Bool} (hy:∀x,y=some x->1≤x) {ns:List AV} {kz:List Int} (h:aZ F y ρ H ns (kz.map V.int)) {i j:Nat} {b:Bool} (e:Ky tp ns i j=some b):zx tp kz i j=some b:=by
 unfold Ky at e
 split at e
 ·rename_i a c e1 e2
  obtain⟨v,g1,r1⟩:=dY h e1
  obtain⟨u,g2,r2⟩:=dY h e2
  obtain⟨k1,q1,rfl⟩:=L1 g1
  obtain⟨k2,q2,rfl⟩:=L1 g2
  unfold zx
  rw [q1,q2]
  dsimp only
  split at e
  ·rename_i l
   cases e
   have:=zz hy r1 r2 l
   simp at this
   rw [if_neg (by omega)]
   simp [this]
  ·rename_i l
   have z:=zz hy r1 r2 l
   simp at z
   cases tp with
   | false=>cases e; simp; omega
   | true =>
    dsimp only at e
    split at e
    ·rename_i l2
     cases e
     have z2:=zz hy r2 r1 l2
     simp at z2
     rw [if_neg (by omega)]
     simp; omega
    ·cases e
  ·cases e
 ·cases e
theorem uM {α:Type} {f f':Nat->Nat->Option Bool} (h:∀i j b,f i j=some b->f' i j=some b):∀(t:KasT α) {a:α},vQ f t=some a->vQ f' t=some a
 | .ret _,_,e=>e
 | .ask i j k,a,e=>by
  unfold vQ at e ⊢
  cases q:f i j with
  | none=>rw [q] at e; cases e
  | some b=>rw [q] at e; rw [h i j b q]; exact uM h (k b) e
theorem Cr {xs:List AV} (r:aZ F y ρ H xs vs) (i:Nat):aY F y ρ H (xs.getD i .non) (vs.getD i .non):=by
 rw [Qj,Qj]
 cases e:xs[i]? with
 | none =>
  have hl:=aW r
  have:vs[i]?=none:=O1.mpr (by rw [<-hl]; exact O1.mp e)
  rw [this]; rfl
 | some a =>
  obtain⟨v,e2,rv⟩:=dY r e
  rw [e2]; exact rv
theorem xH {xs:List AV} {vs:List V} (r:aZ F y ρ H xs vs):∀l:List Nat,aZ F y ρ H (E5 xs l) (l.map λi=>vs.getD i .non)
 | []=>.nil
 | i::l=>.cons (Cr r i) (xH r l)
theorem qX (hy:∀x,y=some x->1≤x) {ks xs out:List AV} {us vs:List V} (rk:aZ F y ρ H ks us) (r:aZ F y ρ H xs vs) (h:qW ks xs=some out):∃outv,fi H us vs outv/\aZ F y ρ H out outv:=by
 have hl:=aW r
 unfold qW at h
 split at h
 ·rename_i q
  cases h
  have q:xs.length+1≤2:=bD q
  exact⟨vs,.inl ⟨by omega,rfl⟩,r⟩
 ·rename_i q
  have q:2≤xs.length:=by
   rcases Yt xs.length 2 with z | z
   ·have:Qk xs.length 2=true:=by simp [Zu]; exact z
    rw [this] at q; cases q
   ·exact z
  split at h
  ·cases h
  ·split at h
   ·rename_i ns qn
    split at h
    ·rename_i p qp
     split at h
     ·rename_i qz
      cases h
      obtain⟨kz,h1,h2⟩:=A7 rk qn
      refine⟨_,.inr ⟨by omega,_,kz,p,h1,?_,bD qz,rfl⟩,xH r _⟩
      rw [<-hl]
      exact uM (λi j b e=>Kz hy h2 e) _ qp
     ·cases h
    ·cases h
   ·cases h
def iJ:List AV->aU->(AV->aU->Bool)->Bool:=λxs S k=>match xs with
 | [x]=>match E4 S x with
  | some ys=>match Qk ys.length 64 with
   | true=>match qW ys ys with
    | some out=>k (.ref S.n) (S.add (.lst out))
    | none=>false
   | false=>false
  | none=>false
 | _=>false
theorem gg:oY g (A4 w) iJ:=by
 intro F y ρ S H xs axs k Q C rx h p
 unfold iJ at h
 split at h
 ·rename_i x
  split at h
  ·rename_i ys q
   split at h
   ·rename_i q2
    split at h
    ·rename_i out q3
     cases rx with | cons r0 t=>cases t with | nil =>
     obtain⟨a,vs,rfl,src,pr⟩:=A6 w C r0 q
     obtain⟨outv,so,ro⟩:=qX C.pos pr pr q3
     have hl:=aW pr
     have q2:ys.length+1≤64:=bD q2
     refine⟨a,vs,outv,rfl,src,by omega,so,λpl hp=>?_⟩
     have st:aE F y ρ H y (ρ++[pl]) (upd H pl (.lst outv)):=aE.add hp
     exact p y _ _ _ (.ref S.n) _ st (C.add (o:=.lst out) hp ⟨outv,rfl,aZ.mono st ro⟩) ⟨pl,by rw [C.n]; simp,rfl⟩ h
    ·cases h
   ·cases h
  ·cases h
 ·cases h
def vT:List AV->aU->(AV->aU->Bool)->Bool:=λxs S k=>match xs with
 | [.ref n]=>match S.t.get n with
  | some (.dk kvs)=>k (.ref S.n) (S.add (.lst (xF kvs)))
  | _=>false
 | _=>false
theorem uN:oY g E3 vT:=by
 intro F y ρ S H xs axs k Q C rx h p
 unfold vT at h
 split at h
 ·rename_i n
  split at h
  ·rename_i kvs q
   cases rx with | cons r0 t=>cases t with | nil =>
   obtain⟨a,ks,rfl,_,ha,pr⟩:=C.dk r0 q
   refine⟨a,ks,rfl,ha,λpl hp=>?_⟩
   have st:aE F y ρ H y (ρ++[pl]) (upd H pl (.lst (ks.map λp=>kV p.1))):=aE.add hp
   exact p y _ _ _ (.ref S.n) _ st (C.add (o:=.lst (xF kvs)) hp ⟨_,rfl,aZ.mono st (vS pr)⟩) ⟨pl,by rw [C.n]; simp,rfl⟩ h
  ·cases h
 ·cases h
end
end RB
namespace RB
open PySem PySem.Spec PyProof.Rows L2 PySem.W
section
variable {y y1 y2:Option Int} {ρ ρ1 ρ2:List Oo} {H H1 H2:Hp} {S S1:aU}
theorem aM.over (C:aM g F y ρ S H) (e:∀b∈ρ,H1 b=H b) (t:∀b vs,H b=some (.tup vs)->H1 b=some (.tup vs)) (o:∀b,F.own b->H1 b=H b) (x:∀b φ,H b=some (.ext φ)->H1 b=some (.ext φ)):aM g F y ρ S H1:=by
 refine⟨C.n,C.sym,C.pos,C.nd,λi c ec=>?_,C.own,C.fe,λb w ec=>C.ol b w (by rw [<-o b w]; exact ec),F.st _ _ C.J λb u w ec=>?_,C.fl⟩
 ·obtain⟨ob,ho,h1,h2,h3⟩:=C.at_ i c ec
  exact⟨ob,ho,h1,by rw [e c (OR ec)]; exact h2,dE.monoM ⟨λ_ h=>h,λh=>h,t⟩ h3⟩
 ·rcases w with w | ⟨φ,rfl⟩
  ·rw [o b w]; exact ec
  ·exact x b φ ec
theorem aE.over (st:aE F y ρ H y1 ρ1 H1) {a:Oo} {o:HO} (e:H a=none):aE F y ρ H y1 ρ1 (upd H1 a o):=by
 have ne:∀b u,H b=some u->b≠a:=λb u q z=>by rw [z,e] at q; cases q
 refine⟨st.y,st.pre,st.new,λb u q n w=>?_,λb vs q=>?_,λb q=>?_,λb o' u q=>?_⟩
 ·rw [ao (ne b _ q)]; exact st.keep b u q n w
 ·rw [ao (ne b _ q)]; exact st.tup b vs q
 ·by_cases z:b=a
  ·rw [z]; exact e
  ·rw [ao z] at q; exact st.live b q
 ·rw [ao (ne b _ q)]; exact st.frz b o' u q
theorem aE.more (st:aE F y ρ H y1 ρ1 H1) {a:Oo} (e:H a=none):aE F y ρ H y1 (ρ1++[a]) H1:=by
 refine⟨st.y,?_,λb hb=>?_,st.keep,st.tup,st.live,st.frz⟩
 ·obtain⟨r,rfl⟩:=st.pre
  exact⟨r++[a],by simp⟩
 ·rcases Pv.mp hb with hb | hb
  ·exact st.new b hb
  ·rw [Qt.mp hb]; exact .inr e
end
def E6 (f:BF) (ke:KE) (k:List AV->aU->Bool):List AV->List AV->aU->Bool
 | [],ks,S=>k ks S
 | x::r,ks,S=>f [x] S (λz S1=>E6 f ke k r (ks++[z]) S1) ke
def pQ (f:BF) (a:BE):BE:=λσ S k=>a σ S λx S1=>match E4 S1 x with
 | some xs=>match Qk xs.length 64 with
  | true=>E6 f σ.ke (λks S2=>match qW ks xs with
   | some out=>k (.ref S2.n) (S2.add (.lst out))
   | none=>false) xs [] S1
  | false=>false
 | none=>false
section
theorem uO {F:Fx} {f:BF} {k:List AV->aU->Bool} {D kS:Oo} {ob:Obj} {Fin:List V->Hp->Prop} {ke:KE} {y0:Option Int} {ρ0:List Oo} {H0:Hp} (e1:H0 D=none) (e2:H0 kS=none) (ne:kS≠D) (o1:¬F.own D) (o2:¬F.own kS) (pe0:l5 g F y0 ρ0 H0 ke)
  (post:∀y ρ S H ks ksv,aE F y0 ρ0 H0 y ρ H->aM g F y ρ S H->D ∉ ρ->kS ∉ ρ->H D=some (.frz ob (.lst []))->H kS=some (.lst ksv)->aZ F y ρ H ks ksv->k ks S=true->Fin ksv H) :
  ∀(xs:List AV) (xsv:List V) (ks:List AV) (ksv:List V) (y:Option Int) (ρ:List Oo) (S:aU) (H:Hp),aE F y0 ρ0 H0 y ρ H->aM g F y ρ S H->D ∉ ρ->kS ∉ ρ->H D=some (.frz ob (.lst []))->H kS=some (.lst ksv)->aZ F y ρ H xs xsv->aZ F y ρ H ks ksv ->
   E6 f ke k xs ks S=true->oy (mY g.toGy 1 f) g.E D kS ob Fin xsv ksv H
 | _,_,ks,ksv,y,ρ,S,H,st,C,nD,nK,hD,hK,.nil,rk,h=>post y ρ S H ks ksv st C nD nK hD hK rk h
 | _,_,ks,ksv,y,ρ,S,H,st,C,nD,nK,hD,hK,.cons (l₁:=r) (l₂:=rv) r0 t,rk,h=>by
  refine⟨F,y,ρ,S,[_],_,ke,C,.cons r0 .nil,rfl,h,λy1 ρ1 S1 H1 az z st1 C1 rz h1=>?_,pe0.mono st⟩
  have hD1:=st1.frz _ _ _ hD
  have hK1:=st1.keep _ _ hK nK o2
  have nD1:D ∉ ρ1:=λm=>by
   rcases st1.new D m with q | q
   ·exact nD q
   ·rw [hD] at q; cases q
  have nK1:kS ∉ ρ1:=λm=>by
   rcases st1.new kS m with q | q
   ·exact nK q
   ·rw [hK] at q; cases q
  refine⟨hD1,hK1,?_⟩
  have mo:Mo y1 ρ1 H1 y1 ρ1 (upd H1 kS (.lst (ksv++[z]))):=⟨λ_ h=>h,λh=>h,λb vs q=>by rw [ao λw=>by rw [w,hK1] at q; cases q]; exact q⟩
  have C2:aM g F y1 ρ1 S1 (upd H1 kS (.lst (ksv++[z]))):=C1.over (λb hb=>ao λw=>nK1 (w▸hb)) mo.tup (λb w=>ao λq=>o2 (q▸w)) (λb φ q=>by rw [ao λw=>by rw [w,hK1] at q; cases q]; exact q)
  refine uO e1 e2 ne o1 o2 pe0 post r rv (ks++[az]) (ksv++[z]) y1 ρ1 S1 _ ((st.trans st1).over e2) C2 nD1 nK1 (by rw [ao ne.symm]; exact hD1) aF ?_ ?_ h1
  ·exact a6 (λ_ _ q=>aY.monoM mo q) (aZ.mono st1 t)
  ·exact dZ (a6 (λ_ _ q=>aY.monoM mo q) (aZ.mono st1 rk)) (.cons (aY.monoM mo rz) .nil)
end
section
variable {e:OP} {ba:BE} {pos p p1 kp:Pos} {x:Str} {k:Nat} {f:BF}
theorem zA:∀σ H Q,up g (pQ f ba) σ H Q->A5 w (mY g.toGy 1 f) g.E (up g ba) σ H Q:=λσ H Q ⟨F,y,ρ,S,σa,k,C,r,h,p⟩ =>
 aD C r h λy1 ρ1 S1 H1 ax x st C1 r1 rx h1=>by
  cases q:E4 S1 ax with
  | none=>simp only [q] at h1; cases h1
  | some xs =>
   simp only [q] at h1
   split at h1
   ·rename_i q2
    obtain⟨a,vs,rfl,src,pr⟩:=A6 w C1 rx q
    have hl:=aW pr
    have q2:xs.length+1≤64:=bD q2
    refine⟨a,vs,rfl,src,by omega,λD kS ob e1 e2 ne=>?_⟩
    have o1:¬F.own D:=λw=>C1.ol D w e1
    have o2:¬F.own kS:=λw=>C1.ol kS w e2
    have eK:(upd H1 D (.frz ob (.lst []))) kS=none:=by rw [ao ne]; exact e2
    have stA:aE F y1 ρ1 H1 y1 ρ1 (upd (upd H1 D (.frz ob (.lst []))) kS (.lst [])):=(aE.lay e1).trans (aE.lay eK)
    have CA:aM g F y1 ρ1 S1 (upd (upd H1 D (.frz ob (.lst []))) kS (.lst [])):=(C1.lay e1).lay eK
    refine uO (k:=λks S2=>match qW ks xs with
     | some out=>k (.ref S2.n) (S2.add (.lst out))
     | none=>false) e1 e2 ne o1 o2 r1.e ?_ xs vs [] [] y1 ρ1 S1 _ stA CA (C1.fresh e1) (C1.fresh e2) (by rw [ao ne.symm]; exact aF) aF (aZ.mono stA pr) .nil h1
    intro y2 ρ2 S2 H2 ks ksv st2 C2 nD nK hD hK rk h2
    cases q3:qW ks xs with
    | none=>simp only [q3] at h2; cases h2
    | some out =>
     simp only [q3] at h2
     obtain⟨outv,so,ro⟩:=qX C2.pos rk (aZ.mono st2 pr) q3
     refine⟨outv,so,hD,hK,?_⟩
     have stF:aE F y1 ρ1 H1 y2 (ρ2++[D]) (upd (upd H2 kS (.lst [])) D (.lst outv)):=((st2.over e2).over e1).more e1
     have tD:∀b o,H2 b=some o->(∀o' u,o≠.frz o' u)->b≠D:=λb o q n w=>by rw [w,hD] at q; cases q; exact n _ _ rfl
     have tK:∀b o,H2 b=some o->(∀u,o≠.lst u)->b≠kS:=λb o q n w=>by rw [w,hK] at q; cases q; exact n _ rfl
     have moF:Mo y2 ρ2 H2 y2 (ρ2++[D]) (upd (upd H2 kS (.lst [])) D (.lst outv)):=⟨λ_ h=>h,λ{i c} h=>by
       rw [PQ (Ow.mp h).1]; exact h,λb vs q=>by
       rw [ao (tD b _ q λ_ _ z=>nomatch z),ao (tK b _ q λ_ z=>nomatch z)]; exact q⟩
     have roF:aZ F y2 (ρ2++[D]) (upd (upd H2 kS (.lst [])) D (.lst outv)) out outv:=a6 (λ_ _ q=>aY.monoM moF q) ro
     have CB:aM g F y2 ρ2 S2 (λb=>if b=D then none else (upd H2 kS (.lst [])) b):=C2.over
      (λb hb=>(if_neg λw=>nD (by rw [<-w]; exact hb)).trans (ao λw=>nK (by rw [<-w]; exact hb)))
      (λb vs q=>by rw [if_neg (tD b _ q λ_ _ z=>nomatch z),ao (tK b _ q λ_ z=>nomatch z)]; exact q)
      (λb w=>(if_neg λq=>o1 (by rw [<-q]; exact w)).trans (ao λq=>o2 (by rw [<-q]; exact w)))
      (λb φ q=>by rw [if_neg (tD b _ q λ_ _ z=>nomatch z),ao (tK b _ q λ_ z=>nomatch z)]; exact q)
     have eq:upd (λb=>if b=D then none else (upd H2 kS (.lst [])) b) D (.lst outv)=upd (upd H2 kS (.lst [])) D (.lst outv):=by
      funext b
      by_cases z:b=D
      ·subst z; rw [aF,aF]
      ·rw [ao z,ao z]; simp [z]
     have CF:=CB.add (p:=D) (o:=.lst out) (ho:=.lst outv) (by simp) (by rw [eq]; exact⟨outv,rfl,roF⟩)
     rw [eq] at CF
     exact p y2 _ _ _ (.ref S2.n) _ (st.trans stF) CF ⟨D,by rw [C2.n]; simp,rfl⟩ h2
   ·cases h1
theorem uP (c:j6 X.prog X.w X.K X.mg X.base g.toGy fR x k 1 f) (hc:X.calm=true) (hr:bn (k+2) X.A) (hms:X.mg "sorted" = none) (he:PE X e (up g ba))
  (hg:Gl X x:=by nofun) (hdb:(x == ("__debug__":Str))=false:=by decide) (hgs:Gl X "sorted":=by nofun) (hst:OQ [e] X.env=(false,O2 e X.env)::OQ [] X.env:=by nofun) :
  PE X (.Call (.Name "sorted" p) [e] [⟨some "key",.Name x p1,kp⟩] pos) (up g (pQ f ba)):=by
 obtain⟨fa,fd,ps,hn,F,hm,hk,hb⟩:=c
 exact PE.imp zA (Cq F hc hr hb hm hms he hg hdb hgs hst)
def vU (a:BE):BE:=λσ S k=>a σ S λx S1=>match nw x with
 | some []=>k (.ref S1.n) (S1.add (.lst []))
 | some [.tc (.int s lo hi) t]=>match xg t with
  | some ys=>match Qk ys.length 60 with
   | true=>k (.ref S1.n) (S1.add (.lst [.tc (.int s lo hi) t]))
   | false=>false
  | none=>false
 | _=>false
theorem Cs:∀σ H Q,up g (vU ba) σ H Q->vt K g.tT g.tP g.tQ (up g ba) σ H Q:=λσ H Q ⟨F,y,ρ,S,σa,k,C,r,h,p⟩ =>
 aD C r h λy1 ρ1 S1 H1 ax x st C1 r1 rx h1=>by
  have lam:=C1.fl.lam H1 C1.J
  have fin:∀(xs:List AV) (vs:List V) (D:Oo) (H2:Hp),aZ F y1 ρ1 H1 xs vs->k (.ref S1.n) (S1.add (.lst xs))=true->H1 D=none->H2 D=some (.lst vs)->(∀b o,b≠g.tT->H1 b=some o->H2 b=some o)->l4 H2 g.tT g.tP g.tQ->(∀b,H2 b=none->H1 b=none)->Q (.ref D) H2:=λxs vs D H2 pr hk e1 e2 kp lm lv=>by
   have nT:∀b,b∈ρ1->b≠g.tT:=λb hb z=>C1.own b hb (by rw [z]; exact C1.fl.own)
   obtain⟨ps0,hT0,_⟩:=lam
   have stF:aE F y1 ρ1 H1 y1 (ρ1++[D]) H2:=by
    refine⟨λ_ h=>h,⟨[D],rfl⟩,λb hb=>?_,λb o q n w=>kp b o (λz=>w (by rw [z]; exact C1.fl.own)) q,λb vs q=>kp b _ (λz=>by rw [z,hT0] at q; cases q) q,lv,λb o u q=>kp b _ (λz=>by rw [z,hT0] at q; cases q) q⟩
    rcases Pv.mp hb with hb | hb
    ·exact .inl hb
    ·rw [Qt.mp hb]; exact .inr e1
   have hD2:∀b o,H1 b=some o->b≠D:=λb o q z=>by rw [z,e1] at q; cases q
   have CM:aM g F y1 ρ1 S1 (λb=>if b=D then none else H2 b):=by
    refine⟨C1.n,C1.sym,C1.pos,C1.nd,λi c ec=>?_,C1.own,C1.fe,λb w ec=>?_,C1.fl.re H1 _ C1.J ?_ (λb o n q=>?_),C1.fl⟩
    ·obtain⟨ob,ho,h1,h2,h3⟩:=C1.at_ i c ec
     refine⟨ob,ho,h1,?_,dE.monoM ⟨λ_ h=>h,λh=>h,λb vs q=>?_⟩ h3⟩
     ·exact (if_neg (hD2 c _ h2)).trans (kp c ho (nT c (OR ec)) h2)
     ·exact (if_neg (hD2 b _ q)).trans (kp b _ (λz=>by rw [z,hT0] at q; cases q) q)
    ·have nb:b≠D:=λz=>C1.ol b w (by rw [z]; exact e1)
     exact C1.ol b w (lv b ((if_neg nb).symm.trans ec))
    ·obtain⟨ps,h1,h2,h3⟩:=lm
     refine⟨ps,(if_neg (hD2 _ _ hT0)).trans h1,h2,?_⟩
     rcases h3 with h3 | ⟨c',h3,h4⟩
     ·exact .inl h3
     ·exact .inr ⟨c',h3,(if_neg λz=>by rw [z,e2] at h4; cases h4).trans h4⟩
    ·exact (if_neg (hD2 b o q)).trans (kp b o n q)
   have eq:upd (λb=>if b=D then none else H2 b) D (.lst vs)=H2:=by
    funext b
    by_cases z:b=D
    ·subst z; rw [aF,e2]
    ·rw [ao z]; simp [z]
   have CF:=CM.add (p:=D) (o:=.lst xs) (ho:=.lst vs) (by simp) (by rw [eq]; exact⟨vs,rfl,aZ.mono stF pr⟩)
   rw [eq] at CF
   exact p y1 _ _ _ (.ref S1.n) _ (st.trans stF) CF ⟨D,by rw [C1.n]; simp,rfl⟩ hk
  have lvf:∀H2:Hp,(∀b o,b≠g.tT->H1 b=some o->H2 b=some o)->l4 H2 g.tT g.tP g.tQ->∀b,H2 b=none->H1 b=none:=λH2 kp lm b q=>by
   cases e:H1 b with
   | none=>rfl
   | some o =>
    by_cases z:b=g.tT
    ·obtain⟨ps,h1,_⟩:=lm
     rw [z,h1] at q; cases q
    ·rw [kp b o z e] at q; cases q
  split at h1
  ·rename_i q
   obtain⟨a,vs,rfl,ha,pr⟩:=gA rx q
   cases pr
   refine⟨a,[],[],rfl,ha,by decide,rfl,λi x k e=>by simp at e,lam,λD H2 ys e1 e2 kp lm ks=>?_⟩
   obtain⟨ps,pm,rfl,_⟩:=ks
   have:ps=[]:=ZN (by simpa using pm)
   subst this
   exact fin [] [] D H2 .nil h1 e1 e2 kp lm (lvf H2 kp lm)
  ·rename_i s lo hi t q
   obtain⟨a,vs,rfl,ha,pr⟩:=gA rx q
   split at h1
   ·rename_i ys qu
    split at h1
    ·rename_i q2
     cases pr with | cons r0 tt=>cases tt with | nil =>
     have r00:=r0
     obtain⟨b,w,ws,rfl,hb,hw,hws⟩:=r0
     obtain⟨z,rfl,bz⟩:=bf.mp hw
     rw [f9 qu] at hws
     have hl:=aW (no hws)
     have q2:ys.length+1≤60:=bD q2
     refine⟨a,[.ref b],[z],rfl,ha,by simp,rfl,λi x k e1 e2=>?_,lam,λD H2 zs e1 e2 kp lm ks=>?_⟩
     ·cases i with
      | zero=>simp at e1 e2; subst e1 e2; exact⟨b,ws,rfl,hb,by omega⟩
      | succ i=>simp at e1
     ·obtain⟨ps,pm,rfl,_⟩:=ks
      have:ps=[(z,.ref b)]:=List.perm_singleton.mp (by simpa using pm)
      subst this
      exact fin _ _ D H2 (.cons r00 .nil) h1 e1 e2 kp lm (lvf H2 kp lm)
    ·cases h1
   ·cases h1
  ·cases h1
theorem E7 (h:PE X e (vt K g.tT g.tP g.tQ (up g ba))):PE X e (up g (vU ba)):=PE.imp Cs h
end
end RB
namespace L2
open PySem PySem.Spec PyProof.Rows PySem.W
theorem zB (led:Bool) (h:Int):(UY 0 0 led).freeSlot h=some (RV h % 8,false):=by
 unfold SetTable.freeSlot SetTable.probe
 rfl
def E8 (led:Bool) (j:Nat):SetTable:={ UY 0 0 led with place:=#[j] }
theorem Ct (led:Bool) (h:Int) (x:Om):layNew (UY 0 0 led) #[] h x=(#[(h,x)],E8 led (RV h % 8),false,false):=by
 unfold layNew
 rw [zB]
 rfl
section
variable {a:Oo}
theorem vV {led:Bool} {k hs:Int} {t:Tok} {Q:Bool->Os->Prop} (ho:s.heap.get? a=some { cls:=.type "set",dict:=none,data:=.set #[] 0 (.fresh 0 0 led) })
  (h:Q true { s with heap:=s.heap.update a (Zv #[(hs,.int k t)] (E8 led (RV hs % 8))) }):Ov (OE prog w) A (Yu a (.int k t) hs) Q E s:=by
 unfold Yu setAddHashedIn
 refine Ps (Ol (QE ho rfl rfl ?_))
 dsimp only
 rw [show byScan (.int k t) #[]=true by simp [byScan,Value.scannable,scanBound]]
 simp only [↓reduceIte]
 unfold setAddByScan
 refine Ol (Ol (Tl ?_))
 show Ov _ _ (pure ScanMet.absent >>= _) _ _ _
 refine Ol (On ?_)
 dsimp only
 rw [Ct]
 dsimp only
 show Ov _ _ (pure () >>= _) _ _ _
 refine Ol (On ?_)
 show Ov _ _ (hashByValue 8 (.int k t) >>= _) _ _ _
 rw [hashByValue_scannable 8 rfl]
 refine Ol (On ?_)
 simp only [plainKind,↓reduceIte]
 refine Ol (wpAny_storeSet_of ho rfl ?_ (Pi (by decide:1≤4096) (fits_of_scanBound (by decide:4095 < scanBound) |> λ_=>by rw [O4]; decide)))
 rw [if_neg (by show ¬((!false && (E8 led (RV hs % 8)).tooFull)=true); show ¬((!false && decide ((1+0) * 5 ≥ 7 * 3))=true); simp)]
 exact On (On h)
theorem sL (x:Om) {Q₁:Om->Os->Prop}
  (h:Q₁ (.ref s.heap.objs.size) { s with heap:=s.heap.push { cls:=.type "set",dict:=none,data:=.set #[] 0 (.fresh 0 0 (!w.params.followText "set-order")) } }) :
  RX (OE prog w) A (.call (.builtin "set.__new__") ⟨[.type "set",x],[]⟩) (wants Q₁ E) s:=by
 refine WP ?_
 show Ov _ A.in1 (do checkBuiltinCall "set.__new__" ⟨[.type "set",x],[]⟩; again (.builtin "set.__new__" ⟨[.type "set",x],[]⟩)) _ _ s
 refine Ol (WC (F.newCall_set_1 x) (On ⟨X2 WQ _,SX F.entry_set_new ?_⟩))
 rw [SQ WQ _]
 unfold QX.«set.__new__» Xm
 have hsub:=sub_set_self
 obtain⟨hp,g,d,tk,os⟩:=s
 dsimp only
 wp_walk
 refine Qv (On ?_)
 dsimp only
 simp only [newObj]
 refine Ol (wpAny_alloc (On ?_))
 exact On h
end
theorem db:Slot "set_iterator" "__next__" "set_iterator.__next__" :=
 .of (owner:="set_iterator") (n:="__next__") (by rw [WR,UK]; kernel_rfl) (by decide +kernel) (by decide +kernel) (by decide +kernel)
  (by first | exact .inl (by decide +kernel) | exact .inr (by decide +kernel)) (by rw [UZ]; kernel_rfl)
theorem kK:Xk YE "set_iterator.__next__" = some QX.«set_iterator.__next__»:=entryFor_of_tree (by kernel_rfl)
theorem xI:Manifest.owners.lookup (String.ofList ['r','o','t','a','r','e','t','i','_','t','e','s'].reverse)=some Manifest.sig_set_iterator:=by kernel_rfl
theorem mn (a:Om):Zw "set_iterator.__next__" ⟨[a],[]⟩:=by
 unfold Zw; rw [X3 (id:="set_iterator.__next__") (n:=['_','_','t','x','e','n','_','_']) (o:=['r','o','t','a','r','e','t','i','_','t','e','s']) (by kernel_rfl) xI]; kernel_rfl
theorem mq:Slot "set_iterator" "__iter__" "set_iterator.__iter__" :=
 .of (owner:="set_iterator") (n:="__iter__") (by rw [WR,UK]; kernel_rfl) (by decide +kernel) (by decide +kernel) (by decide +kernel)
  (by first | exact .inl (by decide +kernel) | exact .inr (by decide +kernel)) (by rw [UZ]; kernel_rfl)
theorem sM:Xk YE "set_iterator.__iter__" = some QX.«dict_keyiterator.__iter__» :=
 UX (id':="dict_keyiterator.__iter__") (by kernel_rfl) (by first | rfl | decide +kernel | (unfold Xn; simp +decide [V5])) (by decide +kernel) (by kernel_rfl)
theorem vW (a:Om):Zw "set_iterator.__iter__" ⟨[a],[]⟩:=by
 unfold Zw; rw [X3 (id:="set_iterator.__iter__") (n:=['_','_','r','e','t','i','_','_']) (o:=['r','o','t','a','r','e','t','i','_','t','e','s']) (by kernel_rfl) xI]; kernel_rfl
theorem mt:Xk YE "set.__iter__" = some QX.«frozenset.__iter__» :=
 UX (id':="frozenset.__iter__") (by kernel_rfl) (by first | rfl | decide +kernel | (unfold Xn; simp +decide [V5])) (by decide +kernel) (by kernel_rfl)
def j7 (w:Pl) (h:O9) (a:Oo) (k:Int) (hs:Int) (t:Tok) (ep j:Nat):Prop:=∃o,h.get? a=some o/\o.ExactSet/\o.data=.set #[(hs,.int k t)] ep (E8 (!w.params.followText "set-order") j)
def xJ (h:O9) (it a:Oo) (f i:Int) (ep:Nat):Prop:=h.get? it=some { cls:=.type "set_iterator",dict:=none,data:=.fields #[.int f 0,.int i 0,.ref a,.int 1 0,.int ep 0],slots:=#[] }
section
variable {a it:Oo} {k hs:Int} {t:Tok} {ep j:Nat}
theorem j7.typeIs (x:j7 w s.heap a k hs t ep j):s.TypeIs (.ref a) "set":=let ⟨o,ho,hx,_⟩:=x; ⟨o,ho,hx.1⟩
theorem xJ.typeIs {f i:Int} (x:xJ s.heap it a f i ep):s.TypeIs (.ref it) "set_iterator":=⟨_,x,rfl⟩
theorem E9 {Q:Om->Os->Prop} (x:j7 w s.heap a k hs t ep j)
  (h:Q (.ref s.heap.objs.size) { s with heap:=s.heap.push { cls:=.type "set_iterator",data:=.fields #[.int 0 0,.int 0 0,.ref a,.int 1 0,.int ep 0] } }):Ov (OE prog w) A (Wg (.ref a)) Q E s:=by
 obtain⟨o,ho,hx,hd⟩:=id x
 refine Sk x.typeIs WS (Po WS x.typeIs mt ?_ (F.args_set_iter_1 _))
 unfold QX.«frozenset.__iter__»
 show Ov _ _ (T6 a >>= _) _ _ s
 unfold T6
 refine Ol (Ol (S8 ho hd rfl (On ?_)))
 unfold setDrawn
 refine Ol (Ol (QE ho hd rfl ?_))
 dsimp only
 unfold Uv
 refine Ol (Ol (Qv (On ?_)))
 refine On ?_
 refine Q6 (λhab=>absurd hab (show ¬((!(w.params.followText "set-order") && false)=true) by simp)) (λ_=>?_)
 refine Ol (On ?_)
 unfold setEpoch
 refine Ol (Ol (QE ho hd rfl (On ?_)))
 refine Ol (Pc (On ⟨_,rfl,"set_iterator",_,⟨_,Ox _ rfl,rfl⟩,db.lookup,?_⟩))
 exact h
end
section
variable {a it:Oo} {k hs:Int} {t:Tok} {ep j:Nat}
theorem xK {α:Type} (f:Nat->Nat) (x:α):pickOrder f #[x]=#[x]:=by
 unfold pickOrder
 show V6 f 1 0 [x] #[]=#[x]
 unfold V6
 simp [Nat.mod_one]
 unfold V6
 rfl
theorem zC (j:Nat):QV #[j] 0=0:=by
 simp [QV,V7]
theorem zD (j:Nat):QV #[j] (j+1)=1:=by
 simp [QV,V7]
theorem vX {slot:Nat} {Q:Option (Om×Nat)->Os->Prop} (x:j7 w s.heap a k hs t ep j) (hq:∀n,(w.params.followText "set-order" = false->n=j+1)->Q (some (.int k t,n)) s):Ov (OE prog w) A (V8 a 0 0 ep) Q E s:=by
 obtain⟨o,ho,hx,hd⟩:=id x
 unfold V8
 refine Ol (QE ho hd rfl ?_)
 dsimp only
 unfold Uv
 refine Ol (Ol (Qv (On ?_)))
 dsimp only
 show Ov _ _ (if (w.params.followText "set-order")=true then _ else _) _ _ _
 cases hb:w.params.followText "set-order" with
 | true =>
  simp only [↓reduceIte,bne_self_eq_false,OT]
  unfold setWalk
  refine Ol (Ol (QE ho hd rfl ?_))
  dsimp only
  unfold Uv
  refine Ol (Ol (Qv (On ?_)))
  show Ov _ _ (if (w.params.followText "set-order")=true then _ else _) _ _ _
  rw [if_pos hb]
  refine Ol (Qv (On (On ?_)))
  rw [xK]
  exact hq _ λz=>by rw [hb] at z; cases z
 | false =>
  simp only [OT,↓reduceIte]
  refine Q6 (λhab=>absurd hab (show ¬(false=true) by simp)) (λ_=>?_)
  refine Ol ?_
  show Ov _ _ (if (!(!false) && !(#[(hs,Q1 k t)]).isEmpty)=true then _ else _) _ _ _
  refine Q6 (λhab=>absurd hab (by simp)) (λ_=>On ?_)
  refine On ?_
  show Q (match (#[(hs,Q1 k t)])[QV #[j] 0]?,(#[j]:Array Nat)[QV #[j] 0]? with
   | some (_,x),some j=>some (x,j+1)
   | _,_=>none) s
  rw [zC]
  exact hq _ λ_=>rfl
theorem vY {n:Nat} {Q:Option (Om×Nat)->Os->Prop} (x:j7 w s.heap a k hs t ep j) (hn:w.params.followText "set-order" = false->n=j+1) (hq:Q none s):Ov (OE prog w) A (V8 a n 1 ep) Q E s:=by
 obtain⟨o,ho,hx,hd⟩:=id x
 unfold V8
 refine Ol (QE ho hd rfl ?_)
 dsimp only
 unfold Uv
 refine Ol (Ol (Qv (On ?_)))
 dsimp only
 show Ov _ _ (if (w.params.followText "set-order")=true then _ else _) _ _ _
 cases hb:w.params.followText "set-order" with
 | true =>
  simp only [↓reduceIte,bne_self_eq_false,OT]
  unfold setWalk
  refine Ol (Ol (QE ho hd rfl ?_))
  dsimp only
  unfold Uv
  refine Ol (Ol (Qv (On ?_)))
  show Ov _ _ (if (w.params.followText "set-order")=true then _ else _) _ _ _
  rw [if_pos hb]
  refine Ol (Qv (On (On ?_)))
  rw [xK]
  exact hq
 | false =>
  have hn:=hn hb
  subst hn
  simp only [OT,↓reduceIte]
  refine Q6 (λhab=>absurd hab (show ¬(false=true) by simp)) (λ_=>?_)
  refine Ol ?_
  show Ov _ _ (if (!(!false) && !(#[(hs,Q1 k t)]).isEmpty)=true then _ else _) _ _ _
  refine Q6 (λhab=>absurd hab (by simp)) (λ_=>On ?_)
  refine On ?_
  show Q (match (#[(hs,Q1 k t)])[QV #[j] (j+1)]?,(#[j]:Array Nat)[QV #[j] (j+1)]? with
   | some (_,x),some j=>some (x,j+1)
   | _,_=>none) s
  rw [zD]
  exact hq
end
section
variable {a it:Oo} {k hs:Int} {t:Tok} {ep j:Nat}
theorem Cu {Q:Option Om->Os->Prop} (x:j7 w s.heap a k hs t ep j) (i:xJ s.heap it a 0 0 ep)
  (hQ:∀h' n,(w.params.followText "set-order" = false->n=j+1)->xJ h' it a (n:Nat) 1 ep->P9 it s.heap h'->Q (some (.int k t)) { s with heap:=h' }):Ov (OE prog w) A (Tn (.ref it)) Q E s:=by
 obtain⟨os,hos,hxs,hds⟩:=id x
 unfold Tn
 refine Ol (RT (P4 (name:=Oq "__next__") i.typeIs db (Po db i.typeIs kK ?_ (mn _))))
 unfold QX.«set_iterator.__next__»
 refine Ol (On ?_)
 refine Ol (RG i rfl ?_)
 dsimp only
 refine Ol (S8 hos hds rfl ?_)
 rw [if_neg (by simp)]
 simp only [RD]
 show Ov _ _ (V8 a 0 0 ep >>= _) _ _ _
 refine Ol (vX (slot:=0) x λn hn=>?_)
 dsimp only
 refine Ol (P1 i (by simp) λh1 e1 s1=>?_)
 refine Ol (P1 (s:={ s with heap:=h1 }) e1 (by simp) λh2 e2 s2=>?_)
 exact On ⟨_,rfl,On (hQ h2 n hn (by unfold xJ; simpa [To] using e2) (s1.trans s2))⟩
theorem Cv {n:Nat} {Q:Option Om->Os->Prop} (hh:A.handled=none) (x:j7 w s.heap a k hs t ep j) (i:xJ s.heap it a (n:Nat) 1 ep) (hn:w.params.followText "set-order" = false->n=j+1)
  (hQ:∀h',Y1 it s.heap h'->Q none { s with heap:=h' }):Ov (OE prog w) A (Tn (.ref it)) Q E s:=by
 obtain⟨os,hos,hxs,hds⟩:=id x
 unfold Tn
 refine Ol (RT (P4 (name:=Oq "__next__") i.typeIs db (Po db i.typeIs kK ?_ (mn _))))
 unfold QX.«set_iterator.__next__»
 refine Ol (On ?_)
 refine Ol (RG i rfl ?_)
 dsimp only
 refine Ol (S8 hos hds rfl ?_)
 rw [if_neg (by simp)]
 simp only [RD]
 show Ov _ _ (V8 a n 1 ep >>= _) _ _ _
 refine Ol (vY x hn ?_)
 dsimp only
 refine Ol (P1 i (by simp) λh1 e1 s1=>?_)
 show Ov _ _ (Zt (.type "StopIteration") [] >>= _) _ _ _
 refine Ol ?_
 simp only [Zt,newTuple]
 refine Ol (Pc ?_ (by size_fits))
 refine Ol (m:=TJ _ _) (WC (a:=Pr) (by first | rfl | (simp only [TJ]; rfl)) ?_)
 refine Pc ?_ (by size_fits)
 simp only [raiseNew]
 refine Ol (Vy ?_)
 first | rw [show A.in1.handled=none from hh] | rw [hh]
 refine Ol (On (WD ?_))
 refine Ol (Ud (T:="StopIteration") (b:=true) ⟨_,Ox _ rfl,rfl⟩ Xj ?_)
 exact On (hQ _ ((s1.extBut.push _).push _))
theorem j7.at {h h':O9} (x:j7 w h a k hs t ep j) (e:∀o,h.get? a=some o->h'.get? a=some o):j7 w h' a k hs t ep j:=let ⟨o,ho,r⟩:=x; ⟨o,e o ho,r⟩
theorem Cw (hh:A.handled=none) (I:Oo) (hne:a≠I):Walks prog w A I [I,a] [I] 1 (λ_ v=>v=.int k t) (λi h=>j7 w h a k hs t ep j/\((i=0/\xJ h I a 0 0 ep)∨(i=1/\∃n:Nat,(w.params.followText "set-order" = false->n=j+1)/\xJ h I a (n:Nat) 1 ep))) where
 sub:=λb hb=>by simp at hb; simp [hb]
 frame:=λi h h' st hk=>⟨st.1.at λo e=>hk a (by simp) o e,by
  rcases st.2 with ⟨rfl,z⟩ | ⟨rfl,n,hn,z⟩
  ·exact .inl ⟨rfl,hk I (by simp) _ z⟩
  ·exact .inr ⟨rfl,n,hn,hk I (by simp) _ z⟩⟩
 item:=λi s Q E hi st hQ=>by
  obtain⟨x,z⟩:=st
  rcases z with ⟨rfl,z⟩ | ⟨rfl,_⟩
  ·exact Cu x z λh' n hn i' sb=>hQ _ h' s.toks rfl ⟨x.at λo e=>(sb.2 a hne).trans e,.inr ⟨rfl,n,hn,i'⟩⟩ λb o hb e=>(sb.2 b (λz=>hb (by simp [z]))).trans e
  ·omega
 done:=λs Q E st hQ=>by
  obtain⟨x,z⟩:=st
  rcases z with ⟨z,_⟩ | ⟨_,n,hn,z⟩
  ·cases z
  ·exact Cv hh x z hn λh' he=>hQ h' s.toks λb o hb e=>he b o (λz=>hb (by simp [z])) e
 self:=λi s Q E st hQ=>by
  have hT:s.TypeIs (.ref I) "set_iterator":=by
   rcases st.2 with ⟨_,z⟩ | ⟨_,n,_,z⟩
   ·exact z.typeIs
   ·exact z.typeIs
  refine Sk hT mq (Po mq hT sM ?_ (vW _))
  show Ov _ _ (ret (.ref I)) _ _ s
  exact On ⟨_,rfl,"set_iterator",_,hT,db.lookup,hQ⟩
theorem Hs {r:Oo} {Q:Bool->Os->Prop} (hT:s.TypeIs (.ref r) "set") (h:Q false s):Ov (OE prog w) A (Tf (.ref r)) Q E s:=by
 unfold Tf
 refine Ol (WH hT PySem.F.slot_set_len.lookup ?_)
 generalize hid:("set.__len__":String)=id0
 wp_delta
 rw [show splitId id0=some ("set","__len__") from by subst hid; decide +kernel]
 subst hid
 refine Ol (Ud (T:="set") (b:=true) hT (by rw [UZ]; kernel_rfl) ?_)
 refine Q6 (λhab=>absurd hab (by decide)) (λ_=>?_)
 refine Q6 (λ_=>?_) (λhab=>absurd (by decide +kernel) hab)
 refine Ol (Ul hT ?_)
 exact On h
theorem Ht:KdlSrc prog w "set" a a 1 (λ_ v=>v=.int k t) (λh=>j7 w h a k hs t ep j) where
 type:=λ_ x=>x.typeIs
 there:=λ_ x=>let ⟨_,ho,_⟩:=x; ⟨Oy ho,Oy ho⟩
 keep:=λ_ _ x hk=>x.at λo e=>hk a (.inl rfl) o e
 notList:=by decide
 notTuple:=by decide
 hint:=λ_ _ _ _ x hq=>Hs x.typeIs hq
 iter:=λ_ _ hh x=>⟨_,_,(λ_ _ hq=>E9 x hq),Cw hh _ (let ⟨_,ho,_⟩:=x; OG (Oy ho)),⟨x.at λo e=>Op _ e,.inl ⟨rfl,Ox _ rfl⟩⟩⟩
end
section
theorem Fa {R:Yh->Os->Prop} {S I l:Oo} {k:Int} {t:Tok} (hh:A.in1.handled=none) (hne:l≠I) (hSI:S≠I) (hSl:S≠l) (hS:s.heap.get? S=some { cls:=.type "set",dict:=none,data:=.set #[] 0 (.fresh 0 0 (!w.params.followText "set-order")) })
  (hI:s.heap.IsTupleIter I l 0) (hl:s.heap.IsTuple l #[.int k t])
  (hR:∀h' tk hs ep j,j7 w h' S k hs t ep j->(∀b o,b≠S->b≠I->s.heap.get? b=some o->h'.get? b=some o)->R (.ok (.ret .none)) { s with heap:=h',toks:=tk }) :
  RX (OE prog w) A (.builtin "set.update.loop" ⟨[.ref S,.ref I],[]⟩) R s:=by
 have W:=Walks.tuple (prog:=prog) (w:=w) hh I l hne #[.int k t]
 refine SX Ug ?_
 rw [SQ Sa _]
 show Ov _ A.in1 (Tn (.ref I) >>= _) _ _ s
 refine Ol (W.item 0 s _ _ (by simp) ⟨hI,hl⟩ λv h1 tk hv st1 kp=>?_)
 have hv:v=.int k t:=by simpa using hv.symm
 subst hv
 have hS1:=kp S _ (by simp [hSI]) hS
 show Ov _ A.in1 (Ra [Q1 k t] (setAdd S (.int k t)) >>= _) _ _ _
 refine Ol (Ps ?_)
 unfold setAdd
 refine Ps ?_
 refine Ol ((VO prog w).pyHash (k:=k) (intKind_is _ _ _ _) ?_)
 refine vV hS1 ?_
 refine On ⟨X2 Sa _,SX Ug ?_⟩
 rw [SQ Sa _]
 show Ov _ A.in1 (Tn (.ref I) >>= _) _ _ _
 refine Ol (W.done _ _ _ (W.frame _ _ _ st1 λb hb o e=>?_) λh2 tk2 kp2=>?_)
 ·simp at hb
  rcases hb with rfl | rfl
  ·exact (PB _ _ _ _ hSI.symm).trans e
  ·exact (PB _ _ _ _ hSl.symm).trans e
 ·show Ov _ A.in1 (ret Pr) _ _ _
  refine On (hR h2 tk2 ((VO prog w).hash k) 1 (RV ((VO prog w).hash k) % 8) ?_ λb o n1 n2 e=>kp2 b o (by simp [n2]) ((PB _ _ _ _ n1).trans (kp b o (by simp [n2]) e)))
  have hg:=Rx (Zv #[((VO prog w).hash k,Q1 k t)] (E8 (!w.params.followText "set-order") (RV ((VO prog w).hash k) % 8))) hS1 rfl
  exact⟨_,kp2 S _ (by simp [hSI]) hg,⟨rfl,rfl,rfl⟩,rfl⟩
set_option maxRecDepth 100000 in
theorem vZ {l:Oo} {k:Int} {t:Tok} {Q:Om->Os->Prop} (hh:A.handled=none) (hl:s.heap.IsTuple l #[.int k t])
  (h:∀(h':O9) (tk:Nat) hs ep j,j7 w h' s.heap.objs.size k hs t ep j->(∀b o,s.heap.get? b=some o->h'.get? b=some o)->Q (.ref s.heap.objs.size) { s with heap:=h',toks:=tk }) :
  Ov (OE prog w) A (call (.type "set") [.ref l]) Q E s:=by
 obtain⟨c,tl,hmro⟩:=Rt.mro
 have hmade:=Rt.made
 have hsub:=Rt.sub
 refine RF (WP ?_)
 show Ov _ _ (callAny (.type "set") _) _ _ _
 refine On ⟨Code.quiet_builtin _ (by decide +kernel),SX F.entry_type_call ?_⟩
 rw [Around.under_plain (weight_type_call_type "set" [.ref l] []) rfl]
 have h1:=Rt.notType
 have h2:=Rt.canCreate
 have hct:=F.typeCall_set_1 (.ref l)
 repeat (any_goals (first | assumption | wp_step))
 refine PZ (sL (.ref l) (E:=E) (Q₁:=λobj s₁=>obj=.ref s.heap.objs.size/\s₁={ s with heap:=s.heap.push { cls:=.type "set",dict:=none,data:=.set #[] 0 (.fresh 0 0 (!w.params.followText "set-order")) } }) ⟨rfl,rfl⟩) λr s₁ hr=>?_
 cases r with
 | error e=>exact hr
 | ok fl =>
  cases fl with
  | ret obj =>
   obtain⟨rfl,rfl⟩:=hr
   generalize hled:(!w.params.followText "set-order")=led
   have hS:(s.heap.push { cls:=.type "set",dict:=none,data:=.set #[] 0 (.fresh 0 0 led) }).get? s.heap.objs.size=some { cls:=.type "set",dict:=none,data:=.set #[] 0 (.fresh 0 0 led) }:=Ox _ rfl
   have hT:Vw { s with heap:=s.heap.push { cls:=.type "set",dict:=none,data:=.set #[] 0 (.fresh 0 0 led) } } (.ref s.heap.objs.size) "set":=⟨_,hS,rfl⟩
   have hli:=Rt.init.lookup
   have hbi:=Rt.init.bind (.ref s.heap.objs.size)
   repeat (any_goals (first | assumption | wp_step))
   refine PZ (codeAny_call_builtin (R:=wants (λr s₂=>r=.none/\∃h' tk hs ep j,s₂={ s with heap:=h',toks:=tk }/\j7 w h' s.heap.objs.size k hs t ep j /\
     (∀b o,s.heap.get? b=some o->h'.get? b=some o)) E) Rt.init.plain F.entry_set_init (check_set_init_1 hT ?_)) λr₂ s₂ hr₂=>?_
   ·obtain⟨ol,hol,hcl,nl,hdl⟩:=id hl
    obtain⟨ocls,odict,odata,oslots⟩:=ol
    simp only at hcl hdl
    subst hcl; subst hdl
    have hol':(s.heap.push { cls:=.type "set",dict:=none,data:=.set #[] 0 (.fresh 0 0 led) }).get? l=some { cls:=.type "tuple",dict:=odict,data:=.seq #[.int k t] nl,slots:=oslots }:=Op _ hol
    have hsls:=F.sub_tuple_set
    have hslf:=F.sub_tuple_frozenset
    have hne:(VB "tuple" == VB "dict")=false:=by decide
    have hl1:(s.heap.push { cls:=.type "set",dict:=none,data:=.set #[] 0 (.fresh 0 0 led) }).IsTuple l #[.int k t]:=⟨_,hol',rfl,nl,rfl⟩
    unfold QX.«set.__init__» noKeywords WT
    generalize hPI:Wg=PI
    wp_walk
    subst hPI
    refine VE hl1 ?_
    refine Ol (wpAny_runValue ?_)
    have hlS:l < s.heap.objs.size:=Oy hol
    have hh3:A.in1.in1.in1.handled=none:=by simp [hh]
    have hneI:l≠(s.heap.push { cls:=.type "set",dict:=none,data:=.set #[] 0 (.fresh 0 0 led) }).objs.size:=by
     rw [QR]; exact OG (QC hlS)
    have hSI:s.heap.objs.size≠(s.heap.push { cls:=.type "set",dict:=none,data:=.set #[] 0 (.fresh 0 0 led) }).objs.size:=by
     rw [QR]; exact OG (Pj _)
    subst hled
    refine Fa hh3 hneI hSI (RI hlS) (Op _ hS) ⟨_,Ox _ rfl,rfl,rfl⟩ (hl1.push _) λh' tk hs ep j o kp=>?_
    show Ov _ _ _ _ _ _
    refine On ?_
    show Ov _ _ (ret Pr) _ _ _
    refine On ⟨rfl,h',tk,hs,ep,j,rfl,o,λb o e=>?_⟩
    have hb:=Oy e
    exact kp b o (OG hb) (by rw [QR]; exact OG (QC hb)) (Op _ (Op _ e))
   ·cases r₂ with
    | error e=>exact hr₂
    | ok fl₂ =>
     cases fl₂ with
     | ret r =>
      obtain⟨rfl,h',tk,hs,ep,j,rfl,hS',hk'⟩:=hr₂
      repeat (any_goals (first | assumption | wp_step))
      exact h _ _ _ _ _ hS' hk'
     | _=>exact hr₂.elim
  | _=>exact hr.elim
end
def zE (w:Pl) (a:Oo) (k:Int):HO:=.ext λh=>∃hs t ep j,j7 w h a k hs t ep j
def I0 (w:Pl):List V->Hp->VK->Prop:=λvs H Q=>∃a k,vs=[.ref a]/\H a=some (.tup [.int k])/\∀p,H p=none->Q (.ref p) (upd H p (zE w p k))
def Fb (w:Pl):List V->Hp->VK->Prop:=λvs H Q=>∃a k,vs=[.ref a]/\H a=some (zE w a k)/\∀p,H p=none->Q (.ref p) (upd H p (.lst [.int k]))
section
theorem Cy (hc:X.calm=true):dI X (.type "set") (I0 X.w):=by
 intro pins s σ H xs us Q I r h
 obtain⟨a,k,rfl,ha,q⟩:=h
 obtain⟨u,rfl,ru⟩:=jk r
 cases ru
 obtain⟨z,its,rv,tp⟩:=I.hok a _ ha
 cases rv with | cons r0 rr=>cases rr with | nil =>
 obtain⟨t,rfl⟩:=r0
 refine vZ (I.ok.hd hc) tp λh' tk hs ep j o kp=>?_
 refine⟨.ref s.heap.objs.size,_,I.laid (a:=s.heap.objs.size) (h':=h') (o:=zE X.w s.heap.objs.size k) (t':=tk) kp (OB _) ⟨⟨hs,t,ep,j,o⟩,let ⟨ob,ho,_⟩:=o; ⟨ob,ho⟩,λh1 h2 ⟨hs,t,ep,j,o⟩ e=>⟨hs,t,ep,j,o.at e⟩⟩,rfl,q _ (I.hok.fresh (OB _))⟩
theorem zF (hc:X.calm=true):dI X (.builtin "sorted") (Fb X.w):=by
 intro pins s σ H xs us Q I r h
 obtain⟨a,k,rfl,ha,q⟩:=h
 obtain⟨u,rfl,ru⟩:=jk r
 cases ru
 obtain⟨⟨hs,t,ep,j,o⟩,_⟩:=I.hok a _ ha
 refine qU (ys:=[.int k]) (out:=[.int k]) hc I ?_ (by simp) (.inl ⟨by simp,rfl⟩) q
 intro A Q E hh q
 refine kdu_collect (Ht (prog:=X.prog) (w:=X.w) (k:=k) (hs:=hs) (t:=t) (ep:=ep) (j:=j)) hh o (by rw [O4]; decide) λh' tk acc kp ia=>?_
 refine q _ h' tk ?_ kp
 obtain⟨i1,i2⟩:=ia
 match he:acc.toList with
 | []=>rw [<-O6,he] at i1; cases i1
 | [v] =>
  have:=i2 0 v (by rw [<-Ry,he]; rfl)
  subst this
  exact .cons ⟨t,rfl⟩ .nil
 | _::_::_=>rw [<-O6,he] at i1; simp at i1
end
end L2
namespace RB
open PySem L2
def xL (a:BE):BE:=λσ S k=>a σ S λx S1=>match x with
 | .tc (.int s lo hi) .tn=>k (.ref S1.n) (S1.add (.lst [.int s lo hi]))
 | _=>false
section
variable {e:OP} {ba:BE}
theorem zG (h:PE X e (K3 (Fb w) (qd (K3 (I0 w) (qd (up g ba) qc)) qc))):PE X e (up g (xL ba)):=by
 refine PE.imp (λσ H Q ⟨F,y,ρ,S,σa,k,C,r,h,p⟩=>?_) h
 refine aD C r h λy1 ρ1 S1 H1 ax x st C1 r1 rx h1=>?_
 split at h1
 ·rename_i s lo hi
  obtain⟨a,vs,rfl,ha,pr⟩:=aY.chain_of (xs:=[.int s lo hi]) rx
  cases pr with | cons r0 t=>cases t with | nil =>
  have r00:=r0
  obtain⟨z,rfl,bz⟩:=bf.mp r0
  refine⟨a,z,rfl,ha,λpl hp=>⟨pl,z,rfl,aF,λp2 hp2=>?_⟩⟩
  have st2:aE F y1 ρ1 H1 y1 ρ1 (upd H1 pl (zE w pl z)):=aE.lay hp
  have C2:aM g F y1 ρ1 S1 (upd H1 pl (zE w pl z)):=C1.lay hp
  have st3:aE F y1 ρ1 (upd H1 pl (zE w pl z)) y1 (ρ1++[p2]) (upd (upd H1 pl (zE w pl z)) p2 (.lst [.int z])):=aE.add hp2
  exact p y1 _ _ _ (.ref S1.n) _ ((st.trans st2).trans st3) (C2.add (o:=.lst [.int s lo hi]) hp2 ⟨_,rfl,.cons (aY.mono (st2.trans st3) r00) .nil⟩) ⟨p2,by rw [C1.n]; simp,rfl⟩ h1
 ·cases h1
end
end RB
namespace L2
open PySem PySem.Spec PyProof.Rows PySem.W
theorem mv {κ β:Type} [DecidableEq κ] {k:κ}:∀{xs:List (κ×β)} {j:Nat} {p:β},(xs.map (·.1)).Nodup->xs[j]?=some (k,p)->xs.eraseIdx j=xs.filter λx=>decide (x.1≠k)
 | [],j,p,_,e=>by simp at e
 | x::r,0,p,hn,e=>by
  simp at e
  subst e
  rw [OV,PM] at hn
  rw [List.eraseIdx_zero,List.tail_cons,QO]
  rw [if_neg (by simp)]
  symm
  rw [List.filter_eq_self]
  intro x hx
  have:x.1≠k:=λz=>hn.1 (by rw [<-z]; exact RK.mpr ⟨x,hx,rfl⟩)
  simp [this]
 | x::r,j+1,p,hn,e=>by
  rw [OV,PM] at hn
  have e':r[j]?=some (k,p):=by simpa using e
  have ne:x.1≠k:=λz=>hn.1 (by rw [z]; exact RK.mpr ⟨(k,p),OR e',rfl⟩)
  rw [Uh,QO,if_pos (by simp [ne]),mv hn.2 e']
theorem uQ {α β:Type} (f:α->β):∀(l:List α) (j:Nat),(l.map f).eraseIdx j=(l.eraseIdx j).map f
 | [],_=>rfl
 | _::_,0=>rfl
 | x::l,j+1=>by simp [Uh,uQ f l j]
theorem KT.drop {kvs:List (List bv×V)} {xs:List (List bv×Oo×Om)} (r:KT H kvs xs) (k:List bv):KT H (h9 kvs k) (xs.filter λx=>decide (x.1≠k)):=by
 induction r with
 | nil=>exact .nil
 | @cons p q ps qs h t ih =>
  unfold h9
  rw [QO,QO]
  have e:q.1=p.1:=h.1.symm
  rw [e]
  by_cases z:p.1=k
  ·simp only [z,ne_eq,not_true,decide_false]; exact ih
  ·simp only [z,ne_eq,not_false_eq_true,decide_true,if_true]; exact .cons h ih
section
variable {κ:Type} [DecidableEq κ] {knd:HeapKind prog w κ}
theorem v1 {d a:Oo} {xs:List (κ×Oo×Om)} {k:κ} {Q:Option Q4->Os->Prop} (hu:knd.room A) (hkey:knd.is s.heap k a) (hm:s.heap.DictOfH knd d xs) (hp:(Vt xs k).isSome=true) (hsz:xs.length≤OA)
  (hQ:∀e h' o es ep,h'.get? d=some o->o.ExactDict->o.data=.dict es ep->es.toList=(xs.filter λx=>decide (x.1≠k)).map (WY knd)->P9 d s.heap h'->Q (some e) { s with heap:=h',toks:=s.toks+knd.draws k }) :
  Ov (OE prog w) A (SR d (.ref a)) Q E s:=by
 obtain⟨o,es,ep,ho,hc,hd,he,his,hn⟩:=hm
 unfold SR
 try with_reducible refine Ps ?_
 refine Ol (knd.pyHash hu hkey (Ol (wpAny_dictFind_heap (s:={ s with toks:=s.toks+knd.draws k }) hu hkey ho hd he his hn ?_ ?_)))
 ·intro hno
  rw [atKey_none_of_get hno] at hp; cases hp
 ·intro j p hj
  refine Ol (Sl (s:={ s with toks:=s.toks+knd.draws k }) ho hd ?_)
  rw [entry_at he j,hj]
  have hes:es.size≤OA:=by have e:=WU he; omega
  refine Ol (wpAny_updateDictKeys (hz:=hes) (s:={ s with toks:=s.toks+knd.draws k }) ho hd (On (hQ _ _ _ _ (ep+1) (Rx _ ho (Obj.isFreed_of_dict (U0 hd _))) (hc.mapDictKeys _) (U0 hd _) ?_ (Vl ..))))
  rw [<-mv hn hj]
  have hjl:j < es.size:=by rw [WU he]; exact (Ow.mp hj).1
  have e2:(es.eraseIdxIfInBounds j).toList=es.toList.eraseIdx j:=by
   obtain⟨l⟩:=es
   simp
  rw [e2,he]
  exact uQ _ xs j
end
section
variable {σ:L2.St} {a b:Oo} {kvs:List (List bv×V)} {k:List bv}
theorem zH {Q:Unit->Os->Prop} (hu:A.units+1 < Qf) (I:aC X pins σ H s) (e:H a=some (.dT kvs)) (eb:H b=some (.tup (k.map kV))) (l:(c3 kvs k).isSome=true) (h:∀s',aC X pins σ (upd H a (.dT (h9 kvs k))) s'->Q () s') :
  Ov (OE X.prog X.w) A (delItem (.ref a) (.ref b)) Q E s:=by
 obtain⟨z,hd,xs,rel,dd⟩:=IE I.hok e
 have hp:(Vt xs k).isSome=true:=by
  have q:=(rel.val k).isSome_eq
  rw [Sj] at q
  rw [<-q]; exact l
 have hz:xs.length≤OA:=by rw [<-Pe rel]; exact z
 refine VJ dd.typeIs (by decide) QZ (Po QZ dd.typeIs Tw ?_ (Tc _ _))
 unfold QX.«dict.__delitem__»
 refine Ol ?_
 unfold XE
 refine Ol (UI dd.typeIs ?_)
 show Ov _ _ (pure (OJ a,OJ b)) _ _ s
 refine On ?_
 show Ov _ _ (SR a (.ref b) >>= _) _ _ s
 refine Ol (v1 (Qr hu) (L2.dj I.hok eb) dd hp hz λen h' o es ep e1 e2 e3 e4 sb=>?_)
 refine Ol (UT (On ⟨.none,rfl,h _ ?_⟩))
 have hn:((xs.filter λx=>decide (x.1≠k)).map (·.1)).Nodup:=by
  obtain⟨_,_,_,_,_,_,_,_,hn⟩:=dd
  exact Zx (ZO _ List.filter_sublist) hn
 refine lV I (by rw [e]; exact Qd) sb ⟨o,e1⟩ ⟨Pi (wT kvs k) z,hd,_,(KT.drop rel k).keeps λc ys ec=>?_,o,es,ep,e1,e2,e3,e4,hn⟩
 rw [ao (Io ec e (λz=>nomatch z))]
 exact ec
end
def L3 (H:Hp) (a:Oo) (y:V) (H':Hp):Prop :=
 (∃kvs k,H a=some (.dK kvs)/\y=kV k/\(c3 kvs k).isSome=true/\H'=upd H a (.dK (h9 kvs k))) ∨
 ∃kvs k b,H a=some (.dT kvs)/\y=.ref b/\H b=some (.tup (k.map kV))/\(c3 kvs k).isSome=true/\H'=upd H a (.dT (h9 kvs k))
def KA (td ty:TE):TS:=λD σ H=>td σ H λx H1=>ty σ H1 λy H2=>∃a H',x=.ref a/\L3 H2 a y H'/\D.nx σ H'
theorem Fc {o i:OP} {pos tpos:Pos} {td ty:TE} (hu:X.A.units+1 < Qf) (ho:PE X o td) (hi:PE X i ty):PS X (.Delete [.Subscript o i tpos] pos) (KA td ty):=by
 intro pins s σ H D I h
 refine wpAny_Delete (wpAny_deleteEach_cons (wpAny_delete_Subscript (bG (ho pins s σ H _ I h) λu s1 ⟨x,H1,I1,rx,q1⟩=>bG (hi pins s1 σ H1 _ I1 q1) λiv s2 ⟨y,H2,I2,ry,a,H',ex,g,q2⟩=>?_)))
 subst ex
 obtain rfl:u=OJ a:=rx
 rcases g with ⟨kvs,k,e,rfl,l,rfl⟩ | ⟨kvs,k,b,e,rfl,eb,l,rfl⟩
 ·exact BL I2 e ry l λs3 I3=>U1 ⟨σ,_,I3,q2⟩
 ·cases (show iv=OJ b from ry)
  exact zH hu I2 e eb l λs3 I3=>U1 ⟨σ,_,I3,q2⟩
end L2
namespace RB
open PySem L2
def A8 (S:aU) (x y:AV):Option aU:=match x with
 | .ref n=>match S.t.get n with
  | some (.dk kvs)=>match fU y with
   | true=>match dX kvs y with
    | some _=>some (S.set n (.dk (ou kvs y)))
    | none=>none
   | false=>none
  | some (.dt kvs)=>match fN y with
   | true=>match dX kvs y with
    | some _=>some (S.set n (.dt (ou kvs y)))
    | none=>none
   | false=>none
  | _=>none
 | _=>none
def Fd (a b:BE):BS:=λd σ S=>a σ S λx S1=>b σ S1 λz S2=>match A8 S2 x z with
 | some S3=>d.nx σ S3
 | none=>false
section
variable {S:aU}
theorem Fe (C:aM g F y ρ S H) {ax ak:AV} {x k:V} (rx:aY F y ρ H ax x) (rk:aY F y ρ H ak k) {S':aU} (h:A8 S ax ak=some S') :
  ∃a H',x=.ref a/\L3 H a k H'/\aE F y ρ H y ρ H'/\aM g F y ρ S' H':=by
 unfold A8 at h
 split at h
 ·rename_i n
  split at h
  ·rename_i kvs q
   split at h
   ·rename_i q2
    split at h
    ·rename_i v q3
     cases h
     obtain⟨a,ks,rfl,hρ,ha,pr⟩:=C.dk rx q
     obtain⟨kk,hk,rfl⟩:=RB.dj q2 rk
     have st:aE F y ρ H y ρ (upd H a (.dK (h9 ks kk))):=aE.set C hρ ha
     obtain⟨l1,l2⟩:=ii (KR:=gR) (R:=aY F y ρ H) (λ_ _ _ _ h1 h2=>gz h1 h2) hk pr
     obtain⟨v',hv,_⟩:=l1 v q3
     refine⟨a,_,rfl,.inl ⟨ks,kk,ha,rfl,by rw [hv]; rfl,rfl⟩,st,C.set hρ ha (o:=.dk (ou kvs ak)) (ob:=⟨_,rfl,?_⟩)⟩
     exact l7 (KR:=gR) (R:=aY F y ρ _) (λ_ _ _ _ h1 h2=>gz h1 h2) hk (a6 (λ_ _ z=>⟨z.1,aY.mono st z.2⟩) pr)
    ·cases h
   ·cases h
  ·rename_i kvs q
   split at h
   ·rename_i q2
    split at h
    ·rename_i v q3
     cases h
     obtain⟨a,ks,rfl,hρ,ha,pr⟩:=C.dt rx q
     obtain⟨kk,b,hk,rfl,hb⟩:=vD q2 rk
     have st:aE F y ρ H y ρ (upd H a (.dT (h9 ks kk))):=aE.set C hρ ha
     obtain⟨l1,l2⟩:=ii (KR:=gw) (R:=aY F y ρ H) (λ_ _ _ _ h1 h2=>jt h1 h2) hk pr
     obtain⟨v',hv,_⟩:=l1 v q3
     refine⟨a,_,rfl,.inr ⟨ks,kk,b,ha,rfl,hb,by rw [hv]; rfl,rfl⟩,st,C.set hρ ha (o:=.dt (ou kvs ak)) (ob:=⟨_,rfl,?_⟩)⟩
     exact l7 (KR:=gw) (R:=aY F y ρ _) (λ_ _ _ _ h1 h2=>jt h1 h2) hk (a6 (λ_ _ z=>⟨z.1,aY.mono st z.2⟩) pr)
    ·cases h
   ·cases h
  ·cases h
 ·cases h
end
section
variable {o i:OP} {ba bb:BE} {pos tpos:Pos}
theorem A9 (hu:X.A.units+1 < Qf) (ho:PE X o (up g ba)) (hi:PE X i (up g bb)):PS X (.Delete [.Subscript o i tpos] pos) (c9 g (Fd ba bb)):=by
 refine PS.imp (λD σ H ⟨F,y,ρ,S,σa,d,C,r,h,p,_⟩=>?_) (Fc hu ho hi)
 refine aD C r h λy1 ρ1 S1 H1 ax x st C1 r1 rx h1=>aD C1 r1 h1 λy2 ρ2 S2 H2 az z st2 C2 r2 rz h2=>?_
 cases q:A8 S2 ax az with
 | none=>simp only [q] at h2; cases h2
 | some S4 =>
  simp only [q] at h2
  obtain⟨a,H',rfl,dp,st4,C4⟩:=Fe C2 (aY.mono st2 rx) rz q
  exact⟨a,H',rfl,dp,p y2 ρ2 S4 H' σa σ ((st.trans st2).trans st4) C4 (bL.mono st4 r2) h2⟩
end
end RB
namespace RB
open PySem PySem.Spec PyProof.Rows L2
def Ff (i:Nat):List Nat->Bool
 | []=>false
 | j::r=>match OL j i with
  | true=>true
  | false=>Ff i r
def Fg (K:Ou) (mg:Str->Option Om) (nm:Str) (tab:List Nat):Prop :=
 ∃a o its n,mg nm=some (.ref a)/\K.lookup a=some o/\o.cls=.type "tuple" /\ o.data=.seq its n/\its.size≤OA/\Paired (λi u=>∃x t,bh[i]?=some x/\u=.str x t) tab its.toList
def Fh (neg:Bool) (tab:List Nat) (a:BE):BE:=λσ S k=>a σ S λx S1=>match x with
 | .str i=>k (.bl (match neg with
  | true=>!Ff i tab
  | false=>Ff i tab)) S1
 | _=>false
theorem uR:∀{tab:List Nat} {us:List Om},Paired (λi u=>∃x t,bh[i]?=some x/\u=.str x t) tab us->∃xs:List Str,Paired (λi x=>bh[i]?=some x) tab xs/\aO (xs.map V.str) us
 | _,_,.nil=>⟨[],.nil,.nil⟩
 | _,_,.cons ⟨x,t,e1,e2⟩ r=>by
  obtain⟨xs,h1,h2⟩:=uR r
  exact⟨x::xs,.cons e1 h1,.cons ⟨t,e2⟩ h2⟩
theorem Ba {i:Nat} {x:Str} (hx:bh[i]?=some x):∀{tab:List Nat} {xs:List Str},Paired (λi x=>bh[i]?=some x) tab xs->Gh (.str x) (xs.map V.str)=Ff i tab
 | _,_,.nil=>rfl
 | j::tab,_,.cons (b:=z) e r=>by
  have ih:=Ba hx r
  unfold Gh at ih ⊢
  unfold Ff
  rw [OV,RO,ih,gu]
  by_cases q:j=i
  ·subst q
   rw [hx] at e; cases e
   simp [yA]
  ·have:¬z=x:=λw=>q (by subst w; exact eR e hx)
   simp [q,yA,this]
theorem CC (xs:List Str):(xs.map V.str).all er=true:=by
 induction xs with
 | nil=>rfl
 | cons x r ih=>rw [OV,Qx,ih]; rfl
section
variable {a b c e o i:OP} {ba bb bc:BE} {bt:BT} {br bk:BA} {s1 s2:BS} {pos p:Pos} {es rest:List OP} {nm:Str} {tab:List Nat}
theorem Hu {neg:Bool} {mg:Str->Option Om} {av:Oo} {ob:Obj} {its:Array Om} {n:Nat} (h1:K.lookup av=some ob) (h2:ob.cls=.type "tuple") (h3:ob.data=.seq its n) (h4:its.size≤OA) (h5:Paired (λi u=>∃x t,bh[i]?=some x/\u=.str x t) tab its.toList) :
  ∀σ H Q,up g (Fh neg tab ba) σ H Q->Jy (Nt K neg) (up g ba) (tC (.ref av)) σ H Q:=λσ H Q ⟨F,y,ρ,S,σa,k,C,r,h,p⟩ =>
 aD C r h λy1 ρ1 S1 H1 ax x st C1 r1 rx hk=>by
  split at hk
  ·rename_i i
   obtain⟨z,e,rfl⟩:=rx
   obtain⟨xs,q1,q2⟩:=uR h5
   refine⟨av,xs.map V.str,rfl,.inr (.inr ⟨ob,its,n,h1,h2,h3,h4,q2⟩),rfl,CC xs,?_⟩
   rw [Ba e q1]
   refine p y1 ρ1 S1 H1 (.bl _) _ st C1 ?_ hk
   cases neg<;>rfl
  ·cases hk
theorem v2 (hg:Gl X nm) (T:Fg X.K X.mg nm tab) (ha:PE X a (up g ba)) (hm:Pz .NotIn (.Name nm p)=false) (hd:(nm == ("__debug__":Str))=false:=by decide):PT X (.Compare a [.NotIn] [.Name nm p] pos) (f6 g (bB (Fh true tab ba))):=by
 obtain⟨av,ob,its,n,h0,h1,h2,h3,h4,h5⟩:=T
 exact PT.imp (ga (Hu (mg:=X.mg) h1 h2 h3 h4 h5)) (vh lS ha (z9 hg h0 rfl hd) hm)
def Hv (gy:Gy):AV->Om->Prop
 | .str i,u=>∃x t,bh[i]?=some x/\u=.str x t
 | .ext j,u=>j < 11/\u=.ref (gy.fe j)
 | _,_=>False
def Hw (P:OZ) (w:Pl) (K:Ou) (mg:Str->Option Om) (gy:Gy) (nm:Str) (tab:List (AV×AV)):Prop :=
 ∃a vs,mg nm=some (.ref a)/\(∀h,K.In h->h.DictOf (aV P w) a vs)/\Paired (λ(p:AV×AV) (q:bv×Om)=>gR p.1 q.1/\Hv gy p.2 q.2) tab vs
def Fi (tab:List (AV×AV)) (a:BE):BE:=λσ S k=>a σ S λx S1=>match fU x with
 | true=>match dX tab x with
  | some v=>k v S1
  | none=>false
 | false=>false
theorem Ja {gy:Gy} {ak:AV} {kk:bv} (hk:gR ak kk):∀{tab:List (AV×AV)} {vs:List (bv×Om)} {av:AV},Paired (λ(p:AV×AV) (q:bv×Om)=>gR p.1 q.1/\Hv gy p.2 q.2) tab vs->dX tab ak=some av->∃u,SE vs kk=some u/\Hv gy av u
 | _,_,_,.nil,h=>by cases h
 | _,_,av,.cons (a:=(l,w)) (b:=(l',v)) hd tl,h=>by
  obtain⟨h1,h2⟩:=hd
  dsimp only at h1 h2
  unfold dX at h
  rw [gz h1 hk] at h
  by_cases q:l'=kk
  ·subst q
   simp at h
   subst h
   exact⟨v,by simp [SE],h2⟩
  ·simp [q] at h
   obtain⟨u,e1,e2⟩:=Ja hk tl h
   exact⟨u,by rw [<-e1]; simp [SE,QI,q],e2⟩
theorem Bb (hg:Gl X nm) {tab:List (AV×AV)} (T:Hw X.prog X.w X.K X.mg g.toGy nm tab) (hi:PE X i (up g bb)) (hs:DN i) (hd:(nm == ("__debug__":Str))=false:=by decide):PE X (.Subscript (.Name nm p) i pos) (up g (Fi tab bb)):=by
 obtain⟨av,vs,h0,h1,h2⟩:=T
 intro pins s σ H Q I ⟨F,y,ρ,S,σa,k,C,r,h,pp⟩
 refine vj RM.lookup hs (dQ I hg h0 ?_ hd)
 refine bG (hi pins s σ H (λx H1=>∃kk v u,x=kV kk/\SE vs kk=some u/\aP v u/\Q v H1) I (aD C r h λy1 ρ1 S1 H1 ax x st C1 r1 rx hk=>?_)) λiv s1 ⟨x,H1,I1,rx,kk,v,u,ex,e1,ru,q⟩=>?_
 ·split at hk
  ·rename_i q1
   split at hk
   ·rename_i v q2
    obtain⟨kk,hkk,rfl⟩:=RB.dj q1 rx
    obtain⟨u,e1,e2⟩:=Ja hkk h2 q2
    cases v with
    | str j =>
     obtain⟨z,t,e3,rfl⟩:=e2
     exact⟨kk,.str z,_,rfl,e1,⟨t,rfl⟩,pp y1 ρ1 S1 H1 (.str j) _ st C1 ⟨z,e3,rfl⟩ hk⟩
    | ext j =>
     obtain⟨e3,rfl⟩:=e2
     exact⟨kk,.ref (g.fe j),_,rfl,e1,rfl,pp y1 ρ1 S1 H1 (.ext j) _ st C1 (C1.fe j e3).symm hk⟩
    | _=>exact e2.elim
   ·cases hk
  ·cases hk
 ·subst ex
  have dd:=h1 _ I1.kIn
  exact⟨dd.typeIs,Wj (jn rx) dd.mapOf e1 ⟨v,H1,I1.tok _,ru,q⟩⟩
def Hx:List (Option BF)->Nat->Option BF
 | [],_=>none
 | x::r,n=>match n with
  | 0=>x
  | n+1=>Hx r n
def Fj (n:Nat) (fs:List (Option BF)) (a:BE) (r:BA):BE:=λσ S k=>a σ S λx S1=>match x with
 | .ext j=>match Hx fs j with
  | some f=>r σ S1 λxs S2=>bU n f xs S2 k σ.ke
  | none=>false
 | _=>false
end
abbrev N8 (F:Fx) (y:Option Int) (ρ:List Oo) (H:Hp):List (AV×AV)->List (V×V)->Prop:=Paired λp q=>aY F y ρ H p.1 q.1/\aY F y ρ H p.2 q.2
def Of (g:Gx) (b:BP) (σ:L2.St) (H:Hp) (Q:List (V×V)->Hp->Prop):Prop:=∃F y ρ S σa k,aM g F y ρ S H/\bL g F y ρ H σa σ/\b σa S k=true/\∀y' ρ' S' H' aps ps,aE F y ρ H y' ρ' H'->aM g F y' ρ' S' H'->N8 F y' ρ' H' aps ps->k aps S'=true->Q ps H'
def M4 (X:Cx) (g:Gx) (pos:Pos) (keys:List (Option OP)) (values:List OP) (b:BP):Prop:=∃trs,LG X pos keys values trs/\∀σ H Q,Of g b σ H Q->qj trs σ H Q
def mw:List (AV×AV)->Bool
 | []=>true
 | (k,_)::r=>fU k && mw r
def qY (kvs:List (AV×AV)):List (AV×AV)->List (AV×AV)
 | []=>kvs
 | (k,v)::r=>qY (sG kvs k v) r
def Jb (b:BP):BE:=λσ S k=>b σ S λaps S1=>match mw aps && Pg aps.length 15 with
 | true=>k (.ref S1.n) (S1.add (.dk (qY [] aps)))
 | false=>false
section
variable {a b c e o i:OP} {ba bb bc:BE} {bt:BT} {br bk:BA} {s1 s2:BS} {pos p:Pos} {es rest:List OP}
theorem Hy:M4 X g pos [] [] IV:=⟨[],At,λσ H Q ⟨F,y,ρ,S,σa,k,C,r,h,p⟩=>p y ρ S H [] [] .refl C .nil h⟩
theorem qZ {ks:List (Option OP)} {vs:List OP} {bp:BP} (hk:PE X a (up g ba)) (hv:PE X b (up g bb)) (hr:M4 X g pos ks vs bp):M4 X g pos (some a::ks) (b::vs) (vN ba bb bp):=by
 obtain⟨trs,h1,h2⟩:=hr
 refine⟨(up g ba,up g bb)::trs,qo hk hv h1,λσ H Q ⟨F,y,ρ,S,σa,k,C,r,h,p⟩=>?_⟩
 refine aD C r h λy1 ρ1 S1 H1 ax x st C1 r1 rx h1=>aD C1 r1 h1 λy2 ρ2 S2 H2 az z st2 C2 r2 rz h2'=>?_
 refine h2 σ H2 _ ⟨F,y2,ρ2,S2,σa,_,C2,r2,h2',λy3 ρ3 S3 H3 aps ps st3 C3 r3 h3=>?_⟩
 exact p y3 ρ3 S3 H3 ((ax,az)::aps) ((x,z)::ps) ((st.trans st2).trans st3) C3 (.cons ⟨aY.mono (st2.trans st3) rx,aY.mono st3 rz⟩ r3) h3
theorem xM {F:Fx} {y:Option Int} {ρ:List Oo} {H:Hp}:∀{aps:List (AV×AV)} {ps:List (V×V)},N8 F y ρ H aps ps->mw aps=true->∃kvs:List (bv×V),ps=kvs.map (λkv=>(kV kv.1,kv.2))/\Co F y ρ H aps kvs
 | _,_,.nil,_=>⟨[],rfl,.nil⟩
 | (ka,va)::_,(k,v)::_,.cons h t,e=>by
  simp only [mw,OI] at e
  obtain⟨kvs,e1,h1⟩:=xM t e.2
  obtain⟨kk,hk,ek⟩:=RB.dj e.1 h.1
  refine⟨(kk,v)::kvs,?_,.cons ⟨hk,h.2⟩ h1⟩
  rw [OV,<-e1]
  dsimp only at ek
  rw [<-ek]
theorem xN {F:Fx} {y:Option Int} {ρ:List Oo} {H:Hp}:∀{more:List (AV×AV)} {ms:List (bv×V)} {kvs:List (AV×AV)} {ks:List (bv×V)},Co F y ρ H more ms->Co F y ρ H kvs ks->Co F y ρ H (qY kvs more) (dB ks ms)
 | _,_,_,_,.nil,h=>h
 | (k,v)::_,(k',v')::_,kvs,ks,.cons h t,h0=>by
  unfold qY
  show Co F y ρ H _ (dB (cW ks k' v') _)
  exact xN t (pK (KR:=gR) (R:=aY F y ρ H) (λ_ _ _ _ h1 h2=>gz h1 h2) h.1 h.2 h0)
theorem Hz {keys:List (Option OP)} {values:List OP} {bp:BP} (h:M4 X g pos keys values bp) (hall:keys.all (·.isSome)=true) (hl:keys.length=values.length) (h0:keys≠[]) (h15:keys.length≤15):PE X (.Dict keys values pos) (up g (Jb bp)):=by
 obtain⟨trs,h1,h2⟩:=h
 refine PE.imp (λσ H Q ⟨F,y,ρ,S,σa,k,C,r,h,p⟩=>?_) (Au h1 hall hl h0 h15)
 intro D e1
 have o1:¬F.own D:=λw=>C.ol D w e1
 have stA:aE F y ρ H y ρ (upd H D (.dK [])):=aE.lay e1
 refine h2 σ _ _ ⟨F,y,ρ,S,σa,_,C.lay e1,bL.mono stA r,h,λy2 ρ2 S2 H2 aps ps st2 C2 rp hk=>?_⟩
 cases q:mw aps && Pg aps.length 15 with
 | false=>simp only [q] at hk; cases hk
 | true =>
  simp only [q] at hk
  simp only [OI] at q
  have nD:D ∉ ρ:=C.fresh e1
  have hD:H2 D=some (.dK []):=st2.keep D _ aF nD o1
  have nD2:D ∉ ρ2:=λm=>by
   rcases st2.new D m with z | z
   ·exact nD z
   ·rw [aF] at z; cases z
  obtain⟨kvs,rfl,rk⟩:=xM rp q.1
  have hlen:=Pe rk
  refine⟨hD,kvs,rfl,by rw [<-hlen]; exact bD q.2,?_⟩
  have tD:∀b o,H2 b=some o->(∀u,o≠.dK u)->b≠D:=λb o q n w=>by rw [w,hD] at q; cases q; exact n _ rfl
  have stF:aE F y ρ H y2 (ρ2++[D]) (upd H2 D (.dK (dB [] kvs))):=((stA.trans st2).over e1).more e1
  have moF:Mo y2 ρ2 H2 y2 (ρ2++[D]) (upd H2 D (.dK (dB [] kvs))):=⟨λ_ h=>h,λ{i c} h=>by
   rw [PQ (Ow.mp h).1]; exact h,λb vs q=>by rw [ao (tD b _ q λ_ z=>nomatch z)]; exact q⟩
  have rkF:Co F y2 (ρ2++[D]) (upd H2 D (.dK (dB [] kvs))) aps kvs:=a6 (λ_ _ z=>⟨z.1,aY.monoM moF z.2⟩) rk
  have CB:aM g F y2 ρ2 S2 (λb=>if b=D then none else H2 b):=C2.over
   (λb hb=>if_neg λw=>nD2 (by rw [<-w]; exact hb))
   (λb vs q=>(if_neg (tD b _ q λ_ z=>nomatch z)).trans q)
   (λb w=>if_neg λq=>o1 (by rw [<-q]; exact w))
   (λb φ q=>(if_neg (tD b _ q λ_ z=>nomatch z)).trans q)
  have eq:upd (λb=>if b=D then none else H2 b) D (.dK (dB [] kvs))=upd H2 D (.dK (dB [] kvs)):=by
   funext b
   by_cases z:b=D
   ·subst z; rw [aF,aF]
   ·rw [ao z,ao z]; simp [z]
  have CF:=CB.add (p:=D) (o:=.dk (qY [] aps)) (ho:=.dK (dB [] kvs)) (by simp) (by rw [eq]; exact⟨_,rfl,xN rkF .nil⟩)
  rw [eq] at CF
  exact p y2 _ _ _ (.ref S2.n) _ stF CF ⟨D,by rw [C2.n]; simp,rfl⟩ hk
def NO (P:OZ) (w:Pl) (K:Ou) (mg:Str->Option Om) (base:O9) (gy:Gy) (CX:lP) (c:Nat) (x:Str) (k n np:Nat) (ks:List Str) (tpl:List vI) (f:BF):Prop :=
 ∃fa fd ps,ps.length=n/\cr P w K mg base CX k fa fd ps (mY gy n f)/\Mk K (gy.cl c) fa/\mg x=some (.ref (gy.cl c))/\mj K fd ps ks np tpl/\sK tpl
def Fk (c n np nk:Nat) (tpl:List vI) (f:BF) (r kw:BA):BE:=λσ S k=>r σ S λxs S1=>kw σ S1 λzs S2=>match OL (xs.length+1) np && OL zs.length nk with
 | true=>bU n f (.ref S2.n::(xs++o6 zs tpl)) (S2.add (.ins c [])) (λv S3=>match v with
  | .non=>k (.ref S2.n) S3
  | _=>false) σ.ke
 | false=>false
theorem CD {CX:lP} {k np:Nat} {C fa:Oo} {ps ks:List Str} {tpl:List vI} {sp:Sp} {σ:L2.St} {Q:VK} {us ws:List Om} {vs zs:List V} (M:Mk X.K C fa) (F:cr X.prog X.w X.K X.mg X.base CX k fa fd ps sp) (hr:bn (k+1) X.A) (hb:mj X.K fd ps ks np tpl) (ht:sK tpl) (hx:cB CX X g.E)
  (I:aC X pins σ H s) (r:aO vs us) (rz:aO zs ws) (h1:vs.length+1=np) (h2:zs.length=ks.length)
  (h:∀x dx,H x=none->H dx=none->dx≠x->sp (.ref x::(vs++o7 zs tpl)) (upd (upd H dx (.own x)) x (.ins C dx [])) (λv H2=>v=.non/\Q (.ref x) H2) g.E) :
  Ov (OE X.prog X.w) X.A (call (.ref C) us (ks.zip ws)) (EP X pins σ Q) X.xe s:=by
 have hq:=h (s.heap.objs.size+1) s.heap.objs.size (I.hok.fresh (YI _)) (I.hok.fresh (OB _)) (OG (Pj _))
 have I2:=aC.made (C:=C) I
 have r2:aO (V.ref (s.heap.objs.size+1)::(vs++o7 zs tpl)) (OJ (s.heap.objs.size+1)::(us++xu ws tpl)):=.cons rfl (r.append (pP rz ht))
 refine RF (wQ (f:=fa) I.kIn M.makes M.init (beq_iff_eq.mp M.fn) (PZ (F.run _ X.stack _ _ ⟨OJ (s.heap.objs.size+1)::us,ks.zip ws⟩ (OJ (s.heap.objs.size+1)::(us++xu ws tpl)) _ _ g.E (hr.make C us (ks.zip ws))
  (I2.env0.make C us (ks.zip ws)) (hb _ (OJ (s.heap.objs.size+1)::us) ws I2.kIn (by rw [Pw,<-r.length]; exact h1) (by rw [<-rz.length]; exact h2)) r2 hq) λr s' hq'=>?_))
 cases r with
 | error e=>exact hx pins σ _ _ e s' I2 hq'
 | ok fl =>
  cases fl with
  | ret u =>
   obtain⟨v,H',I3,rv,ev,q3⟩:=I2.after hq'
   subst ev
   exact⟨rv,⟨V.ref (s.heap.objs.size+1),H',I3,rfl,q3⟩⟩
  | next=>exact OX hq'
  | brk=>exact OX hq'
  | cont=>exact OX hq'
theorem Fl {CX:lP} {x:Str} {c k n np:Nat} {ks:List Str} {tpl:List vI} {kws:List Se} {f:BF} (hc:c < 2) (M:NO X.prog X.w X.K X.mg X.base g.toGy CX c x k n np ks tpl f) (hr:bn (k+1) X.A) (hx:cB CX X g.E) (ha:PA X (e::es) (hV g br)) (hkw:PK X kws (hV g bk)) (hg:Gl X x:=by nofun) (hdb:(x == ("__debug__":Str))=false:=by decide)
  (hall:(PD pos (O5 kws X.env)).all (·.1.isSome)=true:=by nofun) (hks:(PD pos (O5 kws X.env)).filterMap (·.1)=ks:=by nofun)
  (hst:hE9 X e es:=by nofun)
  (hpl:((Qa pos (OQ (e::es) X.env)).any (·.1) || (PD pos (O5 kws X.env)).any (·.1.isNone))=false:=by nofun):PE X (.Call (.Name x p) (e::es) kws pos) (up g (Fk c n np ks.length tpl f br bk)):=by
 obtain⟨fa,fd,ps,hn,Fn,mk,hm,hb,hk⟩:=M
 intro pins s σ H Q I ⟨F,y,ρ,S,σa,kk,C,r,h,pp⟩
 refine Pk (dQ I hg hm ?_ hdb)
 refine Vk (h₀:=X.base) I.ok.mod.kin mk.kp hall (bG (ha pos pins s σ H (λxs H2=>∃axs y2 ρ2 S2,aE F y ρ H y2 ρ2 H2/\aM g F y2 ρ2 S2 H2/\bL g F y2 ρ2 H2 σa σ/\aZ F y2 ρ2 H2 axs xs /\
   bk σa S2 (λzs S2=>match OL (axs.length+1) np && OL zs.length ks.length with
    | true=>bU n f (.ref S2.n::(axs++o6 zs tpl)) (S2.add (.ins c [])) (λv S3=>match v with
     | .non=>kk (.ref S2.n) S3
     | _=>false) σa.ke
    | false=>false)=true) I (bq C r h λy2 ρ2 S2 H2 axs xs st2 C2 r2 rxs h2=>⟨axs,y2,ρ2,S2,st2,C2,r2,rxs,h2⟩)) λus s2 ⟨vs,H2,I2,rv,axs,y2,ρ2,S2,st2,C2,r2,rxs,h2⟩=>?_) hpl hst
 refine bG (hkw pos pins s2 σ H2 (λzs H3=>zs.length=ks.length/\vs.length+1=np/\∀x dx,H3 x=none->H3 dx=none->dx≠x->mY g.toGy n f (.ref x::(vs++o7 zs tpl)) (upd (upd H3 dx (.own x)) x (.ins (g.cl c) dx [])) (λv H2=>v=.non/\Q (.ref x) H2) g.E) I2 (bq C2 r2 h2 λy3 ρ3 S3 H3 azs zs st3 C3 r3 rzs h3=>?_)) λws s3 ⟨zs,H3,I3,rz,hz,hv,q3⟩=>⟨I3.kIn,?_⟩
 ·cases q:OL (axs.length+1) np && OL azs.length ks.length with
  | false=>simp only [q] at h3; cases h3
  | true =>
   simp only [q] at h3
   simp only [OI] at q
   have e1:=OD q.1
   have e2:=OD q.2
   have l1:=aW rxs
   have l2:=aW rzs
   refine⟨by omega,by omega,λx dx hx' hdx ne=>?_⟩
   have hx2:(upd H3 dx (.own x)) x=none:=by rw [ao (P5 ne)]; exact hx'
   have st4:aE F y3 ρ3 H3 y3 ρ3 (upd H3 dx (.own x)):=aE.lay hdx
   have C4:=C3.lay (o:=.own x) hdx
   have st5:aE F y3 ρ3 (upd H3 dx (.own x)) y3 (ρ3++[x]) (upd (upd H3 dx (.own x)) x (.ins (g.cl c) dx [])):=aE.add hx2
   have C5:=C4.add (o:=.ins c []) (ho:=.ins (g.cl c) dx []) hx2 ⟨dx,[],⟨hc,rfl,λp hp=>(nomatch hp)⟩,.nil⟩
   have oS:=((st2.trans st3).trans st4).trans st5
   have rn:∀{H':Hp},aY F y3 (ρ3++[x]) H' (.ref S3.n) (.ref x):=λ{H'}=>⟨x,by rw [C3.n]; simp,rfl⟩
   have rall:aZ F y3 (ρ3++[x]) (upd (upd H3 dx (.own x)) x (.ins (g.cl c) dx [])) (.ref S3.n::(axs++o6 azs tpl)) (.ref x::(vs++o7 zs tpl)):=.cons rn (dZ (aZ.mono (st3.trans (st4.trans st5)) rxs) (aZ.mono (st4.trans st5) (mi rzs hk)))
   unfold bU at h3
   cases q3:OL (AV.ref S3.n::(axs++o6 azs tpl)).length n with
   | false=>simp only [q3] at h3; cases h3
   | true =>
    simp only [q3] at h3
    refine⟨F,y3,_,_,_,_,σa.ke,C5,rall,by rw [<-Pe rall]; exact OD q3,h3,λy7 ρ7 S7 H7 av v st7 C7 rv7 h7=>?_,r3.e.mono (st4.trans st5)⟩
    cases av with
    | non=>exact⟨rv7,pp y7 ρ7 S7 H7 (.ref S3.n) _ (oS.trans st7) C7 (aY.mono (av:=.ref S3.n) st7 rn) h7⟩
    | _=>cases h7
 ·rw [hks]
  exact CD mk Fn hr hb hk hx I3 rv rz hv hz q3
end
abbrev zI:Pos:=⟨47,44,47,70⟩
abbrev v4:Str:=(("lot_of":Str) ++ ".<locals>.") ++ "<lambda>"
theorem CG {e:OP} {ba:BE} {lp:Pos} {qu:Str} (hP:g.tP=lp) (hQ:g.tQ=qu) (h:PE X e (vt K g.tT lp qu (up g ba))):PE X e (up g (vU ba)):=by
 subst hP hQ
 exact E7 h
theorem HA {x:Str} {c:Oo} {N ps:List Str} {k n:Nat} {b:BS} (d:J0 K mg x st c) (S:al N ps (af st)) (hn:ps.length=n:=by decide) (hN:ps.length≤N.length:=by decide)
  (hb:∀(kV doc pm:Om) (an:Option Oo) (cdv ct:Om) (us:List Om),us.length=ps.length->Sd (Ph x x (bY st) (a9 st) (af st) .none kV doc pm an cdv ct) ⟨us,[]⟩=pure (ps.zip us))
  (hbody:∀(f:Oo) (A:P6) (outer:List Env) (s:Os) (H:Hp) (E:XK),bn k (A.deeper (QT x (af st) s.heap.objs.size f (.ref c)))->gN (ck fR P w K mg base N x (af st) f (.ref c) A outer s H E).nox (a9 st) (c9 ⟨gy,E⟩ b)) :
  j6 P w K mg base gy fR x (k+1) n (cf N.length b):=by
 obtain⟨f,oc,od,kV,doc,pm,an,ct,osl,lk,hcd,kp,hm⟩:=d
 refine⟨f,_,ps,hn,DH lk hcd S (λvs H Q E h=>?_) λA outer s H vs Q E hr hsp=>?_,hm,kp,.all (hb kV doc pm an (.ref c) ct)⟩
 ·obtain⟨_,_,_,_,_,_,_,_,_,hl,_⟩:=h
  rw [hl,hn]
 ·obtain⟨t,h,q⟩:=qN (CX:=fR) (A:=A) (outer:=outer) (s:=s) hN hn hsp (hbody f A outer s H E hr)
  exact⟨t,h.nox,q⟩
structure je (K:Ou) (gy:Gy):Prop where
 cls:∀c,c < 2->mX K (gy.cl c)
 na_files:∀c,c < 2->cq K (gy.cl c) "files"
 na_fair:∀c,c < 2->cq K (gy.cl c) "fair"
 na_given:∀c,c < 2->cq K (gy.cl c) "given"
 na_leads:∀c,c < 2->cq K (gy.cl c) "leads"
 na_opened:∀c,c < 2->cq K (gy.cl c) "opened"
 na_held:∀c,c < 2->cq K (gy.cl c) "held"
 na_whole:∀c,c < 2->cq K (gy.cl c) "whole"
 na_waiting:∀c,c < 2->cq K (gy.cl c) "waiting"
 na_asleep:∀c,c < 2->cq K (gy.cl c) "asleep"
 na_outcomes:∀c,c < 2->cq K (gy.cl c) "outcomes"
 na_changes:∀c,c < 2->cq K (gy.cl c) "changes"
 na_tables:∀c,c < 2->cq K (gy.cl c) "tables"
 na_past:∀c,c < 2->cq K (gy.cl c) "past"
 na_future:∀c,c < 2->cq K (gy.cl c) "future"
theorem je.c0 (G:je K gy):mX K (gy.cl 0):=G.cls 0 (by decide)
theorem je.c1 (G:je K gy):mX K (gy.cl 1):=G.cls 1 (by decide)
def uS:List Nat:=[63,2]
def oz:List Nat:=[66,45]
def uT:List Nat:=[61,78,15]
def iY:List (AV×AV):=[(.str 63,.str 78),(.str 2,.str 61)]
def uU:List (AV×AV):=[(.str 13,.ext 0),(.str 6,.ext 1),(.str 25,.ext 2),(.str 20,.ext 3),(.str 32,.ext 4),(.str 26,.ext 5),(.str 42,.ext 6),(.str 71,.ext 7),(.str 17,.ext 8),(.str 43,.ext 9),(.str 72,.ext 10)]
structure Og (P:OZ) (w:Pl) (K:Ou) (mg:Str->Option Om) (gy:Gy):Prop where
 g_KINDS:Fg K mg "KINDS" uS
 g_HOLDERS:Fg K mg "HOLDERS" oz
 g_MODES:Fg K mg "MODES" uT
 g_WRONG_MODES:Hw P w K mg gy "WRONG_MODES" iY
 g_DEEDS:Hw P w K mg gy "DEEDS" uU
section
variable {h:O9}
theorem aJ {x:Str} {f:Oo} {oc:Om} {od an:Option Oo} {kV doc pm cdv ct:Om} (X:K.In h) (G:h.Ns O0 mg)
  (a:Tg K O0 x=some (some (.ref f))) (l:K.lookup f=some ⟨oc,od,.func (Ph x x (bY st) (a9 st) (af st) .none kV doc pm an cdv ct),osl⟩) (c:Qh K cdv x=true) (k:O3 K (.ref f)=true):cU K mg x st :=
 ⟨f,_,qt l c k,Pm X G a⟩
theorem HB {x:Str} {f cc:Oo} {oc:Om} {od an:Option Oo} {kV doc pm ct:Om} (X:K.In h) (G:h.Ns O0 mg)
  (a:Tg K O0 x=some (some (.ref f))) (l:K.lookup f=some ⟨oc,od,.func (Ph x x (bY st) (a9 st) (af st) .none kV doc pm an (.ref cc) ct),osl⟩) (c:Qh K (.ref cc) x=true) (k:O3 K (.ref f)=true):J0 K mg x st cc :=
 ⟨f,oc,od,kV,doc,pm,an,ct,osl,l,c,k,Pm X G a⟩
theorem HC {cc T:Oo} (hd:SB K cc T=true) (n4:O0≠T):LN K mg cc T :=
 ⟨λh' X'=>Vi X' hd,n4⟩
def sv (K:Ou) (C:Oo) (m qual:Str) (st:Rf):Prop:=∃f fd,Fun K m qual st f fd/\oU K C m f
theorem c7 {C f:Oo} {m qual:Str} {oc:Om} {od an:Option Oo} {kV doc pm cdv ct:Om} (b:Pq K (.ref C) m=some (some (.ref f)))
  (l:K.lookup f=some ⟨oc,od,.func (Ph m qual (bY st) (a9 st) (af st) .none kV doc pm an cdv ct),osl⟩) (c:Qh K cdv qual=true) (k:O3 K (.ref f)=true) (fn:Sc K (.ref f)=true):sv K C m qual st :=
 ⟨f,_,qt l c k,b,fn,k⟩
def zJ (K:Ou) (C:Oo) (m qual:Str) (st:Rf) (es:Array Q4):Prop :=
 ∃(f ka:Oo) (doc pm:Om) (an:Option Oo) (cdv ct kc:Om) (kd:Option Oo) (ep:Nat) (ks:Array (Option Om)),Fun K m qual st f (Ph m qual (bY st) (a9 st) (af st) .none (.ref ka) doc pm an cdv ct)/\oU K C m f/\K.lookup ka=some ⟨kc,kd,.dict es ep,ks⟩
theorem Bc {C f ka:Oo} {m qual:Str} {es:Array Q4} {oc kc:Om} {od an kd:Option Oo} {osl ks:Array (Option Om)} {doc pm cdv ct:Om} {ep:Nat} (b:Pq K (.ref C) m=some (some (.ref f)))
  (l:K.lookup f=some ⟨oc,od,.func (Ph m qual (bY st) (a9 st) (af st) .none (.ref ka) doc pm an cdv ct),osl⟩) (c:Qh K cdv qual=true) (k:O3 K (.ref f)=true) (fn:Sc K (.ref f)=true) (n:K.lookup ka=some ⟨kc,kd,.dict es ep,ks⟩):zJ K C m qual st es :=
 ⟨f,ka,doc,pm,an,cdv,ct,kc,kd,ep,ks,qt l c k,⟨b,fn,k⟩,n⟩
theorem CH {α:Type} {S:Setting} {a:Oo} {r:Option Om} {o:Obj} {k:Obj->Sem α} (h:K.lookup a=some o):V9 K S (.load a r k)=V9 K S (k o):=by
 rw [V9,h]
def L4 (K:Ou) (C:Oo) (qual:Str) (st:Rf):Prop:=∃f fd,Fun K "__init__" qual st f fd/\Mk K C f
theorem Fm {C f:Oo} {qual:Str} {oc:Om} {od an:Option Oo} {kV doc pm cdv ct:Om} (mk:Uy K C=true) (b:Pq K (.ref C) "__init__" = some (some (.ref f)))
  (l:K.lookup f=some ⟨oc,od,.func (Ph "__init__" qual (bY st) (a9 st) (af st) .none kV doc pm an cdv ct),osl⟩) (c:Qh K cdv qual=true) (k:O3 K (.ref f)=true) (fn:Sc K (.ref f)=true) (kc:O3 K (.ref C)=true):L4 K C qual st :=
 ⟨f,_,qt l c k,mk,b,fn,kc⟩
theorem v5 {nm:Str} {a:Oo} {oc:Om} {od:Option Oo} {its:Array Om} {n:Nat} {tab:List Nat} (X:K.In h) (G:h.Ns O0 mg) (e:Tg K O0 nm=some (some (.ref a))) (l:K.lookup a=some ⟨oc,od,.seq its n,osl⟩) (hc:oc=.type "tuple") (hs:its.size≤OA)
  (p:Paired (λi u=>∃x t,bh[i]?=some x/\u=.str x t) tab its.toList):Fg K mg nm tab:=⟨a,_,its,n,Pm X G e,l,hc,rfl,hs,p⟩
theorem uV {α β γ:Type} {R:α->γ->Prop} {f:β->γ}:∀{xs:List α} {ys:List β},Paired (λp q=>R p (f q)) xs ys->Paired R xs (ys.map f)
 | _,_,.nil=>.nil
 | _,_,.cons h t=>.cons h (uV t)
abbrev KB (w:Pl) (x:Str) (t:Tok) (v:Om):Q4:=⟨Ld w (.inr x),.str x t,v⟩
theorem Fp {es:List (Str×Tok×Om)}:KeysOf (aV P w) ((es.map λe=>KB w e.1 e.2.1 e.2.2).toArray):=by
 intro e he
 simp only [List.mem_toArray,RK] at he
 obtain⟨⟨x,t,v⟩,_,rfl⟩:=he
 exact⟨.inr x,ji P w x t,rfl⟩
theorem uW {P:OZ} {w:Pl}:∀es:List (Str×Tok×Om),Pairs (aV P w) (es.map λe=>KB w e.1 e.2.1 e.2.2) (es.map λe=>((.inr e.1:bv),e.2.2))
 | []=>.nil
 | (x,t,v)::r=>.cons (ji P w x t) rfl (uW r)
theorem Be {nm:Str} {a:Oo} {es:List (Str×Tok×Om)} {n:Nat} {tab:List (AV×AV)} {o:Obj} (X:K.In h) (G:h.Ns O0 mg) (e:Tg K O0 nm=some (some (.ref a))) (l:K.lookup a=some o)
  (eo:o=⟨.type "dict",none,.dict ((es.map λe=>KB w e.1 e.2.1 e.2.2).toArray) n,#[]⟩) (nd:(es.map (·.1)).Nodup)
  (p:Paired (λ(p:AV×AV) (q:Str×Tok×Om)=>gR p.1 (.inr q.1)/\Hv gy p.2 q.2.2) tab es):Hw P w K mg gy nm tab:=by
 refine⟨a,es.map λe=>((.inr e.1:bv),e.2.2),Pm X G e,λh' X'=>⟨o,_,n,X' _ _ l,?_,by rw [eo],Fp,by simpa using uW es,?_⟩,?_⟩
 ·rw [eo]; exact⟨rfl,rfl,rfl⟩
 ·rw [Te]
  have:((λe:bv×Om=>e.1)∘λe:Str×Tok×Om=>((.inr e.1:bv),e.2.2))=λe=>(.inr e.1:bv):=rfl
  rw [this]
  have h2:(es.map λe=>(.inr e.1:bv))=(es.map (·.1)).map Rz:=by rw [Te]; rfl
  rw [h2]
  exact T0.mpr (ZG (λh w=>h (YC w)) nd)
 ·exact uV p
end
abbrev o9 (ns:List (Str×QS)):Pp:={ kind:=.function,names:=(".0",.local)::ns,isGenerator:=false,isCoroutine:=false,more:=[] }
@[reducible] def bI (n:Int):BE:=bC (.int false n n)
section
theorem b0 {F:List Om->Prop} (h:F []):∀us,us.length=0->F us:=λus e=>by
 cases us with
 | nil=>exact h
 | cons=>cases e
theorem bs {n:Nat} {F:List Om->Prop} (h:∀a us,us.length=n->F (a::us)):∀us,us.length=n+1->F us:=λus e=>by
 cases us with
 | nil=>cases e
 | cons a us=>exact h a us (Nat.succ.inj e)
theorem b1 {F:List Om->Prop} (h:∀a,F [a]):∀us,us.length=1->F us:=bs λa=>b0 (h a)
theorem b2 {F:List Om->Prop} (h:∀a b,F [a,b]):∀us,us.length=2->F us:=bs λa=>b1 (h a)
theorem b3 {F:List Om->Prop} (h:∀a b c,F [a,b,c]):∀us,us.length=3->F us:=bs λa=>b2 (h a)
theorem b4 {F:List Om->Prop} (h:∀a b c d,F [a,b,c,d]):∀us,us.length=4->F us:=bs λa=>b3 (h a)
theorem b5 {F:List Om->Prop} (h:∀a b c d e,F [a,b,c,d,e]):∀us,us.length=5->F us:=bs λa=>b4 (h a)
theorem b6 {F:List Om->Prop} (h:∀a b c d e f,F [a,b,c,d,e,f]):∀us,us.length=6->F us:=bs λa=>b5 (h a)
theorem b7 {F:List Om->Prop} (h:∀a b c d e f g,F [a,b,c,d,e,f,g]):∀us,us.length=7->F us:=bs λa=>b6 (h a)
theorem cC {N ps:List Str} {sc:Pp} (S:al N ps sc:=by exact⟨rfl,rfl,rfl,by decide +kernel,rfl,by decide +kernel,by decide +kernel⟩):al N ps sc:=S
theorem pf {sc lc:Pp} {N Nc:List Str} (S:aR sc N lc Nc ix:=by exact⟨rfl,by decide +kernel,by decide +kernel,by decide +kernel,by decide +kernel,rfl,by decide +kernel⟩):aR sc N lc Nc ix:=S
abbrev Lb (P:OZ) (w:Pl) (K:Ou) (mg:Str->Option Om) (base:O9) (gy:Gy) (N:List Str) (x:Str) (st:Rf) (k:Nat) (b:BS) (f:Oo):Prop:=∀{cdv:Om} {A:P6} {outer:List Env} {s:Os} {H:Hp} {E:XK},bn k (A.deeper (QT x (af st) s.heap.objs.size f cdv))->(A.deeper (QT x (af st) s.heap.objs.size f cdv)).units+1 < Qf ->
 gN (ck fR P w K mg base N x (af st) f cdv A outer s H E).nox (a9 st) (c9 ⟨gy,E⟩ b)
abbrev Lc (x q:Str) (st:Rf) (ps:List Str):Prop:=∀us:List Om,us.length=ps.length->∀{kV doc pm:Om} {an:Option Oo} {cdv ct:Om},Sd (Ph x q (bY st) (a9 st) (af st) .none kV doc pm an cdv ct) ⟨us,[]⟩=pure (ps.zip us)
abbrev KC (x q:Str) (st:Rf) (ps ks:List Str) (np:Nat) (tpl:List vI):Prop:=∀us:List Om,us.length=np->∀ws:List Om,ws.length=ks.length->∀{kV doc pm:Om} {an:Option Oo} {cdv ct:Om},Sd (Ph x q (bY st) (a9 st) (af st) .none kV doc pm an cdv ct) ⟨us,ks.zip ws⟩=pure (ps.zip (us++xu ws tpl))
theorem bM {x:Str} {N ps:List Str} {k n:Nat} {b:BS} (d:cU K mg x st) (S:al N ps (af st)) (hb:Lc x x st ps) (hbody:∀{f},Lb P w K mg base gy N x st k b f) (hn:ps.length=n:=by decide) (hN:ps.length≤N.length:=by decide) :
  j6 P w K mg base gy fR x (k+1) n (cf N.length b):=Kk d S hn hN (λ_ _ _ _ _ _ us h=>hb us h) λf cdv A outer s H E hr=>hbody hr (di hr)
theorem CI {x q:Str} {N ps:List Str} {k n:Nat} {b:BS} {fa:Oo} (F:Fun K x q st fa fd) (S:al N ps (af st)) (hbody:Lb P w K mg base gy N q st k b fa) (hn:ps.length=n:=by decide) (hN:ps.length≤N.length:=by decide) :
  cr P w K mg base fR (k+1) fa fd ps (mY gy n (cf N.length b)):=Kn F S hn hN λcdv A outer s H E hr=>hbody hr (di hr)
theorem rf {c:Nat} {x q:Str} {N ps:List Str} {k n:Nat} {b:BS} (D:sv K (gy.cl c) x q st) (S:al N ps (af st)) (hb:Lc x q st ps) (hbody:∀{f},Lb P w K mg base gy N q st k b f) (hn:ps.length=n:=by decide) (hN:ps.length≤N.length:=by decide) :
  nB P w K mg base gy fR c x (k+1) n [] (cf N.length b):=by
 obtain⟨f,fd,F,me⟩:=D
 exact⟨f,fd,ps,[],[],hn,CI F S hbody hn hN,me,F.binds λ_ _ _ _ _ _ us h=>hb us h,.nil,λ_ _ _ _=>.nil⟩
theorem _root_.L2.Fun.kwbinds {x qual:Str} {f:Oo} {ps ks:List Str} {np:Nat} {tpl:List vI} (F:Fun K x qual st f fd) (h:KC x qual st ps ks np tpl):mj K fd ps ks np tpl:=by
 obtain⟨oc,od,kV,doc,pm,an,cdv,ct,osl,rfl,lk,hcd⟩:=F.ex
 exact λs us ws _ hu hw=>.of_eq (h us hu ws hw)
theorem Jc {c:Nat} {x q:Str} {N ps ks:List Str} {np:Nat} {tpl:List vI} {k n:Nat} {b:BS} (D:sv K (gy.cl c) x q st) (S:al N ps (af st)) (hb:KC x q st ps ks np tpl) (ht:sK tpl) (hbody:∀{f},Lb P w K mg base gy N q st k b f) (hn:ps.length=n:=by decide) (hN:ps.length≤N.length:=by decide) :
  ED P w K mg base gy fR c x (k+1) n np ks tpl (cf N.length b):=by
 obtain⟨f,fd,F,me⟩:=D
 exact⟨f,fd,ps,hn,CI F S hbody hn hN,me,F.kwbinds hb,ht⟩
theorem NP {c:Nat} {x q:Str} {N ps:List Str} {k n:Nat} {b:BS} (D:L4 K (gy.cl c) q st) (hm:mg x=some (.ref (gy.cl c))) (S:al N ps (af st)) (hb:Lc "__init__" q st ps) (hbody:∀{f},Lb P w K mg base gy N q st k b f) (hn:ps.length=n:=by decide) (hN:ps.length≤N.length:=by decide) :
  NJ P w K mg base gy fR c x (k+1) n (cf N.length b):=by
 obtain⟨f,fd,F,mk⟩:=D
 exact⟨f,fd,ps,hn,CI F S hbody hn hN,mk,hm,F.binds λ_ _ _ _ _ _ us h=>hb us h⟩
theorem L5 {c:Nat} {x q:Str} {N ps ks:List Str} {np:Nat} {tpl:List vI} {k n:Nat} {b:BS} (D:L4 K (gy.cl c) q st) (hm:mg x=some (.ref (gy.cl c))) (S:al N ps (af st)) (hb:KC "__init__" q st ps ks np tpl) (ht:sK tpl) (hbody:∀{f},Lb P w K mg base gy N q st k b f) (hn:ps.length=n:=by decide) (hN:ps.length≤N.length:=by decide) :
  NO P w K mg base gy fR c x (k+1) n np ks tpl (cf N.length b):=by
 obtain⟨f,fd,F,mk⟩:=D
 exact⟨f,fd,ps,hn,CI F S hbody hn hN,mk,hm,F.kwbinds hb,ht⟩
end
section
variable {a b c e o:OP} {ba bb bc be:BE} {br:BA} {pos p:Pos} {x m:Str} {k n k':Nat} {f:BF}
theorem uv (i:Nat) (hN:X.N[i]?=some x:=by nofun) (hv:Lf X.env.scope x:=by with_unfolding_all (first | exact TB rfl | exact US (TB rfl) | exact US (US rfl))) (hd:(x == ("__debug__":Str))=false:=by decide) (hcd:(x == ("__classdict__":Str))=false:=by decide):PE X (.Name x pos) (up g (ae i)):=J2 i (pv i hN hv hd hcd)
theorem uc (c:j6 X.prog X.w X.K X.mg X.base g.toGy fR x k n f) (hr:bn k' X.A) (ha:PA X (e::es) (hV g br)) (hk:k≤k':=by decide) (hg:Gl X x:=by nofun) (hdb:(x == ("__debug__":Str))=false:=by decide)
  (he:hE9 X e es:=by nofun) (hpl:hP9 X pos es:=by nofun):PE X (.Call (.Name x p) (e::es) [] pos) (up g (aH (bU n f) br)):=Kl c (hr.mono hk) gU ha hg hdb he hpl
theorem um {pl:Sem Bool} {apos:Pos} {c:Nat} {dA:List AV} (M:nB X.prog X.w X.K X.mg X.base g.toGy fR c m k n dA f) (hc:mX X.K (g.cl c)) (hr:bn k' X.A) (ho:PE X o (up g ba)) (ha:PA X (e::es) (hV g br)) (hk:k≤k':=by decide) (hm:∀i∈j0,bh[i]?≠some m:=by decide +kernel)
  (hst:hE9 X e es:=by nofun) (hpl:hP9 X pos es:=by nofun)
  (ht:O2 (.Call (.Attribute o m apos) (e::es) [] pos) X.env=(do
   let ov <-O2 o X.env
   QL apos.atName
   let (f,first) <-Ra [ov] (QA ov m pl)
   Rk pos f first (Qa pos (OQ (e::es) X.env)) (PD pos (O5 [] X.env))):=by nofun) :
  PE X (.Call (.Attribute o m apos) (e::es) [] pos) (up g (bd c n dA f ba br)):=AW M hc hm (hr.mono hk) gU ho ha hst hpl ht
theorem ug (i:Nat) (hN:X.N.Nodup) (hi:X.N[i]?=some x:=by nofun) (hx:L2.eg X.env.scope x:=by with_unfolding_all (first | exact TB rfl | exact US rfl)) (hf:X.fn x=true∨X.env.scope.names.lookup x=some .local:=by with_unfolding_all (first | exact .inl rfl | exact .inr rfl | assumption)):PG X (.Name x pos) (qG g [i] (ai i)):=G3 i (Gs hN hi hx hf)
theorem ua {pos':Pos} (i:Nat) (hN:X.N.Nodup) (he:PE X e (up g be)) (hi:X.N[i]?=some x:=by nofun) (hx:L2.eg X.env.scope x:=by with_unfolding_all (first | exact TB rfl | exact US rfl)) (hs:PJ e (some (.Name x pos')) pos.line X.env=pure false:=by nofun) (hf:X.fn x=true∨X.env.scope.names.lookup x=some .local:=by with_unfolding_all (first | exact .inl rfl | exact .inr rfl | assumption)) :
  PS X (.Assign [.Name x pos'] e pos) (c9 g (aX be (ai i))):=J5 i (iy hN hi hx he hs hf)
theorem Fq (G:je X.K g.toGy) (he:PE X e (up g ba)) (hb:OW e "files" X.env (O2 e X.env)=O2 e X.env:=by nofun):PE X (.Attribute e "files" pos) (up g (aT 31 ba)):=eS 31 (by decide +kernel) G.cls G.na_files he hb
theorem HE (G:je X.K g.toGy) (he:PE X e (up g ba)) (hb:OW e "fair" X.env (O2 e X.env)=O2 e X.env:=by nofun):PE X (.Attribute e "fair" pos) (up g (aT 29 ba)):=eS 29 (by decide +kernel) G.cls G.na_fair he hb
theorem rg (G:je X.K g.toGy) (he:PE X e (up g ba)) (hb:OW e "given" X.env (O2 e X.env)=O2 e X.env:=by nofun):PE X (.Attribute e "given" pos) (up g (aT 35 ba)):=eS 35 (by decide +kernel) G.cls G.na_given he hb
theorem c8 (G:je X.K g.toGy) (he:PE X e (up g ba)) (hb:OW e "leads" X.env (O2 e X.env)=O2 e X.env:=by nofun):PE X (.Attribute e "leads" pos) (up g (aT 41 ba)):=eS 41 (by decide +kernel) G.cls G.na_leads he hb
theorem cx (G:je X.K g.toGy) (he:PE X e (up g ba)) (hb:OW e "opened" X.env (O2 e X.env)=O2 e X.env:=by nofun):PE X (.Attribute e "opened" pos) (up g (aT 54 ba)):=eS 54 (by decide +kernel) G.cls G.na_opened he hb
theorem gC (G:je X.K g.toGy) (he:PE X e (up g ba)) (hb:OW e "held" X.env (O2 e X.env)=O2 e X.env:=by nofun):PE X (.Attribute e "held" pos) (up g (aT 38 ba)):=eS 38 (by decide +kernel) G.cls G.na_held he hb
theorem jx (G:je X.K g.toGy) (he:PE X e (up g ba)) (hb:OW e "whole" X.env (O2 e X.env)=O2 e X.env:=by nofun):PE X (.Attribute e "whole" pos) (up g (aT 75 ba)):=eS 75 (by decide +kernel) G.cls G.na_whole he hb
theorem bK (G:je X.K g.toGy) (he:PE X e (up g ba)) (hb:OW e "waiting" X.env (O2 e X.env)=O2 e X.env:=by nofun):PE X (.Attribute e "waiting" pos) (up g (aT 73 ba)):=eS 73 (by decide +kernel) G.cls G.na_waiting he hb
theorem dM (G:je X.K g.toGy) (he:PE X e (up g ba)) (hb:OW e "asleep" X.env (O2 e X.env)=O2 e X.env:=by nofun):PE X (.Attribute e "asleep" pos) (up g (aT 5 ba)):=eS 5 (by decide +kernel) G.cls G.na_asleep he hb
theorem jy (G:je X.K g.toGy) (he:PE X e (up g ba)) (hb:OW e "outcomes" X.env (O2 e X.env)=O2 e X.env:=by nofun):PE X (.Attribute e "outcomes" pos) (up g (aT 56 ba)):=eS 56 (by decide +kernel) G.cls G.na_outcomes he hb
theorem iK (G:je X.K g.toGy) (he:PE X e (up g ba)) (hb:OW e "changes" X.env (O2 e X.env)=O2 e X.env:=by nofun):PE X (.Attribute e "changes" pos) (up g (aT 19 ba)):=eS 19 (by decide +kernel) G.cls G.na_changes he hb
theorem cJ (G:je X.K g.toGy) (he:PE X e (up g ba)) (hb:OW e "tables" X.env (O2 e X.env)=O2 e X.env:=by nofun):PE X (.Attribute e "tables" pos) (up g (aT 65 ba)):=eS 65 (by decide +kernel) G.cls G.na_tables he hb
theorem HF (G:je X.K g.toGy) (he:PE X e (up g ba)) (hb:OW e "past" X.env (O2 e X.env)=O2 e X.env:=by nofun):PE X (.Attribute e "past" pos) (up g (aT 57 ba)):=eS 57 (by decide +kernel) G.cls G.na_past he hb
end
end RB
namespace L2
open PySem PySem.Spec PyProof.Rows
def xO (h0:O9) (H:Hp) (e:Oo) (C fl:Om) (h:O9):Prop :=
 h0.get? e=none/\H e=none/\∃oe vs T oT ts a0,h.get? e=some oe/\oe.cls=C/\vs[0]?=some a0/\oe.data=.fields vs/\vs[1]?=some (.ref T) /\
  h0.get? T=none/\H T=none/\T≠e/\h.get? T=some oT/\oT.data=.fields ts/\ts[3]?=some fl
structure L6 (h0:O9) (H:Hp) (l:List Env) (e:Oo) (C fl:Om) (h h':O9):Prop where
 keep:∀x o,h.get? x=some o->(h0.get? x≠none∨H x≠none)->x ∉ iU l->h'.get? x=some o
 slot:∀x o,h.get? x=some o->x∈iU l->∃sl,h'.get? x=some { o with slots:=sl }
 flew:xO h0 H e C fl h'
section
variable {M:W0} {h0 base:O9} {env:Env} {outer l:List Env} {L e:Oo} {C fl:Om}
theorem KD {h:O9} {x:Oo} {o:Obj} {vs:Array Om} (hl:h.FunFrames base l) (hx:x∈iU l) (e:h.get? x=some o) (d:o.data=.fields vs):False:=by
 obtain⟨_,o',e',n⟩:=hl.mem hx
 rw [e] at e'; cases e'
 exact n vs d
theorem Fs {h h' b:O9} {T a0:Oo} {av:Om} {fl':Om} (hl:h.FunFrames base l) (th:∀x o,h0.get? x=some o->∃o',h.get? x=some o') (tr:∀x,H x≠none->∃o,h.get? x=some o)
  (he0:h0.get? e=none) (heH:H e=none) (hT0:h0.get? T=none) (hTH:H T=none) (hb:b=Pn h (e::T::iU l))
  (k1:b.StaysIn h') (k2:h.UpToSlots h') (k3:h'.TracedAtW b e C av fl'):L6 h0 H l e C fl' h h':=by
 subst hb
 refine⟨λx o q n nf=>?_,λx o q m=>?_,he0,heH,?_⟩
 ·refine k1 x o (QJ _ q λm=>?_)
  rcases ON.mp m with z | m
  ·subst z; rcases n with n | n
   ·exact n he0
   ·exact n heH
  ·rcases ON.mp m with z | m
   ·subst z; rcases n with n | n
    ·exact n hT0
    ·exact n hTH
   ·exact nf m
 ·obtain⟨_,o',e',n⟩:=hl.mem m
  rw [q] at e'; cases e'
  exact k2 x o q n
 ·obtain⟨oe,vs,T',oT,ts,q1,⟨q2,q3⟩,q4,q5,q6,q7,q8,q9,q10⟩:=k3
  have fz:h0.get? T'=none/\H T'=none:=by
   cases z:h.get? T' with
   | none =>
    refine⟨?_,?_⟩
    ·cases y:h0.get? T' with
     | none=>rfl
     | some o=>obtain⟨o',z'⟩:=th T' o y; rw [z] at z'; cases z'
    ·cases y:H T' with
     | none=>rfl
     | some o=>obtain⟨o',z'⟩:=tr T' (by rw [y]; simp); rw [z] at z'; cases z'
   | some o =>
    by_cases m:T'∈e::T::iU l
    ·rcases ON.mp m with w | m
     ·exact absurd w q7
     ·rcases ON.mp m with w | m
      ·rw [w]; exact⟨hT0,hTH⟩
      ·exfalso
       obtain⟨_,o',e',n⟩:=hl.mem m
       obtain⟨sl,e2⟩:=k2 T' o' e' n
       rw [q8] at e2; cases e2
       exact n ts q9
    ·rw [QJ _ z m] at q6; cases q6
  exact⟨oe,vs,T',oT,ts,av,q1,q2,q3,q4,q5,fz.1,fz.2,q7,q8,q9,q10⟩
theorem lr {h:O9} {as:List Oo} (hl:h.FunFrames base l) (hs:∀x∈iU l,x∈as):h.FunFrames (Pn h as) l :=
 PySem.W.funFrames_hide hl λenv hm a ha=>hs a (Tp.mpr ⟨env,hm,ha⟩)
theorem KF {Q:Unit->Os->Prop} (hfr:A.frames=some (env::outer)) (hf:env.frame=some L) (hl:s.heap.FunFrames base (env::outer)) (th:∀x o,h0.get? x=some o->∃o',s.heap.get? x=some o') (tr:∀x,H x≠none->∃o,s.heap.get? x=some o)
  (F:xO h0 H e C .none s.heap) (hQ:∀h',L6 h0 H (env::outer) e C .none s.heap h'->Q () { s with heap:=h' }):Ov M A (WW env (.ref e)) Q E s:=by
 obtain⟨he0,heH,oe,vs,T,oT,ts,a0,q1,q2,q3,q4,q5,q6,q7,q8,q9,q10,q11⟩:=F
 refine wpAny_leaving_nextW (base:=Pn s.heap (e::T::iU (env::outer))) (cls:=C) (a0:=a0) hfr (lr hl λx hx=>OF _ (OF _ hx)) hf
  ⟨oe,vs,T,oT,ts,q1,⟨q2,q3⟩,q4,q5,P2 _ (by simp),q8,q9,q10,q11⟩ (λb o z=>Qn _ z) (P2 _ (by simp)) λh' ⟨k1,_,k3,k4⟩=>?_
 exact hQ h' (Fs (a0:=0) hl th tr he0 heH q6 q7 rfl k1 k4 k3)
theorem CJ {h1:O9} {args:List Om} {Q:Unit->Os->Prop} (hfr:A.frames=some (env::outer)) (hf:env.frame=some L) (hl:h1.FunFrames base (env::outer)) (th:∀x o,h0.get? x=some o->∃o',h1.get? x=some o') (tr:∀x,H x≠none->∃o,h1.get? x=some o)
  (hx:U2 h1 s.heap e C args) (hQ:∀h',L6 h0 H (env::outer) e C .none h1 h'->Q () { s with heap:=h' }):Ov M A (WW env (.ref e)) Q E s:=by
 have fr:∀x,h1.get? x=none->h0.get? x=none/\H x=none:=λx z=>by
  refine⟨?_,?_⟩
  ·cases y:h0.get? x with
   | none=>rfl
   | some o=>obtain⟨o',z'⟩:=th x o y; rw [z] at z'; cases z'
  ·cases y:H x with
   | none=>rfl
   | some o=>obtain⟨o',z'⟩:=tr x (by rw [y]; simp); rw [z] at z'; cases z'
 refine wpAny_leaves_madeW (base:=Pn h1 (iU (env::outer))) hfr hf (λb o z=>Qn _ z) (lr hl λx hx=>hx) hx λh' t fl _ _ ups=>hQ h' ?_
 obtain⟨k1,k2,k3,oe,vs,T',oT,ts,q1,⟨q2,q3⟩,q4,q5,q6,q7,q8,q9,q10⟩:=fl
 refine⟨λx o q n nf=>k1 x o (QJ _ q nf),λx o q m=>?_,(fr e hx.new).1,(fr e hx.new).2,?_⟩
 ·obtain⟨_,o',e',n⟩:=hl.mem m
  rw [q] at e'; cases e'
  exact ups x o (hx.keeps x o q) n
 ·have fz:h0.get? T'=none/\H T'=none:=by
   cases z:h1.get? T' with
   | none=>exact fr T' z
   | some o =>
    by_cases m:T'∈iU (env::outer)
    ·exfalso
     obtain⟨_,o',e',n⟩:=hl.mem m
     obtain⟨sl,e2⟩:=ups T' o' (hx.keeps _ _ e') n
     rw [q8] at e2; cases e2
     exact n ts q9
    ·rw [QJ _ z m] at q6; cases q6
  exact⟨oe,vs,T',oT,ts,_,q1,q2,q3,q4,q5,fz.1,fz.2,q7,q8,q9,q10⟩
theorem xO.back {h0 h1 h:O9} (F:xO h1 H e C fl h) (th:∀x o,h0.get? x=some o->∃o',h1.get? x=some o'):xO h0 H e C fl h:=by
 have fr:∀x,h1.get? x=none->h0.get? x=none:=λx z=>by
  cases y:h0.get? x with
  | none=>rfl
  | some o=>obtain⟨o',z'⟩:=th x o y; rw [z] at z'; cases z'
 obtain⟨a,b,oe,vs,T,oT,ts,a0,q1,q2,q3,q4,q5,q6,r⟩:=F
 exact⟨fr _ a,b,oe,vs,T,oT,ts,a0,q1,q2,q3,q4,q5,fr _ q6,r⟩
end
def eB (P:OZ) (w:Pl):lP:=λouter H s E ev s'=>∃e C H',ev=.ref e/\s'.os=s.os/\SD s'.gens/\Un (iU outer) [] H H' s.heap s'.heap/\iT P w H' s'.heap/\xO s.heap H' e C .none s'.heap/\E C none H'
section
variable {e:Oo} {C fl:Om} {h':O9}
theorem aC.tracked (J:aC X pins σ H s):∀x,H x≠none->∃o,s.heap.get? x=some o:=λx n=>by
 cases q:H x with
 | none=>exact absurd q n
 | some o=>exact (J.hok x o q).some
theorem aC.aft (J:aC X pins σ H s) (hx:X.ex=[]) (a:L6 X.s₀.heap H X.stack e C fl s.heap h'):Un X.fs [] X.H₀ H X.s₀.heap h'/\iT X.prog X.w H h':=by
 have ne:∀b,b ∉ X.ex:=λb=>by rw [hx]; simp
 have nl:∀b o,X.s₀.heap.get? b=some o->b ∉ X.fs->b ∉ iU X.stack:=λb o q nf m=>by
  rcases ON.mp (J.stkSub b m) with z | z
  ·subst z; exact absurd (OM (Oy q) J.ok.above) (Qw _)
  ·exact nf z
 refine⟨⟨λb o q n nf _=>?_,λb o q n mf _=>?_,λb o q n _=>J.base.free b o q n (ne b),λb o q _=>?_,J.base.tups,J.base.frzs,J.base.tbls⟩,λb o q=>?_⟩
 ·exact a.keep b o (J.base.keep b o q n nf (ne b)) (.inl (by rw [q]; simp)) (nl b o q nf)
 ·obtain⟨sl,e1⟩:=J.base.slot b o q n mf (ne b)
  by_cases m:b∈iU X.stack
  ·obtain⟨sl',e2⟩:=a.slot b _ e1 m
   exact⟨sl',e2⟩
  ·exact⟨sl,a.keep b _ e1 (.inl (by rw [q]; simp)) m⟩
 ·obtain⟨o',e1⟩:=J.base.there b o q (ne b)
  by_cases m:b∈iU X.stack
  ·obtain⟨sl',e2⟩:=a.slot b _ e1 m
   exact⟨_,e2⟩
  ·exact⟨o',a.keep b _ e1 (.inl (by rw [q]; simp)) m⟩
 ·refine (J.hok b o q).stay (λc u hc z=>?_) (λ_ z=>z) λ_ _ z=>z
  have hc':H c≠none:=by
   rcases hc with rfl | hc
   ·rw [q]; simp
   ·rw [hc]; simp
  exact a.keep c u z (.inr hc') λm=>hc' (J.stkFree c m)
end
section
variable {N:List Str} {qual:Str} {scope:Pp} {f:Oo} {cd:Om} {outer:List Env} {s0:Os} {H0:Hp} {E:XK} {e:Oo} {C:Om}
theorem L7 (J:aC (ck (eB P w) P w K mg base N qual scope f cd A outer s0 H0 E) pins σ H s) (F:xO s0.heap H e C .none s.heap) (q:E C none H):(ck (eB P w) P w K mg base N qual scope f cd A outer s0 H0 E).xe (.ref e) s:=by
 have ne:∀b,b ∉ (ck (eB P w) P w K mg base N qual scope f cd A outer s0 H0 E).ex:=λb z=>nomatch z
 refine KF (base:=base) (h0:=s0.heap) (H:=H) J.ok.frames rfl J.stack (λx o z=>J.base.there x o z (ne x)) J.tracked F λh' a=>?_
 obtain⟨un,hok⟩:=J.aft rfl a
 exact⟨e,C,H,rfl,J.os,J.bare,un,hok,a.flew,q⟩
theorem Ft {s1:Os} {args:List Om} (J:aC (ck (eB P w) P w K mg base N qual scope f cd A outer s0 H0 E) pins σ H s) (hx:U2 s.heap s1.heap e C args) (ho:s1.os=s.os) (hg:s1.gens=s.gens) (q:E C none H):(ck (eB P w) P w K mg base N qual scope f cd A outer s0 H0 E).xe (.ref e) s1:=by
 have ne:∀b,b ∉ (ck (eB P w) P w K mg base N qual scope f cd A outer s0 H0 E).ex:=λb z=>nomatch z
 refine CJ (base:=base) (h0:=s0.heap) (H:=H) (h1:=s.heap) J.ok.frames rfl J.stack (λx o z=>J.base.there x o z (ne x)) J.tracked hx λh' a=>?_
 obtain⟨un,hok⟩:=J.aft rfl a
 exact⟨e,C,H,rfl,ho.trans J.os,by rw [show ({ s1 with heap:=h' }:Os).gens=s.gens from hg]; exact J.bare,un,hok,a.flew,q⟩
theorem pR:cB (eB P w) (ck (eB P w) P w K mg base N qual scope f cd A outer s0 H0 E) E:=λpins σ H s ev s' I ⟨e,C,H1,he,os,bare,un,hok,F,q⟩=>by
 subst he
 have ne:∀b,b ∉ (ck (eB P w) P w K mg base N qual scope f cd A outer s0 H0 E).ex:=λb z=>nomatch z
 obtain⟨hh,g,d,t,os'⟩:=s'
 obtain rfl:os'=s.os:=os
 have J:=I.call (h':=hh) (g':=g) (d':=d) (t':=t) (ch:=[]) un hok bare (λb z=>absurd z (by simp))
 exact L7 J (F.back λx o z=>I.base.there x o z (ne x)) q
end
abbrev NQ:List Om:=[.type "ValueError",.type "Exception",.type "BaseException",.type "object"]
structure NR (X:Cx) (E:XK):Prop where
 first:∀(pins:List (Oo×Obj)) (σ:St) (H:Hp) (s s1:Os) (e:Oo) (C:Om) (args:List Om),aC X pins σ H s->U2 s.heap s1.heap e C args->s1.os=s.os->s1.gens=s.gens->E C none H->X.xe (.ref e) s1
 pass:cB (eB X.prog X.w) X E
theorem NS {N:List Str} {qual:Str} {scope:Pp} {f:Oo} {cd:Om} {outer:List Env} {s0:Os} {H0:Hp} {E:XK} :
  NR (ck (eB P w) P w K mg base N qual scope f cd A outer s0 H0 E) E:=⟨λ_ _ _ _ _ _ _ _ J hx ho hg q=>Ft J hx ho hg q,pR⟩
theorem L8 {N:Oo} (e:Xo K N=true):∃oN,K.lookup N=some oN:=by
 unfold Xo at e
 split at e
 ·exact⟨_,by assumption⟩
 ·cases e
theorem Fu {h h':O9} {N:Oo} {m:Str->Option Om} (e:h'.get? N=h.get? N) (n:h.Ns N m):h'.Ns N m:=by
 unfold Heap.Ns at n ⊢
 rw [e]; exact n
theorem KG {C:Oo} {bmB:List Om} {newId:String} (q:SG K C bmB newId=true) :
  ∃bm N nm qn bs hdct sn sub ab col dd k0 k1 k2 k3 k5,(∃oN,K.lookup N=some oN)/\∀h:O9,K.In h->h.get? C=some (excClassObj nm qn C N bs bm hdct sn sub ab col dd k0 k1 k2 k3 k5 newId)/\h.Ns N (h.nsMap N)/\h.nsMap N "__init__" = none/\OwnTail h bmB bm:=by
 unfold SG at q
 split at q
 ·rename_i dd cd sl ho
  split at q
  ·rename_i C' bm k0 k1 k2 k3 n k5 hm hs
   simp only [OI,beq_iff_eq,Bool.not_eq_true'] at q
   obtain⟨⟨⟨⟨⟨rfl,rfl⟩,hdel⟩,ht⟩,hok⟩,hni⟩:=q
   obtain⟨nm,bs,mro,ns,qn,hd,sn,sub,ab,col,del⟩:=cd
   dsimp only at hm hdel hok hni
   subst hm hdel
   have hsl:sl=#[k0,k1,k2,k3,some (.builtin n),k5]:=by
    obtain⟨l⟩:=sl
    simp only at hs
    rw [hs]
   subst hsl
   exact⟨bm,ns,nm,qn,bs,hd,sn,sub,ab,col,dd,k0,k1,k2,k3,k5,L8 hok,λh X=>⟨X _ _ ho,.of_isNs (PySem.W.isNs_of_in X hok),PySem.W.nsMap_none_of_in X hok hni,PySem.W.tail_of_in X ht⟩⟩
  ·cases q
 ·cases q
def KH (E:XK) (C:Oo):TS:=λ_ _ H=>E (.ref C) none H
theorem Fv {E:XK} {x y:Str} {C:Oo} {j np cpos ppos pos} (hc:X.calm=true) (fl:NR X E) (hg:Gl X x) (hm:X.mg x=some (.ref C)) (hC:SG X.K C NQ "ValueError.__new__" = true)
  (hd:(x == ("__debug__":Str))=false:=by decide):PS X (.Raise (some (.Call (.Name x np) [.Constant (.str y) j ppos] [] cpos)) none pos) (KH E C):=by
 intro pins s σ H D I h
 obtain⟨bm,N,nm,q,bs,hdct,sn,sub,ab,col,dd,k0,k1,k2,k3,k5,⟨oN,hl⟩,at_⟩:=KG hC
 obtain⟨hCo,hN,hni,T⟩:=at_ _ I.kIn
 refine wpAny_Raise_call_subT (C:=C) (nm:=nm) (q:=q) (N:=N) (bs:=bs) (bm:=bm) (hdct:=hdct) (sn:=sn) (sub:=sub) (ab:=ab) (col:=col) (dd:=dd) (k0:=k0) (k1:=k1) (k2:=k2) (k3:=k3) (k5:=k5) TK (mN:=s.heap.nsMap N) (T.hasType TK.hasBase) (I.ok.hd hc) (by nofun) hni (dQ I hg hm ⟨rfl,?_⟩ hd)
 refine Re (bG ((dW gO iA) cpos pins s σ H (λvs H1=>vs.length=1/\H1=H) I ⟨rfl,rfl⟩) λus s1 ⟨vs,H1,I1,r,z1,z⟩=>?_)
 subst z
 obtain⟨hCo',hN',hni',T'⟩:=at_ _ I1.kIn
 refine⟨rfl,?_,hCo',Fu ((I1.kIn _ _ hl).trans (I.kIn _ _ hl).symm) hN,T',λh' e m=>fl.first pins σ _ s1 _ e _ _ I1 m rfl rfl h⟩
 show us.length≤OA
 rw [<-r.length,z1]; decide
structure jh (X:Cx) (H1 H:Hp) (s1:Os) (e:Oo) (C fl:Om) (s:Os):Prop where
 os:s.os=s1.os
 bare:SD s.gens
 un:Un (iU X.stack) [] H1 H s1.heap s.heap
 hok:iT X.prog X.w H s.heap
 flew:xO s1.heap H e C fl s.heap
section
variable {H1 H:Hp} {s1 s:Os} {e:Oo} {C fl fl':Om} {h':O9} {M:W0} {Q:Unit->Os->Prop}
theorem jh.inv (I:aC X pins σ H1 s1) (R:jh X H1 H s1 e C fl s):aC X pins σ H s:=I.call' R.os R.un R.hok R.bare λb z=>absurd z (by simp)
theorem jh.aft (I:aC X pins σ H1 s1) (R:jh X H1 H s1 e C fl s) (a:L6 s1.heap H X.stack e C fl' s.heap h'):jh X H1 H s1 e C fl' { s with heap:=h' }:=by
 have J:=R.inv I
 refine⟨R.os,R.bare,⟨λb o q n nf nx=>?_,λb o q n mf nx=>?_,R.un.free,λb o q nx=>?_,R.un.tups,R.un.frzs,R.un.tbls⟩,λb o q=>?_,a.flew⟩
 ·exact a.keep b o (R.un.keep b o q n nf nx) (.inl (by rw [q]; simp)) nf
 ·obtain⟨sl,e1⟩:=R.un.slot b o q n mf nx
  obtain⟨sl',e2⟩:=a.slot b _ e1 mf
  exact⟨sl',e2⟩
 ·obtain⟨o',e1⟩:=R.un.there b o q nx
  by_cases m:b∈iU X.stack
  ·obtain⟨sl',e2⟩:=a.slot b _ e1 m
   exact⟨_,e2⟩
  ·exact⟨o',a.keep b _ e1 (.inl (by rw [q]; simp)) m⟩
 ·refine (R.hok b o q).stay (λc u hc z=>?_) (λ_ z=>z) λ_ _ z=>z
  have hc':H c≠none:=by
   rcases hc with rfl | hc
   ·rw [q]; simp
   ·rw [hc]; simp
  exact a.keep c u z (.inr hc') λm=>hc' (J.stkFree c m)
theorem jh.traced (I:aC X pins σ H1 s1) (R:jh X H1 H s1 e C fl s):∃T a0,s1.heap.get? T=none/\H T=none/\(Pn s.heap (e::T::iU X.stack)).StaysIn s.heap/\s.heap.FunFrames (Pn s.heap (e::T::iU X.stack)) X.stack /\
  s.heap.TracedAtW (Pn s.heap (e::T::iU X.stack)) e C a0 fl/\(Pn s.heap (e::T::iU X.stack)).get? e=none:=by
 obtain⟨he0,heH,oe,vs,T,oT,ts,a0,q1,q2,q3,q4,q5,q6,q7,q8,q9,q10,q11⟩:=R.flew
 exact⟨T,a0,q6,q7,λb o z=>Qn _ z,lr (R.inv I).stack λx hx=>OF _ (OF _ hx),
  ⟨oe,vs,T,oT,ts,q1,⟨q2,q3⟩,q4,q5,P2 _ (by simp),q8,q9,q10,q11⟩,P2 _ (by simp)⟩
theorem jh.step (I:aC X pins σ H1 s1) (R:jh X H1 H s1 e C fl s) {T:Oo} {a0:Om} (hT0:s1.heap.get? T=none) (hTH:H T=none) (k1:(Pn s.heap (e::T::iU X.stack)).StaysIn h') (k2:s.heap.UpToSlots h')
  (k3:h'.TracedAtW (Pn s.heap (e::T::iU X.stack)) e C a0 fl'):jh X H1 H s1 e C fl' { s with heap:=h' } :=
 R.aft I (Fs (base:=X.base) (a0:=0) (R.inv I).stack (λx o z=>R.un.there x o z (by simp)) (R.inv I).tracked R.flew.1 R.flew.2.1 hT0 hTH rfl k1 k2 k3)
theorem jh.note (I:aC X pins σ H1 s1) (R:jh X H1 H s1 e C .none s) (hX:X.stack=X.env::X.outer) (hf:X.env.frame=some X.env.locals) (hA:A.frames=some X.stack)
  (h:∀h',jh X H1 H s1 e C (To X.env.locals) { s with heap:=h' }->Q () { s with heap:=h' }):Ov M A (Th (.ref e) X.env) Q E s:=by
 obtain⟨T,a0,t1,t2,t3,t4,t5,t6⟩:=R.traced I
 refine wpAny_noteFrame_onW (outer:=X.outer) (by rw [hA,hX]) (by rw [<-hX]; exact t4) hf t5 t3 t6 λh' ⟨k1,_,k3,k4⟩=>?_
 exact h h' (R.step I t1 t2 k1 k4 k3)
theorem jh.noteAgain (I:aC X pins σ H1 s1) (R:jh X H1 H s1 e C (To X.env.locals) s) (hf:X.env.frame=some X.env.locals) (h:Q () s):Ov M A (Th (.ref e) X.env) Q E s:=by
 obtain⟨T,a0,t1,t2,t3,t4,t5,t6⟩:=R.traced I
 exact wpAny_noteFrame_againW hf t5 h
theorem jh.land (I:aC X pins σ H1 s1) (R:jh X H1 H s1 e C fl s) (h:∀h',jh X H1 H s1 e C .none { s with heap:=h' }->Q () { s with heap:=h' }):Ov M A (Vb (.ref e) none) Q E s:=by
 obtain⟨T,a0,t1,t2,t3,t4,t5,t6⟩:=R.traced I
 exact wpAny_setFlight_noneW t3 t4 t5 λh' k1 _ k3 k4=>h h' (R.step I t1 t2 k1 (λb o q n=>⟨o.slots,k4 b o q n⟩) k3)
theorem jh.lift (I:aC X pins σ H1 s1) (R:jh X H1 H s1 e C fl s) {L:Oo} (h:∀h',jh X H1 H s1 e C (To L) { s with heap:=h' }->Q () { s with heap:=h' }):Ov M A (Vb (.ref e) (some L)) Q E s:=by
 obtain⟨he0,heH,oe,vs,T,oT,ts,a0,q1,q2,q3,q4,q5,q6,q7,q8,q9,q10,q11⟩:=R.flew
 have hs:3 < ts.size:=(TH.mp q11).1
 unfold Vb
 refine Ol (Rc q1 q4 q5 ?_)
 rw [if_pos (show (OJ T != Pr)=true from by simp)]
 refine Xi q9 q10 hs ?_
 refine h _ (R.aft I ⟨λx o q n nf=>?_,λx o q m=>?_,he0,heH,oe,vs,T,_,ts.setIfInBounds 3 (To L),a0,?_,q2,q3,q4,q5,q6,q7,q8,Rx _ q9 ?_,?_,?_⟩)
 ·rw [QM _ _ λz=>?_]; exact q
  subst z; rcases n with n | n
  ·exact n q6
  ·exact n q7
 ·refine⟨o.slots,?_⟩
  rw [QM _ _ λz=>?_]; exact q
  subst z
  exact KD (R.inv I).stack m q9 q10
 ·rw [QM _ _ q8]; exact q1
 ·obtain⟨c,d,dt,sl⟩:=oT
  cases q10; rfl
 ·obtain⟨c,d,dt,sl⟩:=oT
  cases q10; rfl
 ·exact Array.getElem?_setIfInBounds_self_of_lt hs
end
@[reducible] def Cx.marked (X:Cx) (e:Oo) (xe:Om->Os->Prop):Cx:={ X with A:=X.A.mark (some (.ref e)),calm:=false,xe:=xe }
section
variable {H1 H:Hp} {s1 s:Os} {e D:Oo} {C fl fl':Om} {xe:Om->Os->Prop} {Q:Flow->Os->Prop} {y:Str} {np hpos:Pos} {b₀:Rf} {suite:List Rf} {rest:List X4}
theorem aC.mark (I:aC X pins σ H s):aC (X.marked e xe) pins σ H s :=
 ⟨{ I.ok with hd:=λz=>nomatch z },I.os,I.bare,I.base,I.loc,I.cell,I.free,I.freeC,I.pin,I.hok,I.len⟩
theorem aC.unmark (ok:X.Ok) (I:aC (X.marked e xe) pins σ H s):aC X pins σ H s:=⟨ok,I.os,I.bare,I.base,I.loc,I.cell,I.free,I.freeC,I.pin,I.hok,I.len⟩
theorem jh.type (R:jh X H1 H s1 e C fl s) (M:W0):PySem.W.Looks M s.heap (typeOf (.ref e)) C:=by
 obtain⟨_,_,oe,vs,T,oT,ts,a0,q1,q2,_⟩:=R.flew
 subst q2
 exact (Ws q1).andThen .now
theorem Fw (I:aC X pins σ H1 s1) (R:jh X H1 H s1 e C .none s) (hX:X.stack=X.env::X.outer) (hf:X.env.frame=some X.env.locals) (hg:Gl X y) (hm:X.mg y=some (.ref D)) (hx:Rp X.K C (.ref D)=some true)
  (k:∀s',jh X H1 H s1 e C .none s'->Ov (OE X.prog X.w) (X.A.mark (some (.ref e))) (execs (b₀::suite) X.env) Q (notedBy (OE X.prog X.w) (X.A.mark (some (.ref e))) X.env (cameBackBy (OE X.prog X.w) X.A X.env E)) s')
  (hd:(y == ("__debug__":Str))=false:=by decide) :
  Ov (OE X.prog X.w) X.A (Th (.ref e) X.env) (λ_ s2=>Ov (OE X.prog X.w) X.A (Vb (.ref e) none) (λ_ s3=>Ov (OE X.prog X.w) X.A (handleBy (.ref e) X.env (.ExceptHandler (some (.Name y np)) none (b₀::suite) hpos::rest)) Q E s3) E s2) E s:=by
 refine R.note I hX hf I.ok.frames λh2 R2=>R2.land I λh3 R3=>?_
 refine Vn (UL ?_) (by intro q; cases q)
 refine dQ (X:=X.marked e λ_ _=>False) (R3.inv I).mark hg hm ?_ hd
 refine (WV (R3.inv I).kIn (R3.type _) hx).here ?_
 refine codeAny_handlers_suite ?_
 refine R3.land I λh4 R4=>?_
 exact k _ R4
theorem Fy (I:aC X pins σ H1 s1) (R:jh X H1 H s1 e C .none s) (hf:X.env.frame=some X.env.locals) (hn:X.A.handled=none)
  (k:∀s',jh X H1 H s1 e C (To X.env.locals) s'->E (.ref e) s') :
  Ov (OE X.prog X.w) (X.A.mark (some (.ref e))) (exec (.Raise none none pos) X.env) Q (notedBy (OE X.prog X.w) (X.A.mark (some (.ref e))) X.env (cameBackBy (OE X.prog X.w) X.A X.env E)) s:=by
 rw [arm_exec_Raise]
 refine Ol (P7 ?_)
 unfold raiseStmt
 simp only [evalOpt,Option.map]
 refine Ol (Vy ?_)
 show Ov _ _ (Zi "raise.bare" >>= λ_=>_) _ _ s
 refine Ol (Tl ?_)
 obtain⟨he0,heH,oe,vs,T,oT,ts,a0,q1,q2,q3,q4,q5,q6,q7,q8,q9,q10,q11⟩:=R.flew
 refine Ol (Rc q1 q4 q5 ?_)
 rw [if_neg (show ¬(OJ T == Pr)=true from by simp),hf]
 refine Ol (R.lift I λh' R2=>WD ?_)
 show Ov _ _ (Th _ _) _ _ _
 refine R2.noteAgain I hf ?_
 show Ov _ _ (field _ _ >>= λ_=>_) _ _ _
 obtain⟨_,_,oe',vs',T',_,_,_,p1,_,_,p4,p5,_⟩:=R2.flew
 refine Ol (Rc p1 p4 p5 ?_)
 rw [if_neg (show ¬(OJ T' == Pr)=true from by simp),hf]
 exact R2.lift I λh'' R3=>k _ R3
end
section
variable {N:List Str} {qual:Str} {scope:Pp} {f:Oo} {cd:Om} {outer:List Env} {s0:Os} {H0:Hp} {E:XK} {H1 H:Hp} {s1 s:Os} {e:Oo} {C:Om}
theorem HG (I:aC (ck (eB P w) P w K mg base N qual scope f cd A outer s0 H0 E) pins σ H1 s1) (R:jh (ck (eB P w) P w K mg base N qual scope f cd A outer s0 H0 E) H1 H s1 e C (To (ck (eB P w) P w K mg base N qual scope f cd A outer s0 H0 E).env.locals) s) (q:E C none H) :
  (ck (eB P w) P w K mg base N qual scope f cd A outer s0 H0 E).xe (.ref e) s:=by
 have ne:∀b,b ∉ (ck (eB P w) P w K mg base N qual scope f cd A outer s0 H0 E).ex:=λb z=>nomatch z
 show Ov (OE P w) _ (WW _ (.ref e)) _ _ s
 unfold WW
 refine Ol (R.noteAgain I rfl ?_)
 refine R.land I λh' R2=>?_
 have J:=R2.inv I
 exact⟨e,C,H,rfl,J.os,J.bare,J.base,J.hok,R2.flew.back λx o z=>I.base.there x o z (ne x),q⟩
end
section
variable {k:Nat} {f:Oo} {ps:List Str} {sp:Sp} {dvs:List V} {ds:List Om} {E:XK} {x m:Str} {p pos apos:Pos} {e o:OP} {ta:TE} {t:TA}
def L9 (X:Cx) (pins:List (Oo×Obj)) (σ:St) (E:XK) (ev:Om) (s':Os):Prop:=∃H1 H s1 e C,ev=.ref e/\aC X pins σ H1 s1/\jh X H1 H s1 e C .none s'/\E C none H
theorem Bf {Q:VK} (F:cr X.prog X.w X.K X.mg X.base (eB X.prog X.w) k f fd ps sp) (hr:bn k X.A) (hb:cP X.K fd ps ds) (hd:aO dvs ds)
  (I:aC X pins σ H s) (r:aO vs us) (h:sp (vs++dvs) H Q E):Ov (OE X.prog X.w) X.A (call (.ref f) us) (EP X pins σ Q) (L9 X pins σ E) s:=by
 have r2:aO (vs++dvs) (us++ds):=r.append hd
 have hl:(us++ds).length=ps.length:=by rw [<-r2.length]; exact F.len _ _ _ _ h
 refine RF (PZ (F.run X.A X.stack s H ⟨us,[]⟩ (us++ds) (vs++dvs) Q E hr I.env0 (hb s us I.kIn hl) r2 h) λr s' hq=>?_)
 cases r with
 | error e =>
  obtain⟨e,C,H',rfl,os,bare,un,hok,F,q⟩:=hq
  exact⟨H,H',s,e,C,rfl,I,⟨os,bare,un,hok,F⟩,q⟩
 | ok fl =>
  cases fl with
  | ret u=>exact I.after hq
  | next=>exact OX hq
  | brk=>exact OX hq
  | cont=>exact OX hq
def PX (X:Cx) (e:OP) (t:XK->TE):Prop :=
 ∀(pins:List (Oo×Obj)) (s:Os) (σ:St) (H:Hp) (Q:VK) (E:XK),aC X pins σ H s->t E σ H Q->Ov (OE X.prog X.w) X.A (O2 e X.env) (EP X pins σ Q) (L9 X pins σ E) s
theorem HH (F:cr X.prog X.w X.K X.mg X.base (eB X.prog X.w) k f fd ps sp) (hr:bn k X.A) (hg:Gl X x) (hm:X.mg x=some (.ref f)) (hk:O3 X.K (.ref f)=true) (hb:cP X.K fd ps ds) (hd:aO dvs ds)
  (ha:PA X.nox (e::es) t) (hdb:(x == ("__debug__":Str))=false:=by decide) (he:hE9 X e es:=by nofun) (hpl:hP9 X pos es:=by nofun) :
  PX X (.Call (.Name x p) (e::es) [] pos) (λE=>iV sp dvs E t):=by
 intro pins s σ H Q E I h
 refine Pk (dQ I hg hm ?_ hdb)
 refine Qp (h₀:=X.base) I.ok.mod.kin hk (OS (ha pos pins s σ H _ (I.wish _) h) (λus s1 ⟨vs,H1,I1,r,q⟩=>⟨I1.unwish.kIn,?_⟩) λ_ _ z=>z.elim) he hpl
 exact Bf F hr hb hd I1.unwish r q
end
section
variable {k:Nat} {f C:Oo} {ps:List Str} {sp:Sp} {dvs:List V} {ds:List Om} {x m:Str} {p pos apos:Pos} {e o:OP} {ta:TE} {t:TA}
theorem HI {pl:Sem Bool} (he:PE X.nox o ta) (c:mX X.K C) (hm:oU X.K C m f) (F:cr X.prog X.w X.K X.mg X.base (eB X.prog X.w) k f fd ps sp) (hr:bn k X.A) (hb:cP X.K fd ps ds) (hd:aO dvs ds) (ha:PA X.nox (e::es) t)
  (hst:hE9 X e es:=by nofun) (hpl:hP9 X pos es:=by nofun)
  (ht:O2 (.Call (.Attribute o m apos) (e::es) [] pos) X.env=(do
   let ov <-O2 o X.env
   QL apos.atName
   let (f,first) <-Ra [ov] (QA ov m pl)
   Rk pos f first (Qa pos (OQ (e::es) X.env)) (PD pos (O5 [] X.env))):=by nofun) :
  PX X (.Call (.Attribute o m apos) (e::es) [] pos) (λE=>uf C m sp dvs E ta t):=by
 intro pins s σ H Q E I h
 refine Ql (pl:=pl) (OS (he pins s σ H _ (I.wish _) h) (λu s1 ⟨x,H1,I1,rx,a,dx,fs,ex,ea,l,q⟩=>?_) λ_ _ z=>z.elim) ht
 subst ex
 obtain rfl:u=OJ a:=rx
 refine eM I1.unwish ea c hm l ?_
 refine Qp (first:=[.ref a]) (h₀:=X.base) I.ok.mod.kin hm.kp (OS (ha pos pins s1 σ H1 _ I1 q) (λus s2 ⟨vs,H2,I2,r,q2⟩=>⟨I2.unwish.kIn,?_⟩) λ_ _ z=>z.elim) hst hpl
 exact Bf (us:=.ref a::us) (vs:=.ref a::vs) F hr hb hd I2.unwish (.cons rfl r) q2
end
section
variable {pins more:List (Oo×Obj)} {H1 H:Hp} {s1 s:Os} {e:Oo} {C fl:Om}
theorem aC.drop (I:aC X (more++pins) σ H s):aC X pins σ H s :=
 ⟨I.ok,I.os,I.bare,I.base,I.loc,I.cell,I.free,I.freeC,λp hp=>I.pin p (by
  rcases Pv.mp hp with z | z
  ·exact Q8 _ z
  ·exact OC _ (OC _ z)),I.hok,I.len⟩
theorem jh.pin (hx:X.ex=[]) (I:aC X pins σ H1 s1) (R:jh X H1 H s1 e C fl s):∃oe vs T oT ts a0,oe.cls=C/\vs[0]?=some a0/\oe.data=.fields vs/\vs[1]?=some (.ref T)/\T≠e/\oT.data=.fields ts/\ts[3]?=some fl/\X.s₀.heap.get? e=none/\X.s₀.heap.get? T=none /\
  (∀p∈X.pn++pins,p.1≠e/\p.1≠T)/\aC X ([(e,oe),(T,oT)]++pins) σ H s:=by
 obtain⟨he0,heH,oe,vs,T,oT,ts,a0,q1,q2,q3,q4,q5,q6,q7,q8,q9,q10,q11⟩:=R.flew
 have J:=R.inv I
 have fr:∀a,s1.heap.get? a=none->X.s₀.heap.get? a=none:=λa z=>by
  cases y:X.s₀.heap.get? a with
  | none=>rfl
  | some o=>obtain⟨o',z'⟩:=I.base.there a o y (by rw [hx]; simp); rw [z] at z'; cases z'
 have nl:∀a,s1.heap.get? a=none->a≠X.env.locals:=λa z q=>by
  obtain⟨m,⟨o,es,ep,ho,r⟩,_⟩:=I.loc
  rw [<-q,z] at ho; cases ho
 have nf:∀a,s1.heap.get? a=none->a ∉ X.fs:=λa z q=>by
  obtain⟨_,o,ho,_⟩:=I.funs.mem q
  rw [z] at ho; cases ho
 have np:∀a,s1.heap.get? a=none->∀p∈X.pn++pins,p.1≠a:=λa z p hp q=>by
  have:=(I.pin p hp).1
  rw [q,z] at this; cases this
 refine⟨oe,vs,T,oT,ts,a0,q2,q3,q4,q5,q8,q10,q11,fr _ he0,fr _ q6,λp hp=>⟨np _ he0 p hp,np _ q6 p hp⟩,⟨J.ok,J.os,J.bare,J.base,J.loc,J.cell,J.free,J.freeC,λp hp=>?_,J.hok,J.len⟩⟩
 have cs:∀p,p∈X.pn++pins∨p=(e,oe)∨p=(T,oT)->s.heap.get? p.1=some p.2/\H p.1=none/\p.1≠X.env.locals/\p.1 ∉ X.fs/\∀v,p.2.data≠.cell v:=λp hp=>by
  rcases hp with hp | rfl | rfl
  ·exact J.pin p hp
  ·exact⟨q1,heH,nl _ he0,nf _ he0,λv z=>by rw [q4] at z; cases z⟩
  ·exact⟨q9,q7,nl _ q6,nf _ q6,λv z=>by rw [q10] at z; cases z⟩
 refine cs p ?_
 rcases Pv.mp hp with z | z
 ·exact .inl (Q8 _ z)
 ·rcases Pv.mp z with z | z
  ·rcases ON.mp z with rfl | z
   ·exact .inr (.inl rfl)
   ·rcases ON.mp z with rfl | z
    ·exact .inr (.inr rfl)
    ·cases z
  ·exact .inl (OC _ z)
theorem aC.hide {T:Oo} {oe oT:Obj} (h0:X.s₀.heap.get? e=none) (h1:X.s₀.heap.get? T=none) (np:∀p∈X.pn++pins,p.1≠e/\p.1≠T) (I:aC X ([(e,oe),(T,oT)]++pins) σ H s):aC X pins σ H { s with heap:=Pn s.heap [e,T] }:=by
 have pe:=I.pin (e,oe) (OC _ (by simp))
 have pT:=I.pin (T,oT) (OC _ (by simp))
 have J:=I.drop
 have get:∀b o,s.heap.get? b=some o->b≠e->b≠T->(Pn s.heap [e,T]).get? b=some o:=λb o q n1 n2=>QJ _ q (by simp [n1,n2])
 have old:∀b o,X.s₀.heap.get? b=some o->b≠e/\b≠T:=λb o q=>⟨λz=>(by rw [z,h0] at q; cases q),λz=>(by rw [z,h1] at q; cases q)⟩
 have cel:∀c v,s.heap.IsCell c v->(Pn s.heap [e,T]).IsCell c v:=λc v ⟨o,ho,hd⟩=>by
  refine⟨o,get c o ho (λz=>?_) (λz=>?_),hd⟩
  ·rw [z,pe.1] at ho; cases ho; exact pe.2.2.2.2 _ hd
  ·rw [z,pT.1] at ho; cases ho; exact pT.2.2.2.2 _ hd
 refine⟨J.ok,J.os,J.bare,⟨λb o q n nf nx=>?_,λb o q n mf nx=>?_,J.base.free,λb o q nx=>?_,J.base.tups,J.base.frzs,J.base.tbls⟩,?_,λy c q=>?_,J.free,J.freeC,λp hp=>?_,λb o q=>?_,J.len⟩
 ·exact get b o (J.base.keep b o q n nf nx) (old b o q).1 (old b o q).2
 ·obtain⟨sl,z⟩:=J.base.slot b o q n mf nx
  exact⟨sl,get b _ z (old b o q).1 (old b o q).2⟩
 ·obtain⟨o',z⟩:=J.base.there b o q nx
  exact⟨o',get b _ z (old b o q).1 (old b o q).2⟩
 ·obtain⟨m,⟨o,es,ep,ho,r⟩,l⟩:=J.loc
  refine⟨m,⟨o,es,ep,get _ o ho (P5 pe.2.2.1) (P5 pT.2.2.1),r⟩,λi y v a b c=>?_⟩
  obtain⟨u,rv,lk⟩:=l i y v a b c
  refine⟨u,rv,?_⟩
  rcases lk with lk | ⟨lk,c,a,b⟩
  ·exact .inl lk
  ·exact .inr ⟨lk,c,a,cel c _ b⟩
 ·obtain⟨v,q⟩:=J.cell y c q
  exact⟨v,cel c v q⟩
 ·obtain⟨a,b⟩:=J.pin p hp
  exact⟨get _ _ a (np p hp).1 (np p hp).2,b⟩
 ·refine (J.hok b o q).stay (λc u hc z=>?_) (λ_ z=>z) λ_ _ z=>z
  have hc':H c≠none:=by
   rcases hc with rfl | hc
   ·rw [q]; simp
   ·rw [hc]; simp
  exact get c u z (λz=>hc' (by rw [z]; exact pe.2.1)) λz=>hc' (by rw [z]; exact pT.2.1)
theorem jh.again {T:Oo} {oe oT:Obj} {vs ts:Array Om} {a0:Om} (h0:X.s₀.heap.get? e=none) (h1:X.s₀.heap.get? T=none) (np:∀p∈X.pn++pins,p.1≠e/\p.1≠T) (q2:oe.cls=C) (q3:vs[0]?=some a0) (q4:oe.data=.fields vs) (q5:vs[1]?=some (.ref T)) (q8:T≠e)
  (q10:oT.data=.fields ts) (q11:ts[3]?=some fl) (I:aC X ([(e,oe),(T,oT)]++pins) σ H s):∃s1,aC X pins σ H s1/\jh X H H s1 e C fl s:=by
 have pe:=I.pin (e,oe) (OC _ (by simp))
 have pT:=I.pin (T,oT) (OC _ (by simp))
 refine⟨_,I.hide h0 h1 np,rfl,I.bare,⟨λb o q n nf nx=>Qn _ q,λb o q n mf nx=>⟨o.slots,Qn _ q⟩,λb o q n nx=>n,λb o q nx=>⟨o,Qn _ q⟩,λ_ _ z=>z,λ_ _ _ z=>z,λb ps z=>⟨#[],by rw [Array.append_empty]; exact z⟩⟩,I.hok,
  P2 _ (by simp),pe.2.1,oe,vs,T,oT,ts,a0,pe.1,q2,q3,q4,q5,P2 _ (by simp),pT.2.1,q8,pT.1,q10,q11⟩
end
section
variable {N:List Str} {qual:Str} {scope:Pp} {f:Oo} {cd:Om} {outer:List Env} {s0:Os} {H0:Hp} {E:XK}
 {x y:Str} {i:Nat} {ec eu:OP} {t:XK->TE} {tu:TE} {D:Oo} {xp np apos upos rpos hpos pos:Pos}
def Ma (K:Ou) (D:Oo) (E:XK) (i:Nat) (t:XK->TE) (tu:TE):TS:=λB σ H=>t (λC _ H2=>Rp K C (.ref D)=some true/\tu σ H2 λ_ H3=>E C none H3) σ H λv H1=>B.nx (σ.set i (some v)) H1
theorem HJ (hN:N.Nodup) (hi:N[i]?=some x) (hx:eg scope x)
  (he:PX (ck (eB P w) P w K mg base N qual scope f cd A outer s0 H0 E) ec t) (hu:∀e,PE ((ck (eB P w) P w K mg base N qual scope f cd A outer s0 H0 E).marked e λ_ _=>False) eu tu)
  (hg:Gl (ck (eB P w) P w K mg base N qual scope f cd A outer s0 H0 E) y) (hm:mg y=some (.ref D))
  (hs:PJ ec (some (.Name x xp)) apos.line (ck (eB P w) P w K mg base N qual scope f cd A outer s0 H0 E).env=pure false:=by nofun)
  (hs2:PJ eu none upos.line (ck (eB P w) P w K mg base N qual scope f cd A outer s0 H0 E).env=pure false:=by nofun) (hd:(y == ("__debug__":Str))=false:=by decide) :
  PS (ck (eB P w) P w K mg base N qual scope f cd A outer s0 H0 E) (.Try [.Assign [.Name x xp] ec apos] [.ExceptHandler (some (.Name y np)) none [.Expr eu upos,.Raise none none rpos] hpos] [] [] pos) (Ma K D E i t tu):=by
 intro pins s σ H B I h
 refine Wt (PP (VT (OS (he pins s σ H _ _ I h) (λv s1 ⟨z,H1,I1,r1,q1⟩=>?_) λev s1 ⟨H1,H2,s2,e,C,hev,I1,R,q1,q2⟩=>?_) hs))
 ·exact f7 I1 hN hi hx r1 (λs2 I2=>Q2 (Q2 ⟨_,H1,I2,q1⟩)) (.inl rfl)
 ·subst hev
  refine Fw I1 R rfl rfl hg hm q1 (λs' R'=>?_) hd
  obtain⟨oe,vs,T,oT,ts,a0,p1,p2,p3,p4,p5,p6,p7,p8,p9,p10,I5⟩:=R'.pin rfl I1
  refine PP (OS (Ab (hu e) hs2 _ s' σ H2 { nx:=λ_ H3=>E C none H3,rt:=λ_ _=>False } I5.mark q2) (λfl s4 h4=>?_) λ_ _ z=>z.elim)
  cases fl with
  | next =>
   obtain⟨σ',H3,I6,q6⟩:=h4
   obtain⟨s7,I7,R7⟩:=jh.again p8 p9 p10 p1 p2 p3 p4 p5 p6 p7 (I6.unmark I1.ok)
   exact PP (Fy I7 R7 rfl (I1.ok.hd rfl) λs' R8=>HG I7 R8 q6)
  | ret v=>obtain⟨_,_,_,_,_,z⟩:=h4; exact z.elim
  | brk=>obtain⟨_,_,_,z⟩:=h4; exact z.elim
  | cont=>obtain⟨_,_,_,z⟩:=h4; exact z.elim
end
theorem cr.to1 {CX:lP} {k:Nat} {f:Oo} {ps:List Str} {sp:Sp} (F:cr P w K mg base fR k f fd ps sp):cr P w K mg base CX k f fd ps sp :=
 ⟨F.len,λA outer s H args us vs Q E hr he hb hv hs=>PZ (F.run A outer s H args us vs Q E hr he hb hv hs) λr s' h=>by
  cases r with
  | error e=>exact (show False from h).elim
  | ok fl=>cases fl<;>exact h⟩
theorem PS.nox {t:TS} (h:PS X.nox st t):PS X st t:=λpins s σ H D I hw =>
 OS (h pins s σ H D (I.wish _) hw) (λ_ _ q=>q.unwish) λ_ _ z=>OX z
theorem Fun.ok1 {CX:lP} {x qual:Str} {f:Oo} {N ps:List Str} {k:Nat} {sp:Sp} (F:Fun K x qual st f fd) (S:al N ps (af st)) (len:∀vs H Q E,sp vs H Q E->vs.length=ps.length)
  (hbody:∀(cdv:Om) (A:P6) (outer:List Env) (s:Os) (H:Hp) (vs:List V) (Q:VK) (E:XK),bn k (A.deeper (QT qual (af st) s.heap.objs.size f cdv))->sp vs H Q E ->
   ∃t,gN (ck CX P w K mg base N qual (af st) f cdv A outer s H E) (a9 st) t/\t { nx:=λ_ H'=>Q .non H',rt:=Q } (fq N vs) H):cr P w K mg base CX (k+1) f fd ps sp:=by
 obtain⟨oc,od,kV,doc,pm,an,cdv,ct,osl,rfl,lk,hcd⟩:=F.ex
 exact DH lk hcd S len λA outer s H vs Q E hr hsp=>hbody cdv A outer s H vs Q E hr hsp
end L2
namespace RB
open PySem PySem.Spec PyProof.Rows L2
section
theorem Bg {CX:lP} {x qual:Str} {fa:Oo} {N ps:List Str} {k n:Nat} {b:BS} (F:Fun K x qual st fa fd) (S:al N ps (af st)) (hn:ps.length=n:=by decide) (hN:ps.length≤N.length:=by decide)
  (hbody:∀(cdv:Om) (A:P6) (outer:List Env) (s:Os) (H:Hp) (E:XK),bn k (A.deeper (QT qual (af st) s.heap.objs.size fa cdv))->gN (ck CX P w K mg base N qual (af st) fa cdv A outer s H E) (a9 st) (c9 ⟨gy,E⟩ b)) :
  cr P w K mg base CX (k+1) fa fd ps (mY gy n (cf N.length b)):=by
 refine F.ok1 S (λvs H Q E h=>?_) (λcdv A outer s H vs Q E hr h=>?_)
 ·obtain⟨_,_,_,_,_,_,_,_,_,hl,_⟩:=h
  rw [hl,hn]
 ·exact qN (CX:=CX) (A:=A) (outer:=outer) (s:=s) hN hn h (hbody cdv A outer s H E hr)
end
theorem gx.refl:gx F y ρ H y ρ H:=aE.refl.to0
theorem gx.mo {y y1:Option Int} {ρ ρ1:List Oo} {H H1:Hp} (a:gx F y ρ H y1 ρ1 H1):Mo y ρ H y1 ρ1 H1:=⟨a.y,λ{i c} h=>by
 obtain⟨r,rfl⟩:=a.pre
 obtain⟨hi,e⟩:=Ow.mp h
 rw [PQ hi]; exact h,a.tup⟩
section
variable {y y1:Option Int} {ρ ρ1:List Oo} {H H1:Hp}
theorem bL.mono0 (a:gx F y ρ H y1 ρ1 H1) {xs:eg} {vs:L2.St} (h:bL g F y ρ H xs vs):bL g F y1 ρ1 H1 xs vs :=
 ⟨a6 (λx v q=>by
  cases x with
  | none=>trivial
  | some x=>cases v with
   | none=>exact q
   | some v=>exact aY.monoM a.mo (av:=x) q) h.v,h.e.mono0 a⟩
def Fz (c:Nat):BS:=λ_ σ S=>σ.ke c .non S
theorem FA {x z:Str} {c:Nat} {j np cpos ppos} (hc:X.calm=true) (fl:NR X g.E) (hm:X.mg x=some (.ref (g.xc c))) (hC:SG X.K (g.xc c) NQ "ValueError.__new__" = true) (hg:Gl X x:=by nofun)
  (hd:(x == ("__debug__":Str))=false:=by decide):PS X (.Raise (some (.Call (.Name x np) [.Constant (.str z) j ppos] [] cpos)) none pos) (c9 g (Fz c)) :=
 PS.imp (λD σ H ⟨F,y,ρ,S,σa,d,C,r,h,_⟩=>r.e y ρ S H c .non none gx.refl C rfl h) (Fv hc fl hg hm hC hd)
end
theorem dE.reE {E E':XK}:∀{o:AO} {ho:HO},dE F y ρ H ⟨gy,E⟩ o ho->dE F y ρ H ⟨gy,E'⟩ o ho
 | .lst _,_,h=>h
 | .dk _,_,h=>h
 | .dt _,_,h=>h
 | .ins _ _,_,h=>h
 | .fz _,_,⟨ob,u,e,h⟩=>⟨ob,u,e,dE.reE h⟩
theorem aM.reE {E E':XK} {S:aU} (C:aM ⟨gy,E⟩ F y ρ S H):aM ⟨gy,E'⟩ F y ρ S H :=
 ⟨C.n,C.sym,C.pos,C.nd,λi a h=>(C.at_ i a h).imp λo ⟨ho,a,b,c⟩=>⟨ho,a,b,dE.reE c⟩,C.own,C.fe,C.ol,C.J,⟨C.fl.1,C.fl.2,C.fl.3,C.fl.4⟩⟩
section
variable {N:List Str} {qual:Str} {scope:Pp} {f:Oo} {cd:Om} {outer:List Env} {s0:Os} {H0:Hp} {E:XK} 
 {x y z:Str} {i k n:Nat} {eu e:OP} {D:Oo} {xp np apos upos rpos hpos pos p cpos:Pos} {br:BA} {bu:BE} {b:BF}
def Jd (n:Nat) (f:BF) (br:BA) (i:Nat) (bu:BE):BS:=λd σ S=>br σ S λxs S1=>bU n f xs S1 (λv S2=>d.nx (za σ i v) S2) λc av S2=>match av with
 | .non=>bu σ S2 λ_ S3=>σ.ke c .non S3
 | _=>false
theorem HK (hN:N.Nodup) (hi:N[i]?=some x) (hx:L2.eg scope x) (c:j6 P w K mg base gy (eB P w) z k n b) (hr:bn k (ck (eB P w) P w K mg base N qual scope f cd A outer s0 H0 E).A)
  (ha:PA (ck (eB P w) P w K mg base N qual scope f cd A outer s0 H0 E).nox (e::es) (hV ⟨gy,E⟩ br)) (hu:∀e,PE ((ck (eB P w) P w K mg base N qual scope f cd A outer s0 H0 E).marked e λ_ _=>False) eu (up ⟨gy,E⟩ bu))
  (hm:mg y=some (.ref D)) (hD:∀c,Rp K (.ref (gy.xc c)) (.ref D)=some true)
  (hg:Gl (ck (eB P w) P w K mg base N qual scope f cd A outer s0 H0 E) y:=by nofun) (hz:Gl (ck (eB P w) P w K mg base N qual scope f cd A outer s0 H0 E) z:=by nofun)
  (hs:PJ (.Call (.Name z p) (e::es) [] cpos) (some (.Name x xp)) apos.line (ck (eB P w) P w K mg base N qual scope f cd A outer s0 H0 E).env=pure false:=by nofun)
  (hs2:PJ eu none upos.line (ck (eB P w) P w K mg base N qual scope f cd A outer s0 H0 E).env=pure false:=by nofun) (hd:(y == ("__debug__":Str))=false:=by decide) (hdz:(z == ("__debug__":Str))=false:=by decide)
  (he:OQ (e::es) (ck (eB P w) P w K mg base N qual scope f cd A outer s0 H0 E).env=(false,O2 e (ck (eB P w) P w K mg base N qual scope f cd A outer s0 H0 E).env)::OQ es (ck (eB P w) P w K mg base N qual scope f cd A outer s0 H0 E).env:=by nofun)
  (hpl:(Qa cpos (OQ es (ck (eB P w) P w K mg base N qual scope f cd A outer s0 H0 E).env)).any (·.1)=false:=by nofun) :
  PS (ck (eB P w) P w K mg base N qual scope f cd A outer s0 H0 E) (.Try [.Assign [.Name x xp] (.Call (.Name z p) (e::es) [] cpos) apos] [.ExceptHandler (some (.Name y np)) none [.Expr eu upos,.Raise none none rpos] hpos] [] [] pos) (c9 ⟨gy,E⟩ (Jd n b br i bu)):=by
 obtain⟨fa,fd,ps,hn,Fo,hmz,hk,hb⟩:=c
 refine PS.imp (λB σ H ⟨F,y,ρ,S,σa,d,C,r,h,p1,p2,p3,p4⟩=>?_) (HJ hN hi hx (HH Fo hr hz hmz hk hb .nil ha hdz he hpl) hu hg hm hs hs2 hd)
 refine bq C r h λy1 ρ1 S1 H1 axs xs st C1 r1 rx h1=>?_
 unfold bU at h1
 cases q:OL axs.length n with
 | false=>simp only [q] at h1; cases h1
 | true =>
  simp only [q] at h1
  rw [QG]
  refine⟨F,y1,ρ1,S1,axs,_,_,C1.reE,rx,by rw [<-aW rx]; exact OD q,h1,λy2 ρ2 S2 H2 av v st2 C2 rv hk=>?_,λy2 ρ2 S2 H2 cc av dd st2 C2 hX hk=>?_⟩
  ·exact p1 y2 ρ2 S2 H2 _ _ (st.trans st2) C2.reE (dm (r1.mono st2) rv) hk
  ·dsimp only at hk
   split at hk
   ·refine⟨hD cc,F,y2,ρ2,S2,σa,_,C2.reE,r1.mono0 st2,hk,λy3 ρ3 S3 H3 av3 v3 st3 C3 rv3 hk3=>?_⟩
    exact r1.e y3 ρ3 S3 H3 cc .non none (st2.trans st3.to0) C3 rfl hk3
   ·cases hk
end
end RB
namespace L2
open PySem PySem.Spec PyProof.Rows
structure gE (k:Nat) (A:P6):Prop where
 dp:A.depth+3 * k+5 < Rl
 un:A.units+16 * k+200 < Qf
theorem bn.mark {k:Nat} (r:bn k A) (h:Option Om):gE k (A.mark h):=⟨r.dp,r.un⟩
theorem gE.mono {j k:Nat} (r:gE k A) (h:j≤k):gE j A:=⟨by have:=r.dp; omega,by have:=r.un; omega⟩
theorem gE.depth {k:Nat} (r:gE k A):A.depth < Rl:=by have:=r.dp; omega
theorem gE.deeper {k:Nat} (r:gE (k+1) A) (env:Env):gE k (A.deeper env) :=
 ⟨by have:=r.dp; show A.depth+1+3 * k+5 < _; omega,by have:=r.un; show A.units+3+16 * k+200 < _; omega⟩
structure FB (P:OZ) (w:Pl) (K:Ou) (mg:Str->Option Om) (base:O9) (CX:lP) (k:Nat) (f:Oo) (fd:SH) (ps:List Str) (sp:Sp):Prop where
 len:∀vs H Q E,sp vs H Q E->vs.length=ps.length
 run:∀(A:P6) (outer:List Env) (s:Os) (H:Hp) (args:Args) (us:List Om) (vs:List V) (Q:VK) (E:XK),gE k A->k8 P w K mg base A outer s H->U6 s fd args (ps.zip us)->aO vs us->sp vs H Q E ->
  RX (OE P w) A (.call (.ref f) args) (CR CX outer P w H s Q E) s
@[reducible] def xP (CX:lP) (P:OZ) (w:Pl) (K:Ou) (mg:Str->Option Om) (base:O9) (N:List Str) (qual:Str) (scope:Pp) (f:Oo) (cd:Om) (A:P6) (outer:List Env) (s:Os) (H:Hp) (E:XK):Cx :=
 { ck CX P w K mg base N qual scope f cd A outer s H E with calm:=false }
theorem zK {CX:lP} {N ps:List Str} {qual:Str} {scope:Pp} {f:Oo} {cd:Om} {outer:List Env} {s s1:Os} {E:XK} 
  (S:al N ps scope) (e0:k8 P w K mg base A outer s H) (hl:vs.length=ps.length) (r:aO vs us)
  (x:InCallC s s.heap.objs.size (Wy (QT qual scope s.heap.objs.size f cd).kindOf (ps.zip us) λ_=>none) (U7 (s.heap.objs.size+1) scope.names []) (Wz (QT qual scope s.heap.objs.size f cd).kindOf (ps.zip us) λ_=>none) s1) :
  aC (xP CX P w K mg base N qual scope f cd A outer s H E) [] (fq N vs) H s1:=by
 have e1:k8 P w K mg base { A with handled:=none } outer s H:=⟨e0.frames,e0.mod,e0.bs,e0.bsz,e0.funs,e0.frf,e0.hok,e0.bare⟩
 have I:=ul (CX:=CX) (qual:=qual) (f:=f) (cd:=cd) (E:=E) S (A:={ A with handled:=none }) rfl e1 hl r x
 exact⟨{ I.ok with hd:=λz=>(nomatch z),frames:=UP e0.frames },I.os,I.bare,I.base,I.loc,I.cell,I.free,I.freeC,I.pin,I.hok,I.len⟩
theorem KI {CX:lP} {k:Nat} {x qual:Str} {f:Oo} {N ps:List Str} {sp:Sp} (F:Fun K x qual st f fd) (S:al N ps (af st)) (len:∀vs H Q E,sp vs H Q E->vs.length=ps.length)
  (hbody:∀(cdv:Om) (A:P6) (outer:List Env) (s:Os) (H:Hp) (vs:List V) (Q:VK) (E:XK),gE k (A.deeper (QT qual (af st) s.heap.objs.size f cdv))->sp vs H Q E ->
   ∃t,gN (xP CX P w K mg base N qual (af st) f cdv A outer s H E) (a9 st) t/\t { nx:=λ_ H'=>Q .non H',rt:=Q } (fq N vs) H):FB P w K mg base CX (k+1) f fd ps sp:=by
 obtain⟨oc,od,kV,doc,pm,an,cdv,ct,osl,rfl,lk,hcd⟩:=F.ex
 refine⟨len,λA outer s H args us vs Q E hr e0 hb r hsp=>?_⟩
 have hl:=len _ _ _ _ hsp
 have KX:K.In s.heap:=e0.mod.kin.keeps λb o e=>(e0.bs b o e).1
 have lim:s.heap.NoLimit:=e0.mod.nolimit.keeps λb o e=>(e0.bs b o e).1
 have hkind:∀y∈ps.zip us,(af st).names.lookup y.1=some .local∨((af st).names.lookup y.1=some .cell/\((U7 (s.heap.objs.size+1) (af st).names []).lookup y.1).isSome=true):=λ⟨n,v⟩ hy=>by
  rcases S.par n (SU hy).1 with q | q
  ·exact .inl q
  ·exact .inr ⟨q,Sg _ _ _ (.inl q)⟩
 refine UE hr.depth (KX _ _ lk) rfl S.co S.gen rfl (VF KX hcd) (hb _ _ _ _ ?_)
 refine Tt S.kind hkind λenv he s1 x=>?_
 subst he
 refine⟨lim.keeps x.toInCall.keep,Yk ?_⟩
 obtain⟨t,ht,hq⟩:=hbody cdv A outer s H vs Q E (hr.deeper _) hsp
 have I:aC (xP CX P w K mg base N qual (af st) f cdv A outer s H E) [] (fq N vs) H s1:=zK S e0 hl r x
 refine OS (ht [] s1 (fq N vs) H _ I hq) (λfl s' hs=>?_) λe s' hs=>hs
 have fin:∀{σ':St} {H':Hp} {v:V} {u:Om},aC (xP CX P w K mg base N qual (af st) f cdv A outer s H E) [] σ' H' s'->aP v u->Q v H'->CE outer P w H s Q u s' :=
  λ{σ' H' v u} J rv q=>⟨v,H',J.os,J.bare,J.base,J.hok,rv,q⟩
 cases fl with
 | ret u =>
  obtain⟨v,σ',H',J,rv,q⟩:=hs
  exact fin J rv q
 | next =>
  obtain⟨σ',H',J,q⟩:=hs
  exact fin (v:=V.non) (u:=Pr) J rfl q
 | brk =>
  obtain⟨_,_,_,q⟩:=hs
  exact OX q
 | cont =>
  obtain⟨_,_,_,q⟩:=hs
  exact OX q
section
variable {k:Nat} {f C:Oo} {ps:List Str} {sp:Sp} {dvs:List V} {ds:List Om} {E:XK} {m:Str} {pos apos:Pos} {e o:OP} {ta:TE} {t:TA}
theorem FC {pl:Sem Bool} (he:PE X o ta) (c:mX X.K C) (hm:oU X.K C m f) (F:FB X.prog X.w X.K X.mg X.base fR k f fd ps sp) (hr:gE k X.A) (hb:cP X.K fd ps ds) (hd:aO dvs ds) (ha:PA X (e::es) t)
  (hst:hE9 X e es:=by nofun) (hpl:hP9 X pos es:=by nofun)
  (ht:O2 (.Call (.Attribute o m apos) (e::es) [] pos) X.env=(do
   let ov <-O2 o X.env
   QL apos.atName
   let (f,first) <-Ra [ov] (QA ov m pl)
   Rk pos f first (Qa pos (OQ (e::es) X.env)) (PD pos (O5 [] X.env))):=by nofun) :
  PE X (.Call (.Attribute o m apos) (e::es) [] pos) (uf C m sp dvs E ta t):=by
 intro pins s σ H Q I h
 refine Ql (pl:=pl) (bG (he pins s σ H _ I h) λu s1 ⟨x,H1,I1,rx,a,dx,fs,ex,ea,l,q⟩=>?_) ht
 subst ex
 obtain rfl:u=OJ a:=rx
 refine eM I1 ea c hm l ?_
 refine Qp (first:=[.ref a]) (h₀:=X.base) I.ok.mod.kin hm.kp (bG (ha pos pins s1 σ H1 _ I1 q) λus s2 ⟨vs,H2,I2,r,q2⟩=>⟨I2.kIn,?_⟩) hst hpl
 have r2:aO (.ref a::vs++dvs) (.ref a::us++ds):=(show aO (V.ref a::vs) (OJ a::us) from .cons rfl r).append hd
 have hl:(.ref a::us++ds).length=ps.length:=by rw [<-r2.length]; exact F.len _ _ _ _ q2
 refine RF (PZ (F.run X.A X.stack s2 H2 ⟨.ref a::us,[]⟩ (.ref a::us++ds) (.ref a::vs++dvs) Q E hr I2.env0 (hb s2 (.ref a::us) I2.kIn hl) r2 q2) λr s' hq=>?_)
 cases r with
 | error e=>exact (show False from hq).elim
 | ok fl =>
  cases fl with
  | ret u=>exact I2.after hq
  | next=>exact OX hq
  | brk=>exact OX hq
  | cont=>exact OX hq
end
end L2
namespace RB
open PySem PySem.Spec PyProof.Rows L2
def never (f:BF):BF:=λavs S k _=>f avs S k λ_ _ _=>false
section
variable {k n:Nat} {f:BF}
theorem jd.reE {E E':XK} {kk:AV->aU->Bool} {Q:VK} (p:jd ⟨gy,E⟩ F y ρ H kk Q):jd ⟨gy,E'⟩ F y ρ H kk Q:=λy' ρ' S' H' av v st C=>p y' ρ' S' H' av v st C.reE
theorem xQ {Q:VK} {E:XK}:mY gy n (never f) vs H Q E->mY gy n f vs H Q λ_ _ _=>False:=λ⟨F,y,ρ,S,avs,kk,ke,C,r,hl,h,p,_⟩ =>
 ⟨F,y,ρ,S,avs,kk,λ_ _ _=>false,C.reE,r,hl,h,p.reE,λ_ _ _ _ _ _ _ _ _ _ z=>by cases z⟩
theorem cr.never {fa:Oo} {ps:List Str} (F:cr P w K mg base (eB P w) k fa fd ps (mY gy n f)):cr P w K mg base fR k fa fd ps (mY gy n (never f)) :=
 ⟨λvs H Q E h=>F.len vs H Q _ (xQ h),λA outer s H args us vs Q E hr he hb hv hs=>PZ (F.run A outer s H args us vs Q (λ_ _ _=>False) hr he hb hv (xQ hs)) λr s' h=>by
  cases r with
  | error e=>obtain⟨_,_,_,_,_,_,_,_,_,q⟩:=h; exact q.elim
  | ok fl=>cases fl<;>exact h⟩
theorem dN {x:Str} {c:Nat} {dA:List AV} (M:nB P w K mg base gy (eB P w) c x k n dA f):nB P w K mg base gy fR c x k n dA (never f):=let ⟨fa,fd,ps,ds,dvs,a,F,b⟩:=M; ⟨fa,fd,ps,ds,dvs,a,cr.never F,b⟩
theorem iL {CX:lP} {x:Str} (c:j6 P w K mg base gy fR x k n f):j6 P w K mg base gy CX x k n f:=let ⟨fa,fd,ps,a,F,b⟩:=c; ⟨fa,fd,ps,a,F.to1,b⟩
def KJ (P:OZ) (w:Pl) (K:Ou) (mg:Str->Option Om) (base:O9) (gy:Gy) (c:Nat) (m:Str) (k n:Nat) (f:BF):Prop :=
 ∃fa fd ps,ps.length=n/\FB P w K mg base fR k fa fd ps (mY gy n f)/\oU K (gy.cl c) m fa/\cP K fd ps []
abbrev NT (P:OZ) (w:Pl) (K:Ou) (mg:Str->Option Om) (base:O9) (gy:Gy) (N:List Str) (q:Str) (st:Rf) (k:Nat) (b:BS) (fa:Oo):Prop:=∀{cdv:Om} {A:P6} {outer:List Env} {s:Os} {H:Hp} {E:XK},gE k (A.deeper (QT q (af st) s.heap.objs.size fa cdv))->gN (xP fR P w K mg base N q (af st) fa cdv A outer s H E).nox (a9 st) (c9 ⟨gy,E⟩ b)
theorem Mb {c:Nat} {x q:Str} {N ps:List Str} {b:BS} (D:sv K (gy.cl c) x q st) (S:al N ps (af st)) (hb:Lc x q st ps)
  (hbody:∀{f},NT P w K mg base gy N q st k b f) (hn:ps.length=n:=by decide) (hN:ps.length≤N.length:=by decide) :
  KJ P w K mg base gy c x (k+1) n (cf N.length b):=by
 obtain⟨fa,fd,F,me⟩:=D
 refine⟨fa,fd,ps,hn,KI F S (λvs H Q E h=>?_) (λcdv A outer s H vs Q E hr h=>?_),me,F.binds λ_ _ _ _ _ _ us h=>hb us h⟩
 ·obtain⟨_,_,_,_,_,_,_,_,_,hl,_⟩:=h
  rw [hl,hn]
 ·obtain⟨t,ht,hq⟩:=qN (CX:=fR) (A:=A) (outer:=outer) (s:=s) hN hn h (hbody hr)
  exact⟨t,ht.nox,hq⟩
end
section
variable {k k' n:Nat} {f:BF} {m:Str} {pos apos:Pos} {e o:OP} {ba:BE} {br:BA}
theorem Oh {pl:Sem Bool} {c:Nat} (M:KJ X.prog X.w X.K X.mg X.base g.toGy c m k n f) (hc:mX X.K (g.cl c)) (hr:gE k' X.A) (ho:PE X o (up g ba)) (ha:PA X (e::es) (hV g br)) (hk:k≤k':=by decide) (hm:∀i∈j0,bh[i]?≠some m:=by decide +kernel)
  (hst:hE9 X e es:=by nofun) (hpl:hP9 X pos es:=by nofun)
  (ht:O2 (.Call (.Attribute o m apos) (e::es) [] pos) X.env=(do
   let ov <-O2 o X.env
   QL apos.atName
   let (f,first) <-Ra [ov] (QA ov m pl)
   Rk pos f first (Qa pos (OQ (e::es) X.env)) (PD pos (O5 [] X.env))):=by nofun) :
  PE X (.Call (.Attribute o m apos) (e::es) [] pos) (up g (bd c n [] f ba br)):=by
 obtain⟨fa,fd,ps,hn,F,me,hb⟩:=M
 exact PE.imp (mh hm λ_ _ _ _=>.nil) (FC ho hc me F (hr.mono hk) hb .nil ha hst hpl ht)
end
end RB
namespace L2
open PySem PySem.Spec PyProof.Rows
section
variable {H1 H:Hp} {s1 s:Os} {e D:Oo} {C fl fl':Om} {Q:Flow->Os->Prop} {y n:Str} {np hpos:Pos} {b₀:Rf} {suite:List Rf} {rest:List X4}
theorem FD (I:aC X pins σ H1 s1) (R:jh X H1 H s1 e C .none s) (hX:X.stack=X.env::X.outer) (hf:X.env.frame=some X.env.locals) (hg:Gl X y) (hm:X.mg y=some (.ref D)) (hx:Rp X.K C (.ref D)=some true)
  (k:∀s',jh X H1 H s1 e C .none s'->Ov (OE X.prog X.w) (X.A.mark (some (.ref e))) (Wd X.env n (.ref e)) (λ_ s2=>Ov (OE X.prog X.w) (X.A.mark (some (.ref e))) (execs (b₀::suite) X.env)
   (λf s3=>Ov (OE X.prog X.w) X.A (do UN X.env n .none; U3 X.env n hpos) (λ_ s4=>Q f s4) E s3) (λ_ _=>False) s2) (λ_ _=>False) s')
  (hd:(y == ("__debug__":Str))=false:=by decide) :
  Ov (OE X.prog X.w) X.A (Th (.ref e) X.env) (λ_ s2=>Ov (OE X.prog X.w) X.A (Vb (.ref e) none) (λ_ s3=>Ov (OE X.prog X.w) X.A (handleBy (.ref e) X.env (.ExceptHandler (some (.Name y np)) (some n) (b₀::suite) hpos::rest)) Q E s3) E s2) E s:=by
 refine R.note I hX hf I.ok.frames λh2 R2=>R2.land I λh3 R3=>?_
 refine Vn (UL ?_) (by intro q; cases q)
 refine dQ (X:=X.marked e λ_ _=>False) (R3.inv I).mark hg hm ?_ hd
 refine (WV (R3.inv I).kIn (R3.type _) hx).here ?_
 refine codeAny_handlers_suite_as ?_
 refine R3.land I λh4 R4=>?_
 refine OS (k _ R4) (λ_ s2 h2=>?_) λ_ _ z=>z.elim
 exact OS h2 (λf s3 h3=>h3) λ_ _ z=>z.elim
theorem HL {M:W0} {j:Nat} {Q:Unit->Os->Prop} (I:aC X pins σ H s) (hN:X.N.Nodup) (hj:X.N[j]?=some n) (hl:X.env.kindOf n=some .local)
  (h:∀s',aC X pins (σ.set j none) H s'->Q () s'):Ov M A (do UN X.env n .none; U3 X.env n hpos) Q E s:=by
 obtain⟨m,hn,hl'⟩:=id I.loc
 refine wpAny_nameGoes_keeps hl hn (by rw [I.ok.kind]; rfl) λh' v hn' hs=>h _ ?_
 obtain⟨oL,_,_,hoL,_⟩:=id hn
 have hjσ:j < σ.length:=by rw [I.len]; exact (Ow.mp hj).1
 refine⟨I.ok,I.os,I.bare,⟨λb o e n hb hx=>?_,λb o e n hb hx=>?_,I.base.free,λb o e hx=>?_,I.base.tups,I.base.frzs,I.base.tbls⟩,⟨_,hn',λi y v' e1 e2 e3=>?_⟩,λy c e=>?_,I.free,I.freeC,λp hp=>?_,λb ob e=>?_,by simpa using I.len⟩
 ·exact (hs.2 b (OG (OM (Oy e) I.ok.above))).trans (I.base.keep b o e n hb hx)
 ·obtain⟨sl,e1⟩:=I.base.slot b o e n hb hx
  exact⟨sl,(hs.2 b (OG (OM (Oy e) I.ok.above))).trans e1⟩
 ·obtain⟨o',e1⟩:=I.base.there b o e hx
  exact⟨o',(hs.2 b (OG (OM (Oy e) I.ok.above))).trans e1⟩
 ·by_cases hji:i=j
  ·subst hji
   rw [QK hjσ] at e2
   cases e2
  ·rw [Q9 (P5 hji)] at e2
   obtain⟨u',r',q⟩:=hl' i y v' e1 e2 e3
   refine⟨u',r',?_⟩
   rcases q with ⟨k,e⟩ | ⟨k,c,e,z⟩
   ·refine .inl ⟨k,?_⟩
    have:y≠n:=λe=>hji (pX hN e1 (e▸hj))
    simp [this,e]
   ·exact .inr ⟨k,c,e,z.sameBut hs (I.cne y c e)⟩
 ·obtain⟨w',z⟩:=I.cell y c e
  exact⟨w',z.sameBut hs (I.cne y c e)⟩
 ·obtain⟨e,n,ne,nf,d⟩:=I.pin p hp
  exact⟨(hs.2 p.1 ne).trans e,n,ne,nf,d⟩
 ·refine (I.hok b ob e).stay (λc w' hc q=>(hs.2 c ?_).trans q) (λ_ q=>q) λ_ _ q=>q
  rintro rfl
  rcases hc with rfl | hc
  ·rw [I.free] at e; cases e
  ·rw [I.free] at hc; cases hc
theorem CK {t:XK->TE} {ec:OP} {v z:Str} {iv j:Nat} {Cz:Oo} {j1:Nat} {vp p0 p1 ep vp2 np2 ap tp ip vp3 zp cp rp} (hX:X.stack=X.env::X.outer) (hf:X.env.frame=some X.env.locals) (hex:X.ex=[]) (hN:X.N.Nodup)
  (hiv:X.N[iv]?=some v) (hj:X.N[j]?=some n) (hv:X.env.scope.names.lookup v=some .local) (hn:X.env.scope.names.lookup n=some .local) (hvn:iv≠j) (he:PX X ec t)
  (hg:Gl X y) (hm:X.mg y=some (.ref D)) (hgz:Gl X z) (hmz:X.mg z=some (.ref Cz)) (hgi:Gl X "isinstance") (hmi:X.mg "isinstance" = none)
  (hs0:PJ (.Constant .none j1 p0) (some (.Name v vp)) p1.line X.env=pure false) (hs1:PJ ec none ep.line X.env=pure false) (hs2:PJ (.Name n np2) (some (.Name v vp2)) ap.line X.env=pure false)
  (hd:(y == ("__debug__":Str))=false:=by decide) (hdz:(z == ("__debug__":Str))=false:=by decide) (hdv:(v == ("__debug__":Str))=false:=by decide) (hdn:(n == ("__debug__":Str))=false:=by decide)
  (hcv:(v == ("__classdict__":Str))=false:=by decide) (hcn:(n == ("__classdict__":Str))=false:=by decide) :
  gN X [.Assign [.Name v vp] (.Constant .none j1 p0) p1,.Try [.Expr ec ep] [.ExceptHandler (some (.Name y np)) (some n) [.Assign [.Name v vp2] (.Name n np2) ap] hpos] [] [] tp,.Return (some (.Call (.Name "isinstance" ip) [.Name v vp3,.Name z zp] [] cp)) rp]
   (λB σ H=>t (λC _ H2=>Rp X.K C (.ref D)=some true/\Wa X.K C Cz=true/\B.rt (.bl true) H2) (σ.set iv (some .non)) H λ_ _=>False):=by
 intro pins s σ H B I h
 refine PP (bG (iy hN hiv (.inl hv) Do hs0 (.inr hv) pins s σ H { nx:=λσ' H'=>σ'=σ.set iv (some .non)/\H'=H,rt:=λ_ _=>False } I ⟨rfl,rfl⟩) λfl s1 q=>?_)
 cases fl with
 | next =>
  obtain⟨_,_,I1,rfl,rfl⟩:=q
  refine PP (Wt (PP (W2 (OS (he pins s1 _ _ _ _ I1 h) (λu s2 ⟨_,_,_,_,z⟩=>z.elim) λev s2 ⟨H1,H2,s3,e,C,hev,I3,R,q1,q2,q3⟩=>?_) I1.quiet hs1)))
  subst hev
  refine FD I3 R hX hf hg hm q1 (λs' R'=>?_) hd
  obtain⟨oe,vs,T,oT,ts,a0,p1,p2,p3,p4,p5,p6,p7,p8,p9,p10,I5⟩:=R'.pin hex I3
  have hjl:j < (σ.set iv (some .non)).length:=by rw [I5.len]; exact (Ow.mp hj).1
  refine f7 (X:=X.marked e λ_ _=>False) I5.mark hN hj (.inl hn) (v:=.ref e) rfl (λs6 I6=>?_) (.inr hn)
  refine PP (bG (iy (X:=X.marked e λ_ _=>False) hN hiv (.inl hv) (yD hj (.inl hn) hdn hcn) hs2 (.inr hv) _ s6 _ H2 { nx:=λσ' H'=>σ'=(((σ.set iv (some .non)).set j (some (.ref e))).set iv (some (.ref e)))/\H'=H2,rt:=λ_ _=>False } I6 ?_) λfl s7 q7=>?_)
  ·exact⟨.ref e,QK hjl,rfl,rfl⟩
  ·cases fl with
   | next =>
    obtain⟨_,H7,I7,rfl,rfl⟩:=q7
    refine Q2 (HL (I7.unmark I3.ok) hN hj hn λs8 I8=>?_)
    refine PP (VR (Pk (iw I8 hgi hmi boot_isinstance ?_)))
    refine Rm (bG ((dW (yD hiv (.inl hv) hdv hcv) (dW (z9 (v:=.ref Cz) hgz hmz rfl hdz) iA)) cp _ s8 _ H7 (λvs H'=>vs=[.ref e,.ref Cz]/\H'=H7) I8 ?_) λus s9 ⟨ws,H9,I9,r9,ew,eh⟩=>?_) (by nofun) (by nofun)
    ·refine⟨.ref e,?_,rfl,rfl⟩
     rw [Q9 (P5 hvn)]
     refine QK ?_
     have:=I5.len
     have h2:=(Ow.mp hiv).1
     simp only [WO] at this ⊢
     omega
    ·subst ew eh
     cases r9 with
     | cons ra rb=>cases rb with
      | cons rb rc =>
       cases rc
       obtain rfl:=ra
       obtain rfl:=rb
       have pe:=I9.pin (e,oe) (OC _ (by simp))
       refine PySem.W.isi_call I9.kIn (t:=C) (λM=>p1▸(Ws pe.1).andThen .now) q2 (by intro z; cases z) ?_
       exact⟨.bl true,_,_,I9.drop,rfl,q3⟩
   | ret u=>obtain⟨_,_,_,_,_,z⟩:=q7; exact z.elim
   | brk=>obtain⟨_,_,_,z⟩:=q7; exact z.elim
   | cont=>obtain⟨_,_,_,z⟩:=q7; exact z.elim
 | ret u=>obtain⟨_,_,_,_,_,z⟩:=q; exact z.elim
 | brk=>obtain⟨_,_,_,z⟩:=q; exact z.elim
 | cont=>obtain⟨_,_,_,z⟩:=q; exact z.elim
end
section
variable {k:Nat} {f C:Oo} {ps:List Str} {sp:Sp} {dvs:List V} {ds:List Om} {x m:Str} {p pos apos:Pos} {e o:OP} {ta:XK->TE} {t:XK->TA}
theorem FE {pl:Sem Bool} (he:∀E,PE X.nox o (ta E)) (c:mX X.K C) (hm:oU X.K C m f) (F:cr X.prog X.w X.K X.mg X.base (eB X.prog X.w) k f fd ps sp) (hr:bn k X.A) (hb:cP X.K fd ps ds) (hd:aO dvs ds) (ha:∀E,PA X.nox (e::es) (t E))
  (hst:hE9 X e es:=by nofun) (hpl:hP9 X pos es:=by nofun)
  (ht:O2 (.Call (.Attribute o m apos) (e::es) [] pos) X.env=(do
   let ov <-O2 o X.env
   QL apos.atName
   let (f,first) <-Ra [ov] (QA ov m pl)
   Rk pos f first (Qa pos (OQ (e::es) X.env)) (PD pos (O5 [] X.env))):=by nofun) :
  PX X (.Call (.Attribute o m apos) (e::es) [] pos) (λE=>uf C m sp dvs E (ta E) (t E)):=λpins s σ H Q E I h =>
 HI (he E) c hm F hr hb hd (ha E) hst hpl ht pins s σ H Q E I h
end
end L2
namespace RB
open PySem PySem.Spec PyProof.Rows L2
def CL (t:Tr):Nat->Bool
 | 0=>true
 | n+1=>match t.get n with
  | some (.fz _)=>false
  | _=>CL t n
theorem xR {t:Tr}:∀{n i:Nat},CL t n=true->i < n->∀o,t.get i≠some (.fz o)
 | 0,_,_,h,_=>absurd h (UC _)
 | n+1,i,e,h,o=>λq=>by
  unfold CL at e
  by_cases z:i=n
  ·subst z; rw [q] at e; cases e
  ·split at e
   ·cases e
   ·exact xR e (by omega) o q
theorem FF {y y1:Option Int} {ρ ρ1:List Oo} {H H1:Hp} {S:aU} (C:aM g F y ρ S H) (nz:CL S.t S.n=true) (own:∀b o u,F.own b->H b=some (.frz o u)->H1 b=some (.frz o u)) (a:gx F y ρ H y1 ρ1 H1):aE F y ρ H y1 ρ1 H1 :=
 ⟨a.y,a.pre,a.new,a.keep,a.tup,a.live,λb o u h=>by
  by_cases m:b∈ρ
  ·obtain⟨i,hi⟩:=SN m
   obtain⟨o',ho,g1,g2,g3⟩:=C.at_ i b hi
   rw [h] at g2; cases g2
   have hl:i < S.n:=by rw [C.n]; exact (Ow.mp hi).1
   cases o' with
   | lst xs=>obtain⟨_,z,_⟩:=g3; cases z
   | dk xs=>obtain⟨_,z,_⟩:=g3; cases z
   | dt xs=>obtain⟨_,z,_⟩:=g3; cases z
   | ins c fs=>obtain⟨_,_,⟨_,z,_⟩,_⟩:=g3; cases z
   | fz o=>exact absurd g1 (xR nz hl o)
  ·by_cases w:F.own b
   ·exact own b o u w h
   ·exact a.keep b _ h m w⟩
section
variable {k n:Nat} {f:BF} {m:Str} {ec eo e:OP} {ba:BE} {br:BA}
def KL (c n:Nat) (f:BF) (iv:Nat) (ba:BE) (br:BA):BS:=λd σ S=>match CL S.t S.n with
 | true=>bd c n [] f ba br ⟨(za σ iv .non).v,λ_ av S1=>match av with
  | .non=>d.rt (.bl true) S1
  | _=>false⟩ S λ_ _=>false
 | false=>false
theorem KM {c k':Nat} {y v z nm:Str} {iv j j1:Nat} {D Cz:Oo} {pl:Sem Bool} {pos apos vp p0 p1 ep np hpos vp2 np2 ap tp ip vp3 zp cp rp} (M:nB X.prog X.w X.K X.mg X.base g.toGy (eB X.prog X.w) c m k n [] f) (hcl:mX X.K (g.cl c)) (hr:bn k' X.A) (hk:k≤k')
  (ho:∀E,PE X.nox eo (up ⟨g.toGy,E⟩ ba)) (ha:∀E,PA X.nox (e::es) (hV ⟨g.toGy,E⟩ br))
  (hX:X.stack=X.env::X.outer) (hf:X.env.frame=some X.env.locals) (hex:X.ex=[]) (hN:X.N.Nodup)
  (hiv:X.N[iv]?=some v) (hj:X.N[j]?=some nm) (hv:X.env.scope.names.lookup v=some .local) (hn:X.env.scope.names.lookup nm=some .local) (hvn:iv≠j)
  (hg:Gl X y) (hm:X.mg y=some (.ref D)) (hgz:Gl X z) (hmz:X.mg z=some (.ref Cz)) (hgi:Gl X "isinstance") (hmi:X.mg "isinstance" = none)
  (hD:∀c,Rp X.K (.ref (g.xc c)) (.ref D)=some true) (hI:∀c,Wa X.K (.ref (g.xc c)) Cz=true) (hown:∀F,g.dr F->∀H H',F.J H->F.J H'->∀b o u,F.own b->H b=some (.frz o u)->H' b=some (.frz o u))
  (hs0:PJ (.Constant .none j1 p0) (some (.Name v vp)) p1.line X.env=pure false) (hs1:PJ (.Call (.Attribute eo m apos) (e::es) [] pos) none ep.line X.env=pure false) (hs2:PJ (.Name nm np2) (some (.Name v vp2)) ap.line X.env=pure false)
  (hmf:∀i∈j0,bh[i]?≠some m:=by decide +kernel) (hst:hE9 X e es:=by nofun) (hpl:hP9 X pos es:=by nofun)
  (ht:O2 (.Call (.Attribute eo m apos) (e::es) [] pos) X.env=(do
   let ov <-O2 eo X.env
   QL apos.atName
   let (f,first) <-Ra [ov] (QA ov m pl)
   Rk pos f first (Qa pos (OQ (e::es) X.env)) (PD pos (O5 [] X.env))):=by nofun)
  (hd:(y == ("__debug__":Str))=false:=by decide) (hdz:(z == ("__debug__":Str))=false:=by decide) (hdv:(v == ("__debug__":Str))=false:=by decide) (hdn:(nm == ("__debug__":Str))=false:=by decide)
  (hcv:(v == ("__classdict__":Str))=false:=by decide) (hcn:(nm == ("__classdict__":Str))=false:=by decide) :
  gN X [.Assign [.Name v vp] (.Constant .none j1 p0) p1,.Try [.Expr (.Call (.Attribute eo m apos) (e::es) [] pos) ep] [.ExceptHandler (some (.Name y np)) (some nm) [.Assign [.Name v vp2] (.Name nm np2) ap] hpos] [] [] tp,.Return (some (.Call (.Name "isinstance" ip) [.Name v vp3,.Name z zp] [] cp)) rp]
   (c9 g (KL c n f iv ba br)):=by
 obtain⟨fa,fd,ps,ds,dvs,hps,Fo,me,hb,hdv',hA⟩:=M
 refine gN.imp (λB σ H ⟨F,yy,ρ,S,σa,d,C,r,h,q1,q2,q3,q4⟩=>?_) (CK hX hf hex hN hiv hj hv hn hvn (FE ho hcl me Fo (hr.mono hk) hb hdv' ha hst hpl ht) hg hm hgz hmz hgi hmi hs0 hs1 hs2 hd hdz hdv hdn hcv hcn)
 unfold KL at h
 cases nz:CL S.t S.n with
 | false=>rw [nz] at h; cases h
 | true =>
  rw [nz] at h
  refine mh (g:=⟨g.toGy,_⟩) hmf hA _ _ _ ⟨F,yy,ρ,S,_,_,C.reE,⟨qJ r.v (av:=.non) rfl,λy1 ρ1 S1 H1 cc av dd st C1 hX hk=>?_⟩,h,λ_ _ _ _ _ _ _ _ _ z=>by cases z⟩
  dsimp only at hk
  split at hk
  ·exact⟨hD cc,hI cc,q2 y1 ρ1 S1 H1 (.bl true) (.bl true) (FF C nz (hown F C.fl.dr H H1 C.J C1.J) st) C1.reE rfl hk⟩
  ·cases hk
end
end RB
namespace L2
open PySem PySem.Spec PyProof.Rows PySem.W
section
variable {σ:L2.St}
theorem aC.adopt {a:Oo} {o:HO} (I:aC X pins σ H s) (h0:X.s₀.heap.get? a=none) (hn:H a=none) (nl:a≠X.env.locals) (nc:∀x c,X.env.cells.lookup x=some c->c≠a) (np:∀p∈X.pn++pins,p.1≠a) (new:ci X.prog X.w (upd H a o) s.heap a o):aC X pins σ (upd H a o) s:=by
 have ne:∀{b u},H b=some u->b≠a:=λ{b u} e z=>by rw [z,hn] at e; cases e
 refine⟨I.ok,I.os,I.bare,⟨I.base.keep,I.base.slot,λb o' e n nx=>?_,I.base.there,λb xs e=>?_,λb o' u e=>?_,λb ps e=>?_⟩,I.loc,I.cell,?_,λx c e=>?_,λp hp=>?_,λb ob e=>?_,I.len⟩
 ·rw [ao λz=>by rw [z,h0] at e; cases e]; exact I.base.free b o' e n nx
 ·have:=I.base.tups b xs e; rw [ao (ne this)]; exact this
 ·have:=I.base.frzs b o' u e; rw [ao (ne this)]; exact this
 ·obtain⟨m,z⟩:=I.base.tbls b ps e; exact⟨m,by rw [ao (ne z)]; exact z⟩
 ·rw [ao (P5 nl)]; exact I.free
 ·rw [ao (nc x c e)]; exact I.freeC x c e
 ·obtain⟨q1,q2,q3⟩:=I.pin p hp
  exact⟨q1,by rw [ao (np p hp)]; exact q2,q3⟩
 ·by_cases z:b=a
  ·subst z; rw [aF] at e; cases e; exact new
  ·rw [ao z] at e
   exact (I.hok b ob e).stay (λ_ _ _ q=>q) (λc q=>by rw [ao (ne q)]; exact q) λc xs q=>by rw [ao (ne q)]; exact q
theorem Mc {α β:Type} {R:α->β->Prop}:∀{xs:List α} {ys:List β} {j:Nat} {a:α},Paired R xs ys->xs[j]?=some a->∃b,ys[j]?=some b/\R a b
 | _,_,_,_,.nil,e=>by simp at e
 | _,_,0,_,.cons h _,e=>by simp at e; subst e; exact⟨_,rfl,h⟩
 | _,_,j+1,_,.cons _ t,e=>by simpa using Mc t (by simpa using e)
theorem Je:∀as:List Oo,aO (as.map V.ref) (as.map OJ)
 | []=>.nil
 | _::r=>.cons rfl (Je r)
def mx:Hp->List Oo->List (V×V)->Hp
 | H,a::as,p::ps=>mx (upd H a (.tup [p.1,p.2])) as ps
 | H,_,_=>H
theorem FG {lo:Nat} (h0:X.s₀.heap.objs.size≤lo) (nl:X.env.locals < lo) (nc:∀x c,X.env.cells.lookup x=some c->c < lo) (np:∀p∈X.pn++pins,p.1 < lo):∀{as:List Oo} {ps:List (V×V)} {H:Hp},aC X pins σ H s->as.length=ps.length->as.Nodup->(∀a∈as,lo≤a/\H a=none) ->
  (∀(j:Nat) a p,as[j]?=some a->ps[j]?=some p->∃k x,aP p.1 k/\aP p.2 x/\s.heap.get? a=some { cls:=.type "tuple",data:=.seq #[k,x] })->aC X pins σ (mx H as ps) s
 | [],[],_,I,_,_,_,_=>I
 | [],_::_,_,I,_,_,_,_=>I
 | _::_,[],_,_,h,_,_,_=>by cases h
 | a::as,p::ps,H,I,hl,nd,ha,hp=>by
  obtain⟨k,x,rk,rx,hg⟩:=hp 0 a p rfl rfl
  obtain⟨la,na⟩:=ha a Oz
  have nd':=PM.mp nd
  show aC X pins σ (mx (upd H a (.tup [p.1,p.2])) as ps) s
  refine FG (as:=as) (ps:=ps) (H:=upd H a (.tup [p.1,p.2])) h0 nl nc np (I.adopt (SI (Pi h0 la)) na (RI (OM nl la)) (λy c e=>OG (OM (nc y c e) la)) (λq hq=>OG (OM (np q hq) la)) ?_) (by simpa using hl) nd'.2 (λb hb=>?_) λj b q e1 e2=>hp (j+1) b q e1 e2
  ·exact⟨by show 2≤OA; decide,[k,x],.cons rk (.cons rx .nil),_,hg,rfl,_,rfl⟩
  ·obtain⟨lb,nb⟩:=ha b (OF _ hb)
   exact⟨lb,by rw [ao λz=>nd'.1 (by rw [<-z]; exact hb)]; exact nb⟩
def KN (td:TE):TE:=λσ H Q=>td σ H λx H1=>∃d kvs,x=.ref d/\H1 d=some (.dK kvs)/\kvs.length < 64/\∀as:List Oo,as.length=kvs.length->as.Nodup->(∀a∈as,H1 a=none) ->
 ∃out,fi (mx H1 as (kvs.map λp=>(kV p.1,p.2))) (as.map V.ref) (as.map V.ref) out/\∀p,mx H1 as (kvs.map λp=>(kV p.1,p.2)) p=none->Q (.ref p) (upd (mx H1 as (kvs.map λp=>(kV p.1,p.2))) p (.lst out))
theorem xS {s2:Os} {r:Oo} {Q:VK} (hc:X.calm=true)
  (hcol:∀(R:List Om->Os->Prop) (E:Om->Os->Prop),(∀H ys out vs g tk,aC X pins σ H { s2 with heap:=g,toks:=tk }->aO ys vs->ys.length < 64->fi H ys ys out->(∀p,H p=none->Q (.ref p) (upd H p (.lst out)))->R vs { s2 with heap:=g,toks:=tk }) ->
   Ov (OE X.prog X.w) X.A.in1 (collect (.ref r)) R E s2) :
  Ov (OE X.prog X.w) X.A (call (.builtin "sorted") [.ref r]) (EP X pins σ Q) X.xe s2:=by
 refine TQ UU Ur Us (Ys _) ?_
 unfold QX.«sorted»
 refine Ol (m:=VN "sorted" 1 1 _) (On (Ol (hcol _ _ λH ys out vs g tk I1 rv h64 so q=>?_)))
 have hl:=rv.length
 have few:vs.length≤OA:=by rw [O4]; omega
 refine Ol (Rw ?_ few)
 have hoL:(g.push (OO "list" vs.toArray 0)).get? g.objs.size=some (OO "list" vs.toArray 0):=Ox _ rfl
 have kL:Kp g (g.push (OO "list" vs.toArray 0)):=Kp.push _ _
 have nD:∀b ob,g.get? b=some ob->b≠g.objs.size:=λb ob e=>OG (Oy e)
 obtain⟨outv,ro,lo,sr⟩:=iI (prog:=X.prog) (w:=X.w) (A:=X.A.in1.in1) so rv rv rfl (by omega)
 show Ov _ _ _ _ _ { s2 with heap:=g.push (OO "list" vs.toArray 0),toks:=tk }
 refine Ol (Ps (Po TD ⟨_,hoL,rfl⟩ SW ?_ (Xl _)))
 refine IZ (s:={ s2 with heap:=g.push (OO "list" vs.toArray 0),toks:=tk }) hoL (by omega) (λh' tk' kp=>sr _ ?_) λh' c kp hD=>⟨_,rfl,On ⟨_,rfl,?_⟩⟩
 ·exact (I1.kept (h':=h') (t':=tk') λb ob e=>kp b ob (nD b ob e) (kL b ob e)).hok
 ·have e1:out.length≤OA:=by rw [ro.length,O4]; omega
  exact⟨.ref g.objs.size,_,I1.laid (a:=g.objs.size) (h':=h') (o:=.lst out) (t':=tk) (λb ob e=>kp b ob (nD b ob e) (kL b ob e)) (OB _) ⟨e1,outv,c,ro,hD⟩,rfl,q _ (I1.hok.fresh (OB _))⟩
theorem FH {td:TE} {o:OP} {p pos apos cpos:Pos} (hc:X.calm=true) (hg:Gl X "sorted") (hm:X.mg "sorted" = none) (hv:Pb "sorted" = some (.builtin "sorted")) (ho:PE X o td) (hbase:OW o "items" X.env (O2 o X.env)=O2 o X.env:=by nofun) (hline:(apos.endLine == cpos.line)=true:=by nofun)
  (he:OQ [.Call (.Attribute o "items" apos) [] [] cpos] X.env=(false,O2 (.Call (.Attribute o "items" apos) [] [] cpos) X.env)::OQ [] X.env:=by nofun) (hpl:(Qa pos (OQ [] X.env)).any (·.1)=false:=by nofun) :
  PE X (.Call (.Name "sorted" p) [.Call (.Attribute o "items" apos) [] [] cpos] [] pos) (KN td):=by
 intro pins s σ H Q I h
 refine Pk (iw I hg hm hv ?_ (by decide) (by decide))
 refine Rm ?_ he hpl
 rw [he]
 show Ov _ _ (Zy ((false,O2 (.Call (.Attribute o "items" apos) [] [] cpos) X.env)::Qa pos (OQ [] X.env))) _ _ s
 refine Qo (Ue hbase hline (bG (ho pins s σ H _ I h) λv s1 ⟨x,H1,I1,r1,d,kvs,ex,ha,h64,q⟩=>?_))
 subst ex
 cases r1
 obtain⟨z,hd,vs,rv,dd⟩:=ur I1.hok ha
 obtain⟨ep,dat⟩:=dd.dictAt
 obtain⟨ob,es,ep',prs,hob,op,pr,hsys⟩:=uF (I1.hok d _ ha) rfl
 have ty:s1.TypeIs (.ref d) "dict":=⟨ob,hob,op.ex.1⟩
 refine⟨"dict","dict.items",QB,Ro,Uf,ty,λb e=>by cases e; exact⟨ob,hob,op.ex.2.1⟩,Qi rfl (Vm ?_)⟩
 refine RJ Ro ty T5 (TN _) (xx hsys) ⟨ty,?_⟩
 have I2:aC X pins σ H1 { s1 with heap:=s1.heap.push { cls:=.type "dict_items",data:=.fields #[.ref d] } }:=I1.kept (t':=s1.toks) λb o e=>Op _ e
 refine RC (xS hc λR E hR=>?_)
 refine kdx_collect (knd:=aV X.prog X.w) (kvs:=vs) (ep:=ep) (d:=d) (I.ok.hd hc) ⟨_,Ox _ rfl,rfl,rfl⟩ (dat.push _) (by rw [<-rv.length]; exact z) λg tk as hk hl hG=>?_
 have hl':as.length=kvs.length:=by rw [hl,rv.length]
 have nd:as.Nodup:=hG.rise.imp OG
 have I3:aC X pins σ H1 { s1 with heap:=g,toks:=tk }:=I2.kept (h':=g) (t':=tk) hk
 have fr:∀a∈as,H1 a=none:=λa m=>I2.hok.fresh (PY (hG.above a m))
 obtain⟨out,so,qq⟩:=q as hl' nd fr
 refine hR (mx H1 as (kvs.map λp=>(kV p.1,p.2))) (as.map V.ref) out _ g tk ?_ ?_ (by rw [O7,hl']; exact h64) so qq
 ·refine FG (lo:=(s1.heap.push { cls:=.type "dict_items",data:=.fields #[.ref d] }).objs.size) I2.sz I2.lt (λy c e=>?_) (λp hp=>?_) I3 (by rw [O7]; exact hl') nd (λa m=>⟨PY (hG.above a m),fr a m⟩) λj a p e1 e2=>?_
  ·obtain⟨v,o,e',_⟩:=I2.cell y c e; exact Oy e'
  ·exact Oy (I2.pin p hp).1
  ·obtain⟨key,k,x,e3,e4,e5⟩:=hG.pairs j a e1
   rw [PF] at e2
   obtain⟨⟨k',v'⟩,e6,rfl⟩:=QN.mp e2
   obtain⟨b,e7,e8,e9⟩:=Mc rv e6
   rw [e3] at e7; cases e7
   have e8:k'=k:=e8
   subst e8
   exact⟨key,x,AX e4,e9,e5⟩
 ·exact Je as
end
end L2
namespace RB
open PySem PySem.Spec PyProof.Rows L2
section
variable {S:aU}
theorem xT:∀{as:List Oo} {ps:List (V×V)} {H:Hp},aM g F y ρ S H->as.Nodup->(∀a∈as,H a=none)->aE F y ρ H y ρ (mx H as ps)/\aM g F y ρ S (mx H as ps)
 | [],_,_,C,_,_=>⟨.refl,C⟩
 | _::_,[],_,C,_,_=>⟨.refl,C⟩
 | a::as,p::ps,H,C,nd,ha=>by
  have nd':=PM.mp nd
  have h0:=ha a Oz
  have st:aE F y ρ H y ρ (upd H a (.tup [p.1,p.2])):=aE.lay h0
  obtain⟨s2,C2⟩:=xT (as:=as) (ps:=ps) (H:=upd H a (.tup [p.1,p.2])) (C.lay h0) nd'.2 λb hb=>by
   rw [ao λz=>nd'.1 (by rw [<-z]; exact hb)]; exact ha b (OF _ hb)
  exact⟨st.trans s2,C2⟩
def M5:List (AV×AV)->List AV
 | []=>[]
 | p::r=>.tc p.1 (.tc p.2 .tn)::M5 r
theorem xU:∀{as:List Oo} {ps:List (V×V)} {H:Hp} {b:Oo} {u:HO},H b=some u->(∀a∈as,a≠b)->mx H as ps b=some u
 | [],_,_,_,_,h,_=>h
 | _::_,[],_,_,_,h,_=>h
 | a::as,p::ps,H,b,u,h,n=>xU (as:=as) (ps:=ps) (H:=upd H a (.tup [p.1,p.2])) (by rw [ao (P5 (n a Oz))]; exact h) λc hc=>n c (OF _ hc)
theorem Bh {Hf:Hp} (mo:∀b vs,H b=some (.tup vs)->Hf b=some (.tup vs)):∀{as:List Oo} {kvs:List (AV×AV)} {ks:List (bv×V)} {H1:Hp},as.length=ks.length->as.Nodup->(∀a∈as,H1 a=none)->Paired (λp q=>gR p.1 q.1/\aY F y ρ H p.2 q.2) kvs ks->mx H1 as (ks.map λp=>(kV p.1,p.2))=Hf ->
  aZ F y ρ Hf (M5 kvs) (as.map V.ref)
 | [],_,_,_,h,_,_,pr,_=>by
  cases pr with
  | nil=>exact .nil
  | cons _ _=>cases h
 | a::as,_,_,H1,h,nd,ha,pr,e=>by
  cases pr with
  | nil=>cases h
  | @cons p q kvs ks h0 t =>
   have nd':=PM.mp nd
   have e':mx (upd H1 a (.tup [kV q.1,q.2])) as (ks.map λp=>(kV p.1,p.2))=Hf:=e
   have hk:Hf a=some (.tup [kV q.1,q.2]):=by
    rw [<-e']
    exact xU aF λb hb z=>nd'.1 (by rw [<-z]; exact hb)
   refine .cons ⟨a,kV q.1,[q.2],rfl,hk,?_,⟨q.2,[],rfl,?_,rfl⟩⟩ (Bh mo (by simpa using h) nd'.2 (λb hb=>by rw [ao λz=>nd'.1 (by rw [<-z]; exact hb)]; exact ha b (OF _ hb)) t e')
   ·exact mm h0.1
   ·exact aY.monoM ⟨λ_ h=>h,λh=>h,mo⟩ h0.2
end
section
variable {o:OP} {ba:BE} {p pos apos cpos:Pos}
def FI (ba:BE):BE:=λσ S k=>ba σ S λx S1=>match x with
 | .ref i=>match S1.t.get i with
  | some (.dk kvs)=>match Qk kvs.length 64 with
   | true=>match qW (M5 kvs) (M5 kvs) with
    | some out=>k (.ref S1.n) (S1.add (.lst out))
    | none=>false
   | false=>false
  | _=>false
 | _=>false
theorem FJ (hc:X.calm=true) (hm:X.mg "sorted" = none) (hv:Pb "sorted" = some (.builtin "sorted")) (ho:PE X o (up g ba)) (hg:Gl X "sorted":=by nofun) (hbase:OW o "items" X.env (O2 o X.env)=O2 o X.env:=by nofun) (hline:(apos.endLine == cpos.line)=true:=by nofun)
  (he:OQ [.Call (.Attribute o "items" apos) [] [] cpos] X.env=(false,O2 (.Call (.Attribute o "items" apos) [] [] cpos) X.env)::OQ [] X.env:=by nofun) (hpl:(Qa pos (OQ [] X.env)).any (·.1)=false:=by nofun) :
  PE X (.Call (.Name "sorted" p) [.Call (.Attribute o "items" apos) [] [] cpos] [] pos) (up g (FI ba)):=by
 refine PE.imp (λσ H Q ⟨F,y,ρ,S,σa,k,C,r,h,pp⟩=>?_) (FH hc hg hm hv ho hbase hline he hpl)
 refine aD C r h λy1 ρ1 S1 H1 ax x st C1 r1 rx h1=>?_
 split at h1
 ·rename_i i
  split at h1
  ·rename_i kvs q
   split at h1
   ·rename_i q2
    split at h1
    ·rename_i out q3
     obtain⟨a,ks,rfl,hρ,ha,pr⟩:=C1.dk rx q
     have hl:kvs.length=ks.length:=Pe pr
     refine⟨a,ks,rfl,ha,by have:=bD q2; omega,λas la nd fr=>?_⟩
     obtain⟨st2,C2⟩:=xT (ps:=ks.map λp=>(kV p.1,p.2)) C1 nd fr
     have rl:=Bh (F:=F) (y:=y1) (ρ:=ρ1) (H:=H1) st2.tup la nd fr pr rfl
     obtain⟨outv,so,ro⟩:=qX C2.pos rl rl q3
     refine⟨outv,so,λpl hp=>?_⟩
     have st3:aE F y1 ρ1 (mx H1 as (ks.map λp=>(kV p.1,p.2))) y1 (ρ1++[pl]) (upd (mx H1 as (ks.map λp=>(kV p.1,p.2))) pl (.lst outv)):=aE.add hp
     exact pp y1 _ _ _ (.ref S1.n) _ ((st.trans st2).trans st3) (C2.add (o:=.lst out) hp ⟨outv,rfl,aZ.mono st3 ro⟩) ⟨pl,by rw [C2.n]; simp,rfl⟩ h1
    ·cases h1
   ·cases h1
  ·cases h1
 ·cases h1
end
end RB
namespace RB
open PySem L2
def kM (t r:Oo) (H H':Hp):Prop:=∀b o,H b=some o->b≠t->b≠r->H' b=some o
def cA (c:Int) (r:Oo):List (bv×V):=[(Rz "count",V.int c),(Rz "rests",V.ref r)]
theorem Oi:¬(("rests":Str) = "count"):=by decide +kernel
theorem N9:¬(("count":Str) = "rests"):=by decide +kernel
theorem jU (c:Int) (r:Oo):c3 (cA c r) (Rz "count")=some (.int c):=by simp [cA,c3]
theorem jV (c:Int) (r:Oo):c3 (cA c r) (Rz "rests")=some (.ref r):=by simp [cA,c3,N9]
theorem CN (c x:Int) (r:Oo):cW (cA c r) (Rz "count") (.int x)=cA x r:=by simp [cA,cW,Oi]
structure oA (kvs:List (bv×V)):Prop where
 nd:(kvs.map (·.1)).Nodup
 kv:∀p∈kvs,∃i j:Int,p=(RW i,V.int j)/\0≤i/\i < 64
structure lu (H:Hp) (t r:Oo):Prop where
 ne:t≠r
 tw:∃c,H t=some (.dK (cA c r))
 rs:∃kvs,H r=some (.dK kvs)/\oA kvs
theorem lu.notL {t r:Oo} (T:lu H t r) {a:Oo} {o:HO} (h:H a=some o) (n:∀kvs,o≠.dK kvs):a≠t/\a≠r:=by
 obtain⟨_,⟨c,h1⟩,kvs,h2,_⟩:=T
 exact⟨λe=>by subst e; rw [h1] at h; cases h; exact n _ rfl,λe=>by subst e; rw [h2] at h; cases h; exact n _ rfl⟩
theorem kM.sq {H H':Hp} {t r a:Oo} (e:kM t r H H') (T:lu H t r) (h:hW K H a xs):hW K H' a xs:=by
 rcases h with (h | ⟨o,h⟩) | h
 ·exact .inl (.inl (e _ _ h (T.notL h λ_ z=>nomatch z).1 (T.notL h λ_ z=>nomatch z).2))
 ·exact .inl (.inr ⟨o,e _ _ h (T.notL h λ_ z=>nomatch z).1 (T.notL h λ_ z=>nomatch z).2⟩)
 ·exact .inr h
theorem Bi:∀(n:Nat) (l:List Nat),l.Nodup->(∀x∈l,x < n)->l.length≤n
 | 0,l,_,h=>by
  cases l with
  | nil=>simp
  | cons x l=>exact absurd (h x Oz) (UC _)
 | n+1,l,nd,h=>by
  have h1:(l.erase n).Nodup:=nd.erase n
  have h2:=Bi n (l.erase n) h1 λx hx=>by
   have:=(X5 nd).mp hx
   have:=h x this.2
   omega
  have h3:=List.length_erase (a:=n) (l:=l)
  split at h3<;>omega
def KO:bv×V->Nat
 | (.inl i,_)=>i.toNat
 | _=>0
theorem oA.len {kvs:List (bv×V)} (R:oA kvs):kvs.length≤64:=by
 have h:=Bi 64 (kvs.map KO) ?_ ?_
 ·simpa using h
 ·have nd:=R.nd
  rw [List.Nodup,T0] at nd ⊢
  refine nd.imp_of_mem λ{p q} hp hq ne e=>?_
  obtain⟨i,j,rfl,h1,h2⟩:=R.kv p hp
  obtain⟨i',j',rfl,h3,h4⟩:=R.kv q hq
  simp [KO] at e
  have:i=i':=by omega
  subst this
  exact ne rfl
 ·intro x hx
  obtain⟨p,hp,rfl⟩:=RK.mp hx
  obtain⟨i,j,rfl,h1,h2⟩:=R.kv p hp
  simp [KO]
  omega
theorem oA.val {kvs:List (bv×V)} (R:oA kvs) {k:bv} {v:V} (h:c3 kvs k=some v):∃j:Int,v=.int j:=by
 unfold c3 at h
 rw [QN] at h
 obtain⟨p,hp,rfl⟩:=h
 obtain⟨i,j,rfl,_⟩:=R.kv p (List.mem_of_find?_eq_some hp)
 exact⟨j,rfl⟩
theorem oA.put {kvs:List (bv×V)} (R:oA kvs) {i j:Int} (h1:0≤i) (h2:i < 64):oA (cW kvs (.inl i) (.int j)):=by
 unfold cW
 split
 ·refine⟨?_,λp hp=>?_⟩
  ·have e:(kvs.map λkv=>if kv.1=(RW i:bv) then (kv.1,V.int j) else kv).map (·.1)=kvs.map (·.1):=by
    rw [Te]
    apply Vj
    intro p _
    simp only [Function.comp_apply]
    split<;>rfl
   rw [e]; exact R.nd
  ·obtain⟨q,hq,rfl⟩:=RK.mp hp
   split
   ·obtain⟨a,b,rfl,h3,h4⟩:=R.kv q hq
    exact⟨a,j,rfl,h3,h4⟩
   ·exact R.kv q hq
 ·rename_i hno
  refine⟨?_,λp hp=>?_⟩
  ·rw [List.map_append]
   refine Av R.nd λm=>hno ?_
   obtain⟨q,hq,e⟩:=RK.mp m
   exact List.any_eq_true.mpr ⟨q,hq,decide_eq_true e⟩
  ·rcases Pv.mp hp with hp | hp
   ·exact R.kv p hp
   ·simp at hp
    exact⟨i,j,hp,h1,h2⟩
section
def gW (K:Ou):Sp:=λvs H Q _=>∃a ns t r m,vs=[.ref a,.ref t,.int m]/\hW K H a (RH V.int ns)/\ns.length≤63/\lu H t r/\0 < m/\m≤1000000 /\
 ∀x H',0≤x->x < m->lu H' t r->kM t r H H'->Q (.int x) H'
theorem cm (x m:Int) (h:0 < m):0≤x % m/\x % m < m:=⟨Int.emod_nonneg _ (by omega),Int.emod_lt_of_pos _ h⟩
theorem fw:al ["_law_script","_law_town","_law_many","_law_at","_law_rest","_law_number"] ["_law_script","_law_town","_law_many"] (af (aG 103)):=⟨rfl,rfl,rfl,by decide +kernel,rfl,by decide +kernel,by decide +kernel⟩
theorem HM (d:cU K mg "_law_draw" (aG 103)) (M:Mods mg):Gi P w K mg base "_law_draw" 1 ["_law_script","_law_town","_law_many"] (gW K):=by
 refine d.ok fw (λvs H Q E h=>?_) (λ_ _ _ _ _ _ us hl=>match us,hl with | [_,_,_],_=>rfl) (λf cdv A outer s H vs Q E hr h=>?_)
 ·obtain⟨a,ns,t,r,m,rfl,_⟩:=h
  rfl
 ·obtain⟨a,ns,t,r,m,rfl,hS,hns,T,hm,hm2,k⟩:=h
  have hu:=di hr
  apply Yv; apply ZP
  ·(conv=>arg 2; whnf)
   with_reducible exact (dU (w4 hu (pv 1) gO (fo fI (jp hu (pv 1) gO (by with_unfolding_all exact (λ_ _=>rfl))) cY) (by nofun))
   (dU (iy (i:=3) fw.nd (by nofun) (by with_unfolding_all exact (TB rfl)) (pY (wP (pv 0) (by with_unfolding_all exact (λ_=>rfl))) (fo m7 (jp hu (pv 1) gO (by with_unfolding_all exact (λ_ _=>rfl))) (lQ lT (by nofun) M.len QW (dW (pv 0) iA))) cY))
   (dU (iy (i:=4) fw.nd (by nofun) (by with_unfolding_all exact (TB rfl)) (BZ hu (jp hu (pv 1) gO (by with_unfolding_all exact (λ_ _=>rfl))) (pv 3) (pY (wP (pv 0) (by with_unfolding_all exact (λ_=>rfl))) (IB Aq (pv 0) (pv 3) (by with_unfolding_all exact (λ_ _=>rfl))) cY) (by with_unfolding_all exact⟨rfl,rfl,rfl,rfl⟩)))
   (dU (Iq (vh LA (pv 4) (fo Dz cY cY) (by with_unfolding_all exact (jj _))) (dU (w4 hu (jp hu (pv 1) gO (by with_unfolding_all exact (λ_ _=>rfl))) (pv 3) (fo vg (pv 4) (pv 2)) (by nofun))
   (pF (vf (fo m7 (pv 4) (pv 2))))) Aa)
   (dU (iy (i:=5) fw.nd (by nofun) (by with_unfolding_all exact (TB rfl)) (fo m7 (fo fI (pv 4) (fo Dy cY (jp hu (pv 1) gO (by with_unfolding_all exact (λ_ _=>rfl))))) cY))
   (dU (iy (i:=5) fw.nd (by nofun) (by with_unfolding_all exact (TB rfl)) (fo m7 (fo Dz (pv 5) cY) cY))
   (pF (vf (fo m7 (fo vg (fo m7 (fo fI (fo Dy (fo vg (pv 5) cY) cY) (pv 5)) cY) cY) (pv 2))))))))))
  have e0:L2.fq ["_law_script","_law_town","_law_many","_law_at","_law_rest","_law_number"] [.ref a,.ref t,.int m]=[some (.ref a),some (.ref t),some (.int m),none,none,none]:=rfl
  rw [e0]
  obtain⟨ne,⟨c,ht⟩,kvs,hk,R⟩:=id T
  have hl2:(cA c r).length < OA:=cF (by simp [cA])
  -- town["count"]=town["count"]+1
  simp only [vq,AA,B1,IH,QD,Sb,Ui,bZ,qE,Ee,AB,w6,List.set_cons_succ,List.set_cons_zero,GV,B0,yV,D9,pI,Eb,om,yW,JX,JZ,Ed,AC,l0,cQ ht,jU,qD,CN]
  refine⟨hl2,?_⟩
  have s1:kM t r H (upd H t (.dK (cA (c+1) r))):=λb o h n1 n2=>by
   rw [ao n1]; exact h
  generalize hH1:upd H t (.dK (cA (c+1) r))=H1 at s1
  have ht1:H1 t=some (.dK (cA (c+1) r)):=by rw [<-hH1]; exact aF
  have hk1:H1 r=some (.dK kvs):=by rw [<-hH1,ao ne.symm]; exact hk
  have hS1:=s1.sq T hS
  have T1:lu H1 t r:=⟨ne,⟨_,ht1⟩,kvs,hk1,R⟩
  have rest_int:∀(i z:Int),∃j:Int,(c3 kvs (RW i)).getD (V.int z)=V.int j:=λi z=>by
   cases e:c3 kvs (RW i:bv) with
   | none=>exact⟨z,rfl⟩
   | some v=>obtain⟨j,rfl⟩:=R.val e; exact⟨j,rfl⟩
  have hl64:kvs.length < OA:=cF (Pi R.len (by decide))
  have fin2:∀(i j:Int),0≤i->i < 64->lu (upd H1 r (.dK (cW kvs (.inl i) (.int j)))) t r/\kM t r H (upd H1 r (.dK (cW kvs (.inl i) (.int j)))):=λi j h0 h1=>by
   refine⟨⟨ne,⟨_,by rw [ao ne]; exact ht1⟩,_,aF,R.put h0 h1⟩,λb o h n1 n2=>?_⟩
   rw [ao n2]
   exact s1 b o h n1 n2
  refine⟨!(ns.map V.int).isEmpty,.inl ⟨_,hS1,rfl⟩,?_⟩
  cases hns0:ns with
  | nil =>
   rw [hns0] at hS1
   simp only [Ta,Wu,X6,OT,cQ ht1,bZ,jV,cQ hk1,if_false]
   refine⟨!(([]:List Int).map V.int).isEmpty,.inl ⟨_,hS1,rfl⟩,?_⟩
   simp only [Ta,Wu,X6,OT,if_false]
   obtain⟨rest,hrest⟩:=rest_int 0 0
   rw [hrest]
   have h0:(0:Int)≤0:=by decide
   have h1:(0:Int) < 64:=by decide
   simp only [om,qD,Ea]
   refine⟨⟨by decide,by decide,by decide⟩,?_⟩
   by_cases hb:(10:Int) ^ Wv 18≤rest
   ·simp only [hb,decide_true,cQ ht1,bZ,jV,qE,cQ hk1,l0,pI,yV,vq,QD,Sb,Ui,om,if_true]
    exact⟨⟨hm,by omega⟩,hl64,hm,k _ _ (cm _ _ hm).1 (cm _ _ hm).2 (fin2 _ _ h0 h1).1 (fin2 _ _ h0 h1).2⟩
   ·simp only [hb,decide_false,OT,cQ ht1,bZ,jU,om,qD,if_false]
    refine⟨.inl ⟨by decide,by decide⟩,by decide,?_⟩
    generalize hx:(rest+104729 * (c+1)) % 4294967291=x
    have x0:0≤x/\x < 4294967291:=by rw [<-hx]; exact cm _ _ (by decide)
    refine⟨⟨by decide,by decide,by omega⟩,by decide,?_⟩
    generalize hy:x ^ Wv 5 % 4294967279=y
    have y0:0≤y/\y < 4294967279:=by rw [<-hy]; exact cm _ _ (by decide)
    refine⟨⟨by decide,by decide⟩,.inr ⟨by decide,by decide⟩,by decide,⟨by decide,by decide⟩,hm,k _ _ (cm _ _ hm).1 (cm _ _ hm).2 T1 s1⟩
  | cons n0 ns' =>
   rw [hns0] at hS1 hns
   simp only [OV,Wb,Xp,cQ ht1,bZ,jU,om,l0,if_true]
   refine⟨a,_,rfl,.inl hS1,?_⟩
   have hlen:((RH V.int (n0::ns')).length:Int)=((n0::ns').length:Int):=by simp
   rw [hlen]
   have hlp:(0:Int) < ((n0::ns').length:Int):=by simp only [Pw]; omega
   refine⟨hlp,?_⟩
   have hat:=cm (c+1) _ hlp
   generalize hatx:(c+1) % ((n0::ns').length:Int)=at' at hat
   have h0:0≤at':=hat.1
   have h1:at' < 64:=by have:=hat.2; simp at this hns; omega
   simp only [jV,bZ,cQ hk1]
   refine⟨!((n0::ns').map V.int).isEmpty,.inl ⟨_,hS1,rfl⟩,?_⟩
   simp only [OV,Wb,Xp,if_true]
   obtain⟨j,rfl⟩:=Uj h0
   have hj:j < (n0::ns').length:=by have:=hat.2; omega
   refine⟨a,_,_,.int ((n0::ns')[j]),rfl,rfl,hS1,Ao (by rw [PF,Pt hj]; rfl),?_⟩
   simp only [cQ hk1,bZ]
   obtain⟨rest,hrest⟩:=rest_int (j:Int) ((n0::ns')[j])
   rw [hrest]
   simp only [om,qD,Ea]
   refine⟨⟨by decide,by decide,by decide⟩,?_⟩
   by_cases hb:(10:Int) ^ Wv 18≤rest
   ·simp only [hb,decide_true,cQ ht1,bZ,jV,qE,cQ hk1,l0,pI,yV,vq,QD,Sb,Ui,om,if_true]
    exact⟨⟨hm,by omega⟩,hl64,hm,k _ _ (cm _ _ hm).1 (cm _ _ hm).2 (fin2 _ _ h0 h1).1 (fin2 _ _ h0 h1).2⟩
   ·simp only [hb,decide_false,OT,cQ ht1,bZ,jU,om,qD,if_false]
    refine⟨.inl ⟨by decide,by decide⟩,by decide,?_⟩
    generalize hx:(rest+104729 * (c+1)) % 4294967291=x
    have x0:0≤x/\x < 4294967291:=by rw [<-hx]; exact cm _ _ (by decide)
    refine⟨⟨by decide,by decide,by omega⟩,by decide,?_⟩
    generalize hy:x ^ Wv 5 % 4294967279=y
    have y0:0≤y/\y < 4294967279:=by rw [<-hy]; exact cm _ _ (by decide)
    refine⟨⟨by decide,by decide⟩,.inr ⟨by decide,by decide⟩,by decide,⟨by decide,by decide⟩,hm,k _ _ (cm _ _ hm).1 (cm _ _ hm).2 T1 s1⟩
def Bj:Sp:=λvs H Q _=>vs=[]/\∀t r H',lu H' t r->JQ H H'->H t=none->H r=none->Q (.ref t) H'
theorem v6:al [] [] (af (aG 104)):=⟨rfl,rfl,rfl,by decide +kernel,rfl,by decide +kernel,by decide +kernel⟩
theorem FK (d:cU K mg "_law_begun" (aG 104)) (M:Mods mg):Gi P w K mg base "_law_begun" 1 [] Bj:=by
 refine d.ok v6 (λvs H Q E h=>?_) (λ_ _ _ _ _ _ us hl=>match us,hl with | [],_=>rfl) (λf cdv A outer s H vs Q E hr h=>?_)
 ·obtain⟨rfl,_⟩:=h
  rfl
 ·obtain⟨rfl,k⟩:=h
  apply Yv; apply ZP
  ·(conv=>arg 2; whnf)
   with_reducible exact (pF (vf (Au (qo gO cY (qo gO wV At)) (by nofun) (by nofun) (by simp) (by decide))))
  simp only [pI]
  intro p hp
  simp only [qj]
  simp only [IH]
  intro q hq
  have hqp:q≠p:=λe=>by subst e; rw [aF] at hq; cases hq
  have hq0:H q=none:=by rw [<-hq,ao hqp]
  refine⟨by rw [ao hqp.symm]; exact aF,cA 0 q,rfl,by show 2≤15; decide,?_⟩
  have e:dB [] (cA 0 q)=cA 0 q:=by simp [dB,cA,cW,N9]
  rw [e]
  refine k p q _ ⟨hqp.symm,⟨0,aF⟩,[],by rw [ao hqp]; exact aF,⟨Tx,λ_ h=>by simp at h⟩⟩ ?_ hp hq0
  intro b o h
  rw [ao (cX h hp),ao (cX h hq0),ao (cX h hp)]
  exact h
end
end RB
namespace RB
open PySem PySem.Spec PyProof.Rows L2
def jz (K:Ou) (F:Fx):Prop:=∃a ns t r,F.ext 11=.ref a/\F.ext 12=.ref t/\F.own t/\F.own r /\
 (∀H,F.J H->hW K H a (RH V.int ns)/\ns.length≤63/\lu H t r)/\∀H H',F.J H->lu H' t r->kM t r H H'->F.J H'
def FL (k:AV->aU->Bool) (S:aU):Nat->Bool
 | 0=>true
 | n+1=>match FL k S n with
  | true=>k (.int false (.ofNat n) (.ofNat n)) S
  | false=>false
def HN (S:aU):aU:=⟨S.n,true,S.t⟩
def oB (r:BA):BE:=λσ S k=>r σ S λxs S1=>match xs with
 | [.ext i,.ext j,.int false (.ofNat lo) (.ofNat hi)]=>match OL i 11 && OL j 12 && OL lo hi with
  | true=>match Qk lo 10 with
   | true=>match Qk 0 lo with
    | true=>FL k S1 lo
    | false=>false
   | false=>match S1.sym with
    | true=>false
    | false=>match Pg lo 1000 with
     | true=>match k (.int false 0 0) S1 with
      | true=>k (.int true 0 0) (HN S1)
      | false=>false
     | false=>false
  | false=>false
 | _=>false
section
theorem Bk {k:AV->aU->Bool} {S:aU}:∀{n:Nat},FL k S n=true->∀i,i < n->k (.int false (.ofNat i) (.ofNat i)) S=true
 | 0,_,i,hi=>absurd hi (UC _)
 | n+1,h,i,hi=>by
  unfold FL at h
  cases q:FL k S n with
  | false=>rw [q] at h; cases h
  | true =>
   rw [q] at h
   rcases Yt i n with z | z
   ·exact Bk q i z
   ·have:i=n:=by omega
    subst this; exact h
theorem FM {br:BA} (hd:∀F,g.dr F->jz K F):∀σ H Q,up g (oB br) σ H Q->iV (gW K) [] E0 (hV g br) σ H Q:=λσ H Q ⟨F,y,ρ,S,σa,k,C,r,h,p⟩ =>
 bq C r h λy1 ρ1 S1 H1 axs xs st C1 r1 rx h1=>by
  split at h1
  ·rename_i i j lo hi
   split at h1
   ·rename_i q
    simp only [OI] at q
    have ei:=OD q.1.1
    have ej:=OD q.1.2
    have el:=OD q.2
    subst ei ej el
    obtain⟨a,ns,t,rr,e1,e2,ot,orr,fj,re⟩:=hd F C1.fl.dr
    match xs,rx with
    | [x0,x1,x2],.cons r0 (.cons r2 (.cons r3 .nil)) =>
    have e3:x0=.ref a:=(show x0=F.ext 11 from r0).trans e1
    have e4:x1=.ref t:=(show x1=F.ext 12 from r2).trans e2
    obtain⟨z,rfl,b1,b2⟩:=r3
    have e5:z=Q7 lo:=by omega
    subst e3 e4 e5
    obtain⟨sq,hn,T⟩:=fj H1 C1.J
    -- what a draw leaves
    have nt:∀c∈ρ1,c≠t/\c≠rr:=λc hc=>⟨λz=>C1.own c hc (by rw [z]; exact ot),λz=>C1.own c hc (by rw [z]; exact orr)⟩
    have fin:∀(x:Int) (H2:Hp) (y2:Option Int) (S2:aU) (av:AV),lu H2 t rr->kM t rr H1 H2->(∀z,y1=some z->y2=some z)->S2.n=S1.n->S2.t=S1.t->S2.sym=y2.isSome->(∀z,y2=some z->1≤z)->aY F y2 ρ1 H2 av (.int x)->k av S2=true->Q (.int x) H2:=λx H2 y2 S2 av T2 sx hy sn stt ss sp ra hk=>by
     have kt:∀b vs,H1 b=some (.tup vs)->H2 b=some (.tup vs):=λb vs q=>sx b _ q (T.notL q λ_ z=>nomatch z).1 (T.notL q λ_ z=>nomatch z).2
     have st2:aE F y1 ρ1 H1 y2 ρ1 H2:=by
      refine⟨hy,⟨[],by simp⟩,λ_ h=>.inl h,λb o q n w=>sx b o q (λz=>w (by rw [z]; exact ot)) (λz=>w (by rw [z]; exact orr)),kt,λb q=>?_,λb o u q=>sx b _ q (T.notL q λ_ z=>nomatch z).1 (T.notL q λ_ z=>nomatch z).2⟩
      cases e:H1 b with
      | none=>rfl
      | some o =>
       obtain⟨_,⟨c,t1⟩,kvs,t2,_⟩:=T2
       by_cases z1:b=t
       ·rw [z1,t1] at q; cases q
       ·by_cases z2:b=rr
        ·rw [z2,t2] at q; cases q
        ·rw [sx b o e z1 z2] at q; cases q
     have C2:aM g F y2 ρ1 S2 H2:=by
      refine⟨by rw [sn]; exact C1.n,ss,sp,C1.nd,λi c ec=>?_,C1.own,C1.fe,λb w q=>C1.ol b w (st2.live b q),re H1 H2 C1.J T2 sx,C1.fl⟩
      obtain⟨o,ho,h1,h2,h3⟩:=C1.at_ i c ec
      have:=nt c (OR ec)
      exact⟨o,ho,by rw [stt]; exact h1,sx c ho h2 this.1 this.2,dE.mono st2 h3⟩
     exact p y2 ρ1 S2 H2 av _ (st.trans st2) C2 ra hk
    split at h1
    ·rename_i ql
     split at h1
     ·rename_i q0
      have q0:0+1≤lo:=bD q0
      have ql:lo+1≤10:=bD ql
      refine⟨a,ns,t,rr,Q7 lo,rfl,sq,hn,T,?_,?_,λx H2 x0 x1 T2 sx=>?_⟩
      ·show (0:Int) < (lo:Int); omega
      ·show (lo:Int)≤1000000; omega
      ·obtain⟨n,rfl⟩:=Uj x0
       have hlt:n < lo:=by
        have:(n:Int) < (lo:Int):=x1
        omega
       exact fin _ H2 y1 S1 (.int false (.ofNat n) (.ofNat n)) T2 sx (λ_ h=>h) rfl rfl C1.sym C1.pos ⟨_,rfl,Qy _,Qy _⟩ (Bk h1 n hlt)
     ·cases h1
    ·rename_i ql
     have ql:¬lo < 10:=λz=>by
      have:Qk lo 10=true:=by simp [Zu]; exact z
      rw [this] at ql; cases ql
     split at h1
     ·cases h1
     ·rename_i qs
      split at h1
      ·rename_i qm
       have qm:=bD qm
       split at h1
       ·rename_i h0
        refine⟨a,ns,t,rr,Q7 lo,rfl,sq,hn,T,?_,?_,λx H2 x0 x1 T2 sx=>?_⟩
        ·show (0:Int) < (lo:Int); omega
        ·show (lo:Int)≤1000000; omega
        ·by_cases z:x=0
         ·subst z
          exact fin 0 H2 y1 S1 (.int false 0 0) T2 sx (λ_ h=>h) rfl rfl C1.sym C1.pos ⟨0,rfl,Qy _,Qy _⟩ h0
         ·have hy:y1=none:=by
           have:=C1.sym
           rw [qs] at this
           cases y1 with
           | none=>rfl
           | some _=>cases this
          refine fin x H2 (some x) (HN S1) (.int true 0 0) T2 sx (λw hw=>by rw [hy] at hw; cases hw) rfl rfl rfl (λw hw=>by cases hw; omega) ⟨x,x,rfl,rfl,by omega,by omega⟩ h1
       ·cases h1
      ·cases h1
   ·cases h1
  ·cases h1
theorem jW {e:OP} {p pos:Pos} {br:BA} (c:Gi X.prog X.w X.K X.mg X.base "_law_draw" 1 ["_law_script","_law_town","_law_many"] (gW X.K)) (hd:∀F,g.dr F->jz X.K F) (hr:bn 1 X.A) (ha:PA X (e::es) (hV g br)) (hg:Gl X "_law_draw":=by nofun)
  (he:hE9 X e es:=by nofun) (hpl:hP9 X pos es:=by nofun):PE X (.Call (.Name "_law_draw" p) (e::es) [] pos) (up g (oB br)) :=
 PE.imp (FM hd) (vn c hr ha hg (by decide) he hpl)
end
def v7 (r:BA):BE:=λσ S k=>r σ S λxs S1=>match xs with
 | [.ext i,.ext j,.int false (.ofNat lo) (.ofNat hi)]=>match OL i 11 && OL j 12 && OL lo hi with
  | true=>match Qk 0 lo && Pg lo 1000 with
   | true=>k (.int false 0 (Q7 (lo - 1))) S1
   | false=>false
  | false=>false
 | _=>false
section
theorem CO {br:BA} (hd:∀F,g.dr F->jz K F):∀σ H Q,up g (v7 br) σ H Q->iV (gW K) [] E0 (hV g br) σ H Q:=λσ H Q ⟨F,y,ρ,S,σa,k,C,r,h,p⟩ =>
 bq C r h λy1 ρ1 S1 H1 axs xs st C1 r1 rx h1=>by
  split at h1
  ·rename_i i j lo hi
   split at h1
   ·rename_i q
    simp only [OI] at q
    have ei:=OD q.1.1
    have ej:=OD q.1.2
    have el:=OD q.2
    subst ei ej el
    obtain⟨a,ns,t,rr,e1,e2,ot,orr,fj,re⟩:=hd F C1.fl.dr
    match xs,rx with
    | [x0,x1,x2],.cons r0 (.cons r2 (.cons r3 .nil)) =>
    have e3:x0=.ref a:=(show x0=F.ext 11 from r0).trans e1
    have e4:x1=.ref t:=(show x1=F.ext 12 from r2).trans e2
    obtain⟨z,rfl,b1,b2⟩:=r3
    have e5:z=Q7 lo:=by omega
    subst e3 e4 e5
    obtain⟨sq,hn,T⟩:=fj H1 C1.J
    -- what a draw leaves
    have nt:∀c∈ρ1,c≠t/\c≠rr:=λc hc=>⟨λz=>C1.own c hc (by rw [z]; exact ot),λz=>C1.own c hc (by rw [z]; exact orr)⟩
    have fin:∀(x:Int) (H2:Hp) (y2:Option Int) (S2:aU) (av:AV),lu H2 t rr->kM t rr H1 H2->(∀z,y1=some z->y2=some z)->S2.n=S1.n->S2.t=S1.t->S2.sym=y2.isSome->(∀z,y2=some z->1≤z)->aY F y2 ρ1 H2 av (.int x)->k av S2=true->Q (.int x) H2:=λx H2 y2 S2 av T2 sx hy sn stt ss sp ra hk=>by
     have kt:∀b vs,H1 b=some (.tup vs)->H2 b=some (.tup vs):=λb vs q=>sx b _ q (T.notL q λ_ z=>nomatch z).1 (T.notL q λ_ z=>nomatch z).2
     have st2:aE F y1 ρ1 H1 y2 ρ1 H2:=by
      refine⟨hy,⟨[],by simp⟩,λ_ h=>.inl h,λb o q n w=>sx b o q (λz=>w (by rw [z]; exact ot)) (λz=>w (by rw [z]; exact orr)),kt,λb q=>?_,λb o u q=>sx b _ q (T.notL q λ_ z=>nomatch z).1 (T.notL q λ_ z=>nomatch z).2⟩
      cases e:H1 b with
      | none=>rfl
      | some o =>
       obtain⟨_,⟨c,t1⟩,kvs,t2,_⟩:=T2
       by_cases z1:b=t
       ·rw [z1,t1] at q; cases q
       ·by_cases z2:b=rr
        ·rw [z2,t2] at q; cases q
        ·rw [sx b o e z1 z2] at q; cases q
     have C2:aM g F y2 ρ1 S2 H2:=by
      refine⟨by rw [sn]; exact C1.n,ss,sp,C1.nd,λi c ec=>?_,C1.own,C1.fe,λb w q=>C1.ol b w (st2.live b q),re H1 H2 C1.J T2 sx,C1.fl⟩
      obtain⟨o,ho,h1,h2,h3⟩:=C1.at_ i c ec
      have:=nt c (OR ec)
      exact⟨o,ho,by rw [stt]; exact h1,sx c ho h2 this.1 this.2,dE.mono st2 h3⟩
     exact p y2 ρ1 S2 H2 av _ (st.trans st2) C2 ra hk
    split at h1
    ·rename_i q0
     simp only [OI] at q0
     have q1:0+1≤lo:=bD q0.1
     have q2:lo≤1000:=bD q0.2
     refine⟨a,ns,t,rr,Q7 lo,rfl,sq,hn,T,?_,?_,λx H2 x0 x1 T2 sx=>?_⟩
     ·show (0:Int) < (lo:Int); omega
     ·show (lo:Int)≤1000000; omega
     ·have x1:x < (lo:Int):=x1
      exact fin x H2 y1 S1 (.int false 0 (Q7 (lo - 1))) T2 sx (λ_ h=>h) rfl rfl C1.sym C1.pos ⟨x,rfl,x0,by show x≤((lo - 1:Nat):Int); omega⟩ h1
    ·cases h1
   ·cases h1
  ·cases h1
theorem xV {e:OP} {p pos:Pos} {br:BA} (c:Gi X.prog X.w X.K X.mg X.base "_law_draw" 1 ["_law_script","_law_town","_law_many"] (gW X.K)) (hd:∀F,g.dr F->jz X.K F) (hr:bn 1 X.A) (ha:PA X (e::es) (hV g br)) (hg:Gl X "_law_draw":=by nofun)
  (he:hE9 X e es:=by nofun) (hpl:hP9 X pos es:=by nofun):PE X (.Call (.Name "_law_draw" p) (e::es) [] pos) (up g (v7 br)) :=
 PE.imp (CO hd) (vn c hr ha hg (by decide) he hpl)
def KP:AV->AV->aU->(AV->aU->Bool)->Bool:=λa b S k=>match a,b with
 | .int s lo hi,.int s' lo' hi'=>match Gk s lo hi s' lo' hi' with
  | some b=>k (.bl b) S
  | none=>match k (.bl true) S with
   | true=>k (.bl false) S
   | false=>false
 | _,_=>false
theorem HP:jq g (Ae λi j=>.bl (decide (i < j))) KP:=by
 intro F y ρ S H x z ax az k Q C rx rz h p
 cases ax with
 | int s lo hi=>cases az with
  | int s' lo' hi' =>
   obtain⟨i,rfl,b1⟩:=bf.mp rx
   obtain⟨j,rfl,b2⟩:=bf.mp rz
   refine⟨i,j,rfl,rfl,?_⟩
   dsimp only
   unfold KP at h
   dsimp only at h
   cases e:Gk s lo hi s' lo' hi' with
   | some b =>
    rw [e] at h
    rw [vC C.pos b1 b2 e]
    exact p.here C (av:=.bl b) rfl h
   | none =>
    rw [e] at h
    dsimp only at h
    split at h
    ·rename_i h0
     by_cases q:i < j
     ·rw [decide_eq_true q]; exact p.here C (av:=.bl true) rfl h0
     ·rw [decide_eq_false q]; exact p.here C (av:=.bl false) rfl h
    ·cases h
  | _=>cases h
 | _=>cases h
end
def Bl (K:Ou) (F:Fx):Prop:=jz K F/\∀H H',F.J H->F.J H'->∀b o u,F.own b->H b=some (.frz o u)->H' b=some (.frz o u)
section
variable {k n:Nat}
abbrev Md (P:OZ) (w:Pl) (K:Ou) (mg:Str->Option Om) (base:O9) (gy:Gy) (N:List Str) (x:Str) (st:Rf) (k:Nat) (b:BS) (f:Oo):Prop:=∀{cdv:Om} {A:P6} {outer:List Env} {s:Os} {H:Hp} {E:XK},bn k (A.deeper (QT x (af st) s.heap.objs.size f cdv))->(A.deeper (QT x (af st) s.heap.objs.size f cdv)).units+1 < Qf ->
 gN (ck (eB P w) P w K mg base N x (af st) f cdv A outer s H E) (a9 st) (c9 ⟨gy,E⟩ b)
theorem Jf {x:Str} {N ps:List Str} {b:BS} (d:cU K mg x st) (S:al N ps (af st)) (hb:Lc x x st ps) (hbody:∀{f},Md P w K mg base gy N x st k b f) (hn:ps.length=n:=by decide) (hN:ps.length≤N.length:=by decide) :
  j6 P w K mg base gy (eB P w) x (k+1) n (cf N.length b):=by
 obtain⟨f,fd,F,hm⟩:=d
 exact⟨f,fd,ps,hn,Bg F S hn hN λcdv A outer s H E hr=>hbody hr (di hr),hm,F.kp,F.binds λ_ _ _ _ _ _ us h=>hb us h⟩
theorem FN {c:Nat} {x q:Str} {N ps:List Str} {b:BS} (D:sv K (gy.cl c) x q st) (S:al N ps (af st)) (hb:Lc x q st ps) (hbody:∀{f},Md P w K mg base gy N q st k b f) (hn:ps.length=n:=by decide) (hN:ps.length≤N.length:=by decide) :
  nB P w K mg base gy (eB P w) c x (k+1) n [] (cf N.length b):=by
 obtain⟨f,fd,F,me⟩:=D
 exact⟨f,fd,ps,[],[],hn,Bg F S hn hN λcdv A outer s H E hr=>hbody hr (di hr),me,F.binds λ_ _ _ _ _ _ us h=>hb us h,.nil,λ_ _ _ _=>.nil⟩
def FO (P:OZ) (w:Pl) (K:Ou) (mg:Str->Option Om) (base:O9) (gy:Gy) (k n:Nat) (fs:List (Option BF)):Prop :=
 ∀j f,Hx fs j=some f->j < 11/\∃fd ps,ps.length=n/\cr P w K mg base (eB P w) k (gy.fe j) fd ps (mY gy n f)/\O3 K (.ref (gy.fe j))=true/\cP K fd ps []
theorem gF {x:Str} {k':Nat} {f:BF} {a:Oo} (c:j6 P w K mg base gy (eB P w) x k n f) (hm:mg x=some (.ref a)) (hk:k≤k'):∃fd ps,ps.length=n/\cr P w K mg base (eB P w) k' a fd ps (mY gy n f)/\O3 K (.ref a)=true/\cP K fd ps []:=by
 obtain⟨fa,fd,ps,hn,F,hm',kp,hb⟩:=c
 have e:=hm.symm.trans hm'
 cases e
 exact⟨fd,ps,hn,F.mono hk,kp,hb⟩
end
section
variable {ba:BE} {br:BA} {p pos:Pos} {e o:OP} {m x:Str} {k k' n:Nat} {f:BF}
theorem CP {kk:Nat} {fs:List (Option BF)} (hn:PE X (.Name x p) (up g ba)) (T:FO X.prog X.w X.K X.mg X.base g.toGy kk n fs) (hr:bn kk X.A) (hx:cB (eB X.prog X.w) X g.E) (ha:PA X (e::es) (hV g br))
  (he:hE9 X e es:=by nofun) (hpl:hP9 X pos es:=by nofun):PE X (.Call (.Name x p) (e::es) [] pos) (up g (Fj n fs ba br)):=by
 intro pins s σ H Q I ⟨F,y,ρ,S,σa,k,C,r,h,pp⟩
 refine Pk (bG (hn pins s σ H (λv H1=>∃j f y1 ρ1 S1,v=.ref (g.fe j)/\Hx fs j=some f/\aE F y ρ H y1 ρ1 H1/\aM g F y1 ρ1 S1 H1/\bL g F y1 ρ1 H1 σa σ/\br σa S1 (λxs S2=>bU n f xs S2 k σa.ke)=true) I (aD C r h λy1 ρ1 S1 H1 ax x st C1 r1 rx h1=>?_)) λu s1 ⟨v,H1,I1,rv,j,f,y1,ρ1,S1,ev,ej,st1,C1,r1,h1⟩=>?_)
 ·split at h1
  ·rename_i j
   split at h1
   ·rename_i f q
    have:=(T j f q).1
    exact⟨j,f,y1,ρ1,S1,by rw [<-C1.fe j this]; exact rx,q,st,C1,r1,h1⟩
   ·cases h1
  ·cases h1
 ·subst ev
  obtain rfl:u=OJ (g.fe j):=rv
  obtain⟨_,fd,ps,hps,Fn,hk,hb⟩:=T j f ej
  refine Qp (h₀:=X.base) I.ok.mod.kin hk (bG (ha pos pins s1 σ H1 (λvs H2=>mY g.toGy n f vs H2 Q g.E) I1 (bq C1 r1 h1 λy2 ρ2 S2 H2 axs xs st2 C2 r2 rxs h2=>?_)) λus s2 ⟨vs,H2,I2,rvs,q⟩=>⟨I2.kIn,?_⟩) he hpl
  ·unfold bU at h2
   cases q3:OL axs.length n with
   | false=>simp only [q3] at h2; cases h2
   | true =>
    simp only [q3] at h2
    exact⟨F,y2,ρ2,S2,_,k,σa.ke,C2,rxs,by rw [<-aW rxs]; exact OD q3,h2,pp.mono (st1.trans st2),r2.e⟩
  ·exact qf Fn hr hb .nil hx I2 rvs (by rw [QG]; exact q)
theorem Oa {pl:Sem Bool} {apos:Pos} {c:Nat} {dA:List AV} (M:nB X.prog X.w X.K X.mg X.base g.toGy (eB X.prog X.w) c m k n dA f) (hc:mX X.K (g.cl c)) (hr:bn k' X.A) (hx:cB (eB X.prog X.w) X g.E) (ho:PE X o (up g ba)) (ha:PA X (e::es) (hV g br)) (hk:k≤k':=by decide) (hm:∀i∈j0,bh[i]?≠some m:=by decide +kernel)
  (hst:hE9 X e es:=by nofun) (hpl:hP9 X pos es:=by nofun)
  (ht:O2 (.Call (.Attribute o m apos) (e::es) [] pos) X.env=(do
   let ov <-O2 o X.env
   QL apos.atName
   let (f,first) <-Ra [ov] (QA ov m pl)
   Rk pos f first (Qa pos (OQ (e::es) X.env)) (PD pos (O5 [] X.env))):=by nofun) :
  PE X (.Call (.Attribute o m apos) (e::es) [] pos) (up g (bd c n dA f ba br)):=AW M hc hm (hr.mono hk) hx ho ha hst hpl ht
end
def zL (r:BA):BE:=λσ S k=>r σ S λxs S1=>match xs with
 | [.ext i,.ext j,.int false (.ofNat lo) (.ofNat hi)]=>match OL i 11 && OL j 12 && OL lo hi with
  | true=>match Qk 1 lo && Pg lo 1000 with
   | true=>match k (.int false 0 0) S1 with
    | true=>k (.int false 1 (Q7 (lo - 1))) S1
    | false=>false
   | false=>false
  | false=>false
 | _=>false
section
theorem CQ {br:BA} (hd:∀F,g.dr F->jz K F):∀σ H Q,up g (zL br) σ H Q->iV (gW K) [] E0 (hV g br) σ H Q:=λσ H Q ⟨F,y,ρ,S,σa,k,C,r,h,p⟩ =>
 bq C r h λy1 ρ1 S1 H1 axs xs st C1 r1 rx h1=>by
  split at h1
  ·rename_i i j lo hi
   split at h1
   ·rename_i q
    simp only [OI] at q
    have ei:=OD q.1.1
    have ej:=OD q.1.2
    have el:=OD q.2
    subst ei ej el
    obtain⟨a,ns,t,rr,e1,e2,ot,orr,fj,re⟩:=hd F C1.fl.dr
    match xs,rx with
    | [x0,x1,x2],.cons r0 (.cons r2 (.cons r3 .nil)) =>
    have e3:x0=.ref a:=(show x0=F.ext 11 from r0).trans e1
    have e4:x1=.ref t:=(show x1=F.ext 12 from r2).trans e2
    obtain⟨z,rfl,b1,b2⟩:=r3
    have e5:z=Q7 lo:=by omega
    subst e3 e4 e5
    obtain⟨sq,hn,T⟩:=fj H1 C1.J
    -- what a draw leaves
    have nt:∀c∈ρ1,c≠t/\c≠rr:=λc hc=>⟨λz=>C1.own c hc (by rw [z]; exact ot),λz=>C1.own c hc (by rw [z]; exact orr)⟩
    have fin:∀(x:Int) (H2:Hp) (y2:Option Int) (S2:aU) (av:AV),lu H2 t rr->kM t rr H1 H2->(∀z,y1=some z->y2=some z)->S2.n=S1.n->S2.t=S1.t->S2.sym=y2.isSome->(∀z,y2=some z->1≤z)->aY F y2 ρ1 H2 av (.int x)->k av S2=true->Q (.int x) H2:=λx H2 y2 S2 av T2 sx hy sn stt ss sp ra hk=>by
     have kt:∀b vs,H1 b=some (.tup vs)->H2 b=some (.tup vs):=λb vs q=>sx b _ q (T.notL q λ_ z=>nomatch z).1 (T.notL q λ_ z=>nomatch z).2
     have st2:aE F y1 ρ1 H1 y2 ρ1 H2:=by
      refine⟨hy,⟨[],by simp⟩,λ_ h=>.inl h,λb o q n w=>sx b o q (λz=>w (by rw [z]; exact ot)) (λz=>w (by rw [z]; exact orr)),kt,λb q=>?_,λb o u q=>sx b _ q (T.notL q λ_ z=>nomatch z).1 (T.notL q λ_ z=>nomatch z).2⟩
      cases e:H1 b with
      | none=>rfl
      | some o =>
       obtain⟨_,⟨c,t1⟩,kvs,t2,_⟩:=T2
       by_cases z1:b=t
       ·rw [z1,t1] at q; cases q
       ·by_cases z2:b=rr
        ·rw [z2,t2] at q; cases q
        ·rw [sx b o e z1 z2] at q; cases q
     have C2:aM g F y2 ρ1 S2 H2:=by
      refine⟨by rw [sn]; exact C1.n,ss,sp,C1.nd,λi c ec=>?_,C1.own,C1.fe,λb w q=>C1.ol b w (st2.live b q),re H1 H2 C1.J T2 sx,C1.fl⟩
      obtain⟨o,ho,h1,h2,h3⟩:=C1.at_ i c ec
      have:=nt c (OR ec)
      exact⟨o,ho,by rw [stt]; exact h1,sx c ho h2 this.1 this.2,dE.mono st2 h3⟩
     exact p y2 ρ1 S2 H2 av _ (st.trans st2) C2 ra hk
    split at h1
    ·rename_i q0
     simp only [OI] at q0
     have q1:1+1≤lo:=bD q0.1
     have q2:lo≤1000:=bD q0.2
     refine⟨a,ns,t,rr,Q7 lo,rfl,sq,hn,T,?_,?_,λx H2 x0 x1 T2 sx=>?_⟩
     ·show (0:Int) < (lo:Int); omega
     ·show (lo:Int)≤1000000; omega
     ·have x1:x < (lo:Int):=x1
      split at h1
      ·rename_i hz
       by_cases z:x=0
       ·exact fin x H2 y1 S1 (.int false 0 0) T2 sx (λ_ h=>h) rfl rfl C1.sym C1.pos ⟨x,rfl,by omega,by omega⟩ hz
       ·exact fin x H2 y1 S1 (.int false 1 (Q7 (lo - 1))) T2 sx (λ_ h=>h) rfl rfl C1.sym C1.pos ⟨x,rfl,by omega,by show x≤((lo - 1:Nat):Int); omega⟩ h1
      ·cases h1
    ·cases h1
   ·cases h1
  ·cases h1
theorem FP {e:OP} {p pos:Pos} {br:BA} (c:Gi X.prog X.w X.K X.mg X.base "_law_draw" 1 ["_law_script","_law_town","_law_many"] (gW X.K)) (hd:∀F,g.dr F->jz X.K F) (hr:bn 1 X.A) (ha:PA X (e::es) (hV g br)) (hg:Gl X "_law_draw":=by nofun)
  (he:hE9 X e es:=by nofun) (hpl:hP9 X pos es:=by nofun):PE X (.Call (.Name "_law_draw" p) (e::es) [] pos) (up g (zL br)) :=
 PE.imp (CQ hd) (vn c hr ha hg (by decide) he hpl)
end
def zM (r:BA):BE:=λσ S k=>r σ S λxs S1=>match xs with
 | [.ext i,.ext j,.int false (.ofNat lo) (.ofNat hi)]=>match OL i 11 && OL j 12 && OL lo hi with
  | true=>match Qk 0 lo && Pg lo 1000 && not S1.sym with
   | true=>k (.int true (.negSucc 0) (.negSucc 0)) (HN S1)
   | false=>false
  | false=>false
 | _=>false
section
theorem CS {br:BA} (hd:∀F,g.dr F->jz K F):∀σ H Q,up g (zM br) σ H Q->iV (gW K) [] E0 (hV g br) σ H Q:=λσ H Q ⟨F,y,ρ,S,σa,k,C,r,h,p⟩ =>
 bq C r h λy1 ρ1 S1 H1 axs xs st C1 r1 rx h1=>by
  split at h1
  ·rename_i i j lo hi
   split at h1
   ·rename_i q
    simp only [OI] at q
    have ei:=OD q.1.1
    have ej:=OD q.1.2
    have el:=OD q.2
    subst ei ej el
    obtain⟨a,ns,t,rr,e1,e2,ot,orr,fj,re⟩:=hd F C1.fl.dr
    match xs,rx with
    | [x0,x1,x2],.cons r0 (.cons r2 (.cons r3 .nil)) =>
    have e3:x0=.ref a:=(show x0=F.ext 11 from r0).trans e1
    have e4:x1=.ref t:=(show x1=F.ext 12 from r2).trans e2
    obtain⟨z,rfl,b1,b2⟩:=r3
    have e5:z=Q7 lo:=by omega
    subst e3 e4 e5
    obtain⟨sq,hn,T⟩:=fj H1 C1.J
    -- what a draw leaves
    have nt:∀c∈ρ1,c≠t/\c≠rr:=λc hc=>⟨λz=>C1.own c hc (by rw [z]; exact ot),λz=>C1.own c hc (by rw [z]; exact orr)⟩
    have fin:∀(x:Int) (H2:Hp) (y2:Option Int) (S2:aU) (av:AV),lu H2 t rr->kM t rr H1 H2->(∀z,y1=some z->y2=some z)->S2.n=S1.n->S2.t=S1.t->S2.sym=y2.isSome->(∀z,y2=some z->1≤z)->aY F y2 ρ1 H2 av (.int x)->k av S2=true->Q (.int x) H2:=λx H2 y2 S2 av T2 sx hy sn stt ss sp ra hk=>by
     have kt:∀b vs,H1 b=some (.tup vs)->H2 b=some (.tup vs):=λb vs q=>sx b _ q (T.notL q λ_ z=>nomatch z).1 (T.notL q λ_ z=>nomatch z).2
     have st2:aE F y1 ρ1 H1 y2 ρ1 H2:=by
      refine⟨hy,⟨[],by simp⟩,λ_ h=>.inl h,λb o q n w=>sx b o q (λz=>w (by rw [z]; exact ot)) (λz=>w (by rw [z]; exact orr)),kt,λb q=>?_,λb o u q=>sx b _ q (T.notL q λ_ z=>nomatch z).1 (T.notL q λ_ z=>nomatch z).2⟩
      cases e:H1 b with
      | none=>rfl
      | some o =>
       obtain⟨_,⟨c,t1⟩,kvs,t2,_⟩:=T2
       by_cases z1:b=t
       ·rw [z1,t1] at q; cases q
       ·by_cases z2:b=rr
        ·rw [z2,t2] at q; cases q
        ·rw [sx b o e z1 z2] at q; cases q
     have C2:aM g F y2 ρ1 S2 H2:=by
      refine⟨by rw [sn]; exact C1.n,ss,sp,C1.nd,λi c ec=>?_,C1.own,C1.fe,λb w q=>C1.ol b w (st2.live b q),re H1 H2 C1.J T2 sx,C1.fl⟩
      obtain⟨o,ho,h1,h2,h3⟩:=C1.at_ i c ec
      have:=nt c (OR ec)
      exact⟨o,ho,by rw [stt]; exact h1,sx c ho h2 this.1 this.2,dE.mono st2 h3⟩
     exact p y2 ρ1 S2 H2 av _ (st.trans st2) C2 ra hk
    split at h1
    ·rename_i q0
     simp only [OI] at q0
     have q1:0+1≤lo:=bD q0.1.1
     have q2:lo≤1000:=bD q0.1.2
     refine⟨a,ns,t,rr,Q7 lo,rfl,sq,hn,T,?_,?_,λx H2 x0 x1 T2 sx=>?_⟩
     ·show (0:Int) < (lo:Int); omega
     ·show (lo:Int)≤1000000; omega
     ·have hy:y1=none:=by
       have:=C1.sym
       have q3:S1.sym=false:=by simpa using q0.2
       rw [q3] at this
       cases y1 with
       | none=>rfl
       | some _=>cases this
      refine fin x H2 (some (x+1)) (HN S1) (.int true (.negSucc 0) (.negSucc 0)) T2 sx (λw hw=>by rw [hy] at hw; cases hw) rfl rfl rfl (λw hw=>by cases hw; omega) ⟨x+1,x,rfl,rfl,by omega,by omega⟩ h1
    ·cases h1
   ·cases h1
  ·cases h1
theorem FQ {e:OP} {p pos:Pos} {br:BA} (c:Gi X.prog X.w X.K X.mg X.base "_law_draw" 1 ["_law_script","_law_town","_law_many"] (gW X.K)) (hd:∀F,g.dr F->jz X.K F) (hr:bn 1 X.A) (ha:PA X (e::es) (hV g br)) (hg:Gl X "_law_draw":=by nofun)
  (he:hE9 X e es:=by nofun) (hpl:hP9 X pos es:=by nofun):PE X (.Call (.Name "_law_draw" p) (e::es) [] pos) (up g (zM br)) :=
 PE.imp (CS hd) (vn c hr ha hg (by decide) he hpl)
end
section
def FR:List AV->aU->(AV->aU->Bool)->Bool:=λxs S k=>match xs with
 | [.int false lo hi,.int false lo' hi']=>k (.int false (sH lo lo') (sH hi hi')) S
 | [.int true lo hi,.int true lo' hi']=>k (.int true (sH lo lo') (sH hi hi')) S
 | [.int false lo hi,.int true lo' hi']=>match dw hi (lo'+1) with
  | true=>k (.int true lo' hi') S
  | false=>false
 | [.int true lo hi,.int false lo' hi']=>match dw hi' (lo+1) with
  | true=>k (.int true lo hi) S
  | false=>false
 | _=>false
theorem FS:oY g yY FR:=by
 intro F y ρ S H xs axs k Q C rx h p
 unfold FR at h
 split at h
 ·cases rx with | cons r t=>cases t with | cons r' t'=>cases t' with | nil =>
  obtain⟨i,rfl,a1,a2⟩:=r
  obtain⟨j,rfl,a3,a4⟩:=r'
  show Q (.int (if j > i then j else i)) H
  refine p.here C (av:=.int false _ _) ⟨_,rfl,?_⟩ h
  rw [pN,pN]
  split<;>constructor<;>omega
 ·cases rx with | cons r t=>cases t with | cons r' t'=>cases t' with | nil =>
  obtain⟨x,i,e,rfl,a1,a2⟩:=r
  obtain⟨x',j,e',rfl,a3,a4⟩:=r'
  rw [e] at e'; cases e'
  show Q (.int (if j > i then j else i)) H
  refine p.here C (av:=.int true _ _) ⟨x,_,e,rfl,?_⟩ h
  rw [pN,pN]
  split<;>constructor<;>omega
 ·split at h
  ·rename_i q
   rw [bT] at q
   cases rx with | cons r t=>cases t with | cons r' t'=>cases t' with | nil =>
   obtain⟨i,rfl,a1,a2⟩:=r
   obtain⟨x',j,e',rfl,a3,a4⟩:=r'
   have:=C.pos _ e'
   show Q (.int (if j > i then j else i)) H
   refine p.here C (av:=.int true _ _) ⟨x',_,e',rfl,?_⟩ h
   split<;>constructor<;>omega
  ·cases h
 ·split at h
  ·rename_i q
   rw [bT] at q
   cases rx with | cons r t=>cases t with | cons r' t'=>cases t' with | nil =>
   obtain⟨x',i,e',rfl,a1,a2⟩:=r
   obtain⟨j,rfl,a3,a4⟩:=r'
   have:=C.pos _ e'
   show Q (.int (if j > i then j else i)) H
   refine p.here C (av:=.int true _ _) ⟨x',_,e',rfl,?_⟩ h
   split<;>constructor<;>omega
  ·cases h
 ·cases h
end
def uX:AV->Bool
 | .ref _=>false
 | .tc h t=>match uX h with
  | true=>uX t
  | false=>false
 | _=>true
section
variable {y y1:Option Int} {ρ ρ1 ρ2:List Oo} {H H1:Hp} {S:aU}
theorem jX:∀{av:AV},uX av=true->(∀v,aY F y ρ H av v->aY F y ρ2 H av v)/\∀vs,xf F y ρ H av vs->xf F y ρ2 H av vs
 | .non,_=>⟨λ_ h=>h,λ_ h=>h⟩
 | .bl _,_=>⟨λ_ h=>h,λ_ h=>h⟩
 | .int false _ _,_=>⟨λ_ h=>h,λ_ h=>h⟩
 | .int true _ _,_=>⟨λ_ h=>h,λ_ h=>h⟩
 | .str _,_=>⟨λ_ h=>h,λ_ h=>h⟩
 | .ext _,_=>⟨λ_ h=>h,λ_ h=>h⟩
 | .tn,_=>⟨λ_ h=>h,λ_ h=>h⟩
 | .ref _,h=>nomatch h
 | .tc a t,h=>by
  unfold uX at h
  split at h
  ·rename_i q
   have h1:=jX (av:=a) q
   have h2:=jX (av:=t) h
   exact⟨λv ⟨b,w,ws,e,l,p1,p2⟩=>⟨b,w,ws,e,l,h1.1 w p1,h2.2 ws p2⟩,λvs ⟨w,r,e,p1,p2⟩=>⟨w,r,e,h1.1 w p1,h2.2 r p2⟩⟩
  ·cases h
def rh:List AV->Bool
 | []=>true
 | a::r=>match uX a with
  | true=>rh r
  | false=>false
theorem rj:∀{avs:List AV} {vs:List V},rh avs=true->aZ F y ρ H avs vs->aZ F y ρ2 H avs vs
 | _,_,_,.nil=>.nil
 | _,_,h,.cons p q=>by
  unfold rh at h
  split at h
  ·rename_i z
   exact .cons ((jX z).1 _ p) (rj h q)
  ·cases h
theorem aM.none (C:aM g F y ρ S H):aM g F y [] ⟨0,S.sym,.lf⟩ H :=
 ⟨rfl,C.sym,C.pos,Tx,λi a e=>by simp at e,λ_ h=>(nomatch h),C.fe,C.ol,C.J,C.fl⟩
theorem aE.wide (st:aE F y [] H y ρ1 H1):aE F y ρ H y ρ H1 :=
 ⟨λ_ h=>h,⟨[],by simp⟩,λ_ h=>.inl h,λb o h n w=>st.keep b o h (λz=>nomatch z) w,st.tup,st.live,st.frz⟩
theorem aM.wide (C:aM g F y ρ S H) (st:aE F y [] H y ρ1 H1) (j:F.J H1):aM g F y ρ S H1:=by
 have st2:aE F y ρ H y ρ H1:=st.wide
 refine⟨C.n,C.sym,C.pos,C.nd,λi c ec=>?_,C.own,C.fe,λb w q=>C.ol b w (st.live b q),j,C.fl⟩
 obtain⟨o,ho,h1,h2,h3⟩:=C.at_ i c ec
 exact⟨o,ho,h1,st.keep c ho h2 (λz=>nomatch z) (C.own c (OR ec)),dE.mono st2 h3⟩
end
def M6:Bool->Bool->Bool
 | true,true=>true
 | false,false=>true
 | _,_=>false
theorem FT:∀{a b:Bool},M6 a b=true->a=b
 | true,true,_=>rfl
 | false,false,_=>rfl
def Ob (f:BF) (avs:List AV):BF:=λ_ S k _=>match rh avs with
 | true=>match f avs ⟨0,S.sym,.lf⟩ (λv S1=>match v with | .tn=>M6 S1.sym S.sym | _=>false) (λ_ _ _=>false) with
  | true=>k .tn S
  | false=>false
 | false=>false
section
variable {k n:Nat} {f:BF}
def FU (f:BF):BF:=λavs S k ke=>match rh avs with
 | true=>match f avs ⟨0,S.sym,.lf⟩ (λv S1=>match v with | .tn=>M6 S1.sym S.sym | _=>false) (λ_ _ _=>false) with
  | true=>k .tn S
  | false=>f avs S k ke
 | false=>f avs S k ke
theorem Bm {Q:VK} {E:XK}:mY gy n (FU f) vs H Q E->mY gy n f vs H Q E:=λ⟨F,y,ρ,S,avs,kk,ke,C,r,hl,h,p,pe⟩=>by
 unfold FU at h
 split at h
 ·rename_i nr
  split at h
  ·rename_i hf
   refine⟨F,y,[],_,_,_,_,C.none,rj nr r,hl,hf,λy1 ρ1 S1 H1 av v st C1 rv hk=>?_,λ_ _ _ _ _ _ _ _ _ _ z=>by cases z⟩
   dsimp only at hk
   split at hk
   ·have e1:=(C1.sym.symm.trans (FT hk)).trans C.sym
    have ey:y1=y:=by
     cases hy:y with
     | none=>rw [hy] at e1; cases y1 with
      | none=>rfl
      | some z=>cases e1
     | some z=>exact st.y z hy
    subst ey
    exact p y1 ρ S H1 .tn v st.wide (C.wide st C1.J) rv h
   ·cases hk
  ·exact⟨F,y,ρ,S,avs,kk,ke,C,r,hl,h,p,pe⟩
 ·exact⟨F,y,ρ,S,avs,kk,ke,C,r,hl,h,p,pe⟩
theorem xW {CX:lP} {x:Str} (c:j6 P w K mg base gy CX x k n f):j6 P w K mg base gy CX x k n (FU f):=let ⟨fa,fd,ps,a,F,b⟩:=c
 ⟨fa,fd,ps,a,⟨λvs H Q E h=>F.len vs H Q E (Bm h),λA outer s H args us vs Q E hr he hb hv hs=>F.run A outer s H args us vs Q E hr he hb hv (Bm hs)⟩,b⟩
end
def Jg:BE:=λ_ _ _=>false
theorem FV {e:OP}:PE X e (up g Jg):=λ_ _ _ _ _ _ ⟨_,_,_,_,_,_,_,_,h,_⟩=>by cases h
def KQ:List (Option AV)->List (Option AV)
 | []=>[]
 | o::r=>(match o with
  | some a=>match uX a with
   | true=>some a
   | false=>none
  | none=>none)::KQ r
def M7:List (Option AV)->Nat->List (Option AV)
 | [],_=>[]
 | x::r,n=>match n with
  | 0=>none::r
  | n+1=>x::M7 r n
section
variable {y y1:Option Int} {ρ ρ1 ρ2:List Oo} {H H1:Hp} {S:aU}
theorem xX:∀{σa:List (Option AV)} {σ:L2.St},fT F y ρ H σa σ->fT F y ρ2 H (KQ σa) σ
 | _,_,.nil=>.nil
 | o::_,v::_,.cons p q=>by
  refine .cons ?_ (xX q)
  cases o with
  | none=>trivial
  | some a =>
   dsimp only
   split
   ·rename_i z
    cases v with
    | none=>exact p
    | some v=>exact (jX z).1 v p
   ·trivial
theorem Bn:∀{σa:List (Option AV)} {σ:L2.St} {i:Nat} {v:V},fT F y ρ H σa σ->fT F y ρ H (M7 σa i) (σ.set i (some v))
 | _,_,_,_,.nil=>.nil
 | _,_,0,_,.cons _ t=>.cons trivial t
 | _,_,i+1,_,.cons q t=>.cons q (Bn (i:=i) t)
def FW (be:BE) (i:Nat):BS:=λd σ S=>match be ⟨KQ σ.v,λ_ _ _=>false⟩ ⟨0,S.sym,.lf⟩ (λ_ S1=>M6 S1.sym S.sym) with
 | true=>d.nx ⟨M7 σ.v i,σ.ke⟩ S
 | false=>false
theorem HQ {x:Str} {e:OP} {be:BE} {pos p:Pos} (i:Nat) (h:PS X (.Assign [.Name x p] e pos) (k6 (up g be) (h8 i))):PS X (.Assign [.Name x p] e pos) (c9 g (FW be i)) :=
 PS.imp (λD σ H ⟨F,y,ρ,S,σa,d,C,r,h,pn,_⟩=>by
  unfold FW at h
  split at h
  ·rename_i hf
   refine⟨F,y,[],_,_,_,C.none,⟨xX r.v,λ_ _ _ _ _ _ _ _ _ _ z=>by cases z⟩,hf,λy1 ρ1 S1 H1 av v st C1 rv hk=>?_⟩
   have e1:=(C1.sym.symm.trans (FT hk)).trans C.sym
   have ey:y1=y:=by
    cases hy:y with
    | none=>rw [hy] at e1; cases y1 with
     | none=>rfl
     | some z=>cases e1
    | some z=>exact st.y z hy
   subst ey
   have r1:=r.mono (st.wide (ρ:=ρ))
   exact pn y1 ρ S H1 ⟨M7 σa.v i,σa.ke⟩ _ st.wide (C.wide st C1.J) ⟨Bn r1.v,r1.e⟩ h
  ·cases h) h
def FX (i:Nat) (a b:BS):BS:=λd σ S=>match LS σ i with
 | some (.bl true)=>a d σ S
 | _=>b d σ S
theorem HR {a b:BS} (i:Nat) (h1:PS X st (c9 g a)) (h2:PS X st (c9 g b)):PS X st (c9 g (FX i a b)):=λpins s σ H D I ⟨F,y,ρ,S,σa,d,C,r,h,p⟩=>by
 unfold FX at h
 split at h
 ·exact h1 pins s σ H D I ⟨F,y,ρ,S,σa,d,C,r,h,p⟩
 ·exact h2 pins s σ H D I ⟨F,y,ρ,S,σa,d,C,r,h,p⟩
end
structure NU (P:OZ) (w:Pl) (K:Ou) (mg:Str->Option Om) (gy:Gy):Prop where
 d_is_whole:cU K mg "is_whole" (aG 17)
 d_is_stretch:cU K mg "is_stretch" (aG 18)
 d_earlier_end:cU K mg "earlier_end" (aG 26)
 d_meets:cU K mg "meets" (aG 23)
 d_gaps_of:cU K mg "gaps_of" (aG 24)
 d_both:cU K mg "both" (aG 22)
 d_without:cU K mg "without" (aG 21)
 d_joined:cU K mg "joined" (aG 20)
 d_is_key:cU K mg "is_key" (aG 33)
 d_check_task:cU K mg "check_task" (aG 34)
 d_check_awake:cU K mg "check_awake" (aG 35)
 d_check_file:cU K mg "check_file" (aG 36)
 d_check_mode:cU K mg "check_mode" (aG 37)
 d_check_kind:cU K mg "check_kind" (aG 38)
 d_check_by:cU K mg "check_by" (aG 39)
 d_check_stretch:cU K mg "check_stretch" (aG 41)
 d_mark_at:cU K mg "mark_at" (aG 42)
 d_mark_of:cU K mg "mark_of" (aG 43)
 d_awake_mark:cU K mg "awake_mark" (aG 44)
 d_ask_entry:cU K mg "ask_entry" (aG 46)
 d_lock_order:cU K mg "lock_order" (aG 48)
 d_lock_rows:cU K mg "lock_rows" (aG 49)
 d_told_locks:cU K mg "told_locks" (aG 50)
 d_told_whole:cU K mg "told_whole" (aG 51)
 d_told_asks:cU K mg "told_asks" (aG 52)
 d_ask_of:cU K mg "ask_of" (aG 53)
 d_clash:cU K mg "clash" (aG 54)
 d_blocking_stretches:cU K mg "blocking_stretches" (aG 55)
 d_blocking_wholes:cU K mg "blocking_wholes" (aG 56)
 d_blocking_locks:cU K mg "blocking_locks" (aG 57)
 d_asks_are_against:cU K mg "asks_are_against" (aG 58)
 d_blocking_asks:cU K mg "blocking_asks" (aG 59)
 d_is_blocked:cU K mg "is_blocked" (aG 60)
 d_first_blocker:cU K mg "first_blocker" (aG 61)
 d_keep_lots:cU K mg "keep_lots" (aG 62)
 d_free_cells:cU K mg "free_cells" (aG 63)
 d_take:cU K mg "take" (aG 64)
 d_wake:cU K mg "wake" (aG 67)
 d_tasks_behind:cU K mg "tasks_behind" (aG 68)
 d_needs_of:cU K mg "needs_of" (aG 69)
 d_can_go:cU K mg "can_go" (aG 70)
 d_stuck_asks:cU K mg "stuck_asks" (aG 71)
 d_fall_asleep:cU K mg "fall_asleep" (aG 66)
 d_give_up_stuck:cU K mg "give_up_stuck" (aG 72)
 d_first_unblocked:cU K mg "first_unblocked" (aG 73)
 d_grant:cU K mg "grant" (aG 74)
 d_settle:cU K mg "settle" (aG 75)
 d_new_handle:cU K mg "new_handle" (aG 78)
 d_add_user:cU K mg "add_user" (aG 79)
 d_lead:cU K mg "lead" (aG 80)
 d_lose_user:cU K mg "lose_user" (aG 81)
 d_shut:cU K mg "shut" (aG 82)
 d_end_task:cU K mg "end_task" (aG 83)
 d_take_or_wait:cU K mg "take_or_wait" (aG 84)
 d_do_begin:cU K mg "do_begin" (aG 85)
 d_do_attach:cU K mg "do_attach" (aG 86)
 d_do_end:cU K mg "do_end" (aG 90)
 d_do_lock:cU K mg "do_lock" (aG 91)
 d_do_unlock:cU K mg "do_unlock" (aG 92)
 d_do_lock_whole:cU K mg "do_lock_whole" (aG 94)
 d_do_unlock_whole:cU K mg "do_unlock_whole" (aG 95)
 d_do_cancel:cU K mg "do_cancel" (aG 93)
 d_do_deed:cU K mg "do_deed" (aG 97)
 d__law_draw:cU K mg "_law_draw" (aG 103)
 d__law_begun:cU K mg "_law_begun" (aG 104)
 d__law_is_awake:cU K mg "_law_is_awake" (aG 105)
 d_lot_of:∃c,J0 K mg "lot_of" (aG 19) c/\SB K c gy.tT=true
 t_Tables_put:sv K (gy.cl 0) "put" "Tables.put" (ay (aG 99) 1)
 t_Tables_drop:sv K (gy.cl 0) "drop" "Tables.drop" (ay (aG 99) 2)
 t_Tables_fresh:sv K (gy.cl 0) "fresh" "Tables.fresh" (ay (aG 99) 4)
 t_Tables_undo_to:sv K (gy.cl 0) "undo_to" "Tables.undo_to" (ay (aG 99) 3)
 t_Desk_perform:sv K (gy.cl 1) "perform" "Desk.perform" (ay (aG 101) 1)
 t_Desk_do:sv K (gy.cl 1) "do" "Desk.do" (ay (aG 101) 2)
 t_Desk_begin:sv K (gy.cl 1) "begin" "Desk.begin" (ay (aG 101) 3)
 t_Desk_end:sv K (gy.cl 1) "end" "Desk.end" (ay (aG 101) 8)
 t_Desk_unlock:sv K (gy.cl 1) "unlock" "Desk.unlock" (ay (aG 101) 10)
 t_Desk_cancel:sv K (gy.cl 1) "cancel" "Desk.cancel" (ay (aG 101) 11)
 t_Desk_lock_whole:sv K (gy.cl 1) "lock_whole" "Desk.lock_whole" (ay (aG 101) 12)
 t_Desk_unlock_whole:sv K (gy.cl 1) "unlock_whole" "Desk.unlock_whole" (ay (aG 101) 13)
 t_Desk_is_asleep:sv K (gy.cl 1) "is_asleep" "Desk.is_asleep" (ay (aG 101) 17)
 t_Desk_asks:sv K (gy.cl 1) "asks" "Desk.asks" (ay (aG 101) 22)
 t_Desk_outcome:sv K (gy.cl 1) "outcome" "Desk.outcome" (ay (aG 101) 23)
 t_Desk_locks:sv K (gy.cl 1) "locks" "Desk.locks" (ay (aG 101) 19)
 t_Desk_whole_locks:sv K (gy.cl 1) "whole_locks" "Desk.whole_locks" (ay (aG 101) 20)
 t_Desk_attach:∃h t x t1,bh[15]?=some x/\zJ K (gy.cl 1) "attach" "Desk.attach" (ay (aG 101) 4) #[⟨h,.str "mode" t,.str x t1⟩]
 t_Desk_lock:∃h t v h1 t1,zJ K (gy.cl 1) "lock" "Desk.lock" (ay (aG 101) 9) #[⟨h,.str "by" t,v⟩,⟨h1,.str "wait" t1,.bool false⟩]
 i_Tables:L4 K (gy.cl 0) "Tables.__init__" (ay (aG 99) 0)
 i_Desk:L4 K (gy.cl 1) "Desk.__init__" (ay (aG 101) 0)
 g_Tables:mg "Tables" = some (.ref (gy.cl 0))
 g_Desk:mg "Desk" = some (.ref (gy.cl 1))
 g_do_begin:mg "do_begin" = some (.ref (gy.fe 0))
 g_do_attach:mg "do_attach" = some (.ref (gy.fe 1))
 g_do_end:mg "do_end" = some (.ref (gy.fe 5))
 g_do_lock:mg "do_lock" = some (.ref (gy.fe 6))
 g_do_unlock:mg "do_unlock" = some (.ref (gy.fe 7))
 g_do_cancel:mg "do_cancel" = some (.ref (gy.fe 8))
 g_do_lock_whole:mg "do_lock_whole" = some (.ref (gy.fe 9))
 g_do_unlock_whole:mg "do_unlock_whole" = some (.ref (gy.fe 10))
 M:LW mg
 G:je K gy
 T:Og P w K mg gy
 hP:gy.tP=zI
 hQ:gy.tQ=v4
 hd:gy.dr=Bl K
 nT:O0≠gy.tT
 e_Lock:∃D,mg "LockError" = some (.ref D)/\∀c,Rp K (.ref (gy.xc c)) (.ref D)=some true
 e_Awake:mg "Awake" = some (.ref (gy.xc 0))
 e_new:SG K (gy.xc 0) NQ "ValueError.__new__" = true
 e_is:∀c,Wa K (.ref (gy.xc c)) (gy.xc 0)=true
structure Wr (P:OZ) (w:Pl) (K:Ou) (mg:Str->Option Om) (base:O9) (gy:Gy):Prop extends NU P w K mg gy where
 hB:base.BuiltinsAt mg gy.tT
section
abbrev Wr.cal (_:Wr P w K mg base gy) (x:Str) (k n:Nat) (b:BF):Prop:=j6 P w K mg base gy fR x k n b
abbrev Wr.met (_:Wr P w K mg base gy) (c:Nat) (x:Str) (k n:Nat) (dA:List AV) (b:BF):Prop:=nB P w K mg base gy fR c x k n dA b
end
section
variable (W:Wr P w K mg base gy)
local macro_rules | `(tactic| rfl) => `(tactic| with_unfolding_all exact rfl)
local macro_rules | `(tactic| trivial) => `(tactic| with_unfolding_all (first | exact Or.inl rfl | exact Or.inr rfl | exact jj _ | exact (fun _ _ => rfl) | exact (fun _ => rfl) | exact ⟨rfl, rfl, rfl, rfl⟩))
theorem xY:al ["thing"] ["thing"] (af (aG 17)):=cC
@[reducible] def xZ:BS:=(bA (xh (G9 .int (ae 0)) (IL (G9 .bool (ae 0)))))
def gh:BF:=cf 1 xZ
theorem gG:W.cal "is_whole" 1 1 gh:=by
 refine bM W.d_is_whole xY (b1 λ_=>rfl) λhr hu=>?_
 (conv=>arg 2; whnf)
 with_reducible exact (aj (aK (vA (zj .int (by rfl) W.M.isinstance (uv 0) (vc (v:=.ty "int") (by rfl) W.M.int BR (by rfl))) (li (J4 (zj .bool (by rfl) W.M.isinstance (uv 0) (vc (v:=.ty "bool") (by rfl) W.M.bool qB (by rfl))))))))
theorem gX:al ["thing","first","end"] ["thing"] (af (aG 18)):=cC
@[reducible] def sN:BS:=(ar (ca (Gj (qH (bB (G9 .tuple (ae 0)))) (bB (bS IQ (j5 vG (ad (ae 0) am)) (bI 2))))
 bO
 bw)
 (ar (aX (ae 0) (cE 2 (aB (ai 1) (aB (ai 2) cI))))
 (ar (ca (Gj (qH (bB (aH (bU 1 gh) (ad (ae 1) am)))) (bB (bS J7 (ae 1) (bI 0))))
 bO
 bw)
 (bA (J1 (js (ae 2)) (xh (aH (bU 1 gh) (ad (ae 2) am)) (bS J7 (ae 1) (ae 2))))))))
def my:BF:=cf 3 sN
theorem sO:W.cal "is_stretch" 2 1 my:=by
 refine bM W.d_is_stretch gX (b1 λ_=>rfl) λhr hu=>?_
 (conv=>arg 2; whnf)
 with_reducible exact (ah (bg (PW.pt (oo (gS (c4 (zj .tuple (by rfl) W.M.isinstance (uv 0) (vc (v:=.ty "tuple") (by rfl) W.M.tuple bR (by rfl))))) (lh (bE pZ lj (cb eO iE (by rfl) W.M.len QW (aa (uv 0) ag)) aA (by trivial))))) (aj a5) a7)
   (ah (dG (dz (uv 0) (bX (n:=2) (by rfl) (aq (ug 1 gX.nd) (aq (ug 2 gX.nd) bx)))))
   (ah (bg (PW.pt (oo (gS (c4 (uc (gG W) hr (aa (uv 1) ag)))) (lh (bE qa nu (uv 1) aA (by trivial))))) (aj a5) a7)
   (aj (aK (IN (ze (vd (dR (uv 2)))) (li (vA (uc (gG W) hr (aa (uv 2) ag)) (li (jr qa nu (uv 1) (uv 2) (by trivial)))))))))))
theorem rm:al ["one","other"] ["one","other"] (af (aG 26)):=cC
@[reducible] def rq:BS:=(ar (ca (bB (js (ae 0)))
 bO
 bw)
 (ar (ca (bB (js (ae 1)))
 bO
 bw)
 (bA (j5 Kb (ad (ae 0) (ad (ae 1) am))))))
def gY:BF:=cf 2 rq
theorem jA:W.cal "earlier_end" 1 2 gY:=by
 refine bM W.d_earlier_end rm (b2 λ_ _=>rfl) λhr hu=>?_
 (conv=>arg 2; whnf)
 with_reducible exact (ah (bg (ge (dS (dR (uv 0)))) (aj a5) a7)
   (ah (bg (ge (dS (dR (uv 1)))) (aj a5) a7)
   (aj (aK (cb (y9 (by rfl)) G7 (by rfl) W.M.min BU (aa (uv 0) (aa (uv 1) ag)))))))
theorem x3:al ["one","other","end"] ["one","other"] (af (aG 23)):=cC
@[reducible] def FY:BS:=(ar (aX (aH (bU 2 gY) (ad (bS fG (ae 0) (bI 1)) (ad (bS fG (ae 1) (bI 1)) am))) (ai 2))
 (bA (J1 (js (ae 2)) (bS J7 (j5 FR (ad (bS fG (ae 0) (bI 0)) (ad (bS fG (ae 1) (bI 0)) am))) (ae 2)))))
def pS:BF:=cf 3 FY
theorem rA:W.cal "meets" 2 2 pS:=by
 refine bM W.d_meets x3 (b2 λ_ _=>rfl) λhr hu=>?_
 (conv=>arg 2; whnf)
 with_reducible exact (ah (ua 2 x3.nd (uc (jA W) hr (aa (bi (uv 0) aA (by trivial)) (aa (bi (uv 1) aA (by trivial)) ag))))
   (aj (aK (IN (ze (vd (dR (uv 2)))) (li (jr qa nu (cb (y8 (by rfl)) FS (by rfl) W.M.max BV (aa (bi (uv 0) aA (by trivial)) (aa (bi (uv 1) aA (by trivial)) ag))) (uv 2) (by trivial)))))))
theorem eY:al ["lot","rows","start","first","end"] ["lot"] (af (aG 24)):=cC
@[reducible] def zN:BS:=(ar (aX (nq am) (ai 1))
 (ar (aX (bI 0) (ai 2))
 (ar (o3 40 (ez (ae 0)) (cE 2 (aB (ai 3) (aB (ai 4) cI)))
 (ar (ca (bB (bS KP (ae 2) (ae 3)))
 (aN (Dl gB (ae 1) (ad (bW (ad (ae 2) (ad (ae 3) am))) am)))
 bw)
 (ar (ca (bB (js (ae 4)))
 (bA (j5 eT (ad (ae 1) am)))
 bw)
 (aX (ae 4) (ai 2)))))
 (ar (aN (Dl gB (ae 1) (ad (bW (ad (ae 2) (ad (bC .non) am))) am)))
 (bA (j5 eT (ad (ae 1) am)))))))
def uY:BF:=cf 5 zN
theorem zO:W.cal "gaps_of" 1 1 uY:=by
 refine bM W.d_gaps_of eY (b1 λ_=>rfl) λhr hu=>?_
 (conv=>arg 2; whnf)
 with_reducible exact (ah (ua 1 eY.nd (fM ag))
   (ah (ua 2 eY.nd aA)
   (ah (gT 40 O8 (by rfl) (c6 (cZ (uv 0))) (bX (n:=2) (by rfl) (aq (ug 3 eY.nd) (aq (ug 4 eY.nd) bx))) (ah (bg (bE qa HP (uv 2) (uv 3) (by trivial)) (aj (au (kH eV (kq Pd PH PV (by with_unfolding_all exact eQ) (uv 1) (aa (aQ (aa (uv 2) (aa (uv 3) ag))) ag))))) a7)
   (ah (bg (ge (dS (dR (uv 4)))) (aj (aK (b9 bV cH (by rfl) W.M.tuple bR (aa (uv 1) ag)))) a7)
   (aj (ua 2 eY.nd (uv 4))))))
   (ah (au (kH eV (kq Pd PH PV (by with_unfolding_all exact eQ) (uv 1) (aa (aQ (aa (uv 2) (aa lg ag))) ag))))
   (aj (aK (b9 bV cH (by rfl) W.M.tuple bR (aa (uv 1) ag))))))))
theorem iM:al ["one","other","rows","at","beside","left","right","end"] ["one","other"] (af (aG 22)):=cC
@[reducible] def HS:BS:=(ar (aX (nq am) (ai 2))
 (ar (aX (bI 0) (ai 3))
 (ar (aX (bI 0) (ai 4))
 (ar (gf 40 (Ej (bB (bS J7 (ae 3) (j5 vG (ad (ae 0) am)))) (bB (bS J7 (ae 4) (j5 vG (ad (ae 1) am)))))
 (ar (LU 5 6 (ad (bS fG (ae 0) (ae 3)) (ad (bS fG (ae 1) (ae 4)) am)))
 (ar (aX (aH (bU 2 gY) (ad (bS fG (ae 5) (bI 1)) (ad (bS fG (ae 6) (bI 1)) am))) (ai 7))
 (ar (ca (bB (aH (bU 2 pS) (ad (ae 5) (ad (ae 6) am))))
 bO
 bw)
 (ca (bB (bS yB (bS fG (ae 5) (bI 1)) (ae 7)))
 bO
 (Kh 4 oZ (bI 1)))))))
 (bA (j5 eT (ad (ae 2) am)))))))
def FZ:BF:=cf 8 HS
theorem HU:W.cal "both" 3 2 FZ:=by
 refine bM W.d_both iM (b2 λ_ _=>rfl) λhr hu=>?_
 (conv=>arg 2; whnf)
 with_reducible exact (ah (ua 2 iM.nd (fM ag))
   (ah (ua 3 iM.nd aA)
   (ah (ua 4 iM.nd aA)
   (ah (jv 40 O8 (PW.pt (zc (bE qa nu (uv 3) (cb eO iE (by rfl) W.M.len QW (aa (uv 0) ag)) (by trivial)) (vz (bE qa nu (uv 4) (cb eO iE (by rfl) W.M.len QW (aa (uv 1) ag)) (by trivial))))) (ah (Kg (Jv (i:=5) (j:=6) (by rfl) iM.nd (by rfl) (by rfl) (by decide) (by rfl) (by rfl) (aa (bi (uv 0) (uv 3) (by trivial)) (aa (bi (uv 1) (uv 4) (by trivial)) ag)) (by rfl)))
   (ah (ua 7 iM.nd (uc (jA W) hr (aa (bi (uv 5) aA (by trivial)) (aa (bi (uv 6) aA (by trivial)) ag))))
   (ah (bg (c4 (uc (rA W) hr (aa (uv 5) (aa (uv 6) ag)))) (aj a5) a7)
   (aj (bg (bE f8 dF (bi (uv 5) aA (by trivial)) (uv 7) (by trivial)) (aj a5) (aj (Ki B6 (Jw (i:=4) iM.nd (by rfl) (by trivial) aA Jx)))))))))
   (aj (aK (b9 bV cH (by rfl) W.M.tuple bR (aa (uv 2) ag))))))))
theorem zP:al ["one","other"] ["one","other"] (af (aG 21)):=cC
@[reducible] def zQ:BS:=(bA (aH (bU 2 FZ) (ad (ae 0) (ad (aH (bU 1 uY) (ad (ae 1) am)) am))))
def nF:BF:=cf 2 zQ
theorem rB:W.cal "without" 4 2 nF:=by
 refine bM W.d_without zP (b2 λ_ _=>rfl) λhr hu=>?_
 (conv=>arg 2; whnf)
 with_reducible exact (aj (aK (uc (HU W) hr (aa (uv 0) (aa (uc (zO W) hr (aa (uv 1) ag)) ag)))))
theorem jY:al ["stretches","rows","first","end"] ["stretches"] (af (aG 19)):=cC
@[reducible] def CT:BS:=(ar (aX (nq am) (ai 1))
 (ar (o3 40 (il (vU (ae 0))) (cE 2 (aB (ai 2) (aB (ai 3) cI)))
 (ca (Ej (l9 (ae 1)) (bB Jg))
 bO
 (aN (Dl gB (ae 1) (ad (bW (ad (ae 2) (ad (ae 3) am))) am)))))
 (bA (j5 eT (ad (ae 1) am)))))
def x4:BF:=cf 4 CT
theorem CU:W.cal "lot_of" 1 1 x4:=by
 obtain⟨c,d,hc⟩:=W.d_lot_of
 have hL:=HC (mg:=mg) hc W.nT
 refine HA (n:=1) d jY (hb:=λ_ _ _ _ _ _ us hl=>match us,hl with | [_],_=>rfl) (hbody:=λf A outer s H E hr=>?_)
 have hu:=di hr
 (conv=>arg 2; whnf)
 with_reducible exact (ah (ua 1 jY.nd (fM ag))
   (ah (gT 40 O8 (by rfl) (fO (dv (CG W.hP W.hQ (Eh hL W.hB (by rfl) hr.depth W.M.sorted (uv 0))))) (bX (n:=2) (by rfl) (aq (ug 2 jY.nd) (aq (ug 3 jY.nd) bx))) (aj (bg (PW.pt (zc (eU (da (uv 1))) (vz (c4 FV)))) (aj a5) (aj (au (kH eV (kq Pd PH PV (by with_unfolding_all exact eQ) (uv 1) (aa (aQ (aa (uv 2) (aa (uv 3) ag))) ag))))))))
   (aj (aK (b9 bV cH (by rfl) W.M.tuple bR (aa (uv 1) ag))))))
theorem CV:al ["one","other"] ["one","other"] (af (aG 20)):=cC
@[reducible] def CW:BS:=(bA (aH (bU 1 x4) (ad (bS iX (ae 0) (ae 1)) am)))
def x5:BF:=cf 2 CW
theorem CY:W.cal "joined" 2 2 x5:=by
 refine bM W.d_joined CV (b2 λ_ _=>rfl) λhr hu=>?_
 (conv=>arg 2; whnf)
 with_reducible exact (aj (aK (uc (CU W) hr (aa (dn dl dq (uv 0) (uv 1)) ag))))
theorem lw:al ["self","files","fair"] ["self","files","fair"] (af (ay (aG 99) 0)):=cC
abbrev gZ:Pp:=o9 [("file",.local)]
theorem fA:aR (af (ay (aG 99) 0)) ["self","files","fair"] gZ ["file"] [none]:=pf
abbrev g5:Pp:=o9 [("file",.local)]
theorem fB:aR (af (ay (aG 99) 0)) ["self","files","fair"] g5 ["file"] [none]:=pf
@[reducible] def lx:BS:=(ar (et 31 (ae 0) (ae 1))
 (ar (et 29 (ae 0) (ae 2))
 (ar (et 35 (ae 0) (Jb (vN (bC (.str 66)) (bI 0) (vN (bC (.str 45)) (bI 0) (vN (bC (.str 3)) (bI 0) IV)))))
 (ar (et 41 (ae 0) ll)
 (ar (et 54 (ae 0) ll)
 (ar (et 38 (ae 0) (La 40 [none] (ez (ae 1)) (ai 0) jw (ae 0) Ev))
 (ar (et 75 (ae 0) (La 40 [none] (ez (ae 1)) (ai 0) jw (ae 0) ll))
 (ar (et 73 (ae 0) ll)
 (ar (et 5 (ae 0) ll)
 (ar (et 56 (ae 0) ll)
 (et 19 (ae 0) (nq am))))))))))))
def gH:BF:=cf 3 lx
theorem mz (W:Wr P w K mg base gy):NJ P w K mg base gy fR 0 "Tables" 1 3 gH:=by
 refine NP W.i_Tables W.g_Tables lw (b3 λ_ _ _=>rfl) λhr hu=>?_
 (conv=>arg 2; whnf)
 with_reducible exact (ah (c5 31 (by decide +kernel) (by decide) W.G.cls W.G.na_files (uv 0) (uv 1) (by rfl))
   (ah (c5 29 (by decide +kernel) (by decide) W.G.cls W.G.na_fair (uv 0) (uv 2) (by rfl))
   (ah (c5 35 (by decide +kernel) (by decide) W.G.cls W.G.na_given (uv 0) (Hz (qZ (a8 66) aA (qZ (a8 45) aA (qZ (a8 3) aA Hy))) (by rfl) (by rfl) (by simp) (by decide)) (by rfl))
   (ah (c5 41 (by decide +kernel) (by decide) W.G.cls W.G.na_leads (uv 0) ij (by rfl))
   (ah (c5 54 (by decide +kernel) (by decide) W.G.cls W.G.na_opened (uv 0) ij (by rfl))
   (ah (c5 38 (by decide +kernel) (by decide) W.G.cls W.G.na_held (uv 0) (IY 40 (by decide) (IX (by rfl) (by with_unfolding_all exact fA) (c6 (cZ (uv 1))) (λ_ _ _ _ _=>(ug 0 fA.nd)) (λ_ _ _ _ _=>ce) (λ_ _ _ _ _=>(uv 0)) (λ_ _ _ _ _=>Ew))) (by rfl))
   (ah (c5 75 (by decide +kernel) (by decide) W.G.cls W.G.na_whole (uv 0) (IY 40 (by decide) (IX (by rfl) (by with_unfolding_all exact fB) (c6 (cZ (uv 1))) (λ_ _ _ _ _=>(ug 0 fB.nd)) (λ_ _ _ _ _=>ce) (λ_ _ _ _ _=>(uv 0)) (λ_ _ _ _ _=>ij))) (by rfl))
   (ah (c5 73 (by decide +kernel) (by decide) W.G.cls W.G.na_waiting (uv 0) ij (by rfl))
   (ah (c5 5 (by decide +kernel) (by decide) W.G.cls W.G.na_asleep (uv 0) ij (by rfl))
   (ah (c5 56 (by decide +kernel) (by decide) W.G.cls W.G.na_outcomes (uv 0) ij (by rfl))
   (aj (c5 19 (by decide +kernel) (by decide) W.G.cls W.G.na_changes (uv 0) (fM ag) (by rfl)))))))))))))
theorem sP:al ["self","table","key","value"] ["self","table","key","value"] (af (ay (aG 99) 1)):=cC
@[reducible] def sQ:BS:=(ar (aN (Dl gB (aT 19 (ae 0)) (ad (bW (ad (ae 1) (ad (ae 2) (ad (IR (ae 1) (ae 2)) am)))) am)))
 (Eu (ae 1) (ae 2) (ae 3)))
def bo:BF:=cf 4 sQ
theorem bH:W.met 0 "put" 1 4 [] bo:=by
 refine rf W.t_Tables_put sP (b4 λ_ _ _ _=>rfl) λhr hu=>?_
 (conv=>arg 2; whnf)
 with_reducible exact (ah (au (kH eV (kq Pd PH PV (by with_unfolding_all exact eQ) (iK W.G (uv 0)) (aa (aQ (aa (uv 1) (aa (uv 2) (aa (G6 hu (uv 1) (uv 2) (by trivial)) ag)))) ag))))
   (aj (AM hu (uv 1) (uv 2) (uv 3) (by rfl))))
theorem rC:al ["self","table","key"] ["self","table","key"] (af (ay (aG 99) 2)):=cC
@[reducible] def rD:BS:=(ca (bB (vE (ae 2) (ae 1)))
 (ar (aN (Dl gB (aT 19 (ae 0)) (ad (bW (ad (ae 1) (ad (ae 2) (ad (bJ (ae 1) (ae 2)) am)))) am)))
 (Fd (ae 1) (ae 2)))
 bw)
def bF:BF:=cf 3 rD
theorem bP:W.met 0 "drop" 1 3 [] bF:=by
 refine rf W.t_Tables_drop rC (b3 λ_ _ _=>rfl) λhr hu=>?_
 (conv=>arg 2; whnf)
 with_reducible exact (aj (bg (zh hu (uv 2) (uv 1) (by rfl)) (ah (au (kH eV (kq Pd PH PV (by with_unfolding_all exact eQ) (iK W.G (uv 0)) (aa (aQ (aa (uv 1) (aa (uv 2) (aa (aS hu (uv 1) (uv 2) (by trivial)) ag)))) ag))))
   (aj (A9 hu (uv 1) (uv 2)))) a7))
theorem iZ:al ["self","sort","number"] ["self","sort"] (af (ay (aG 99) 4)):=cC
@[reducible] def ph:BS:=(ar (aX (bJ (aT 35 (ae 0)) (ae 1)) (ai 2))
 (ar (aN (bd 0 4 [] bo (ae 0) (ad (aT 35 (ae 0)) (ad (ae 1) (ad (bS oZ (ae 2) (bI 1)) am)))))
 (bA (ae 2))))
def d5:BF:=cf 3 ph
theorem gi:W.met 0 "fresh" 2 2 [] d5:=by
 refine rf W.t_Tables_fresh iZ (b2 λ_ _=>rfl) λhr hu=>?_
 (conv=>arg 2; whnf)
 with_reducible exact (ah (ua 2 iZ.nd (aS hu (rg W.G (uv 0)) (uv 1) (by trivial)))
   (ah (au (um (bH W) W.G.c0 hr (uv 0) (aa (rg W.G (uv 0)) (aa (uv 1) (aa (dn fI fg (uv 2) aA) ag)))))
   (aj (aK (uv 2)))))
end
section
variable (W:Wr P w K mg base gy)
local macro_rules | `(tactic| rfl) => `(tactic| with_unfolding_all exact rfl)
local macro_rules | `(tactic| trivial) => `(tactic| with_unfolding_all (first | exact Or.inl rfl | exact Or.inr rfl | exact jj _ | exact (fun _ _ => rfl) | exact (fun _ => rfl) | exact ⟨rfl, rfl, rfl, rfl⟩))
theorem CZ:al ["table","number"] ["table","number"] (af (aG 33)):=cC
@[reducible] def C8:BS:=(bA (xh (aH (bU 1 gh) (ad (ae 1) am)) (vE (ae 1) (ae 0))))
def rE:BF:=cf 2 C8
theorem uZ:W.cal "is_key" 2 2 rE:=by
 refine bM W.d_is_key CZ (b2 λ_ _=>rfl) λhr hu=>?_
 (conv=>arg 2; whnf)
 with_reducible exact (aj (aK (vA (uc (gG W) hr (aa (uv 1) ag)) (li (zg hu (uv 1) (uv 0) (by rfl))))))
theorem sR:al ["tables","task"] ["tables","task"] (af (aG 34)):=cC
@[reducible] def sS:BS:=(ca (qH (bB (aH (bU 2 rE) (ad (aT 41 (ae 0)) (ad (ae 1) am)))))
 bO
 bw)
def dc:BF:=cf 2 sS
theorem du:W.cal "check_task" 3 2 dc:=by
 refine bM W.d_check_task sR (b2 λ_ _=>rfl) λhr hu=>?_
 (conv=>arg 2; whnf)
 with_reducible exact (aj (bg (gS (c4 (uc (uZ W) hr (aa (c8 W.G (uv 0)) (aa (uv 1) ag))))) (aj a5) a7))
theorem rF:al ["tables","task"] ["tables","task"] (af (aG 35)):=cC
@[reducible] def rG:BS:=(ar (aN (aH (bU 2 dc) (ad (ae 0) (ad (ae 1) am))))
 (ca (bB (vE (ae 1) (aT 5 (ae 0))))
 bO
 bw))
def g6:BF:=cf 2 rG
theorem jB:W.cal "check_awake" 4 2 g6:=by
 refine bM W.d_check_awake rF (b2 λ_ _=>rfl) λhr hu=>?_
 (conv=>arg 2; whnf)
 with_reducible exact (ah (au (uc (du W) hr (aa (uv 0) (aa (uv 1) ag))))
   (aj (bg (zh hu (uv 1) (dM W.G (uv 0)) (by rfl)) (aj a5) a7)))
theorem sU:al ["tables","file"] ["tables","file"] (af (aG 36)):=cC
@[reducible] def sV:BS:=(ca (bB (bS (K8 true) (ae 1) (aT 31 (ae 0))))
 bO
 bw)
def fX:BF:=cf 2 sV
theorem g7:W.cal "check_file" 1 2 fX:=by
 refine bM W.d_check_file sU (b2 λ_ _=>rfl) λhr hu=>?_
 (conv=>arg 2; whnf)
 with_reducible exact (aj (bg (bE ux vH (uv 1) (Fq W.G (uv 0)) (by rfl)) (aj a5) a7))
theorem sW:al ["mode"] ["mode"] (af (aG 37)):=cC
@[reducible] def sX:BS:=(ca (bB (Fh true uT (ae 0)))
 bO
 bw)
def mB:BF:=cf 1 sX
theorem sY:W.cal "check_mode" 1 1 mB:=by
 refine bM W.d_check_mode sW (b1 λ_=>rfl) λhr hu=>?_
 (conv=>arg 2; whnf)
 with_reducible exact (aj (bg (v2 (by rfl) W.T.g_MODES (uv 0) (by rfl)) (aj a5) a7))
theorem sZ:al ["kind"] ["kind"] (af (aG 38)):=cC
@[reducible] def tf:BS:=(ca (bB (Fh true uS (ae 0)))
 bO
 bw)
def iN:BF:=cf 1 tf
theorem kN:W.cal "check_kind" 1 1 iN:=by
 refine bM W.d_check_kind sZ (b1 λ_=>rfl) λhr hu=>?_
 (conv=>arg 2; whnf)
 with_reducible exact (aj (bg (v2 (by rfl) W.T.g_KINDS (uv 0) (by rfl)) (aj a5) a7))
theorem x6:al ["by"] ["by"] (af (aG 39)):=cC
@[reducible] def x8:BS:=(ca (bB (Fh true oz (ae 0)))
 bO
 bw)
def ly:BF:=cf 1 x8
theorem oC:W.cal "check_by" 1 1 ly:=by
 refine bM W.d_check_by x6 (b1 λ_=>rfl) λhr hu=>?_
 (conv=>arg 2; whnf)
 with_reducible exact (aj (bg (v2 (by rfl) W.T.g_HOLDERS (uv 0) (by rfl)) (aj a5) a7))
theorem nG:al ["stretch"] ["stretch"] (af (aG 41)):=cC
@[reducible] def nH:BS:=(ca (qH (bB (aH (bU 1 my) (ad (ae 0) am))))
 bO
 bw)
def fP:BF:=cf 1 nH
theorem im:W.cal "check_stretch" 3 1 fP:=by
 refine bM W.d_check_stretch nG (b1 λ_=>rfl) λhr hu=>?_
 (conv=>arg 2; whnf)
 with_reducible exact (aj (bg (gS (c4 (uc (sO W) hr (aa (uv 0) ag)))) (aj a5) a7))
theorem lz:al ["tables","task","handle","number","mark"] ["tables","task","handle"] (af (aG 42)):=cC
@[reducible] def zR:BS:=(ar (ca (bB (aH (bU 1 gh) (ad (ae 2) am)))
 (o3 40 (ez (bJ (aT 41 (ae 0)) (ae 1))) (cE 2 (aB (ai 3) (aB (ai 4) cI)))
 (ca (bB (bS yB (ae 3) (ae 2)))
 (bA (ae 4))
 bw))
 bw)
 bO)
def nI:BF:=cf 5 zR
theorem rH:W.cal "mark_at" 2 3 nI:=by
 refine bM W.d_mark_at lz (b3 λ_ _ _=>rfl) λhr hu=>?_
 (conv=>arg 2; whnf)
 with_reducible exact (ah (bg (c4 (uc (gG W) hr (aa (uv 2) ag))) (aj (gT 40 O8 (by rfl) (c6 (cZ (aS hu (c8 W.G (uv 0)) (uv 1) (by trivial)))) (bX (n:=2) (by rfl) (aq (ug 3 lz.nd) (aq (ug 4 lz.nd) bx))) (aj (bg (bE f8 dF (uv 3) (uv 2) (by trivial)) (aj (aK (uv 4))) a7)))) a7)
   (aj a5))
theorem rJ:al ["tables","task","handle","mark"] ["tables","task","handle"] (af (aG 43)):=cC
@[reducible] def zS:BS:=(ar (aN (aH (bU 2 dc) (ad (ae 0) (ad (ae 1) am))))
 (ar (aX (aH (bU 3 nI) (ad (ae 0) (ad (ae 1) (ad (ae 2) am)))) (ai 3))
 (ar (ca (bB (js (ae 3)))
 bO
 bw)
 (bA (ae 3)))))
def u0:BF:=cf 4 zS
theorem zT:W.cal "mark_of" 4 3 u0:=by
 refine bM W.d_mark_of rJ (b3 λ_ _ _=>rfl) λhr hu=>?_
 (conv=>arg 2; whnf)
 with_reducible exact (ah (au (uc (du W) hr (aa (uv 0) (aa (uv 1) ag))))
   (ah (ua 3 rJ.nd (uc (rH W) hr (aa (uv 0) (aa (uv 1) (aa (uv 2) ag)))))
   (ah (bg (ge (dS (dR (uv 3)))) (aj a5) a7)
   (aj (aK (uv 3))))))
theorem tj:al ["tables","task","handle"] ["tables","task","handle"] (af (aG 44)):=cC
@[reducible] def tm:BS:=(ar (aN (aH (bU 2 g6) (ad (ae 0) (ad (ae 1) am))))
 (bA (aH (bU 3 u0) (ad (ae 0) (ad (ae 1) (ad (ae 2) am))))))
def d6:BF:=cf 3 tm
theorem fk:W.cal "awake_mark" 5 3 d6:=by
 refine bM W.d_awake_mark tj (b3 λ_ _ _=>rfl) λhr hu=>?_
 (conv=>arg 2; whnf)
 with_reducible exact (ah (au (uc (jB W) hr (aa (uv 0) (aa (uv 1) ag))))
   (aj (aK (uc (zT W) hr (aa (uv 0) (aa (uv 1) (aa (uv 2) ag)))))))
theorem v8:al ["table","number"] ["table","number"] (af (aG 46)):=cC
@[reducible] def v9:BS:=(ar (ca (qH (bB (aH (bU 2 rE) (ad (ae 0) (ad (ae 1) am)))))
 bO
 bw)
 (bA (bJ (ae 0) (ae 1))))
def oE:BF:=cf 2 v9
theorem wa:W.cal "ask_entry" 3 2 oE:=by
 refine bM W.d_ask_entry v8 (b2 λ_ _=>rfl) λhr hu=>?_
 (conv=>arg 2; whnf)
 with_reducible exact (ah (bg (gS (c4 (uc (uZ W) hr (aa (uv 0) (aa (uv 1) ag))))) (aj a5) a7)
   (aj (aK (aS hu (uv 0) (uv 1) (by trivial)))))
theorem cT:al ["row","first","end","kind","by","number"] ["row"] (af (aG 48)):=cC
@[reducible] def tq:BS:=(ar (aX (ae 0) (cE 5 (aB (ai 1) (aB (ai 2) (aB (ai 3) (aB (ai 4) (aB (ai 5) cI)))))))
 (bA (bW (ad (ae 1) (ad (js (ae 2)) (ad (IM (bB (js (ae 2))) (bI 0) (ae 2)) (ad (ae 3) (ad (ae 4) (ad (ae 5) am)))))))))
def iO:BF:=cf 6 tq
theorem kO:W.cal "lock_order" 1 1 iO:=by
 refine bM W.d_lock_order cT (b1 λ_=>rfl) λhr hu=>?_
 (conv=>arg 2; whnf)
 with_reducible exact (ah (dG (dz (uv 0) (bX (n:=5) (by rfl) (aq (ug 1 cT.nd) (aq (ug 2 cT.nd) (aq (ug 3 cT.nd) (aq (ug 4 cT.nd) (aq (ug 5 cT.nd) bx))))))))
   (aj (aK (aQ (aa (uv 1) (aa (ze (vd (dR (uv 2)))) (aa (gb (ge (dS (dR (uv 2)))) aA (uv 2)) (aa (uv 3) (aa (uv 4) (aa (uv 5) ag))))))))))
theorem d7:al ["tables","file","rows","holder","shared","alone"] ["tables","file"] (af (aG 49)):=cC
abbrev lA:Pp:=o9 [("stretch",.local),("holder",.free)]
theorem jC:aR (af (aG 49)) ["tables","file","rows","holder","shared","alone"] lA ["stretch","holder"] [none,some 3]:=pf
abbrev lB:Pp:=o9 [("stretch",.local),("holder",.free)]
theorem jD:aR (af (aG 49)) ["tables","file","rows","holder","shared","alone"] lB ["stretch","holder"] [none,some 3]:=pf
@[reducible] def wb:BS:=(ar (aX (nq am) (ai 2))
 (ar (ER 40 false (bJ (aT 38 (ae 0)) (ae 1)) (cE 2 (aB (ai 3) (aB (cE 2 (aB (ai 4) (aB (ai 5) cI))) cI)))
 (ar (aN (Dl jT (ae 2) (ad (qM 40 [none,some 3] (ez (ae 4)) (ai 0) jw (bS iX (bS iX (ae 0) (bW (ad (bC (.str 63)) am))) (ae 1))) am)))
 (aN (Dl jT (ae 2) (ad (qM 40 [none,some 3] (ez (ae 5)) (ai 0) jw (bS iX (bS iX (ae 0) (bW (ad (bC (.str 2)) am))) (ae 1))) am)))))
 (bA (ae 2))))
def oF:BF:=cf 6 wb
theorem wc:W.cal "lock_rows" 1 2 oF:=by
 refine bM W.d_lock_rows d7 (b2 λ_ _=>rfl) λhr hu=>?_
 (conv=>arg 2; whnf)
 with_reducible exact (ah (ua 2 d7.nd (fM ag))
   (ah (A1 40 O8 (by rfl) (aS hu (gC W.G (uv 0)) (uv 1) (by trivial)) (bX (n:=2) (by rfl) (aq (ug 3 d7.nd) (aq (bX (n:=2) (by rfl) (aq (ug 4 d7.nd) (aq (ug 5 d7.nd) bx))) bx))) (ah (au (kH iG (kq Pd QH Ri (by with_unfolding_all exact jS) (uv 2) (aa (fV 40 (by decide) (fS (by rfl) (by with_unfolding_all exact jC) (c6 (cZ (uv 4))) (λ_ _ _ _ _=>(ug 0 jC.nd)) (λ_ _ _ _ _=>ce) (λ_ _ _ _ _=>(dn dl dq (dn dl dq (uv 0) (aQ (aa (a8 63) ag))) (uv 1))))) ag))))
   (aj (au (kH iG (kq Pd QH Ri (by with_unfolding_all exact jS) (uv 2) (aa (fV 40 (by decide) (fS (by rfl) (by with_unfolding_all exact jD) (c6 (cZ (uv 5))) (λ_ _ _ _ _=>(ug 0 jD.nd)) (λ_ _ _ _ _=>ce) (λ_ _ _ _ _=>(dn dl dq (dn dl dq (uv 0) (aQ (aa (a8 2) ag))) (uv 1))))) ag)))))))
   (aj (aK (uv 2)))))
theorem tz:al ["tables","file"] ["tables","file"] (af (aG 50)):=cC
@[reducible] def tE:BS:=(bA (j5 eT (ad (pQ iO (aH (bU 2 oF) (ad (ae 0) (ad (ae 1) am)))) am)))
def mC:BF:=cf 2 tE
theorem tF:W.cal "told_locks" 4 2 mC:=by
 refine bM W.d_told_locks tz (b2 λ_ _=>rfl) λhr hu=>?_
 (conv=>arg 2; whnf)
 with_reducible exact (aj (aK (b9 bV cH (by rfl) W.M.tuple bR (aa (uP (kO W) (by rfl) (hr.mono (by decide)) W.M.sorted (uc (wc W) hr (aa (uv 0) (aa (uv 1) ag)))) ag))))
theorem tG:al ["tables","file"] ["tables","file"] (af (aG 51)):=cC
@[reducible] def tH:BS:=(bA (j5 eT (ad (FI (bJ (aT 75 (ae 0)) (ae 1))) am)))
def iP:BF:=cf 2 tH
theorem kP:W.cal "told_whole" 1 2 iP:=by
 refine bM W.d_told_whole tG (b2 λ_ _=>rfl) λhr hu=>?_
 (conv=>arg 2; whnf)
 with_reducible exact (aj (aK (b9 bV cH (by rfl) W.M.tuple bR (aa (FJ (by rfl) W.M.sorted cg (aS hu (jx W.G (uv 0)) (uv 1) (by trivial))) ag))))
theorem wd:al ["tables"] ["tables"] (af (aG 52)):=cC
abbrev lC:Pp:=o9 [("number",.local),("tables",.free)]
theorem jE:aR (af (aG 52)) ["tables"] lC ["number","tables"] [none,some 0]:=pf
@[reducible] def we:BS:=(bA (j5 eT (ad (qM 40 [none,some 0] (il (j5 iJ (ad (aT 73 (ae 0)) am))) (ai 0) jw (bJ (aT 73 (ae 1)) (ae 0))) am)))
def oG:BF:=cf 1 we
theorem wf:W.cal "told_asks" 1 1 oG:=by
 refine bM W.d_told_asks wd (b1 λ_=>rfl) λhr hu=>?_
 (conv=>arg 2; whnf)
 with_reducible exact (aj (aK (b9 bV cH (by rfl) W.M.tuple bR (aa (fV 40 (by decide) (fS (by rfl) (by with_unfolding_all exact jE) (fO (dv (cb (fu (by rfl)) gg (by rfl) W.M.sorted cg (aa (bK W.G (uv 0)) ag)))) (λ_ _ _ _ _=>(ug 0 jE.nd)) (λ_ _ _ _ _=>ce) (λ_ _ _ _ _=>(aS hu (bK W.G (uv 1)) (uv 0) (by trivial))))) ag))))
theorem u3:al ["tables","task","mark","kind","stretch","by","holder"] ["tables","task","mark","kind","stretch","by"] (af (aG 53)):=cC
@[reducible] def C9:BS:=(ar (aX (IM (bB (bS yB (ae 5) (bC (.str 66)))) (ae 1) (ae 2)) (ai 6))
 (bA (bW (ad (bJ (aT 35 (ae 0)) (bC (.str 3))) (ad (ae 1) (ad (bS fG (bJ (aT 54 (ae 0)) (ae 2)) (bI 0)) (ad (ae 3) (ad (ae 4) (ad (ae 5) (ad (ae 6) am))))))))))
def rK:BF:=cf 7 C9
theorem u4:W.cal "ask_of" 1 6 rK:=by
 refine bM W.d_ask_of u3 (b6 λ_ _ _ _ _ _=>rfl) λhr hu=>?_
 (conv=>arg 2; whnf)
 with_reducible exact (ah (ua 6 u3.nd (gb (bE f8 dF (uv 5) (a8 66) (by trivial)) (uv 1) (uv 2)))
   (aj (aK (aQ (aa (aS hu (rg W.G (uv 0)) (a8 3) (by trivial)) (aa (uv 1) (aa (bi (aS hu (cx W.G (uv 0)) (uv 2) (by trivial)) aA (by trivial)) (aa (uv 3) (aa (uv 4) (aa (uv 5) (aa (uv 6) ag)))))))))))
theorem F0:al ["kind","other"] ["kind","other"] (af (aG 54)):=cC
@[reducible] def F1:BS:=(bA (bS (K8 false) (bC (.str 2)) (bW (ad (ae 0) (ad (ae 1) am)))))
def pU:BF:=cf 2 F1
theorem rL:W.cal "clash" 1 2 pU:=by
 refine bM W.d_clash F0 (b2 λ_ _=>rfl) λhr hu=>?_
 (conv=>arg 2; whnf)
 with_reducible exact (aj (aK (jr D5 vH (a8 2) (aQ (aa (uv 0) (aa (uv 1) ag))) (by rfl))))
theorem aI:al ["tables","ask","number","task","file","kind","stretch","by","holder","rows","other","shared","alone","other_kind","lot"] ["tables","ask"] (af (aG 55)):=cC
abbrev fY:Pp:=o9 [("part",.local),("meets",.globalImplicit),("other",.free),("other_kind",.free),("stretch",.free)]
theorem dO:aR (af (aG 55)) ["tables","ask","number","task","file","kind","stretch","by","holder","rows","other","shared","alone","other_kind","lot"] fY ["part","other_kind","other","stretch"] [none,some 13,some 10,some 6]:=pf
@[reducible] def jf:BS:=(ar (aX (ae 1) (cE 7 (aB (ai 2) (aB (ai 3) (aB (ai 4) (aB (ai 5) (aB (ai 6) (aB (ai 7) (aB (ai 8) cI)))))))))
 (ar (aX (nq am) (ai 9))
 (ar (ER 40 false (bJ (aT 38 (ae 0)) (ae 4)) (cE 2 (aB (ai 10) (aB (cE 2 (aB (ai 11) (aB (ai 12) cI))) cI)))
 (ca (bB (bS (zk true) (ae 10) (bW (ad (ae 7) (ad (ae 8) am)))))
 (o3 40 (ez (bW (ad (bW (ad (bC (.str 63)) (ad (ae 11) am))) (ad (bW (ad (bC (.str 2)) (ad (ae 12) am))) am)))) (cE 2 (aB (ai 13) (aB (ai 14) cI)))
 (ca (bB (aH (bU 2 pU) (ad (ae 5) (ad (ae 13) am))))
 (aN (Dl jT (ae 9) (ad (qM 40 [none,some 13,some 10,some 6] (ez (ae 14)) (ai 0) (bB (aH (bU 2 pS) (ad (ae 0) (ad (ae 3) am)))) (bS iX (bS iX (ae 0) (bW (ad (ae 1) am))) (ae 2))) am)))
 bw))
 bw))
 (bA (pQ iO (ae 9))))))
def fE:BF:=cf 15 jf
theorem jg:W.cal "blocking_stretches" 4 2 fE:=by
 refine bM W.d_blocking_stretches aI (b2 λ_ _=>rfl) λhr hu=>?_
 (conv=>arg 2; whnf)
 with_reducible exact (ah (dG (dz (uv 1) (bX (n:=7) (by rfl) (aq (ug 2 aI.nd) (aq (ug 3 aI.nd) (aq (ug 4 aI.nd) (aq (ug 5 aI.nd) (aq (ug 6 aI.nd) (aq (ug 7 aI.nd) (aq (ug 8 aI.nd) bx))))))))))
   (ah (ua 9 aI.nd (fM ag))
   (ah (A1 40 O8 (by rfl) (aS hu (gC W.G (uv 0)) (uv 4) (by trivial)) (bX (n:=2) (by rfl) (aq (ug 10 aI.nd) (aq (bX (n:=2) (by rfl) (aq (ug 11 aI.nd) (aq (ug 12 aI.nd) bx))) bx))) (aj (bg (bE (yT (D4 hr)) ma (uv 10) (aQ (aa (uv 7) (aa (uv 8) ag))) (by trivial)) (aj (gT 40 O8 (by rfl) (c6 (cZ (aQ (aa (aQ (aa (a8 63) (aa (uv 11) ag))) (aa (aQ (aa (a8 2) (aa (uv 12) ag))) ag))))) (bX (n:=2) (by rfl) (aq (ug 13 aI.nd) (aq (ug 14 aI.nd) bx))) (aj (bg (c4 (uc (rL W) hr (aa (uv 5) (aa (uv 13) ag)))) (aj (au (kH iG (kq Pd QH Ri (by with_unfolding_all exact jS) (uv 9) (aa (fV 40 (by decide) (fS (by rfl) (by with_unfolding_all exact dO) (c6 (cZ (uv 14))) (λ_ _ _ _ _=>(ug 0 dO.nd)) (λ_ _ _ _ _=>(d4 (c4 (uc (rA W) hr (aa (uv 0) (aa (uv 3) ag)))))) (λ_ _ _ _ _=>(dn dl dq (dn dl dq (uv 0) (aQ (aa (uv 1) ag))) (uv 2))))) ag))))) a7)))) a7)))
   (aj (aK (uP (kO W) (by rfl) (hr.mono (by decide)) W.M.sorted (uv 9)))))))
theorem bj:al ["tables","ask","number","task","file","kind","stretch","by","holder"] ["tables","ask"] (af (aG 56)):=cC
abbrev g8:Pp:=o9 [("row",.local),("clash",.globalImplicit),("holder",.free),("kind",.free)]
theorem fF:aR (af (aG 56)) ["tables","ask","number","task","file","kind","stretch","by","holder"] g8 ["row","holder","kind"] [none,some 8,some 5]:=pf
@[reducible] def lD:BS:=(ar (aX (ae 1) (cE 7 (aB (ai 2) (aB (ai 3) (aB (ai 4) (aB (ai 5) (aB (ai 6) (aB (ai 7) (aB (ai 8) cI)))))))))
 (bA (qM 40 [none,some 8,some 5] (ez (aH (bU 2 iP) (ad (ae 0) (ad (ae 4) am)))) (ai 0) (Ej (bB (bS IQ (bS fG (ae 0) (bI 0)) (ae 1))) (bB (aH (bU 2 pU) (ad (ae 2) (ad (bS fG (ae 0) (bI 1)) am))))) (ae 0))))
def gI:BF:=cf 9 lD
theorem lE:W.cal "blocking_wholes" 2 2 gI:=by
 refine bM W.d_blocking_wholes bj (b2 λ_ _=>rfl) λhr hu=>?_
 (conv=>arg 2; whnf)
 with_reducible exact (ah (dG (dz (uv 1) (bX (n:=7) (by rfl) (aq (ug 2 bj.nd) (aq (ug 3 bj.nd) (aq (ug 4 bj.nd) (aq (ug 5 bj.nd) (aq (ug 6 bj.nd) (aq (ug 7 bj.nd) (aq (ug 8 bj.nd) bx))))))))))
   (aj (aK (fV 40 (by decide) (fS (by rfl) (by with_unfolding_all exact fF) (c6 (cZ (uc (kP W) hr (aa (uv 0) (aa (uv 4) ag))))) (λ_ _ _ _ _=>(ug 0 fF.nd)) (λ_ _ _ _ _=>(d4 (PW.pt (zc (bE pZ lj (bi (uv 0) aA (by trivial)) (uv 1) (by trivial)) (vz (c4 (uc (rL W) hr (aa (uv 2) (aa (bi (uv 0) aA (by trivial)) ag))))))))) (λ_ _ _ _ _=>(uv 0)))))))
theorem mD:al ["tables","ask"] ["tables","ask"] (af (aG 57)):=cC
@[reducible] def mE:BS:=(ar (ca (bB (js (bS fG (ae 1) (bI 4))))
 (bA (aH (bU 2 gI) (ad (ae 0) (ad (ae 1) am))))
 bw)
 (bA (aH (bU 2 fE) (ad (ae 0) (ad (ae 1) am)))))
def de:BF:=cf 2 mE
theorem d8:W.cal "blocking_locks" 5 2 de:=by
 refine bM W.d_blocking_locks mD (b2 λ_ _=>rfl) λhr hu=>?_
 (conv=>arg 2; whnf)
 with_reducible exact (ah (bg (ge (dS (dR (bi (uv 1) aA (by trivial))))) (aj (aK (uc (lE W) hr (aa (uv 0) (aa (uv 1) ag))))) a7)
   (aj (aK (uc (jg W) hr (aa (uv 0) (aa (uv 1) ag))))))
theorem j8:al ["one","other"] ["one","other"] (af (aG 58)):=cC
@[reducible] def j9:BS:=(ar (ca (Gj (bB (bS IQ (bS fG (ae 0) (bI 2)) (bS fG (ae 1) (bI 2)))) (Gj (bB (bS (zk false) (Ks 5 (ae 0)) (Ks 5 (ae 1)))) (qH (bB (aH (bU 2 pU) (ad (bS fG (ae 0) (bI 3)) (ad (bS fG (ae 1) (bI 3)) am)))))))
 bO
 bw)
 (ar (ca (Gj (bB (js (bS fG (ae 0) (bI 4)))) (bB (js (bS fG (ae 1) (bI 4)))))
 (bA (bS yB (bS fG (ae 0) (bI 4)) (bS fG (ae 1) (bI 4))))
 bw)
 (bA (aH (bU 2 pS) (ad (bS fG (ae 0) (bI 4)) (ad (bS fG (ae 1) (bI 4)) am))))))
def gj:BF:=cf 2 j9
theorem kf:W.cal "asks_are_against" 3 2 gj:=by
 refine bM W.d_asks_are_against j8 (b2 λ_ _=>rfl) λhr hu=>?_
 (conv=>arg 2; whnf)
 with_reducible exact (ah (bg (PW.pt (oo (bE pZ lj (bi (uv 0) aA (by trivial)) (bi (uv 1) aA (by trivial)) (by trivial)) (oo (bE (DZ (D4 hr)) ma (EK 5 (wS Ay (uv 0) (Am cY) Al)) (EK 5 (wS Ay (uv 1) (Am cY) Al)) (by trivial)) (lh (gS (c4 (uc (rL W) hr (aa (bi (uv 0) aA (by trivial)) (aa (bi (uv 1) aA (by trivial)) ag))))))))) (aj a5) a7)
   (ah (bg (PW.pt (oo (ge (dS (dR (bi (uv 0) aA (by trivial))))) (lh (ge (dS (dR (bi (uv 1) aA (by trivial)))))))) (aj (aK (jr f8 dF (bi (uv 0) aA (by trivial)) (bi (uv 1) aA (by trivial)) (by trivial)))) a7)
   (aj (aK (uc (rA W) hr (aa (bi (uv 0) aA (by trivial)) (aa (bi (uv 1) aA (by trivial)) ag)))))))
theorem io:al ["tables","ask","elder"] ["tables","ask"] (af (aG 59)):=cC
abbrev iQ:Pp:=o9 [("number",.local),("other",.local),("ask",.free)]
theorem dH:aR (af (aG 59)) ["tables","ask","elder"] iQ ["number","other","ask"] [none,none,some 1]:=pf
abbrev iR:Pp:=o9 [("other",.local),("asks_are_against",.globalImplicit),("ask",.free)]
theorem gk:aR (af (aG 59)) ["tables","ask","elder"] iR ["other","ask"] [none,some 1]:=pf
@[reducible] def nJ:BS:=(ar (ca (qH (l9 (aT 29 (ae 0))))
 (bA (nq am))
 bw)
 (ar (aX (Kv 40 false [none,none,some 1] (aT 73 (ae 0)) (cE 2 (aB (ai 0) (aB (ai 1) cI))) (bB (bS J7 (ae 0) (bS fG (ae 2) (bI 0)))) (ae 1)) (ai 2))
 (bA (j5 iJ (ad (qM 40 [none,some 1] (il (ae 2)) (ai 0) (bB (aH (bU 2 gj) (ad (ae 0) (ad (ae 1) am)))) (bS fG (ae 0) (bI 0))) am)))))
def dy:BF:=cf 3 nJ
theorem eZ:W.cal "blocking_asks" 4 2 dy:=by
 refine bM W.d_blocking_asks io (b2 λ_ _=>rfl) λhr hu=>?_
 (conv=>arg 2; whnf)
 with_reducible exact (ah (bg (gS (eU (da (HE W.G (uv 0))))) (aj (aK (fM ag))) a7)
   (ah (Cn 40 2 (by decide) (jo (by rfl) io.nd (by rfl) (by rfl) (by with_unfolding_all exact dH) (xy (bK W.G (uv 0))) (λ_ _ _ _ _=>(bX (n:=2) (by rfl) (aq (ug 0 dH.nd) (aq (ug 1 dH.nd) bx)))) (λ_ _ _ _ _=>(d4 (bE qa nu (uv 0) (bi (uv 2) aA (by trivial)) (by trivial)))) (λ_ _ _ _ _=>(uv 1))))
   (aj (aK (cb (fu (by rfl)) gg (by rfl) W.M.sorted cg (aa (fV 40 (by decide) (fS (by rfl) (by with_unfolding_all exact gk) (fO (dv (uv 2))) (λ_ _ _ _ _=>(ug 0 gk.nd)) (λ_ _ _ _ _=>(d4 (c4 (uc (kf W) hr (aa (uv 0) (aa (uv 1) ag)))))) (λ_ _ _ _ _=>(bi (uv 0) aA (by trivial))))) ag))))))
theorem tI:al ["tables","ask"] ["tables","ask"] (af (aG 60)):=cC
@[reducible] def tJ:BS:=(bA (j5 EI (ad (LY (aH (bU 2 de) (ad (ae 0) (ad (ae 1) am))) (aH (bU 2 dy) (ad (ae 0) (ad (ae 1) am)))) am)))
def mF:BF:=cf 2 tJ
theorem tL:W.cal "is_blocked" 6 2 mF:=by
 refine bM W.d_is_blocked tI (b2 λ_ _=>rfl) λhr hu=>?_
 (conv=>arg 2; whnf)
 with_reducible exact (aj (aK (b9 zr EJ (by rfl) W.M.bool qB (aa (Kq (uc (d8 W) hr (aa (uv 0) (aa (uv 1) ag))) (li (uc (eZ W) hr (aa (uv 0) (aa (uv 1) ag))))) ag))))
theorem fb:al ["tables","ask","rows","elder"] ["tables","ask"] (af (aG 61)):=cC
@[reducible] def nL:BS:=(ar (aX (aH (bU 2 de) (ad (ae 0) (ad (ae 1) am))) (ai 2))
 (ar (ca (l9 (ae 2))
 (bA (bS fG (ae 2) (bI 0)))
 bw)
 (ar (aX (aH (bU 2 dy) (ad (ae 0) (ad (ae 1) am))) (ai 3))
 (bA (IM (l9 (ae 3)) (bJ (aT 73 (ae 0)) (bS fG (ae 3) (bI 0))) (bC .non))))))
def i0:BF:=cf 4 nL
theorem nM:W.cal "first_blocker" 6 2 i0:=by
 refine bM W.d_first_blocker fb (b2 λ_ _=>rfl) λhr hu=>?_
 (conv=>arg 2; whnf)
 with_reducible exact (ah (ua 2 fb.nd (uc (d8 W) hr (aa (uv 0) (aa (uv 1) ag))))
   (ah (bg (eU (da (uv 2))) (aj (aK (bi (uv 2) aA (by trivial)))) a7)
   (ah (ua 3 fb.nd (uc (eZ W) hr (aa (uv 0) (aa (uv 1) ag))))
   (aj (aK (gb (eU (da (uv 3))) (aS hu (bK W.G (uv 0)) (bi (uv 3) aA (by trivial)) (by trivial)) lg))))))
theorem wg:al ["tables","file","holder","shared","alone"] ["tables","file","holder","shared","alone"] (af (aG 62)):=cC
@[reducible] def wj:BS:=(ca (Gj (l9 (ae 3)) (l9 (ae 4)))
 (aN (bd 0 4 [] bo (ae 0) (ad (bJ (aT 38 (ae 0)) (ae 1)) (ad (ae 2) (ad (bW (ad (ae 3) (ad (ae 4) am))) am)))))
 (aN (bd 0 3 [] bF (ae 0) (ad (bJ (aT 38 (ae 0)) (ae 1)) (ad (ae 2) am)))))
def jF:BF:=cf 5 wj
theorem mG:W.cal "keep_lots" 2 5 jF:=by
 refine bM W.d_keep_lots wg (b5 λ_ _ _ _ _=>rfl) λhr hu=>?_
 (conv=>arg 2; whnf)
 with_reducible exact (aj (bg (PW.pt (oo (eU (da (uv 3))) (lh (eU (da (uv 4)))))) (aj (au (um (bH W) W.G.c0 hr (uv 0) (aa (aS hu (gC W.G (uv 0)) (uv 1) (by trivial)) (aa (uv 2) (aa (aQ (aa (uv 3) (aa (uv 4) ag))) ag)))))) (aj (au (um (bP W) W.G.c0 hr (uv 0) (aa (aS hu (gC W.G (uv 0)) (uv 1) (by trivial)) (aa (uv 2) ag)))))))
theorem g9:al ["tables","file","holder","stretch","shared","alone"] ["tables","file","holder","stretch"] (af (aG 63)):=cC
@[reducible] def tM:BS:=(ar (aX (Et (bJ (aT 38 (ae 0)) (ae 1)) (ae 2) (bW (ad (bW am) (ad (bW am) am)))) (cE 2 (aB (ai 4) (aB (ai 5) cI))))
 (aN (aH (bU 5 jF) (ad (ae 0) (ad (ae 1) (ad (ae 2) (ad (aH (bU 2 (FU nF)) (ad (ae 4) (ad (bW (ad (ae 3) am)) am))) (ad (aH (bU 2 (FU nF)) (ad (ae 5) (ad (bW (ad (ae 3) am)) am))) am))))))))
def iS:BF:=cf 6 tM
theorem kR:W.cal "free_cells" 5 4 iS:=by
 refine bM W.d_free_cells g9 (b4 λ_ _ _ _=>rfl) λhr hu=>?_
 (conv=>arg 2; whnf)
 with_reducible exact (ah (dG (dz (AL hu (aS hu (gC W.G (uv 0)) (uv 1) (by trivial)) (uv 2) (aQ (aa (aQ ag) (aa (aQ ag) ag))) (by trivial)) (bX (n:=2) (by rfl) (aq (ug 4 g9.nd) (aq (ug 5 g9.nd) bx)))))
   (aj (au (uc (mG W) hr (aa (uv 0) (aa (uv 1) (aa (uv 2) (aa (uc (xW (rB W)) hr (aa (uv 4) (aa (aQ (aa (uv 3) ag)) ag))) (aa (uc (xW (rB W)) hr (aa (uv 5) (aa (aQ (aa (uv 3) ag)) ag))) ag)))))))))
theorem d9:al ["tables","ask","number","task","file","kind","stretch","by","holder","shared","alone"] ["tables","ask"] (af (aG 64)):=cC
@[reducible] def HV:BS:=(ar (aX (ae 1) (cE 7 (aB (ai 2) (aB (ai 3) (aB (ai 4) (aB (ai 5) (aB (ai 6) (aB (ai 7) (aB (ai 8) cI)))))))))
 (ar (ca (bB (js (ae 6)))
 (ar (aN (bd 0 4 [] bo (ae 0) (ad (bJ (aT 75 (ae 0)) (ae 4)) (ad (ae 8) (ad (ae 5) am)))))
 IO)
 bw)
 (ar (aN (aH (bU 4 iS) (ad (ae 0) (ad (ae 4) (ad (bW (ad (ae 7) (ad (ae 8) am))) (ad (ae 6) am))))))
 (ar (aX (Et (bJ (aT 38 (ae 0)) (ae 4)) (bW (ad (ae 7) (ad (ae 8) am))) (bW (ad (bW am) (ad (bW am) am)))) (cE 2 (aB (ai 9) (aB (ai 10) cI))))
 (ar (ca (bB (bS yB (ae 5) (bC (.str 63))))
 bO
 (aX (aH (bU 2 x5) (ad (ae 10) (ad (bW (ad (ae 6) am)) am))) (ai 10)))
 (aN (aH (bU 5 jF) (ad (ae 0) (ad (ae 4) (ad (bW (ad (ae 7) (ad (ae 8) am))) (ad (ae 9) (ad (ae 10) am))))))))))))
def zU:BF:=cf 11 HV
theorem Bo:W.cal "take" 6 2 zU:=by
 refine bM W.d_take d9 (b2 λ_ _=>rfl) λhr hu=>?_
 (conv=>arg 2; whnf)
 with_reducible exact (ah (dG (dz (uv 1) (bX (n:=7) (by rfl) (aq (ug 2 d9.nd) (aq (ug 3 d9.nd) (aq (ug 4 d9.nd) (aq (ug 5 d9.nd) (aq (ug 6 d9.nd) (aq (ug 7 d9.nd) (aq (ug 8 d9.nd) bx))))))))))
   (ah (bg (ge (dS (dR (uv 6)))) (ah (au (um (bH W) W.G.c0 hr (uv 0) (aa (aS hu (jx W.G (uv 0)) (uv 4) (by trivial)) (aa (uv 8) (aa (uv 5) ag)))))
   (aj G2)) a7)
   (ah (au (uc (kR W) hr (aa (uv 0) (aa (uv 4) (aa (aQ (aa (uv 7) (aa (uv 8) ag))) (aa (uv 6) ag))))))
   (ah (dG (dz (AL hu (aS hu (gC W.G (uv 0)) (uv 4) (by trivial)) (aQ (aa (uv 7) (aa (uv 8) ag))) (aQ (aa (aQ ag) (aa (aQ ag) ag))) (by trivial)) (bX (n:=2) (by rfl) (aq (ug 9 d9.nd) (aq (ug 10 d9.nd) bx)))))
   (ah (bg (bE f8 dF (uv 5) (a8 63) (by trivial)) (aj a5) (aj (ua 10 d9.nd (uc (CY W) hr (aa (uv 10) (aa (aQ (aa (uv 6) ag)) ag))))))
   (aj (au (uc (mG W) hr (aa (uv 0) (aa (uv 4) (aa (aQ (aa (uv 7) (aa (uv 8) ag))) (aa (uv 9) (aa (uv 10) ag)))))))))))))
end
section
variable (W:Wr P w K mg base gy)
local macro_rules | `(tactic| rfl) => `(tactic| with_unfolding_all exact rfl)
local macro_rules | `(tactic| trivial) => `(tactic| with_unfolding_all (first | exact Or.inl rfl | exact Or.inr rfl | exact jj _ | exact (fun _ _ => rfl) | exact (fun _ => rfl) | exact ⟨rfl, rfl, rfl, rfl⟩))
theorem Bp:al ["tables","number","outcome","task"] ["tables","number","outcome"] (af (aG 67)):=cC
@[reducible] def HW:BS:=(ar (aX (bS fG (bJ (aT 73 (ae 0)) (ae 1)) (bI 1)) (ai 3))
 (ar (aN (bd 0 3 [] bF (ae 0) (ad (aT 73 (ae 0)) (ad (ae 1) am))))
 (ar (aN (bd 0 3 [] bF (ae 0) (ad (aT 5 (ae 0)) (ad (ae 3) am))))
 (aN (bd 0 4 [] bo (ae 0) (ad (aT 56 (ae 0)) (ad (ae 1) (ad (ae 2) am))))))))
def zV:BF:=cf 4 HW
theorem Bq:W.cal "wake" 2 3 zV:=by
 refine bM W.d_wake Bp (b3 λ_ _ _=>rfl) λhr hu=>?_
 (conv=>arg 2; whnf)
 with_reducible exact (ah (ua 3 Bp.nd (bi (aS hu (bK W.G (uv 0)) (uv 1) (by trivial)) aA (by trivial)))
   (ah (au (um (bP W) W.G.c0 hr (uv 0) (aa (bK W.G (uv 0)) (aa (uv 1) ag))))
   (ah (au (um (bP W) W.G.c0 hr (uv 0) (aa (dM W.G (uv 0)) (aa (uv 3) ag))))
   (aj (au (um (bH W) W.G.c0 hr (uv 0) (aa (jy W.G (uv 0)) (aa (uv 1) (aa (uv 2) ag)))))))))
theorem cy:al ["tables","row","first","end","kind","by","number"] ["tables","row"] (af (aG 68)):=cC
@[reducible] def pi:BS:=(ar (ca (bB (bS yB (j5 vG (ad (ae 1) am)) (bI 2)))
 (bA (bS fG (bJ (aT 54 (ae 0)) (bS fG (ae 1) (bI 0))) (bI 2)))
 bw)
 (ar (aX (ae 1) (cE 5 (aB (ai 2) (aB (ai 3) (aB (ai 4) (aB (ai 5) (aB (ai 6) cI)))))))
 (bA (IM (bB (bS yB (ae 5) (bC (.str 66)))) (bW (ad (ae 6) am)) (bS fG (bJ (aT 54 (ae 0)) (ae 6)) (bI 2))))))
def jG:BF:=cf 7 pi
theorem pj:W.cal "tasks_behind" 1 2 jG:=by
 refine bM W.d_tasks_behind cy (b2 λ_ _=>rfl) λhr hu=>?_
 (conv=>arg 2; whnf)
 with_reducible exact (ah (bg (bE f8 dF (cb eO iE (by rfl) W.M.len QW (aa (uv 1) ag)) aA (by trivial)) (aj (aK (bi (aS hu (cx W.G (uv 0)) (bi (uv 1) aA (by trivial)) (by trivial)) aA (by trivial)))) a7)
   (ah (dG (dz (uv 1) (bX (n:=5) (by rfl) (aq (ug 2 cy.nd) (aq (ug 3 cy.nd) (aq (ug 4 cy.nd) (aq (ug 5 cy.nd) (aq (ug 6 cy.nd) bx))))))))
   (aj (aK (gb (bE f8 dF (uv 5) (a8 66) (by trivial)) (aQ (aa (uv 6) ag)) (bi (aS hu (cx W.G (uv 0)) (uv 6) (by trivial)) aA (by trivial)))))))
theorem oH:al ["tables","ask","needs"] ["tables","ask"] (af (aG 69)):=cC
abbrev mH:Pp:=o9 [("row",.local),("tasks_behind",.globalImplicit),("tables",.free)]
theorem kT:aR (af (aG 69)) ["tables","ask","needs"] mH ["row","tables"] [none,some 0]:=pf
abbrev mI:Pp:=o9 [("number",.local),("tables",.free)]
theorem kU:aR (af (aG 69)) ["tables","ask","needs"] mI ["number","tables"] [none,some 0]:=pf
@[reducible] def x9:BS:=(ar (aX (qM 40 [none,some 0] (il (aH (bU 2 de) (ad (ae 0) (ad (ae 1) am)))) (ai 0) jw (aH (bU 2 jG) (ad (ae 1) (ad (ae 0) am)))) (ai 2))
 (ar (aN (Dl jT (ae 2) (ad (qM 40 [none,some 0] (il (aH (bU 2 dy) (ad (ae 0) (ad (ae 1) am)))) (ai 0) jw (bW (ad (bS fG (bJ (aT 73 (ae 1)) (ae 0)) (bI 1)) am))) am)))
 (bA (ae 2))))
def rM:BF:=cf 3 x9
theorem ya:W.cal "needs_of" 6 2 rM:=by
 refine bM W.d_needs_of oH (b2 λ_ _=>rfl) λhr hu=>?_
 (conv=>arg 2; whnf)
 with_reducible exact (ah (md 40 2 (by decide) (jo (by rfl) oH.nd (by rfl) (by rfl) (by with_unfolding_all exact kT) (fO (dv (uc (d8 W) hr (aa (uv 0) (aa (uv 1) ag))))) (λ_ _ _ _ _=>(ug 0 kT.nd)) (λ_ _ _ _ _=>ce) (λ_ _ _ _ _=>(uc (pj W) hr (aa (uv 1) (aa (uv 0) ag))))))
   (ah (au (kH iG (kq Pd QH Ri (by with_unfolding_all exact jS) (uv 2) (aa (fV 40 (by decide) (fS (by rfl) (by with_unfolding_all exact kU) (fO (dv (uc (eZ W) hr (aa (uv 0) (aa (uv 1) ag))))) (λ_ _ _ _ _=>(ug 0 kU.nd)) (λ_ _ _ _ _=>ce) (λ_ _ _ _ _=>(aQ (aa (bi (aS hu (bK W.G (uv 1)) (uv 0) (by trivial)) aA (by trivial)) ag))))) ag))))
   (aj (aK (uv 2)))))
theorem Da:al ["needs","free"] ["needs","free"] (af (aG 70)):=cC
abbrev i4:Pp:=o9 [("tasks",.local),("any",.globalImplicit),("free",.free)]
theorem oI:aR (af (aG 70)) ["needs","free"] i4 ["tasks","free"] [none,some 1]:=pf
abbrev pk:Pp:=o9 [("task",.local),("free",.free)]
theorem oJ:aR i4 ["tasks","free"] pk ["task","free"] [none,some 1]:=pf
@[reducible] def Db:BS:=(bA (j5 iH (ad (qM 40 [none,some 1] (il (ae 0)) (ai 0) jw (j5 Kr (ad (qM 40 [none,some 1] (ez (ae 0)) (ai 0) jw (vE (ae 0) (ae 1))) am))) am)))
def yb:BF:=cf 2 Db
theorem Dc:W.cal "can_go" 1 2 yb:=by
 refine bM W.d_can_go Da (b2 λ_ _=>rfl) λhr hu=>?_
 (conv=>arg 2; whnf)
 with_reducible exact (aj (aK (cb (Cd (by rfl)) Hi (by rfl) W.M.all Cb (aa (fV 40 (by decide) (fS (by rfl) (by with_unfolding_all exact oI) (fO (dv (uv 0))) (λ_ _ _ _ _=>(ug 0 oI.nd)) (λ_ _ _ _ _=>ce) (λ_ _ _ _ _=>(cb (Cc (by rfl)) Hh (by rfl) W.M.any Ca (aa (fV 40 (by decide) (fS (by rfl) (by with_unfolding_all exact aR.re oJ) (c6 (cZ (uv 0))) (λ_ _ _ _ _=>(ug 0 oJ.nd)) (λ_ _ _ _ _=>ce) (λ_ _ _ _ _=>(zg hu (uv 0) (uv 1) (by rfl))))) ag))))) ag))))
theorem cD:al ["tables","free","left","found","number"] ["tables"] (af (aG 71)):=cC
abbrev kh:Pp:=o9 [("task",.local),("tables",.free)]
theorem i5:aR (af (aG 71)) ["tables","free","left","found","number"] kh ["task","tables"] [none,some 0]:=pf
abbrev ki:Pp:=o9 [("number",.local),("needs_of",.globalImplicit),("tables",.free)]
theorem i6:aR (af (aG 71)) ["tables","free","left","found","number"] ki ["number","tables"] [none,some 0]:=pf
@[reducible] def tN:BS:=(ar (aX (Kx 40 true [none,some 0] (aT 41 (ae 0)) (ai 0) (bB (pL (ae 0) (aT 5 (ae 1)))) (ae 0) (bC (.bl true))) (ai 1))
 (ar (aX (La 40 [none,some 0] (il (j5 iJ (ad (aT 73 (ae 0)) am))) (ai 0) jw (ae 0) (aH (bU 2 rM) (ad (ae 1) (ad (bJ (aT 73 (ae 1)) (ae 0)) am)))) (ai 2))
 (ar (aX (bC (.bl true)) (ai 3))
 (ar (gf 40 (l9 (ae 3))
 (ar (aX (bC (.bl false)) (ai 3))
 (o3 40 (il (j5 vT (ad (ae 2) am))) (ai 4)
 (ca (bB (aH (bU 2 yb) (ad (bJ (ae 2) (ae 4)) (ad (ae 1) am))))
 (ar (Eu (ae 1) (bS fG (bJ (aT 73 (ae 0)) (ae 4)) (bI 1)) (bC (.bl true)))
 (ar (Fd (ae 2) (ae 4))
 (aX (bC (.bl true)) (ai 3))))
 bw))))
 (bA (j5 vT (ad (ae 2) am)))))))
def fZ:BF:=cf 5 tN
theorem hE:W.cal "stuck_asks" 7 1 fZ:=by
 refine bM W.d_stuck_asks cD (b1 λ_=>rfl) λhr hu=>?_
 (conv=>arg 2; whnf)
 with_reducible exact (ah (Cp 40 1 (by decide) (xC (by rfl) cD.nd (by rfl) (by rfl) (by with_unfolding_all exact i5) (Hl (c8 W.G (uv 0))) (λ_ _ _ _ _=>(ug 0 i5.nd)) (λ_ _ _ _ _=>(d4 (uC hu (uv 0) (dM W.G (uv 1)) (by rfl)))) (λ_ _ _ _ _=>(uv 0)) (λ_ _ _ _ _=>kG)))
   (ah (EV 40 2 (by decide) (xC (by rfl) cD.nd (by rfl) (by rfl) (by with_unfolding_all exact i6) (fO (dv (cb (fu (by rfl)) gg (by rfl) W.M.sorted cg (aa (bK W.G (uv 0)) ag)))) (λ_ _ _ _ _=>(ug 0 i6.nd)) (λ_ _ _ _ _=>ce) (λ_ _ _ _ _=>(uv 0)) (λ_ _ _ _ _=>(uc (ya W) hr (aa (uv 1) (aa (aS hu (bK W.G (uv 1)) (uv 0) (by trivial)) ag))))))
   (ah (ua 3 cD.nd kG)
   (ah (jv 40 O8 (eU (da (uv 3))) (ah (ua 3 cD.nd kG)
   (aj (gT 40 O8 (by rfl) (fO (dv (b9 (qV (by rfl)) uN (by rfl) W.M.list qA (aa (uv 2) ag)))) (ug 4 cD.nd) (aj (bg (c4 (uc (Dc W) hr (aa (aS hu (uv 2) (uv 4) (by trivial)) (aa (uv 1) ag)))) (ah (AM hu (uv 1) (bi (aS hu (bK W.G (uv 0)) (uv 4) (by trivial)) aA (by trivial)) kG (by rfl))
   (ah (A9 hu (uv 2) (uv 4))
   (aj (ua 3 cD.nd kG)))) a7))))))
   (aj (aK (b9 (qV (by rfl)) uN (by rfl) W.M.list qA (aa (uv 2) ag))))))))
theorem jH:al ["tables","ask","number"] ["tables","ask"] (af (aG 66)):=cC
@[reducible] def rN:BS:=(ar (aX (bd 0 2 [] d5 (ae 0) (ad (bC (.str 3)) am)) (ai 2))
 (ar (aN (bd 0 4 [] bo (ae 0) (ad (aT 73 (ae 0)) (ad (ae 2) (ad (ae 1) am)))))
 (ar (aN (bd 0 4 [] bo (ae 0) (ad (aT 5 (ae 0)) (ad (bS fG (ae 1) (bI 1)) (ad (ae 2) am)))))
 (ar (aN (bd 0 4 [] bo (ae 0) (ad (aT 56 (ae 0)) (ad (ae 2) (ad (bC (.str 74)) am)))))
 (ar (ca (bB (bS (K8 false) (ae 2) (aH (bU 1 fZ) (ad (ae 0) am))))
 bO
 bw)
 (bA (ae 2)))))))
def kW:BF:=cf 3 rN
theorem rO:W.cal "fall_asleep" 8 2 kW:=by
 refine bM W.d_fall_asleep jH (b2 λ_ _=>rfl) λhr hu=>?_
 (conv=>arg 2; whnf)
 with_reducible exact (ah (ua 2 jH.nd (um (gi W) W.G.c0 hr (uv 0) (aa (a8 3) ag)))
   (ah (au (um (bH W) W.G.c0 hr (uv 0) (aa (bK W.G (uv 0)) (aa (uv 2) (aa (uv 1) ag)))))
   (ah (au (um (bH W) W.G.c0 hr (uv 0) (aa (dM W.G (uv 0)) (aa (bi (uv 1) aA (by trivial)) (aa (uv 2) ag)))))
   (ah (au (um (bH W) W.G.c0 hr (uv 0) (aa (jy W.G (uv 0)) (aa (uv 2) (aa (a8 74) ag)))))
   (ah (bg (bE D5 vH (uv 2) (uc (hE W) hr (aa (uv 0) ag)) (by rfl)) (aj a5) a7)
   (aj (aK (uv 2))))))))
theorem fc:al ["tables","stuck"] ["tables"] (af (aG 72)):=cC
@[reducible] def nN:BS:=(ar (aX (aH (bU 1 fZ) (ad (ae 0) am)) (ai 1))
 (gf 40 (l9 (ae 1))
 (ar bO
 (aX (aH (bU 1 fZ) (ad (ae 0) am)) (ai 1)))))
def i7:BF:=cf 2 nN
theorem nO:W.cal "give_up_stuck" 8 1 i7:=by
 refine bM W.d_give_up_stuck fc (b1 λ_=>rfl) λhr hu=>?_
 (conv=>arg 2; whnf)
 with_reducible exact (ah (ua 1 fc.nd (uc (hE W) hr (aa (uv 0) ag)))
   (aj (jv 40 O8 (eU (da (uv 1))) (ah a5
   (aj (ua 1 fc.nd (uc (hE W) hr (aa (uv 0) ag))))))))
theorem gm:al ["tables","number"] ["tables"] (af (aG 73)):=cC
@[reducible] def lF:BS:=(ar (o3 40 (il (j5 iJ (ad (aT 73 (ae 0)) am))) (ai 1)
 (ca (qH (bB (aH (bU 2 mF) (ad (ae 0) (ad (bJ (aT 73 (ae 0)) (ae 1)) am)))))
 (bA (ae 1))
 bw))
 (bA (bC .non)))
def ee:BF:=cf 2 lF
theorem gn:W.cal "first_unblocked" 7 1 ee:=by
 refine bM W.d_first_unblocked gm (b1 λ_=>rfl) λhr hu=>?_
 (conv=>arg 2; whnf)
 with_reducible exact (ah (gT 40 O8 (by rfl) (fO (dv (cb (fu (by rfl)) gg (by rfl) W.M.sorted cg (aa (bK W.G (uv 0)) ag)))) (ug 1 gm.nd) (aj (bg (gS (c4 (uc (tL W) hr (aa (uv 0) (aa (aS hu (bK W.G (uv 0)) (uv 1) (by trivial)) ag))))) (aj (aK (uv 1))) a7)))
   (aj (aK lg)))
theorem rP:al ["tables","number"] ["tables"] (af (aG 74)):=cC
@[reducible] def F4:BS:=(ar (aX (aH (bU 1 ee) (ad (ae 0) am)) (ai 1))
 (gf 40 (bB (Eo (ae 1)))
 (ar (aN (aH (bU 2 zU) (ad (ae 0) (ad (bJ (aT 73 (ae 0)) (ae 1)) am))))
 (ar (aN (aH (bU 3 zV) (ad (ae 0) (ad (ae 1) (ad (bC (.str 36)) am)))))
 (aX (aH (bU 1 ee) (ad (ae 0) am)) (ai 1))))))
def Br:BF:=cf 2 F4
theorem F5:W.cal "grant" 8 1 Br:=by
 refine bM W.d_grant rP (b1 λ_=>rfl) λhr hu=>?_
 (conv=>arg 2; whnf)
 with_reducible exact (ah (ua 1 rP.nd (uc (gn W) hr (aa (uv 0) ag)))
   (aj (jv 40 O8 (G5 (dS (Gp (uv 1)))) (ah (au (uc (Bo W) hr (aa (uv 0) (aa (aS hu (bK W.G (uv 0)) (uv 1) (by trivial)) ag))))
   (ah (au (uc (Bq W) hr (aa (uv 0) (aa (uv 1) (aa (a8 36) ag)))))
   (aj (ua 1 rP.nd (uc (gn W) hr (aa (uv 0) ag)))))))))
theorem De:al ["tables"] ["tables"] (af (aG 75)):=cC
@[reducible] def Df:BS:=(ca (l9 (aT 73 (ae 0)))
 (ar (aN (aH (bU 1 i7) (ad (ae 0) am)))
 (aN (aH (bU 1 Br) (ad (ae 0) am))))
 bw)
def yc:BF:=cf 1 Df
theorem Dg:W.cal "settle" 9 1 yc:=by
 refine bM W.d_settle De (b1 λ_=>rfl) λhr hu=>?_
 (conv=>arg 2; whnf)
 with_reducible exact (aj (bg (eU (da (bK W.G (uv 0)))) (ah (au (uc (nO W) hr (aa (uv 0) ag)))
   (aj (au (uc (F5 W) hr (aa (uv 0) ag))))) a7))
end
section
variable (W:Wr P w K mg base gy)
local macro_rules | `(tactic| rfl) => `(tactic| with_unfolding_all exact rfl)
local macro_rules | `(tactic| trivial) => `(tactic| with_unfolding_all (first | exact Or.inl rfl | exact Or.inr rfl | exact jj _ | exact (fun _ _ => rfl) | exact (fun _ => rfl) | exact ⟨rfl, rfl, rfl, rfl⟩))
theorem fm:al ["tables","task","number","handle","mark"] ["tables","task"] (af (aG 78)):=cC
@[reducible] def tO:BS:=(ar (aX (bI 0) (ai 2))
 (ar (o3 40 (ez (bJ (aT 41 (ae 0)) (ae 1))) (cE 2 (aB (ai 3) (aB (ai 4) cI)))
 bO)
 (bA (ae 2))))
def mJ:BF:=cf 5 tO
theorem tR:W.cal "new_handle" 1 2 mJ:=by
 refine bM W.d_new_handle fm (b2 λ_ _=>rfl) λhr hu=>?_
 (conv=>arg 2; whnf)
 with_reducible exact (ah (ua 2 fm.nd aA)
   (ah (gT 40 O8 (by rfl) (c6 (cZ (aS hu (c8 W.G (uv 0)) (uv 1) (by trivial)))) (bX (n:=2) (by rfl) (aq (ug 3 fm.nd) (aq (ug 4 fm.nd) bx))) (aj a5))
   (aj (aK (uv 2)))))
theorem gJ:al ["tables","mark","task","file","mode","users"] ["tables","mark","task"] (af (aG 79)):=cC
@[reducible] def yd:BS:=(ar (aX (bJ (aT 54 (ae 0)) (ae 1)) (cE 3 (aB (ai 3) (aB (ai 4) (aB (ai 5) cI)))))
 (aN (bd 0 4 [] bo (ae 0) (ad (aT 54 (ae 0)) (ad (ae 1) (ad (bW (ad (ae 3) (ad (ae 4) (ad (j5 eT (ad (xL (bS iX (ae 5) (bW (ad (ae 2) am)))) am)) am)))) am))))))
def rQ:BF:=cf 6 yd
theorem ye:W.cal "add_user" 2 3 rQ:=by
 refine bM W.d_add_user gJ (b3 λ_ _ _=>rfl) λhr hu=>?_
 (conv=>arg 2; whnf)
 with_reducible exact (ah (dG (dz (aS hu (cx W.G (uv 0)) (uv 1) (by trivial)) (bX (n:=3) (by rfl) (aq (ug 3 gJ.nd) (aq (ug 4 gJ.nd) (aq (ug 5 gJ.nd) bx))))))
   (aj (au (um (bH W) W.G.c0 hr (uv 0) (aa (cx W.G (uv 0)) (aa (uv 1) (aa (aQ (aa (uv 3) (aa (uv 4) (aa (b9 bV cH (by rfl) W.M.tuple bR (aa (zG (lQ (zF (by rfl)) (by rfl) W.M.sorted cg (dW (uo (Cy (by rfl)) (by rfl) W.M.set BW (dW (dn dl dq (uv 5) (aQ (aa (uv 2) ag))) iA)) iA))) ag)) ag)))) ag)))))))
theorem Bs:al ["tables","task","handle","mark","pairs"] ["tables","task","handle","mark"] (af (aG 80)):=cC
@[reducible] def HX:BS:=(ar (aX (bS iX (bJ (aT 41 (ae 0)) (ae 1)) (bW (ad (bW (ad (ae 2) (ad (ae 3) am))) am))) (ai 4))
 (ar (aN (bd 0 4 [] bo (ae 0) (ad (aT 41 (ae 0)) (ad (ae 1) (ad (j5 eT (ad (j5 iJ (ad (ae 4) am)) am)) am)))))
 (aN (aH (bU 3 rQ) (ad (ae 0) (ad (ae 3) (ad (ae 1) am)))))))
def F6:BF:=cf 5 HX
theorem HY:W.cal "lead" 3 4 F6:=by
 refine bM W.d_lead Bs (b4 λ_ _ _ _=>rfl) λhr hu=>?_
 (conv=>arg 2; whnf)
 with_reducible exact (ah (ua 4 Bs.nd (dn dl dq (aS hu (c8 W.G (uv 0)) (uv 1) (by trivial)) (aQ (aa (aQ (aa (uv 2) (aa (uv 3) ag))) ag))))
   (ah (au (um (bH W) W.G.c0 hr (uv 0) (aa (c8 W.G (uv 0)) (aa (uv 1) (aa (b9 bV cH (by rfl) W.M.tuple bR (aa (cb (fu (by rfl)) gg (by rfl) W.M.sorted cg (aa (uv 4) ag)) ag)) ag)))))
   (aj (au (uc (ye W) hr (aa (uv 0) (aa (uv 3) (aa (uv 1) ag))))))))
theorem ef:al ["tables","mark","task","file","mode","users","left"] ["tables","mark","task"] (af (aG 81)):=cC
abbrev lG:Pp:=o9 [("user",.local),("task",.free)]
theorem jI:aR (af (aG 81)) ["tables","mark","task","file","mode","users","left"] lG ["user","task"] [none,some 2]:=pf
@[reducible] def wk:BS:=(ar (aX (bJ (aT 54 (ae 0)) (ae 1)) (cE 3 (aB (ai 3) (aB (ai 4) (aB (ai 5) cI)))))
 (ar (aX (j5 eT (ad (qM 40 [none,some 2] (ez (ae 5)) (ai 0) (bB (bS IQ (ae 0) (ae 1))) (ae 0)) am)) (ai 6))
 (ar (ca (l9 (ae 6))
 (ar bO
 bO)
 bw)
 (ar (aN (bd 0 3 [] bF (ae 0) (ad (aT 54 (ae 0)) (ad (ae 1) am))))
 (ar (aN (bd 0 3 [] bF (ae 0) (ad (bJ (aT 38 (ae 0)) (ae 3)) (ad (bW (ad (bC (.str 45)) (ad (ae 1) am))) am))))
 (aN (bd 0 3 [] bF (ae 0) (ad (bJ (aT 75 (ae 0)) (ae 3)) (ad (ae 1) am)))))))))
def oK:BF:=cf 7 wk
theorem wl:W.cal "lose_user" 2 3 oK:=by
 refine bM W.d_lose_user ef (b3 λ_ _ _=>rfl) λhr hu=>?_
 (conv=>arg 2; whnf)
 with_reducible exact (ah (dG (dz (aS hu (cx W.G (uv 0)) (uv 1) (by trivial)) (bX (n:=3) (by rfl) (aq (ug 3 ef.nd) (aq (ug 4 ef.nd) (aq (ug 5 ef.nd) bx))))))
   (ah (ua 6 ef.nd (b9 bV cH (by rfl) W.M.tuple bR (aa (fV 40 (by decide) (fS (by rfl) (by with_unfolding_all exact jI) (c6 (cZ (uv 5))) (λ_ _ _ _ _=>(ug 0 jI.nd)) (λ_ _ _ _ _=>(d4 (bE pZ lj (uv 0) (uv 1) (by trivial)))) (λ_ _ _ _ _=>(uv 0)))) ag)))
   (ah (bg (eU (da (uv 6))) (ah a5
   (aj a5)) a7)
   (ah (au (um (bP W) W.G.c0 hr (uv 0) (aa (cx W.G (uv 0)) (aa (uv 1) ag))))
   (ah (au (um (bP W) W.G.c0 hr (uv 0) (aa (aS hu (gC W.G (uv 0)) (uv 3) (by trivial)) (aa (aQ (aa (a8 45) (aa (uv 1) ag))) ag))))
   (aj (au (um (bP W) W.G.c0 hr (uv 0) (aa (aS hu (jx W.G (uv 0)) (uv 3) (by trivial)) (aa (uv 1) ag))))))))))
theorem pV:al ["tables","task","handle","mark","file","left"] ["tables","task","handle"] (af (aG 82)):=cC
abbrev tS:Pp:=o9 [("pair",.local),("handle",.free)]
theorem u5:aR (af (aG 82)) ["tables","task","handle","mark","file","left"] tS ["pair","handle"] [none,some 2]:=pf
abbrev tU:Pp:=o9 [("pair",.local)]
theorem u6:aR (af (aG 82)) ["tables","task","handle","mark","file","left"] tU ["pair"] [none]:=pf
@[reducible] def HZ:BS:=(ar (aX (aH (bU 3 nI) (ad (ae 0) (ad (ae 1) (ad (ae 2) am)))) (ai 3))
 (ar (aX (bS fG (bJ (aT 54 (ae 0)) (ae 3)) (bI 0)) (ai 4))
 (ar (aX (j5 eT (ad (qM 40 [none,some 2] (ez (bJ (aT 41 (ae 0)) (ae 1))) (ai 0) (bB (bS IQ (bS fG (ae 0) (bI 0)) (ae 1))) (ae 0)) am)) (ai 5))
 (ar (aN (bd 0 4 [] bo (ae 0) (ad (aT 41 (ae 0)) (ad (ae 1) (ad (ae 5) am)))))
 (ar (aN (bd 0 3 [] bF (ae 0) (ad (bJ (aT 38 (ae 0)) (ae 4)) (ad (bW (ad (bC (.str 66)) (ad (ae 1) am))) am))))
 (ca (bB (bS (K8 true) (ae 3) (qM 40 [none] (ez (ae 5)) (ai 0) jw (bS fG (ae 0) (bI 1)))))
 (aN (aH (bU 3 oK) (ad (ae 0) (ad (ae 3) (ad (ae 1) am)))))
 bw))))))
def F7:BF:=cf 6 HZ
theorem Ig:W.cal "shut" 3 3 F7:=by
 refine bM W.d_shut pV (b3 λ_ _ _=>rfl) λhr hu=>?_
 (conv=>arg 2; whnf)
 with_reducible exact (ah (ua 3 pV.nd (uc (rH W) hr (aa (uv 0) (aa (uv 1) (aa (uv 2) ag)))))
   (ah (ua 4 pV.nd (bi (aS hu (cx W.G (uv 0)) (uv 3) (by trivial)) aA (by trivial)))
   (ah (ua 5 pV.nd (b9 bV cH (by rfl) W.M.tuple bR (aa (fV 40 (by decide) (fS (by rfl) (by with_unfolding_all exact u5) (c6 (cZ (aS hu (c8 W.G (uv 0)) (uv 1) (by trivial)))) (λ_ _ _ _ _=>(ug 0 u5.nd)) (λ_ _ _ _ _=>(d4 (bE pZ lj (bi (uv 0) aA (by trivial)) (uv 1) (by trivial)))) (λ_ _ _ _ _=>(uv 0)))) ag)))
   (ah (au (um (bH W) W.G.c0 hr (uv 0) (aa (c8 W.G (uv 0)) (aa (uv 1) (aa (uv 5) ag)))))
   (ah (au (um (bP W) W.G.c0 hr (uv 0) (aa (aS hu (gC W.G (uv 0)) (uv 4) (by trivial)) (aa (aQ (aa (a8 66) (aa (uv 1) ag))) ag))))
   (aj (bg (bE ux vH (uv 3) (fV 40 (by decide) (fS (by rfl) (by with_unfolding_all exact u6) (c6 (cZ (uv 5))) (λ_ _ _ _ _=>(ug 0 u6.nd)) (λ_ _ _ _ _=>ce) (λ_ _ _ _ _=>(bi (uv 0) aA (by trivial))))) (by rfl)) (aj (au (uc (wl W) hr (aa (uv 0) (aa (uv 3) (aa (uv 1) ag)))))) a7)))))))
theorem gK:al ["tables","task","pairs","handle","mark"] ["tables","task"] (af (aG 83)):=cC
@[reducible] def yf:BS:=(ar (ca (bB (vE (ae 1) (aT 5 (ae 0))))
 bO
 bw)
 (ar (aX (bJ (aT 41 (ae 0)) (ae 1)) (ai 2))
 (ar (o3 40 (ez (ae 2)) (cE 2 (aB (ai 3) (aB (ai 4) cI)))
 (aN (aH (bU 3 F7) (ad (ae 0) (ad (ae 1) (ad (ae 3) am))))))
 (aN (bd 0 3 [] bF (ae 0) (ad (aT 41 (ae 0)) (ad (ae 1) am)))))))
def rR:BF:=cf 5 yf
theorem yg:W.cal "end_task" 4 2 rR:=by
 refine bM W.d_end_task gK (b2 λ_ _=>rfl) λhr hu=>?_
 (conv=>arg 2; whnf)
 with_reducible exact (ah (bg (zh hu (uv 1) (dM W.G (uv 0)) (by rfl)) (aj a5) a7)
   (ah (ua 2 gK.nd (aS hu (c8 W.G (uv 0)) (uv 1) (by trivial)))
   (ah (gT 40 O8 (by rfl) (c6 (cZ (uv 2))) (bX (n:=2) (by rfl) (aq (ug 3 gK.nd) (aq (ug 4 gK.nd) bx))) (aj (au (uc (Ig W) hr (aa (uv 0) (aa (uv 1) (aa (uv 3) ag)))))))
   (aj (au (um (bP W) W.G.c0 hr (uv 0) (aa (c8 W.G (uv 0)) (aa (uv 1) ag))))))))
theorem i8:al ["tables","ask","wait","blocker"] ["tables","ask","wait"] (af (aG 84)):=cC
@[reducible] def pq:BS:=(ar (aX (aH (bU 2 i0) (ad (ae 0) (ad (ae 1) am))) (ai 3))
 (ar (ca (bB (js (ae 3)))
 (ar (aN (aH (bU 2 zU) (ad (ae 0) (ad (ae 1) am))))
 (bA (bC .non)))
 bw)
 (ar (ca (qH (l9 (ae 2)))
 bO
 bw)
 (ar (ca (bB (js (bS fG (ae 1) (bI 4))))
 (aN (bd 0 3 [] bF (ae 0) (ad (bJ (aT 75 (ae 0)) (bS fG (ae 1) (bI 2))) (ad (bS fG (ae 1) (bI 6)) am))))
 bw)
 (bA (aH (bU 2 kW) (ad (ae 0) (ad (ae 1) am))))))))
def gp:BF:=cf 4 pq
theorem i9:W.cal "take_or_wait" 9 3 gp:=by
 refine bM W.d_take_or_wait i8 (b3 λ_ _ _=>rfl) λhr hu=>?_
 (conv=>arg 2; whnf)
 with_reducible exact (ah (ua 3 i8.nd (uc (nM W) hr (aa (uv 0) (aa (uv 1) ag))))
   (ah (bg (ge (dS (dR (uv 3)))) (ah (au (uc (Bo W) hr (aa (uv 0) (aa (uv 1) ag))))
   (aj (aK lg))) a7)
   (ah (bg (gS (eU (da (uv 2)))) (aj a5) a7)
   (ah (bg (ge (dS (dR (bi (uv 1) aA (by trivial))))) (aj (au (um (bP W) W.G.c0 hr (uv 0) (aa (aS hu (jx W.G (uv 0)) (bi (uv 1) aA (by trivial)) (by trivial)) (aa (bi (uv 1) aA (by trivial)) ag))))) a7)
   (aj (aK (uc (rO W) hr (aa (uv 0) (aa (uv 1) ag)))))))))
theorem oM:al ["tables","values","task"] ["tables","values"] (af (aG 85)):=cC
@[reducible] def yh:BS:=(ar (aX (bd 0 2 [] d5 (ae 0) (ad (bC (.str 66)) am)) (ai 2))
 (ar (aN (bd 0 4 [] bo (ae 0) (ad (aT 41 (ae 0)) (ad (ae 2) (ad (bW am) am)))))
 (bA (ae 2))))
def rS:BF:=cf 3 yh
theorem yi:W.cal "do_begin" 3 2 rS:=by
 refine bM W.d_do_begin oM (b2 λ_ _=>rfl) λhr hu=>?_
 (conv=>arg 2; whnf)
 with_reducible exact (ah (ua 2 oM.nd (um (gi W) W.G.c0 hr (uv 0) (aa (a8 66) ag)))
   (ah (au (um (bH W) W.G.c0 hr (uv 0) (aa (c8 W.G (uv 0)) (aa (uv 2) (aa (aQ ag) ag)))))
   (aj (aK (uv 2)))))
theorem df:al ["tables","values","task","file","mode","mark","handle"] ["tables","values"] (af (aG 86)):=cC
@[reducible] def wm:BS:=(ar (aX (ae 1) (cE 3 (aB (ai 2) (aB (ai 3) (aB (ai 4) cI)))))
 (ar (aN (aH (bU 2 g6) (ad (ae 0) (ad (ae 2) am))))
 (ar (aN (aH (bU 1 mB) (ad (ae 4) am)))
 (ar (aN (aH (bU 2 fX) (ad (ae 0) (ad (ae 3) am))))
 (ar (aX (bd 0 2 [] d5 (ae 0) (ad (bC (.str 45)) am)) (ai 5))
 (ar (aX (aH (bU 2 mJ) (ad (ae 0) (ad (ae 2) am))) (ai 6))
 (ar (aN (bd 0 4 [] bo (ae 0) (ad (aT 54 (ae 0)) (ad (ae 5) (ad (bW (ad (ae 3) (ad (ae 4) (ad (bW am) am)))) am)))))
 (ar (aN (aH (bU 4 F6) (ad (ae 0) (ad (ae 2) (ad (ae 6) (ad (ae 5) am))))))
 (bA (ae 6))))))))))
def oO:BF:=cf 7 wm
theorem wn:W.cal "do_attach" 5 2 oO:=by
 refine bM W.d_do_attach df (b2 λ_ _=>rfl) λhr hu=>?_
 (conv=>arg 2; whnf)
 with_reducible exact (ah (dG (dz (uv 1) (bX (n:=3) (by rfl) (aq (ug 2 df.nd) (aq (ug 3 df.nd) (aq (ug 4 df.nd) bx))))))
   (ah (au (uc (jB W) hr (aa (uv 0) (aa (uv 2) ag))))
   (ah (au (uc (sY W) hr (aa (uv 4) ag)))
   (ah (au (uc (g7 W) hr (aa (uv 0) (aa (uv 3) ag))))
   (ah (ua 5 df.nd (um (gi W) W.G.c0 hr (uv 0) (aa (a8 45) ag)))
   (ah (ua 6 df.nd (uc (tR W) hr (aa (uv 0) (aa (uv 2) ag))))
   (ah (au (um (bH W) W.G.c0 hr (uv 0) (aa (cx W.G (uv 0)) (aa (uv 5) (aa (aQ (aa (uv 3) (aa (uv 4) (aa (aQ ag) ag)))) ag)))))
   (ah (au (uc (HY W) hr (aa (uv 0) (aa (uv 2) (aa (uv 6) (aa (uv 5) ag))))))
   (aj (aK (uv 6)))))))))))
theorem u7:al ["tables","values","task"] ["tables","values"] (af (aG 90)):=cC
@[reducible] def Dh:BS:=(ar (aX (bS fG (ae 1) (bI 0)) (ai 2))
 (ar (aN (aH (bU 2 dc) (ad (ae 0) (ad (ae 2) am))))
 (aN (aH (bU 2 rR) (ad (ae 0) (ad (ae 2) am))))))
def yj:BF:=cf 3 Dh
theorem Di:W.cal "do_end" 5 2 yj:=by
 refine bM W.d_do_end u7 (b2 λ_ _=>rfl) λhr hu=>?_
 (conv=>arg 2; whnf)
 with_reducible exact (ah (ua 2 u7.nd (bi (uv 1) aA (by trivial)))
   (ah (au (uc (du W) hr (aa (uv 0) (aa (uv 2) ag))))
   (aj (au (uc (yg W) hr (aa (uv 0) (aa (uv 2) ag)))))))
theorem cM:al ["tables","values","task","handle","kind","stretch","by","wait","mark","mode"] ["tables","values"] (af (aG 91)):=cC
@[reducible] def zW:BS:=(ar (aX (ae 1) (cE 6 (aB (ai 2) (aB (ai 3) (aB (ai 4) (aB (ai 5) (aB (ai 6) (aB (ai 7) cI))))))))
 (ar (aX (aH (bU 3 d6) (ad (ae 0) (ad (ae 2) (ad (ae 3) am)))) (ai 8))
 (ar (aN (aH (bU 1 iN) (ad (ae 4) am)))
 (ar (aN (aH (bU 1 ly) (ad (ae 6) am)))
 (ar (aN (aH (bU 1 fP) (ad (ae 5) am)))
 (ar (aX (bS fG (bJ (aT 54 (ae 0)) (ae 8)) (bI 1)) (ai 9))
 (ar (ca (bB (bS yB (ae 9) (Fi iY (ae 4))))
 bO
 bw)
 (bA (aH (bU 3 gp) (ad (ae 0) (ad (aH (bU 6 rK) (ad (ae 0) (ad (ae 2) (ad (ae 8) (ad (ae 4) (ad (ae 5) (ad (ae 6) am))))))) (ad (ae 7) am))))))))))))
def u8:BF:=cf 10 zW
theorem zX:W.cal "do_lock" 10 2 u8:=by
 refine bM W.d_do_lock cM (b2 λ_ _=>rfl) λhr hu=>?_
 (conv=>arg 2; whnf)
 with_reducible exact (ah (dG (dz (uv 1) (bX (n:=6) (by rfl) (aq (ug 2 cM.nd) (aq (ug 3 cM.nd) (aq (ug 4 cM.nd) (aq (ug 5 cM.nd) (aq (ug 6 cM.nd) (aq (ug 7 cM.nd) bx)))))))))
   (ah (ua 8 cM.nd (uc (fk W) hr (aa (uv 0) (aa (uv 2) (aa (uv 3) ag)))))
   (ah (au (uc (kN W) hr (aa (uv 4) ag)))
   (ah (au (uc (oC W) hr (aa (uv 6) ag)))
   (ah (au (uc (im W) hr (aa (uv 5) ag)))
   (ah (ua 9 cM.nd (bi (aS hu (cx W.G (uv 0)) (uv 8) (by trivial)) aA (by trivial)))
   (ah (bg (bE f8 dF (uv 9) (Bb (by rfl) W.T.g_WRONG_MODES (uv 4) (by trivial)) (by trivial)) (aj a5) a7)
   (aj (aK (uc (i9 W) hr (aa (uv 0) (aa (uc (u4 W) hr (aa (uv 0) (aa (uv 2) (aa (uv 8) (aa (uv 4) (aa (uv 5) (aa (uv 6) ag))))))) (aa (uv 7) ag)))))))))))))
theorem cN:al ["tables","values","task","handle","stretch","by","mark","holder"] ["tables","values"] (af (aG 92)):=cC
@[reducible] def wo:BS:=(ar (aX (ae 1) (cE 4 (aB (ai 2) (aB (ai 3) (aB (ai 4) (aB (ai 5) cI))))))
 (ar (aX (aH (bU 3 d6) (ad (ae 0) (ad (ae 2) (ad (ae 3) am)))) (ai 6))
 (ar (aN (aH (bU 1 ly) (ad (ae 5) am)))
 (ar (aN (aH (bU 1 fP) (ad (ae 4) am)))
 (ar (aX (bW (ad (ae 5) (ad (IM (bB (bS yB (ae 5) (bC (.str 66)))) (ae 2) (ae 6)) am))) (ai 7))
 (aN (aH (bU 4 iS) (ad (ae 0) (ad (bS fG (bJ (aT 54 (ae 0)) (ae 6)) (bI 0)) (ad (ae 7) (ad (ae 4) am)))))))))))
def oP:BF:=cf 8 wo
theorem wp:W.cal "do_unlock" 6 2 oP:=by
 refine bM W.d_do_unlock cN (b2 λ_ _=>rfl) λhr hu=>?_
 (conv=>arg 2; whnf)
 with_reducible exact (ah (dG (dz (uv 1) (bX (n:=4) (by rfl) (aq (ug 2 cN.nd) (aq (ug 3 cN.nd) (aq (ug 4 cN.nd) (aq (ug 5 cN.nd) bx)))))))
   (ah (ua 6 cN.nd (uc (fk W) hr (aa (uv 0) (aa (uv 2) (aa (uv 3) ag)))))
   (ah (au (uc (oC W) hr (aa (uv 5) ag)))
   (ah (au (uc (im W) hr (aa (uv 4) ag)))
   (ah (ua 7 cN.nd (aQ (aa (uv 5) (aa (gb (bE f8 dF (uv 5) (a8 66) (by trivial)) (uv 2) (uv 6)) ag))))
   (aj (au (uc (kR W) hr (aa (uv 0) (aa (bi (aS hu (cx W.G (uv 0)) (uv 6) (by trivial)) aA (by trivial)) (aa (uv 7) (aa (uv 4) ag))))))))))))
theorem cn:al ["tables","values","task","handle","kind","wait","mark"] ["tables","values"] (af (aG 94)):=cC
@[reducible] def nQ:BS:=(ar (aX (ae 1) (cE 4 (aB (ai 2) (aB (ai 3) (aB (ai 4) (aB (ai 5) cI))))))
 (ar (aX (aH (bU 3 d6) (ad (ae 0) (ad (ae 2) (ad (ae 3) am)))) (ai 6))
 (ar (aN (aH (bU 1 iN) (ad (ae 4) am)))
 (bA (aH (bU 3 gp) (ad (ae 0) (ad (aH (bU 6 rK) (ad (ae 0) (ad (ae 2) (ad (ae 6) (ad (ae 4) (ad (bC .non) (ad (bC (.str 45)) am))))))) (ad (ae 5) am))))))))
def ja:BF:=cf 7 nQ
theorem nR:W.cal "do_lock_whole" 10 2 ja:=by
 refine bM W.d_do_lock_whole cn (b2 λ_ _=>rfl) λhr hu=>?_
 (conv=>arg 2; whnf)
 with_reducible exact (ah (dG (dz (uv 1) (bX (n:=4) (by rfl) (aq (ug 2 cn.nd) (aq (ug 3 cn.nd) (aq (ug 4 cn.nd) (aq (ug 5 cn.nd) bx)))))))
   (ah (ua 6 cn.nd (uc (fk W) hr (aa (uv 0) (aa (uv 2) (aa (uv 3) ag)))))
   (ah (au (uc (kN W) hr (aa (uv 4) ag)))
   (aj (aK (uc (i9 W) hr (aa (uv 0) (aa (uc (u4 W) hr (aa (uv 0) (aa (uv 2) (aa (uv 6) (aa (uv 4) (aa lg (aa (a8 45) ag))))))) (aa (uv 5) ag)))))))))
theorem cO:al ["tables","values","task","handle","mark"] ["tables","values"] (af (aG 95)):=cC
@[reducible] def lH:BS:=(ar (aX (ae 1) (cE 2 (aB (ai 2) (aB (ai 3) cI))))
 (ar (aX (aH (bU 3 d6) (ad (ae 0) (ad (ae 2) (ad (ae 3) am)))) (ai 4))
 (aN (bd 0 3 [] bF (ae 0) (ad (bJ (aT 75 (ae 0)) (bS fG (bJ (aT 54 (ae 0)) (ae 4)) (bI 0))) (ad (ae 4) am))))))
def gL:BF:=cf 5 lH
theorem lI:W.cal "do_unlock_whole" 6 2 gL:=by
 refine bM W.d_do_unlock_whole cO (b2 λ_ _=>rfl) λhr hu=>?_
 (conv=>arg 2; whnf)
 with_reducible exact (ah (dG (dz (uv 1) (bX (n:=2) (by rfl) (aq (ug 2 cO.nd) (aq (ug 3 cO.nd) bx)))))
   (ah (ua 4 cO.nd (uc (fk W) hr (aa (uv 0) (aa (uv 2) (aa (uv 3) ag)))))
   (aj (au (um (bP W) W.G.c0 hr (uv 0) (aa (aS hu (jx W.G (uv 0)) (bi (aS hu (cx W.G (uv 0)) (uv 4) (by trivial)) aA (by trivial)) (by trivial)) (aa (uv 4) ag)))))))
theorem mK:al ["tables","values","task"] ["tables","values"] (af (aG 93)):=cC
@[reducible] def wq:BS:=(ar (aX (bS fG (ae 1) (bI 0)) (ai 2))
 (ar (aN (aH (bU 2 dc) (ad (ae 0) (ad (ae 2) am))))
 (ar (ca (bB (pL (ae 2) (aT 5 (ae 0))))
 (Fz 0)
 bw)
 (aN (aH (bU 3 zV) (ad (ae 0) (ad (bJ (aT 5 (ae 0)) (ae 2)) (ad (bC (.str 18)) am))))))))
def oQ:BF:=cf 3 wq
theorem wr (W:Wr P w K mg base gy):j6 P w K mg base gy (eB P w) "do_cancel" 4 2 oQ:=by
 refine Jf W.d_do_cancel mK (b2 λ_ _=>rfl) λhr hu=>?_
 (conv=>arg 2; whnf)
 with_reducible exact (ah (PS.nox (ua 2 mK.nd (bi (uv 1) aA (by trivial))))
   (ah (PS.nox (au (uc (du W) hr (aa (uv 0) (aa (uv 2) ag)))))
   (ah (bg (uC hu (uv 2) (dM W.G (uv 0)) (by rfl)) (aj (FA (c:=0) (by rfl) NS W.e_Awake W.e_new)) a7)
   (aj (PS.nox (au (uc (Bq W) hr (aa (uv 0) (aa (aS hu (dM W.G (uv 0)) (uv 2) (by trivial)) (aa (a8 18) ag))))))))))
def F8:List (Option BF):=[some rS,some oO,none,none,none,some yj,some u8,some oP,some oQ,some ja,some gL]
theorem F9 (W:Wr P w K mg base gy):FO P w K mg base gy 10 2 F8:=by
 intro j f e
 match j,e with
 | 0,e=>cases e; exact⟨by decide,gF (iL (yi W)) W.g_do_begin (by decide)⟩
 | 1,e=>cases e; exact⟨by decide,gF (iL (wn W)) W.g_do_attach (by decide)⟩
 | 2,e=>cases e
 | 3,e=>cases e
 | 4,e=>cases e
 | 5,e=>cases e; exact⟨by decide,gF (iL (Di W)) W.g_do_end (by decide)⟩
 | 6,e=>cases e; exact⟨by decide,gF (iL (zX W)) W.g_do_lock (by decide)⟩
 | 7,e=>cases e; exact⟨by decide,gF (iL (wp W)) W.g_do_unlock (by decide)⟩
 | 8,e=>cases e; exact⟨by decide,gF (wr W) W.g_do_cancel (by decide)⟩
 | 9,e=>cases e; exact⟨by decide,gF (iL (nR W)) W.g_do_lock_whole (by decide)⟩
 | 10,e=>cases e; exact⟨by decide,gF (iL (lI W)) W.g_do_unlock_whole (by decide)⟩
 | (n+11),e=>cases e
end
section
variable (W:Wr P w K mg base gy)
local macro_rules | `(tactic| rfl) => `(tactic| with_unfolding_all exact rfl)
local macro_rules | `(tactic| trivial) => `(tactic| with_unfolding_all (first | exact Or.inl rfl | exact Or.inr rfl | exact jj _ | exact (fun _ _ => rfl) | exact (fun _ => rfl) | exact ⟨rfl, rfl, rfl, rfl⟩))
theorem nS:al ["self","files","fair"] ["self","files","fair"] (af (ay (aG 101) 0)):=cC
@[reducible] def nU:BS:=(ar (et 31 (ae 0) (ae 1))
 (ar (et 29 (ae 0) (ae 2))
 (ar (et 65 (ae 0) (EE 0 3 gH (ad (ae 1) (ad (ae 2) am))))
 (ar (et 57 (ae 0) (nq am))
 (et 34 (ae 0) (nq am))))))
def jb:BF:=cf 3 nU
theorem pz (W:Wr P w K mg base gy):NO P w K mg base gy fR 1 "Desk" 3 3 2 ["fair"] [.arg 0] jb:=by
 refine L5 W.i_Desk W.g_Desk nS (b2 λ_ _=>(b1 λ_=>rfl)) trivial λhr hu=>?_
 (conv=>arg 2; whnf)
 with_reducible exact (ah (c5 31 (by decide +kernel) (by decide) W.G.cls W.G.na_files (uv 0) (uv 1) (by rfl))
   (ah (c5 29 (by decide +kernel) (by decide) W.G.cls W.G.na_fair (uv 0) (uv 2) (by rfl))
   (ah (c5 65 (by decide +kernel) (by decide) W.G.cls W.G.na_tables (uv 0) (Hg (by decide) (mz W) (hr.mono (by decide)) gU (aa (uv 1) (aa (uv 2) ag))) (by rfl))
   (ah (c5 57 (by decide +kernel) (by decide) W.G.cls W.G.na_past (uv 0) (fM ag) (by rfl))
   (aj (c5 34 (by decide +kernel) (by decide) W.G.cls W.G.na_future (uv 0) (fM ag) (by rfl)))))))
theorem mL:al ["self","many","table","key","value"] ["self","many"] (af (ay (aG 99) 3)):=cC
@[reducible] def mM:BS:=(gf 40 (bB (bS NF (j5 vG (ad (aT 19 (ae 0)) am)) (ae 1)))
 (ar bO
 bO))
def iq:BF:=cf 5 mM
theorem nV (W:Wr P w K mg base gy):KJ P w K mg base gy 0 "undo_to" 1 2 iq:=by
 refine Mb W.t_Tables_undo_to mL (b2 λ_ _=>rfl) λhr=>?_
 (conv=>arg 2; whnf)
 with_reducible exact (aj (jv 40 O8 (bE Iw En (cb eO iE (by rfl) W.M.len QW (aa (iK W.G (uv 0)) ag)) (uv 1) (by trivial)) (ah a5
   (aj a5))))
theorem lJ:al ["tables","word","values","deed","told"] ["tables","word","values"] (af (aG 97)):=cC
@[reducible] def zY:BS:=(ar (aX (Fi uU (ae 1)) (ai 3))
 (ar (aX (Fj 2 F8 (ae 3) (ad (ae 0) (ad (ae 2) am))) (ai 4))
 (ar (aN (aH (bU 1 yc) (ad (ae 0) am)))
 (bA (ae 4)))))
def u9:BF:=cf 5 zY
theorem zZ (W:Wr P w K mg base gy):j6 P w K mg base gy (eB P w) "do_deed" 11 3 u9:=by
 refine Jf W.d_do_deed lJ (b3 λ_ _ _=>rfl) λhr hu=>?_
 (conv=>arg 2; whnf)
 with_reducible exact (ah (PS.nox (ua 3 lJ.nd (Bb (by rfl) W.T.g_DEEDS (uv 1) (by trivial))))
   (ah (ua 4 lJ.nd (CP (uv 3) (F9 W) (hr.mono (by decide)) pR (aa (uv 0) (aa (uv 2) ag))))
   (ah (PS.nox (au (uc (Dg W) hr (aa (uv 0) ag))))
   (aj (PS.nox (aK (uv 4)))))))
theorem fQ:al ["self","word","values","start","told"] ["self","word","values"] (af (ay (aG 101) 1)):=cC
@[reducible] def pA:BS:=(ar (aX (j5 vG (ad (aT 19 (aT 65 (ae 0))) am)) (ai 3))
 (ar (Jd 3 u9 (ad (aT 65 (ae 0)) (ad (ae 1) (ad (ae 2) am))) 4 (bd 0 2 [] iq (aT 65 (ae 0)) (ad (ae 3) am)))
 (ar (aN (Dl gB (aT 57 (ae 0)) (ad (bW (ad (ae 1) (ad (ae 2) (ad (ae 3) am)))) am)))
 (bA (ae 4)))))
def jJ:BF:=cf 5 pA
theorem rT (W:Wr P w K mg base gy):nB P w K mg base gy (eB P w) 1 "perform" 12 3 [] jJ:=by
 refine FN W.t_Desk_perform fQ (b3 λ_ _ _=>rfl) λhr hu=>?_
 (conv=>arg 2; whnf)
 with_reducible exact (ah (PS.nox (ua 3 fQ.nd (cb eO iE (by rfl) W.M.len QW (aa (iK W.G (cJ W.G (uv 0))) ag))))
   (ah (HK (i:=4) fQ.nd (by rfl) (by trivial) (zZ W) (hr.mono (by decide)) (aa (cJ W.G (uv 0)) (aa (uv 1) (aa (uv 2) ag))) (λ_=>Oh (nV W) W.G.c0 (hr.mark _) (cJ W.G (uv 0)) (aa (uv 3) ag)) W.e_Lock.choose_spec.1 W.e_Lock.choose_spec.2)
   (ah (PS.nox (au (kH eV (kq Pd PH PV (by with_unfolding_all exact eQ) (HF W.G (uv 0)) (aa (aQ (aa (uv 1) (aa (uv 2) (aa (uv 3) ag)))) ag)))))
   (aj (PS.nox (aK (uv 4)))))))
theorem rU:al ["self","word","values","told"] ["self","word","values"] (af (ay (aG 101) 2)):=cC
@[reducible] def z4:BS:=(ar (aX (bd 1 3 [] jJ (ae 0) (ad (ae 1) (ad (ae 2) am))) (ai 3))
 (ar (et 34 (ae 0) (nq am))
 (bA (ae 3))))
def dh:BF:=cf 4 z4
theorem dP (W:Wr P w K mg base gy):nB P w K mg base gy (eB P w) 1 "do" 13 3 [] dh:=by
 refine FN W.t_Desk_do rU (b3 λ_ _ _=>rfl) λhr hu=>?_
 (conv=>arg 2; whnf)
 with_reducible exact (ah (ua 3 rU.nd (Oa (rT W) W.G.c1 hr pR (uv 0) (aa (uv 1) (aa (uv 2) ag))))
   (ah (PS.nox (c5 34 (by decide +kernel) (by decide) W.G.cls W.G.na_future (uv 0) (fM ag) (by rfl)))
   (aj (PS.nox (aK (uv 3))))))
theorem tV:al ["self"] ["self"] (af (ay (aG 101) 3)):=cC
@[reducible] def tW:BS:=(bA (bd 1 3 [] (never dh) (ae 0) (ad (bC (.str 13)) (ad (bW am) am))))
def mO:BF:=cf 1 tW
theorem wt:W.met 1 "begin" 14 1 [] mO:=by
 refine rf W.t_Desk_begin tV (b1 λ_=>rfl) λhr hu=>?_
 (conv=>arg 2; whnf)
 with_reducible exact (aj (aK (um (dN (dP W)) W.G.c1 hr (uv 0) (aa (a8 13) (aa (aQ ag) ag)))))
theorem rV:al ["self","task","file","mode"] ["self","task","file","mode"] (af (ay (aG 101) 4)):=cC
@[reducible] def rW:BS:=(bA (bd 1 3 [] (never dh) (ae 0) (ad (bC (.str 6)) (ad (bW (ad (ae 1) (ad (ae 2) (ad (ae 3) am)))) am))))
def hJ:BF:=cf 4 rW
theorem tX (W:Wr P w K mg base gy) {fa fd} (F:Fun K "attach" "Desk.attach" (ay (aG 101) 4) fa fd):cr P w K mg base fR 14 fa fd ["self","task","file","mode"] (mY gy 4 hJ):=by
 refine CI F rV λhr hu=>?_
 (conv=>arg 2; whnf)
 with_reducible exact (aj (aK (um (dN (dP W)) W.G.c1 hr (uv 0) (aa (a8 6) (aa (aQ (aa (uv 1) (aa (uv 2) (aa (uv 3) ag)))) ag)))))
theorem tY:W.met 1 "attach" 14 4 [.str 15] hJ:=by
 obtain⟨h,t,x,t1,hx,f,ka,doc,pm,an,cdv,ct,kc,kd,ep,ks,F,me,lk⟩:=W.t_Desk_attach
 refine⟨f,_,_,[.str x t1],[.str x],rfl,tX W F,me,λs us X hl=>?_,.cons ⟨t1,rfl⟩ .nil,λ_ _ _ _=>.cons ⟨x,hx,rfl⟩ .nil⟩
 have hl3:us.length=3:=by simpa using hl
 match us,hl3 with
 | [a,b,c],_=>exact PySem.W.kp_binds X λS=>(CH lk).trans rfl
theorem yk:al ["self","task"] ["self","task"] (af (ay (aG 101) 8)):=cC
@[reducible] def ym:BS:=(aN (bd 1 3 [] (never dh) (ae 0) (ad (bC (.str 26)) (ad (bW (ad (ae 1) am)) am))))
def rX:BF:=cf 2 ym
theorem z5:W.met 1 "end" 14 2 [] rX:=by
 refine rf W.t_Desk_end yk (b2 λ_ _=>rfl) λhr hu=>?_
 (conv=>arg 2; whnf)
 with_reducible exact (aj (au (um (dN (dP W)) W.G.c1 hr (uv 0) (aa (a8 26) (aa (aQ (aa (uv 1) ag)) ag)))))
theorem wu:al ["self","task","handle","kind","stretch","by","wait"] ["self","task","handle","kind","stretch","by","wait"] (af (ay (aG 101) 9)):=cC
@[reducible] def wv:BS:=(bA (bd 1 3 [] (never dh) (ae 0) (ad (bC (.str 42)) (ad (bW (ad (ae 1) (ad (ae 2) (ad (ae 3) (ad (ae 4) (ad (ae 5) (ad (ae 6) am))))))) am))))
def jK:BF:=cf 7 wv
theorem yn (W:Wr P w K mg base gy) {fa fd} (F:Fun K "lock" "Desk.lock" (ay (aG 101) 9) fa fd):cr P w K mg base fR 14 fa fd ["self","task","handle","kind","stretch","by","wait"] (mY gy 7 jK):=by
 refine CI F wu λhr hu=>?_
 (conv=>arg 2; whnf)
 with_reducible exact (aj (aK (um (dN (dP W)) W.G.c1 hr (uv 0) (aa (a8 42) (aa (aQ (aa (uv 1) (aa (uv 2) (aa (uv 3) (aa (uv 4) (aa (uv 5) (aa (uv 6) ag))))))) ag)))))
theorem Ga (W:Wr P w K mg base gy):ED P w K mg base gy fR 1 "lock" 14 7 5 ["by","wait"] [.arg 0,.arg 1] jK:=by
 obtain⟨h,t,v,h1,t1,f,ka,doc,pm,an,cdv,ct,kc,kd,ep,ks,F,me,lk⟩:=W.t_Desk_lock
 exact⟨f,_,_,rfl,yn W F,me,F.kwbinds (b5 λ_ _ _ _ _=>b2 λ_ _=>rfl),trivial⟩
theorem rY:al ["self","task","handle","stretch","by"] ["self","task","handle","stretch","by"] (af (ay (aG 101) 10)):=cC
@[reducible] def rZ:BS:=(aN (bd 1 3 [] (never dh) (ae 0) (ad (bC (.str 71)) (ad (bW (ad (ae 1) (ad (ae 2) (ad (ae 3) (ad (ae 4) am))))) am))))
def kY:BF:=cf 5 rZ
theorem tZ (W:Wr P w K mg base gy):ED P w K mg base gy fR 1 "unlock" 14 5 4 ["by"] [.arg 0] kY:=by
 refine Jc W.t_Desk_unlock rY (b4 λ_ _ _ _=>(b1 λ_=>rfl)) trivial λhr hu=>?_
 (conv=>arg 2; whnf)
 with_reducible exact (aj (au (um (dN (dP W)) W.G.c1 hr (uv 0) (aa (a8 71) (aa (aQ (aa (uv 1) (aa (uv 2) (aa (uv 3) (aa (uv 4) ag))))) ag)))))
theorem r8:al ["self","task"] ["self","task"] (af (ay (aG 101) 11)):=cC
@[reducible] def sd:BS:=(aN (bd 1 3 [] dh (ae 0) (ad (bC (.str 17)) (ad (bW (ad (ae 1) am)) am))))
def hO:BF:=cf 2 sd
theorem kZ (W:Wr P w K mg base gy):nB P w K mg base gy (eB P w) 1 "cancel" 14 2 [] hO:=by
 refine FN W.t_Desk_cancel r8 (b2 λ_ _=>rfl) λhr hu=>?_
 (conv=>arg 2; whnf)
 with_reducible exact (aj (au (Oa (dP W) W.G.c1 hr pR (uv 0) (aa (a8 17) (aa (aQ (aa (uv 1) ag)) ag)))))
theorem lK:al ["self","task","handle","kind","wait"] ["self","task","handle","kind","wait"] (af (ay (aG 101) 12)):=cC
@[reducible] def lM:BS:=(bA (bd 1 3 [] (never dh) (ae 0) (ad (bC (.str 43)) (ad (bW (ad (ae 1) (ad (ae 2) (ad (ae 3) (ad (ae 4) am))))) am))))
def gM:BF:=cf 5 lM
theorem mP (W:Wr P w K mg base gy):ED P w K mg base gy fR 1 "lock_whole" 14 5 4 ["wait"] [.arg 0] gM:=by
 refine Jc W.t_Desk_lock_whole lK (b4 λ_ _ _ _=>(b1 λ_=>rfl)) trivial λhr hu=>?_
 (conv=>arg 2; whnf)
 with_reducible exact (aj (aK (um (dN (dP W)) W.G.c1 hr (uv 0) (aa (a8 43) (aa (aQ (aa (uv 1) (aa (uv 2) (aa (uv 3) (aa (uv 4) ag))))) ag)))))
theorem jL:al ["self","task","handle"] ["self","task","handle"] (af (ay (aG 101) 13)):=cC
@[reducible] def jM:BS:=(aN (bd 1 3 [] (never dh) (ae 0) (ad (bC (.str 72)) (ad (bW (ad (ae 1) (ad (ae 2) am))) am))))
def fW:BF:=cf 3 jM
theorem kj:W.met 1 "unlock_whole" 14 3 [] fW:=by
 refine rf W.t_Desk_unlock_whole jL (b3 λ_ _ _=>rfl) λhr hu=>?_
 (conv=>arg 2; whnf)
 with_reducible exact (aj (au (um (dN (dP W)) W.G.c1 hr (uv 0) (aa (a8 72) (aa (aQ (aa (uv 1) (aa (uv 2) ag))) ag)))))
theorem mQ:al ["self","task"] ["self","task"] (af (ay (aG 101) 17)):=cC
@[reducible] def mR:BS:=(ar (aN (aH (bU 2 dc) (ad (aT 65 (ae 0)) (ad (ae 1) am))))
 (bA (vE (ae 1) (aT 5 (aT 65 (ae 0))))))
def ir:BF:=cf 2 mR
theorem nW:W.met 1 "is_asleep" 4 2 [] ir:=by
 refine rf W.t_Desk_is_asleep mQ (b2 λ_ _=>rfl) λhr hu=>?_
 (conv=>arg 2; whnf)
 with_reducible exact (ah (au (uc (du W) hr (aa (cJ W.G (uv 0)) (aa (uv 1) ag))))
   (aj (aK (zg hu (uv 1) (dM W.G (cJ W.G (uv 0))) (by rfl)))))
theorem ww:al ["self"] ["self"] (af (ay (aG 101) 22)):=cC
@[reducible] def wx:BS:=(bA (aH (bU 1 oG) (ad (aT 65 (ae 0)) am)))
def jN:BF:=cf 1 wx
theorem oR:W.met 1 "asks" 2 1 [] jN:=by
 refine rf W.t_Desk_asks ww (b1 λ_=>rfl) λhr hu=>?_
 (conv=>arg 2; whnf)
 with_reducible exact (aj (aK (uc (wf W) hr (aa (cJ W.G (uv 0)) ag))))
theorem pB:al ["self","number"] ["self","number"] (af (ay (aG 101) 23)):=cC
@[reducible] def pC:BS:=(bA (aH (bU 2 oE) (ad (aT 56 (aT 65 (ae 0))) (ad (ae 1) am))))
def jO:BF:=cf 2 pC
theorem sf:W.met 1 "outcome" 4 2 [] jO:=by
 refine rf W.t_Desk_outcome pB (b2 λ_ _=>rfl) λhr hu=>?_
 (conv=>arg 2; whnf)
 with_reducible exact (aj (aK (uc (wa W) hr (aa (jy W.G (cJ W.G (uv 0))) (aa (uv 1) ag)))))
theorem t7:al ["self","file"] ["self","file"] (af (ay (aG 101) 19)):=cC
@[reducible] def t8:BS:=(ar (aN (aH (bU 2 fX) (ad (aT 65 (ae 0)) (ad (ae 1) am))))
 (bA (aH (bU 2 mC) (ad (aT 65 (ae 0)) (ad (ae 1) am)))))
def mS:BF:=cf 2 t8
theorem wy:W.met 1 "locks" 5 2 [] mS:=by
 refine rf W.t_Desk_locks t7 (b2 λ_ _=>rfl) λhr hu=>?_
 (conv=>arg 2; whnf)
 with_reducible exact (ah (au (uc (g7 W) hr (aa (cJ W.G (uv 0)) (aa (uv 1) ag))))
   (aj (aK (uc (tF W) hr (aa (cJ W.G (uv 0)) (aa (uv 1) ag))))))
theorem kl:al ["self","file"] ["self","file"] (af (ay (aG 101) 20)):=cC
@[reducible] def km:BS:=(ar (aN (aH (bU 2 fX) (ad (aT 65 (ae 0)) (ad (ae 1) am))))
 (bA (aH (bU 2 iP) (ad (aT 65 (ae 0)) (ad (ae 1) am)))))
def gq:BF:=cf 2 km
theorem lN:W.met 1 "whole_locks" 2 2 [] gq:=by
 refine rf W.t_Desk_whole_locks kl (b2 λ_ _=>rfl) λhr hu=>?_
 (conv=>arg 2; whnf)
 with_reducible exact (ah (au (uc (g7 W) hr (aa (cJ W.G (uv 0)) (aa (uv 1) ag))))
   (aj (aK (uc (kP W) hr (aa (cJ W.G (uv 0)) (aa (uv 1) ag))))))
end
section
local macro_rules | `(tactic| rfl) => `(tactic| with_unfolding_all exact rfl)
local macro_rules | `(tactic| trivial) => `(tactic| with_unfolding_all (first | exact Or.inl rfl | exact Or.inr rfl | exact jj _ | exact (fun _ _ => rfl) | exact (fun _ => rfl) | exact ⟨rfl, rfl, rfl, rfl⟩))
theorem jc:al ["_law_desk","_law_task","_law_kept","e"] ["_law_desk","_law_task"] (af (aG 105)):=cC
def jP:BF:=cf 4 (KL 1 2 hO 2 (ae 0) (ad (ae 1) am))
theorem Me (W:Wr P w K mg base gy):∀F,gy.dr F->∀H H',F.J H->F.J H'->∀b o u,F.own b->H b=some (.frz o u)->H' b=some (.frz o u):=λF h=>by rw [W.hd] at h; exact h.2
theorem pE (W:Wr P w K mg base gy):W.cal "_law_is_awake" 15 2 jP:=by
 refine bM W.d__law_is_awake jc (b2 λ_ _=>(by rfl)) λhr hu=>?_
 (conv=>arg 2; whnf)
 with_reducible exact KM (c:=1) (iv:=2) (j:=3) (kZ W) W.G.c1 hr (by decide) (λ_=>uv 0) (λ_=>aa (uv 1) ag) (by rfl) (by rfl) (by rfl) jc.nd (by rfl) (by rfl) (by rfl) (by rfl) (by decide) (by rfl) W.e_Lock.choose_spec.1 (by rfl) W.e_Awake (by rfl) W.M.isinstance W.e_Lock.choose_spec.2 W.e_is (Me W) (by rfl) (by rfl) (by rfl)
end
section
local macro_rules | `(tactic| rfl) => `(tactic| with_unfolding_all exact rfl)
local macro_rules | `(tactic| trivial) => `(tactic| with_unfolding_all (first | exact Or.inl rfl | exact Or.inr rfl | exact jj _ | exact (fun _ _ => rfl) | exact (fun _ => rfl) | exact ⟨rfl, rfl, rfl, rfl⟩))
theorem cK:al ["_law_script","_law_town","_law_many","_law_fair_so","_law_whole","_law_desk","_law_by_so","_law_first","_law_k","_law_stretch","_law_told","_law_gone","_law_left","_law_here","_law_behind","_law_due"] ["_law_script"] (af (aG 106)):=cC
abbrev wz:Pp:=o9 [("_law_k",.local),("_law_gone",.free)]
theorem yo:aR (af (aG 106)) ["_law_script","_law_town","_law_many","_law_fair_so","_law_whole","_law_desk","_law_by_so","_law_first","_law_k","_law_stretch","_law_told","_law_gone","_law_left","_law_here","_law_behind","_law_due"] wz ["_law_k","_law_gone"] [none,some 11]:=pf
abbrev wA:Pp:=o9 [("_law_ask",.local)]
theorem yp:aR (af (aG 106)) ["_law_script","_law_town","_law_many","_law_fair_so","_law_whole","_law_desk","_law_by_so","_law_first","_law_k","_law_stretch","_law_told","_law_gone","_law_left","_law_here","_law_behind","_law_due"] wA ["_law_ask"] [none]:=pf
abbrev wB:Pp:=o9 [("_law_k",.local)]
theorem yq:aR (af (aG 106)) ["_law_script","_law_town","_law_many","_law_fair_so","_law_whole","_law_desk","_law_by_so","_law_first","_law_k","_law_stretch","_law_told","_law_gone","_law_left","_law_here","_law_behind","_law_due"] wB ["_law_k"] [none]:=pf
abbrev wC:Pp:=o9 [("_law_one",.local),("_law_k",.free)]
theorem yr:aR (af (aG 106)) ["_law_script","_law_town","_law_many","_law_fair_so","_law_whole","_law_desk","_law_by_so","_law_first","_law_k","_law_stretch","_law_told","_law_gone","_law_left","_law_here","_law_behind","_law_due"] wC ["_law_one","_law_k"] [none,some 8]:=pf
abbrev wD:Pp:=o9 [("_law_ask",.local)]
theorem yt:aR (af (aG 106)) ["_law_script","_law_town","_law_many","_law_fair_so","_law_whole","_law_desk","_law_by_so","_law_first","_law_k","_law_stretch","_law_told","_law_gone","_law_left","_law_here","_law_behind","_law_due"] wD ["_law_ask"] [none]:=pf
abbrev wE:Pp:=o9 [("_law_k",.local),("_law_gone",.free)]
theorem yu:aR (af (aG 106)) ["_law_script","_law_town","_law_many","_law_fair_so","_law_whole","_law_desk","_law_by_so","_law_first","_law_k","_law_stretch","_law_told","_law_gone","_law_left","_law_here","_law_behind","_law_due"] wE ["_law_k","_law_gone"] [none,some 11]:=pf
abbrev wF:Pp:=o9 [("_law_k",.local),("_law_desk",.free)]
theorem yv:aR (af (aG 106)) ["_law_script","_law_town","_law_many","_law_fair_so","_law_whole","_law_desk","_law_by_so","_law_first","_law_k","_law_stretch","_law_told","_law_gone","_law_left","_law_here","_law_behind","_law_due"] wF ["_law_k","_law_desk"] [none,some 5]:=pf
@[reducible] def sg:BS:=(aX (bS oZ (bI 2) (oB (ad (ae 0) (ad (ae 1) (ad (bI 4) am))))) (ai 2))
@[reducible] def sh:BS:=(aX (bS yB (oB (ad (ae 0) (ad (ae 1) (ad (bI 2) am)))) (bI 0)) (ai 3))
@[reducible] def si:BS:=(aX (bS yB (zL (ad (ae 0) (ad (ae 1) (ad (bI 3) am)))) (bI 0)) (ai 4))
@[reducible] def mT:BS:=(aX (Fk 1 3 2 (["fair"]:List Str).length [.arg 0] jb (ad (bW (ad (bC (.str 0)) am)) am) (ad (ae 3) am)) (ai 5))
@[reducible] def mU:BS:=(FX 4 (FW (bS fG (nq (ad (bC (.str 66)) (ad (bC (.str 45)) am))) (oB (ad (ae 0) (ad (ae 1) (ad (bI 2) am))))) 6) (aX (bS fG (nq (ad (bC (.str 66)) (ad (bC (.str 45)) am))) (oB (ad (ae 0) (ad (ae 1) (ad (bI 2) am))))) (ai 6)))
@[reducible] def mV:BS:=(aX (zM (ad (ae 0) (ad (ae 1) (ad (bI 30) am)))) (ai 7))
@[reducible] def sj:BS:=(o3 40 (zn (ad (bS oZ (ae 2) (bI 1)) am)) (ai 8)
 (ar (aN (bd 1 1 [] mO (ae 5) am))
 (ar (aN (bd 1 4 [.str 15] hJ (ae 5) (ad (ae 8) (ad (bC (.str 0)) am))))
 (ar (aX (bW (ad (bS oZ (ae 7) (v7 (ad (ae 0) (ad (ae 1) (ad (bI 3) am))))) (ad (bS oZ (bS oZ (ae 7) (bI 3)) (v7 (ad (ae 0) (ad (ae 1) (ad (bI 3) am))))) am))) (ai 9))
 (ar (ca (l9 (ae 4))
 (aX (vJ 1 5 4 (["wait"]:List Str).length [.arg 0] gM (ae 5) (ad (ae 8) (ad (bI 0) (ad (bC (.str 2)) am))) (ad (bC (.bl true)) am)) (ai 10))
 (aX (vJ 1 7 5 (["by","wait"]:List Str).length [.arg 0,.arg 1] jK (ae 5) (ad (ae 8) (ad (bI 0) (ad (bC (.str 2)) (ad (ae 9) am)))) (ad (ae 6) (ad (bC (.bl true)) am))) (ai 10)))
 (ca (bB (bS IQ (ae 10) (IM (bB (bS yB (ae 8) (bI 0))) (bC .non) (bS J6 (ae 8) (bI 1)))))
 (bA (bC (.bl false)))
 bw))))))
@[reducible] def sm:BS:=(aX (bS oZ (bI 1) (oB (ad (ae 0) (ad (ae 1) (ad (ae 2) am))))) (ai 11))
@[reducible] def su:BS:=(aN (bd 1 2 [] (never hO) (ae 5) (ad (ae 11) am)))
@[reducible] def nX:BS:=(aX (qM 40 [none,some 11] (zo (ad (bI 1) (ad (bS oZ (ae 2) (bI 1)) am))) (ai 0) (bB (bS IQ (ae 0) (ae 1))) (ae 0)) (ai 12))
@[reducible] def nY:BS:=(ca (Gj (bB (bS (zk true) (qM 40 [none] (ez (bd 1 1 [] jN (ae 5) am)) (ai 0) jw (bS fG (ae 0) (bI 0))) (qM 40 [none] (il (ae 12)) (ai 0) jw (bS J6 (ae 0) (bI 1))))) (qH (bB (aH (bU 2 jP) (ad (ae 5) (ad (ae 11) am))))))
 (bA (bC (.bl false)))
 bw)
@[reducible] def nZ:BS:=(aX (bI 0) (ai 13))
@[reducible] def n5:BS:=(o3 40 (il (ae 12)) (ai 8)
 (ar (ca (bB (bS yB (oB (ad (ae 0) (ad (ae 1) (ad (bI 2) am)))) (bI 0)))
 (aN (bd 1 2 [] rX (ae 5) (ad (ae 13) am)))
 (ca (l9 (ae 4))
 (aN (bd 1 3 [] fW (ae 5) (ad (ae 13) (ad (bI 0) am))))
 (aN (vJ 1 5 4 (["by"]:List Str).length [.arg 0] kY (ae 5) (ad (ae 13) (ad (bI 0) (ad (bW (ad (ae 7) (ad (bC .non) am))) am))) (ad (ae 6) am)))))
 (ar (aX (qM 40 [none,some 8] (il (ae 12)) (ai 0) (bB (bS NF (ae 0) (ae 1))) (ae 0)) (ai 14))
 (ar (ca (Gj (bB (bS (zk true) (qM 40 [none] (ez (bd 1 1 [] jN (ae 5) am)) (ai 0) jw (bS fG (ae 0) (bI 1))) (ae 14))) (bB (bd 1 2 [] ir (ae 5) (ad (ae 8) am))))
 (bA (bC (.bl false)))
 bw)
 (aX (ae 8) (ai 13))))))
@[reducible] def n6:BS:=(aX (qM 40 [none,some 11] (zo (ad (bI 1) (ad (bS oZ (ae 2) (bI 1)) am))) (ai 0) jw (IM (bB (bS yB (ae 0) (ae 1))) (bC (.str 18)) (bC (.str 36)))) (ai 15))
@[reducible] def n8:BS:=(bA (xh (bS (zk false) (qM 40 [none,some 5] (zn (ad (ae 2) am)) (ai 0) jw (bd 1 2 [] jO (ae 1) (ad (ae 0) am))) (ae 15)) (bS yB (j5 vG (ad (bS iX (bd 1 2 [] mS (ae 5) (ad (bC (.str 0)) am)) (bd 1 2 [] gq (ae 5) (ad (bC (.str 0)) am))) am)) (bI 1))))
@[reducible] def z6:BS:=(ar sg (ar sh (ar si (ar mT (ar mU (ar mV (ar sj (ar sm (ar su (ar nX (ar nY (ar nZ (ar n5 (ar n6 n8))))))))))))))
def cu:Ds:=⟨λ_ _=>false,λv _=>match v with
 | .bl true=>true
 | _=>false,λ_ _=>false,λ_ _=>false⟩
def KS:eg:=⟨some (.ext 11)::some (.ext 12)::uE 14,λ_ _ _=>false⟩
def Gb:Bool:=z6 cu KS ⟨0,false,.lf⟩
abbrev kn (P:OZ) (w:Pl) (K:Ou) (mg:Str->Option Om) (base:O9) (f:Oo) (cdv:Om) (A:P6) (outer:List Env) (s:Os) (H:Hp) (E:XK):Cx:=(ck fR P w K mg base ["_law_script","_law_town","_law_many","_law_fair_so","_law_whole","_law_desk","_law_by_so","_law_first","_law_k","_law_stretch","_law_told","_law_gone","_law_left","_law_here","_law_behind","_law_due"] "law" (af (aG 106)) f cdv A outer s H E).nox
def cv (i:Nat):Rf:=(a9 (aG 106)).getD i (.Pass ⟨0,0,0,0⟩)
theorem hU (W:Wr P w K mg base gy):Gi P w K mg base "_law_draw" 1 ["_law_script","_law_town","_law_many"] (gW K):=HM W.d__law_draw W.M.toMods
theorem t9 (W:Wr P w K mg base gy):∀F,gy.dr F->jz K F:=λF h=>by rw [W.hd] at h; exact h.1
variable {cdv:Om} {f:Oo} {outer:List Env} {E:XK} (W:Wr P w K mg base gy) (hr:bn 15 (A.deeper (QT "law" (af (aG 106)) s.heap.objs.size f cdv)))
include W hr
theorem Mf:PS (kn P w K mg base f cdv A outer s H E) (cv 1) (c9 ⟨gy,E⟩ sg):=by
 have hu:=di hr
 (conv=>arg 2; whnf)
 with_reducible exact (ua 2 cK.nd (dn fI fg aA (jW (hU W) (t9 W) (hr.mono (by decide)) (aa (uv 0) (aa (uv 1) (aa aA ag))))))
theorem Mg:PS (kn P w K mg base f cdv A outer s H E) (cv 2) (c9 ⟨gy,E⟩ sh):=by
 have hu:=di hr
 (conv=>arg 2; whnf)
 with_reducible exact (ua 3 cK.nd (jr f8 dF (jW (hU W) (t9 W) (hr.mono (by decide)) (aa (uv 0) (aa (uv 1) (aa aA ag)))) aA (by trivial)))
theorem Mh:PS (kn P w K mg base f cdv A outer s H E) (cv 3) (c9 ⟨gy,E⟩ si):=by
 have hu:=di hr
 (conv=>arg 2; whnf)
 with_reducible exact (ua 4 cK.nd (jr f8 dF (FP (hU W) (t9 W) (hr.mono (by decide)) (aa (uv 0) (aa (uv 1) (aa aA ag)))) aA (by trivial)))
theorem Mi:PS (kn P w K mg base f cdv A outer s H E) (cv 4) (c9 ⟨gy,E⟩ mT):=by
 have hu:=di hr
 (conv=>arg 2; whnf)
 with_reducible exact (ua 5 cK.nd (Fl (by decide) (pz W) (hr.mono (by decide)) gU (aa (aQ (aa (a8 0) ag)) ag) (ml (uv 3) vK)))
theorem Mj:PS (kn P w K mg base f cdv A outer s H E) (cv 5) (c9 ⟨gy,E⟩ mU):=by
 have hu:=di hr
 (conv=>arg 2; whnf)
 with_reducible exact (HR 4 (HQ 6 (iy cK.nd (by rfl) (by trivial) (bi (fM (aa (a8 66) (aa (a8 45) ag))) (jW (hU W) (t9 W) (hr.mono (by decide)) (aa (uv 0) (aa (uv 1) (aa aA ag)))) (by trivial)))) (ua 6 cK.nd (bi (fM (aa (a8 66) (aa (a8 45) ag))) (jW (hU W) (t9 W) (hr.mono (by decide)) (aa (uv 0) (aa (uv 1) (aa aA ag)))) (by trivial))))
theorem Ml:PS (kn P w K mg base f cdv A outer s H E) (cv 6) (c9 ⟨gy,E⟩ mV):=by
 have hu:=di hr
 (conv=>arg 2; whnf)
 with_reducible exact (ua 7 cK.nd (FQ (hU W) (t9 W) (hr.mono (by decide)) (aa (uv 0) (aa (uv 1) (aa aA ag)))))
theorem Mm:PS (kn P w K mg base f cdv A outer s H E) (cv 7) (c9 ⟨gy,E⟩ sj):=by
 have hu:=di hr
 (conv=>arg 2; whnf)
 with_reducible exact (gT 40 O8 (by rfl) (AS (ud (by rfl) W.M.range (aa (dn fI fg (uv 2) aA) ag))) (ug 8 cK.nd) (ah (au (qO (wt W) W.G.c1 (by decide +kernel) (hr.mono (by decide)) gU (uv 5)))
   (ah (au (um (tY W) W.G.c1 hr (uv 5) (aa (uv 8) (aa (a8 0) ag))))
   (ah (ua 9 cK.nd (aQ (aa (dn fI fg (uv 7) (xV (hU W) (t9 W) (hr.mono (by decide)) (aa (uv 0) (aa (uv 1) (aa aA ag))))) (aa (dn fI fg (dn fI fg (uv 7) aA) (xV (hU W) (t9 W) (hr.mono (by decide)) (aa (uv 0) (aa (uv 1) (aa aA ag))))) ag))))
   (ah (bg (eU (da (uv 4))) (aj (ua 10 cK.nd (qP (mP W) W.G.c1 (by decide +kernel) (hr.mono (by decide)) gU (uv 5) (aa (uv 8) (aa aA (aa (a8 2) ag))) (ml kG vK)))) (aj (ua 10 cK.nd (qP (Ga W) W.G.c1 (by decide +kernel) (hr.mono (by decide)) gU (uv 5) (aa (uv 8) (aa aA (aa (a8 2) (aa (uv 9) ag)))) (ml (uv 6) (ml kG vK))))))
   (aj (bg (bE pZ lj (uv 10) (gb (bE f8 dF (uv 8) aA (by trivial)) lg (dn Dx AF (uv 8) aA)) (by trivial)) (aj (aK kG)) a7)))))))
theorem Mp:PS (kn P w K mg base f cdv A outer s H E) (cv 8) (c9 ⟨gy,E⟩ sm):=by
 have hu:=di hr
 (conv=>arg 2; whnf)
 with_reducible exact (ua 11 cK.nd (dn fI fg aA (jW (hU W) (t9 W) (hr.mono (by decide)) (aa (uv 0) (aa (uv 1) (aa (uv 2) ag))))))
theorem Mq:PS (kn P w K mg base f cdv A outer s H E) (cv 9) (c9 ⟨gy,E⟩ su):=by
 have hu:=di hr
 (conv=>arg 2; whnf)
 with_reducible exact (au (um (dN (kZ W)) W.G.c1 hr (uv 5) (aa (uv 11) ag)))
theorem KU:PS (kn P w K mg base f cdv A outer s H E) (cv 10) (c9 ⟨gy,E⟩ nX):=by
 have hu:=di hr
 (conv=>arg 2; whnf)
 with_reducible exact (md 40 12 (by decide) (jo (by rfl) cK.nd (by rfl) (by rfl) (by with_unfolding_all exact yo) (AT (ue (by rfl) W.M.range (aa aA (aa (dn fI fg (uv 2) aA) ag)))) (λ_ _ _ _ _=>(ug 0 yo.nd)) (λ_ _ _ _ _=>(d4 (bE pZ lj (uv 0) (uv 1) (by trivial)))) (λ_ _ _ _ _=>(uv 0))))
theorem KW:PS (kn P w K mg base f cdv A outer s H E) (cv 11) (c9 ⟨gy,E⟩ nY):=by
 have hu:=di hr
 (conv=>arg 2; whnf)
 with_reducible exact (bg (PW.pt (oo (bE (yT (D4 hr)) ma (fV 40 (by decide) (fS (by rfl) (by with_unfolding_all exact yp) (c6 (cZ (qO (oR W) W.G.c1 (by decide +kernel) (hr.mono (by decide)) gU (uv 5)))) (λ_ _ _ _ _=>(ug 0 yp.nd)) (λ_ _ _ _ _=>ce) (λ_ _ _ _ _=>(bi (uv 0) aA (by trivial))))) (fV 40 (by decide) (fS (by rfl) (by with_unfolding_all exact yq) (fO (dv (uv 12))) (λ_ _ _ _ _=>(ug 0 yq.nd)) (λ_ _ _ _ _=>ce) (λ_ _ _ _ _=>(dn Dx AF (uv 0) aA)))) (by trivial)) (lh (gS (c4 (uc (pE W) hr (aa (uv 5) (aa (uv 11) ag)))))))) (aj (aK kG)) a7)
theorem KY:PS (kn P w K mg base f cdv A outer s H E) (cv 12) (c9 ⟨gy,E⟩ nZ):=by
 have hu:=di hr
 (conv=>arg 2; whnf)
 with_reducible exact (ua 13 cK.nd aA)
theorem KZ:PS (kn P w K mg base f cdv A outer s H E) (cv 13) (c9 ⟨gy,E⟩ n5):=by
 have hu:=di hr
 (conv=>arg 2; whnf)
 with_reducible exact (gT 40 O8 (by rfl) (fO (dv (uv 12))) (ug 8 cK.nd) (ah (bg (bE f8 dF (jW (hU W) (t9 W) (hr.mono (by decide)) (aa (uv 0) (aa (uv 1) (aa aA ag)))) aA (by trivial)) (aj (au (um (z5 W) W.G.c1 hr (uv 5) (aa (uv 13) ag)))) (aj (bg (eU (da (uv 4))) (aj (au (um (kj W) W.G.c1 hr (uv 5) (aa (uv 13) (aa aA ag))))) (aj (au (qP (tZ W) W.G.c1 (by decide +kernel) (hr.mono (by decide)) gU (uv 5) (aa (uv 13) (aa aA (aa (aQ (aa (uv 7) (aa lg ag))) ag))) (ml (uv 6) vK)))))))
   (ah (md 40 14 (by decide) (jo (by rfl) cK.nd (by rfl) (by rfl) (by with_unfolding_all exact yr) (fO (dv (uv 12))) (λ_ _ _ _ _=>(ug 0 yr.nd)) (λ_ _ _ _ _=>(d4 (bE Iw En (uv 0) (uv 1) (by trivial)))) (λ_ _ _ _ _=>(uv 0))))
   (ah (bg (PW.pt (oo (bE (yT (D4 hr)) ma (fV 40 (by decide) (fS (by rfl) (by with_unfolding_all exact yt) (c6 (cZ (qO (oR W) W.G.c1 (by decide +kernel) (hr.mono (by decide)) gU (uv 5)))) (λ_ _ _ _ _=>(ug 0 yt.nd)) (λ_ _ _ _ _=>ce) (λ_ _ _ _ _=>(bi (uv 0) aA (by trivial))))) (uv 14) (by trivial)) (lh (c4 (um (nW W) W.G.c1 hr (uv 5) (aa (uv 8) ag)))))) (aj (aK kG)) a7)
   (aj (ua 13 cK.nd (uv 8)))))))
theorem K0:PS (kn P w K mg base f cdv A outer s H E) (cv 14) (c9 ⟨gy,E⟩ n6):=by
 have hu:=di hr
 (conv=>arg 2; whnf)
 with_reducible exact (md 40 15 (by decide) (jo (by rfl) cK.nd (by rfl) (by rfl) (by with_unfolding_all exact yu) (AT (ue (by rfl) W.M.range (aa aA (aa (dn fI fg (uv 2) aA) ag)))) (λ_ _ _ _ _=>(ug 0 yu.nd)) (λ_ _ _ _ _=>ce) (λ_ _ _ _ _=>(gb (bE f8 dF (uv 0) (uv 1) (by trivial)) (a8 18) (a8 36)))))
theorem K1:PS (kn P w K mg base f cdv A outer s H E) (cv 15) (c9 ⟨gy,E⟩ n8):=by
 have hu:=di hr
 (conv=>arg 2; whnf)
 with_reducible exact (aK (vA (jr (DZ (D4 hr)) ma (fV 40 (by decide) (fS (by rfl) (by with_unfolding_all exact yv) (AS (ud (by rfl) W.M.range (aa (uv 2) ag))) (λ_ _ _ _ _=>(ug 0 yv.nd)) (λ_ _ _ _ _=>ce) (λ_ _ _ _ _=>(um (sf W) W.G.c1 hr (uv 1) (aa (uv 0) ag))))) (uv 15) (by trivial)) (li (jr f8 dF (cb eO iE (by rfl) W.M.len QW (aa (dn dl dq (um (wy W) W.G.c1 hr (uv 5) (aa (a8 0) ag)) (um (lN W) W.G.c1 hr (uv 5) (aa (a8 0) ag))) ag)) aA (by trivial)))))
theorem Ih:gN (kn P w K mg base f cdv A outer s H E) [cv 1,cv 2,cv 3,cv 4,cv 5,cv 6,cv 7,cv 8,cv 9,cv 10,cv 11,cv 12,cv 13,cv 14,cv 15] (c9 ⟨gy,E⟩ z6) :=
 (ah (Mf W hr) (ah (Mg W hr) (ah (Mh W hr) (ah (Mi W hr) (ah (Mj W hr) (ah (Ml W hr) (ah (Mm W hr) (ah (Mp W hr) (ah (Mq W hr) (ah (KU W hr) (ah (KW W hr) (ah (KY W hr) (ah (KZ W hr) (ah (K0 W hr) (aj (K1 W hr))))))))))))))))
end
def Ii (gy:Gy) (a t r:Oo) (xs:List V) (H1:Hp):Fx where
 ext:=λi=>if i < 11 then .ref (gy.fe i) else if i=11 then .ref a else .ref t
 own:=λb=>b=t∨b=r∨b=gy.tT∨(b=a/\Rd H1 a (.lst xs))
 J:=λH=>(Rd H1 a (.lst xs)->H a=H1 a)/\lu H t r/\l4 H gy.tT gy.tP gy.tQ
 st:=λH H' ⟨j1,j2,j3⟩ k=>by
  refine⟨λz=>?_,?_,?_⟩
  ·have e:=j1 z
   rw [<-e]
   rcases z with z | ⟨o,z⟩
   ·rw [z] at e; rw [e]; exact k a _ (.inl (.inr (.inr (.inr ⟨rfl,.inl z⟩)))) e
   ·rw [z] at e; rw [e]; exact k a _ (.inl (.inr (.inr (.inr ⟨rfl,.inr ⟨o,z⟩⟩)))) e
  ·obtain⟨ne,⟨c,h1⟩,kvs,h2,h3⟩:=j2
   exact⟨ne,⟨c,k _ _ (.inl (.inl rfl)) h1⟩,kvs,k _ _ (.inl (.inr (.inl rfl))) h2,h3⟩
  ·obtain⟨ps,h1,h2,h3⟩:=j3
   refine⟨ps,k _ _ (.inl (.inr (.inr (.inl rfl)))) h1,h2,?_⟩
   rcases h3 with h3 | ⟨c',h3,h4⟩
   ·exact .inl h3
   ·exact .inr ⟨c',h3,k _ _ (.inr ⟨_,rfl⟩) h4⟩
theorem Gc {H1:Hp} {a:Oo} {o:HO} (z:Rd H1 a (.lst xs)) (e:H1 a=some o):(∀kvs,o≠.dK kvs)/\∀ps,o≠.tbl ps:=by
 rcases z with z | ⟨o',z⟩
 ·rw [z] at e; cases e; exact⟨λ_ w=>(nomatch w),λ_ w=>(nomatch w)⟩
 ·rw [z] at e; cases e; exact⟨λ_ w=>(nomatch w),λ_ w=>(nomatch w)⟩
theorem wG {H1:Hp} {a:Oo} (z:Rd H1 a (.lst xs)):∃o,H1 a=some o:=by
 rcases z with z | ⟨o',z⟩
 ·exact⟨_,z⟩
 ·exact⟨_,z⟩
theorem Mr {H H1:Hp} {a:Oo} (h:hW K H1 a xs) (j:Rd H1 a (.lst xs)->H a=H1 a):hW K H a xs:=by
 rcases h with h | h
 ·have e:=j h
  refine .inl ?_
  rcases h with h | ⟨o,h⟩
  ·exact .inl (e.trans h)
  ·exact .inr ⟨o,e.trans h⟩
 ·exact .inr h
theorem Gd {a t r:Oo} {ns:List Int} {H1:Hp} (hS:hW K H1 a (RH V.int ns)) (hn:ns.length≤63):jz K (Ii gy a t r (RH V.int ns) H1):=by
 refine⟨a,ns,t,r,rfl,rfl,.inl rfl,.inr (.inl rfl),λH ⟨j1,j2,j3⟩=>⟨Mr hS j1,hn,j2⟩,λH H' ⟨j1,j2,j3⟩ T' sx=>⟨λz=>?_,T',?_⟩⟩
 ·have e:=j1 z
  obtain⟨o,ho⟩:=wG z
  have nn:=Gc z ho
  have ea:H a=some o:=e.trans ho
  rw [ho]
  exact sx a o ea (j2.notL ea nn.1).1 (j2.notL ea nn.1).2
 ·obtain⟨ps,h1,h2,h3⟩:=j3
  refine⟨ps,sx _ _ h1 (j2.notL h1 λ_ z=>nomatch z).1 (j2.notL h1 λ_ z=>nomatch z).2,h2,?_⟩
  rcases h3 with h3 | ⟨c',h3,h4⟩
  ·exact .inl h3
  ·exact .inr ⟨c',h3,sx _ _ h4 (j2.notL h4 λ_ z=>nomatch z).1 (j2.notL h4 λ_ z=>nomatch z).2⟩
theorem Ge {a t r:Oo} {ns:List Int} {H1:Hp} (hS:hW K H1 a (RH V.int ns)) (hn:ns.length≤63):Bl K (Ii gy a t r (RH V.int ns) H1):=by
 refine⟨Gd hS hn,λH H' ⟨j1,j2,j3⟩ ⟨i1,i2,i3⟩ b o u w h=>?_⟩
 obtain⟨_,⟨c,t1⟩,kvs,t2,_⟩:=j2
 obtain⟨ps,t3,_⟩:=j3
 rcases w with rfl | rfl | rfl | ⟨rfl,z⟩
 ·rw [t1] at h; cases h
 ·rw [t2] at h; cases h
 ·rw [t3] at h; cases h
 ·rw [i1 z,<-j1 z]; exact h
theorem Ij {E:XK} {a t r:Oo} {ns:List Int} {H1:Hp} (hS:hW K H1 a (RH V.int ns)) (hn:ns.length≤63) (hd:∀F,Bl K F->gy.dr F):LO ⟨gy,E⟩ (Ii gy a t r (RH V.int ns) H1):=by
 refine⟨hd _ (Ge hS hn),.inr (.inr (.inl rfl)),λH ⟨j1,j2,j3⟩=>j3,λH H' ⟨j1,j2,j3⟩ lm k=>⟨λz=>?_,?_,lm⟩⟩
 ·have e:=j1 z
  obtain⟨o,ho⟩:=wG z
  have nn:=Gc z ho
  have ea:H a=some o:=e.trans ho
  obtain⟨ps,h1,_⟩:=j3
  rw [ho]
  exact k a o (λw=>by rw [w,h1] at ea; cases ea; exact nn.2 _ rfl) ea
 ·obtain⟨ps,h0,_⟩:=j3
  obtain⟨ne,⟨c,h1⟩,kvs,h2,h3⟩:=j2
  exact⟨ne,⟨c,k _ _ (λw=>by rw [w,h0] at h1; cases h1) h1⟩,kvs,k _ _ (λw=>by rw [w,h0] at h2; cases h2) h2,h3⟩
def Gf (K:Ou) (T:Oo):Sp:=λvs H Q _=>∃a ns,vs=[.ref a]/\hW K H a (RH V.int ns)/\ns.length≤63/\l4 H T zI v4/\∀H',Q (.bl true) H'
theorem Dj {H H':Hp} {T:Oo} {lp:Pos} {q:Str} (h:l4 H T lp q) (s:∀b o,H b=some o->H' b=some o):l4 H' T lp q:=by
 obtain⟨ps,h1,h2,h3⟩:=h
 refine⟨ps,s _ _ h1,h2,?_⟩
 rcases h3 with h3 | ⟨c',h3,h4⟩
 ·exact .inl h3
 ·exact .inr ⟨c',h3,s _ _ h4⟩
section
theorem K2 {f:Oo} (W:Wr P w K mg base gy) (F:Fun K "law" "law" (aG 106) f fd) (hb:Gb=true):cr P w K mg base fR 16 f fd ["_law_script"] (Gf K gy.tT):=by
 have hd:=W.hd
 have hP:=W.hP
 have hQ:=W.hQ
 refine F.ok cK (λvs H Q E h=>?_) (λcdv A outer s H vs Q E hr h=>?_)
 ·obtain⟨a,ns,rfl,_⟩:=h
  rfl
 ·obtain⟨a,ns,rfl,hS,hns,lam,k⟩:=h
  have hu:=di hr
  refine⟨Js (k6 (iV Bj [] E0 qc) (h8 1)) (c9 ⟨gy,E⟩ z6),?_,?_⟩
  ·have rest:=Ih (E:=E) (H:=H) (outer:=outer) W hr
   (conv=>arg 2; whnf)
   exact dU (iy cK.nd (by nofun) (by with_unfolding_all exact (TB rfl)) (GS (FK W.d__law_begun W.M.toMods) (hr.mono (by decide)))) rest
  ·simp only [AA,AB,Ec,AC,List.nil_append]
   refine⟨rfl,λt r H1 T1 s1 e1 e2=>?_⟩
   simp only [w6]
   have hS1:hW K H1 a (RH V.int ns):=by
    rcases hS with (h | ⟨o,h⟩) | h
    ·exact .inl (.inl (s1 _ _ h))
    ·exact .inl (.inr ⟨o,s1 _ _ h⟩)
    ·exact .inr h
   have lam1:l4 H1 gy.tT gy.tP gy.tQ:=by rw [hP,hQ]; exact Dj lam s1
   refine⟨Ii gy a t r (RH V.int ns) H1,none,[],⟨0,false,.lf⟩,KS,cu,?_,⟨?_,?_⟩,hb,?_,?_,?_,?_⟩
   ·refine⟨rfl,rfl,λ_ h=>(nomatch h),Tx,λi c e=>by simp at e,λ_ h=>(nomatch h),λi hi=>if_pos hi,λb w=>?_,⟨λ_=>rfl,T1,lam1⟩,Ij hS1 hns (λF h=>by rw [hd]; exact h)⟩
    obtain⟨_,⟨c,t1⟩,kvs,t2,_⟩:=T1
    obtain⟨ps,t3,_⟩:=lam1
    rcases w with rfl | rfl | rfl | ⟨rfl,z⟩
    ·rw [t1]; simp
    ·rw [t2]; simp
    ·rw [t3]; simp
    ·obtain⟨o,ho⟩:=wG z
     rw [ho]; simp
   ·exact .cons rfl (.cons rfl (nA 14))
   ·intro _ _ _ _ _ _ _ _ _ _ h; cases h
   ·intro _ _ _ _ _ _ _ _ _ h; cases h
   ·intro y' ρ' S' H' av v st C rv h
    cases av with
    | bl b =>
     cases b with
     | true =>
      cases (show v=.bl true from rv)
      exact k H'
     | false=>cases h
    | _=>cases h
   ·intro _ _ _ _ _ _ _ _ _ h; cases h
   ·intro _ _ _ _ _ _ _ _ _ h; cases h
end
@[reducible] def NV (K:Ou) (T C0 C1 e0 e1 e2 e3 e4 e5 e6 e7 e8 e9 e10 XA:Oo):Gy where
 cl:=λc=>match c with
  | 0=>C0
  | _=>C1
 xc:=λ_=>XA
 fe:=λj=>match j with
  | 0=>e0
  | 1=>e1
  | 2=>e2
  | 3=>e3
  | 4=>e4
  | 5=>e5
  | 6=>e6
  | 7=>e7
  | 8=>e8
  | 9=>e9
  | 10=>e10
  | _=>0
 tT:=T
 tP:=zI
 tQ:=v4
 dr:=Bl K
theorem Ms {F:Nat->Prop} (a:F 0) (b:F 1):∀c,c < 2->F c
 | 0,_=>a
 | 1,_=>b
theorem Mt {C:Oo} {h:Int} {t t1:Tok} {x:Str} (hx:bh[15]?=some x) (D:zJ K C "attach" "Desk.attach" (ay (aG 101) 4) #[⟨h,.str "mode" t,.str x t1⟩]):∃h t x t1,bh[15]?=some x/\zJ K C "attach" "Desk.attach" (ay (aG 101) 4) #[⟨h,.str "mode" t,.str x t1⟩]:=⟨h,t,x,t1,hx,D⟩
theorem Mu {C:Oo} {h h1:Int} {t t1:Tok} {v:Om} (D:zJ K C "lock" "Desk.lock" (ay (aG 101) 9) #[⟨h,.str "by" t,v⟩,⟨h1,.str "wait" t1,.bool false⟩]):∃h t v h1 t1,zJ K C "lock" "Desk.lock" (ay (aG 101) 9) #[⟨h,.str "by" t,v⟩,⟨h1,.str "wait" t1,.bool false⟩]:=⟨h,t,v,h1,t1,D⟩
theorem Bt {f:Str} {C0 C1:Oo} (a:Pq K (.ref C0) f=some none) (b:Pq K (.ref C1) f=some none) (e0:gy.cl 0=C0) (e1:gy.cl 1=C1):∀c,c < 2->cq K (gy.cl c) f:=by
 subst e0 e1
 exact Ms a b
theorem Im {l:TL} {h:O9} {fa fL:Oo} {oc kV doc pm cdv ct:Om} {od an:Option Oo} (X:K.In h) (G:h.Ns O0 mg) (hfa:mg "law" = some (.ref fa)) (W:NU l.prog w K mg gy) (hT:K.lookup gy.tT=none) 
  (aL:Tg K O0 "law" = some (some (.ref fL))) (lL:K.lookup fL=some ⟨oc,od,.func (Ph "law" "law" (bY (aG 106)) (a9 (aG 106)) (af (aG 106)) .none kV doc pm an cdv ct),osl⟩) (cL:Qh K cdv "law" = true) (kL:O3 K (.ref fL)=true) (hb:Gb=true) :
  K.lookup gy.tT=none/\(∃c,SB K c gy.tT=true)/\∃fd:SH,(∀(s:Os) (v:Om),U6 s fd ⟨[v],[]⟩ [("_law_script",v)])/\∀base:O9,K.In base->base.Ns O0 mg->base.BuiltinsAt mg gy.tT->cr l.prog w K mg base fR 16 fa fd ["_law_script"] (Gf K gy.tT):=by
 have e:=hfa.symm.trans (Pm X G aL)
 cases e
 obtain⟨cc,_,hd⟩:=W.d_lot_of
 exact⟨hT,⟨cc,hd⟩,Ph "law" "law" (bY (aG 106)) (a9 (aG 106)) (af (aG 106)) .none kV doc pm an cdv ct,λs v=>.of_eq rfl,λbase _ _ hB=>K2 ⟨W,hB⟩ (qt lL cL kL) hb⟩
end RB
namespace RB
@[reducible] def cR:BS:=(ar sj (ar sm (ar su (ar nX (ar nY (ar nZ (ar n5 (ar n6 n8))))))))
@[reducible] def mW:BS:=(ar mT (ar mU (ar mV cR)))
def cS (m:Int) (fair whole:Bool):eg:=⟨some (.ext 11)::some (.ext 12)::some (.int false m m)::some (.bl fair)::some (.bl whole)::uE 11,λ_ _ _=>false⟩
def eD (m:Int) (fair:Bool) (by_:Nat):eg:=⟨some (.ext 11)::some (.ext 12)::some (.int false m m)::some (.bl fair)::some (.bl false)::some (.ref 0)::some (.str by_)::some (.int true (.negSucc 0) (.negSucc 0))::uE 8,λ_ _ _=>false⟩
def yw (o:AO):Tr:=.nd .lf o .lf
def oS (f:Bool):aU:=⟨16,true,.nd (.nd (.nd (.nd (yw (.lst [.str 66,.str 45])) (.dk []) .lf) (.dk []) (yw (.dk []))) (.ins 0 [(31,(.tc (.str 0) .tn)),(29,.bl f),(35,.ref 2),(41,.ref 3),(54,.ref 4),(38,.ref 6),(75,.ref 8),(73,.ref 9),(5,.ref 10),(56,.ref 11),(19,.ref 12)]) (.nd (yw (.dk [])) (.dt []) (yw (.lst []))))
 (.ins 1 [(31,(.tc (.str 0) .tn)),(29,.bl f),(65,.ref 1),(57,.ref 13),(34,.ref 14)])
 (.nd (.nd (yw (.dk [(.str 0,.ref 7)])) (.dk []) (yw (.lst []))) (.dk [(.str 66,.int false 0 0),(.str 45,.int false 0 0),(.str 3,.int false 0 0)]) (.nd (yw (.dk [])) (.dk [(.str 0,.ref 5)]) (yw (.lst []))))⟩
def jQ (a b:Bool):Bool:=match a with
 | true=>b
 | false=>false
theorem bQ {a b:Bool} (h1:a=true) (h2:b=true):jQ a b=true:=by rw [h1,h2]; rfl
theorem Dk (k:BS):ar sg (ar sh (ar si k)) cu KS ⟨0,false,.lf⟩=(jQ (jQ (jQ (jQ (jQ (k cu (cS 2 true true) ⟨0,false,.lf⟩) (k cu (cS 2 true false) ⟨0,false,.lf⟩)) (jQ (k cu (cS 2 false true) ⟨0,false,.lf⟩) (k cu (cS 2 false false) ⟨0,false,.lf⟩))) (jQ (jQ (k cu (cS 3 true true) ⟨0,false,.lf⟩) (k cu (cS 3 true false) ⟨0,false,.lf⟩)) (jQ (k cu (cS 3 false true) ⟨0,false,.lf⟩) (k cu (cS 3 false false) ⟨0,false,.lf⟩)))) (jQ (jQ (k cu (cS 4 true true) ⟨0,false,.lf⟩) (k cu (cS 4 true false) ⟨0,false,.lf⟩)) (jQ (k cu (cS 4 false true) ⟨0,false,.lf⟩) (k cu (cS 4 false false) ⟨0,false,.lf⟩)))) (jQ (jQ (k cu (cS 5 true true) ⟨0,false,.lf⟩) (k cu (cS 5 true false) ⟨0,false,.lf⟩)) (jQ (k cu (cS 5 false true) ⟨0,false,.lf⟩) (k cu (cS 5 false false) ⟨0,false,.lf⟩)))):=by kernel_rfl
theorem jR (k:BS) (m:Int) (f:Bool):ar mT (ar mU (ar mV k)) cu (cS m f false) ⟨0,false,.lf⟩=jQ (k cu (eD m f 66) (oS f)) (k cu (eD m f 45) (oS f)):=by kernel_rfl
set_option maxHeartbeats 0 in
theorem Mv:mW cu (cS 2 true true) ⟨0,false,.lf⟩=true:=by decide +kernel
set_option maxHeartbeats 0 in
theorem Mw:cR cu (eD 2 true 66) (oS true)=true:=by decide +kernel
set_option maxHeartbeats 0 in
theorem Mx:cR cu (eD 2 true 45) (oS true)=true:=by decide +kernel
set_option maxHeartbeats 0 in
theorem My:mW cu (cS 2 false true) ⟨0,false,.lf⟩=true:=by decide +kernel
set_option maxHeartbeats 0 in
theorem Mz:cR cu (eD 2 false 66) (oS false)=true:=by decide +kernel
set_option maxHeartbeats 0 in
theorem MA:cR cu (eD 2 false 45) (oS false)=true:=by decide +kernel
set_option maxHeartbeats 0 in
theorem MB:mW cu (cS 3 true true) ⟨0,false,.lf⟩=true:=by decide +kernel
set_option maxHeartbeats 0 in
theorem MC:cR cu (eD 3 true 66) (oS true)=true:=by decide +kernel
set_option maxHeartbeats 0 in
theorem MD:cR cu (eD 3 true 45) (oS true)=true:=by decide +kernel
set_option maxHeartbeats 0 in
theorem ME:mW cu (cS 3 false true) ⟨0,false,.lf⟩=true:=by decide +kernel
set_option maxHeartbeats 0 in
theorem MF:cR cu (eD 3 false 66) (oS false)=true:=by decide +kernel
set_option maxHeartbeats 0 in
theorem MG:cR cu (eD 3 false 45) (oS false)=true:=by decide +kernel
set_option maxHeartbeats 0 in
theorem MH:mW cu (cS 4 true true) ⟨0,false,.lf⟩=true:=by decide +kernel
set_option maxHeartbeats 0 in
theorem MI:cR cu (eD 4 true 66) (oS true)=true:=by decide +kernel
set_option maxHeartbeats 0 in
theorem MJ:cR cu (eD 4 true 45) (oS true)=true:=by decide +kernel
set_option maxHeartbeats 0 in
theorem MK:mW cu (cS 4 false true) ⟨0,false,.lf⟩=true:=by decide +kernel
set_option maxHeartbeats 0 in
theorem ML:cR cu (eD 4 false 66) (oS false)=true:=by decide +kernel
set_option maxHeartbeats 0 in
theorem MM:cR cu (eD 4 false 45) (oS false)=true:=by decide +kernel
set_option maxHeartbeats 0 in
theorem MN:mW cu (cS 5 true true) ⟨0,false,.lf⟩=true:=by decide +kernel
set_option maxHeartbeats 0 in
theorem MO:cR cu (eD 5 true 66) (oS true)=true:=by decide +kernel
set_option maxHeartbeats 0 in
theorem MP:cR cu (eD 5 true 45) (oS true)=true:=by decide +kernel
set_option maxHeartbeats 0 in
theorem MQ:mW cu (cS 5 false true) ⟨0,false,.lf⟩=true:=by decide +kernel
set_option maxHeartbeats 0 in
theorem MR:cR cu (eD 5 false 66) (oS false)=true:=by decide +kernel
set_option maxHeartbeats 0 in
theorem MS:cR cu (eD 5 false 45) (oS false)=true:=by decide +kernel
theorem z7:Gb=true:=(Dk mW).trans (bQ (bQ (bQ (bQ (bQ Mv ((jR cR 2 true).trans (bQ Mw Mx))) (bQ My ((jR cR 2 false).trans (bQ Mz MA)))) (bQ (bQ MB ((jR cR 3 true).trans (bQ MC MD))) (bQ ME ((jR cR 3 false).trans (bQ MF MG))))) (bQ (bQ MH ((jR cR 4 true).trans (bQ MI MJ))) (bQ MK ((jR cR 4 false).trans (bQ ML MM))))) (bQ (bQ MN ((jR cR 5 true).trans (bQ MO MP))) (bQ MQ ((jR cR 5 false).trans (bQ MR MS)))))
end RB
open PySem PySem.W PyProof.Rows
set_option maxHeartbeats 0 in
theorem PySem.Challenge.cw_lockstretch_k44_granted_in_turn_holds : PySem.Challenge.rw_lockstretch_k44_granted_in_turn.Holds := by
 w_on
 refine holds_law OH.said fun said => ?_
 refine holds_open (r := OY.row) (q := OH.qv) (loose := OH.ls) (Xt := OH.Xt) (XP := XL OH.qv []) (Yf := OH.Hk.obs) (Ya := OH.Hk.val) (YP := OH.Hk.says) (d := OH.dL) (kwd := []) (N := 20000) OH.left OH.Hk.of OH.Hk.keeps (fun s e => xl_of s (SM.mp e).1) XL.keeps OH.hd1 OH.hd2 OH.hd3 (fun s e => recFacts_of (SM.mp e).2) OH.hd4 said OH.hd5 OH.hd6 ?hw ?hc
 case hw => w_witness2
 refine L2.Ei (n := 63) (k := 16) (x := "_law_script") (T := 213) (l := OY) (sp := fun w => RB.Gf _ 213) rfl (by decide) rfl ⟨rfl, by decide, by decide⟩ (fun w h Y => ⟨PySem.W.km_in_of Y, PySem.W.km_tabs_of Y _ (List.Mem.head _)⟩) ?F (fun _ _ a ns hl hS hT => ⟨a, ns, rfl, hS, hl, ⟨#[], hT, trivial, .inl rfl⟩, fun _ => rfl⟩)
 case F =>
  intro w mg fa h KX G hmg
  k_fill
  refine' RB.Im (l := OY) (gy := RB.NV _ 213 723 985 602 609 616 623 630 637 644 651 658 665 672 68) KX G hmg (RB.NU.mk (RB.aJ KX G ?_ ?_ ?_ ?_)
   (RB.aJ KX G ?_ ?_ ?_ ?_)
   (RB.aJ KX G ?_ ?_ ?_ ?_)
   (RB.aJ KX G ?_ ?_ ?_ ?_)
   (RB.aJ KX G ?_ ?_ ?_ ?_)
   (RB.aJ KX G ?_ ?_ ?_ ?_)
   (RB.aJ KX G ?_ ?_ ?_ ?_)
   (RB.aJ KX G ?_ ?_ ?_ ?_)
   (RB.aJ KX G ?_ ?_ ?_ ?_)
   (RB.aJ KX G ?_ ?_ ?_ ?_)
   (RB.aJ KX G ?_ ?_ ?_ ?_)
   (RB.aJ KX G ?_ ?_ ?_ ?_)
   (RB.aJ KX G ?_ ?_ ?_ ?_)
   (RB.aJ KX G ?_ ?_ ?_ ?_)
   (RB.aJ KX G ?_ ?_ ?_ ?_)
   (RB.aJ KX G ?_ ?_ ?_ ?_)
   (RB.aJ KX G ?_ ?_ ?_ ?_)
   (RB.aJ KX G ?_ ?_ ?_ ?_)
   (RB.aJ KX G ?_ ?_ ?_ ?_)
   (RB.aJ KX G ?_ ?_ ?_ ?_)
   (RB.aJ KX G ?_ ?_ ?_ ?_)
   (RB.aJ KX G ?_ ?_ ?_ ?_)
   (RB.aJ KX G ?_ ?_ ?_ ?_)
   (RB.aJ KX G ?_ ?_ ?_ ?_)
   (RB.aJ KX G ?_ ?_ ?_ ?_)
   (RB.aJ KX G ?_ ?_ ?_ ?_)
   (RB.aJ KX G ?_ ?_ ?_ ?_)
   (RB.aJ KX G ?_ ?_ ?_ ?_)
   (RB.aJ KX G ?_ ?_ ?_ ?_)
   (RB.aJ KX G ?_ ?_ ?_ ?_)
   (RB.aJ KX G ?_ ?_ ?_ ?_)
   (RB.aJ KX G ?_ ?_ ?_ ?_)
   (RB.aJ KX G ?_ ?_ ?_ ?_)
   (RB.aJ KX G ?_ ?_ ?_ ?_)
   (RB.aJ KX G ?_ ?_ ?_ ?_)
   (RB.aJ KX G ?_ ?_ ?_ ?_)
   (RB.aJ KX G ?_ ?_ ?_ ?_)
   (RB.aJ KX G ?_ ?_ ?_ ?_)
   (RB.aJ KX G ?_ ?_ ?_ ?_)
   (RB.aJ KX G ?_ ?_ ?_ ?_)
   (RB.aJ KX G ?_ ?_ ?_ ?_)
   (RB.aJ KX G ?_ ?_ ?_ ?_)
   (RB.aJ KX G ?_ ?_ ?_ ?_)
   (RB.aJ KX G ?_ ?_ ?_ ?_)
   (RB.aJ KX G ?_ ?_ ?_ ?_)
   (RB.aJ KX G ?_ ?_ ?_ ?_)
   (RB.aJ KX G ?_ ?_ ?_ ?_)
   (RB.aJ KX G ?_ ?_ ?_ ?_)
   (RB.aJ KX G ?_ ?_ ?_ ?_)
   (RB.aJ KX G ?_ ?_ ?_ ?_)
   (RB.aJ KX G ?_ ?_ ?_ ?_)
   (RB.aJ KX G ?_ ?_ ?_ ?_)
   (RB.aJ KX G ?_ ?_ ?_ ?_)
   (RB.aJ KX G ?_ ?_ ?_ ?_)
   (RB.aJ KX G ?_ ?_ ?_ ?_)
   (RB.aJ KX G ?_ ?_ ?_ ?_)
   (RB.aJ KX G ?_ ?_ ?_ ?_)
   (RB.aJ KX G ?_ ?_ ?_ ?_)
   (RB.aJ KX G ?_ ?_ ?_ ?_)
   (RB.aJ KX G ?_ ?_ ?_ ?_)
   (RB.aJ KX G ?_ ?_ ?_ ?_)
   (RB.aJ KX G ?_ ?_ ?_ ?_)
   (RB.aJ KX G ?_ ?_ ?_ ?_)
   (RB.aJ KX G ?_ ?_ ?_ ?_)
   (RB.aJ KX G ?_ ?_ ?_ ?_)
   (RB.aJ KX G ?_ ?_ ?_ ?_)
   ⟨_, RB.HB KX G ?_ ?_ ?_ ?_, ?hd1⟩
   (RB.c7 (C := 723) ?_ ?_ ?_ ?_ ?_)
   (RB.c7 (C := 723) ?_ ?_ ?_ ?_ ?_)
   (RB.c7 (C := 723) ?_ ?_ ?_ ?_ ?_)
   (RB.c7 (C := 723) ?_ ?_ ?_ ?_ ?_)
   (RB.c7 (C := 985) ?_ ?_ ?_ ?_ ?_)
   (RB.c7 (C := 985) ?_ ?_ ?_ ?_ ?_)
   (RB.c7 (C := 985) ?_ ?_ ?_ ?_ ?_)
   (RB.c7 (C := 985) ?_ ?_ ?_ ?_ ?_)
   (RB.c7 (C := 985) ?_ ?_ ?_ ?_ ?_)
   (RB.c7 (C := 985) ?_ ?_ ?_ ?_ ?_)
   (RB.c7 (C := 985) ?_ ?_ ?_ ?_ ?_)
   (RB.c7 (C := 985) ?_ ?_ ?_ ?_ ?_)
   (RB.c7 (C := 985) ?_ ?_ ?_ ?_ ?_)
   (RB.c7 (C := 985) ?_ ?_ ?_ ?_ ?_)
   (RB.c7 (C := 985) ?_ ?_ ?_ ?_ ?_)
   (RB.c7 (C := 985) ?_ ?_ ?_ ?_ ?_)
   (RB.c7 (C := 985) ?_ ?_ ?_ ?_ ?_)
   (RB.Mt ?hx (RB.Bc (C := 985) ?_ ?_ ?_ ?_ ?_ ?_))
   (RB.Mu (RB.Bc (C := 985) ?_ ?_ ?_ ?_ ?_ ?_))
   (RB.Fm (C := 723) ?_ ?_ ?_ ?_ ?_ ?_ ?_)
   (RB.Fm (C := 985) ?_ ?_ ?_ ?_ ?_ ?_ ?_)
   (Pm KX G ?g_Tables)
   (Pm KX G ?g_Desk)
   (Pm KX G ?_)
   (Pm KX G ?_)
   (Pm KX G ?_)
   (Pm KX G ?_)
   (Pm KX G ?_)
   (Pm KX G ?_)
   (Pm KX G ?_)
   (Pm KX G ?_)
   ⟨⟨?m_len, ?m_isinstance, ?m_int, ?m_bool, ?m_tuple, ?m_list, ?m_range, ?m_zip, ?m_min, ?m_max, ?m_sorted, ?m_set⟩, ?m_any, ?m_all⟩
   ⟨RB.Ms (show L2.mX _ 723 from ⟨?_, ?_, ?_, ?_⟩) (show L2.mX _ 985 from ⟨?_, ?_, ?_, ?_⟩), RB.Bt (C0 := 723) (C1 := 985) ?_ ?_ rfl rfl, RB.Bt (C0 := 723) (C1 := 985) ?_ ?_ rfl rfl, RB.Bt (C0 := 723) (C1 := 985) ?_ ?_ rfl rfl, RB.Bt (C0 := 723) (C1 := 985) ?_ ?_ rfl rfl, RB.Bt (C0 := 723) (C1 := 985) ?_ ?_ rfl rfl, RB.Bt (C0 := 723) (C1 := 985) ?_ ?_ rfl rfl, RB.Bt (C0 := 723) (C1 := 985) ?_ ?_ rfl rfl, RB.Bt (C0 := 723) (C1 := 985) ?_ ?_ rfl rfl, RB.Bt (C0 := 723) (C1 := 985) ?_ ?_ rfl rfl, RB.Bt (C0 := 723) (C1 := 985) ?_ ?_ rfl rfl, RB.Bt (C0 := 723) (C1 := 985) ?_ ?_ rfl rfl, RB.Bt (C0 := 723) (C1 := 985) ?_ ?_ rfl rfl, RB.Bt (C0 := 723) (C1 := 985) ?_ ?_ rfl rfl, RB.Bt (C0 := 723) (C1 := 985) ?_ ?_ rfl rfl⟩
   ⟨RB.v5 KX G ?_ ?_ ?tc_KINDS ?ts_KINDS ?tp_KINDS,
   RB.v5 KX G ?_ ?_ ?tc_HOLDERS ?ts_HOLDERS ?tp_HOLDERS,
   RB.v5 KX G ?_ ?_ ?tc_MODES ?ts_MODES ?tp_MODES,
   RB.Be (es := [("shared", _, .str "write" _), ("alone", _, .str "read" _)]) KX G ?_ ?_ ?te_WM ?tn_WM ?tp_WM,
   RB.Be (es := [("begin", _, .ref _), ("attach", _, .ref _), ("dup", _, .ref _), ("close", _, .ref _), ("fork", _, .ref _), ("end", _, .ref _), ("lock", _, .ref _), ("unlock", _, .ref _), ("cancel", _, .ref _), ("lock_whole", _, .ref _), ("unlock_whole", _, .ref _)]) KX G ?_ ?_ ?te_DE ?tn_DE ?tp_DE⟩
   rfl
   rfl
   rfl
   (show O0 ≠ 213 by decide)
   ⟨31, Pm KX G ?eX, ?eL⟩
   (Pm KX G ?eA)
   ?eN
   ?eI)
   ?hT ?_ ?_ ?_ ?_ RB.z7
  (case g_Tables => k_is); (case g_Desk => k_is); (case eA => k_is); (case eX => k_is)
  all_goals try k_is
  all_goals try k_is
  all_goals try (refine PySem.W.mg_none_of KX G ?_; k_is)
  (case tc_KINDS => exact rfl); (case ts_KINDS => decide); (case tp_KINDS => exact (.cons ⟨_, _, rfl, rfl⟩ (.cons ⟨_, _, rfl, rfl⟩ .nil)))
  (case tc_HOLDERS => exact rfl); (case ts_HOLDERS => decide); (case tp_HOLDERS => exact (.cons ⟨_, _, rfl, rfl⟩ (.cons ⟨_, _, rfl, rfl⟩ .nil)))
  (case tc_MODES => exact rfl); (case ts_MODES => decide); (case tp_MODES => exact (.cons ⟨_, _, rfl, rfl⟩ (.cons ⟨_, _, rfl, rfl⟩ (.cons ⟨_, _, rfl, rfl⟩ .nil))))
  (case te_WM => exact rfl); (case tn_WM => decide +kernel); (case tp_WM => exact (.cons ⟨⟨_, rfl, rfl⟩, ⟨_, _, rfl, rfl⟩⟩ (.cons ⟨⟨_, rfl, rfl⟩, ⟨_, _, rfl, rfl⟩⟩ .nil)))
  (case te_DE => exact rfl); (case tn_DE => decide +kernel); (case tp_DE => exact (.cons ⟨⟨_, rfl, rfl⟩, ⟨by decide, rfl⟩⟩ (.cons ⟨⟨_, rfl, rfl⟩, ⟨by decide, rfl⟩⟩ (.cons ⟨⟨_, rfl, rfl⟩, ⟨by decide, rfl⟩⟩ (.cons ⟨⟨_, rfl, rfl⟩, ⟨by decide, rfl⟩⟩ (.cons ⟨⟨_, rfl, rfl⟩, ⟨by decide, rfl⟩⟩ (.cons ⟨⟨_, rfl, rfl⟩, ⟨by decide, rfl⟩⟩ (.cons ⟨⟨_, rfl, rfl⟩, ⟨by decide, rfl⟩⟩ (.cons ⟨⟨_, rfl, rfl⟩, ⟨by decide, rfl⟩⟩ (.cons ⟨⟨_, rfl, rfl⟩, ⟨by decide, rfl⟩⟩ (.cons ⟨⟨_, rfl, rfl⟩, ⟨by decide, rfl⟩⟩ (.cons ⟨⟨_, rfl, rfl⟩, ⟨by decide, rfl⟩⟩ .nil))))))))))))
  (case eN => first | kernel_rfl | exact rfl); (case eL => intro c; first | kernel_rfl | exact rfl); (case eI => intro c; first | kernel_rfl | exact rfl)
  (case hx => exact rfl); (case hd1 => first | kernel_rfl | exact rfl); (case hT => first | kernel_rfl | exact rfl)


