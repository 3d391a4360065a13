import PyProof.Rows.All
import Wide.All
import OpenK.AllK
import Wide.FinOn
import Lean
import PyProof.EqAt
import PyProof.EqKinds
import PyProof.TupleCall
import PySem.Challenge.RW_borderfloor_k70_whole_partings_are_floor
set_option bootstrap.genMatcherCode false
set_option compiler.extract_closed false
set_option Elab.async false
set_option linter.all false
set_option maxRecDepth 100000
open Array renaming length_toList->cS,getElem?_eq_getElem->eW,getD_eq_getD_getElem?->fy,getElem?_toList->jS,size_extract->kM,getElem?_eq_none->lh,getElem_toList->mE,getElem?_extract->r6,getElem?_push->uS,size_push->vk,forIn_toList->vv,getD->vE,mem_toList_iff->x4,getElem?_eq_some_iff->AH,size_setIfInBounds->BN,replicate->DF,getElem?_append->DS,toArray_toList->ED,size_map->EE,mk->GO,toList_push->Ic,size_append->Iq,ext'->MA,toList->NM
open Bool renaming false_eq_true->c9,false_ne_true->ff,not_true->pV,and_eq_true->tm,and_false->wm,and_true->xE,false_and->zw,not_false->AO,not_eq_true->B8,decide_and->DA,and_eq_true_iff->EL,false_or->FD,and_self->FF,true_and->FH,eq_false_iff->Iy,not_eq_true'->IE,noConfusion->JI,true_or->NS
open Classical renaming byContradiction->cn
open Eq renaming trans->OQ
open Exists renaming elim->Pc
open False renaming elim->mP
open ForInStep renaming yield->r8
open Int renaming toNat_natCast->eP,mul_zero->fw,eq_ofNat_of_zero_le->fT,mul_comm->ia,mul_le_mul_of_nonneg_right->ix,emod_lt_of_pos->iN,emod_nonneg->kl,zero_add->ko,fmod_nonneg_of_pos->lp,fmod_lt_of_pos->mm,add_zero->pE,toNat_of_nonneg->qo,mul_le_mul_of_nonneg_left->ri,mul_ediv_add_emod->sC,sub_mul->sQ,toNat->tP,add_mul->vS,zero_mul->xc,one_mul->x9,le_of_lt->zh,add_mul_emod_self_right->zl,sub_zero->zo,natAbs_mul->AF,lt_or_gt_of_ne->AR,eq_of_mul_eq_mul_right->AS,le_refl->Bz,mul_add->BA,neg_fmod_neg->CB,dvd_antisymm->CC,natCast_emod->CD,neg_mul->EJ,mul_ediv_cancel->E2,mul_assoc->FI,natCast_nonneg->F3,natAbs_natCast->GN,mul_emod_left->IF,zero_sub->IG,lt_trichotomy->IH,emod_eq_of_lt->II,max_eq_right->IU,natCast_ediv->Ki,mul_one->Kt,mul_sub->KP,mul_pos->KU,min_eq_left->Lc,mul_eq_zero->LM,neg_mul_neg->LN,ofNat_le->NR,ne_of_gt->NW,le_trans->Of,fmod_def->Oy,emod_def->OB,sub_neg->OY,mul_neg->OZ
open List renaming length_map->ae,nodup_iff_pairwise_ne->ax,getElem?_map->ay,map_cons->aE,getElem?_eq_getElem->aS,range->bo,mem_cons->br,length_cons->bE,getD_eq_getElem?_getD->bP,mem_singleton->bX,mem_range->b6,mem_map->b9,length_append->ck,getElem?_eq_some_iff->cE,mem_cons_of_mem->cK,size_toArray->c6,not_mem_nil->dc,map_append->de,mem_of_getElem?->df,mem_filter->dn,map_map->dP,pairwise_map->dS,map_congr_left->d6,mem_cons_self->eA,length_range->eI,perm_ext_iff_of_nodup->eS,sum_cons->e9,take_of_length_le->fh,length_take->fm,nodup_cons->fo,mem_append_right->fx,length_pos_of_mem->fF,getElem?_append_right->fI,find?_cons_of_neg->gi,getElem?_eq_none->gv,getElem?_append_left->gI,take_add_one->gS,find?_cons_of_pos->gT,zip_cons_cons->g7,getElem_of_mem->hZ,mem_append->ib,pairwise_cons->iL,append_nil->i4,length_drop->i6,lookup_cons->i8,length_erase_of_mem->jv,filter_cons_of_pos->ke,filter_cons_of_neg->kg,zip_nil_right->ki,cons_append->ku,drop_succ_cons->kB,nodup_append->kD,length_singleton->kG,getElem?_set_ne->kN,all_eq_true->kQ,drop_zero->la,pairwise_lt_range->ll,filterMap_cons->lx,getElem?_range->ly,length_nil->lS,nil_append->lT,nodup_range->ml,mem_erase_of_ne->mB,find?_cons->mS,headD_cons->nh,map_nil->ny,any_cons->nI,getElem_mem->nV,nodup_nil->oa,set_cons_zero->om,set_cons_succ->oo,mem_of_find?_eq_some->oz,range_succ->pf,mem_flatten->rf,lookup->rg,getElem?_set_self->ro,find?_eq_none->rV,forIn_cons->r9,sum_append->sf,getElem?_zipWith->sj,take_append_drop->sk,getElem_eq_getD->sT,perm_middle->tF,pairwise_iff_getElem->tT,length_reverse->uj,length_pos_iff->u7,foldl_cons->vj,ext_getElem?->w8,takeWhile_append_dropWhile->xh,getElem_inj->xl,take_length->xC,map_take->xI,mem_append_left->xS,pairwise_append->x5,find?_some->yv,length_zipWith->y8,mem_filterMap->zD,forIn_nil->AJ,getElem_range->AK,getElem?_drop->AM,map_singleton->AQ,drop_eq_getElem_cons->AX,any_eq_false->A1,append_assoc->Bn,getElem?_take_of_lt->BC,map_drop->BE,getElem?_replicate->B6,any_eq_true->Cc,getElem?_cons_succ->Cf,length_eq_zero_iff->Co,isEmpty_nil->Ct,getElem_map->CA,sum_replicate_nat->C2,of_mem_zip->C7,getElem?_reverse->DJ,length_filter_le->D4,pairwise_flatten->D5,replicate->D8,length->D9,takeWhile_cons->EU,dropWhile_cons->EV,toList_toArray->EZ,length_flatten->E1,getElem?_take->GB,sum_singleton->GL,foldl_append->HM,any_map->HU,find?_append->HV,zipIdx_cons->I0,all_toArray->Kb,map_reverse->Kj,zipIdx_nil->LB,map_const'->LL,take_zero->MR,all_cons->Nd,all_map->N4,all_nil->OC
open List.Pairwise renaming imp_of_mem->mw,nil->HE
open List.Perm renaming trans->LH,refl->MQ
open List.cons renaming injEq->DB
open Nat renaming le_refl->a8,ne_of_lt->cx,lt_of_lt_of_le->dA,zero_le->eD,le_trans->ft,not_lt_zero->gc,lt_trichotomy->gX,zero_add->iP,le_of_lt->kn,lt_or_ge->ky,lt_of_le_of_lt->mh,ne_of_gt->nv,add_zero->nB,lt_irrefl->nE,le_antisymm->pb,le_add_right->qE,mod_lt->rX,lt_succ_of_lt->sN,sub_zero->tN,add_sub_cancel'->t9,eq_zero_or_pos->vF,lt_succ_self->xp,mod_eq_of_lt->xD,lt_succ_iff->yy,two_pow_pos->yT,add_comm->zk,lt_of_le_of_ne->AL,reduceAdd->BS,add_assoc->BU,mul_comm->C0,dvd_of_mod_eq_zero->C3,min_le_left->C9,strongRecOn->DE,le_of_ble_eq_true->DI,add_lt_of_lt_sub'->DV,mul_le_mul_right->EK,add_le_add_left->EW,mul_div_cancel'->E3,not_lt->GA,lt_trans->HG,sub_self->IC,min_le_right->IT,le_of_not_lt->IX,le_max_right->IZ,div_eq_of_lt->JE,le_succ->Kx,min_eq_left->Ll,zero_lt_one->Lo,le_max_left->Lu,div_le_self->LO,le_of_eq->NO,pow_succ->NV,pow_zero->N1,zero_mul->N9,succ_mul->OA,add_mul->OX,div_pos->O0,sub_le->Pp,ble->PH
open Ne renaming symm->mI
open Option renaming map_eq_some_iff->cv,bind_some->i9,map_some->oQ,isSome_map->A6,bind_eq_some_iff->B7,map->PD
open Option.some renaming injEq->k9
open Or renaming inr->ui,inl->vn
open Prod renaming ext->aI,snd->gE,fst->hV
open Prod.mk renaming injEq->si
open PyProof renaming noPylong_of_log2->BF
open PyProof.Rows renaming callWith_type1->fe,IntsAre->mr,slot_tuple_getitem->qh,callWith_builtin1->qr,envOfC->AA,AllBare->A0,subscriptTail_builtinR->CO,subscriptTail->FC,slicePart_none->L6,Subscript_->L8,seqObj->MB,Call_->ND,lt_int->Pd,IsTup->PM
open PyProof.Rows.F renaming plain_set_update_loop->kR,entry_set_update_loop->qV
open PySem renaming wpAny_bind->ab,Value->af,wpAny_pure->av,Shared->aw,Addr->aT,wpAny->a9,starEach->bS,sizeLine->cf,Program->cw,model->cy,World->da,mainGlobals->eK,intKind->eM,Expr->eT,wpAny_callSpecial?_slot->fb,wpAny_field->fq,Heap->fA,wpAny_call_entry->fN,wpAny_newObj_type->fR,tupleKeyHash->f7,Around->gu,wpAny_holding->gz,eval->gN,OsState->hJ,codeAny_builtin->ij,wpAny_seqItems->iq,compareOp->iA,bootBuiltins->iF,wpAny_setField_rec->iO,IsTupleKey->iS,builtinLookup_eq_fast->kc,wpAny_setState_of->kF,wpAny_Call_Name_kw->kK,wpAny_mono->kU,foldedSetIterable->kX,sizeLine_eq->lI,cLine->lP,pyNext->l9,rawInt->ma,Builtin->md,sysModules->me,IsPair->mi,backTo->mN,wpAny_specialOf->mT,typeLookup_type->nc,binaryOp->nk,FuncData->nr,wpAny_attempt->nL,wpAny_passesOwn->oP,wpAny_pyIter_list->pj,wpAny_of_eq->pz,plainId_quiet->pT,mem_of_lookup->qk,wpAny_getItem_str_slice->qv,isSubtype_type->qA,wpAny_isInstance->qB,SetTable->qS,Stmt->rj,codeAny->rq,codeAny_mono->rS,wpAny_truthy_bool->sD,swapsWith->tf,valueAt->tw,wpAny_pyIter_zip->tI,wpAny_askSetting->tJ,behindInMarks->vb,attributeBase->vc,tupleKind_room_in1->vt,Scope->vT,wpAny_pyNext_list_item->wb,wpAny_typeOf->we,firstArgMember->wq,wpAny_setField->wx,wpAny_pyNext_list_end->xi,assignEach->xo,wpAny_forIn_list->xt,typeLookup->xw,PyData->xy,wpAny_rule->xA,wpAny_updateSeq_pair->x8,wpAny_execs_nil->ya,letOwnedTupleGo->yb,post_val_or_str->yi,wpAny_updateSeq->yn,wpAny_ite_split->yB,wpAny_setEntries_of->y9,wpAny_pyIter_tuple->zC,NameKind->Au,IsZip->AG,isSubtype_stop->AI,wpAny_letOwnedTupleGo_zip->AV,getItem->A4,keywordEach->A5,wpAny_pyIter_slot->A7,wpAny_letGo->A8,wpAny_storeSet_of->Bi,fenceModules?->BB,signature?_of->BG,wpAny_onRaise->BI,treeTable->BY,DictEntry->B0,tupleKind->B3,inplaceOp->B4,wpAny_pyNext_tuple_item->B5,entryFor_of_tree->B9,builtinsNs->CH,wpAny_pyNext_tuple_end->CI,Result->CL,callerA->CS,setAddHashed->C1,importedModules->C4,field->DD,codeAny_of_tree->DH,wpAny_nextOf_list_end->DM,wpAny_eqIsQuiet_tuple->DU,weight_type_call_type->DZ,wpAny_loadName_local->D6,subscripted->Ee,entryFor->EA,entryFor_alias->EB,codeAny_call_builtin->EF,wpAny_runValue->EG,holding->EO,BindsTo->ER,seqIndex?->ES,wpAny_loadName_cell->ET,wpAny_handled->FE,assign->FX,pyIter->FY,wpAny_call->F1,IsPart->F2,call_meets->F4,getattributeRaised->F6,wpAny_pyIter_ascii->F7,argsOk->F8,intKind_is->GI,Within->GU,Operator->GV,wpAny_assign_Name->GW,backToKw->HA,Keyword->HC,relabel->HL,callType_new->HP,ofAClassStatement->IA,searchCouldBeSeen->IB,wpAny_pyHash_int->IL,wpAny_execs_cons->IM,PassesOwn->IP,getMethod->IS,wpAny_getItem_of->IY,updateSeq->JA,check_set_init_1->JU,pickOrder->JY,sliceBounds->KG,atKey->KI,wpAny_throw->KL,wpAny_loadPart'->KW,GenState->LV,Params->LX,isTrue->LY,wpAny_Name->LZ,recursionLimit->L0,bindArgs->L1,bindL->L4,bindC->L5,typeIs_str->Mb,sliceRange_one->Mc,call->Md,IsLongIter->Me,Reads->Mn,callType_codes->MC,intBits_le_iff->MD,Draws->ME,wpAny_newTuple->MG,setAddHashedIn->MI,setsByText->MM,wpAny_fieldsOf->MO,storeName->Nw,cellsFrom->NA,spliced->NJ,standAt->NL,unaryOp->NN,newExc->NX,setNext->N2,Model->OM,pick_run->OO,table->OS,newTuple->OT,raiseNew->OU,slotArgs->OW,rule->Pf,Slot->Pw,setAdd->PF,again->PR,CmpOp->PU
open PySem.Around renaming under_plainId->gp,under_plain->GH,under->G0
open PySem.AutoSeq1 renaming list_insert_list_int_val_1->Dx
open PySem.Builtin.Dict renaming updateFrom->Cb,pendingCount->MU,addKeywords->MY,selfAndRest->MZ,pairItems->NU
open PySem.Builtin.Frozenset renaming updateFrom->yA,newClass->ML,addrOf->Na,sizeOf->Nc,slot0->NH
open PySem.Builtin.List renaming listExtendWith->kT,listLengthHint->sM,listTooLong->ve,listFitsIndex->AE,listSameRef->BM,listItems->CY,listUpdate->NG,listTouch->N0
open PySem.Builtin.Range renaming rangeSize->NC,small->Pe
open PySem.Builtin.Slice renaming slicePlaces->oq,sliceAdjust->tS,sliceApplied->AD,slicePartIndex->K2,sliceFields->MS
open PySem.Builtin.SmallTypes renaming nextOf->eJ,ownedTupleIsFree->eR,ownedTupleHandOut->uk,newRecord->LA
open PySem.Builtin.Str renaming strSliceIndices->LU
open PySem.Builtin.Tuple renaming tupleExact->pS,tupleCompareSizes->IJ,tupleItemsOf->L7
open PySem.Calls renaming spliced_cons->rL,spliced_nil->sL,Name_function_global->zt,call_function_entry->AW
open PySem.Challenge renaming pw_borderfloor_k70_whole_partings_are_floor->ah,rw_borderfloor_k70_whole_partings_are_floor->dE
open PySem.Code renaming quiet_builtin->GG,isFrame->He
open PySem.Data renaming fields->ON
open PySem.Draws renaming list->F9,strAscii->MH
open PySem.Expr renaming Call->P4
open PySem.F renaming called_set->iX,slot_zip_next->ng,slot_tuple_iterator_next->og,plain_extend_loop->uu,slot_list_getattribute->vi,args_zip_next_1->wt,entry_zip_next->xB,args_tuple_iterator_next_1->yk,entry_tuple_iterator_next->zi,slot_dict_getitem->AU,slot_list_insert->BD,slot_str_getitem->BH,plain_list_iadd->Cs,args_object_init_3->EC,entry_extend_loop->EX,entry_type_call->ID,typeCall_zip_2->Jn,typeCall_set_1->JJ,entry_set_init->JO,newCall_zip_2->LD,entry_zip_new->LF,slot_dict_len->LG,plain_set_new->LI,slot_set_iter->LJ,called_zip->NY
open PySem.Heap renaming get?_push_of_some->ai,get?_push_size->ba,lt_size->b5,get?_update_self->hX,SameBut->kH,size_push->mx,get?_update_other->nz,ExtBut->KO,IsList->OV
open PySem.Heap.DictOf renaming new->P5
open PySem.Heap.IsList renaming push->PZ
open PySem.Heap.IsSliceOf renaming new->Po
open PySem.Heap.SameBut renaming update->kz,refl->HZ
open PySem.IsRange renaming new->OP
open PySem.Manifest renaming owners->Lv
open PySem.Obj renaming mapSeq->n9,data_mapFields->oj,isFreed_of_fields->xk,putSet->AN,cls_mapFields->A9,mapFields->BO
open PySem.PassesOwn renaming never->LP
open PySem.PyData renaming eqv->fg,eqvAll->g9,tuple->kr,int->sP,strOk->wo,canLayAll0->HI,depth->HK,str->Mo
open PySem.SeqAt renaming notIn_listAt->F5,in_listAt->Lm,EqAt->Pm
open PySem.SeqAt.Reads renaming unique->PC
open PySem.SetTable renaming tooFull->Cn,fill->FG
open PySem.Shared renaming TypeIs->M1
open PySem.Str renaming ofString->fE,length->L9
open PySem.Txt renaming slice_le->CU,slice->NF
open PySem.Value renaming ref->eB,none->jI,int->qq,bool->CF,str->EN,isInt->Kk,float->Kn,isStrOf->MW,bytes->OL
open PySem.W renaming Frag->ag,behindTheImports->dQ,kia_one->gL,findIn->ip,nsIn->kq,emptyDict->kC,fnOf->mn,instObj->mM,boot_heap->nN,keepIn->nX,kHook->sg,plainGet->tj,topFrame->wa,hasDictIn->wc,plainGet_of->yY,isFn->ze,lookIn->zI,kitx_tuple->Ap,callWith_K->As,codeIn->AB,methodObj->AZ,plainOver->A2,kitx_list->A3,mg_of->BQ,cellsFrom_some->CM,takerIn->C5,makesIn->C6,OpenLaw->C8,methodCall_KW->DO,kitOne->D7,KdlSrc->EH,SharedT->EM,openGood->GS,kitx_dict->GY,handedIn->IQ,topStub->LS,namesBound->LW,WalkO->MX,plainProg->Nl,staticsOk->Nn,openSeen->OE,gensDone->OF,laidKept->OG,openEnds->OH
open PySem.W.Fast renaming tw14364793385576792824->E4,te14364793385576792824->E5,tw15667345088766844465->E6,te15667345088766844465->E7,tw14374325043358763698->E8,te14374325043358763698->E9,tw10110043849684766642->Fc,te10110043849684766642->Fh,tw14082659384304107361->Fm,te14082659384304107361->Fs,tw11892475500146522536->Fu,te11892475500146522536->FA,tw5923862056798008813->FK,te5923862056798008813->FL,tw4187177175401517315->FO,te4187177175401517315->FR
open PySem.W.Hook renaming obs->B1,val->B2
open PySem.W.Looks renaming here->Pl
open PySem.W.OpenLaw renaming wellSaid->MV
open PySem.W.OpenRow renaming toRowW->NI
open PySem.W.RowW renaming records->OI
open PySem.W.WData renaming int->PY
open PySem.Within renaming cons->PV
open PySem.pickOrder renaming go->N3
open String renaming ofList->M0
open Sum renaming inl->zd,inr->AY
open True renaming intro->mf
noncomputable section
namespace L2
open PySem PySem.Spec PyProof.Rows
def inClass(s:rj)(j:Nat):rj:=match s with
 |.ClassDef _ _ _ body _ _ _ _ _ _ _=>body.getD j (.Pass ⟨0,0,0,0⟩)
 |_=>.Pass ⟨0,0,0,0⟩
def gP(s:rj):Arguments:=match s with
 |.FunctionDef _ a _ _ _ _ _ _ _ _=>a
 |_=>{ posonlyargs:=[],args:=[],vararg:=none,kwonlyargs:=[],kw_defaults:=[],kwarg:=none,defaults:=[] }
def dm(s:rj):List rj:=match s with
 |.FunctionDef _ _ b _ _ _ _ _ _ _=>b
 |_=>[]
def aL(s:rj):vT:=match s with
 |.FunctionDef _ _ _ _ _ _ sc _ _ _=>sc
 |_=>{ kind:=.function,names:=[],isGenerator:=false,isCoroutine:=false }
end L2
namespace L3
open PySem PySem.W PySem.Spec PyProof.Rows
abbrev HS:=@E4
def yV:BY=HS:=E5
abbrev goF:=@E6
def Zk:@topGo=@goF:=E7
abbrev sgF:=@E8
def Zt:@segRun=@sgF:=E9
abbrev stF:=@Fc
def Zh:@segRunT=@stF:=Fh
abbrev trF:=@Fm
def aa7:@topRun=@trF:=Fs
abbrev dnF:=@Fu
def abe:@denote=@dnF:=FA
abbrev ZK:=@FK
def Zw:@C4=@ZK:=FL
abbrev osF:=@FO
def Z8:@OE=@osF:=FR
def Mi(d:EM):Option (Flow×EM×Code×Pos)->EM
 |some (_,s,_,_)=>s
 |none=>d
def afp(d:aw):Option (aw×Thread)->aw
 |some (s,_)=>s
 |none=>d
def afy(d:aw):Option aw->aw
 |some s=>s
 |none=>d
def S0(w:da)(os:hJ):aw:=⟨nN w.params,GO [],boot_drawn,boot_toks,os⟩
def Oq(w:da):((nN w.params).isNs eK&&(GO []:Array LV).size==0)=true/\(nN w.params).objs.size=11/\(nN w.params).nsMap eK "__annotations__" = some (.ref 6) :=
 ⟨by kernel_rfl,by kernel_rfl,by kernel_rfl⟩
def aeH:Obj:={ cls:=.type "tuple",data:=.seq #[] }
def ael:Obj:={ cls:=.none,data:=.fields #[] }
def aev:Obj:={ cls:=.type "code",data:=.fields #[.str "<module>" 182,.str "<module>" 183,.str "/claim/cut.py" 184,.int 1 0,.int 0 0,.int 0 0,.int 0 0,.int 0 0,.ref 11,.bool false,.int 181 0,.ref 12,.none,.none,.none,.none,.int 185 0,.int 1 0,.str "/claim/cut.py" 186] }
def afj:Obj:={ cls:=.type "frame",slots:=#[some (.ref 13),some (.ref 3),some (.ref 3),none,some (.str "__main__" 164),none,some (.ref 0)] }
def Sb(w:da)(os:hJ):EM :=
 ⟨.node (boot_o_0 w.params) (.node (boot_o_1 w.params) (.node (boot_o_3 w.params) (.node (boot_o_7 w.params) .nil .nil) (.node aeH .nil .nil)) (.node (boot_o_5 w.params) (.node (boot_o_9 w.params) .nil .nil) (.node aev .nil .nil)))
  (.node (boot_o_2 w.params) (.node (boot_o_4 w.params) (.node (boot_o_8 w.params) .nil .nil) (.node ael .nil .nil)) (.node (boot_o_6 w.params) (.node (boot_o_10 w.params) .nil .nil) (.node afj .nil .nil))),15,{},GO [],⟨0,0,0,0⟩,187,os⟩
def Hx(p:cw):Env:={ scope:=p.main.scope,locals:=mainNs,globals:=mainNs,cells:=[],code:=.ref 13,frame:=some 14 }
def sA(p:cw)(w:da)(os:hJ):aw:=afp (S0 w os) (goF HS p w 11 (some (.ref 6)) 12 (S0 w os) (LS p))
def sR(p:cw)(w:da)(os:hJ):Option (Flow×EM×Code×Pos):=stF HS p w 11 (some (.ref 6)) 1 20000 (Sb w os) (piecesOf (dQ p) (Hx p) (.body (dQ p) (Hx p)) ⟨0,0,0,0⟩ [wa ⟨0,0,0,0⟩])
def Wu:Option (Flow×EM×Code×Pos)->Pos
 |some (_,_,_,q)=>q
 |none=>⟨0,0,0,0⟩
def sE(p:cw)(w:da)(os:hJ):Option aw:=trF HS p w 11 (some (.ref 6)) 2 (Mi (Sb w os) (sR p w os)).abs ⟨doneF .next,.body (dQ p) (Hx p),Wu (sR p w os),[wa ⟨0,0,0,0⟩]⟩
def sF(p:cw)(w:da)(os:hJ):aw:=afy (S0 w os) (sE p w os)
variable{loose:List Str}{Xt:aw->Bool}{α:Type}{g0:Bool}
def Wx{p q:cw}{Yf:aw->α}{Ya:da->α}{N:Nat}{w:da}{ev:Env}{p0 p1 qf:Pos}{p2:hJ->Pos}{m a b n k:Nat}{ann:Option af}
  {Sa F:hJ->aw} {Sb G:hJ->EM}
  (h1:opening p=Nl p.main.scope.names) (h2:PH 600 N=true) (h3:∀s,BB p s=some s)
  (sz:((nN w.params).isNs eK&&(GO []:Array LV).size==0)=true/\(nN w.params).objs.size=m/\(nN w.params).nsMap eK "__annotations__" = ann)
  (pre:∀os,goF HS p w m ann a (S0 w os) (LS p)=some (Sa os,⟨dnF HS (.body (dQ p) ev),.body (dQ p) ev,p0,[wa qf]⟩))
  (blk:∀os,sgF HS p w m ann 1 b (Sa os) (blockOf (dQ p) ev (.body (dQ p) ev) p0 [wa qf])=some (.next,(Sb os).abs,.body (dQ p) ev,p1))
  (seg:∀os,stF HS p w m ann 1 n (Sb os) (piecesOf (dQ p) ev (.body (dQ p) ev) p1 [wa qf])=some (.next,G os,.body (dQ p) ev,p2 os))
  (fin:∀os,trF HS p w m ann k (G os).abs ⟨doneF .next,.body (dQ p) ev,p2 os,[wa qf]⟩=some (F os))
  (le:PH (a+(b+(n+k))) N=true)
  (looks:∀os,((Nn (ZK p.main.body) (nN w.params) (F os).heap&&LW p (F os).heap&&OF (F os)&&OG (nN w.params) (F os).heap),osF q loose (ZK p.main.body) Xt g0 (F os),Yf (F os))=(true,GS q loose,Ya w)) :
  (OH BY p w N).map (λs=>(OE q loose (C4 p.main.body) Xt g0 s,Yf s))=some (GS q loose,Ya w):=by
 obtain⟨⟨hp,gs,dr,tk,os⟩,e,J⟩:=cv.mp (boot_open h1 h2 h3 w)
 obtain⟨rfl,J⟩:=Prod.mk.inj J
 obtain⟨rfl,J⟩:=Prod.mk.inj J
 obtain⟨rfl,rfl⟩:=Prod.mk.inj J
 obtain⟨z1,z2,z3⟩:=sz
 have l:=looks os
 rw[←Zw,←Z8] at l
 obtain⟨l1,l⟩:=Prod.mk.inj l
 obtain⟨l2,l3⟩:=Prod.mk.inj l
 have O:=pre os
 rw[←Zk,←abe,←yV] at O
 have U:=blk os
 rw[←Zt,←yV] at U
 have Y:=seg os
 rw[←Zh,←yV] at Y
 have Z:=fin os
 rw[←aa7,←yV] at Z
 have r5:=piece_app (rest:=[]) (segRun_of Y) (piece_nil Z)
 rw[i4] at r5
 have r:=topRun_mono (N-(a+(b+(n+k)))) _ _ _ _ (go_top O (piece_block U r5))
 rw[t9 (DI le)] at r
 have t:topFrom BY p w N (S0 w os)=some (F os):=by
  unfold topFrom
  show (match _ with | true=>_ | false=>_)=_
  dsimp only[S0]
  rw[z1,z2,z3]
  dsimp only
  rw[show topRun BY p w m ann N ⟨nN w.params,GO [],boot_drawn,boot_toks,os⟩ (LS p)=some (F os) from r]
  show (match _ with | true=>_ | false=>_)=_
  rw[l1]
 unfold OH
 rw[e]
 show (topFrom BY p w N (S0 w os)).map _=_
 rw[t]
 exact congrArg some (aI l2 l3)
def Ui(row:String){p q:cw}{Yf:aw->α}{Ya:da->α}
  (h1:opening p=Nl p.main.scope.names) (h3:∀s,BB p s=some s)
  (pre:∀(b:Bool) (w:da) (os:hJ),goF HS p (w.withFollow row b) 11 (some (.ref 6)) 12 (S0 (w.withFollow row b) os) (LS p)=some (sA p (w.withFollow row b) os,⟨dnF HS (.body (dQ p) (Hx p)),.body (dQ p) (Hx p),⟨0,0,0,0⟩,[wa ⟨0,0,0,0⟩]⟩))
  (blk:∀(b:Bool) (w:da) (os:hJ),sgF HS p (w.withFollow row b) 11 (some (.ref 6)) 1 1 (sA p (w.withFollow row b) os) (blockOf (dQ p) (Hx p) (.body (dQ p) (Hx p)) ⟨0,0,0,0⟩ [wa ⟨0,0,0,0⟩])=some (.next,(Sb (w.withFollow row b) os).abs,.body (dQ p) (Hx p),⟨0,0,0,0⟩))
  (seg:∀(b:Bool) (w:da) (os:hJ),sR p (w.withFollow row b) os=some (.next,Mi (Sb (w.withFollow row b) os) (sR p (w.withFollow row b) os),.body (dQ p) (Hx p),Wu (sR p (w.withFollow row b) os)))
  (fin:∀(b:Bool) (w:da) (os:hJ),sE p (w.withFollow row b) os=some (sF p (w.withFollow row b) os))
  (looks:∀(b:Bool) (w:da) (os:hJ),((Nn (ZK p.main.body) (nN (w.withFollow row b).params) (sF p (w.withFollow row b) os).heap&&LW p (sF p (w.withFollow row b) os).heap&&OF (sF p (w.withFollow row b) os)&&OG (nN (w.withFollow row b).params) (sF p (w.withFollow row b) os).heap),osF q loose (ZK p.main.body) Xt g0 (sF p (w.withFollow row b) os),Yf (sF p (w.withFollow row b) os))=(true,GS q loose,Ya (w.withFollow row b))) :
  LeftO p q loose Xt Yf Ya 20100 g0:=by
 have z:∀(b:Bool) (w:da),(OH BY p (w.withFollow row b) 20100).map (λs=>(OE q loose (C4 p.main.body) Xt g0 s,Yf s))=some (GS q loose,Ya (w.withFollow row b)):=λb w=>
  Wx (n:=20000) (k:=2) (Sa:=sA p (w.withFollow row b)) (Sb:=Sb (w.withFollow row b)) (G:=λos=>Mi (Sb (w.withFollow row b) os) (sR p (w.withFollow row b) os)) (F:=sF p (w.withFollow row b)) (p2:=λos=>Wu (sR p (w.withFollow row b) os)) h1 (by decide) h3 (Oq _) (pre b w) (blk b w) (seg b w) (fin b w) (by decide) (looks b w)
 exact byRow2 row (z false) (z true)
abbrev aaL(p:cw)(w:da)(os:hJ):Prop:=goF HS p w 11 (some (.ref 6)) 12 (S0 w os) (LS p)=some (sA p w os,⟨dnF HS (.body (dQ p) (Hx p)),.body (dQ p) (Hx p),⟨0,0,0,0⟩,[wa ⟨0,0,0,0⟩]⟩)
abbrev abO(p:cw)(w:da)(os:hJ):Prop:=sgF HS p w 11 (some (.ref 6)) 1 1 (sA p w os) (blockOf (dQ p) (Hx p) (.body (dQ p) (Hx p)) ⟨0,0,0,0⟩ [wa ⟨0,0,0,0⟩])=some (.next,(Sb w os).abs,.body (dQ p) (Hx p),⟨0,0,0,0⟩)
abbrev abx(p:cw)(w:da)(os:hJ):Prop:=sR p w os=some (.next,Mi (Sb w os) (sR p w os),.body (dQ p) (Hx p),Wu (sR p w os))
abbrev aaq(p:cw)(w:da)(os:hJ):Prop:=sE p w os=some (sF p w os)
abbrev LkA(p:cw)(w:da)(os:hJ):Prop:=(Nn (ZK p.main.body) (nN w.params) (sF p w os).heap&&LW p (sF p w os).heap&&OF (sF p w os)&&OG (nN w.params) (sF p w os).heap)=true
abbrev LkB(p q:cw)(loose:List Str)(Xt:aw->Bool)(g0:Bool)(w:da)(os:hJ):Prop:=osF q loose (ZK p.main.body) Xt g0 (sF p w os)=GS q loose
abbrev LkC(p:cw)(Yf:aw->α)(Ya:da->α)(w:da)(os:hJ):Prop:=Yf (sF p w os)=Ya w
def Nz{p q:cw}{Yf:aw->α}{Ya:da->α}(row:String)(h1:opening p=Nl p.main.scope.names)(h3:∀s,BB p s=some s)
  (pre:∀b (w:da) os,aaL p (w.withFollow row b) os) (blk:∀b (w:da) os,abO p (w.withFollow row b) os) (seg:∀b (w:da) os,abx p (w.withFollow row b) os) (fin:∀b (w:da) os,aaq p (w.withFollow row b) os)
  (a:∀b (w:da) os,LkA p (w.withFollow row b) os) (b:∀b (w:da) os,LkB p q loose Xt g0 (w.withFollow row b) os) (c:∀b (w:da) os,LkC p Yf Ya (w.withFollow row b) os):LeftO p q loose Xt Yf Ya 20100 g0 :=
 Ui row h1 h3 pre blk seg fin λi w os=>aI (a i w os) (aI (b i w os) (c i w os))
end L3
namespace Law
open PySem PySem.Spec PyProof.Rows L2 L3
def top(i:Nat):rj:=ah.main.body.getD i (.Pass ⟨0,0,0,0⟩)
abbrev en(P:LX)(k:Str)(t:Tok)(v:af):B0:=⟨PyData.keyHash P k,.str k t,v⟩
abbrev oM(n q:Str)(s:rj)(m:Str)(t:Tok)(c:aT):Obj:=⟨.type "function",none,.func (mn n q (gP s) (dm s) (aL s) .none .none .none (.str m t) none (.ref c) .none),#[]⟩
abbrev oF(n:Str):=oM n n
abbrev oV(n q:Str)(t:Tok)(l c:Int)(a e:aT)(i:Nat)(x y:af):Obj:=⟨.type "code",none,.fields #[.str n t,.str q (t+1),.str "/claim/cut.py" (t+2),.int l 0,.int c 0,.int 0 0,.int 0 0,.int 3 0,.ref a,.bool true,.int 181 0,.ref (a+1),.none,x,y,.ref e,.int i 0,.int l 0,.str "/claim/cut.py" (i+1)],#[]⟩
abbrev oC(n:Str)(t:Tok)(l c:Int)(a:aT)(i:Nat):Obj:=oV n n t l c a (a+4) i (.ref (a+2)) (.ref (a+3))
abbrev oD(n:Str)(t:Tok)(l c:Int)(a:aT)(i:Nat):Obj:=oV n n t l c a (a+2) i .none .none
abbrev oI(n q:Str)(t:Tok)(l c:Int)(a:aT)(i:Nat):Obj:=oV n q t l c a (a+4) i (.ref (a+2)) (.ref (a+3))
abbrev oJ(n q:Str)(t:Tok)(l c:Int)(a:aT)(i:Nat):Obj:=oV n q t l c a (a+2) i .none .none
open PySem.W in
noncomputable def K0(P:LX):Frag:=(nat_lit 3,⟨.type "dict",none,.dict #[en P "__name__" 165 (.str "law_borderfloor_k70_whole_partings_are_floor" 628),en P "__doc__" 166 .none,en P "__package__" 167 .none,en P "__loader__" 168 (.builtin "__main__.__loader__#opaque"),en P "__spec__" 169 .none,en P "__annotations__" 170 (.ref 6),en P "__builtins__" 171 (.ref 4),en P "__file__" 173 (.str "/claim/cut.py" 172),en P "__cached__" 174 .none,en P "grids_of" 194 (.ref 19),en P "added" 204 (.ref 26),en P "taken" 212 (.ref 33),en P "FloorError" 232 (.ref 43),en P "NoGrid" 248 (.ref 56),en P "NotAsMany" 264 (.ref 68),en P "NoFloor" 280 (.ref 80),en P "rests_in" 289 (.ref 89),en P "shift_of" 298 (.ref 96),en P "whole_steps" 308 (.ref 103),en P "leads_to" 317 (.ref 110),en P "rest_of" 325 (.ref 117),en P "common_measure" 334 (.ref 124),en P "levelled" 344 (.ref 131),en P "grid_of" 355 (.ref 138),en P "Laying" 434 (.ref 193),en P "floors_of" 440 (.ref 202),en P "STEPS" 461 (.ref 203),en P "OPPOSITES" 474 (.ref 208),en P "corners_of" 484 (.ref 215),en P "backwards" 490 (.ref 220),en P "sides_of" 501 (.ref 227),en P "letters_by_corner" 511 (.ref 234),en P "border_of" 523 (.ref 241),en P "RIGHT_HAND" 546 (.ref 242),en P "across" 552 (.ref 251),en P "neighbours_of" 558 (.ref 256),en P "parted_by" 564 (.ref 261),en P "spans_of" 575 (.ref 268),en P "is_parting" 588 (.ref 275),en P "cuts_of_two" 594 (.ref 280),en P "cuts_of_three" 600 (.ref 285),en P "partings_of" 606 (.ref 290),en P "shifts_by" 619 (.ref 297),en P "grid_by" 627 (.ref 304),en P "_law_cell_at" 637 (.ref 311),en P "_law_mix" 646 (.ref 318),en P "_law_whole" 653 (.ref 325),en P "_law_sorted" 663 (.ref 332),en P "_law_beside" 670 (.ref 339),en P "_law_shuts_in" 676 (.ref 344),en P "_law_grown" 689 (.ref 351),en P "_law_far" 696 (.ref 358),en P "_law_border" 709 (.ref 365),en P "_law_rest" 721 (.ref 372),en P "_law_grids" 727 (.ref 377),en P "_law_lays" 733 (.ref 382),en P "_law_is_parting" 739 (.ref 387),en P "_law_is_grid" 745 (.ref 392),en P "law" 751 (.ref 397)] 59,#[]⟩) ::
 (nat_lit 18,oD "grids_of" 189 2 1 15 192) ::
 (nat_lit 19,oF "grids_of" (top 1) "borderfloor.allgrids" 187 18) ::
 (nat_lit 25,oC "added" 197 9 2 20 202) ::
 (nat_lit 26,oF "added" (top 3) "borderfloor.cells" 195 25) ::
 (nat_lit 32,oC "taken" 205 11 2 27 210) ::
 (nat_lit 33,oF "taken" (top 4) "borderfloor.cells" 195 32) ::
 (nat_lit 88,oC "rests_in" 283 23 1 83 287) ::
 (nat_lit 89,oF "rests_in" (top 11) "borderfloor.grids" 281 88) ::
 (nat_lit 95,oC "shift_of" 290 25 3 90 296) ::
 (nat_lit 96,oF "shift_of" (top 12) "borderfloor.grids" 281 95) ::
 (nat_lit 102,oC "whole_steps" 299 27 2 97 306) ::
 (nat_lit 103,oF "whole_steps" (top 13) "borderfloor.grids" 281 102) ::
 (nat_lit 109,oC "leads_to" 309 31 2 104 315) ::
 (nat_lit 110,oF "leads_to" (top 14) "borderfloor.grids" 281 109) ::
 (nat_lit 116,oC "rest_of" 318 34 2 111 323) ::
 (nat_lit 117,oF "rest_of" (top 15) "borderfloor.grids" 281 116) ::
 (nat_lit 123,oC "common_measure" 326 36 2 118 332) ::
 (nat_lit 124,oF "common_measure" (top 16) "borderfloor.grids" 281 123) ::
 (nat_lit 130,oC "levelled" 335 42 2 125 342) ::
 (nat_lit 131,oF "levelled" (top 17) "borderfloor.grids" 281 130) ::
 (nat_lit 137,oC "grid_of" 345 49 1 132 353) ::
 (nat_lit 138,oF "grid_of" (top 18) "borderfloor.grids" 281 137) ::
 (nat_lit 151,oI "__init__" "Laying.__init__" 370 66 3 146 376) ::
 (nat_lit 152,oM "__init__" "Laying.__init__" (inClass (top 20) 0) "borderfloor.layings" 356 151) ::
 (nat_lit 156,oJ "laid" "Laying.laid" 379 72 1 153 382) ::
 (nat_lit 157,oM "laid" "Laying.laid" (inClass (top 20) 1) "borderfloor.layings" 356 156) ::
 (nat_lit 163,oI "spot" "Laying.spot" 385 75 3 158 391) ::
 (nat_lit 164,oM "spot" "Laying.spot" (inClass (top 20) 2) "borderfloor.layings" 356 163) ::
 (nat_lit 170,oI "rest_under" "Laying.rest_under" 394 78 2 165 399) ::
 (nat_lit 171,oM "rest_under" "Laying.rest_under" (inClass (top 20) 3) "borderfloor.layings" 356 170) ::
 (nat_lit 177,oI "meets" "Laying.meets" 402 81 1 172 409) ::
 (nat_lit 178,oM "meets" "Laying.meets" (inClass (top 20) 4) "borderfloor.layings" 356 177) ::
 (nat_lit 184,oI "is_floor" "Laying.is_floor" 412 90 1 179 416) ::
 (nat_lit 185,oM "is_floor" "Laying.is_floor" (inClass (top 20) 5) "borderfloor.layings" 356 184) ::
 (nat_lit 189,oJ "place_of" "Laying.place_of" 419 93 2 186 422) ::
 (nat_lit 190,oM "place_of" "Laying.place_of" (inClass (top 20) 6) "borderfloor.layings" 356 189) ::
 (nat_lit 192,⟨.type "dict",none,.dict #[en P "__module__" 365 (.str "borderfloor.layings" 356),en P "__firstlineno__" 369 (.int 64 368),en P "__init__" 378 (.ref 152),en P "laid" 384 (.ref 157),en P "spot" 393 (.ref 164),en P "rest_under" 401 (.ref 171),en P "meets" 411 (.ref 178),en P "is_floor" 418 (.ref 185),en P "place_of" 424 (.ref 190),en P "__static_attributes__" 427 (.ref 191),en P "__dict__" 429 (.ref 194),en P "__weakref__" 431 (.ref 195),en P "__doc__" 432 .none] 4,#[]⟩) ::
 (nat_lit 193,⟨.type "type",none,.cls ⟨"Laying",[.type "object"],[.ref 193,.type "object"],192, "Laying",true,[],[],false,none,false⟩,#[none,none,some (.str "Laying" 358),some (.str "Laying" 366),some (.builtin "object.__new__"),some (.bool true)]⟩) ::
 (nat_lit 201,oD "floors_of" 435 99 1 198 438) ::
 (nat_lit 202,oF "floors_of" (top 21) "borderfloor.layings" 356 201) ::
 (nat_lit 203,⟨.type "dict",none,.dict #[en P "e" 443 (.ref 204),en P "n" 446 (.ref 205),en P "w" 449 (.ref 206),en P "s" 453 (.ref 207)] 4,#[]⟩) ::
 (nat_lit 204,⟨.type "tuple",none,.seq #[.int 1 444,.int 0 445] 0,#[]⟩) ::
 (nat_lit 205,⟨.type "tuple",none,.seq #[.int 0 447,.int 1 448] 0,#[]⟩) ::
 (nat_lit 206,⟨.type "tuple",none,.seq #[.int (-1) 451,.int 0 452] 0,#[]⟩) ::
 (nat_lit 207,⟨.type "tuple",none,.seq #[.int 0 454,.int (-1) 456] 0,#[]⟩) ::
 (nat_lit 208,⟨.type "dict",none,.dict #[en P "e" 462 (.str "w" 463),en P "n" 464 (.str "s" 465),en P "w" 466 (.str "e" 467),en P "s" 468 (.str "n" 469)] 4,#[]⟩) ::
 (nat_lit 214,oC "corners_of" 475 104 2 209 482) ::
 (nat_lit 215,oF "corners_of" (top 25) "borderfloor.words" 441 214) ::
 (nat_lit 219,oD "backwards" 485 109 1 216 488) ::
 (nat_lit 220,oF "backwards" (top 26) "borderfloor.words" 441 219) ::
 (nat_lit 226,oC "sides_of" 493 112 1 221 499) ::
 (nat_lit 227,oF "sides_of" (top 28) "borderfloor.borders" 491 226) ::
 (nat_lit 233,oC "letters_by_corner" 502 116 1 228 509) ::
 (nat_lit 234,oF "letters_by_corner" (top 29) "borderfloor.borders" 491 233) ::
 (nat_lit 240,oC "border_of" 512 123 1 235 521) ::
 (nat_lit 241,oF "border_of" (top 30) "borderfloor.borders" 491 240) ::
 (nat_lit 242,⟨.type "dict",none,.dict #[en P "e" 526 (.ref 243),en P "n" 530 (.ref 244),en P "w" 533 (.ref 245),en P "s" 537 (.ref 246)] 4,#[]⟩) ::
 (nat_lit 243,⟨.type "tuple",none,.seq #[.int 0 527,.int (-1) 529] 0,#[]⟩) ::
 (nat_lit 244,⟨.type "tuple",none,.seq #[.int 0 531,.int 0 532] 0,#[]⟩) ::
 (nat_lit 245,⟨.type "tuple",none,.seq #[.int (-1) 535,.int 0 536] 0,#[]⟩) ::
 (nat_lit 246,⟨.type "tuple",none,.seq #[.int (-1) 539,.int (-1) 541] 0,#[]⟩) ::
 (nat_lit 250,oD "across" 547 135 1 247 550) ::
 (nat_lit 251,oF "across" (top 33) "borderfloor.neighbours" 524 250) ::
 (nat_lit 255,oD "neighbours_of" 553 139 2 252 556) ::
 (nat_lit 256,oF "neighbours_of" (top 34) "borderfloor.neighbours" 524 255) ::
 (nat_lit 260,oD "parted_by" 559 142 2 257 562) ::
 (nat_lit 261,oF "parted_by" (top 35) "borderfloor.neighbours" 524 260) ::
 (nat_lit 267,oC "spans_of" 567 146 2 262 573) ::
 (nat_lit 268,oF "spans_of" (top 37) "borderfloor.partings" 565 267) ::
 (nat_lit 274,oC "is_parting" 576 149 2 269 586) ::
 (nat_lit 275,oF "is_parting" (top 38) "borderfloor.partings" 565 274) ::
 (nat_lit 279,oD "cuts_of_two" 589 158 1 276 592) ::
 (nat_lit 280,oF "cuts_of_two" (top 39) "borderfloor.partings" 565 279) ::
 (nat_lit 284,oD "cuts_of_three" 595 163 1 281 598) ::
 (nat_lit 285,oF "cuts_of_three" (top 40) "borderfloor.partings" 565 284) ::
 (nat_lit 289,oD "partings_of" 601 168 1 286 604) ::
 (nat_lit 290,oF "partings_of" (top 41) "borderfloor.partings" 565 289) ::
 (nat_lit 296,oC "shifts_by" 607 173 2 291 617) ::
 (nat_lit 297,oF "shifts_by" (top 42) "borderfloor.partings" 565 296) ::
 (nat_lit 303,oC "grid_by" 620 181 2 298 625) ::
 (nat_lit 304,oF "grid_by" (top 43) "borderfloor.partings" 565 303) ::
 (nat_lit 310,oC "_law_cell_at" 630 184 2 305 635) ::
 (nat_lit 311,oF "_law_cell_at" (top 45) "law_borderfloor_k70_whole_partings_are_floor" 628 310) ::
 (nat_lit 317,oC "_law_mix" 638 188 2 312 644) ::
 (nat_lit 318,oF "_law_mix" (top 46) "law_borderfloor_k70_whole_partings_are_floor" 628 317) ::
 (nat_lit 324,oC "_law_whole" 647 193 1 319 651) ::
 (nat_lit 325,oF "_law_whole" (top 47) "law_borderfloor_k70_whole_partings_are_floor" 628 324) ::
 (nat_lit 331,oC "_law_sorted" 654 195 1 326 661) ::
 (nat_lit 332,oF "_law_sorted" (top 48) "law_borderfloor_k70_whole_partings_are_floor" 628 331) ::
 (nat_lit 338,oC "_law_beside" 664 203 1 333 668) ::
 (nat_lit 339,oF "_law_beside" (top 49) "law_borderfloor_k70_whole_partings_are_floor" 628 338) ::
 (nat_lit 343,oD "_law_shuts_in" 671 205 2 340 674) ::
 (nat_lit 344,oF "_law_shuts_in" (top 50) "law_borderfloor_k70_whole_partings_are_floor" 628 343) ::
 (nat_lit 350,oC "_law_grown" 677 215 3 345 687) ::
 (nat_lit 351,oF "_law_grown" (top 51) "law_borderfloor_k70_whole_partings_are_floor" 628 350) ::
 (nat_lit 357,oC "_law_far" 690 223 1 352 694) ::
 (nat_lit 358,oF "_law_far" (top 52) "law_borderfloor_k70_whole_partings_are_floor" 628 357) ::
 (nat_lit 364,oC "_law_border" 697 227 1 359 707) ::
 (nat_lit 365,oF "_law_border" (top 53) "law_borderfloor_k70_whole_partings_are_floor" 628 364) ::
 (nat_lit 371,oC "_law_rest" 710 244 2 366 719) ::
 (nat_lit 372,oF "_law_rest" (top 54) "law_borderfloor_k70_whole_partings_are_floor" 628 371) ::
 (nat_lit 376,oD "_law_grids" 722 248 1 373 725) ::
 (nat_lit 377,oF "_law_grids" (top 55) "law_borderfloor_k70_whole_partings_are_floor" 628 376) ::
 (nat_lit 381,oD "_law_lays" 728 254 2 378 731) ::
 (nat_lit 382,oF "_law_lays" (top 56) "law_borderfloor_k70_whole_partings_are_floor" 628 381) ::
 (nat_lit 386,oD "_law_is_parting" 734 256 2 383 737) ::
 (nat_lit 387,oF "_law_is_parting" (top 57) "law_borderfloor_k70_whole_partings_are_floor" 628 386) ::
 (nat_lit 391,oD "_law_is_grid" 740 270 1 388 743) ::
 (nat_lit 392,oF "_law_is_grid" (top 58) "law_borderfloor_k70_whole_partings_are_floor" 628 391) ::
 (nat_lit 396,oD "law" 746 272 1 393 749) ::
 (nat_lit 397,oF "law" (top 59) "law_borderfloor_k70_whole_partings_are_floor" 628 396)::[]
noncomputable def kA:List aT:=[3,18,19,25,26,32,33,88,89,95,96,102,103,109,110,116,117,123,124,130,131,137,138,151,152,156,157,163,164,170,171,177,178,184,185,189,190,192,193,201,202,203,204,205,206,207,208,214,215,219,220,226,227,233,234,240,241,242,243,244,245,246,250,251,255,256,260,261,267,268,274,275,279,280,284,285,289,290,296,297,303,304,310,311,317,318,324,325,331,332,338,339,343,344,350,351,357,358,364,365,371,372,376,377,381,382,386,387,391,392,396,397]
def kE(P:LX):kA=(K0 P).map (·.1):=by kernel_rfl
def vw:cw:={ ah with main:={ (ah).main with body:=[top 1,top 3,top 4,top 6,top 7,top 8,top 9,top 11,top 12,top 13,top 14,top 15,top 16,top 17,top 18,top 20,top 21,top 23,top 24,top 25,top 26,top 28,top 29,top 30,top 32,top 33,top 34,top 35,top 37,top 38,top 39,top 40,top 41,top 42,top 43,top 45,top 46,top 47,top 48,top 49,top 50,top 51,top 52,top 53,top 54,top 55,top 56,top 57,top 58,top 59] } }
def lo:List Str:=["STEPS", "OPPOSITES", "RIGHT_HAND"]
abbrev xT(s:aw):Bool:=W.xlAt vw [] s&&W.recOk (OI (NI (W.OpenLaw.row dE))) s
def ws:MV dE=true:=by kernel_rfl
def ld1:W.opening ah=W.plainProg (ah).main.scope.names:=by kernel_rfl
def ld3(s:aw):BB ah s=some s:=by kernel_rfl
def aeu(w:da)(os:hJ):aaL ah (w.withFollow "special-get-raises" false) os:=by kernel_rfl
def ae0(w:da)(os:hJ):aaL ah (w.withFollow "special-get-raises" true) os:=by kernel_rfl
def ae6(w:da)(os:hJ):abO ah (w.withFollow "special-get-raises" false) os:=by kernel_rfl
def ae2(w:da)(os:hJ):abO ah (w.withFollow "special-get-raises" true) os:=by kernel_rfl
def afJ(w:da)(os:hJ):abx ah (w.withFollow "special-get-raises" false) os:=by kernel_rfl
def afb(w:da)(os:hJ):abx ah (w.withFollow "special-get-raises" true) os:=by kernel_rfl
def afQ(w:da)(os:hJ):aaq ah (w.withFollow "special-get-raises" false) os:=by kernel_rfl
def afe(w:da)(os:hJ):aaq ah (w.withFollow "special-get-raises" true) os:=by kernel_rfl
def afC(w:da)(os:hJ):LkA ah (w.withFollow "special-get-raises" false) os:=by kernel_rfl
def afl(w:da)(os:hJ):LkA ah (w.withFollow "special-get-raises" true) os:=by kernel_rfl
def aeE(w:da)(os:hJ):LkB ah vw lo xT true (w.withFollow "special-get-raises" false) os:=by kernel_rfl
def aep(w:da)(os:hJ):LkB ah vw lo xT true (w.withFollow "special-get-raises" true) os:=by kernel_rfl
def afL(w:da)(os:hJ):LkC ah (B1 (sg K0 kA kE)) (B2 (sg K0 kA kE)) (w.withFollow "special-get-raises" false) os:=by kernel_rfl
def ae4(w:da)(os:hJ):LkC ah (B1 (sg K0 kA kE)) (B2 (sg K0 kA kE)) (w.withFollow "special-get-raises" true) os:=by kernel_rfl
def ld:W.LeftO ah vw lo xT (B1 (sg K0 kA kE)) (B2 (sg K0 kA kE)) 20100 :=
 Nz "special-get-raises" ld1 ld3 (λb=>by cases b;exact aeu;exact ae0) (λb=>by cases b;exact ae6;exact ae2) (λb=>by cases b;exact afJ;exact afb) (λb=>by cases b;exact afQ;exact afe) (λb=>by cases b;exact afC;exact afl) (λb=>by cases b;exact aeE;exact aep) (λb=>by cases b;exact afL;exact ae4)
end Law
namespace L2
open PySem PySem.Spec PyProof.Rows
abbrev Key:=Sum Int Str
def yl:Key->af->Bool
 |.inl k,v=>Kk k v
 |.inr x,v=>MW x v
def afA(w:da):Key->Int
 |.inl k=>hashInt k
 |.inr x=>hashStr w x
theorem bR:∀ {k:Key} {v:af},yl k v=true->(∃i t,k=zd i/\v=qq i t)\/(∃x t,k=AY x/\v=EN x t)
 |.inl i,v,h=>by
  obtain⟨t,e⟩:=Value.isInt_shape (k:=i) (v:=v) h
  exact .inl ⟨i,t,rfl,e⟩
 |.inr x,v,h=>by
  obtain⟨t,e⟩:=Value.isStrOf_shape (x:=x) (v:=v) h
  exact .inr ⟨x,t,rfl,e⟩
def Nb(i:Int)(t:Tok):yl (.inl i) (.int i t)=true:=by simp[yl,Kk]
def Oa(x:Str)(t:Tok):yl (.inr x) (.str x t)=true:=by simp[yl,MW]
def Zb(a b:Int):decide ((zd a:Key)=zd b)=(a==b):=by
 by_cases e:a=b
 ·subst e;simp
 ·have h:¬(zd a:Key)=zd b:=λq=>e (Sum.inl.inj q)
  rw[decide_eq_false h]
  exact (beq_eq_false_iff_ne.mpr e).symm
def aby(a b:Str):decide ((AY a:Key)=AY b)=decide (a=b):=by
 by_cases e:a=b
 ·subst e;simp
 ·have h:¬(AY a:Key)=AY b:=λq=>e (Sum.inr.inj q)
  rw[decide_eq_false h,decide_eq_false e]
def Zd(a:Int)(b:Str):decide ((zd a:Key)=AY b)=false:=decide_eq_false (λq=>nomatch q)
def abl(a:Str)(b:Int):decide ((AY a:Key)=zd b)=false:=decide_eq_false (λq=>nomatch q)
def bA(prog:cw)(w:da):PySem.KeyKind prog w Key where
 is:=yl
 hash:=afA w
 inj:=λv a b ha hb=>by
  rcases bR ha with ⟨i,t,rfl,rfl⟩ | ⟨x,t,rfl,rfl⟩
  ·rcases bR hb with ⟨j,u,rfl,e⟩ | ⟨y,u,rfl,e⟩
   ·injection e with e1 _;rw[e1]
   ·exact nomatch e
  ·rcases bR hb with ⟨j,u,rfl,e⟩ | ⟨y,u,rfl,e⟩
   ·exact nomatch e
   ·injection e with e1 _;rw[e1]
 byValue:=λk v h=>by
  rcases bR h with ⟨i,t,rfl,rfl⟩ | ⟨x,t,rfl,rfl⟩ <;> rfl
 pyHash:=λhv h=>by
  rcases bR hv with ⟨i,t,rfl,rfl⟩ | ⟨x,t,rfl,rfl⟩
  ·exact IL h
  ·exact wpAny_pyHash_str h
 eqBool:=λhu hv h=>by
  rcases bR hu with ⟨i,t,rfl,rfl⟩ | ⟨x,t,rfl,rfl⟩
  ·rcases bR hv with ⟨j,u,rfl,rfl⟩ | ⟨y,u,rfl,rfl⟩
   ·rw[Zb] at h;exact wpAny_eqBool_int h
   ·rw[Zd] at h;exact SeqAt.EqAt.int_str i t y u _ _ _ _ h
  ·rcases bR hv with ⟨j,u,rfl,rfl⟩ | ⟨y,u,rfl,rfl⟩
   ·rw[abl] at h;exact SeqAt.EqAt.str_int x t j u _ _ _ _ h
   ·rw[aby] at h;exact wpAny_eqBool_str h
 «strs»:=λk x t v h=>by
  rcases bR h with ⟨i,u,rfl,e⟩ | ⟨y,u,rfl,e⟩
  ·exact nomatch e
  ·injection e with e1 _
   subst e1
   cases v <;> rfl
def Bs(prog:cw)(w:da)(i:Int)(t:Tok):(bA prog w).is (.inl i) (.int i t)=true:=Nb i t
def lZ(prog:cw)(w:da)(x:Str)(t:Tok):(bA prog w).is (.inr x) (.str x t)=true:=Oa x t
inductive V where
 |non | bl (b:Bool) | int (i:Int) | str (x:Str) | byt (b:Array UInt8) | flt (b:UInt64) | ref (a:aT) | ty (n:String)
 deriving DecidableEq
def RelV:V->af->Prop
 |.non,u=>u=jI
 |.bl b,u=>u=CF b
 |.int i,u=>∃t,u=qq i t
 |.str x,u=>∃t,u=EN x t
 |.byt b,u=>∃t,u=OL b t
 |.flt b,u=>∃t,u=Kn b t
 |.ref a,u=>u=eB a
 |.ty n,u=>u=Value.type n
abbrev Vals:List V->List af->Prop:=Paired RelV
variable{us:List af}
def Vals.length{xs:List V}(r:Vals xs us):xs.length=us.length:=Paired.length r
theorem Vals.get:∀ {xs:List V} {us:List af} {i:Nat} {x:V},Vals xs us->xs[i]?=some x->∃u,us[i]?=some u/\RelV x u
 |_,_,_,_,.nil,e=>by simp at e
 |_,_,0,_,.cons r _,e=>by simp at e;subst e;exact⟨_,rfl,r⟩
 |_,_,i+1,x,.cons _ t,e=>by
  obtain⟨u,h1,h2⟩:=Vals.get (i:=i) (x:=x) t (by simpa using e)
  exact⟨u,by simpa using h1,h2⟩
theorem Vals.append:∀ {xs ys:List V} {us ws:List af},Vals xs us->Vals ys ws->Vals (xs++ys) (us++ws)
 |_,_,_,_,.nil,s=>s
 |_,_,_,_,.cons r t,s=>.cons r (Vals.append t s)
theorem Vals.take:∀ {xs:List V} {us:List af} (n:Nat),Vals xs us->Vals (xs.take n) (us.take n)
 |_,_,0,_=>.nil
 |_,_,_+1,.nil=>.nil
 |_,_,n+1,.cons r t=>.cons r (Vals.take n t)
theorem Vals.drop:∀ {xs:List V} {us:List af} (n:Nat),Vals xs us->Vals (xs.drop n) (us.drop n)
 |_,_,0,r=>r
 |_,_,_+1,.nil=>.nil
 |_,_,n+1,.cons _ t=>Vals.drop n t
def mU:Option V->Option af->Prop
 |some v,some u=>RelV v u
 |none,none=>True
 |_,_=>False
def KV{κ:Type}:List (κ×V)->List (κ×af)->Prop:=Paired λ(p:κ×V) (q:κ×af)=>p.1=q.1/\RelV p.2 q.2
def kV:Key->V
 |.inl i=>.int i
 |.inr x=>.str x
inductive HO where
 |lst (xs:List V)
 |tup (xs:List V)
 |dK (zp:List (Key×V)) | dT (zp:List (List Key×V))
 |set (S:Int->Bool) (n:Nat)
 |ins (C dx:aT) (fs:List (Str×V))
 |own (x:aT)
 |xd (fs:List (Str×V))
 |met (f x:aT)
 |jZ (lo hi:Int)
 |frz (o:Obj) (u:HO)
 |tbl (ps:Array af)
 |ext (φ:fA->Prop)
abbrev Hp:=aT->Option HO
def upd(H:Hp)(a:aT)(o:HO):Hp:=λb=>if b=a then some o else H b
variable{H:Hp}{a:aT}{o:HO}
def aZ:upd H a o a=some o:=by unfold upd;rw[if_pos rfl]
variable{b:aT}
def aC(h:b≠a):upd H a o b=H b:=by unfold upd;rw[if_neg h]
def Jo{u:HO}:upd (upd H a o) a u=upd H a u:=by
 funext b;unfold upd;split <;> rfl
def j4{u:HO}(h:H a=some o)(h':H b=some u)(d:o≠u):a≠b:=by
 intro e;subst e;rw[h] at h';exact d (Option.some.inj h')
def aX(h:H a=some o)(h':H b=none):a≠b:=by
 intro e;subst e;rw[h] at h';cases h'
def z9(h:fA)(a:aT)(items:Array af):Prop:=∃o,h.get? a=some o/\o.cls=.type "tuple"/\∃n,o.data=.seq items n/\o.dict=none
def z9.tup{h:fA}{a:aT}{items:Array af}(x:z9 h a items):PM h a items:=by
 obtain⟨o,e,c,n,d,_⟩:=x
 exact⟨o,e,c,n,d⟩
variable{h:fA}
def z9.lt{items:Array af}(x:z9 h a items):a<h.objs.size:=x.tup.lt
def z9.new(h:fA)(items:Array af):z9 (h.push { cls:=.type "tuple",data:=.seq items }) h.objs.size items:=⟨_,ba _ rfl,rfl,_,rfl,rfl⟩
section
variable(P:cw)(w:da)
def bO(H:Hp)(h:fA)(a:aT):HO->Prop
 |.lst xs=>xs.length<=cf/\∃(its:List af) (n:Nat),Vals xs its/\h.get? a=some { cls:=.type "list",data:=.seq its.toArray n }
 |.tup xs=>xs.length<=cf/\∃its:List af,Vals xs its/\z9 h a its.toArray
 |.dK zp=>zp.length<=cf/\(a==me)=false/\∃vs,KV zp vs/\h.DictOf (bA P w) a vs
 |.dT zp=>zp.length<=cf/\(a==me)=false/\∃xs:List (List Key×aT×af),
   Paired (λ(p:List Key×V) (q:List Key×aT×af)=>p.1=q.1/\H q.2.1=some (.tup (p.1.map kV))/\RelV p.2 q.2.2) zp xs /\
   ∃o es ep,h.get? a=some o/\o.ExactDict/\o.data=.dict es ep/\es.toList=xs.map (entryOfKey (B3 (bA P w)))/\(xs.map (·.1)).Nodup
 |.set S n=>h.SetOf (eM P w) a S n
 |.ins C dx fs=>H dx=some (.own a)/\fs.length<=1000/\dx≠a/\h.get? a=some (mM C dx) /\
   ∃mA,h.Ns1 dx mA/\(∀f,mU (fs.lookup f) (mA f))/\GU mA (fs.map (·.1))
 |.own _=>∃o,h.get? a=some o
 |.xd fs=>∃mA,h.Ns1 a mA/\∀f,mU (fs.lookup f) (mA f)
 |.jZ lo hi=>∃t u v,h.get? a=some { cls:=.type "range",data:=.fields #[.int lo t,.int hi u,.int 1 v] }
 |.frz o u=>h.get? a=some o/\bO H h a u
 |.tbl ps=>h.get? a=some { cls:=.none,data:=.fields ps }
 |.met f x=>h.get? a=some (AZ (.ref f) (.ref x))
 |.ext φ=>φ h/\(∃o,h.get? a=some o)/\∀h1 h2:fA,φ h1->(∀o,h1.get? a=some o->h2.get? a=some o)->φ h2
def oR(H:Hp)(h:fA):Prop:=∀a o,H a=some o->bO P w H h a o
end
section
variable{P:cw}{w:da}{H H':Hp}{h h':fA}{a:aT}{o:HO}
def bO.lt(x:bO P w H h a o):a<h.objs.size:=by
 cases o with
 |lst xs=>obtain⟨_,_,_,_,e⟩:=x;exact b5 e
 |tup xs=>obtain⟨_,_,_,p⟩:=x;exact p.lt
 |dK zp=>obtain⟨_,_,_,_,o,_,_,e,_⟩:=x;exact b5 e
 |dT zp=>obtain⟨_,_,_,_,o,_,_,e,_⟩:=x;exact b5 e
 |set S n=>obtain⟨o,_,_,_,e,_⟩:=x;exact b5 e
 |ins C dx fs=>obtain⟨_,_,_,e,_⟩:=x;exact b5 e
 |own y=>obtain⟨_,e⟩:=x;exact b5 e
 |xd fs=>obtain⟨_,⟨_,_,_,e,_⟩,_⟩:=x;exact b5 e
 |jZ lo hi=>obtain⟨_,_,_,e⟩:=x;exact b5 e
 |frz ob u=>obtain⟨e,_⟩:=x;exact b5 e
 |tbl ps=>exact b5 (show h.get? a=some _ from x)
 |met f y=>exact b5 (show h.get? a=some _ from x)
 |ext φ=>obtain⟨_,⟨_,e⟩,_⟩:=x;exact b5 e
theorem Paired.pA{α β:Type}{F G:α->β->Prop}:∀ {l₁:List α} {l₂:List β},Paired F l₁ l₂->(∀a b,F a b->G a b)->Paired G l₁ l₂
 |_,_,.nil,_=>.nil
 |_,_,.cons r t,f=>.cons (f _ _ r) (Paired.pA t f)
def bO.stay(x:bO P w H h a o)(k:∀b u,(b=a\/H b=some (.own a))->h.get? b=some u->h'.get? b=some u)
  (ho:∀b,H b=some (.own a)->H' b=some (.own a)) (ht:∀b xs,H b=some (.tup xs)->H' b=some (.tup xs)):bO P w H' h' a o:=by
 induction o with
 |lst xs=>obtain⟨z,its,n,r,e⟩:=x;exact⟨z,its,n,r,k _ _ (.inl rfl) e⟩
 |tup xs=>obtain⟨z,its,r,ob,e,c⟩:=x;exact⟨z,its,r,ob,k _ _ (.inl rfl) e,c⟩
 |dK zp=>obtain⟨z,y,vs,r,ob,es,ep,e,c⟩:=x;exact⟨z,y,vs,r,ob,es,ep,k _ _ (.inl rfl) e,c⟩
 |dT zp=>
  obtain⟨z,y,xs,r,ob,es,ep,e,c⟩:=x
  exact⟨z,y,xs,Paired.pA r λp q z=>⟨z.1,ht _ _ z.2.1,z.2.2⟩,ob,es,ep,k _ _ (.inl rfl) e,c⟩
 |set S n=>obtain⟨ob,es,ep,t,e,c⟩:=x;exact⟨ob,es,ep,t,k _ _ (.inl rfl) e,c⟩
 |ins C dx fs=>
  obtain⟨d,z,ne,e,mA,⟨od,es,ep,J,c⟩,r⟩:=x
  exact⟨ho _ d,z,ne,k _ _ (.inl rfl) e,mA,⟨od,es,ep,k _ _ (.inr d) J,c⟩,r⟩
 |own y=>obtain⟨ob,e⟩:=x;exact⟨ob,k _ _ (.inl rfl) e⟩
 |xd fs=>obtain⟨mA,⟨od,es,ep,e,c⟩,r⟩:=x;exact⟨mA,⟨od,es,ep,k _ _ (.inl rfl) e,c⟩,r⟩
 |jZ lo hi=>obtain⟨t,u,v,e⟩:=x;exact⟨t,u,v,k _ _ (.inl rfl) e⟩
 |frz ob u ih=>obtain⟨e,q⟩:=x;exact⟨k _ _ (.inl rfl) e,ih q⟩
 |tbl ps=>
  have e:h.get? a=some { cls:=.none,data:=.fields ps }:=x
  show h'.get? a=some { cls:=.none,data:=.fields ps }
  exact k a _ (.inl rfl) e
 |met f y=>
  have e:h.get? a=some (AZ (.ref f) (.ref y)):=x
  show h'.get? a=some (AZ (.ref f) (.ref y))
  exact k a _ (.inl rfl) e
 |ext φ=>obtain⟨p,⟨o,e⟩,st⟩:=x;exact⟨st _ _ p λo q=>k _ _ (.inl rfl) q,⟨o,k _ _ (.inl rfl) e⟩,st⟩
def oR.lt(x:oR P w H h)(e:H a=some o):a<h.objs.size:=(x a o e).lt
def oR.fresh(x:oR P w H h)(e:h.objs.size<=a):H a=none:=by
 cases q:H a with
 |none=>rfl
 |some u=>exact absurd (dA (x.lt q) e) (nE _)
def oR.kept(x:oR P w H h)(k:∀b u,h.get? b=some u->h'.get? b=some u):oR P w H h':=λa o e=>
 (x a o e).stay (λb u _ q=>k b u q) (λ_ q=>q) λ_ _ q=>q
def oR.laid(x:oR P w H h)(k:∀b u,h.get? b=some u->h'.get? b=some u)(hp:h.objs.size<=a)(new:bO P w (upd H a o) h' a o):oR P w (upd H a o) h':=λb u e=>by
 have J:=x.fresh hp
 by_cases hb:b=a
 ·subst hb;rw[aZ] at e;cases e;exact new
 ·rw[aC hb] at e
  exact (x b u e).stay (λc v _ q=>k c v q) (λc q=>by rw[aC (aX q J)];exact q) λc xs q=>by rw[aC (aX q J)];exact q
end
def Rd(H:Hp)(a:aT)(u:HO):Prop:=H a=some u\/∃o,H a=some (.frz o u)
variable{P:cw}{w:da}
def Rd.ok{u:HO}(r:Rd H a u)(x:oR P w H h):bO P w H h a u:=by
 rcases r with r | ⟨o,r⟩
 ·exact x a u r
 ·obtain⟨_,q⟩:=x a _ r
  exact q
def Mut:Option HO->Prop
 |some (.lst _)=>True
 |some (.dK _)=>True
 |some (.dT _)=>True
 |some (.set _ _)=>True
 |some (.ins _ _ _)=>True
 |some (.ext _)=>True
 |_=>False
section
variable{P:cw}{w:da}{H:Hp}{h h':fA}{x e:aT}{o':HO}
def oR.write(ok:oR P w H h)(mu:Mut (H x))(he:e=x\/H e=some (.own x))(k:∀b u,b≠e->h.get? b=some u->h'.get? b=some u)(heo:∃u,h'.get? e=some u)
  (new:bO P w (upd H x o') h' x o'):oR P w (upd H x o') h':=λb u q=>by
 have J:∀c y,H c=some (.own y)->c≠x:=λc y r z=>by subst z;rw[r] at mu;exact mu
 have O:∀c xs,H c=some (.tup xs)->c≠x:=λc xs r z=>by subst z;rw[r] at mu;exact mu
 by_cases hb:b=x
 ·subst hb;rw[aZ] at q;cases q;exact new
 ·rw[aC hb] at q
  by_cases hbe:b=e
  ·have Y:H b=some (.own x):=by
    rcases he with z | z
    ·exact absurd (hbe.trans z) hb
    ·rw[hbe];exact z
   rw[q] at Y;cases Y
   obtain⟨v,Z⟩:=heo
   exact⟨v,by rw[hbe];exact Z⟩
  ·refine (ok b u q).stay (λc v U r=>k c v ?_ r) (λc r=>by rw[aC (J c b r)];exact r) λc xs r=>by rw[aC (O c xs r)];exact r
   rcases U with rfl | U
   ·exact hbe
   ·rintro rfl
    rcases he with z | z
    ·exact J c b U z
    ·rw[U] at z;cases z;exact hb rfl
end
structure Un(fs ex:List aT)(H H':Hp)(h h':fA):Prop where
 keep:∀b o,h.get? b=some o->H b=none->b∉fs->b∉ex->h'.get? b=some o
 slot:∀b o,h.get? b=some o->H b=none->b∈fs->b∉ex->∃sl,h'.get? b=some { o with slots:=sl }
 free:∀b o,h.get? b=some o->H b=none->b∉ex->H' b=none
 there:∀b o,h.get? b=some o->b∉ex->∃o',h'.get? b=some o'
 tups:∀b xs,H b=some (.tup xs)->H' b=some (.tup xs)
 frzs:∀b o u,H b=some (.frz o u)->H' b=some (.frz o u)
 tbls:∀b ps,H b=some (.tbl ps)->∃more,H' b=some (.tbl (ps++more))
section
variable{fs fs' ex ex':List aT}{H H1 H2:Hp}{h h1 h2 h':fA}{a x e:aT}{o:HO}
def Un.any(u:Un fs ex H H1 h h1){ob:Obj}(q:h.get? b=some ob)(n:H b=none)(hx:b∉ex):∃sl,h1.get? b=some { ob with slots:=sl }:=by
 by_cases hb:b∈fs
 ·exact u.slot b ob q n hb hx
 ·exact⟨ob.slots,u.keep b ob q n hb hx⟩
def Un.kept(k:∀b u,h.get? b=some u->h'.get? b=some u):Un fs ex H H h h' :=
 ⟨λb ob q _ _ _=>k b ob q,λb ob q _ _ _=>⟨ob.slots,k b ob q⟩,λ_ _ _ n _=>n,λb ob q _=>⟨ob,k b ob q⟩,λ_ _ q=>q,λ_ _ _ q=>q,λ_ ps q=>⟨#[],by rw[q];simp⟩⟩
def Un.refl:Un fs ex H H h h:=Un.kept λ_ _ q=>q
def Un.laid(k:∀b u,h.get? b=some u->h'.get? b=some u)(hp:h.objs.size<=a)(hn:H a=none):Un fs ex H (upd H a o) h h' where
 keep:=λb u q _ _ _=>k b u q
 slot:=λb u q _ _ _=>⟨u.slots,k b u q⟩
 free:=λb u q n _=>by rw[aC (cx (dA (b5 q) hp))];exact n
 there:=λb u q _=>⟨u,k b u q⟩
 tups:=λb xs q=>by rw[aC (aX q hn)];exact q
 frzs:=λb u xs q=>by rw[aC (aX q hn)];exact q
 tbls:=λb ps q=>⟨#[],by rw[aC (aX q hn),q];simp⟩
def Un.write(mu:Mut (H x))(he:e=x\/H e=some (.own x))(k:∀b u,b≠e->h.get? b=some u->h'.get? b=some u)(heo:∃u,h'.get? e=some u):Un fs ex H (upd H x o) h h':=by
 have O:∀b,H b=none->b≠x:=λb n z=>by subst z;rw[n] at mu;exact mu
 have U:∀b,H b=none->b≠e:=λb n z=>by
  subst z
  rcases he with r | r
  ·exact O b n r
  ·rw[n] at r;cases r
 have J:∀b u,H b=some u->¬Mut (some u)->b≠x:=λb u q Y z=>by subst z;rw[q] at mu;exact Y mu
 refine⟨λb u q n _ _=>k b u (U b n) q,λb u q n _ _=>⟨u.slots,k b u (U b n) q⟩,λb u q n _=>by rw[aC (O b n)];exact n,λb u q _=>?_,
  λb xs q=>by rw[aC (J b _ q λz=>z)];exact q,λb u xs q=>by rw[aC (J b _ q λz=>z)];exact q,λb ps q=>⟨#[],by rw[aC (J b _ q λz=>z),q];simp⟩⟩
 by_cases hbe:b=e
 ·subst hbe;exact heo
 ·exact⟨u,k b u hbe q⟩
end
def trk(h:fA)(H:Hp):List aT:=(bo h.objs.size).filter λa=>(H a).isSome
def Ac(h:fA)(H:Hp):fA:=W.hideAll h (trk h H)
def Oi(h:fA)(H:Hp):(Ac h H).objs.size=h.objs.size:=W.hideAll_size _ _
def Ru{o:Obj}(e:h.get? b=some o)(n:H b=none):(Ac h H).get? b=some o :=
 W.hideAll_get _ e λJ=>by
  have q:(H b).isSome=true:=(dn.mp J).2
  rw[n] at q;simp at q
def W6{o:Obj}(e:(Ac h H).get? b=some o):h.get? b=some o/\H b=none:=by
 have J:h.get? b=some o:=W.of_hideAll (trk h H) e
 refine⟨J,?_⟩
 cases q:H b with
 |none=>rfl
 |some x=>
  have O:b∈trk h H:=dn.mpr ⟨b6.mpr (b5 J),by simp[q]⟩
  have z:(Ac h H).get? b=none:=W.hideAll_none (trk h H) O
  rw[z] at e;cases e
structure Mod(K:ag)(mg:Str->Option af)(base:fA):Prop where
 kin:K.In base
 glob:base.Ns eK mg
 blt:∃mb,base.Ns CH mb/\∀x:Str,x ≠ "__name__"->mb x=iF x
 nolimit:base.NoLimit
structure Cx where
 prog:cw
 w:da
 K:ag
 mg:Str->Option af
 base:fA
 A:gu
 N:List Str
 s₀:aw
 H₀:Hp
 env:Env
 outer:List Env
 stack:List Env
 ex:List aT
 fn:Str->Bool
 calm:Bool
 pn:List (aT×Obj)
 xe:af->aw->Prop
def frs(l:List Env):List aT:=l.filterMap (·.frame)
abbrev Cx.fs(X:Cx):List aT:=frs X.outer
def Vis(sc:vT)(x:Str):Prop:=sc.names.lookup x=some .local\/sc.names.lookup x=some .cell\/sc.names.lookup x=some .free
def Loc(sc:vT)(x:Str):Prop:=sc.names.lookup x=some .local\/sc.names.lookup x=some .cell
def Look(env:Env)(h:fA)(m:Str->Option af)(x:Str)(u:af):Prop :=
 (env.kindOf x=some .local/\m x=some u)\/((env.kindOf x=some .cell\/env.kindOf x=some .free)/\∃c,env.cells.lookup x=some c/\h.IsCell c (some u))
structure Cx.Ok(X:Cx):Prop where
 mod:Mod X.K X.mg X.base
 kind:X.env.scope.kind=.function
 glob:X.env.globals=eK
 blt:X.env.builtins=CH
 above:X.s₀.heap.objs.size<=X.env.locals
 inj:∀x y c,X.env.cells.lookup x=some c->X.env.cells.lookup y=some c->x=y
 has:∀x,(X.env.kindOf x=some .cell\/X.env.kindOf x=some .free)->∃c,X.env.cells.lookup x=some c
 cab:∀x c,X.fn x=true->X.env.cells.lookup x=some c->X.s₀.heap.objs.size<=c
 hd:X.calm=true->X.A.handled=none
 frames:X.A.frames=some X.stack
 stk:X.stack=X.outer\/(X.stack=X.env::X.outer/\X.env.frame=some X.env.locals)
 exf:∀b∈X.ex,b≠X.env.locals/\∀x c,X.env.cells.lookup x=some c->c≠b
 bs:∀b o,X.base.get? b=some o->X.s₀.heap.get? b=some o/\X.H₀ b=none
 bsz:X.base.objs.size<=X.s₀.heap.objs.size
 noex:∀b o,X.base.get? b=some o->b∉X.ex
 exfs:∀b∈X.ex,b∉X.fs
 qI:X.s₀.heap.FunFrames X.base X.outer
 frf:∀b∈X.fs,X.H₀ b=none
structure Inv(X:Cx)(kL:List (aT×Obj))(σ:List (Option V))(H:Hp)(s:aw):Prop where
 ok:X.Ok
 os:s.os=X.s₀.os
 bare:A0 s.gens
 base:Un X.fs X.ex X.H₀ H X.s₀.heap s.heap
 loc:∃m,s.heap.Ns X.env.locals m/\∀(i:Nat) (x:Str) (v:V),X.N[i]?=some x->σ[i]?=some (some v)->Vis X.env.scope x->∃u,RelV v u/\Look X.env s.heap m x u
 cell:∀x c,X.env.cells.lookup x=some c->∃v,s.heap.IsCell c v
 free:H X.env.locals=none
 freeC:∀x c,X.env.cells.lookup x=some c->H c=none
 pin:∀p∈X.pn++kL,s.heap.get? p.1=some p.2/\H p.1=none/\p.1≠X.env.locals/\p.1∉X.fs/\∀v,p.2.data≠.cell v
 hok:oR X.prog X.w H s.heap
 len:σ.length=X.N.length
section
variable{X:Cx}{kL:List (aT×Obj)}{σ:List (Option V)}{H H':Hp}{s:aw}{h':fA}
def Cx.Ok.aeI(ok:X.Ok){o:Obj}(e:X.base.get? b=some o):b∉X.fs:=λJ=>by
 have:=(ok.qI.mem J).1
 rw[e] at this;cases this
def Inv.bs(I:Inv X kL σ H s):∀b o,X.base.get? b=some o->s.heap.get? b=some o/\H b=none:=λb o e=>
 ⟨I.base.keep b o (I.ok.bs b o e).1 (I.ok.bs b o e).2 (I.ok.aeI e) (I.ok.noex b o e),I.base.free b o (I.ok.bs b o e).1 (I.ok.bs b o e).2 (I.ok.noex b o e)⟩
def Inv.bk(I:Inv X kL σ H s):∀b o,X.base.get? b=some o->s.heap.get? b=some o:=λb o e=>(I.bs b o e).1
def Inv.mod(I:Inv X kL σ H s):Mod X.K X.mg X.base:=I.ok.mod
def Inv.qz(I:Inv X kL σ H s):X.K.In s.heap:=I.ok.mod.kin.keeps I.bk
def Inv.fr(I:Inv X kL σ H s):∃m,Fr X.base X.env.locals s.heap m :=
 let ⟨m,J,_⟩:=I.loc
 ⟨m,J,I.bk,ft I.ok.bsz I.ok.above⟩
def Inv.lt(I:Inv X kL σ H s):X.env.locals<s.heap.objs.size:=let ⟨_,J,_⟩:=I.loc;J.lt
def Inv.sz(I:Inv X kL σ H s):X.s₀.heap.objs.size<=s.heap.objs.size:=ft I.ok.above (kn I.lt)
def Inv.aeK(I:Inv X kL σ H s)(h:s.heap.objs.size<=a):a∉X.fs:=λJ=>by
 obtain⟨_,o,O,_⟩:=I.ok.qI.mem J
 exact absurd (dA (b5 O) (ft I.sz h)) (nE _)
def Inv.cne(I:Inv X kL σ H s):∀x c,X.env.cells.lookup x=some c->c≠X.env.locals:=λx c e z=>by
 obtain⟨v,o,U,hd⟩:=I.cell x c e
 obtain⟨m,⟨o',es,ep,J,O,_⟩,_⟩:=I.loc
 rw[z,J] at U;cases U;rw[O] at hd;cases hd
def Inv.qI(I:Inv X kL σ H s):s.heap.FunFrames X.base X.outer:=by
 have all:∀(l:List Env),(∀b∈frs l,b∈X.fs)->X.s₀.heap.FunFrames X.base l->s.heap.FunFrames X.base l:=by
  intro l
  induction l with
  |nil=>intro _ _;trivial
  |cons env r ih=>
   intro hs Y
   obtain⟨Z,⟨L,o,J,hn,ho,hd⟩,hr⟩:=Y
   have O:L∈X.fs:=hs L (by unfold frs;rw[lx,J];exact eA)
   obtain⟨sl,e⟩:=I.base.slot L o ho (I.ok.frf L O) O λz=>I.ok.exfs L z O
   exact⟨Z,⟨L,_,J,hn,e,hd⟩,ih (λb U=>hs b (by unfold frs;rw[lx,J];exact cK _ U)) hr⟩
 exact all X.outer (λ_ U=>U) I.ok.qI
def Inv.stack(I:Inv X kL σ H s):s.heap.FunFrames X.base X.stack:=by
 rcases I.ok.stk with e | ⟨e,J⟩
 ·rw[e];exact I.qI
 ·rw[e]
  obtain⟨m,O,_⟩:=I.loc
  refine .cons (by rw[I.ok.kind];decide) J O ?_ I.qI
  exact Heap.get?_none_of_le (ft I.ok.bsz I.ok.above)
def Inv.uC(I:Inv X kL σ H s):∀b∈frs X.stack,b∈X.env.locals::X.fs:=λb J=>by
 rcases I.ok.stk with e | ⟨e,O⟩
 ·rw[e] at J;exact cK _ J
 ·rw[e] at J
  unfold frs at J
  rw[lx,O] at J
  exact J
def Inv.Jz(I:Inv X kL σ H s):∀b∈frs X.stack,H b=none:=λb J=>by
 rcases br.mp (I.uC b J) with e | J
 ·rw[e];exact I.free
 ·obtain⟨_,o,O,_⟩:=I.ok.qI.mem J
  exact I.base.free b o O (I.ok.frf b J) λz=>I.ok.exfs b z J
def Inv.step{g':Array LV}{t':Nat}{d':Drawn}{ch:List aT}(I:Inv X kL σ H s)
  (hch:∀b∈ch,(b∈X.ex\/X.s₀.heap.objs.size<=b)/\b≠X.env.locals/\(∀x c,X.env.cells.lookup x=some c->c≠b)/\∀p∈X.pn++kL,p.1≠b)
  (keep:∀b o,b≠X.env.locals->b∉X.fs->b∉ch->s.heap.get? b=some o->H b=none->h'.get? b=some o)
  (slot:∀b o,b≠X.env.locals->b∈X.fs->b∉ch->s.heap.get? b=some o->H b=none->∃sl,h'.get? b=some { o with slots:=sl }) (free:∀b o,b∉ch->s.heap.get? b=some o->H b=none->H' b=none)
  (there:∀b o,b∉ch->s.heap.get? b=some o->∃o',h'.get? b=some o')
  (tups:∀b xs,H b=some (.tup xs)->H' b=some (.tup xs)) (frzs:∀b o u,H b=some (.frz o u)->H' b=some (.frz o u)) (tbls:∀b ps,H b=some (.tbl ps)->∃more,H' b=some (.tbl (ps++more)))
  (ns:∀m,s.heap.Ns X.env.locals m->h'.Ns X.env.locals m) (hok:oR X.prog X.w H' h') (hg:A0 g') :
  Inv X kL σ H' { s with heap:=h',gens:=g',drawn:=d',toks:=t' }:=by
 have ac:∀b o,X.s₀.heap.get? b=some o->b≠X.env.locals:=λb o e=>cx (dA (b5 e) I.ok.above)
 have Y:∀b o,X.s₀.heap.get? b=some o->b∉X.ex->b∉ch:=λb o e J hb=>by
  rcases (hch b hb).1 with z | z
  ·exact J z
  ·exact absurd (dA (b5 e) z) (nE _)
 have O:∀x c,X.env.cells.lookup x=some c->∀v,s.heap.IsCell c v->h'.IsCell c v:=λx c e v ⟨o,ho,hd⟩=>by
  have U:c∉ch:=λz=>(hch c z).2.2.1 x c e rfl
  by_cases hc:c∈X.fs
  ·obtain⟨sl,q⟩:=slot c o (I.cne x c e) hc U ho (I.freeC x c e)
   exact⟨_,q,hd⟩
  ·exact⟨o,keep c o (I.cne x c e) hc U ho (I.freeC x c e),hd⟩
 refine⟨I.ok,I.os,hg,⟨λb o e n hb J=>?_,λb o e n hb J=>?_,λb o e n J=>?_,λb o e J=>?_,λb xs e=>tups b xs (I.base.tups b xs e),λb o xs e=>frzs b o xs (I.base.frzs b o xs e),λb ps e=>?_⟩,?_,λx c e=>?_,?_,λx c e=>?_,λp hp=>?_,hok,I.len⟩
 ·exact keep b o (ac b o e) hb (Y b o e J) (I.base.keep b o e n hb J) (I.base.free b o e n J)
 ·obtain⟨sl,Z⟩:=I.base.slot b o e n hb J
  obtain⟨al,e2⟩:=slot b _ (ac b o e) hb (Y b o e J) Z (I.base.free b o e n J)
  exact⟨al,e2⟩
 ·obtain⟨o',Z⟩:=I.base.there b o e J
  exact free b o' (Y b o e J) Z (I.base.free b o e n J)
 ·obtain⟨o',Z⟩:=I.base.there b o e J
  exact there b o' (Y b o e J) Z
 ·obtain⟨m1,Z⟩:=I.base.tbls b ps e
  obtain⟨m2,e2⟩:=tbls b _ Z
  exact⟨m1++m2,by rw[e2,Array.append_assoc]⟩
 ·obtain⟨m,hn,hl⟩:=I.loc
  refine⟨m,ns m hn,λi x v Z e2 e3=>?_⟩
  obtain⟨u,r,l⟩:=hl i x v Z e2 e3
  refine⟨u,r,?_⟩
  rcases l with l | ⟨k,c,e,z⟩
  ·exact .inl l
  ·exact .inr ⟨k,c,e,O x c e _ z⟩
 ·obtain⟨v,z⟩:=I.cell x c e
  exact⟨v,O x c e v z⟩
 ·obtain⟨m,⟨o,_,_,ho,_⟩,_⟩:=I.loc
  exact free _ o (λz=>(hch _ z).2.1 rfl) ho I.free
 ·obtain⟨v,o,ho,hd⟩:=I.cell x c e
  exact free c o (λz=>(hch c z).2.2.1 x c e rfl) ho (I.freeC x c e)
 ·obtain⟨e,n,ne,nf,d⟩:=I.pin p hp
  have U:p.1∉ch:=λz=>(hch p.1 z).2.2.2 p hp rfl
  exact⟨keep p.1 p.2 ne nf U e n,free p.1 p.2 U e n,ne,nf,d⟩
def Inv.un{t':Nat}(I:Inv X kL σ H s)(u:Un X.fs [] H H' s.heap h')(hok:oR X.prog X.w H' h'):Inv X kL σ H' { s with heap:=h',toks:=t' }:=by
 obtain⟨m,⟨o,es,ep,Z,r⟩,_⟩:=id I.loc
 obtain⟨sl,hL⟩:=u.any Z I.free (by simp)
 exact I.step (g':=s.gens) (d':=s.drawn) (ch:=[]) (λ_ z=>nomatch z) (λb o _ O _ e n=>u.keep b o e n O (by simp)) (λb o _ O _ e n=>u.slot b o e n O (by simp)) (λb o _ e n=>u.free b o e n (by simp)) (λb o _ e=>u.there b o e (by simp)) u.tups u.frzs u.tbls (λm' hm=>by
  obtain⟨o',U,Y,J,r'⟩:=hm
  rw[Z] at J;cases J
  exact⟨_,U,Y,hL,r'⟩) hok I.bare
def Inv.call{g':Array LV}{t':Nat}{d':Drawn}{ch:List aT}(I:Inv X kL σ H s)(u:Un (frs X.stack) ch H H' s.heap h')(hok:oR X.prog X.w H' h')(hg:A0 g')
  (hch:∀b∈ch,(b∈X.ex\/X.s₀.heap.objs.size<=b)/\b≠X.env.locals/\(∀x c,X.env.cells.lookup x=some c->c≠b)/\∀p∈X.pn++kL,p.1≠b) :
  Inv X kL σ H' { s with heap:=h',gens:=g',drawn:=d',toks:=t' }:=by
 obtain⟨m,⟨o,es,ep,ho,r⟩,_⟩:=id I.loc
 obtain⟨sl,U⟩:=u.any ho I.free λz=>(hch _ z).2.1 rfl
 exact I.step (ch:=ch) hch (λb o U hb J e n=>u.keep b o e n (λz=>(br.mp (I.uC b z)).elim U hb) J) (λb o _ _ J e n=>u.any e n J) (λb o J e n=>u.free b o e n J) (λb o J e=>u.there b o e J) u.tups u.frzs u.tbls (λm' hm=>by
  obtain⟨o',Y,Z,O,r'⟩:=hm
  rw[ho] at O;cases O
  exact⟨_,Y,Z,U,r'⟩) hok hg
def Inv.turned{t':Nat}{it:aT}(I:Inv X kL σ H s)(k:∀b o,b≠it->s.heap.get? b=some o->h'.get? b=some o)(hn:H it=none)(hL:it≠X.env.locals)
  (h1:it∈X.ex\/X.s₀.heap.objs.size<=it) (h2:∀x c,X.env.cells.lookup x=some c->c≠it) (h3:∀p∈X.pn++kL,p.1≠it):Inv X kL σ H { s with heap:=h',toks:=t' }:=by
 have O:∀b u,H b=some u->b≠it:=λb u e z=>by rw[z,hn] at e;cases e
 refine I.step (g':=s.gens) (d':=s.drawn) (ch:=[it]) (λb U=>?_) (λb o _ _ J e _=>k b o (λz=>J (by simp[z])) e) (λb o _ _ J e _=>⟨o.slots,k b o (λz=>J (by simp[z])) e⟩) (λ_ _ _ _ n=>n)
  (λb o J e=>⟨o,k b o (λz=>J (by simp[z])) e⟩) (λ_ _ e=>e) (λ_ _ _ e=>e) (λb ps e=>⟨#[],by rw[e];simp⟩) (λm Y=>?_) (λb u e=>?_) I.bare
 ·have e:b=it:=by simpa using U
  subst e
  exact⟨h1,hL,h2,h3⟩
 ·obtain⟨o,es,ep,Z,r⟩:=Y
  exact⟨o,es,ep,k _ o (mI hL) Z,r⟩
 ·refine (I.hok b u e).stay (λc v J q=>k c v ?_ q) (λ_ q=>q) λ_ _ q=>q
  rcases J with z | z
  ·rw[z];exact O b u e
  ·exact O c _ z
def Inv.tok(I:Inv X kL σ H s)(t:Nat):Inv X kL σ H { s with toks:=t }:=I.un (h':=s.heap) (t':=t) Un.refl I.hok
def Inv.kept{t':Nat}(I:Inv X kL σ H s)(k:∀b u,s.heap.get? b=some u->h'.get? b=some u):Inv X kL σ H { s with heap:=h',toks:=t' }:=I.un (Un.kept k) (I.hok.kept k)
def Inv.laid{t':Nat}(I:Inv X kL σ H s)(k:∀b u,s.heap.get? b=some u->h'.get? b=some u)(hp:s.heap.objs.size<=a)(new:bO X.prog X.w (upd H a o) h' a o) :
  Inv X kL σ (upd H a o) { s with heap:=h',toks:=t' }:=I.un (Un.laid k hp (I.hok.fresh hp)) (I.hok.laid k hp new)
def Inv.write{x e:aT}{t':Nat}(I:Inv X kL σ H s)(mu:Mut (H x))(he:e=x\/H e=some (.own x))(k:∀b u,b≠e->s.heap.get? b=some u->h'.get? b=some u)(heo:∃u,h'.get? e=some u)
  (new:bO X.prog X.w (upd H x o) h' x o):Inv X kL σ (upd H x o) { s with heap:=h',toks:=t' }:=I.un (Un.write mu he k heo) (I.hok.write mu he k heo new)
def Inv.weak{σ':List (Option V)}(I:Inv X kL σ H s)(hl:σ'.length=σ.length)(w:∀(i:Nat) v,σ'[i]?=some (some v)->σ[i]?=some (some v)):Inv X kL σ' H s :=
 ⟨I.ok,I.os,I.bare,I.base,let ⟨m,O,J⟩:=I.loc;⟨m,O,λi x v U Y Z=>J i x v U (w i v Y) Z⟩,I.cell,I.free,I.freeC,I.pin,I.hok,hl.trans I.len⟩
def Inv.ud{pins':List (aT×Obj)}(I:Inv X kL σ H s)(h:∀p∈pins',s.heap.get? p.1=some p.2/\H p.1=none/\p.1≠X.env.locals/\p.1∉X.fs/\∀v,p.2.data≠.cell v):Inv X pins' σ H s :=
 ⟨I.ok,I.os,I.bare,I.base,I.loc,I.cell,I.free,I.freeC,λp J=>(ib.mp J).elim (λz=>I.pin p (xS _ z)) (h p),I.hok,I.len⟩
def CG{N:List Str}(hN:N.Nodup){i j:Nat}{x:Str}(a:N[i]?=some x)(b:N[j]?=some x):i=j:=by
 obtain⟨h1,J⟩:=cE.mp a
 obtain⟨h2,O⟩:=cE.mp b
 exact (xl hN).mp (J.trans O.symm)
def xZ{M:OM}{A:gu}{E:af->aw->Prop}{i:Nat}{x:Str}{v:V}{u:af}{Q:Unit->aw->Prop}(I:Inv X kL σ H s)(hN:X.N.Nodup)(hi:X.N[i]?=some x)(hx:Loc X.env.scope x)(r:RelV v u)
  (h:∀s',Inv X kL (σ.set i (some v)) H s'->(∃a,kH a s.heap s'.heap/\(a=X.env.locals\/X.env.cells.lookup x=some a))->Q () s') (hf:X.fn x=true\/X.env.scope.names.lookup x=some .local:=by first | exact .inl rfl | exact .inr rfl | assumption):a9 M A (Nw X.env x u) Q E s:=by
 obtain⟨m,hn,hl⟩:=id I.loc
 have am:(X.env.scope.kind == .class||(X.env.scope.kind == .module&&X.env.locals != X.env.globals))=false:=by rw[I.ok.kind];rfl
 have ap:i<σ.length:=by rw[I.len];exact (cE.mp hi).1
 have ac:=I.cne
 have J:∀ {a:aT} {h':fA},(∃o,s.heap.get? a=some o/\H a=none)->kH a s.heap h'->oR X.prog X.w H h':=λ{a h'} ha hs b ob e=>by
  obtain⟨_,_,Y⟩:=ha
  refine (I.hok b ob e).stay (λc w' U q=>(hs.2 c ?_).trans q) (λ_ q=>q) λ_ _ q=>q
  rintro rfl
  rcases U with rfl | U
  ·rw[Y] at e;cases e
  ·rw[Y] at U;cases U
 rcases hx with hk | hk
 ·refine wpAny_storeName_local hk hn (λh' a3 hs=>?_) am
  obtain⟨oL,_,_,a4,_⟩:=id hn
  refine h _ ⟨I.ok,I.os,I.bare,⟨λb o e n hb hx=>?_,λb o e n hb hx=>?_,I.base.free,λb o e hx=>?_,I.base.tups,I.base.frzs,I.base.tbls⟩,⟨_,a3,λj y v' O Z e3=>?_⟩,λy c e=>?_,I.free,I.freeC,λp hp=>?_,J ⟨oL,a4,I.free⟩ hs,by simpa using I.len⟩ ⟨_,hs,.inl rfl⟩
  ·exact (hs.2 b (cx (dA (b5 e) I.ok.above))).trans (I.base.keep b o e n hb hx)
  ·obtain⟨sl,O⟩:=I.base.slot b o e n hb hx
   exact⟨sl,(hs.2 b (cx (dA (b5 e) I.ok.above))).trans O⟩
  ·obtain⟨o',O⟩:=I.base.there b o e hx
   exact⟨o',(hs.2 b (cx (dA (b5 e) I.ok.above))).trans O⟩
  ·by_cases hj:j=i
   ·subst hj
    rw[hi] at O;cases O
    rw[ro ap] at Z
    cases Z
    exact⟨u,r,.inl ⟨hk,by simp⟩⟩
   ·rw[kN (mI hj)] at Z
    obtain⟨u',r',q⟩:=hl j y v' O Z e3
    refine⟨u',r',?_⟩
    rcases q with ⟨k,e⟩ | ⟨k,c,e,z⟩
    ·refine .inl ⟨k,?_⟩
     have:y≠x:=λe=>hj (CG hN O (e▸hi))
     simp[this,e]
    ·exact .inr ⟨k,c,e,z.sameBut hs (ac y c e)⟩
  ·obtain⟨w',z⟩:=I.cell y c e
   exact⟨w',z.sameBut hs (ac y c e)⟩
  ·obtain⟨e,n,ne,nf,d⟩:=I.pin p hp
   exact⟨(hs.2 p.1 ne).trans e,n,ne,nf,d⟩
 ·have al:X.fn x=true:=by
   rcases hf with z | z
   ·exact z
   ·rw[z] at hk;cases hk
  obtain⟨c,U⟩:=I.ok.has x (.inl hk)
  obtain⟨w',z⟩:=I.cell x c U
  refine wpAny_storeName_cell I.ok.kind hk U z (λh' a0 hs=>?_)
  obtain⟨oc,a1,a2⟩:=id z
  refine h { s with heap:=h' } ⟨I.ok,I.os,I.bare,⟨λb o e n hb hx=>?_,λb o e n hb hx=>?_,I.base.free,λb o e hx=>?_,I.base.tups,I.base.frzs,I.base.tbls⟩,⟨m,hn.sameBut hs (mI (ac x c U)),λj y v' O Z e3=>?_⟩,λy c' e=>?_,I.free,I.freeC,λp hp=>?_,J ⟨oc,a1,I.freeC x c U⟩ hs,by simpa using I.len⟩ ⟨c,hs,.inr U⟩
  ·exact (hs.2 b (cx (dA (b5 e) (I.ok.cab x c al U)))).trans (I.base.keep b o e n hb hx)
  ·obtain⟨sl,O⟩:=I.base.slot b o e n hb hx
   exact⟨sl,(hs.2 b (cx (dA (b5 e) (I.ok.cab x c al U)))).trans O⟩
  ·obtain⟨o',O⟩:=I.base.there b o e hx
   exact⟨o',(hs.2 b (cx (dA (b5 e) (I.ok.cab x c al U)))).trans O⟩
  ·by_cases hj:j=i
   ·subst hj
    rw[hi] at O;cases O
    rw[ro ap] at Z
    cases Z
    exact⟨u,r,.inr ⟨.inl hk,c,U,a0⟩⟩
   ·rw[kN (mI hj)] at Z
    obtain⟨u',r',q⟩:=hl j y v' O Z e3
    refine⟨u',r',?_⟩
    rcases q with q | ⟨k,c',e,z'⟩
    ·exact .inl q
    ·refine .inr ⟨k,c',e,z'.sameBut hs ?_⟩
     rintro rfl
     exact hj (CG hN O (I.ok.inj _ _ _ e U▸hi))
  ·by_cases hcc:c'=c
   ·subst hcc;exact⟨_,a0⟩
   ·obtain⟨w2,z2⟩:=I.cell y c' e
    exact⟨w2,z2.sameBut hs hcc⟩
  ·obtain⟨e,n,ne,nf,d⟩:=I.pin p hp
   refine⟨(hs.2 p.1 ?_).trans e,n,ne,nf,d⟩
   intro q
   rw[q,a1] at e
   have q':oc=p.2:=Option.some.inj e
   exact d w' (by rw[←q'];exact a2)
def vp{M:OM}{A:gu}{E:af->aw->Prop}{i:Nat}{x:Str}{v:V}{u:af}{Q:Unit->aw->Prop}(I:Inv X kL σ H s)(hN:X.N.Nodup)(hi:X.N[i]?=some x)(hx:Loc X.env.scope x)(r:RelV v u)
  (h:∀s',Inv X kL (σ.set i (some v)) H s'->Q () s') (hf:X.fn x=true\/X.env.scope.names.lookup x=some .local:=by first | exact .inl rfl | exact .inr rfl | assumption):a9 M A (Nw X.env x u) Q E s :=
 xZ I hN hi hx r (λs' J _=>h s' J) hf
def Inv.call'{s':aw}{ch:List aT}(I:Inv X kL σ H s)(ho:s'.os=s.os)(u:Un (frs X.stack) ch H H' s.heap s'.heap)(hok:oR X.prog X.w H' s'.heap)(hg:A0 s'.gens)
  (hch:∀b∈ch,(b∈X.ex\/X.s₀.heap.objs.size<=b)/\b≠X.env.locals/\(∀x c,X.env.cells.lookup x=some c->c≠b)/\∀p∈X.pn++kL,p.1≠b):Inv X kL σ H' s':=by
 obtain⟨h',g',d',t',o'⟩:=s'
 have e:o'=s.os:=ho
 subst e
 exact I.call (g':=g') (t':=t') (d':=d') u hok hg hch
end
variable{i:Nat}{x:Str}{A:gu}{E:af->aw->Prop}{u:af}
abbrev XK:=af->Option aT->Hp->Prop
abbrev St:=List (Option V)
abbrev VK:=V->Hp->Prop
abbrev TE:=St->Hp->VK->Prop
abbrev TT:=St->Hp->(Bool->Hp->Prop)->Prop
abbrev TA:=St->Hp->(List V->Hp->Prop)->Prop
structure Ends where
 nx:St->Hp->Prop
 rt:VK
 bk:St->Hp->Prop:=λ_ _=>False
 ct:St->Hp->Prop:=λ_ _=>False
abbrev TS:=Ends->St->Hp->Prop
def EP(X:Cx)(kL:List (aT×Obj))(σ:St)(Q:VK)(u:af)(s':aw):Prop:=∃v H',Inv X kL σ H' s'/\RelV v u/\Q v H'
def TP(X:Cx)(kL:List (aT×Obj))(σ:St)(Q:Bool->Hp->Prop)(b:Bool)(s':aw):Prop:=∃H',Inv X kL σ H' s'/\Q b H'
def AP(X:Cx)(kL:List (aT×Obj))(σ:St)(Q:List V->Hp->Prop)(us:List af)(s':aw):Prop:=∃vs H',Inv X kL σ H' s'/\Vals vs us/\Q vs H'
def SP(X:Cx)(kL:List (aT×Obj))(D:Ends)(f:Flow)(s':aw):Prop :=
 match f with
 |.next=>∃σ' H',Inv X kL σ' H' s'/\D.nx σ' H'
 |.brk=>∃σ' H',Inv X kL σ' H' s'/\D.bk σ' H'
 |.cont=>∃σ' H',Inv X kL σ' H' s'/\D.ct σ' H'
 |.ret u=>∃v σ' H',Inv X kL σ' H' s'/\RelV v u/\D.rt v H'
def PE(X:Cx)(e:eT)(t:TE):Prop :=
 ∀(kL:List (aT×Obj)) (s:aw) (σ:St) (H:Hp) (Q:VK),Inv X kL σ H s->t σ H Q->a9 (cy X.prog X.w) X.A (gN e X.env) (EP X kL σ Q) X.xe s
def PT(X:Cx)(e:eT)(t:TT):Prop :=
 ∀(kL:List (aT×Obj)) (s:aw) (σ:St) (H:Hp) (Q:Bool->Hp->Prop),Inv X kL σ H s->t σ H Q->a9 (cy X.prog X.w) X.A (LY e X.env (gN e X.env)) (TP X kL σ Q) X.xe s
def PW(X:Cx)(e:eT)(t:TT):Prop :=
 ∀(whole:Sem af) (kL:List (aT×Obj)) (s:aw) (σ:St) (H:Hp) (Q:Bool->Hp->Prop),Inv X kL σ H s->t σ H Q->a9 (cy X.prog X.w) X.A (LY e X.env whole) (TP X kL σ Q) X.xe s
variable{X:Cx}{e:eT}
def PW.pt{t:TT}(h:PW X e t):PT X e t:=h _
def PA(X:Cx)(es:List eT)(t:TA):Prop :=
 ∀(pos:Pos) (kL:List (aT×Obj)) (s:aw) (σ:St) (H:Hp) (Q:List V->Hp->Prop),Inv X kL σ H s->t σ H Q->a9 (cy X.prog X.w) X.A (NJ (mN pos (bS es X.env))) (AP X kL σ Q) X.xe s
def PS(X:Cx)(st:rj)(t:TS):Prop :=
 ∀(kL:List (aT×Obj)) (s:aw) (σ:St) (H:Hp) (D:Ends),Inv X kL σ H s->t D σ H->a9 (cy X.prog X.w) X.A (exec st X.env) (SP X kL D) X.xe s
def Fz(X:Cx)(st:List rj)(t:TS):Prop :=
 ∀(kL:List (aT×Obj)) (s:aw) (σ:St) (H:Hp) (D:Ends),Inv X kL σ H s->t D σ H->a9 (cy X.prog X.w) X.A (execs st X.env) (SP X kL D) X.xe s
variable{s:aw}
def cC{α:Type}{t:Sem α}{Q Q':α->aw->Prop}{M:OM}(h:a9 M A t Q E s)(hQ:∀a s,Q a s->Q' a s):a9 M A t Q' E s:=kU h hQ λ_ _ x=>x
section
variable{X:Cx}
def acj(i:Nat):TE:=λσ H Q=>∃v,σ[i]?=some (some v)/\Q v H
def tC(v:V):TE:=λ_ H Q=>Q v H
def aab{pos:Pos}(hN:X.N[i]?=some x)(hv:Vis X.env.scope x)(hd:(x==("__debug__" : Str))=false:=by decide)(hcd:(x==("__classdict__" : Str))=false:=by decide):PE X (.Name x pos) (acj i):=by
 intro kL s σ H Q I h
 obtain⟨v,e,h⟩:=h
 obtain⟨m,Z,hl⟩:=I.loc
 obtain⟨u,r,l⟩:=hl i x v hN e hv
 have O:EP X kL σ Q u s:=⟨v,H,I,r,h⟩
 rcases l with ⟨U,hm⟩ | ⟨U,c,Y,J⟩
 ·exact LZ (D6 I.ok.kind U Z hm O) hd
 ·rcases U with U | U
  ·exact LZ (ET I.ok.kind U Y J O) hd
  ·exact LZ (wpAny_loadName_free I.ok.kind U Y J O hcd) hd
def abz{i j pos}:PE X (.Constant (.int i) j pos) (tC (.int i)):=λ_ _ _ H _ I h=>wpAny_Constant_int ⟨.int i,H,I.tok _,⟨_,rfl⟩,h⟩
def ab3{b j pos}:PE X (.Constant (.bool b) j pos) (tC (.bl b)):=λ_ _ _ H _ I h=>Constant_bool ⟨.bl b,H,I,rfl,h⟩
def aaQ{j pos}:PE X (.Constant .none j pos) (tC .non):=λ_ _ _ H _ I h=>Constant_none ⟨.non,H,I,rfl,h⟩
def aaZ{x j pos}:PE X (.Constant (.str x) j pos) (tC (.str x)):=λ_ _ _ H _ I h=>Calls.Constant_str ⟨.str x,H,I.tok _,⟨_,rfl⟩,h⟩
def Gl(X:Cx)(x:Str):Prop:=X.env.kindOf x=some .globalImplicit
def zU{kL:List (aT×Obj)}{σ:St}{pos:Pos}{Q:af->aw->Prop}(I:Inv X kL σ H s)(hg:Gl X x)(hm:X.mg x=some u)(h:Q u s)
  (hd:(x==("__debug__" : Str))=false:=by decide):a9 (cy X.prog X.w) X.A (gN (.Name x pos) X.env) Q E s :=
 zt I.ok.kind hg (Calls.loadGlobal_global (by rw[I.ok.glob];exact I.mod.glob.keeps I.bk) hm h) hd
def eX{kL:List (aT×Obj)}{σ:St}{pos:Pos}{Q:af->aw->Prop}(I:Inv X kL σ H s)(hg:Gl X x)(hm:X.mg x=none)(hv:iF x=some u)(h:Q u s)
  (hn:x ≠ "__name__":=by decide) (hd:(x==("__debug__" : Str))=false:=by decide):a9 (cy X.prog X.w) X.A (gN (.Name x pos) X.env) Q E s:=by
 obtain⟨J,h1,h2⟩:=I.mod.blt
 exact zt I.ok.kind hg (Calls.loadGlobal_builtin (by rw[I.ok.glob];exact I.mod.glob.keeps I.bk) hm (by rw[I.ok.blt];exact h1.keeps I.bk) ((h2 x hn).trans hv) h) hd
def Xn{v:V}{pos:Pos}(hg:Gl X x)(hm:X.mg x=none)(hv:iF x=some u)(r:RelV v u)(hn:x ≠ "__name__":=by decide)(hd:(x==("__debug__" : Str))=false:=by decide):PE X (.Name x pos) (tC v) :=
 λ_ _ _ H _ I h=>eX I hg hm hv ⟨v,H,I,r,h⟩ hn hd
variable{a b:eT}{ta tb:TE}{pos:Pos}
def tB(t:TE):TT:=λσ H Q=>t σ H λx H1=>∃c,x=.bl c/\Q c H1
def ZD{t:TE}(h:PE X e t)(he:∀whole,LY e X.env whole=(do let v ←whole;NL e.pos;EO [v] (truthy v)):=by intro _;rfl):PT X e (tB t):=by
 intro kL s σ H Q I J
 refine isTrue_plain (cC (h kL s σ H _ I J) λv s1 O=>?_) (he _)
 obtain⟨x,H1,U,Y,Z⟩:=O
 obtain⟨d,rfl,q⟩:=Z
 cases Y
 exact sD ⟨H1,U,q⟩
variable{tA tB':TT}{rest:List eT}
def aeA(t u:TT):TT:=λσ H Q=>t σ H λc H1=>if c=true then u σ H1 Q else Q false H1
def tOr(t u:TT):TT:=λσ H Q=>t σ H λc H1=>if c=true then Q true H1 else u σ H1 Q
def afM(t:TT):TT:=λσ H Q=>t σ H λc H1=>Q (!c) H1
def V0(ha:PT X a tA):PW X (.BoolOp .And [a] pos) tA:=by
 intro J kL s σ H Q I h
 refine isTrue_and (cC (ha kL s σ H Q I h) λc O e=>?_)
 cases c with
 |true=>exact isTrue_and_nil e
 |false=>exact e
def aaD(ha:PT X a tA):PW X (.BoolOp .Or [a] pos) tA:=by
 intro J kL s σ H Q I h
 refine isTrue_or (cC (ha kL s σ H Q I h) λc O e=>?_)
 cases c with
 |false=>exact isTrue_or_nil e
 |true=>exact e
def aad(ha:PT X a tA)(hb:PW X (.BoolOp .And (b::rest) pos) tB'):PW X (.BoolOp .And (a::b::rest) pos) (aeA tA tB'):=by
 intro U kL s σ H Q I h
 refine isTrue_and (cC (ha kL s σ H _ I h) λc Y Z=>?_)
 obtain⟨H1,J,O⟩:=Z
 cases c with
 |true=>exact hb U kL Y σ H1 Q J O
 |false=>exact⟨H1,J,O⟩
def ac5(ha:PT X a tA)(hb:PW X (.BoolOp .Or (b::rest) pos) tB'):PW X (.BoolOp .Or (a::b::rest) pos) (tOr tA tB'):=by
 intro U kL s σ H Q I h
 refine isTrue_or (cC (ha kL s σ H _ I h) λc Y Z=>?_)
 obtain⟨H1,J,O⟩:=Z
 cases c with
 |true=>exact⟨H1,J,O⟩
 |false=>exact hb U kL Y σ H1 Q J O
def abk(ha:PT X a tA):PT X (.UnaryOp .Not a pos) (afM tA):=by
 intro kL s σ H Q I h
 exact isTrue_not (ha kL s σ H (λc H1=>Q (!c) H1) I h)
def abZ(ta tb:TE):TE:=λσ H Q=>ta σ H λx H1=>∃c,x=.bl c/\if c=true then tb σ H1 Q else Q (.bl false) H1
def ad1(ta:TE):TE:=λσ H Q=>ta σ H λx H1=>∃c,x=.bl c/\Q (.bl (!c)) H1
def Zf(ha:PE X a ta)(hb:PE X (.BoolOp .And (b::rest) pos) tb):PE X (.BoolOp .And (a::b::rest) pos) (abZ ta tb):=by
 intro kL s σ H Q I h
 refine BoolOp_and (cC (ha kL s σ H _ I h) λv U Y=>?_)
 obtain⟨x,H1,O,Z,J⟩:=Y
 obtain⟨c,rfl,J⟩:=J
 cases Z
 refine sD ?_
 cases c with
 |true=>exact hb kL U σ H1 Q O J
 |false=>exact⟨.bl false,H1,O,rfl,J⟩
def aa8(ha:PE X a ta):PE X (.UnaryOp .Not a pos) (ad1 ta):=by
 intro kL s σ H Q I h
 refine UnaryOp_ (cC (ha kL s σ H _ I h) λv Z O=>?_)
 obtain⟨x,H1,U,Y,J⟩:=O
 obtain⟨c,rfl,J⟩:=J
 cases Y
 exact not_of (sD ⟨.bl (!c),H1,U,rfl,J⟩)
end
variable{Q:af->aw->Prop}{kL:List (aT×Obj)}{σ:St}
def cV(K:ag)(H:Hp)(a:aT)(xs:List V):Prop :=
 Rd H a (.lst xs) \/
  ∃(o:Obj) (its:Array af) (n:Nat),K.lookup a=some o/\o.cls=.type "list"/\o.dict=none/\o.data=.seq its n/\its.size<=cf/\Vals xs its.toList
def jC(K:ag)(H:Hp)(a:aT)(xs:List V):Prop :=
 Rd H a (.tup xs) \/
  ∃(o:Obj) (its:Array af) (n:Nat),K.lookup a=some o/\o.cls=.type "tuple"/\o.data=.seq its n/\its.size<=cf/\Vals xs its.toList
def aeM:af->Option V
 |.none=>some .non
 |.bool b=>some (.bl b)
 |.int i _=>some (.int i)
 |.str x _=>some (.str x)
 |.bytes b _=>some (.byt b)
 |.float b _=>some (.flt b)
 |.ref a=>some (.ref a)
 |.type n=>some (.ty n)
 |_=>none
def RelV.abs{x:V}(r:RelV x u):aeM u=some x:=by
 cases x with
 |non=>cases r;rfl
 |bl _=>cases r;rfl
 |int _=>obtain⟨t,rfl⟩:=r;rfl
 |str _=>obtain⟨t,rfl⟩:=r;rfl
 |byt _=>obtain⟨t,rfl⟩:=r;rfl
 |flt _=>obtain⟨t,rfl⟩:=r;rfl
 |ref _=>cases r;rfl
 |ty _=>cases r;rfl
def RelV.inj{x y:V}(r:RelV x u)(q:RelV y u):x=y:=Option.some.inj (r.abs.symm.trans q.abs)
theorem Vals.inj:∀ {xs ys:List V} {us:List af},Vals xs us->Vals ys us->xs=ys
 |_,_,_,.nil,.nil=>rfl
 |_,_,_,.cons r t,.cons r' t'=>by rw[r.inj r',Vals.inj t t']
section
variable{X:Cx}{kL:List (aT×Obj)}{σ:St}{H:Hp}{s:aw}{a:aT}{xs ys:List V}
def cV.of{K:ag}(h:H a=some (.lst xs)):cV K H a xs:=.inl (.inl h)
def jC.of{K:ag}(h:H a=some (.tup xs)):jC K H a xs:=.inl (.inl h)
def Inv.list(I:Inv X kL σ H s)(h:cV X.K H a xs):∃its:List af,Vals xs its/\PlainL s.heap a its.toArray/\xs.length<=cf:=by
 rcases h with h | ⟨o,its,n,J,O,hd,hs,U,r⟩
 ·obtain⟨z,its,n,r,e⟩:=h.ok I.hok
  exact⟨its,r,⟨_,n,e,rfl,rfl,rfl⟩,z⟩
 ·refine⟨its.toList,r,⟨o,n,I.qz a o J,O,hd,by simpa using hs⟩,?_⟩
  have e:=r.length
  simp only[cS] at e
  omega
def Inv.tuple(I:Inv X kL σ H s)(h:jC X.K H a xs):∃its:List af,Vals xs its/\PM s.heap a its.toArray/\xs.length<=cf:=by
 rcases h with h | ⟨o,its,n,J,O,hs,U,r⟩
 ·obtain⟨z,its,r,p⟩:=h.ok I.hok
  exact⟨its,r,p.tup,z⟩
 ·refine⟨its.toList,r,⟨o,I.qz a o J,O,n,by simpa using hs⟩,?_⟩
  have e:=r.length
  simp only[cS] at e
  omega
def Inv.pG(I:Inv X kL σ H s)(h:cV X.K H a xs)(h':cV X.K H a ys):xs=ys:=by
 obtain⟨its,r,⟨o,n,e,_,_,d⟩,_⟩:=I.list h
 obtain⟨its',O,⟨o',U,J,_,_,d'⟩,_⟩:=I.list h'
 rw[e] at J;cases J
 rw[d] at d'
 injection d' with d1 _
 have:its=its':=by simpa using congrArg NM d1
 subst this
 exact r.inj O
def Inv.LK(I:Inv X kL σ H s)(h:jC X.K H a xs)(h':jC X.K H a ys):xs=ys:=by
 obtain⟨its,r,⟨o,e,_,n,d⟩,_⟩:=I.tuple h
 obtain⟨its',O,⟨o',J,_,U,d'⟩,_⟩:=I.tuple h'
 rw[e] at J;cases J
 rw[d] at d'
 injection d' with d1 _
 have:its=its':=by simpa using congrArg NM d1
 subst this
 exact r.inj O
end
variable{K:ag}
abbrev Cx.wish(X:Cx)(E:af->aw->Prop):Cx:={ X with xe:=E }
abbrev Cx.nox(X:Cx):Cx:=X.wish λ_ _=>False
def Cx.Ok.wish(ok:X.Ok)(E:af->aw->Prop):(X.wish E).Ok :=
 ⟨ok.mod,ok.kind,ok.glob,ok.blt,ok.above,ok.inj,ok.has,ok.cab,ok.hd,ok.frames,ok.stk,ok.exf,ok.bs,ok.bsz,ok.noex,ok.exfs,ok.qI,ok.frf⟩
def Cx.Ok.kZ(ok:(X.wish E).Ok):X.Ok :=
 ⟨ok.mod,ok.kind,ok.glob,ok.blt,ok.above,ok.inj,ok.has,ok.cab,ok.hd,ok.frames,ok.stk,ok.exf,ok.bs,ok.bsz,ok.noex,ok.exfs,ok.qI,ok.frf⟩
section
variable{X:Cx}{kL:List (aT×Obj)}{σ:St}{H:Hp}{s:aw}{E:af->aw->Prop}
def Inv.wish(I:Inv X kL σ H s)(E:af->aw->Prop):Inv (X.wish E) kL σ H s:=⟨I.ok.wish E,I.os,I.bare,I.base,I.loc,I.cell,I.free,I.freeC,I.pin,I.hok,I.len⟩
def Inv.kZ(I:Inv (X.wish E) kL σ H s):Inv X kL σ H s:=⟨I.ok.kZ,I.os,I.bare,I.base,I.loc,I.cell,I.free,I.freeC,I.pin,I.hok,I.len⟩
def SP.kZ{D:Ends}{f:Flow}{s':aw}(h:SP (X.wish E) kL D f s'):SP X kL D f s':=by
 cases f with
 |next=>obtain⟨J,H',I,q⟩:=h;exact⟨J,H',I.kZ,q⟩
 |brk=>obtain⟨J,H',I,q⟩:=h;exact⟨J,H',I.kZ,q⟩
 |cont=>obtain⟨J,H',I,q⟩:=h;exact⟨J,H',I.kZ,q⟩
 |ret u=>obtain⟨v,J,H',I,r,q⟩:=h;exact⟨v,J,H',I.kZ,r,q⟩
def Fz.nox{st:List rj}{t:TS}(h:Fz X.nox st t):Fz X st t:=λkL s σ H D I J=>
 kU (h kL s σ H D (I.wish _) J) (λ_ _ q=>q.kZ) λ_ _ z=>mP z
end
section
variable{X:Cx}{st:rj}{rest:List rj}{t u:TS}{e:eT}{te:TE}{pos:Pos}
def acu:TS:=λD σ H=>D.nx σ H
def afh(t u:TS):TS:=λD σ H=>t { D with nx:=u D } σ H
def V9:Fz X [] acu:=λ_ _ σ H _ I h=>ya ⟨σ,H,I,h⟩
def R5(h1:PS X st t)(h2:Fz X rest u):Fz X (st::rest) (afh t u):=by
 intro kL s σ H D I h
 refine IM (cC (h1 kL s σ H { D with nx:=u D } I h) λf J q=>?_)
 cases f with
 |next=>
  obtain⟨O,H',U,q⟩:=q
  exact h2 kL J O H' D U q
 |ret v=>exact q
 |brk=>exact q
 |cont=>exact q
def U6(h1:PS X st t):Fz X [st] t:=by
 intro kL s σ H D I h
 refine IM (cC (h1 kL s σ H D I h) λf J q=>?_)
 cases f with
 |next=>exact ya q
 |ret v=>exact q
 |brk=>exact q
 |cont=>exact q
def Inv.quiet(I:Inv X kL σ H s):interactive X.env=false:=by simp[interactive,I.ok.kind]
def adD(te:TE):TS:=λD σ H=>te σ H λ_ H1=>D.nx σ H1
def VM(he:PE X e te)(hs:tf e none pos.line X.env=pure false:=by rfl):PS X (.Expr e pos) (adD te):=by
 intro kL s σ H D I h
 exact wpAny_Expr_any (cC (he kL s σ H _ I h) λv U ⟨x,H1,J,Y,O⟩=>⟨σ,H1,J,O⟩) I.quiet hs
def afc(te:TE):TS:=λD σ H=>te σ H D.rt
def aaV(he:PE X e te):PS X (.Return (some e) pos) (afc te):=by
 intro kL s σ H D I h
 exact wpAny_Return_some (cC (he kL s σ H _ I h) λv Y ⟨x,H1,J,O,U⟩=>⟨x,σ,H1,J,O,U⟩)
def aez(c:TT)(t u:TS):TS:=λD σ H=>c σ H λb H1=>if b=true then t D σ H1 else u D σ H1
def adX{c:eT}{a b:List rj}{tc:TT}(hc:PT X c tc)(ha:Fz X a t)(hb:Fz X b u):PS X (.If c a b pos) (aez tc t u):=by
 intro kL s σ H D I h
 refine wpAny_If (cC (hc kL s σ H _ I h) λd J Y=>?_)
 obtain⟨H1,O,U⟩:=Y
 cases d with
 |true=>exact ha kL J σ H1 D O U
 |false=>exact hb kL J σ H1 D O U
end
abbrev TG:=V->St->Hp->(St->Hp->Prop)->Prop
abbrev TGs:=List V->St->Hp->(St->Hp->Prop)->Prop
def PG(X:Cx)(target:eT)(t:TG):Prop :=
 ∀(kL:List (aT×Obj)) (s:aw) (σ:St) (H:Hp) (v:V) (u:af) (Q:St->Hp->Prop),Inv X kL σ H s->RelV v u->t v σ H Q ->
  a9 (cy X.prog X.w) X.A (FX target X.env u) (λ_ s'=>∃σ' H',Inv X kL σ' H' s'/\Q σ' H') X.xe s
def PGs(X:Cx)(ts:List eT)(t:TGs):Prop :=
 ∀(kL:List (aT×Obj)) (s:aw) (σ:St) (H:Hp) (vs:List V) (us:List af) (Q:St->Hp->Prop),Inv X kL σ H s->Vals vs us->t vs σ H Q ->
  a9 (cy X.prog X.w) X.A (assignInOrder ((xo ts X.env).map (·.2)) us) (λ_ s'=>∃σ' H',Inv X kL σ' H' s'/\Q σ' H') X.xe s
abbrev TIp:=V->V->Hp->VK->Prop
def PIp(X:Cx)(op:GV)(t:TIp):Prop :=
 ∀(kL:List (aT×Obj)) (s:aw) (σ:St) (H:Hp) (x y:V) (v u:af) (Q:VK),Inv X kL σ H s->RelV x v->RelV y u->t x y H Q ->
  a9 (cy X.prog X.w) X.A (B4 op v u) (EP X kL σ Q) X.xe s
section
variable{X:Cx}{pos:Pos}
def gH(i:Nat):TG:=λv σ H Q=>Q (σ.set i (some v)) H
def fM(hN:X.N.Nodup)(hi:X.N[i]?=some x)(hx:Loc X.env.scope x)(hf:X.fn x=true\/X.env.scope.names.lookup x=some .local:=by first | exact .inl rfl | exact .inr rfl | assumption):PG X (.Name x pos) (gH i):=by
 intro kL s σ H v u Q I r h
 exact GW (vp I hN hi hx r (λs' J=>⟨_,H,J,h⟩) hf)
def Uo:TGs:=λvs σ H Q=>vs=[]/\Q σ H
def o9(t:TG)(u:TGs):TGs:=λvs σ H Q=>∃v r,vs=v::r/\t v σ H λσ' H'=>u r σ' H' Q
def Bj:PGs X [] Uo:=by
 intro kL s σ H vs us Q I r h
 obtain⟨e,h⟩:=h
 subst e
 cases r
 exact assignInOrder_nil ⟨σ,H,I,h⟩
def g8{es:List eT}{t:TG}{u:TGs}(h1:PG X e t)(h2:PGs X es u)
  (hs:(xo (e::es) X.env).map (·.2)=FX e X.env::(xo es X.env).map (·.2):=by rfl):PGs X (e::es) (o9 t u):=by
 intro kL s σ H vs us Q I r h
 obtain⟨v,vr,J,h⟩:=h
 subst J
 cases r with
 |cons r rr=>
  rw[hs]
  refine assignInOrder_cons (cC (h1 kL s σ H _ _ _ I r h) λ_ O U=>?_)
  obtain⟨Y,H1,Z,q1⟩:=U
  exact h2 kL O Y H1 _ _ Q Z rr q1
def QV(K:ag)(n:Nat)(t:TGs):TG:=λv σ H Q=>∃a xs,v=.ref a/\jC K H a xs/\xs.length=n/\t xs σ H Q
def Ib{es:List eT}{k:Nat}{t:TGs}{n:Nat}(hc:X.calm=true)(h:PGs X es t)
  (hn:(xo es X.env).length=n:=by rfl) (hst:(xo es X.env).findIdx? (·.1)=none:=by rfl):PG X (.Tuple es k pos) (QV X.K n t):=by
 intro kL s σ H v u Q I r J
 obtain⟨a,xs,U,Y,Z,J⟩:=J
 subst U
 cases r
 obtain⟨its,O,ht,hz⟩:=I.tuple Y
 refine assign_Tuple_tuple (I.ok.hd hc) ht (by simp[hn,←Z,O.length]) hst λh' hx=>?_
 have I1:Inv X kL σ H { s with heap:=h' }:=I.kept (t':=s.toks) λb o e=>hx b o (cx (b5 e)) e
 exact h kL _ σ H xs _ Q I1 (by simpa using O) J
def Zj(te:TE)(g:TG):TS:=λD σ H=>te σ H λx H1=>g x σ H1 D.nx
def ZM{tg:eT}{te:TE}{g:TG}(he:PE X e te)(hg:PG X tg g)(hs:swapsWithSole [tg] e pos.line X.env=pure false:=by rfl)(hw:swappedStores [tg] e X.env=pure none:=by rfl)
  (h1:(xo [tg] X.env).map (·.2)=[FX tg X.env]:=by rfl):PS X (.Assign [tg] e pos) (Zj te g):=by
 intro kL s σ H D I h
 refine wpAny_Assign_stores (cC (he kL s σ H _ I h) λv J O=>?_) hs hw
 obtain⟨x,H1,U,Y,Z⟩:=O
 rw[h1]
 exact cC (hg kL J σ H1 x v _ U Y Z) λ_ s2 q=>q
def aaP{te:TE}{pos':Pos}(hN:X.N.Nodup)(hi:X.N[i]?=some x)(hx:Loc X.env.scope x)(he:PE X e te)(hs:tf e (some (.Name x pos')) pos.line X.env=pure false:=by rfl)(hf:X.fn x=true\/X.env.scope.names.lookup x=some .local:=by first | exact .inl rfl | exact .inr rfl | assumption) :
  PS X (.Assign [.Name x pos'] e pos) (Zj te (gH i)):=by
 intro kL s σ H D I h
 refine wpAny_Assign_Name (cC (he kL s σ H _ I h) λv s1 J=>?_) hs
 obtain⟨y,H1,O,U,Y⟩:=J
 exact vp O hN hi hx U (λs2 Z=>⟨_,H1,Z,Y⟩) hf
def aeT(i:Nat)(te:TE)(ti:TIp):TS:=λD σ H=>∃x,σ[i]?=some (some x)/\te σ H λy H1=>ti x y H1 λz H2=>D.nx (σ.set i (some z)) H2
def aai{te:TE}{op:GV}{ti:TIp}{pos':Pos}(hN:X.N.Nodup)(hi:X.N[i]?=some x)(hx:Loc X.env.scope x)(he:PE X e te)(ho:PIp X op ti)(hf:X.fn x=true\/X.env.scope.names.lookup x=some .local:=by first | exact .inl rfl | exact .inr rfl | assumption) :
  PS X (.AugAssign (.Name x pos') op e pos) (aeT i te ti):=by
 intro kL s σ H D I h
 obtain⟨v,Z,h⟩:=h
 obtain⟨m,hn,hl⟩:=I.loc
 have U:Vis X.env.scope x:=by rcases hx with k | k;exact .inl k;exact .inr (.inl k)
 obtain⟨u,r,l⟩:=hl i x v hi Z U
 refine wpAny_AugAssign_Name ?_
 have go:a9 (cy X.prog X.w) X.A (gN e X.env) (λw s₂=>a9 (cy X.prog X.w) X.A (B4 op u w) (λr ac=>a9 (cy X.prog X.w) X.A (Nw X.env x r) (λ_=>SP X kL D .next) X.xe ac) X.xe s₂) X.xe s:=by
  refine cC (he kL s σ H _ I h) λw s1 Y=>?_
  obtain⟨y,H1,I1,r1,q1⟩:=Y
  refine cC (ho kL s1 σ H1 v y u w _ I1 r r1 q1) λz s2 Y=>?_
  obtain⟨zv,H2,I2,r2,q2⟩:=Y
  exact vp I2 hN hi hx r2 (λs3 I3=>⟨_,H2,I3,q2⟩) hf
 rcases l with ⟨J,hm⟩ | ⟨J,c,hc,O⟩
 ·exact D6 I.ok.kind J hn hm go
 ·rcases J with J | J
  ·exact ET I.ok.kind J hc O go
  ·rcases hx with k | k
   ·have:X.env.scope.names.lookup x=some .free:=J
    rw[k] at this;cases this
   ·have:X.env.scope.names.lookup x=some .free:=J
    rw[k] at this;cases this
end
section
variable{X:Cx}{pos:Pos}
def aa5(c:TT)(tb:TS):TS:=λD σ H=>∃W:Nat->St->Hp->Prop,(∃m,W m σ H)/\∀m σ H,W m σ H ->
 c σ H λb H1=>if b=true then ∃N:St->Hp->Prop,(∀σ' H',N σ' H'->∃m',m'<m/\W m' σ' H')/\tb { D with nx:=N,ct:=N,bk:=D.nx } σ H1 else D.nx σ H1
def Qx{c:eT}{body:List rj}{tc:TT}{tb:TS}(hp:IP (cy X.prog X.w) X.A X.env X.xe)(hc:PT X c tc)(hb:Fz X body tb):PS X (.While c body [] pos) (aa5 tc tb):=by
 intro kL s σ H D I h
 obtain⟨W,⟨m0,w0⟩,J⟩:=h
 refine wpAny_While (codeAny_whileLoop (λn s'=>∃σ' H',Inv X kL σ' H' s'/\W n σ' H') ?_ m0 ⟨σ,H,I,w0⟩)
 rintro n s1 ⟨U,H1,I1,w1⟩
 refine oP hp (cC (hc kL s1 U H1 _ I1 (J n U H1 w1)) λb s2 zz=>?_)
 obtain⟨H2,I2,q2⟩:=zz
 cases b with
 |true=>
  obtain⟨N,hN,q2⟩:=q2
  rw[if_pos rfl]
  refine oP hp (cC (hb kL s2 U H2 _ I2 q2) λf s3 Y=>?_)
  cases f with
  |next=>
   obtain⟨O,H3,Z,n3⟩:=Y
   obtain⟨m',hm,w3⟩:=hN O H3 n3
   exact⟨m',hm,O,H3,Z,w3⟩
  |cont=>
   obtain⟨O,H3,Z,n3⟩:=Y
   obtain⟨m',hm,w3⟩:=hN O H3 n3
   exact⟨m',hm,O,H3,Z,w3⟩
  |brk=>exact Y
  |ret v=>exact Y
 |false=>
  rw[if_neg ff]
  exact ya ⟨U,H2,I2,q2⟩
end
variable{k:Nat}{tg:eT}
structure It where
 go:Nat->Hp->Prop
 yld:Nat->Hp->V->Hp->Prop
 stop:Nat->Hp->Prop
def eY(X:Cx)(kL:List (aT×Obj))(H:Hp)(b:aT):Prop :=
 H b=none/\b≠X.env.locals/\b∉X.fs/\(b∈X.ex\/X.s₀.heap.objs.size<=b)/\(∀x c,X.env.cells.lookup x=some c->c≠b)/\∀p∈X.pn++kL,p.1≠b
def Inv.wY{H':Hp}(I:Inv X kL σ H s)(hb:s.heap.objs.size<=b)(hn:H' b=none):eY X kL H' b:=by
 refine⟨hn,nv (dA I.lt hb),I.aeK hb,.inr (ft I.sz hb),λx c e z=>?_,λp J z=>?_⟩
 ·obtain⟨v,q⟩:=I.cell x c e
  exact absurd (dA q.lt (by rw[z];exact hb)) (nE _)
 ·exact absurd (dA (b5 (I.pin p J).1) (by rw[z];exact hb)) (nE _)
structure Turn(P:cw)(w:da)(K:ag)(tg:eT)(J:It)(fp:List aT)(it:aT)(tn:Nat->fA->Prop):Prop where
 mem:it∈fp
 obj:∀i h,tn i h->∀b∈fp,∃o,h.get? b=some o/\∀v,o.data≠.cell v
 keep:∀i h h',tn i h->(∀b∈fp,∀o,h.get? b=some o->h'.get? b=some o)->tn i h'
 item:∀(X:Cx),X.prog=P->X.w=w->X.K=K->X.calm=true->∀(i:Nat) (kL:List (aT×Obj)) (s:aw) (σ:St) (H:Hp) (E:af->aw->Prop),Inv X kL σ H s->(∀b∈fp,eY X kL H b)->tn i s.heap->J.go i H ->
  a9 (cy P w) X.A (l9 (.ref it)) (λr s1=>∃u,r=some u /\
   a9 (cy P w) X.A (yb tg (.ref it) u) (λ_ s2=>∃x H',Inv X kL σ H' s2/\RelV x u/\J.yld i H x H'/\tn (i+1) s2.heap/\∀b∈fp,H' b=none) E s1) E s
 done:∀(X:Cx),X.prog=P->X.w=w->X.K=K->X.calm=true->∀(i:Nat) (kL:List (aT×Obj)) (s:aw) (σ:St) (H:Hp) (E:af->aw->Prop),Inv X kL σ H s->(∀b∈fp,eY X kL H b)->tn i s.heap->J.stop i H ->
  a9 (cy P w) X.A (l9 (.ref it)) (λr s1=>r=none/\Inv X kL σ H s1) E s
 self:∀(A:gu) (i:Nat) (s:aw) (Q:af->aw->Prop) (E:af->aw->Prop),tn i s.heap->Q (.ref it) s->a9 (cy P w) A (FY (.ref it)) Q E s
abbrev TI:=St->Hp->(It->Hp->Prop)->Prop
def PIE(X:Cx)(kL:List (aT×Obj))(σ:St)(tg:eT)(R:It->Hp->Prop)(itv:af)(s2:aw):Prop :=
 ∃(it:aT) (fp:List aT) (tn:Nat->fA->Prop) (J:It) (H':Hp),itv=.ref it/\Inv X kL σ H' s2/\Turn X.prog X.w X.K tg J fp it tn/\tn 0 s2.heap/\(∀b∈fp,eY X kL H' b)/\R J H'
def PI(X:Cx)(tg iter:eT)(wi:TI):Prop :=
 ∀(kL:List (aT×Obj)) (s:aw) (σ:St) (H:Hp) (R:It->Hp->Prop),Inv X kL σ H s->wi σ H R ->
  a9 (cy X.prog X.w) X.A (gN iter X.env) (λv s1=>a9 (cy X.prog X.w) X.A (FY v) (PIE X kL σ tg R) X.xe s1) X.xe s
def ye{M:OM}{it:aT}{o:Obj}{n:String}{vs:Array af}{Q:Unit->aw->Prop}(ho:s.heap.get? it=some o)(hc:o.cls=.type n)(hd:o.data=.fields vs)
  (hn:["enumerate", "zip", "dict_itemiterator", "dict_reverseitemiterator", "odict_iterator", "itertools.zip_longest", "itertools.pairwise"].contains n=false) (hQ:Q () s):a9 M A (yb tg (.ref it) u) Q E s:=by
 unfold yb
 cases tg <;> first
  |exact av hQ
  | (cases u <;> first
    |exact av hQ
    | (refine ab (wpAny_load ho ?_)
       rw[hc,hd]
       show a9 M A (if (["enumerate", "zip", "dict_itemiterator", "dict_reverseitemiterator", "odict_iterator", "itertools.zip_longest", "itertools.pairwise"].contains n&&vs[0]? == some (ma _))=true then _ else _) Q E s
       rw[if_neg (by intro h;rw[hn,zw] at h;cases h)]
       exact av hQ))
def Itl(K:ag)(a:aT):It :=
 ⟨λi H=>∃xs x,cV K H a xs/\xs[i]?=some x,λi H x H'=>H'=H/\∀xs,cV K H a xs->xs[i]?=some x,λi H=>∃xs,cV K H a xs/\xs.length<=i⟩
def Itt(K:ag)(a:aT):It :=
 ⟨λi H=>∃xs x,jC K H a xs/\xs[i]?=some x,λi H x H'=>H'=H/\∀xs,jC K H a xs->xs[i]?=some x,λi H=>∃xs,jC K H a xs/\xs.length<=i⟩
def Itr(lo:Int)(n:Nat):It:=⟨λi _=>i<n,λi H x H'=>H'=H/\x=.int (lo+i),λi _=>n<=i⟩
def M5(a it:aT):Turn P w K tg (Itl K a) [it] it (λi h=>h.IsListIter it a i) where
 mem:=by simp
 obj:=λi h st b J=>by
  have e:b=it:=by simpa using J
  subst e
  obtain⟨o,e,c,d⟩:=st
  exact⟨o,e,λv z=>by rw[d] at z;cases z⟩
 keep:=λi h h' st k=>st.at λo e=>k it (by simp) o e
 item:=by
  intro X Z hw hK hc i kL s σ H E I U st hg
  subst Z hw hK
  obtain⟨xs,x,Y,hx⟩:=hg
  obtain⟨its,rv,p,hz⟩:=I.list Y
  obtain⟨u,hu,ru⟩:=rv.get hx
  obtain⟨f0,f1,f2,f3,f4,f5⟩:=U it (by simp)
  refine wb st p.isList (x:=u) (by simpa using hu) λh' O sb=>?_
  have I1:Inv X kL σ H { s with heap:=h' }:=I.turned (t':=s.toks) (λb o J e=>(sb.2 b J).trans e) f0 f1 f3 f4 f5
  obtain⟨o,e,c,d⟩:=id O
  exact⟨u,rfl,ye (s:={ s with heap:=h' }) e c d (by decide) ⟨x,H,I1,ru,⟨rfl,λys hy=>by rw[I.pG hy Y];exact hx⟩,O,λb J=>(U b J).1⟩⟩
 done:=by
  intro X Z hw hK hc i kL s σ H E I U st hg
  subst Z hw hK
  obtain⟨xs,Y,hx⟩:=hg
  obtain⟨its,rv,p,hz⟩:=I.list Y
  obtain⟨f0,f1,f2,f3,f4,f5⟩:=U it (by simp)
  have hl:=rv.length
  exact xi (I.ok.hd hc) st p.isList (by simp;omega) λh' eb=>⟨rfl,I.turned (t':=s.toks) (λb o J e=>eb b o J e) f0 f1 f3 f4 f5⟩
 self:=λ_ _ _ _ _ st h=>wpAny_pyIter_listiter st h
def Io(a it:aT):Turn P w K tg (Itt K a) [it] it (λi h=>h.IsTupleIter it a i) where
 mem:=by simp
 obj:=λi h st b J=>by
  have e:b=it:=by simpa using J
  subst e
  obtain⟨o,e,c,d⟩:=st
  exact⟨o,e,λv z=>by rw[d] at z;cases z⟩
 keep:=λi h h' st k=>st.at λo e=>k it (by simp) o e
 item:=by
  intro X Z hw hK hc i kL s σ H E I U st hg
  subst Z hw hK
  obtain⟨xs,x,Y,hx⟩:=hg
  obtain⟨its,rv,p,hz⟩:=I.tuple Y
  obtain⟨u,hu,ru⟩:=rv.get hx
  obtain⟨f0,f1,f2,f3,f4,f5⟩:=U it (by simp)
  refine B5 st (show s.heap.IsTuple a its.toArray from p) (x:=u) (by simpa using hu) λh' O sb=>?_
  have I1:Inv X kL σ H { s with heap:=h' }:=I.turned (t':=s.toks) (λb o J e=>(sb.2 b J).trans e) f0 f1 f3 f4 f5
  obtain⟨o,e,c,d⟩:=id O
  exact⟨u,rfl,ye (s:={ s with heap:=h' }) e c d (by decide) ⟨x,H,I1,ru,⟨rfl,λys hy=>by rw[I.LK hy Y];exact hx⟩,O,λb J=>(U b J).1⟩⟩
 done:=by
  intro X Z hw hK hc i kL s σ H E I U st hg
  subst Z hw hK
  obtain⟨xs,Y,hx⟩:=hg
  obtain⟨its,rv,p,hz⟩:=I.tuple Y
  obtain⟨f0,f1,f2,f3,f4,f5⟩:=U it (by simp)
  have hl:=rv.length
  exact CI (I.ok.hd hc) st (show s.heap.IsTuple a its.toArray from p) (by simp;omega) λh' eb=>⟨rfl,I.turned (t':=s.toks) (λb o J e=>eb b o J e) f0 f1 f3 f4 f5⟩
 self:=λ_ _ _ _ _ st h=>wpAny_pyIter_tupleiter st h
def FT(it:aT)(lo:Int)(n:Nat):Turn P w K tg (Itr lo n) [it] it (λi h=>IsRangeIter h it (lo+(i:Nat)*1) ((n:Int)-(i:Nat)) 1) where
 mem:=by simp
 obj:=λi h st b J=>by
  have e:b=it:=by simpa using J
  subst e
  exact⟨_,st,λv z=>by
   have z':ON _=Data.cell v:=z
   cases z'⟩
 keep:=λi h h' st k=>k it (by simp) _ st
 item:=by
  intro X Y Z hK hc i kL s σ H E I U st hg
  subst Y Z hK
  obtain⟨f0,f1,f2,f3,f4,f5⟩:=U it (by simp)
  have W:=Walks.range (prog:=X.prog) (w:=X.w) (I.ok.hd hc) it lo 1 n
  refine W.item i s _ _ hg st λv h' tk hv O kk=>?_
  obtain⟨t,rfl⟩:=hv
  have I1:Inv X kL σ H { s with heap:=h',toks:=tk }:=I.turned (λb o J e=>kk b o (by simpa using J) e) f0 f1 f3 f4 f5
  refine⟨_,rfl,ye (s:={ s with heap:=h',toks:=tk }) (n := "range_iterator") O rfl rfl (by decide) ⟨.int (lo+i),H,I1,⟨t,?_⟩,⟨rfl,rfl⟩,O,λb J=>(U b J).1⟩⟩
  rw[Kt]
 done:=by
  intro X Y Z hK hc i kL s σ H E I U st hg
  subst Y Z hK
  obtain⟨f0,f1,f2,f3,f4,f5⟩:=U it (by simp)
  exact wpAny_pyNext_range_end (I.ok.hd hc) st (by have:n<=i:=hg;omega) λh' eb=>⟨rfl,I.turned (t':=s.toks) (λb o J e=>eb b o J e) f0 f1 f3 f4 f5⟩
 self:=λ_ _ _ _ _ st h=>wpAny_pyIter_rangeiter st h
section
variable{X:Cx}{tg:eT}
def ad8(K:ag)(tl:TE):TI:=λσ H R=>tl σ H λx H1=>∃a,x=.ref a/\(∃xs,cV K H1 a xs)/\R (Itl K a) H1
def afw(K:ag)(tl:TE):TI:=λσ H R=>tl σ H λx H1=>∃a,x=.ref a/\(∃xs,jC K H1 a xs)/\R (Itt K a) H1
def Wt{l:eT}{tl:TE}(hl:PE X l tl):PI X tg l (ad8 X.K tl):=by
 intro kL s σ H R I h
 refine cC (hl kL s σ H _ I h) λv J U=>?_
 obtain⟨x,H1,O,Y,Z⟩:=U
 obtain⟨a,e,⟨xs,hq⟩,q⟩:=Z
 subst e
 cases Y
 obtain⟨its,rv,p,hz⟩:=O.list hq
 refine pj p.isList ?_
 refine⟨J.heap.objs.size,[J.heap.objs.size],_,_,H1,rfl,O.kept (t':=J.toks) λb o e=>ai _ e,M5 a _,⟨_,ba _ rfl,rfl,rfl⟩,λb hb=>?_,q⟩
 have e:b=J.heap.objs.size:=by simpa using hb
 subst e
 exact O.wY (a8 _) (O.hok.fresh (a8 _))
def abq{l:eT}{tl:TE}(hl:PE X l tl):PI X tg l (afw X.K tl):=by
 intro kL s σ H R I h
 refine cC (hl kL s σ H _ I h) λv J U=>?_
 obtain⟨x,H1,O,Y,Z⟩:=U
 obtain⟨a,e,⟨xs,hq⟩,q⟩:=Z
 subst e
 cases Y
 obtain⟨its,rv,p,hz⟩:=O.tuple hq
 refine zC (show J.heap.IsTuple a its.toArray from p) ?_
 refine⟨J.heap.objs.size,[J.heap.objs.size],_,_,H1,rfl,O.kept (t':=J.toks) λb o e=>ai _ e,Io a _,⟨_,ba _ rfl,rfl,rfl⟩,λb hb=>?_,q⟩
 have e:b=J.heap.objs.size:=by simpa using hb
 subst e
 exact O.wY (a8 _) (O.hok.fresh (a8 _))
def afD(wi:TI)(g:TG)(tb:TS):TS:=λD σ H=>wi σ H λJ H1=>∃W:Nat->Nat->St->Hp->Prop,(∃m,W 0 m σ H1)/\∀i m σ H,W i m σ H ->
 (J.stop i H/\D.nx σ H)\/(J.go i H/\∃N:St->Hp->Prop,(∀σ' H',N σ' H'->∃m',m'<m/\W (i+1) m' σ' H')/\∀x H',J.yld i H x H'->g x σ H' λσ2 H2=>tb { D with nx:=N,ct:=N,bk:=D.nx } σ2 H2)
def vI(fp:List aT)(h:fA):List (aT×Obj):=fp.filterMap λb=>(h.get? b).map λo=>(b,o)
def jX{fp:List aT}{o:Obj}(hb:b∈fp)(e:h.get? b=some o):(b,o)∈vI fp h:=zD.mpr ⟨b,hb,by rw[e];rfl⟩
def M3{fp:List aT}{p:aT×Obj}(hp:p∈vI fp h):p.1∈fp/\h.get? p.1=some p.2:=by
 obtain⟨b,J,e⟩:=zD.mp hp
 cases q:h.get? b with
 |none=>rw[q] at e;cases e
 |some o=>
  rw[q] at e
  have O:(b,o)=p:=Option.some.inj e
  subst O
  exact⟨J,q⟩
def Inv.pinned{fp:List aT}(I:Inv X kL σ H s)(hf:∀b∈fp,eY X kL H b)(ho:∀b∈fp,∃o,s.heap.get? b=some o/\∀v,o.data≠.cell v):Inv X (kL++vI fp s.heap) σ H s :=
 I.ud λp U=>(ib.mp U).elim (λz=>I.pin p (fx _ z)) λz=>by
  obtain⟨J,e⟩:=M3 z
  obtain⟨Y,f1,f2,_⟩:=hf p.1 J
  obtain⟨o,O,d⟩:=ho p.1 J
  rw[e] at O;cases O
  exact⟨e,Y,f1,f2,d⟩
def Inv.pF{pl:List (aT×Obj)}(I:Inv X (kL++pl) σ H s):Inv X kL σ H s:=I.ud λp J=>I.pin p (fx _ (xS _ J))
def aah{iter:eT}{body:List rj}{wi:TI}{g:TG}{tb:TS}{pos:Pos}(hp:IP (cy X.prog X.w) X.A X.env X.xe)(hc:X.calm=true)(hi:PI X tg iter wi)(hg:PG X tg g)(hb:Fz X body tb)
  (hs:∀x,kX iter X.env x=pure x:=by intro _;rfl):PS X (.For tg iter body [] pos) (afD wi g tb):=by
 intro kL s σ H D I h
 refine wpAny_For (cC (hi kL s σ H _ I h) λv s1 h1=>cC h1 λa3 s2 h2=>?_) hs
 obtain⟨it,fp,tn,J,H2,e,I2,T,a0,f2,W,⟨m0,w0⟩,al⟩:=h2
 subst e
 have O:∀ {H':Hp},(∀b∈fp,H' b=none)->∀b∈fp,eY X kL H' b:=λhn b hb=>⟨hn b hb,(f2 b hb).2⟩
 refine codeAny_forLoop_any (λn s'=>∃i σ' H',Inv X kL σ' H' s'/\tn i s'.heap/\(∀b∈fp,H' b=none)/\W i n σ' H') ?_ m0 ⟨0,σ,H2,I2,a0,λb hb=>(f2 b hb).1,w0⟩
 rintro n s3 ⟨i,am,H3,I3,st3,ap,w3⟩
 rcases al i n am H3 w3 with ⟨stop,qn⟩ | ⟨go,N,hN,step⟩
 ·refine oP hp (cC (T.done X rfl rfl rfl hc i kL s3 am H3 X.xe I3 (O ap) st3 stop) λr s4 zz=>?_)
  obtain⟨hr,I4⟩:=zz
  subst hr
  exact ya ⟨am,H3,I4,qn⟩
 ·refine oP hp (cC (T.item X rfl rfl rfl hc i kL s3 am H3 X.xe I3 (O ap) st3 go) λr s4 zz=>?_)
  obtain⟨u,hr,h4⟩:=zz
  subst hr
  refine oP hp (cC h4 λ_ s5 zz=>?_)
  obtain⟨x,H5,I5,r5,y5,ac,a1⟩:=zz
  have a2:=I5.pinned (O a1) (T.obj _ _ ac)
  refine oP hp (cC (hg _ s5 am H5 x u _ a2 r5 (step x H5 y5)) λ_ s6 zz=>?_)
  obtain⟨a4,H6,I6,q6⟩:=zz
  refine oP hp (cC (hb _ s6 a4 H6 _ I6 q6) λf s7 q7=>?_)
  have PR:∀ {U:St} {Y:Hp},Inv X (kL++vI fp s5.heap) U Y s7->N U Y->∃m,m<n/\∃i σ' H',Inv X kL σ' H' s7/\tn i s7.heap/\(∀b∈fp,H' b=none)/\W i m σ' H':=λ{U Y} Z n7=>by
   obtain⟨m',hm,w7⟩:=hN U Y n7
   refine⟨m',hm,i+1,U,Y,Z.pF,T.keep _ _ _ ac λb hb o e=>(Z.pin (b,o) (fx _ (fx _ (jX hb e)))).1,λb hb=>?_,w7⟩
   obtain⟨o,e,d⟩:=T.obj _ _ ac b hb
   exact (Z.pin (b,o) (fx _ (fx _ (jX hb e)))).2.1
  cases f with
  |next=>obtain⟨U,Y,Z,n7⟩:=q7;exact PR Z n7
  |cont=>obtain⟨U,Y,Z,n7⟩:=q7;exact PR Z n7
  |brk=>obtain⟨U,Y,Z,q7⟩:=q7;exact⟨U,Y,Z.pF,q7⟩
  |ret v=>obtain⟨x7,U,Y,Z,r7,q7⟩:=q7;exact⟨x7,U,Y,Z.pF,r7,q7⟩
end
abbrev R2:=V->V->Hp->VK->Prop
def ir(X:Cx)(f:af->af->Sem af)(r:R2):Prop :=
 ∀(kL:List (aT×Obj)) (s:aw) (σ:St) (H:Hp) (x y:V) (v u:af) (Q:VK),Inv X kL σ H s->RelV x v->RelV y u->r x y H Q ->
  a9 (cy X.prog X.w) X.A (f v u) (EP X kL σ Q) X.xe s
def UnR(X:Cx)(f:af->Sem af)(r:V->Hp->VK->Prop):Prop :=
 ∀(kL:List (aT×Obj)) (s:aw) (σ:St) (H:Hp) (x:V) (v:af) (Q:VK),Inv X kL σ H s->RelV x v->r x H Q ->
  a9 (cy X.prog X.w) X.A (f v) (EP X kL σ Q) X.xe s
def d8(X:Cx)(f:af)(r:List V->Hp->VK->Prop):Prop :=
 ∀(kL:List (aT×Obj)) (s:aw) (σ:St) (H:Hp) (xs:List V) (us:List af) (Q:VK),Inv X kL σ H s->Vals xs us->r xs H Q ->
  a9 (cy X.prog X.w) X.A (call f us) (EP X kL σ Q) X.xe s
def tOp(r:R2)(ta tb:TE):TE:=λσ H Q=>ta σ H λx H1=>tb σ H1 λy H2=>r x y H2 Q
def tUn(r:V->Hp->VK->Prop)(ta:TE):TE:=λσ H Q=>ta σ H λx H1=>r x H1 Q
def rI(C:Int->Int->Prop)(g:Int->Int->V):R2:=λx y H Q=>∃i j,x=.int i/\y=.int j/\C i j/\Q (g i j) H
def Wn(g:Int->Int->V):R2:=λx y H Q=>∃i j,x=.int i/\y=.int j/\Q (g i j) H
def rU(g:Int->V):V->Hp->VK->Prop:=λx H Q=>∃i,x=.int i/\Q (g i) H
section
variable{X:Cx}{a b c:eT}{ta tb tc:TE}{pos:Pos}
def abv(ha:PE X a ta)(hb:PE X b tb){R:V->V->Hp->Prop}(I:Inv X kL σ H s)
  (h:ta σ H λx H1=>tb σ H1 λy H2=>R x y H2) {f:af->af->Sem af}
  (hf:∀v u s2 x y H2,Inv X kL σ H2 s2->RelV x v->RelV y u->R x y H2->a9 (cy X.prog X.w) X.A (f v u) Q X.xe s2) :
  a9 (cy X.prog X.w) X.A (gN a X.env) (λv s₁=>a9 (cy X.prog X.w) X.A (gN b X.env) (λu s₂=>a9 (cy X.prog X.w) X.A (f v u) Q X.xe s₂) X.xe s₁) X.xe s:=by
 refine cC (ha kL s σ H _ I h) λv O J=>?_
 obtain⟨x,H1,U,Y,Z⟩:=J
 refine cC (hb kL O σ H1 _ U Z) λu s2 J=>?_
 obtain⟨y,H2,I2,r2,q2⟩:=J
 exact hf v u s2 x y H2 I2 Y r2 q2
def acS{op:GV}{r:R2}(ho:ir X (nk op) r)(ha:PE X a ta)(hb:PE X b tb):PE X (.BinOp a op b pos) (tOp r ta tb):=by
 intro kL s σ H Q I h
 exact wpAny_BinOp (abv ha hb I h λv u J x y H2 O U Y q=>ho kL J σ H2 x y v u Q O U Y q)
def acC{op:UnaryOp}{r:V->Hp->VK->Prop}(ho:UnR X (NN op) r)(ha:PE X a ta):PE X (.UnaryOp op a pos) (tUn r ta):=by
 intro kL s σ H Q I h
 exact UnaryOp_ (cC (ha kL s σ H _ I h) λv J ⟨x,H1,O,U,Y⟩=>ho kL J σ H1 x v Q O U Y)
def opI{f:af->af->Sem af}{C:Int->Int->Prop}{g:Int->Int->Int}
  (Pf:∀(i j:Int) (t u:Tok) (s:aw) (Q:af->aw->Prop) (E:af->aw->Prop),C i j->Q (.int (g i j) s.toks) { s with toks:=s.toks+1 }->a9 (cy X.prog X.w) X.A (f (.int i t) (.int j u)) Q E s) :
  ir X f (rI C λi j=>.int (g i j)):=by
 intro kL s σ H x y v u Q I J O h
 obtain⟨i,j,rfl,rfl,U,q⟩:=h
 obtain⟨t,rfl⟩:=J
 obtain⟨t',rfl⟩:=O
 exact Pf i j t t' s _ _ U ⟨.int (g i j),H,I.tok _,⟨_,rfl⟩,q⟩
def abB{f:af->af->Sem af}{g:Int->Int->Int}
  (Pf:∀(i j:Int) (t u:Tok) (s:aw) (Q:af->aw->Prop) (E:af->aw->Prop),Q (.int (g i j) s.toks) { s with toks:=s.toks+1 }->a9 (cy X.prog X.w) X.A (f (.int i t) (.int j u)) Q E s) :
  ir X f (Wn λi j=>.int (g i j)):=by
 intro kL s σ H x y v u Q I J O h
 obtain⟨i,j,rfl,rfl,q⟩:=h
 obtain⟨t,rfl⟩:=J
 obtain⟨t',rfl⟩:=O
 exact Pf i j t t' s _ _ ⟨.int (g i j),H,I.tok _,⟨_,rfl⟩,q⟩
def abN{f:af->af->Sem af}{g:Int->Int->Bool}
  (Pf:∀(i j:Int) (t u:Tok) (s:aw) (Q:af->aw->Prop) (E:af->aw->Prop),Q (.bool (g i j)) s->a9 (cy X.prog X.w) X.A (f (.int i t) (.int j u)) Q E s) :
  ir X f (Wn λi j=>.bl (g i j)):=by
 intro kL s σ H x y v u Q I J O h
 obtain⟨i,j,rfl,rfl,q⟩:=h
 obtain⟨t,rfl⟩:=J
 obtain⟨t',rfl⟩:=O
 exact Pf i j t t' s _ _ ⟨.bl (g i j),H,I,rfl,q⟩
def Wm(i j:Int):Prop:=0<=j/\j<=1000000/\i.natAbs<2 ^ 64
def aaK(i j:Int):Prop:=(-(2 ^ 64)<i/\i<2 ^ 64)\/(-(2 ^ 64)<j/\j<2 ^ 64)
def aaK.ok{i j:Int}(h:aaK i j):IntMulOk i j:=by
 rcases h with ⟨h1,h2⟩ | ⟨h1,h2⟩
 ·exact .of_left (intBits_le_64 h1 h2)
 ·exact .of_right (intBits_le_64 h1 h2)
def Zg:ir X (nk .Add) (Wn λi j=>.int (i+j)):=abB λ_ _ _ _ _ _ _ q=>add_int q
def abw:ir X (nk .Sub) (Wn λi j=>.int (i-j)):=abB λ_ _ _ _ _ _ _ q=>sub_int q
def aas:ir X (nk .Mod) (rI (λ_ j=>0<j) λi j=>.int (i%j)):=opI λi j _ _ _ _ _ J q=>by
 have h1:(0:Int)<j:=J
 exact mod_int' (by omega) (by rw[Int.fmod_eq_emod_of_nonneg i (by omega)];exact q)
def Vf:ir X (nk .Mod) (rI (λ_ j=>j≠0) λi j=>.int (i.fmod j)):=opI λ_ _ _ _ _ _ _ J q=>mod_int' J q
def aao:ir X (nk .Pow) (rI Wm λi j=>.int (i ^ j.toNat)):=opI λ_ _ _ _ _ _ _ J q=>pow_int_small J.1 J.2.1 J.2.2 q
def Wd:ir X (B4 .Add) (Wn λi j=>.int (i+j)):=abB λ_ _ _ _ _ _ _ q=>iadd_int q
def unI{f:af->Sem af}{g:Int->Int}
  (Pf:∀(i:Int) (t:Tok) (s:aw) (Q:af->aw->Prop) (E:af->aw->Prop),Q (.int (g i) s.toks) { s with toks:=s.toks+1 }->a9 (cy X.prog X.w) X.A (f (.int i t)) Q E s) :
  UnR X f (rU λi=>.int (g i)):=by
 intro kL s σ H x v Q I J h
 obtain⟨i,rfl,q⟩:=h
 obtain⟨t,rfl⟩:=J
 exact Pf i t s _ _ ⟨.int (g i),H,I.tok _,⟨_,rfl⟩,q⟩
def aaH:UnR X (NN .USub) (rU λi=>.int (-i)):=unI λ_ _ _ _ _ q=>neg_int q
end
section
variable{X:Cx}{a b c:eT}{ta tb tc:TE}{pos:Pos}
def aaR{Q:VK}{k k':Bool}(I:Inv X kL σ H s)(q:Q (.bl k) H)(e:k=k'):EP X kL σ Q (.bool k') s:=by
 subst e
 exact⟨.bl k,H,I,rfl,q⟩
def ad5:ir X (iA .Lt) (Wn λi j=>.bl (decide (i<j))):=abN λ_ _ _ _ _ _ _ q=>lt_int q
def ad7:ir X (iA .Gt) (Wn λi j=>.bl (decide (j<i))):=abN λ_ _ _ _ _ _ _ q=>gt_int q
def adS:ir X (iA .GtE) (Wn λi j=>.bl (decide (j<=i))):=abN λ_ _ _ _ _ _ _ q=>ge_int q
def aau:ir X (iA .Is) (λx y H Q=>y=.non/\Q (.bl (decide (x=.non))) H):=by
 intro kL s σ H x y v u Q I J O h
 obtain⟨rfl,q⟩:=h
 cases O
 refine is_none_gen (aaR I q ?_)
 cases x <;> first
  |(cases J;rfl)
  |(obtain⟨t,rfl⟩:=J;rfl)
def Um(b:eT){op:PU}(h:op≠.In:=by decide)(h2:op≠.NotIn:=by decide):vb op b=false:=by
 have J:(op==CmpOp.In)=false:=by cases op <;> first | rfl | exact absurd rfl h
 have O:(op==CmpOp.NotIn)=false:=by cases op <;> first | rfl | exact absurd rfl h2
 cases b <;> simp[vb,J,O]
def VN{op:PU}{r:R2}(ho:ir X (iA op) r)(ha:PE X a ta)(hb:PE X b tb)(hm:vb op b=false):PE X (.Compare a [op] [b] pos) (tOp r ta tb):=by
 intro kL s σ H Q I h
 exact wpAny_Compare1 (abv ha hb I h λv u J x y H2 O U Y q=>ho kL J σ H2 x y v u Q O U Y q) hm
def adO(t:TE):TT:=λσ H Q=>t σ H λx H'=>∃k,x=.bl k/\Q k H'
def Wj{op:PU}{r:R2}(ho:ir X (iA op) r)(ha:PE X a ta)(hb:PE X b tb)(hm:vb op b=false):PT X (.Compare a [op] [b] pos) (adO (tOp r ta tb)):=by
 intro kL s σ H Q I h
 refine wpAny_isTrue_Compare1 (cC (ha kL s σ H _ I h) λv J ⟨x,H1,O,U,Y⟩=>cC (hb kL J σ H1 _ O Y) λu Z ⟨y,H2,I2,r2,q2⟩=>
  cC (ho kL Z σ H2 x y v u _ I2 U r2 q2) λc s3 ⟨z,H3,I3,r3,k,e,q3⟩=>?_) hm
 subst e
 cases r3
 exact sD ⟨H3,I3,q3⟩
def vR:(cf:Nat)<2 ^ 63:=by rw[lI];decide
def HN:ir X (nk .Add) (λx y H Q=>∃i j,x=.str i/\y=.str j/\i.length+j.length<=cf/\Q (.str (i++j)) H):=by
 intro kL s σ H x y v u Q I J O h
 obtain⟨i,j,rfl,rfl,U,q⟩:=h
 obtain⟨t,rfl⟩:=J
 obtain⟨t',rfl⟩:=O
 exact add_str (λt' Y=>⟨.str (i++j),H,I.tok _,⟨_,rfl⟩,q⟩) U
def Bv:ir X (B4 .Add) (λx y H Q=>∃i j,x=.str i/\y=.str j/\i.length+j.length<=cf/\Q (.str (i++j)) H):=by
 intro kL s σ H x y v u Q I J O h
 obtain⟨i,j,rfl,rfl,U,q⟩:=h
 obtain⟨t,rfl⟩:=J
 obtain⟨t',rfl⟩:=O
 exact iadd_str (λt' Y=>⟨.str (i++j),H,I.tok _,⟨_,rfl⟩,q⟩) U
def vals1{x:V}(r:Vals [x] us):∃u,us=[u]/\RelV x u:=by
 cases r with
 |cons r1 r2=>cases r2;exact⟨_,rfl,r1⟩
def vals2{x y:V}(r:Vals [x,y] us):∃u w',us=[u,w']/\RelV x u/\RelV y w':=by
 cases r with
 |cons r1 r2=>
  cases r2 with
  |cons r3 r4=>cases r4;exact⟨_,_,rfl,r1,r3⟩
def RL:d8 X (.builtin "abs") (λxs H Q=>∃i,xs=[.int i]/\Q (.int (if i<0 then -i else i)) H):=by
 intro kL s σ H xs us Q I r h
 obtain⟨i,rfl,q⟩:=h
 obtain⟨u,rfl,t,rfl⟩:=vals1 r
 exact call_abs_int λu J=>⟨.int (if i<0 then -i else i),H,I.tok _,⟨_,rfl⟩,q⟩
end
structure Gm(h:fA)(x dx C:aT)(mA:Str->Option af):Prop where
 obj:h.get? x=some (mM C dx)
 ns:h.Ns1 dx mA
 ne:dx≠x
variable{mA:Str->Option af}
def Mq{dx:aT}(n:h.Ns1 dx mA):∃od,h.get? dx=some od/\∀name,zI name od=some (mA name):=by
 obtain⟨o,es,ep,O,hd,U,_,Y⟩:=n
 refine⟨o,O,λname=>?_⟩
 have e:=Y name
 unfold nsFind findBy at e
 rw[←Array.find?_toList] at e
 unfold zI
 rw[hd]
 dsimp only
 split
 ·rename_i y q
  rw[q] at e
  exact congrArg some e
 ·rename_i q
  rw[q] at e
  have a:es.toList.any (·.refKey)=false:=by
   rw[A1]
   intro y Z
   obtain⟨z,t,J⟩:=U y (x4.mp Z)
   simp[DictEntry.refKey,J]
  have a':¬es.toList.any (·.refKey)=true:=by rw[a];exact ff
  rw[if_neg a']
  exact congrArg some e
variable{C:aT}
def Gm.look{x dx:aT}(I:Gm h x dx C mA):∃od,W.InstAt h x (mM C dx) C (some od)/\∀name,zI name od=some (mA name) :=
 let ⟨od,J,O⟩:=Mq I.ns
 ⟨od,⟨I.obj,rfl,rfl,J⟩,O⟩
section
variable{prog:cw}{w:da}{A:gu}{E:af->aw->Prop}{s:aw}{K:ag}{x dx C f:aT}{mA:Str->Option af}{name:Str}{v:af}
def get_map{expr:Bool}(X:K.In s.heap)(I:Gm s.heap x dx C mA)(hg:tj K C name=true)(hh:wc K C=true)
  (ha:ip K (.ref C) name=some none) (hv:mA name=some v) (hv':IQ v=true) (h:Q v { s with toks:=s.toks+1 }) :
  a9 (cy prog w) A (getAttr (.ref x) name expr) Q E s:=by
 obtain⟨od,J,O⟩:=I.look
 exact W.get_value X J (yY hg).1 (W.findObj_own hh ha rfl (by rw[O,hv])) hv' h
def TF{pl:Sem Bool}{Q:af×List af->aw->Prop}(X:K.In s.heap)(I:Gm s.heap x dx C mA)(hg:tj K C name=true)
  (hf:ip K (.ref C) name=some (some (.ref f))) (ht:ze K (.ref f)=true) (hv:mA name=none) (h:Q (.ref f,[.ref x]) s) :
  a9 (cy prog w) A (IS (.ref x) name pl) Q E s:=by
 obtain⟨od,J,O⟩:=I.look
 exact W.method_fn X J (yY hg).1 (yY hg).2 hf (beq_iff_eq.mp ht) (by show (zI name od).map (·.isSome)=some false;rw[O,hv];rfl) h
def Vh{ns:List Str}{Q:Unit->aw->Prop}(X:K.In s.heap)(I:Gm s.heap x dx C mA)
  (hs:ip K (.ref C) "__setattr__" = some (some (.builtin "object.__setattr__"))) (hp:A2 K C=true) (ht:C5 K C name=some none) (hh:wc K C=true)
  (hw:GU mA ns) (hsz:ns.length<=cf)
  (h:∀h',Gm h' x dx C (λy=>if y=name then some v else mA y)->kH dx s.heap h'->Q () { s with heap:=h',toks:=s.toks+2 }) :
  a9 (cy prog w) A (setAttr (.ref x) name v) Q E s:=by
 obtain⟨od,J,hl⟩:=I.look
 refine W.set_plain X J hs (W.osa_open (s:={ s with toks:=s.toks+1 }) (r:=none) X J hp ht λb=>?_)
 obtain⟨cd,hc,Y⟩:=W.any_some hh
 have hx:s.heap.get? x=some ⟨.ref C,some dx,.plain,#[]⟩:=I.obj
 refine ab (av (ab (ab (wpAny_loadPart hx (ab (Pl (s:={ s with toks:=s.toks+1 }) (W.looks_clsIn X hc) ?_))))))
 rw[Y]
 refine av (a:=some dx) (ab (av (ab ?_)))
 refine wpAny_nsSet1 (s:={ s with toks:=s.toks+1 }) I.ns λh' O U=>?_
 obtain⟨oD,am,ap,Z,ac,al⟩:=O.count (PV name v hw)
 refine ab (wpAny_lookBehind Z (by rw[ac];exact pastItsLine_dict (ft al (by rw[bE];omega))) ?_)
 exact av (h _ ⟨(U.2 _ (mI I.ne)).trans I.obj,O,I.ne⟩ U)
def SN{R:CL->aw->Prop}{vs:List af}{kw:List (Str×af)}(X:K.In s.heap)(hm:C6 K C=true)
  (hi:ip K (.ref C) "__init__" = some (some (.ref f))) (hf:W.typeIn K (.ref f)=some (.type "function"))
  (h:rq (cy prog w) (A.under (.builtin "type.__call__" ⟨.ref C::vs,kw⟩)) (.call (.ref f) ⟨.ref (s.heap.objs.size + 1)::vs,kw⟩) (W.InitBack (s.heap.objs.size + 1) R)
   { s with heap:=(s.heap.push kC).push (mM C s.heap.objs.size) }) :
  rq (cy prog w) A (.call (.ref C) ⟨vs,kw⟩) R s:=by
 obtain⟨hh,g,d,t,os⟩:=s
 exact W.make_core (W.makes_of X hm) (W.looks_findIn X hi) (λself=>W.bind_fn X self hf) (.inl rfl) h
end
variable{kw:List (Str×af)}
def jO(f:Str)(v:V):List (Str×V)->List (Str×V)
 |[]=>[(f,v)]
 |(g,x)::r=>if g=f then (g,v)::r else (g,x)::jO f v r
theorem rY(f g:Str)(v:V):∀fs:List (Str×V),(jO f v fs).lookup g=if g=f then some v else fs.lookup g
 |[]=>by
  show rg g [(f,v)]=_
  by_cases h:g=f
  ·have hb:(g==f)=true:=beq_iff_eq.mpr h
   simp only[rg,hb,if_pos h]
  ·have hb:(g==f)=false:=beq_eq_false_iff_ne.mpr h
   simp only[rg,hb,if_neg h]
 |(k,x)::r=>by
  have J:=rY f g v r
  rw[show jO f v ((k,x)::r)=(if k=f then (k,v)::r else (k,x)::jO f v r) from rfl]
  by_cases hk:k=f
  ·rw[if_pos hk]
   by_cases h:g=k
   ·have hb:(g==k)=true:=beq_iff_eq.mpr h
    simp only[rg,hb,if_pos (h.trans hk)]
   ·have hb:(g==k)=false:=beq_eq_false_iff_ne.mpr h
    simp only[rg,hb,if_neg (λe:g=f=>h (e.trans hk.symm))]
  ·rw[if_neg hk]
   by_cases h:g=k
   ·have hb:(g==k)=true:=beq_iff_eq.mpr h
    simp only[rg,hb,if_neg (λe:g=f=>hk (h.symm.trans e))]
   ·have hb:(g==k)=false:=beq_eq_false_iff_ne.mpr h
    simp only[rg,hb]
    exact J
theorem rG(f:Str)(v:V):∀fs:List (Str×V),f∈(jO f v fs).map (·.1)/\∀g,g∈fs.map (·.1)->g∈(jO f v fs).map (·.1)
 |[]=>⟨by simp[jO],λg h=>by simp at h⟩
 |(k,x)::r=>by
  obtain⟨i1,i2⟩:=rG f v r
  rw[show jO f v ((k,x)::r)=(if k=f then (k,v)::r else (k,x)::jO f v r) from rfl]
  by_cases hk:k=f
  ·rw[if_pos hk]
   subst hk
   exact⟨by simp,λg h=>by simpa using h⟩
  ·rw[if_neg hk]
   refine⟨?_,λg h=>?_⟩
   ·rw[aE]
    exact cK _ i1
   ·rw[aE] at h ⊢
    rcases br.mp h with e | e
    ·exact br.mpr (.inl e)
    ·exact cK _ (i2 g e)
theorem sJ(f:Str)(v:V):∀fs:List (Str×V),(jO f v fs).length<=fs.length+1
 |[]=>by simp[jO]
 |(k,x)::r=>by
  have ih:=sJ f v r
  rw[show jO f v ((k,x)::r)=(if k=f then (k,v)::r else (k,x)::jO f v r) from rfl]
  by_cases hk:k=f
  ·rw[if_pos hk,bE,bE];omega
  ·rw[if_neg hk,bE,bE];omega
def mU.some_of{v:V}{o:Option af}(r:mU (some v) o):∃u,o=some u/\RelV v u:=by
 cases o with
 |none=>exact (show False from r).elim
 |some u=>exact⟨u,rfl,r⟩
def mU.none_of{o:Option af}(r:mU none o):o=none:=by
 cases o with
 |none=>rfl
 |some u=>exact (show False from r).elim
def Og{v:V}(r:RelV v u):IQ u=true:=by
 cases v with
 |non=>cases (show u=jI from r);rfl
 |bl b=>cases (show u=CF b from r);rfl
 |int i=>obtain⟨t,e⟩:=(show ∃t,u=qq i t from r);cases e;rfl
 |str x=>obtain⟨t,e⟩:=(show ∃t,u=EN x t from r);cases e;rfl
 |byt b=>obtain⟨t,e⟩:=(show ∃t,u=OL b t from r);cases e;rfl
 |flt b=>obtain⟨t,e⟩:=(show ∃t,u=Kn b t from r);cases e;rfl
 |ref a=>cases (show u=eB a from r);rfl
 |ty n=>cases (show u=Value.type n from r);rfl
section
variable{P:cw}{w:da}{H H':Hp}{h h':fA}{a C dx:aT}{fs fs':List (Str×V)}
def uo(hok:oR P w H h)(e:H a=some (.ins C dx fs)):∃mA,Gm h a dx C mA/\(∀f,mU (fs.lookup f) (mA f))/\GU mA (fs.map (·.1))/\fs.length<=1000/\H dx=some (.own a):=by
 obtain⟨d,z,ne,ob,mA,n,r,q⟩:=(show bO P w H h a (.ins C dx fs) from hok a _ e)
 exact⟨mA,⟨ob,n,ne⟩,r,q,z,d⟩
end
structure KJ(K:ag)(C:aT):Prop where
 pg:tj K C Str.empty=true
 hd:wc K C=true
 po:A2 K C=true
 sa:ip K (.ref C) "__setattr__" = some (some (.builtin "object.__setattr__"))
def KJ.get(c:KJ K C)(f:Str):tj K C f=true:=c.pg
def lH(K:ag)(C:aT)(f:Str):Prop:=ip K (.ref C) f=some none
def lH.taker{f:Str}(n:lH K C f):C5 K C f=some none:=by
 unfold C5
 rw[show ip K (.ref C) f=some none from n]
 rfl
structure Meth(K:ag)(C:aT)(m:Str)(f:aT):Prop where
 at_:ip K (.ref C) m=some (some (.ref f))
 fn:ze K (.ref f)=true
 kp:nX K (.ref f)=true
section
variable{X:Cx}{kL:List (aT×Obj)}{σ:St}{H:Hp}{s:aw}{a C dx:aT}{fs:List (Str×V)}{f:Str}{v:V}{A:gu}{E:af->aw->Prop}
def Il{b:Bool}(I:Inv X kL σ H s)(e:H a=some (.ins C dx fs))(c:KJ X.K C)(n:lH X.K C f)(l:fs.lookup f=some v)
  (h:∀u s',Inv X kL σ H s'->RelV v u->Q u s'):a9 (cy X.prog X.w) A (getAttr (.ref a) f b) Q E s:=by
 obtain⟨mA,O,r,_,_,_⟩:=uo I.hok e
 obtain⟨u,U,J⟩:=mU.some_of (v:=v) (o:=mA f) (by rw[←l];exact r f)
 exact get_map I.qz O (c.get f) c.hd n U (Og J) (h u _ (I.tok _) J)
def uD{m:Str}{g:aT}{pl:Sem Bool}{Q:af×List af->aw->Prop}(I:Inv X kL σ H s)(e:H a=some (.ins C dx fs))(c:KJ X.K C)(k:Meth X.K C m g)(l:fs.lookup m=none)
  (h:Q (.ref g,[.ref a]) s):a9 (cy X.prog X.w) A (IS (.ref a) m pl) Q E s:=by
 obtain⟨mA,O,r,_,_,_⟩:=uo I.hok e
 have J:mA m=none:=mU.none_of (by rw[←l];exact r m)
 exact TF I.qz O (c.get m) k.at_ k.fn J h
def Hh{y:V}{Q:Unit->aw->Prop}(I:Inv X kL σ H s)(e:H a=some (.ins C dx fs))(c:KJ X.K C)(n:lH X.K C f)(hl:fs.length<1000)(ry:RelV y u)
  (h:∀s',Inv X kL σ (upd H a (.ins C dx (jO f y fs))) s'->Q () s'):a9 (cy X.prog X.w) A (setAttr (.ref a) f u) Q E s:=by
 obtain⟨mA,O,r,wi,_,U⟩:=uo I.hok e
 have Y:(fs.map (·.1)).length<=cf:=by rw[ae,lI];omega
 refine Vh I.qz O c.sa c.po n.taker c.hd wi Y λh' J Z=>h _ ?_
 have hd:∃o,h'.get? dx=some o:=let ⟨o,_,_,e',_⟩:=J.ns;⟨o,e'⟩
 refine I.write (x:=a) (e:=dx) (by rw[e];exact mf) (.inr U) (λb q hb z=>(Z.2 b hb).trans z) hd ?_
 refine⟨by rw[aC O.ne];exact U,?_,O.ne,J.obj,_,J.ns,λg=>?_,λg hg=>?_⟩
 ·have:=sJ f y fs;omega
 ·show mU ((jO f y fs).lookup g) (if g=f then some u else mA g)
  rw[rY]
  by_cases q:g=f
  ·rw[if_pos q,if_pos q];exact ry
  ·rw[if_neg q,if_neg q];exact r g
 ·by_cases q:g=f
  ·rw[q];exact (rG f y fs).1
  ·refine (rG f y fs).2 g (wi g λz=>hg ?_)
   show (if g=f then some u else mA g)=none
   rw[if_neg q];exact z
def Inv.made(I:Inv X kL σ H s):Inv X kL σ (upd (upd H s.heap.objs.size (.own (s.heap.objs.size+1))) (s.heap.objs.size+1) (.ins C s.heap.objs.size []))
  { s with heap:=(s.heap.push kC).push (mM C s.heap.objs.size) }:=by
 have J:(s.heap.push kC).get? s.heap.objs.size=some kC:=ba s.heap rfl
 have O:((s.heap.push kC).push (mM C s.heap.objs.size)).get? (s.heap.objs.size+1)=some (mM C s.heap.objs.size):=by
  have:=ba (s.heap.push kC) (o:=mM C s.heap.objs.size) rfl
  rwa [mx] at this
 have U:(s.heap.push kC).Ns s.heap.objs.size (λ_=>none):=⟨kC,#[],_,J,rfl,(λe Y=>absurd Y (by simp)),λ_=>rfl⟩
 have Z:=I.laid (a:=s.heap.objs.size) (o:=.own (s.heap.objs.size+1)) (h':=s.heap.push kC) (t':=s.toks) (λb u q=>ai _ q) (a8 _) ⟨_,J⟩
 refine Z.laid (a:=s.heap.objs.size+1) (o:=.ins C s.heap.objs.size []) (t':=s.toks) (λb u q=>ai _ q) (NO (mx _ _)) ?_
 have ne:s.heap.objs.size≠s.heap.objs.size+1:=cx (xp _)
 refine⟨by rw[aC ne,aZ],eD _,ne,O,λ_=>none,(Heap.Ns1.of_empty U).at λo q=>ai _ q,λ_=>mf,λy hy=>absurd rfl hy⟩
def W8{prog:cw}{env:Env}{f:Str}{pos:Pos}(hb:vc e f env (gN e env)=gN e env)
  (h:a9 (cy prog w) A (gN e env) (λo s₁=>a9 (cy prog w) A (getAttr o f true) Q E s₁) E s):a9 (cy prog w) A (gN (.Attribute e f pos) env) Q E s :=
 Attribute_any_ h (by rw[arm_eval_Attribute,hb])
end
def afm(K:ag)(ta:TE)(f:Str):TE:=λσ H Q=>ta σ H λx H1=>∃a C dx fs v,x=.ref a/\H1 a=some (.ins C dx fs)/\KJ K C/\lH K C f/\fs.lookup f=some v/\Q v H1
def afn(K:ag)(ta tv:TE)(f:Str):TS:=λD σ H=>tv σ H λy H1=>ta σ H1 λx H2=>∃a C dx fs,x=.ref a/\H2 a=some (.ins C dx fs)/\KJ K C/\lH K C f/\fs.length<1000 /\
 D.nx σ (upd H2 a (.ins C dx (jO f y fs)))
section
variable{X:Cx}{o e value:eT}{f:Str}{pos pos' tpos:Pos}{ta tv:TE}
def abd(he:PE X e ta)(hb:vc e f X.env (gN e X.env)=gN e X.env):PE X (.Attribute e f pos) (afm X.K ta f):=by
 intro kL s σ H Q I h
 refine W8 hb (cC (he kL s σ H _ I h) λu s1 J=>?_)
 obtain⟨x,H1,O,U,a,C,dx,fs,v,ex,Y,c,n,l,q⟩:=J
 subst ex
 obtain rfl:u=eB a:=U
 exact Il O Y c n l λu' s2 Z ru=>⟨v,H1,Z,ru,q⟩
def Y6(ha:PE X o ta)(hv:PE X value tv)(hs:tf value (some (.Attribute o f pos')) pos.line X.env=pure false):PS X (.Assign [.Attribute o f pos'] value pos) (afn X.K ta tv f):=by
 intro kL s σ H D I h
 refine plainObj_wpAny_Assign_Attribute (cC (hv kL s σ H _ I h) λu J ⟨y,H1,O,U,q⟩=>cC (ha kL J σ H1 _ O q) λY s2 Z=>?_) hs
 obtain⟨x,H2,I2,rx,a,C,dx,fs,ex,ea,c,n,l,q2⟩:=Z
 subst ex
 obtain rfl:Y=eB a:=rx
 exact Hh I2 ea c n l U λs3 I3=>⟨σ,_,I3,q2⟩
end
section
variable{X:Cx}{kL:List (aT×Obj)}{σ:St}{H:Hp}{s:aw}{A:gu}{E:af->aw->Prop}{Q:af->aw->Prop}{c:af}{b:Bool}
inductive tE(K:ag)(H:Hp):V->af->Prop where
 |non:tE K H .non (.type "NoneType")
 |bl (x:Bool):tE K H (.bl x) (.type "bool")
 |int (i:Int):tE K H (.int i) (.type "int")
 |str (x:Str):tE K H (.str x) (.type "str")
 |flt (x:UInt64):tE K H (.flt x) (.type "float")
 |lst {a:aT} {xs:List V} (e:H a=some (.lst xs)):tE K H (.ref a) (.type "list")
 |frz {a:aT} {o:Obj} {xs:List V} (e:H a=some (.frz o (.lst xs))):tE K H (.ref a) (.type "list")
 |tup {a:aT} {xs:List V} (e:H a=some (.tup xs)):tE K H (.ref a) (.type "tuple")
 |dK {a:aT} {zp:List (Key×V)} (e:H a=some (.dK zp)):tE K H (.ref a) (.type "dict")
 |dT {a:aT} {zp:List (List Key×V)} (e:H a=some (.dT zp)):tE K H (.ref a) (.type "dict")
 |ins {a C dx:aT} {fs:List (Str×V)} (e:H a=some (.ins C dx fs)) (cl:KJ K C) (ha:ip K (.ref C) "__class__" = some (some (.builtin "object.__class__")))
   (hn:W.specialIn K (.builtin "object.__class__") "__get__" = some (some (.builtin "getset_descriptor.__get__"))) (htk:W.takesIn K (.builtin "object.__class__")=some true)
   (hm:W.mroIn K C (.type "object")=some true):tE K H (.ref a) (.ref C)
def gQ{x:V}{t:af}(I:Inv X kL σ H s)(rx:RelV x u)(ty:tE X.K H x t)(e:D7 X.K t c=some b)(h:∀tk,Q (.bool b) { s with toks:=tk }) :
  a9 (cy X.prog X.w) A (call (.builtin "isinstance") [u,c]) Q E s:=by
 cases ty with
 |non=>cases (show u=jI from rx);exact gL W.kitx_none I.qz mf e (λz=>nomatch z) h
 |bl y=>cases (show u=CF y from rx);exact gL W.kitx_bool I.qz mf e (λz=>nomatch z) h
 |int i=>obtain⟨t,q⟩:=(show ∃t,u=qq i t from rx);cases q;exact gL W.kitx_int I.qz mf e (λz=>nomatch z) h
 |str y=>obtain⟨t,q⟩:=(show ∃t,u=EN y t from rx);cases q;exact gL W.kitx_str I.qz mf e (λz=>nomatch z) h
 |flt y=>obtain⟨t,q⟩:=(show ∃t,u=Kn y t from rx);cases q;exact gL W.kitx_float I.qz mf e (λz=>nomatch z) h
 |@lst a xs ea=>
  cases (show u=eB a from rx)
  obtain⟨_,_,n,_,h1⟩:=(show bO X.prog X.w H s.heap a (.lst xs) from I.hok a _ ea)
  exact gL A3 I.qz ⟨_,h1,rfl⟩ e (λz=>nomatch z) h
 |@frz a ob xs ea=>
  cases (show u=eB a from rx)
  obtain⟨_,_,_,n,_,h1⟩:=(show bO X.prog X.w H s.heap a (.frz ob (.lst xs)) from I.hok a _ ea)
  exact gL A3 I.qz ⟨_,h1,rfl⟩ e (λz=>nomatch z) h
 |@tup a xs ea=>
  cases (show u=eB a from rx)
  obtain⟨_,_,_,p⟩:=(show bO X.prog X.w H s.heap a (.tup xs) from I.hok a _ ea)
  obtain⟨o,h1,h2,_⟩:=p
  exact gL Ap I.qz ⟨o,h1,h2⟩ e (λz=>nomatch z) h
 |@dK a zp ea=>
  cases (show u=eB a from rx)
  obtain⟨_,_,vs,_,p⟩:=(show bO X.prog X.w H s.heap a (.dK zp) from I.hok a _ ea)
  obtain⟨o,es,ep,h1,h2,_⟩:=p
  exact gL GY I.qz ⟨o,h1,h2.1⟩ e (λz=>nomatch z) h
 |@dT a zp ea=>
  cases (show u=eB a from rx)
  obtain⟨_,_,xs,_,o,es,ep,h1,h2,_⟩:=(show bO X.prog X.w H s.heap a (.dT zp) from I.hok a _ ea)
  exact gL GY I.qz ⟨o,h1,h2.1⟩ e (λz=>nomatch z) h
 |@ins a C dx fs ea cl ha hn htk hm=>
  cases (show u=eB a from rx)
  obtain⟨mA,O,_⟩:=uo I.hok ea
  obtain⟨od,J,_⟩:=O.look
  exact gL (W.kitx_own (cl.get _) cl.hd ha hn htk hm) I.qz J e (λz=>nomatch z) h
end
structure dI(k:Nat)(A:gu):Prop where
 hd:A.handled=none
 dp:A.depth+3*k+5<L0
 un:A.units+16*k+200<lP
def dI.mono{j:Nat}(r:dI k A)(h:j<=k):dI j A:=⟨r.hd,by have:=r.dp;omega,by have:=r.un;omega⟩
def dI.deeper(r:dI (k+1) A)(env:Env):dI k (A.deeper env) :=
 ⟨r.hd,by have:=r.dp;show A.depth+1+3*k+5<_;omega,by have:=r.un;show A.units+3+16*k+200<_;omega⟩
def Ho:(A.under (.builtin "type.__call__" ⟨.ref C::us,kw⟩)).depth=A.depth+1:=by
 first | rfl | simp[G0,Code.weight,Code.isCreation,Code.isGuard,Code.isCaller,Code.frames,He,guardIds]
def Gv:(A.under (.builtin "type.__call__" ⟨.ref C::us,kw⟩)).units=A.units+1:=by
 first | rfl | simp[G0,Code.cUnits,Code.frames,He]
def dI.make(r:dI (k+1) A)(C:aT)(us:List af)(kw:List (Str×af)):dI k (A.under (.builtin "type.__call__" ⟨.ref C::us,kw⟩)) :=
 ⟨r.hd,by have:=r.dp;rw[Ho];omega,by have:=r.un;rw[Gv];omega⟩
def dI.depth(r:dI k A):A.depth<L0:=by have:=r.dp;omega
def dI.units(r:dI k A):A.units+64<lP:=by have:=r.un;omega
def dI.aaC(r:dI k A):A.units<lP:=by have:=r.un;omega
def aeo:TA:=λ_ H Q=>Q [] H
def ade(ta:TE)(tr:TA):TA:=λσ H Q=>ta σ H λx H1=>tr σ H1 λxs H2=>Q (x::xs) H2
section
variable{X:Cx}{e:eT}{es:List eT}{te:TE}{t:TA}{pos:Pos}
def aaj:PA X [] aeo:=λ_ _ _ _ H Q I h=>sL ⟨[],H,I,.nil,h⟩
def VF(ha:PE X e te)(hr:PA X es t)(hs:bS (e::es) X.env=(false,gN e X.env)::bS es X.env:=by rfl):PA X (e::es) (ade te t):=by
 intro pos kL s σ H Q I h
 rw[hs]
 show a9 _ _ (NJ ((false,gN e X.env)::mN pos (bS es X.env))) _ _ s
 refine rL (cC (ha kL s σ H _ I h) λu J O=>?_)
 obtain⟨x,H1,U,Y,Z⟩:=O
 exact cC (hr pos kL J σ H1 _ U Z) λus s2 ⟨xs,H2,I2,r2,q2⟩=>⟨x::xs,H2,I2,.cons Y r2,q2⟩
def aeZ(t:TA):TE:=λσ H Q=>t σ H λxs H1=>xs.length<=cf/\∀p,H1 p=none->Q (.ref p) (upd H1 p (.tup xs))
def aey(t:TA):TE:=λσ H Q=>t σ H λxs H1=>xs.length<=cf/\∀p,H1 p=none->Q (.ref p) (upd H1 p (.lst xs))
def Zi{x1}(h:PA X es t):PE X (.Tuple es x1 pos) (aeZ t):=by
 intro kL s σ H Q I U
 refine wpAny_Tuple_spliced (cC (h pos kL s σ H _ I U) λus J ⟨xs,H1,O,r,z,q⟩=>⟨by rw[←r.length];exact z,?_⟩)
 have Y:H1 J.heap.objs.size=none:=O.hok.fresh (a8 _)
 refine⟨.ref J.heap.objs.size,upd H1 J.heap.objs.size (.tup xs),O.laid (t':=J.toks) (λb u e=>ai _ e) (a8 _) ?_,rfl,q _ Y⟩
 exact⟨z,us,r,⟨_,ba _ rfl,rfl,_,rfl,rfl⟩⟩
def aav(h:PA X es t):PE X (.List es pos) (aey t):=by
 intro kL s σ H Q I U
 refine wpAny_List_spliced (cC (h pos kL s σ H _ I U) λus J ⟨xs,H1,O,r,z,q⟩=>⟨by rw[←r.length];exact z,?_⟩)
 have Y:H1 J.heap.objs.size=none:=O.hok.fresh (a8 _)
 refine⟨.ref J.heap.objs.size,upd H1 J.heap.objs.size (.lst xs),O.laid (t':=J.toks) (λb u e=>ai _ e) (a8 _) ?_,rfl,q _ Y⟩
 exact⟨z,us,0,r,ba _ rfl⟩
end
abbrev Sp:=List V->Hp->VK->XK->Prop
abbrev Uy:=List Env->Hp->aw->XK->af->aw->Prop
structure Gs(P:cw)(w:da)(K:ag)(mg:Str->Option af)(base:fA)(A:gu)(outer:List Env)(s:aw)(H:Hp):Prop where
 frames:A.frames=some outer
 mod:Mod K mg base
 bs:∀b o,base.get? b=some o->s.heap.get? b=some o/\H b=none
 bsz:base.objs.size<=s.heap.objs.size
 qI:s.heap.FunFrames base outer
 frf:∀b∈frs outer,H b=none
 hok:oR P w H s.heap
 bare:A0 s.gens
def CE(outer:List Env)(P:cw)(w:da)(H:Hp)(s:aw)(Q:VK)(u:af)(s':aw):Prop :=
 ∃v H',s'.os=s.os/\A0 s'.gens/\Un (frs outer) [] H H' s.heap s'.heap/\oR P w H' s'.heap/\RelV v u/\Q v H'
def CR(CX:Uy)(outer:List Env)(P:cw)(w:da)(H:Hp)(s:aw)(Q:VK)(E:XK)(r:CL)(s':aw):Prop :=
 match r with
 |.ok (.ret u)=>CE outer P w H s Q u s'
 |.ok _=>False
 |.error e=>CX outer H s E e s'
structure jE(P:cw)(w:da)(K:ag)(mg:Str->Option af)(base:fA)(CX:Uy)(k:Nat)(f:aT)(fd:nr)(ps:List Str)(sp:Sp):Prop where
 len:∀vs H Q E,sp vs H Q E->vs.length=ps.length
 run:∀(A:gu) (outer:List Env) (s:aw) (H:Hp) (args:Args) (us:List af) (vs:List V) (Q:VK) (E:XK),dI k A->Gs P w K mg base A outer s H->ER s fd args (ps.zip us)->Vals vs us->sp vs H Q E ->
  rq (cy P w) A (.call (.ref f) args) (CR CX outer P w H s Q E) s
variable{mg:Str->Option af}{base:fA}{CX:Uy}{f:aT}{ps:List Str}
def jE.mono{j:Nat}{fd:nr}{sp:Sp}(F:jE P w K mg base CX j f fd ps sp)(h:j<=k) :
  jE P w K mg base CX k f fd ps sp:=⟨F.len,λA outer s H args us vs Q E hr=>F.run A outer s H args us vs Q E (hr.mono h)⟩
def Gs.make{outer:List Env}(e:Gs P w K mg base A outer s H)(C:aT)(us:List af)(kw:List (Str×af)) :
  Gs P w K mg base (A.under (.builtin "type.__call__" ⟨.ref C::us,kw⟩)) outer s H:=⟨by first | exact e.frames | (simpa [G0,Code.envs,He,pushEnvs] using e.frames),e.mod,e.bs,e.bsz,e.qI,e.frf,e.hok,e.bare⟩
section
variable{X:Cx}{kL:List (aT×Obj)}{σ:St}{H:Hp}{s s':aw}
def Inv.env0(I:Inv X kL σ H s):Gs X.prog X.w X.K X.mg X.base X.A X.stack s H :=
 ⟨I.ok.frames,I.ok.mod,I.bs,ft I.ok.bsz I.sz,I.stack,I.Jz,I.hok,I.bare⟩
def Inv.after{Q:VK}(I:Inv X kL σ H s)(h:CE X.stack X.prog X.w H s Q u s'):EP X kL σ Q u s':=by
 obtain⟨v,H',os,bare,un,hok,r,q⟩:=h
 obtain⟨hh,g,d,t,J⟩:=s'
 obtain rfl:J=s.os:=os
 exact⟨v,H',I.call (h':=hh) (g':=g) (d':=d) (t':=t) (ch:=[]) un hok bare (λb z=>absurd z (by simp)),r,q⟩
end
def abW(sp:Sp)(dvs:List V)(E:XK)(t:TA):TE:=λσ H Q=>t σ H λvs H1=>sp (vs++dvs) H1 Q E
def acW(C:aT)(sp:Sp)(dvs:List V)(E:XK)(t:TA):TE:=λσ H Q=>t σ H λvs H1=>∀x dx,H1 x=none->H1 dx=none->dx≠x ->
 sp (.ref x::(vs++dvs)) (upd (upd H1 dx (.own x)) x (.ins C dx [])) (λv H2=>v=.non/\Q (.ref x) H2) E
def Binds(K:ag)(fd:nr)(ps:List Str)(ds:List af):Prop :=
 ∀(s:aw) (us:List af),K.In s.heap->(us++ds).length=ps.length->ER s fd ⟨us,[]⟩ (ps.zip (us++ds))
def Binds.all{fd:nr}(h:∀us:List af,us.length=ps.length->L1 fd ⟨us,[]⟩=pure (ps.zip us)):Binds K fd ps []:=λs us _ J=>by
 rw[i4] at J ⊢
 exact .of_eq (h us J)
def Passes(CX:Uy)(X:Cx)(E:XK):Prop:=∀(kL:List (aT×Obj)) (σ:St) (H:Hp) (s:aw) (e:af) (s':aw),Inv X kL σ H s->CX X.stack H s E e s'->X.xe e s'
section
variable{X:Cx}{CX:Uy}{k:Nat}{f C:aT}{fd:nr}{ps:List Str}{sp:Sp}{dvs:List V}{ds:List af}{E:XK}{x m:Str}{p pos apos:Pos}{e o:eT}{es:List eT}{ta:TE}{t:TA}
def Gf{Q:VK}{vs:List V}(F:jE X.prog X.w X.K X.mg X.base CX k f fd ps sp)(hr:dI k X.A)(hb:Binds X.K fd ps ds)(hd:Vals dvs ds)(hx:Passes CX X E)
  (I:Inv X kL σ H s) (r:Vals vs us) (h:sp (vs++dvs) H Q E):a9 (cy X.prog X.w) X.A (call (.ref f) us) (EP X kL σ Q) X.xe s:=by
 have O:Vals (vs++dvs) (us++ds):=r.append hd
 have U:(us++ds).length=ps.length:=by rw[←O.length];exact F.len _ _ _ _ h
 refine F1 (rS (F.run X.A X.stack s H ⟨us,[]⟩ (us++ds) (vs++dvs) Q E hr I.env0 (hb s us I.qz U) O h) λr s' J=>?_)
 cases r with
 |error e=>exact hx kL σ H s e s' I J
 |ok fl=>
  cases fl with
  |ret u=>exact I.after J
  |next=>exact mP J
  |brk=>exact mP J
  |cont=>exact mP J
def Vj(F:jE X.prog X.w X.K X.mg X.base CX k f fd ps sp)(hr:dI k X.A)(hg:Gl X x)(hm:X.mg x=some (.ref f))(hk:nX X.K (.ref f)=true)(hb:Binds X.K fd ps ds)(hd:Vals dvs ds)(hx:Passes CX X E)
  (ha:PA X (e::es) t) (hdb:(x==("__debug__" : Str))=false:=by decide) (he:bS (e::es) X.env=(false,gN e X.env)::bS es X.env:=by rfl) (hpl:(mN pos (bS es X.env)).any (·.1)=false:=by rfl) :
  PE X (.Call (.Name x p) (e::es) [] pos) (abW sp dvs E t):=by
 intro kL s σ H Q I h
 refine kK (zU I hg hm ?_ hdb)
 refine As (h₀:=X.base) I.ok.mod.kin hk (cC (ha pos kL s σ H _ I h) λus O ⟨vs,H1,J,r,q⟩=>⟨J.qz,?_⟩) he hpl
 exact Gf F hr hb hd hx J r q
structure Mk(K:ag)(C f:aT):Prop where
 makes:C6 K C=true
 init:ip K (.ref C) "__init__" = some (some (.ref f))
 fn:ze K (.ref f)=true
 kp:nX K (.ref C)=true
def QT{Q:VK}{vs:List V}(M:Mk X.K C f)(F:jE X.prog X.w X.K X.mg X.base CX k f fd ps sp)(hr:dI (k+1) X.A)(hb:Binds X.K fd ps ds)(hd:Vals dvs ds)
  (hx:Passes CX X E) (I:Inv X kL σ H s) (r:Vals vs us)
  (h:∀x dx,H x=none->H dx=none->dx≠x->sp (.ref x::(vs++dvs)) (upd (upd H dx (.own x)) x (.ins C dx [])) (λv H2=>v=.non/\Q (.ref x) H2) E) :
  a9 (cy X.prog X.w) X.A (call (.ref C) us) (EP X kL σ Q) X.xe s:=by
 have U:=h (s.heap.objs.size+1) s.heap.objs.size (I.hok.fresh (Kx _)) (I.hok.fresh (a8 _)) (cx (xp _))
 have O:=Inv.made (C:=C) I
 have Y:Vals (V.ref (s.heap.objs.size+1)::(vs++dvs)) (eB (s.heap.objs.size+1)::(us++ds)):=.cons rfl (r.append hd)
 have Z:(eB (s.heap.objs.size+1)::us++ds).length=ps.length:=by
  have e:=Y.length
  rw[F.len _ _ _ _ U] at e
  exact e.symm
 refine F1 (SN (f:=f) I.qz M.makes M.init (beq_iff_eq.mp M.fn) (rS (F.run _ X.stack _ _ ⟨eB (s.heap.objs.size+1)::us,[]⟩ (eB (s.heap.objs.size+1)::(us++ds)) _ _ E (hr.make C us [])
  (O.env0.make C us []) (hb _ (eB (s.heap.objs.size+1)::us) O.qz Z) Y U) λr s' J=>?_))
 cases r with
 |error e=>exact hx kL σ _ _ e s' O J
 |ok fl=>
  cases fl with
  |ret u=>
   obtain⟨v,H',I3,rv,ev,q3⟩:=O.after J
   subst ev
   exact⟨rv,⟨V.ref (s.heap.objs.size+1),H',I3,rfl,q3⟩⟩
  |next=>exact mP J
  |brk=>exact mP J
  |cont=>exact mP J
def Xw(M:Mk X.K C f)(F:jE X.prog X.w X.K X.mg X.base CX k f fd ps sp)(hr:dI (k+1) X.A)(hg:Gl X x)(hm:X.mg x=some (.ref C))(hb:Binds X.K fd ps ds)(hd:Vals dvs ds)(hx:Passes CX X E)
  (ha:PA X (e::es) t) (hdb:(x==("__debug__" : Str))=false:=by decide) (he:bS (e::es) X.env=(false,gN e X.env)::bS es X.env:=by rfl) (hpl:(mN pos (bS es X.env)).any (·.1)=false:=by rfl) :
  PE X (.Call (.Name x p) (e::es) [] pos) (acW C sp dvs E t):=by
 intro kL s σ H Q I h
 refine kK (zU I hg hm ?_ hdb)
 refine As (h₀:=X.base) I.ok.mod.kin M.kp (cC (ha pos kL s σ H _ I h) λus O ⟨vs,H1,J,r,q⟩=>⟨J.qz,?_⟩) he hpl
 exact QT M F hr hb hd hx J r q
end
structure gJ(N P:List Str)(sc:vT):Prop where
 kind:sc.kind=.function
 co:sc.isCoroutine=false
 gen:sc.isGenerator=false
 nd:N.Nodup
 pre:N.take P.length=P
 par:∀x∈P,sc.names.lookup x=some .local\/sc.names.lookup x=some .cell
 nofree:∀y∈sc.names,y.2≠.free
theorem yp{kindOf:Str->Option Au}{x:Str}:∀ {binds:List (Str×af)} {m:Str->Option af},(∀v,(x,v)∉binds)->L4 kindOf binds m x=m x
 |[],_,_=>rfl
 |(n,v)::r,m,h=>by
  unfold L4
  rw[yp λw hw=>h w (cK _ hw)]
  split
  ·have:x≠n:=by rintro rfl;exact h v eA
   simp[this]
  ·rfl
theorem xO{kindOf:Str->Option Au}{x:Str}:∀ {binds:List (Str×af)} {m:Str->Option af},(∀v,(x,v)∉binds)->L5 kindOf binds m x=m x
 |[],_,_=>rfl
 |(n,v)::r,m,h=>by
  unfold L5
  rw[xO λw hw=>h w (cK _ hw)]
  split
  ·rfl
  ·have:x≠n:=by rintro rfl;exact h v eA
   simp[this]
theorem yt{kindOf:Str->Option Au}{x:Str}{v:af}:∀ {P:List Str} {vs:List af} {i:Nat} {m:Str->Option af},P.Nodup->P[i]?=some x->vs[i]?=some v->kindOf x=some .local ->
  L4 kindOf (P.zip vs) m x=some v
 |[],_,_,_,_,h,_,_=>by simp at h
 |_::_,[],_,_,_,_,h,_=>by simp at h
 |p::P,w::vs,0,m,nd,h1,h2,hk=>by
  simp at h1 h2;subst h1;subst h2
  show L4 kindOf ((p,w)::P.zip vs) m p=_
  unfold L4
  rw[yp λv hv=>(fo.mp nd).1 (C7 hv).1,if_pos hk]
  simp
 |p::P,w::vs,i+1,m,nd,h1,h2,hk=>by
  show L4 kindOf ((p,w)::P.zip vs) m x=_
  unfold L4
  exact yt (i:=i) (fo.mp nd).2 (by simpa using h1) (by simpa using h2) hk
theorem yh{kindOf:Str->Option Au}{x:Str}{v:af}:∀ {P:List Str} {vs:List af} {i:Nat} {m:Str->Option af},P.Nodup->P[i]?=some x->vs[i]?=some v->kindOf x≠some .local ->
  L5 kindOf (P.zip vs) m x=some v
 |[],_,_,_,_,h,_,_=>by simp at h
 |_::_,[],_,_,_,_,h,_=>by simp at h
 |p::P,w::vs,0,m,nd,h1,h2,hk=>by
  simp at h1 h2;subst h1;subst h2
  show L5 kindOf ((p,w)::P.zip vs) m p=_
  unfold L5
  rw[xO λv hv=>(fo.mp nd).1 (C7 hv).1,if_neg hk]
  simp
 |p::P,w::vs,i+1,m,nd,h1,h2,hk=>by
  show L5 kindOf ((p,w)::P.zip vs) m x=_
  unfold L5
  exact yh (i:=i) (fo.mp nd).2 (by simpa using h1) (by simpa using h2) hk
def start(N:List Str)(vs:List V):St:=vs.map some++D8 (N.length-vs.length) none
def Af(CX:Uy)(P:cw)(w:da)(K:ag)(mg:Str->Option af)(base:fA)(N:List Str)(qual:Str)(scope:vT)(f:aT)(cd:af)(A:gu)(outer:List Env)(s:aw)(H:Hp)(E:XK):Cx where
 prog:=P
 w:=w
 K:=K
 mg:=mg
 base:=base
 A:=A.deeper (AA qual scope s.heap.objs.size f cd)
 N:=N
 s₀:=s
 H₀:=H
 env:=AA qual scope s.heap.objs.size f cd
 outer:=outer
 stack:=AA qual scope s.heap.objs.size f cd::outer
 ex:=[]
 calm:=true
 fn:=λ_=>true
 pn:=[]
 xe:=λe s'=>a9 (cy P w) (A.deeper (AA qual scope s.heap.objs.size f cd)) (leaving (AA qual scope s.heap.objs.size f cd) e) (λ_ s''=>CX outer H s E e s'') (λe' s''=>CX outer H s E e' s'') s'
def BZ{sc:vT}{n:Nat}(h:sc.names.lookup x=some .cell):∃c,(NA n sc.names []).lookup x=some c:=by
 have q:=CM sc.names n [] (.inl h)
 exact Option.isSome_iff_exists.mp q
def Lr{N:List Str}{qual:Str}{scope:vT}{cd:af}{outer:List Env}{s1:aw}{E:XK}{vs:List V}
  (S:gJ N ps scope) (hd:A.handled=none) (e0:Gs P w K mg base A outer s H) (hl:vs.length=ps.length) (r:Vals vs us)
  (x:InCallC s s.heap.objs.size (L4 (AA qual scope s.heap.objs.size f cd).kindOf (ps.zip us) λ_=>none) (NA (s.heap.objs.size+1) scope.names []) (L5 (AA qual scope s.heap.objs.size f cd).kindOf (ps.zip us) λ_=>none) s1) :
  Inv (Af CX P w K mg base N qual scope f cd A outer s H E) [] (start N vs) H s1:=by
 have ac:ps.length<=N.length:=by have:=congrArg D9 S.pre;rw[fm] at this;omega
 obtain⟨h1,tk,rfl,Z⟩:=x.done
 have J:∀b:aT,b∉(Af CX P w K mg base N qual scope f cd A outer s H E).ex:=λb z=>absurd (show b∈([]:List aT) from z) (by simp)
 refine⟨⟨e0.mod,S.kind,rfl,rfl,a8 _,λy z c h1 h2=>?_,λy O=>?_,λy c _ h=>?_,λ_=>hd,Around.frames_deeper e0.frames,.inr ⟨rfl,rfl⟩,λb z=>absurd z (J b),e0.bs,e0.bsz,λb _ _=>J b,λb z=>absurd z (J b),e0.qI,e0.frf⟩,
  rfl,e0.bare,Un.kept Z,⟨_,x.toInCall.ns,λi y v h1 h2 h3=>?_⟩,λy c h=>⟨_,x.cell y c h⟩,e0.hok.fresh (a8 _),λy c h=>?_,λp U=>absurd (show p∈([]:List (aT×Obj)) from U) (by simp),e0.hok.kept Z,?_⟩
 ·exact name_of_addr x.apart (qk h1) (qk h2)
 ·have O:scope.names.lookup y=some .cell\/scope.names.lookup y=some .free:=O
  rcases O with O | O
  ·exact BZ O
  ·exact absurd rfl (S.nofree _ (qk O))
 ·exact kn (x.above y c (qk h))
 ·have hi:i<vs.length:=by
   unfold start at h2
   by_cases hi:i<vs.length
   ·exact hi
   ·rw[fI (by simpa using hi)] at h2
    rw[B6] at h2
    split at h2 <;> cases h2
  have ha:vs[i]?=some v:=by
   unfold start at h2
   rw[gI (by simpa using hi),ay] at h2
   cases e:vs[i]? with
   |none=>rw[e] at h2;cases h2
   |some a=>rw[e] at h2;cases h2;rfl
  obtain⟨u,hu,rv⟩:=r.get ha
  have U:ps[i]?=some y:=by
   rw[←S.pre,BC (by omega)];exact h1
  have Y:ps.Nodup:=by rw[←S.pre];exact S.nd.sublist (List.take_sublist _ _)
  refine⟨u,rv,?_⟩
  rcases S.par y (df U) with k | k
  ·exact .inl ⟨k,yt Y U hu k⟩
  ·obtain⟨c,e⟩:=BZ (n:=s.heap.objs.size+1) k
   refine .inr ⟨.inl k,c,e,?_⟩
   have q:=x.cell y c e
   rw[yh Y U hu (by show scope.names.lookup y≠_;rw[k];decide)] at q
   exact q
 ·exact e0.hok.fresh (kn (x.above y c (qk h)))
 ·unfold start
  show _=N.length
  rw[ck,ae,List.length_replicate]
  omega
def ab9{name qual:Str}{params:Arguments}{body:List rj}{scope:vT}{dV kV doc pm cdv ct oc:af}{an od:Option aT}
  {osl:Array (Option af)} {N:List Str} {sp:Sp} (lk:K.lookup f=some ⟨oc,od,.func (mn name qual params body scope dV kV doc pm an cdv ct),osl⟩) (hcd:AB K cdv qual=true) (S:gJ N ps scope)
  (len:∀vs H Q E,sp vs H Q E->vs.length=ps.length)
  (hbody:∀ (A:gu) (outer:List Env) (s:aw) (H:Hp) (vs:List V) (Q:VK) (E:XK),dI k (A.deeper (AA qual scope s.heap.objs.size f cdv))→sp vs H Q E →
   ∃t,Fz (Af CX P w K mg base N qual scope f cdv A outer s H E) body t/\t { nx:=λ_ H'=>Q .non H',rt:=Q } (start N vs) H) :
  jE P w K mg base CX (k+1) f (mn name qual params body scope dV kV doc pm an cdv ct) ps sp:=by
 refine⟨len,λA outer s H args us vs Q E hr e0 hb r U=>?_⟩
 have hl:=len _ _ _ _ U
 have KX:K.In s.heap:=e0.mod.kin.keeps λb o e=>(e0.bs b o e).1
 have ac:s.heap.NoLimit:=e0.mod.nolimit.keeps λb o e=>(e0.bs b o e).1
 have O:∀y∈ps.zip us,scope.names.lookup y.1=some .local\/(scope.names.lookup y.1=some .cell/\((NA (s.heap.objs.size+1) scope.names []).lookup y.1).isSome=true):=λ⟨n,v⟩ hy=>by
  rcases S.par n (C7 hy).1 with q | q
  ·exact .inl q
  ·exact .inr ⟨q,CM _ _ _ (.inl q)⟩
 refine codeAny_call_function hr.depth (KX _ _ lk) rfl S.co S.gen rfl (W.codeRec_of KX hcd) (hb _ _ _ _ ?_)
 refine wpAny_newFunctionEnv_cells S.kind O λenv he s1 x=>?_
 subst he
 refine⟨ac.keeps x.toInCall.keep,codeAny_func ?_⟩
 obtain⟨t,ht,hq⟩:=hbody A outer s H vs Q E (hr.deeper _) U
 have I:Inv (Af CX P w K mg base N qual scope f cdv A outer s H E) [] (start N vs) H s1:=Lr S hr.hd e0 hl r x
 refine kU (ht [] s1 (start N vs) H _ I hq) (λfl s' hs=>?_) λe s' hs=>hs
 have Y:∀ {Z:St} {H':Hp} {v:V} {u:af},Inv (Af CX P w K mg base N qual scope f cdv A outer s H E) [] Z H' s'->RelV v u->Q v H'->CE outer P w H s Q u s' :=
  λ{Z H' v u} J rv q=>⟨v,H',J.os,J.bare,J.base,J.hok,rv,q⟩
 cases fl with
 |ret u=>
  obtain⟨v,Z,H',J,rv,q⟩:=hs
  exact Y J rv q
 |next=>
  obtain⟨Z,H',J,q⟩:=hs
  exact Y (v:=V.non) (u:=jI) J rfl q
 |brk=>
  obtain⟨_,_,_,q⟩:=hs
  exact mP q
 |cont=>
  obtain⟨_,_,_,q⟩:=hs
  exact mP q
section
variable{X:Cx}{x:Str}{p pos:Pos}{e:eT}{es:List eT}{t:TA}{id T:String}{r:List V->Hp->VK->Prop}
def tCB(r:List V->Hp->VK->Prop)(t:TA):TE:=λσ H Q=>t σ H λvs H1=>r vs H1 Q
def Ur(hc:d8 X (.builtin id) r)(hg:Gl X x)(hm:X.mg x=none)(hv:iF x=some (.builtin id))(ha:PA X (e::es) t)(hn:x ≠ "__name__":=by decide)(hdb:(x==("__debug__" : Str))=false:=by decide)
  (he:bS (e::es) X.env=(false,gN e X.env)::bS es X.env:=by rfl) (hpl:(mN pos (bS es X.env)).any (·.1)=false:=by rfl):PE X (.Call (.Name x p) (e::es) [] pos) (tCB r t):=by
 intro kL s σ H Q I h
 refine kK (eX I hg hm hv ?_ hn hdb)
 exact qr (cC (ha pos kL s σ H _ I h) λus J ⟨vs,H1,O,U,Y⟩=>hc kL J σ H1 vs us Q O U Y) he hpl
def N7(hc:d8 X (.type T) r)(hg:Gl X x)(hm:X.mg x=none)(hv:iF x=some (.type T))(ha:PA X (e::es) t)(hn:x ≠ "__name__":=by decide)(hdb:(x==("__debug__" : Str))=false:=by decide)
  (he:bS (e::es) X.env=(false,gN e X.env)::bS es X.env:=by rfl) (hpl:(mN pos (bS es X.env)).any (·.1)=false:=by rfl):PE X (.Call (.Name x p) (e::es) [] pos) (tCB r t):=by
 intro kL s σ H Q I h
 refine kK (eX I hg hm hv ?_ hn hdb)
 exact fe (cC (ha pos kL s σ H _ I h) λus J ⟨vs,H1,O,U,Y⟩=>hc kL J σ H1 vs us Q O U Y) he hpl
end
end L2
namespace HT
open PySem PyProof.Rows
def lexLt:List Int->List Int->Bool
 |[],[]=>false
 |[],_::_=>true
 |_::_,[]=>false
 |x::xs,y::ys=>if x=y then lexLt xs ys else decide (x<y)
def Gq(x y:Int)(xs ys:List Int):lexLt (x::xs) (y::ys)=if x=y then lexLt xs ys else decide (x<y):=rfl
def xG:lexLt [] []=false:=rfl
def wA(y:Int)(ys:List Int):lexLt [] (y::ys)=true:=rfl
def uQ(x:Int)(xs:List Int):lexLt (x::xs) []=false:=rfl
def QR(A:gu)(s:aw)(a:Int)(t:Tok)(c:Int)(u:Tok):∃e,Pm A s (.int a t) (.int c u) e/\(e=true↔a=c) :=
 ⟨(a==c),SeqAt.EqAt.int_int a t c u,by simp⟩
def Qh(A:gu)(s:aw)(a:Int)(t:Tok)(c:Int)(u:Tok)(prog:cw)(w:da)(E:af->aw->Prop)(Q:af->aw->Prop)(h:Q (.bool (decide (a<c))) s) :
  a9 (cy prog w) A (richCompare .Lt (.int a t) (.int c u)) Q E s :=
 (Pd h:a9 (cy prog w) A (iA .Lt (.int a t) (.int c u)) Q E s)
section
open PySem.SeqAt
open PySem.AutoSeq1 (wpAny_loadPart')
open PySem.MeetsSeq PySem.MeetsSeq2 PySem.MeetsSeq3
def xK(l b:aT)(items items2:Array af)(n n2:Nat)(dd dd2:Option aT)(sl sl2:Array (Option af))(ns ms:List Int)(hi:mr items.toList ns)(hj:mr items2.toList ms) :
  Meets (md.«tuple.__lt__» ⟨[.ref l,.ref b],[]⟩)
   (λ_ R s => s.heap.get? l = some { cls:=.type "tuple",dict:=dd,data:=.seq items n,slots:=sl }∧s.heap.get? b = some { cls:=.type "tuple",dict:=dd2,data:=.seq items2 n2,slots:=sl2 } ∧
    R (.ok (.ret (.bool (lexLt ns ms)))) s) :=
 .of_wp λprog w A R s h=>by
  obtain⟨hp,g,d,tk,os⟩:=s;obtain⟨hl,hb,h⟩:=h
  have f2:=AutoSeq1.sub_tuple_tuple
  have z1:items.size=ns.length:=by rw[←hi.length];simp
  have z2:items2.size=ms.length:=by rw[←hj.length];simp
  wp_walk using KW hl,KW hb,xt _ (λrest b s'=>b.1=none/\s'=⟨hp,g,d,tk,os⟩/\∃(vs ws:List af) (O U:List Int),rest=vs.zip ws /\
   mr vs O/\mr ws U/\O.length+items2.size=U.length+items.size/\R (.ok (.ret (.bool (lexLt O U)))) ⟨hp,g,d,tk,os⟩) _
  case turn=>
   rintro⟨y,x⟩ rest b s' ⟨al,rfl,vs,ws,O,U,Y,am,Z,J,hR⟩
   cases am with
   |nil=>rw[List.zip_nil_left] at Y;cases Y
   |cons a t hvi'=>
    cases Z with
    |nil=>rw[ki] at Y;cases Y
    |cons c u hwi'=>
     rw[g7] at Y
     injection Y with hyx hrest
     injection hyx with hy hx
     subst hy hx
     rw[Gq] at hR
     simp only[bE] at J
     obtain⟨e,he,ac⟩:=QR A.in1 ⟨hp,g,d,tk,os⟩ a t c u
     refine ab (he prog w _ _ ?_)
     cases e with
     |true=>
      rw[if_pos (ac.mp rfl)] at hR
      wp_walk
      exact⟨rfl,rfl,_,_,_,_,hrest,hvi',hwi',by omega,hR⟩
     |false=>
      rw[if_neg (λq=>absurd (ac.mpr q) ff)] at hR
      have ap:=Qh A.in1 ⟨hp,g,d,tk,os⟩ a t c u prog w
      wp_walk using ap
      exact⟨_,rfl,by simpa using hR⟩
  case fin=>
   rintro⟨b1,b2⟩ s' ⟨al,rfl,vs,ws,O,U,Y,am,Z,J,hR⟩
   simp only at al
   subst al
   have hv:lexLt O U=decide (items.size<items2.size):=by
    cases am with
    |nil=>
     cases Z with
     |nil=>
      simp only[lS] at J
      rw[xG]
      exact (decide_eq_false (by omega)).symm
     |cons c u hw=>
      simp only[lS,bE] at J
      rw[wA]
      exact (decide_eq_true (by omega)).symm
    |cons a t hv=>
     cases Z with
     |nil=>
      simp only[lS,bE] at J
      rw[uQ]
      exact (decide_eq_false (by omega)).symm
     |cons c u hw=>
      rw[g7] at Y
      cases Y
   rw[hv] at hR
   wp_walk
   exact⟨_,rfl,by simpa [IJ] using hR⟩
  case h=>
   exact⟨rfl,rfl,items.toList,items2.toList,ns,ms,rfl,hi,hj,by omega,h⟩
end
section
variable{prog:cw}{w:da}{A:gu}{E:af->aw->Prop}{s:aw}
def Hu{l b:aT}{items items2:Array af}{ns ms:List Int}{Q:af->aw->Prop}(hl:PM s.heap l items)(hb:PM s.heap b items2)(hi:mr items.toList ns)(hj:mr items2.toList ms)
  (hu:A.units<lP) (h:Q (.bool (lexLt ns ms)) s):a9 (cy prog w) A (iA .Lt (.ref l) (.ref b)) Q E s:=by
 obtain⟨⟨cls,dd,data,sl⟩,ho,hc,n,hd⟩:=id hl
 obtain⟨⟨al,Y,Z,ac⟩,J,O,n2,U⟩:=id hb
 simp only at hc hd O U
 subst hc hd O U
 exact richCompare_meets_room (op:=.Lt) ⟨_,ho,rfl⟩ ⟨_,J,rfl⟩ F.slot_tuple_lt F.entry_tuple_lt (F.args_tuple_lt_2 _ _) (xK l b items items2 n n2 dd Y sl ac ns ms hi hj)
  ⟨ho,J,show CF (lexLt ns ms)≠Value.notImplemented/\Q (.bool (lexLt ns ms)) s from ⟨(λx=>nomatch x),h⟩⟩ hu
def c7(n d:Nat):Option Int->Nat
 |none=>d
 |some v=>if v<0 then (v+(n:Int)).toNat else min v.toNat n
def abJ(n d:Nat)(hd:d<=n)(o:Option Int):c7 n d o<=n:=by
 cases o with
 |none=>exact hd
 |some v=>
  show (if v<0 then (v+(n:Int)).toNat else min v.toNat n)<=n
  by_cases hv:v<0
  ·rw[if_pos hv];omega
  ·rw[if_neg hv];exact IT _ _
def Kl(v:Int)(n d:Nat):(if v<0 then max (v+(n:Int)) 0 else min v (n:Int))=((c7 n d (some v):Nat):Int):=by
 show (if v<0 then max (v+(n:Int)) 0 else min v (n:Int))=(((if v<0 then (v+(n:Int)).toNat else min v.toNat n):Nat):Int)
 by_cases hv:v<0
 ·simp only[if_pos hv];omega
 ·simp only[if_neg hv];omega
def HD(lo hi:Option Int)(n:Nat):tS lo hi 1 (n:Int)=(((c7 n 0 lo:Nat):Int),((c7 n n hi:Nat):Int)):=by
 have h1:¬((1:Int)<0):=by omega
 unfold tS
 simp only[h1,if_false]
 refine aI ?_ ?_
 ·cases lo with
  |none=>rfl
  |some v=>exact Kl v n 0
 ·cases hi with
  |none=>rfl
  |some v=>exact Kl v n n
def HJ(i j:Nat):oq (i:Int) (j:Int) 1=j-i:=by
 unfold oq
 have h1:(1:Int)>0:=by omega
 simp only[h1,if_true,Int.ediv_one]
 split <;> omega
def v7{v:af}{o:Option Int}{Q:Option Int->aw->Prop}(p:F2 v o)(h:Q o s):a9 (cy prog w) A (K2 v) Q E s:=by
 cases p with
 |none=>exact L6 h
 |int i t=>exact slicePart_int h
def rD{sl:aT}{vl vu:af}{lo hi:Option Int}{n:Nat}{Q:Int×Int×Nat->aw->Prop}(hs:s.heap.IsSliceOf sl vl vu .none)(pl:F2 vl lo)(pu:F2 vu hi)
  (h:Q (((c7 n 0 lo:Nat):Int),1,c7 n n hi-c7 n 0 lo) s):a9 (cy prog w) A (AD (.ref sl) (pure (n:Int))) Q E s:=by
 obtain⟨os,J,U,O⟩:=id hs
 unfold AD MS
 refine ab (ab (fq J O (x:=vl) rfl (ab (fq J O (x:=vu) rfl (ab (fq J O (x:=.none) rfl (av ?_)))))))
 refine ab (L6 ?_)
 show a9 _ _ (if ((1:Int)==0)=true then _ else _) _ _ s
 rw[if_neg (by decide)]
 refine ab (v7 pl (ab (v7 pu (ab (av ?_)))))
 show a9 _ _ (match tS lo hi 1 (n:Int) with | (lo,hi)=>pure (lo,(1:Int),oq lo hi 1)) _ _ s
 rw[HD lo hi n]
 show a9 _ _ (pure (((c7 n 0 lo:Nat):Int),(1:Int),oq ((c7 n 0 lo:Nat):Int) ((c7 n n hi:Nat):Int) 1)) _ _ s
 rw[HJ]
 exact av h
def QS(xs:Array af)(i k:Nat):((bo k).filterMap λ(m:Nat)=>xs[((i:Int)+(m:Int)*1).toNat]?).toArray=((xs.toList.drop i).take k).toArray:=by
 have e:(λ(m:Nat)=>xs[((i:Int)+(m:Int)*1).toNat]?)=λm=>xs[i+m]?:=by
  funext m
  have:((i:Int)+(m:Int)*1).toNat=i+m:=by omega
  rw[this]
 rw[e]
 have:=OO xs i k
 rw[List.filterMap_map] at this
 have J:((λx=>xs[x]?)∘λx=>i+x)=λm=>xs[i+m]?:=rfl
 rw[J] at this
 rw[this]
def oZ{t sl:aT}{items:Array af}{vl vu:af}{lo hi:Option Int}{Q:af->aw->Prop}(ht:PM s.heap t items)(hs:s.heap.IsSliceOf sl vl vu .none)(pl:F2 vl lo)(pu:F2 vu hi)
  (hw:¬(c7 items.size 0 lo=0/\c7 items.size items.size hi=items.size))
  (h:Q (.ref s.heap.objs.size) { s with heap:=s.heap.push { cls:=.type "tuple",data:=.seq ((items.toList.drop (c7 items.size 0 lo)).take (c7 items.size items.size hi-c7 items.size 0 lo)).toArray } })
  (hsz:items.size<=cf):a9 (cy prog w) A (A4 (.ref t) (.ref sl)) Q E s:=by
 have J:sizeOk (.seq ((items.toList.drop (c7 items.size 0 lo)).take (c7 items.size items.size hi-c7 items.size 0 lo)).toArray):=by
  show ((items.toList.drop (c7 items.size 0 lo)).take (c7 items.size items.size hi-c7 items.size 0 lo)).toArray.size<=cf
  rw[c6,fm,i6,cS]
  omega
 have hj:c7 items.size items.size hi<=items.size:=abJ _ _ (a8 _) hi
 obtain⟨os,O,U,ac⟩:=id hs
 have Y:s.TypeIs (.ref sl) "slice":=⟨os,O,U⟩
 unfold A4
 try with_reducible refine gz ?_
 first | refine ab (av ?_) | skip
 refine ab (wpAny_sequenceKey ht.typeIs (by decide) ?_)
 refine ab (fb (name:=fE "__getitem__") ht.typeIs qh
  (fN qh ht.typeIs entry_tuple_getitem ?_ (args_tuple_getitem _ _)))
 show a9 _ _ (L7 (.ref t) >>= _) _ _ s
 refine ab (tupleItemsOf_ ht ?_)
 refine ab (we Y ?_)
 rw[if_pos (by decide)]
 refine ab (rD hs pl pu ?_)
 have Z:¬((((c7 items.size 0 lo:Nat):Int)==0&&(1:Int)==1&&(c7 items.size items.size hi-c7 items.size 0 lo)==items.size)=true):=by
  intro q
  rw[tm,tm] at q
  have q1:((c7 items.size 0 lo:Nat):Int)=0:=eq_of_beq q.1.1
  have q2:c7 items.size items.size hi-c7 items.size 0 lo=items.size:=eq_of_beq q.2
  exact hw ⟨by omega,by omega⟩
 show a9 _ _ (if (((c7 items.size 0 lo:Nat):Int)==0&&(1:Int)==1&&(c7 items.size items.size hi-c7 items.size 0 lo)==items.size)=true then _ else _) _ _ s
 rw[if_neg Z,QS]
 first
  |exact ab (m:=pS _) (fR (av ⟨_,rfl,av h⟩) J)
  |exact ab (m:=pS _) (fR (ab (av (av ⟨_,rfl,av h⟩))) J)
  |exact ab (ab (m:=pS _) (fR (av (av ⟨_,rfl,av h⟩)) J))
  |exact ab (ab (m:=pS _) (fR (av ⟨_,rfl,av h⟩) J))
end
end HT
namespace L2
open PySem PySem.Spec PyProof.Rows
abbrev TO:=St->Hp->(Option Int->Hp->Prop)->Prop
def PO(X:Cx)(e:Option eT)(t:TO):Prop :=
 ∀(kL:List (aT×Obj)) (s:aw) (σ:St) (H:Hp) (Q:Option Int->Hp->Prop),Inv X kL σ H s->t σ H Q ->
  a9 (cy X.prog X.w) X.A (evalPart e X.env) (λu s'=>∃o H',Inv X kL σ H' s'/\F2 u o/\Q o H') X.xe s
def V8:TO:=λ_ H Q=>Q none H
def ach(t:TE):TO:=λσ H Q=>t σ H λx H1=>∃i,x=.int i/\Q (some i) H1
def intsAre_of{ns:List Int}:∀ {us:List af},Vals (ns.map V.int) us->mr us ns:=by
 induction ns with
 |nil=>intro us r;rw[ny] at r;cases r;exact .nil
 |cons n ns ih=>
  intro us r
  rw[aE] at r
  cases r with
  |cons r1 r2=>
   obtain⟨t,e⟩:=r1
   subst e
   exact .cons n t (ih r2)
section
variable{X:Cx}{e:eT}{te:TE}{lo hi:Option eT}{tl th:TO}{pos p2:Pos}
def VP:PO X none V8:=by
 intro kL s σ H Q I h
 rw[evalPart_none]
 exact av ⟨none,H,I,.none,h⟩
def V5(h:PE X e te):PO X (some e) (ach te):=by
 intro kL s σ H Q I J
 rw[evalPart_some]
 refine cC (h kL s σ H _ I J) λu s1 O=>?_
 obtain⟨x,H1,U,Y,Z⟩:=O
 obtain⟨i,rfl,q⟩:=Z
 obtain⟨t,rfl⟩:=Y
 exact⟨some i,H1,U,.int i t,q⟩
def YD(X:Cx)(r:V->Option Int->Option Int->Hp->VK->Prop):Prop :=
 ∀(kL:List (aT×Obj)) (s:aw) (σ:St) (H:Hp) (x:V) (v vl vu:af) (lo hi:Option Int) (sl:aT) (Q:VK),Inv X kL σ H s->RelV x v->s.heap.IsSliceOf sl vl vu .none->F2 vl lo->F2 vu hi->r x lo hi H Q ->
  ∃T id,xw (.type T) "__getitem__" = pure (some (.builtin id))/\s.TypeIs v T/\a9 (cy X.prog X.w) X.A (A4 v (.ref sl)) (EP X kL σ Q) X.xe s
def tSl(r:V->Option Int->Option Int->Hp->VK->Prop)(te:TE)(tl th:TO):TE:=λσ H Q=>te σ H λx H1=>tl σ H1 λl H2=>th σ H2 λu H3=>r x l u H3 Q
def TQ{r:V->Option Int->Option Int->Hp->VK->Prop}(hr:YD X r)(he:PE X e te)(hl:PO X lo tl)(hu:PO X hi th):PE X (.Subscript e (.Slice lo hi none p2) pos) (tSl r te tl th):=by
 intro kL s σ H Q I h
 refine L8 (cC (he kL s σ H _ I h) λv Z Y=>?_)
 obtain⟨x,H1,I1,r1,q1⟩:=Y
 refine wpAny_Slice (cC (hl kL Z σ H1 _ I1 q1) λO s2 ⟨l,H2,I2,pl,q2⟩=>cC (hu kL s2 σ H2 _ I2 q2) λU J Y=>?_)
 obtain⟨u,H3,I3,pu,q3⟩:=Y
 rw[evalPart_none]
 refine av ?_
 have I4:Inv X kL σ H3 { J with heap:=J.heap.push { cls:=.type "slice",data:=.fields #[O,U,.none] } }:=I3.kept (t':=J.toks) λb ob q=>ai _ q
 obtain⟨T,id,hT,ht,hg⟩:=hr kL { J with heap:=J.heap.push { cls:=.type "slice",data:=.fields #[O,U,.none] } } σ H3 x v O U l u J.heap.objs.size Q I4 r1 (Po ..) pl pu q3
 show a9 (cy X.prog X.w) X.A (FC e (.Slice lo hi none p2) v (.ref J.heap.objs.size)) (EP X kL σ Q) X.xe { J with heap:=J.heap.push { cls:=.type "slice",data:=.fields #[O,U,.none] } }
 exact tail_any (ops:=[.ref J.heap.objs.size,v]) ht hT hg (by with_unfolding_all rfl)
def Cj(xs:List V)(lo hi:Option Int):List V:=(xs.drop (HT.c7 xs.length 0 lo)).take (HT.c7 xs.length xs.length hi-HT.c7 xs.length 0 lo)
def rQ(xs:List V)(lo hi:Option Int):(Cj xs lo hi).length<=xs.length:=by
 unfold Cj
 rw[fm,i6]
 exact ft (IT _ _) (Pp _ _)
def aeO(K:ag):V->Option Int->Option Int->Hp->VK->Prop:=λx lo hi H Q=>∃a xs,x=.ref a/\jC K H a xs /\
 ¬(HT.c7 xs.length 0 lo=0/\HT.c7 xs.length xs.length hi=xs.length)/\∀p,H p=none->Q (.ref p) (upd H p (.tup (Cj xs lo hi)))
def Ze:YD X (aeO X.K):=by
 intro kL s σ H x v vl vu lo hi sl Q I Y hs pl Z h
 obtain⟨a,xs,rfl,hx,hw,q⟩:=h
 cases Y
 obtain⟨its,r,O,U⟩:=I.tuple hx
 have J:its.toArray.size=xs.length:=by rw[c6];exact r.length.symm
 refine⟨"tuple",_,qh.lookup,O.typeIs,?_⟩
 refine HT.oZ O hs pl Z (by rw[J];exact hw) ?_ (by rw[J];exact U)
 rw[J]
 refine⟨.ref s.heap.objs.size,_,I.laid (t':=s.toks) (o:=.tup (Cj xs lo hi)) (λb ob q=>ai _ q) (a8 _) ?_,rfl,q _ (I.hok.fresh (a8 _))⟩
 exact⟨ft (rQ xs lo hi) U,_,(r.drop (HT.c7 xs.length 0 lo)).take (HT.c7 xs.length xs.length hi-HT.c7 xs.length 0 lo),z9.new _ _⟩
def afR(K:ag):R2:=λx y H Q=>∃a b ns ms,x=.ref a/\y=.ref b/\jC K H a (ns.map V.int)/\jC K H b (ms.map V.int)/\Q (.bl (HT.lexLt ns ms)) H
def aa1(hu:X.A.units<lP):ir X (iA .Lt) (afR X.K):=by
 intro kL s σ H x y v u Q I O U h
 obtain⟨a,b,ns,ms,rfl,rfl,Y,Z,q⟩:=h
 cases O
 cases U
 obtain⟨its,r1,p1,_⟩:=I.tuple Y
 obtain⟨J,r2,p2,_⟩:=I.tuple Z
 have i1:mr its.toArray.toList ns:=intsAre_of r1
 have i2:mr J.toArray.toList ms:=intsAre_of r2
 exact HT.Hu p1 p2 i1 i2 hu ⟨.bl (HT.lexLt ns ms),H,I,rfl,q⟩
end
def Ov(n:Nat)(i:Int):Option Nat:=if 0<=i then (if i<n then some i.toNat else none) else if -(n:Int)<=i then some (i+n).toNat else none
def jU{α:Type}(xs:List α)(i:Int):Option α:=(Ov xs.length i).bind λj=>xs[j]?
variable{n:Nat}
def Vd{i:Int}{j:Nat}(h:Ov n i=some j):ES i n=some j/\j<n/\-(n:Int)<=i/\i<n:=by
 unfold Ov at h
 by_cases h0:0<=i
 ·rw[if_pos h0] at h
  by_cases h1:i<n
  ·rw[if_pos h1] at h
   have e:i.toNat=j:=Option.some.inj h
   exact⟨by rw[seqIndex_of h0 h1,e],by omega,by omega,h1⟩
  ·rw[if_neg h1] at h;cases h
 ·rw[if_neg h0] at h
  by_cases h1 : -(n:Int)<=i
  ·rw[if_pos h1] at h
   have e:(i+n).toNat=j:=Option.some.inj h
   exact⟨by rw[seqIndex_neg (by omega) h1,e],by omega,h1,by omega⟩
  ·rw[if_neg h1] at h;cases h
def zf{α:Type}{xs:List α}{i:Int}{v:α}(h:jU xs i=some v):∃j,ES i xs.length=some j/\xs[j]?=some v/\j<xs.length/\-(xs.length:Int)<=i/\i<xs.length:=by
 unfold jU at h
 cases e:Ov xs.length i with
 |none=>rw[e] at h;cases h
 |some j=>
  rw[e] at h
  obtain⟨h1,h2,J,O⟩:=Vd e
  exact⟨j,h1,h,h2,J,O⟩
def Jj(b:eT):Prop:=∀o i,Ee b false o i=operate [o,i] (A4 o i)
def IxR(X:Cx)(r:R2):Prop :=
 ∀(value slice:eT) (kL:List (aT×Obj)) (s:aw) (σ:St) (H:Hp) (x y:V) (v u:af) (Q:VK),Inv X kL σ H s->RelV x v->RelV y u->r x y H Q ->
  Ee slice false v u=operate [v,u] (A4 v u)->a9 (cy X.prog X.w) X.A (FC value slice v u) (EP X kL σ Q) X.xe s
def Vz(X:Cx)(id:String)(r:V->List V->Hp->VK->Prop):Prop :=
 ∀(kL:List (aT×Obj)) (s:aw) (σ:St) (H:Hp) (x:V) (xs:List V) (v:af) (us:List af) (Q:VK),Inv X kL σ H s->RelV x v->Vals xs us->r x xs H Q ->
  a9 (cy X.prog X.w) X.A (call (.builtin id) (v::us)) (EP X kL σ Q) X.xe s
section
variable{X:Cx}{a b:eT}{ta tb:TE}{pos:Pos}
def ac4{r:R2}(hr:IxR X r)(ha:PE X a ta)(hb:PE X b tb)(hs:Jj b):PE X (.Subscript a b pos) (tOp r ta tb):=by
 intro kL s σ H Q I h
 exact L8 (abv ha hb I h λv u J x y H2 O U Y q=>hr a b kL J σ H2 x y v u Q O U Y q (hs _ _))
def ae3(K:ag):R2:=λx y H Q=>∃p xs i v,x=.ref p/\y=.int i/\cV K H p xs/\jU xs i=some v/\Q v H
def aeq(K:ag):R2:=λx y H Q=>∃p xs i v,x=.ref p/\y=.int i/\jC K H p xs/\jU xs i=some v/\Q v H
def afx:R2:=λx y H Q=>∃z i c,x=.str z/\y=.int i/\z.length<=cf/\jU z.cps.toList i=some c/\Q (.str ⟨#[c]⟩) H
def Jl:IxR X (ae3 X.K):=by
 intro value O kL s σ H x y v u Q I rx ry h hs
 obtain⟨p,xs,i,z,rfl,rfl,hq,he,q⟩:=h
 cases rx
 obtain⟨t,rfl⟩:=ry
 obtain⟨its,r,pl,hz⟩:=I.list hq
 obtain⟨j,h1,h2,h3,h4,h5⟩:=zf he
 obtain⟨w,Z,U⟩:=r.get h2
 have hl:=r.length
 have hn:=vR
 have J:EP X kL σ Q w s:=⟨z,H,I,U,q⟩
 by_cases h0:0<=i
 ·have Y:i.toNat=j:=by
   rw[seqIndex_of h0 h5] at h1
   exact Option.some.inj h1
  exact item_listR pl.isList h0 (by omega) (by rw[Y];simpa using Z) J hs
 ·have Y:(i+(its.toArray.size:Int)).toNat=j:=by
   rw[seqIndex_neg (by omega) h4] at h1
   rw[c6,←hl]
   exact Option.some.inj h1
  exact CO (x:=w) pl.isList.typeIs slot_list_getitem.lookup
   (wpAny_getItem_list_neg (Q:=λr s'=>r=w/\EP X kL σ Q r s') pl.isList (by omega) (by rw[c6] <;> omega) (by omega) (by rw[Y];simpa using Z) ⟨rfl,J⟩) hs
def Rt:IxR X (aeq X.K):=by
 intro value J kL s σ H x y v u Q I Y Z h hs
 obtain⟨p,xs,i,z,rfl,rfl,hq,he,q⟩:=h
 cases Y
 obtain⟨t,rfl⟩:=Z
 obtain⟨its,r,pl,hz⟩:=I.tuple hq
 obtain⟨j,h1,h2,h3,h4,h5⟩:=zf he
 obtain⟨w,ew,O⟩:=r.get h2
 have hl:=r.length
 have hn:=vR
 have U:EP X kL σ Q w s:=⟨z,H,I,O,q⟩
 exact CO (x:=w) pl.typeIs slot_tuple_getitem.lookup
  (getItem_tuple (j:=j) (Q:=λr s'=>r=w/\EP X kL σ Q r s') pl (by omega) (by omega) (by rw[c6,←hl];exact h1) (by simpa using ew) ⟨rfl,U⟩) hs
def abr:IxR X afx:=by
 intro value J kL s σ H x y v u Q I O U h hs
 obtain⟨z,i,c,rfl,rfl,hz,Y,q⟩:=h
 obtain⟨t,rfl⟩:=O
 obtain⟨t',rfl⟩:=U
 obtain⟨j,h1,h2,h3,Z,h5⟩:=zf Y
 have hl:z.cps.toList.length=z.length:=by simp[L9]
 rw[hl] at h1 Z h5
 have hn:=vR
 exact tail_any (Mb s z t) slot_str_getitem.lookup (getItem_str (c:=c) (by
  have e1:decide (i < -(2 ^ 63:Int))=false:=decide_eq_false (by omega)
  have e2:decide (i≥2 ^ 63)=false:=decide_eq_false (by omega)
  rw[e1,e2,Bool.or_false]) (by rw[h1];simpa using h2) ⟨.str ⟨#[c]⟩,H,I.tok _,⟨_,rfl⟩,q⟩) hs
def zM(lo hi:Option Int)(n:Nat):(KG lo hi none n).1=((HT.c7 n 0 lo:Nat):Int)/\(KG lo hi none n).2.1=((HT.c7 n n hi:Nat):Int)/\(KG lo hi none n).2.2=1:=by
 have one:∀i:Int,max 0 (min (if i<0 then i+(n:Int) else i) (n:Int))=(((if i<0 then (i+(n:Int)).toNat else min i.toNat n):Nat):Int):=λi=>by
  by_cases h:i<0
  ·rw[if_pos h,if_pos h,Int.toNat_eq_max,Lc (by have z:=Int.add_le_add_right (zh h) (n:Int);rwa [ko] at z),Int.max_comm]
  ·rw[if_neg h,if_neg h]
   obtain⟨m,rfl⟩:=fT (Int.not_lt.mp h)
   rw[eP]
   rcases Nat.le_total m n with z | z
   ·rw[Lc (NR.mpr z),Ll z];exact IU (F3 _)
   ·rw[Int.min_eq_right (NR.mpr z),Nat.min_eq_right z];exact IU (F3 _)
 refine⟨?_,?_,rfl⟩
 ·cases lo with
  |none=>rfl
  |some i=>exact one i
 ·cases hi with
  |none=>rfl
  |some i=>exact one i
def xj(its:List af)(lo hi:Option Int):slicePick its.toArray lo hi none=((its.drop (HT.c7 its.length 0 lo)).take (HT.c7 its.length its.length hi-HT.c7 its.length 0 lo)).toArray:=by
 obtain⟨h1,h2,J⟩:=zM lo hi its.toArray.size
 unfold slicePick
 rw[h1,h2,J]
 simp only[Mc,OO,c6] <;> rfl
def aeF(K:ag):V->Option Int->Option Int->Hp->VK->Prop:=λx lo hi H Q=>∃a xs,x=.ref a/\cV K H a xs/\∀p,H p=none->Q (.ref p) (upd H p (.lst (Cj xs lo hi)))
def Wc:YD X (aeF X.K):=by
 intro kL s σ H x v vl vu lo hi sl Q I U hs pl Y h
 obtain⟨a,xs,rfl,Z,q⟩:=h
 cases U
 obtain⟨its,r,O,hz⟩:=I.list Z
 have J:=r.length
 refine⟨"list",_,slot_list_getitem.lookup,O.isList.typeIs,?_⟩
 refine wpAny_getItem_list_slice O.isList hs pl Y .none (by simp) ?_ (by rw[c6] <;> omega)
 rw[xj,←J]
 refine⟨.ref s.heap.objs.size,_,I.laid (t':=s.toks) (o:=.lst (Cj xs lo hi)) (λb ob q=>ai _ q) (a8 _) ?_,rfl,q _ (I.hok.fresh (a8 _))⟩
 exact⟨ft (rQ xs lo hi) hz,_,0,(r.drop (HT.c7 xs.length 0 lo)).take (HT.c7 xs.length xs.length hi-HT.c7 xs.length 0 lo),ba _ rfl⟩
def jR:d8 X (.builtin "len") (λxs H Q=>∃p ys,xs=[.ref p]/\(cV X.K H p ys\/jC X.K H p ys)/\Q (.int ys.length) H):=by
 intro kL s σ H xs us Q I r h
 obtain⟨p,ys,rfl,O,q⟩:=h
 obtain⟨u,rfl,Y⟩:=vals1 r
 cases Y
 have hn:=vR
 rcases O with O | O
 ·obtain⟨its,U,pl,Z⟩:=I.list O
  have J:=U.length
  exact Calls.call_len_list pl.isList (by simp only[c6] <;> omega) ⟨.int ys.length,H,I.tok _,⟨s.toks+1,by rw[c6,J]⟩,q⟩
 ·obtain⟨its,U,pl,Z⟩:=I.tuple O
  have J:=U.length
  exact len_tuple pl (by simp only[c6] <;> omega) ⟨.int ys.length,H,I.tok _,⟨s.toks+1,by rw[c6,J]⟩,q⟩
def Bp:d8 X (.builtin "len") (λxs H Q=>∃z,xs=[.str z]/\z.length<=cf/\Q (.int z.length) H):=by
 intro kL s σ H xs us Q I r h
 obtain⟨z,rfl,J,q⟩:=h
 obtain⟨u,rfl,t,rfl⟩:=vals1 r
 have O:=vR
 exact len_str (by omega) ⟨.int z.length,H,I.tok _,⟨_,rfl⟩,q⟩
def jJ:d8 X (.type "list") (λxs H Q=>∃p ys,xs=[.ref p]/\(cV X.K H p ys\/jC X.K H p ys)/\∀l,H l=none->Q (.ref l) (upd H l (.lst ys))):=by
 intro kL s σ H xs us Q I r h
 obtain⟨p,ys,rfl,U,q⟩:=h
 obtain⟨u,rfl,rx⟩:=vals1 r
 cases rx
 have Y:∀(its:List af),Vals ys its->ys.length<=cf->∀(h':fA) (J:Nat),(∀b o',s.heap.get? b=some o'->h'.get? b=some o') ->
   h'.get? s.heap.objs.size=some { cls:=.type "list",dict:=none,data:=.seq its.toArray J,slots:=#[] }->EP X kL σ Q (.ref s.heap.objs.size) { s with heap:=h' }:=λits O Z h' J kp e=>
  ⟨.ref s.heap.objs.size,_,I.laid (t':=s.toks) kp (a8 _) (show bO X.prog X.w _ h' _ (.lst ys) from ⟨Z,its,J,O,e⟩),rfl,q _ (I.hok.fresh (a8 _))⟩
 rcases U with U | U
 ·obtain⟨its,O,pl,Z⟩:=I.list U
  have ac:=O.length
  obtain⟨o,ho,hc,n,hd⟩:=pl.isList
  exact call_list_seq p (.inl rfl) ho hc hd (λh' J kp e=>Y its O Z h' J kp e) (by simp only[c6] <;> omega)
 ·obtain⟨its,O,pl,Z⟩:=I.tuple U
  have ac:=O.length
  obtain⟨o,ho,hc,n,hd⟩:=pl
  exact call_list_seq p (.inr rfl) ho hc hd (λh' J kp e=>Y its O Z h' J kp e) (by simp only[c6] <;> omega)
def iZ:d8 X (.type "tuple") (λxs H Q=>∃p ys,xs=[.ref p]/\((cV X.K H p ys/\∀l,H l=none->Q (.ref l) (upd H l (.tup ys)))\/(jC X.K H p ys/\Q (.ref p) H))):=by
 intro kL s σ H xs us Q I r h
 obtain⟨p,ys,rfl,h⟩:=h
 obtain⟨u,rfl,rx⟩:=vals1 r
 cases rx
 rcases h with ⟨J,q⟩ | ⟨J,q⟩
 ·obtain⟨its,O,pl,U⟩:=I.list J
  have Y:=O.length
  refine call_tuple_list pl.isList (λh' kp=>?_) (by simp only[c6] <;> omega)
  have Z:Inv X kL σ H { s with heap:=h' }:=I.kept (t':=s.toks) kp
  have I2:Inv X kL σ (upd H h'.objs.size (.tup ys)) { s with heap:=h'.push { cls:=.type "tuple",data:=.seq its.toArray } } :=
   Z.laid (t':=s.toks) (λb o e=>ai _ e) (a8 _) (show bO X.prog X.w _ _ _ (.tup ys) from ⟨U,its,O,z9.new _ _⟩)
  exact⟨.ref h'.objs.size,_,I2,rfl,q _ (Z.hok.fresh (a8 _))⟩
 ·obtain⟨its,O,pl,U⟩:=I.tuple J
  exact call_tuple_same pl ⟨.ref p,H,I,rfl,q⟩
def tyV(K:ag)(T:String)(x:V)(H:Hp):Prop:=match x with
 |.str _=>T = "str"
 |.int _=>T = "int"
 |.ref p=>(T = "list"/\∃xs,cV K H p xs)\/(T = "tuple"/\∃o,K.lookup p=some o/\o.cls=.type "tuple"/\o.dict=none) \/
   (T = "dict"/\((∃zp,H p=some (.dK zp))\/∃zp,H p=some (.dT zp)))\/(T = "set"/\∃S n,H p=some (.set S n))
 |_=>False
def aaz{kL:List (aT×Obj)}{σ:St}{H:Hp}{s:aw}{T:String}{x:V}{v:af}(I:Inv X kL σ H s)(r:RelV x v)(ty:tyV X.K T x H) :
  s.TypeIs v T/\∀a,v=.ref a->∃ob,s.heap.get? a=some ob/\ob.dict=none:=by
 cases x with
 |str z=>
  obtain⟨t,rfl⟩:=r
  cases (show T = "str" from ty)
  exact⟨Mb s z t,λ_ e=>nomatch e⟩
 |int i=>
  obtain⟨t,rfl⟩:=r
  cases (show T = "int" from ty)
  exact⟨typeIs_int s i t,λ_ e=>nomatch e⟩
 |ref p=>
  cases r
  rcases ty with ⟨rfl,xs,U⟩ | ⟨rfl,o,J,Y,hd⟩ | ⟨rfl,J⟩ | ⟨rfl,S,n,J⟩
  ·obtain⟨its,_,pl,_⟩:=I.list U
   refine⟨pl.isList.typeIs,λa e=>?_⟩
   cases e
   obtain⟨o,n,e,c,hd,_⟩:=pl
   exact⟨o,e,hd⟩
  ·refine⟨⟨o,I.qz p o J,Y⟩,λa e=>?_⟩
   cases e
   exact⟨o,I.qz _ o J,hd⟩
  ·have z:∃o,s.heap.get? p=some o/\o.ExactDict:=by
    rcases J with ⟨zp,J⟩ | ⟨zp,J⟩
    ·obtain⟨_,_,_,_,o,_,_,e,ex,_⟩:=I.hok p _ J
     exact⟨o,e,ex⟩
    ·obtain⟨_,_,_,_,o,_,_,e,ex,_⟩:=I.hok p _ J
     exact⟨o,e,ex⟩
   obtain⟨o,e,ex⟩:=z
   refine⟨⟨o,e,ex.1⟩,λa O=>?_⟩
   cases O
   exact⟨o,e,ex.2.1⟩
  ·obtain⟨o,_,_,_,e,ex,_⟩:=I.hok p _ J
   refine⟨⟨o,e,ex.1⟩,λa O=>?_⟩
   cases O
   exact⟨o,e,ex.2.1⟩
 |_=>exact mP ty
def tBM(K:ag)(T:String)(r:V->List V->Hp->VK->Prop)(to:TE)(t:TA):TE:=λσ H Q=>to σ H λx H1=>tyV K T x H1/\t σ H1 λxs H2=>r x xs H2 Q
variable{o e:eT}{es:List eT}{to:TE}{t:TA}{name:Str}{apos cpos:Pos}{T id:String}{r:V->List V->Hp->VK->Prop}
def YH(pa:PlainAttrs T)(slot:Pw T name id)(hty:typeOf (.builtin id)=pure (.type "method_descriptor"))(hm:Vz X id r)(ho:PE X o to)(ha:PA X (e::es) t)
  (hbase:vc o name X.env (gN o X.env)=gN o X.env:=by rfl)
  (hfew:((mN cpos (bS (e::es) X.env)).all (λx => !x.1) && (HA cpos (A5 [] X.env)).all (λx => x.1.isSome)
   && decide ((e::es).length+([]:List HC).length+(if ([]:List HC).isEmpty then 0 else 1)<30))=true:=by rfl)
  (hline:(apos.endLine==cpos.line)=true:=by rfl) (hs:bS (e::es) X.env=(false,gN e X.env)::bS es X.env:=by rfl) (hplain:(mN cpos (bS es X.env)).any (·.1)=false:=by rfl) :
  PE X (.Call (.Attribute o name apos) (e::es) [] cpos) (tBM X.K T r to t):=by
 intro kL s σ H Q I h
 refine wpAny_Call_method_late hbase hfew hline rfl (cC (ho kL s σ H _ I h) λv Y Z=>?_)
 obtain⟨x,H1,J,O,ty,q1⟩:=Z
 obtain⟨h1,h2⟩:=aaz J O ty
 refine⟨T,id,pa,slot,hty,h1,h2,?_⟩
 have U:=ha cpos kL Y σ H1 _ J q1
 rw[hs] at U ⊢
 refine Calls.callWith_builtin (by show (false||(mN cpos (bS es X.env)).any (·.1))=false;rw[hplain] <;> rfl) (Calls.evalArgs_plain ?_)
 exact cC U λus s2 ⟨vs,H2,I2,r2,q2⟩=>hm kL s2 σ H2 x vs v us Q I2 O r2 q2
/- xs.append(e),list.index on a module's tuple .. are Vz facts of 06m -/
end
def MtM(X:Cx)(id:String)(r:V->List V->Hp->VK->Prop):Prop :=
 ∀(kL:List (aT×Obj)) (s:aw) (σ:St) (H:Hp) (x:V) (xs:List V) (v:af) (us:List af) (Q:VK),Inv X kL σ H s->RelV x v->Vals xs us->r x xs H Q ->
  a9 (cy X.prog X.w) X.A (call (.builtin id) (v::us)) (EP X kL σ Q) X.xe s
def Vals.one{x:V}{us:List af}(h:Vals [x] us):∃u,us=[u]/\RelV x u:=by
 cases h with
 |cons r t=>cases t;exact⟨_,rfl,r⟩
def Vals.two{x y:V}{us:List af}(h:Vals [x,y] us):∃u v,us=[u,v]/\RelV x u/\RelV y v:=by
 cases h with
 |cons r t=>
  obtain⟨v,rfl,q⟩:=Vals.one t
  exact⟨_,v,rfl,r,q⟩
section
variable{X:Cx}{kL:List (aT×Obj)}{σ:St}{H:Hp}{s:aw}{l b:aT}{xs ys zs:List V}
def Inv.abn{its its':List af}{f:Array af->Array af}{t':Nat}(I:Inv X kL σ H s)(hH:H l=some (.lst xs))
  (e:s.heap.get? l=some { cls:=.type "list",data:=.seq its.toArray n }) (hf:f its.toArray=its'.toArray) (hv:Vals ys its') (hz:ys.length<=cf) :
  Inv X kL σ (upd H l (.lst ys)) { s with heap:=s.heap.update l (n9 f),toks:=t' }:=by
 have q:=PySem.IsL.update e f
 rw[hf] at q
 refine I.write (x:=l) (e:=l) (by rw[hH];exact trivial) (.inl rfl) (λU u J O=>(nz s.heap (n9 f) (mI J)).trans O) ⟨_,q⟩ ?_
 exact⟨hz,its',_,hv,q⟩
def Inv.ad0{its:List af}{t':Nat}(I:Inv X kL σ H s)(hv:Vals ys its)(hz:ys.length<=cf) :
  Inv X kL σ (upd H s.heap.objs.size (.lst ys)) { s with heap:=s.heap.push { cls:=.type "list",data:=.seq its.toArray },toks:=t' } :=
 I.laid (λ_ _ q=>ai _ q) (a8 _) ⟨hz,its,0,hv,ba _ rfl⟩
def Inv.fresh(I:Inv X kL σ H s):H s.heap.objs.size=none:=I.hok.fresh (a8 _)
def Inv.Oc(I:Inv X kL σ H s)(hH:H l=some (.lst xs)):xs.length<=cf/\∃(its:List af) (n:Nat),Vals xs its/\xs.length=its.length/\s.heap.get? l=some { cls:=.type "list",data:=.seq its.toArray n }:=by
 obtain⟨z,its,n,r,e⟩:=I.hok l _ hH
 exact⟨z,its,n,r,r.length,e⟩
def QK(h:n<=cf):ve n=false:=by
 unfold ve
 exact decide_eq_false (by omega)
end
section
variable{X:Cx}
def W4:V->List V->Hp->VK->Prop:=λx vs H Q=>∃l xs y,x=.ref l/\vs=[y]/\H l=some (.lst xs)/\xs.length<cf/\Q .non (upd H l (.lst (xs++[y])))
def yF:MtM X "list.append" W4:=by
 intro kL s σ H x vs v us Q I O U h
 obtain⟨l,xs,y,rfl,rfl,J,Z,q⟩:=h
 cases O
 obtain⟨u,rfl,Y⟩:=U.one
 obtain⟨z,its,n,r,hl,e⟩:=I.Oc J
 refine F4 F.slot_list_append ⟨_,e,rfl⟩ F.entry_list_append (F.args_list_append_2 _ _) (PySem.list_append l its.toArray n u (by rw[c6];omega)) ⟨e,?_⟩
 refine⟨.non,_,I.abn (its':=its++[u]) J e (by simp) (r.append (.cons Y .nil)) ?_,rfl,q⟩
 rw[ck,kG]
 omega
def Vc:V->List V->Hp->VK->Prop:=λx vs H Q=>∃l b xs zs,x=.ref l/\vs=[.ref b]/\H l=some (.lst xs)/\H b=some (.lst zs)/\xs.length+zs.length<=cf/\Q .non (upd H l (.lst (xs++zs)))
def Lf:MtM X "list.extend" Vc:=by
 intro kL s σ H x vs v us Q I Y Z h
 obtain⟨l,b,xs,zs,rfl,rfl,U,hB,hz,q⟩:=h
 cases Y
 obtain⟨u,rfl,ru⟩:=Z.one
 cases ru
 obtain⟨z,its,n,r,hl,e⟩:=I.Oc U
 obtain⟨z2,J,n2,r2,ac,e2⟩:=I.Oc hB
 have hsz:its.toArray.size+J.toArray.size<=cf:=by rw[c6,c6];omega
 have O:¬(!its.toArray.isEmpty&&ve (its.toArray.size+J.toArray.size))=true:=by
  rw[QK hsz,wm]
  exact ff
 refine F4 F.slot_list_extend ⟨_,e,rfl⟩ F.entry_list_extend (F.args_list_extend_2 _ _)
  (AutoSeq1.list_extend_list_list_0 l its.toArray n b J.toArray n2 O (by rw[c6];omega) (by omega)) ⟨e,e2,?_⟩
 refine⟨.non,_,I.abn (its':=its++J) U e (by simp) (r.append r2) ?_,rfl,q⟩
 rw[ck]
 omega
def afr:R2:=λx y H Q=>∃l b xs zs,x=.ref l/\y=.ref b/\H l=some (.lst xs)/\H b=some (.lst zs)/\xs.length+zs.length<=cf/\∀p,H p=none->Q (.ref p) (upd H p (.lst (xs++zs)))
def Zy:ir X (nk .Add) afr:=by
 intro kL s σ H x y v u Q I O U h
 obtain⟨l,b,xs,zs,rfl,rfl,Y,Z,hz,q⟩:=h
 cases O
 cases U
 obtain⟨z,its,n,r,hl,e⟩:=I.Oc Y
 obtain⟨z2,J,n2,r2,ac,e2⟩:=I.Oc Z
 refine PySem.P.add_list e e2 ?_ (by rw[c6,c6];omega)
 have ea:its.toArray++J.toArray=(its++J).toArray:=by simp
 rw[ea]
 exact⟨.ref _,_,I.ad0 (t':=s.toks) (r.append r2) (by rw[ck];omega),rfl,q _ I.fresh⟩
end
end L2
namespace Att
open PySem PySem.W PySem.Calls PyProof.Rows
def tO{P:LX}{h:fA}:∀(ns:List Int) (vs:List af),WellAll P h vs (ns.map PY)->mr vs ns:=by
 intro ns
 induction ns with
 |nil=>
  intro vs w
  rw[ny] at w
  cases w
  exact .nil
 |cons n ns ih=>
  intro vs w
  rw[aE] at w
  cases w with
  |cons a b=>
   cases a
   exact .cons _ _ (ih _ b)
def LC{l:OpenLaw}{n:Nat}(hn:l.most=some n){P:LX}{h:fA}{args:List WData}{vals:List af}
  (hpre:l.row.toRowW.claim.pre args=true) (hwl:WellAll P h vals args) :
  ∃a vs ns,vals=[eB a]/\args=[WData.list (ns.map PY)]/\h.get? a=some { cls:=.type "list",data:=.seq vs.toArray }/\mr vs ns/\ns.length<=n:=by
 have hsh:WShape.hasAll [] args [.list .int]=true:=(pre_splitW hpre).1
 have Y:l.pre.holds [] { args:=args }=true:=(pre_splitW hpre).2
 obtain⟨d,r,rfl,h1,h2⟩:=hasAllW_cons hsh
 obtain rfl:=hasAllW_nil h2
 obtain⟨xs,rfl,Z⟩:=hasW_list h1
 obtain⟨ns,rfl⟩:=items_int Z
 have J:ns.length<=n:=by
  unfold OpenLaw.pre at Y
  have O:(WTm.not (.lt (.lit (.int (n:Int))) (.len (.arg 0)))).holds [] { args:=[.list (ns.map .int)] }=true:=by
   have O:=(holds_andW Y).1
   rw[hn] at O
   exact O
  have U:=condW_of O (w_not (w_lt w_lit (w_len_list (w_arg rfl))))
  rw[ae] at U
  refine IX λq=>?_
  have q':(n:Int)<((ns.length:Nat):Int):=by omega
  first
   |(rw[decide_eq_true q'] at U;exact absurd U (by decide))
   |(simp at U;omega)
 cases hwl with
 |cons w1 w2=>
  cases w2
  cases w1 with
  |list ho hall=>exact⟨_,_,ns,rfl,rfl,ho,tO ns _ hall,J⟩
def Mh(l:OpenLaw)(args:List WData):l.row.toRowW.claim.post args (.bool true) args=true :=
 postW_of (r:=l.row.toRowW) (X:=(true==true))
  (show WShape.has [] (.bool true) .bool=true by first | rfl | decide | simp[WShape.has,WShape.arms,WShape.armsAll])
  (show (WTm.eq .res (.lit (.bool true))).value [] { args:=args,res:=some (.bool true),after:=args }=some (.bool (true==true)) from w_eq_bool (w_res rfl) w_lit) rfl
def CP{l:OpenLaw}{n:Nat}{q:cw}{loose:List Str}{XP:(Str->Option af)->fA->Prop}{YP:da->fA->Prop}{d:DefRec}
  (hn:l.most=some n) (hdf:d.params.defaults=[])
  (call:∀ (w:da) (s₀ s₁:aw) (mg mb:Str→Option af) (fa:aT) (o:Obj) (pm cd doc:af) (a:aT) (vs:List af) (ns:List Int),
   Ground q loose [] XP w s₀ mg mb s₁.heap->YP w s₁.heap ->
   s₁.heap.get? fa=some o->o.data=.func (docDef d.name d.params d.body d.scope pm cd doc)->s₁.heap.CodeRec cd d.name->mg d.name=some (.ref fa) ->
   s₁.heap.get? a=some { cls:=.type "list",data:=.seq vs.toArray }->mr vs ns->ns.length<=n->s₁.gens=#[] ->
   rq (cy l.prog w) CS (.call (.ref fa) ⟨[.ref a],[]⟩) (λr s'=>r=.ok (.ret (.bool true))/\OldK s₁.heap s'.heap/\s'.os=s₁.os/\A0 s'.gens) s₁) :
  WalkO q loose XP YP l.row.toRowW d [] (λf vs=>Md f vs):=by
 intro w s₀ s₁ mg mb G Y fa o pm cd doc dV kV ho hd ac hD al hg args ap as O a0 a1 am a2
 obtain rfl:dV=.none:=Dflts.none hD hdf
 obtain rfl:kV=.none:=Dflts.noKw hD
 obtain⟨a,vs,ns,rfl,rfl,U,J,Z⟩:=LC hn O am
 refine enter_call (rS (call w s₀ s₁ mg mb fa o pm cd doc a vs ns G Y ho (fd_plain hd) ac al U J Z hg) λr s' hq=>?_)
 obtain⟨rfl,h2,h3,h4⟩:=hq
 exact⟨.inl ⟨.bool true,.bool true,[],rfl,λ_=>rfl,.bool true,Mh l _,λ_=>⟨HE,λ_ hm=>(nomatch hm)⟩⟩,h2,h3,h4⟩
section
variable{prog:cw}{w:da}{A:gu}{E:af->aw->Prop}{s:aw}{K:Frag}
end
end Att
namespace L2
open PySem PySem.Spec PyProof.Rows
theorem mD:∀ {vs:List af} {ns:List Int},mr vs ns->Vals (ns.map V.int) vs
 |_,_,.nil=>.nil
 |_,_,.cons n t h=>.cons ⟨t,rfl⟩ (mD h)
def Only(H:Hp):Prop:=∀b,H b=none\/∃o xs,H b=some (.frz o (.lst xs))
variable{x:Str}
def QC{P:cw}{w:da}{K:ag}{mg mb:Str->Option af}{CX:Uy}{k:Nat}{fa a:aT}{fd:nr}{sp:Sp}{s₁:aw}{vs:List af}{ns:List Int}
  (KX:K.In s₁.heap) (hns:s₁.heap.Ns eK mg) (hb:s₁.heap.Ns CH mb) (hbb:∀x:Str,x ≠ "__name__"->mb x=iF x) (hlim:s₁.heap.NoLimit) (hg:s₁.gens=#[])
  (ha:s₁.heap.get? a=some { cls:=.type "list",data:=.seq vs.toArray }) (hi:mr vs ns) (hl:ns.length<=cf) (hr:dI k CS)
  (F:∀base:fA,K.In base->base.Ns eK mg->jE P w K mg base CX k fa fd [x] sp) (hbind:∀(s:aw) (u:af),ER s fd ⟨[u],[]⟩ [(x,u)])
  (hsp:∀H:Hp,Only H->cV K H a (ns.map V.int)->sp [.ref a] H (λv _=>v=.bl true) λ_ _ _=>False)
  (hCX:∀H e s',CX [] H s₁ (λ_ _ _=>False) e s'->False) :
  rq (cy P w) CS (.call (.ref fa) ⟨[.ref a],[]⟩) (λr s'=>r=.ok (.ret (.bool true))/\OldK s₁.heap s'.heap/\s'.os=s₁.os/\A0 s'.gens) s₁:=by
 have rv:=mD hi
 have Y:=hi.length
 have U:∀H:Hp,Only H->cV K H a (ns.map V.int)->oR P w H s₁.heap->(∀b,H b≠none->b=a)->(H a≠none->K.lookup a=none) ->
   rq (cy P w) CS (.call (.ref fa) ⟨[.ref a],[]⟩) (λr s'=>r=.ok (.ret (.bool true))/\OldK s₁.heap s'.heap/\s'.os=s₁.os/\A0 s'.gens) s₁:=by
  intro H hO hS hok hA hK
  have J:∀ {b:aT} {o:Obj},s₁.heap.get? b=some o->H b=none->(Ac s₁.heap H).get? b=some o:=λe n=>Ru e n
  have al:∀ {b:aT} {o:Obj} {es:Array B0} {ep:Nat},s₁.heap.get? b=some o->o.data=.dict es ep->H b=none:=λ{b o es ep} e d=>by
   cases q:H b with
   |none=>rfl
   |some u=>
    have e':b=a:=hA b (by rw[q];simp)
    subst e'
    rw[ha] at e;cases e
    have d':Data.seq vs.toArray _=Data.dict es ep:=d
    cases d'
  have O:∀ {b:aT} {m:Str->Option af},s₁.heap.Ns b m->(Ac s₁.heap H).Ns b m:=λ{b m} ⟨o,es,ep,e,d,r⟩=>⟨o,es,ep,J e (al e d),d,r⟩
  have Z:K.In (Ac s₁.heap H):=λb o e=>J (KX b o e) (by
   cases q:H b with
   |none=>rfl
   |some u=>
    have e':b=a:=hA b (by rw[q];simp)
    subst e'
    rw[hK (by rw[q];simp)] at e;cases e)
  have hM:Mod K mg (Ac s₁.heap H):=⟨Z,O hns,⟨mb,O hb,hbb⟩,let ⟨mc,h1,h2⟩:=hlim;⟨mc,O h1,h2⟩⟩
  have e0:Gs P w K mg (Ac s₁.heap H) CS [] s₁ H:=⟨rfl,hM,λb o e=>W6 e,NO (Oi _ _),trivial,λb hb=>absurd (show b∈([]:List aT) from hb) (by simp),hok,.of_eq hg⟩
  refine rS ((F _ Z (O hns)).run CS [] s₁ H ⟨[.ref a],[]⟩ [.ref a] [.ref a] _ _ hr e0 (hbind s₁ (.ref a)) (.cons rfl .nil) (hsp H hO hS)) λr s' h=>?_
  cases r with
  |error e=>exact (hCX H e s' h).elim
  |ok fl=>
   cases fl with
   |next=>exact mP h
   |brk=>exact mP h
   |cont=>exact mP h
   |ret u=>
    obtain⟨v,H',os,bare,un,ac,r',q⟩:=h
    have q':v=.bl true:=q
    subst q'
    obtain rfl:u=CF true:=r'
    refine⟨rfl,OldK.of_keep λb o e=>?_,os,bare⟩
    cases q:H b with
    |none=>exact un.keep b o e q (by intro z;exact absurd (show b∈([]:List aT) from z) (by simp)) (by simp)
    |some u=>
     rcases hO b with z | ⟨ob,xs,z⟩
     ·rw[q] at z;cases z
     ·have z2:=un.frzs b ob _ z
      obtain⟨e1,_⟩:=hok b _ z
      obtain⟨e2,_⟩:=ac b _ z2
      rw[e] at e1;cases e1
      exact e2
 cases hk:K.lookup a with
 |some o=>
  have e:=KX a o hk
  rw[ha] at e
  cases e
  refine U (λ_=>none) (λ_=>.inl rfl) (.inr ⟨_,vs.toArray,_,hk,rfl,rfl,rfl,by rw[c6,Y];exact hl,by simpa using rv⟩) (λb u z=>by have z':(none:Option HO)=some u:=z;cases z') (λb z=>absurd rfl z) λz=>absurd rfl z
 |none=>
  refine U (λb=>if b=a then some (.frz { cls:=.type "list",data:=.seq vs.toArray } (.lst (ns.map V.int))) else none) (λb=>?_) (.inl (.inr ⟨{ cls:=.type "list",data:=.seq vs.toArray },if_pos rfl⟩)) (λb u z=>?_) (λb z=>?_) λ_=>hk
  ·by_cases hb:b=a
   ·exact .inr ⟨_,_,if_pos hb⟩
   ·exact .inl (if_neg hb)
  ·by_cases hb:b=a
   ·have z':=(if_pos hb).symm.trans z
    cases z'
    subst hb
    exact⟨ha,by rw[ae];exact hl,vs,_,rv,ha⟩
   ·have z':=(if_neg hb).symm.trans z
    cases z'
  ·by_cases hb:b=a
   ·exact hb
   ·exact absurd (if_neg hb) z
variable{l:C8}{XP:(Str->Option af)->fA->Prop}{YP:da->fA->Prop}{K:LX->ag}
def WR{n k:Nat}{q:cw}{loose:List Str}{d:DefRec}{CX:da->Uy}{sp:da->Sp}
  (hn:l.most=some n) (hn2:n<=cf) (hdf:d.params.defaults=[]) (hr:dI k CS)
  (hY:∀(w:da) (h:fA),YP w h->(K w.params).In h)
  (F:∀ (w:da) (mg:Str→Option af) (fa:aT) (h:fA),(K w.params).In h→h.Ns eK mg→mg d.name = some (.ref fa) →
   ∃fd:nr,(∀(s:aw) (u:af),ER s fd ⟨[u],[]⟩ [(x,u)]) /\
    ∀base:fA,(K w.params).In base->base.Ns eK mg->jE l.prog w (K w.params) mg base (CX w) k fa fd [x] (sp w))
  (hsp:∀(w:da) (H:Hp) (a:aT) (ns:List Int),ns.length<=n->Only H->cV (K w.params) H a (ns.map V.int)->sp w [.ref a] H (λv _=>v=.bl true) λ_ _ _=>False)
  (hCX:∀(w:da) (H:Hp) (s:aw) (e:af) (s':aw),CX w [] H s (λ_ _ _=>False) e s'->False) :
  MX q loose XP YP l.row.toRowW d [] (λf vs=>Md f vs):=by
 refine Att.CP hn hdf λw s₀ s₁ mg mb fa o pm cd doc a vs ns G Y ho hd ac Z U O J hg=>?_
 have KX:=hY w _ Y
 obtain⟨fd,hb,hF⟩:=F w mg fa _ KX G.T.g Z
 exact QC KX G.T.g G.T.b G.T.builtins G.T.nolimit hg U O (ft J hn2) hr hF hb (λH hO hS=>hsp w H a ns J hO hS) λH e s'=>hCX w H s₁ e s'
def T8{n k:Nat}{q:cw}{loose:List Str}{d:DefRec}{CX:Uy}{sp:ag->Sp}
  (hn:l.most=some n) (hn2:n<=cf) (hdf:d.params.defaults=[]) (hr:dI k CS)
  (hY:∀(w:da) (h:fA),YP w h->(K w.params).In h)
  (F:∀ (w:da) (mg:Str→Option af) (fa:aT) (h:fA),(K w.params).In h→h.Ns eK mg→mg d.name = some (.ref fa) →
   ∃fd:nr,(∀(s:aw) (u:af),ER s fd ⟨[u],[]⟩ [(x,u)]) /\
    ∀base:fA,(K w.params).In base->base.Ns eK mg->jE l.prog w (K w.params) mg base CX k fa fd [x] (sp (K w.params)))
  (hsp:∀(K:ag) (H:Hp) (a:aT) (ns:List Int),ns.length<=n->Only H->cV K H a (ns.map V.int)->sp K [.ref a] H (λv _=>v=.bl true) λ_ _ _=>False)
  (hCX:∀(H:Hp) (s:aw) (e:af) (s':aw),CX [] H s (λ_ _ _=>False) e s'->False) :
  MX q loose XP YP l.row.toRowW d [] (λf vs=>Md f vs) :=
 WR (K:=K) (CX:=λ_=>CX) (sp:=λw=>sp (K w.params)) hn hn2 hdf hr hY F (λw H a ns h1 h2 J=>hsp (K w.params) H a ns h1 h2 J) λ_ H s e s'=>hCX H s e s'
end L2
namespace L2
open PySem PySem.Spec PyProof.Rows
abbrev Gh:Uy:=λ_ _ _ _ _ _=>False
abbrev E0:XK:=λ_ _ _=>False
variable{X:Cx}
def JG:Passes Gh X E0:=λ_ _ _ _ _ _ _ h=>h.elim
structure V3(K:ag)(x qual:Str)(st:rj)(f:aT)(fd:nr):Prop where
 ex:∃(oc:af) (od:Option aT) (kV doc pm:af) (an:Option aT) (cdv ct:af) (osl:Array (Option af)),
  fd=mn x qual (gP st) (dm st) (aL st) .none kV doc pm an cdv ct/\K.lookup f=some ⟨oc,od,.func fd,osl⟩/\AB K cdv qual=true
 kp:nX K (.ref f)=true
section
variable{P:cw}{w:da}{K:ag}{mg:Str->Option af}{base:fA}
def V3.ok{x qual:Str}{st:rj}{f:aT}{fd:nr}{N ps:List Str}{k:Nat}{sp:Sp}(F:V3 K x qual st f fd)(S:gJ N ps (aL st))(len:∀vs H Q E,sp vs H Q E->vs.length=ps.length)
  (hbody:∀ (cdv:af) (A:gu) (outer:List Env) (s:aw) (H:Hp) (vs:List V) (Q:VK) (E:XK),dI k (A.deeper (AA qual (aL st) s.heap.objs.size f cdv))→sp vs H Q E →
   ∃t,Fz (Af Gh P w K mg base N qual (aL st) f cdv A outer s H E).nox (dm st) t/\t { nx:=λ_ H'=>Q .non H',rt:=Q } (start N vs) H):jE P w K mg base Gh (k+1) f fd ps sp:=by
 obtain⟨oc,od,kV,doc,pm,an,cdv,ct,osl,rfl,U,J⟩:=F.ex
 refine ab9 U J S len λA outer s H vs Q E hr O=>?_
 obtain⟨t,h,q⟩:=hbody cdv A outer s H vs Q E hr O
 exact⟨t,h.nox,q⟩
def V3.binds{x qual:Str}{st:rj}{f:aT}{fd:nr}{ps:List Str}(F:V3 K x qual st f fd)
  (h:∀(kV doc pm:af) (an:Option aT) (cdv ct:af) (us:List af),us.length=ps.length->L1 (mn x qual (gP st) (dm st) (aL st) .none kV doc pm an cdv ct) ⟨us,[]⟩=pure (ps.zip us)):Binds K fd ps []:=by
 obtain⟨oc,od,kV,doc,pm,an,cdv,ct,osl,rfl,O,J⟩:=F.ex
 exact .all (h kV doc pm an cdv ct)
def S7{x qual:Str}{st:rj}{f:aT}{oc:af}{od an:Option aT}{osl:Array (Option af)}{kV doc pm cdv ct:af}(l:K.lookup f=some ⟨oc,od,.func (mn x qual (gP st) (dm st) (aL st) .none kV doc pm an cdv ct),osl⟩)
  (c:AB K cdv qual=true) (k:nX K (.ref f)=true):V3 K x qual st f (mn x qual (gP st) (dm st) (aL st) .none kV doc pm an cdv ct):=⟨⟨oc,od,kV,doc,pm,an,cdv,ct,osl,rfl,l,c⟩,k⟩
end
def rJ{n:Nat}(h:n<=1000):n<cf:=mh h (by decide)
section
variable{X:Cx}
def pv(i:Nat){x:Str}{pos:Pos}(hN:X.N[i]?=some x:=by rfl)(hv:Vis X.env.scope x:=by first | exact vn rfl | exact ui (vn rfl) | exact ui (ui rfl))(hd:(x==("__debug__" : Str))=false:=by decide)
  (hcd:(x==("__classdict__" : Str))=false:=by decide):PE X (.Name x pos) (acj i):=aab hN hv hd hcd
end
section
variable{κ:Type}[DecidableEq κ]
def mR(zp:List (κ×V))(k:κ):Option V:=(zp.find? λkv=>decide (kv.1=k)).map (·.2)
def putK(zp:List (κ×V))(k:κ)(v:V):List (κ×V) :=
 if (zp.any λkv=>decide (kv.1=k))=true then zp.map (λkv=>if kv.1=k then (kv.1,v) else kv) else zp++[(k,v)]
def lN{p:κ×V}{r:List (κ×V)}{k:κ}(e:p.1=k):mR (p::r) k=some p.2:=by simp[mR,mS,e]
def lE{p:κ×V}{r:List (κ×V)}{k:κ}(e:¬p.1=k):mR (p::r) k=mR r k:=by simp[mR,mS,e]
theorem Ca(k:κ):∀zp:List (κ×V),(zp.any λkv=>decide (kv.1=k))=(mR zp k).isSome
 |[]=>rfl
 |p::r=>by
  rw[nI]
  by_cases e:p.1=k
  ·simp only[lN e,decide_eq_true e,NS,Option.isSome_some]
  ·rw[lE e,decide_eq_false e,FD];exact Ca k r
def fP(zp:List (κ×V))(k:κ)(v:V):(putK zp k v).length<=zp.length+1:=by
 unfold putK
 split
 ·rw[ae];omega
 ·rw[ck,bE,lS];omega
def mU.jy{o:Option V}{u:Option af}(r:mU o u):o.isSome=u.isSome:=by
 cases o with
 |none=>cases u with
  |none=>rfl
  |some _=>exact (show False from r).elim
 |some _=>cases u with
  |none=>exact (show False from r).elim
  |some _=>rfl
def KV.val{zp:List (κ×V)}{vs:List (κ×af)}(r:KV zp vs)(k:κ):mU (mR zp k) (tw vs k):=by
 unfold KV at r
 induction r with
 |nil=>exact mf
 |@cons p q ps qs h t ih=>
  obtain⟨h1,h2⟩:=h
  by_cases e:p.1=k
  ·have J:q.1=k:=h1.symm.trans e
   have b:tw (q::qs) k=some q.2:=by simp[tw,mS,J]
   rw[lN e,b];exact h2
  ·have J:¬q.1=k:=λz=>e (h1.trans z)
   have b:tw (q::qs) k=tw qs k:=by simp[tw,mS,J]
   rw[lE e,b];exact ih
def KV.any{zp:List (κ×V)}{vs:List (κ×af)}(r:KV zp vs)(k:κ):(zp.any λkv=>decide (kv.1=k))=vs.any λkv=>decide (kv.1=k):=by
 unfold KV at r
 induction r with
 |nil=>rfl
 |cons h t ih=>rw[nI,nI,ih,h.1]
def KV.repl{zp:List (κ×V)}{vs:List (κ×af)}(r:KV zp vs)(k:κ){y:V}{u:af}(ry:RelV y u) :
  KV (zp.map λkv=>if kv.1=k then (kv.1,y) else kv) (vs.map λkv=>if kv.1=k then (kv.1,u) else kv):=by
 unfold KV at r ⊢
 induction r with
 |nil=>exact .nil
 |@cons p q ps qs h t ih=>
  rw[aE,aE]
  refine .cons ?_ ih
  obtain⟨h1,h2⟩:=h
  by_cases e:p.1=k
  ·rw[if_pos e,if_pos (h1.symm.trans e)];exact⟨h1,ry⟩
  ·rw[if_neg e,if_neg (λz=>e (h1.trans z))];exact⟨h1,h2⟩
def KV.put{zp:List (κ×V)}{vs:List (κ×af)}(r:KV zp vs)(k:κ){y:V}{u:af}(ry:RelV y u):KV (putK zp k y) (stored vs k u):=by
 unfold putK stored
 rw[r.any k]
 by_cases e:(vs.any λJ=>decide (J.1=k))=true
 ·rw[if_pos e,if_pos e];exact r.repl k ry
 ·rw[if_neg e,if_neg e];exact Paired.snoc r ⟨rfl,ry⟩
def KV.length{zp:List (κ×V)}{vs:List (κ×af)}(r:KV zp vs):zp.length=vs.length:=Paired.length r
end
variable{pos:Pos}{u:af}{P:cw}{w:da}
def vz{k:Key}(r:RelV (kV k) u):(bA P w).is k u=true:=by
 cases k with
 |inl i=>obtain⟨t,e⟩:=(show ∃t,u=qq i t from r);subst e;exact Bs P w i t
 |inr x=>obtain⟨t,e⟩:=(show ∃t,u=EN x t from r);subst e;exact lZ P w x t
theorem xW{P:cw}{w:da}:∀ {ks:List Key} {us:List af},Vals (ks.map kV) us->ItemsAre (bA P w) ks us
 |[],_,r=>by rw[ny] at r;cases r;exact .nil
 |k::ks,_,r=>by
  rw[aE] at r
  cases r with
  |cons h t=>exact .cons (vz h) (xW t)
abbrev KT(H:Hp):List (List Key×V)->List (List Key×aT×af)->Prop:=Paired λp q=>p.1=q.1/\H q.2.1=some (.tup (p.1.map kV))/\RelV p.2 q.2.2
variable{H:Hp}{zp:List (List Key×V)}{xs:List (List Key×aT×af)}
def KT.val(r:KT H zp xs)(k:List Key):mU (mR zp k) ((KI xs k).map (·.2)):=by
 induction r with
 |nil=>exact mf
 |@cons p q ps qs h t ih=>
  obtain⟨h1,_,h2⟩:=h
  by_cases e:p.1=k
  ·have J:q.1=k:=h1.symm.trans e
   have b:KI (q::qs) k=some q.2:=by simp[KI,mS,J]
   rw[lN e,b];exact h2
  ·have J:¬q.1=k:=λz=>e (h1.trans z)
   have b:KI (q::qs) k=KI qs k:=by simp[KI,mS,J]
   rw[lE e,b];exact ih
def KT.repl(r:KT H zp xs)(k:List Key){y:V}(ry:RelV y u) :
  KT H (zp.map λkv=>if kv.1=k then (kv.1,y) else kv) (xs.map (putAt k u)):=by
 induction r with
 |nil=>exact .nil
 |@cons p q ps qs h t ih=>
  rw[aE,aE]
  refine .cons ?_ ih
  obtain⟨h1,h2,J⟩:=h
  unfold putAt
  by_cases e:p.1=k
  ·rw[if_pos e,if_pos (h1.symm.trans e)];exact⟨h1,h2,ry⟩
  ·rw[if_neg e,if_neg (λz=>e (h1.trans z))];exact⟨h1,h2,J⟩
def KT.put(r:KT H zp xs)(k:List Key){b:aT}{y:V}(hb:H b=some (.tup (k.map kV)))(ry:RelV y u) :
  KT H (putK zp k y) (storedH xs k b u):=by
 have e:(zp.any λJ=>decide (J.1=k))=(KI xs k).isSome:=by
  rw[Ca,(r.val k).jy,A6]
 unfold putK storedH
 rw[e]
 by_cases q:(KI xs k).isSome=true
 ·rw[if_pos q,if_pos q];exact r.repl k ry
 ·rw[if_neg q,if_neg q];exact Paired.snoc r ⟨rfl,hb,ry⟩
def KT.keeps{H':Hp}(r:KT H zp xs)(ht:∀b ys,H b=some (.tup ys)->H' b=some (.tup ys)):KT H' zp xs :=
 Paired.pA r λ_ _ z=>⟨z.1,ht _ _ z.2.1,z.2.2⟩
section
variable{P:cw}{w:da}{H:Hp}{h:fA}{a:aT}
def Yx{u:HO}(ok:oR P w H h)(e:Rd H a u):bO P w H h a u:=e.ok ok
def Ff{zp:List (Key×V)}(ok:oR P w H h)(e:Rd H a (.dK zp)):zp.length<=cf/\(a==me)=false/\∃vs,KV zp vs/\h.DictOf (bA P w) a vs :=
 show bO P w H h a (.dK zp) from Yx ok e
def YW{zp:List (Key×V)}(ok:oR P w H h)(e:H a=some (.dK zp)):zp.length<=cf/\(a==me)=false/\∃vs,KV zp vs/\h.DictOf (bA P w) a vs:=Ff ok (.inl e)
def rm{ks:List Key}(ok:oR P w H h)(e:H a=some (.tup (ks.map kV))):(B3 (bA P w)).is h ks a:=by
 obtain⟨_,its,r,o,h1,h2,n,J,_⟩:=(show bO P w H h a (.tup (ks.map kV)) from ok a _ e)
 exact⟨o,its.toArray,n,h1,h2,J,by simpa using xW r⟩
def Ep(ok:oR P w H h)(e:Rd H a (.dT zp)):zp.length<=cf/\(a==me)=false /\
  ∃xs,KT H zp xs/\h.DictOfH (B3 (bA P w)) a xs:=by
 obtain⟨z,y,xs,r,o,es,ep,h1,h2,O,U,Y⟩:=(show bO P w H h a (.dT zp) from Yx ok e)
 refine⟨z,y,xs,r,o,es,ep,h1,h2,O,U,λx J=>?_,Y⟩
 have all:∀ {l:List (List Key×V)} {m:List (List Key×aT×af)},KT H l m->∀x∈m,(B3 (bA P w)).is h x.1 x.2.1:=by
  intro l m q
  induction q with
  |nil=>intro x J;exact nomatch J
  |@cons p q ps qs hq t ih=>
   intro x J
   rcases br.mp J with e | J
   ·subst e
    exact rm ok (by rw[←hq.1];exact hq.2.1)
   ·exact ih x J
 exact all r x J
def Qu(ok:oR P w H h)(e:H a=some (.dT zp)):zp.length<=cf/\(a==me)=false /\
  ∃xs,KT H zp xs/\h.DictOfH (B3 (bA P w)) a xs:=Ep ok (.inl e)
end
def qY(H:Hp)(a:aT)(y:V)(r:Option V):Prop :=
 (∃zp k,Rd H a (.dK zp)/\y=kV k/\r=mR zp k)\/∃zp k b,Rd H a (.dT zp)/\y=.ref b/\H b=some (.tup (k.map kV))/\r=mR zp k
def Sx(H:Hp)(a:aT)(y v:V)(H':Hp):Prop :=
 (∃zp k,H a=some (.dK zp)/\y=kV k/\zp.length<cf/\H'=upd H a (.dK (putK zp k v))) \/
 ∃zp k b,H a=some (.dT zp)/\y=.ref b/\H b=some (.tup (k.map kV))/\zp.length<cf/\H'=upd H a (.dT (putK zp k v))
def qY.k{a:aT}{zp:List (Key×V)}{k:Key}(e:H a=some (.dK zp)):qY H a (kV k) (mR zp k):=.inl ⟨zp,k,.inl e,rfl,rfl⟩
def qY.t{a b:aT}{k:List Key}(e:H a=some (.dT zp))(eb:H b=some (.tup (k.map kV))):qY H a (.ref b) (mR zp k):=.inr ⟨zp,k,b,.inl e,rfl,eb,rfl⟩
def Sx.t{a b:aT}{k:List Key}{v:V}(e:H a=some (.dT zp))(eb:H b=some (.tup (k.map kV)))(hl:zp.length<cf) :
  Sx H a (.ref b) v (upd H a (.dT (putK zp k v))):=.inr ⟨zp,k,b,e,rfl,eb,hl,rfl⟩
section
variable{X:Cx}{kL:List (aT×Obj)}{σ:St}{H:Hp}{s:aw}{a:aT}{y v:V}{u r:af}{o:Option V}{A:gu}{E:af->aw->Prop}
def Inv.big(I:Inv X kL σ H s):me<s.heap.objs.size:=by
 have h:eK<s.heap.objs.size:=(I.mod.glob.keeps I.bk).lt
 exact HG (by decide) h
def Lq{Q:af->aw->Prop}(hu:A.units+1<lP)(I:Inv X kL σ H s)(g:qY H a y (some v))(ry:RelV y u)(h:∀w' s',Inv X kL σ H s'->RelV v w'->Q w' s') :
  a9 (cy X.prog X.w) A (A4 (.ref a) u) Q E s:=by
 rcases g with ⟨zp,k,e,U,l⟩ | ⟨zp,k,b,e,U,eb,l⟩
 ·subst U
  obtain⟨z,hd,vs,J,Y⟩:=Ff I.hok e
  obtain⟨w',Z,O⟩:=mU.some_of (v:=v) (o:=tw vs k) (by rw[l];exact J.val k)
  exact IY (vz ry) Y.mapOf Z (h w' _ (I.tok _) O)
 ·subst U
  cases (show u=eB b from ry)
  obtain⟨z,hd,xs,J,Y⟩:=Ep I.hok e
  obtain⟨w',Z,O⟩:=mU.some_of (v:=v) (o:=(KI xs k).map (·.2)) (by rw[l];exact J.val k)
  obtain⟨p,hp,ac⟩:=cv.mp Z
  refine wpAny_getItem_heap (vt hu) (rm I.hok eb) Y hp ?_
  rw[ac]
  exact h w' _ (I.tok _) O
def afg{Q:af->aw->Prop}(hu:A.units+1<lP)(I:Inv X kL σ H s)(g:qY H a y o)(ry:RelV y u)(h:∀s',Inv X kL σ H s'->Q (.bool o.isSome) s') :
  a9 (cy X.prog X.w) A (iA .In u (.ref a)) Q E s:=by
 rcases g with ⟨zp,k,e,O,l⟩ | ⟨zp,k,b,e,O,Y,l⟩
 ·subst O
  obtain⟨z,hd,vs,J,U⟩:=Ff I.hok e
  refine wpAny_in_of (vz ry) hd U.mapOf ?_
  rw[←(J.val k).jy,←l]
  exact h _ (I.tok _)
 ·subst O
  cases (show u=eB b from ry)
  obtain⟨z,hd,xs,J,U⟩:=Ep I.hok e
  refine wpAny_in_heap (vt hu) (rm I.hok Y) hd U ?_
  have q:=(J.val k).jy
  rw[A6] at q
  rw[←q,←l]
  exact h _ (I.tok _)
def Xi{Q:af->aw->Prop}(hu:A.units+1<lP)(I:Inv X kL σ H s)(g:qY H a y o)(ry:RelV y u)(h:∀s',Inv X kL σ H s'->Q (.bool (!o.isSome)) s') :
  a9 (cy X.prog X.w) A (iA .NotIn u (.ref a)) Q E s:=by
 rcases g with ⟨zp,k,e,O,l⟩ | ⟨zp,k,b,e,O,Y,l⟩
 ·subst O
  obtain⟨z,hd,vs,J,U⟩:=Ff I.hok e
  refine wpAny_notIn_of (vz ry) hd U.mapOf ?_
  rw[←(J.val k).jy,←l]
  exact h _ (I.tok _)
 ·subst O
  cases (show u=eB b from ry)
  obtain⟨z,hd,xs,J,U⟩:=Ep I.hok e
  refine wpAny_notIn_heap (vt hu) (rm I.hok Y) hd U ?_
  have q:=(J.val k).jy
  rw[A6] at q
  rw[←q,←l]
  exact h _ (I.tok _)
def ur{h':fA}{t':Nat}{ob:HO}(I:Inv X kL σ H s)(mu:Mut (H a))(hs:kH a s.heap h')(he:∃q,h'.get? a=some q)(new:bO X.prog X.w (upd H a ob) h' a ob) :
  Inv X kL σ (upd H a ob) { s with heap:=h',toks:=t' } :=
 I.write (x:=a) (e:=a) mu (.inl rfl) (λb q J z=>(hs.2 b J).trans z) he new
def Rh{H':Hp}{h':fA}{zp:List (Key×V)}{vs:List (Key×af)}(z:zp.length<=cf)(hd:(a==me)=false)(rel:KV zp vs)(dd:h'.DictOf (bA P w) a vs) :
  bO P w H' h' a (.dK zp):=⟨z,hd,vs,rel,dd⟩
def Ny{H':Hp}{Q:Unit->aw->Prop}(hu:A.units+1<lP)(I:Inv X kL σ H s)(g:Sx H a y v H')(ry:RelV y u)(rv:RelV v r)(h:∀s',Inv X kL σ H' s'->Q () s') :
  a9 (cy X.prog X.w) A (setItem (.ref a) u r) Q E s:=by
 rcases g with ⟨zp,k,e,Y,l,Z⟩ | ⟨zp,k,b,e,Y,eb,l,Z⟩
 ·subst Y Z
  obtain⟨z,hd,vs,J,dd⟩:=YW I.hok e
  have hz:vs.length<=cf:=by rw[←J.length];exact z
  have hl:(putK zp k v).length<=cf:=by have:=fP zp k v;omega
  refine wpAny_setItem_pairs (hsz:=hz) (vz ry) dd λh' O hs=>h _ ?_
  have he:∃q,h'.get? a=some q:=let ⟨q,_,_,U,_⟩:=O;⟨q,U⟩
  exact ur I (by rw[e];exact mf) hs he (Rh hl hd (J.put k rv) O)
 ·subst Y Z
  cases (show u=eB b from ry)
  obtain⟨z,hd,xs,J,dd⟩:=Qu I.hok e
  have hz:xs.length<=cf:=by rw[←Paired.length J];exact z
  have hl:(putK zp k v).length<=cf:=by have:=fP zp k v;omega
  refine wpAny_setItem_heap (hsz:=hz) (vt hu) (rm I.hok eb) dd λh' O hs=>h _ ?_
  obtain⟨q,es,ep,U,h2,h3,h4,_,h5⟩:=O
  refine ur I (by rw[e];exact mf) hs ⟨q,U⟩ ⟨hl,hd,_,(J.put k eb rv).keeps λc ys ec=>?_,q,es,ep,U,h2,h3,h4,h5⟩
  rw[aC (j4 ec e (λz=>nomatch z))]
  exact ec
end
def Ot(i:eT):Prop:=∀ov iv,Ee i false ov iv=operate [ov,iv] (A4 ov iv)
def Kv{prog:cw}{A:gu}{E:af->aw->Prop}{s:aw}{env:Env}{value slice:eT}{T id:String}{Q:af->aw->Prop}
  (hl:xw (.type T) "__getitem__" = pure (some (.builtin id))) (hs:Ot slice)
  (h:a9 (cy prog w) A (gN value env) (λo s₁=>a9 (cy prog w) A (gN slice env) (λi s₂=>s₂.TypeIs o T/\a9 (cy prog w) A (A4 o i) Q E s₂) E s₁) E s) :
  a9 (cy prog w) A (gN (.Subscript value slice pos) env) Q E s:=by
 refine L8 (kU h (λo s₁ Z=>kU Z (λi s₂ O=>?_) λ_ _ x=>x) λ_ _ x=>x)
 obtain⟨U,O⟩:=O
 unfold FC
 refine ab ?_
 rw[getitemInPython_of_ne U.not_modules]
 refine ab (mT U hl ?_)
 have J:a9 (cy prog w) A (Ee slice false o i) (λr Y=>a9 (cy prog w) A (letTemporaryGo value o r >>= λ_=>pure r) Q E Y) E s₂:=by
  rw[hs o i]
  exact wpAny_operating (kU O (λr Y ac=>ab (wpAny_letTemporaryGo (av ac))) λ_ _ x=>x)
 first
  |exact av (ab J)
  |exact ab (av (ab J))
  |exact ab J
def Cq{kL:List (aT×Obj)}{σ:St}{s:aw}{a:aT}{y:V}{o:Option V}(I:Inv X kL σ H s)(g:qY H a y o):s.TypeIs (.ref a) "dict":=by
 rcases g with ⟨zp,k,e,_,_⟩ | ⟨zp,k,b,e,_,_,_⟩
 ·obtain⟨_,_,vs,_,J⟩:=Ff I.hok e
  exact J.typeIs
 ·obtain⟨_,_,xs,_,J⟩:=Ep I.hok e
  exact J.typeIs
def adt(td ty:TE):TE:=λσ H Q=>td σ H λx H1=>ty σ H1 λy H2=>∃a v,x=.ref a/\qY H2 a y (some v)/\Q v H2
def abY(td ty tv:TE):TS:=λD σ H=>tv σ H λv H1=>td σ H1 λx H2=>ty σ H2 λy H3=>∃a H4,x=.ref a/\Sx H3 a y v H4/\D.nx σ H4
section
variable{X:Cx}{o i e value:eT}{pos pos' tpos:Pos}{td ty tv:TE}
def JN(hu:X.A.units+1<lP)(ho:PE X o td)(hi:PE X i ty)(hs:Ot i):PE X (.Subscript o i pos) (adt td ty):=by
 intro kL s σ H Q I h
 refine Kv AU.lookup hs (cC (ho kL s σ H _ I h) λu U ⟨x,H1,Y,Z,q1⟩=>cC (hi kL U σ H1 _ Y q1) λiv s2 zz=>?_)
 obtain⟨y,H2,O,ry,a,v,ex,g,q2⟩:=zz
 subst ex
 obtain rfl:u=eB a:=Z
 exact⟨Cq O g,Lq hu O g ry λw' s3 I3 J=>⟨v,H2,I3,J,q2⟩⟩
def WY(hu:X.A.units+1<lP)(ho:PE X o td)(hi:PE X i ty)(hv:PE X value tv)(hs:tf value (some (.Subscript o i pos')) pos.line X.env=pure false) :
  PS X (.Assign [.Subscript o i pos'] value pos) (abY td ty tv):=by
 intro kL s σ H D I h
 refine wpAny_Assign_Subscript (cC (hv kL s σ H _ I h) λr J ⟨v,H1,O,U,Y⟩=>cC (ho kL J σ H1 _ O Y) λu Z ⟨x,H2,I2,rx,q2⟩=>cC (hi kL Z σ H2 _ I2 q2) λiv s3 zz=>?_) hs
 obtain⟨y,H3,I3,ry,a,H4,ex,g,q3⟩:=zz
 subst ex
 obtain rfl:u=eB a:=rx
 exact Ny hu I3 g ry U λs4 I4=>⟨σ,H4,I4,q3⟩
end
def Q6(h:fA)(hb:me<h.objs.size):bO P w H (h.push { cls:=.type "dict",data:=.dict #[] }) h.objs.size (.dK []) :=
 ⟨eD _,beq_eq_false_iff_ne.mpr (mI (cx hb)),[],.nil,P5 h⟩
def De(h:fA)(hb:me<h.objs.size):bO P w H (h.push { cls:=.type "dict",data:=.dict #[] }) h.objs.size (.dT []) :=
 ⟨eD _,beq_eq_false_iff_ne.mpr (mI (cx hb)),[],.nil,_,#[],0,ba _ rfl,⟨rfl,rfl,rfl⟩,rfl,rfl,oa⟩
def Z9:TE:=λ_ H Q=>∀p,H p=none->Q (.ref p) (upd H p (.dT []))
section
variable{X:Cx}{pos:Pos}
def QQ:PE X (.Dict [] [] pos) Z9:=λkL s σ H Q I h=>
 wpAny_Dict_empty ⟨.ref s.heap.objs.size,_,I.laid (a:=s.heap.objs.size) (o:=.dT []) (t':=s.toks) (λ_ _ q=>ai _ q) (a8 _) (De s.heap I.big),rfl,h _ (I.hok.fresh (a8 _))⟩
end
def FP:List (TE×TE)->St->Hp->(List (V×V)->Hp->Prop)->Prop
 |[],_,H,Q=>Q [] H
 |(tk,tv)::r,σ,H,Q=>tk σ H λx H1=>tv σ H1 λy H2=>FP r σ H2 λps H3=>Q ((x,y)::ps) H3
abbrev VV:List (V×V)->List (af×af)->Prop:=Paired λp q=>RelV p.1 q.1/\RelV p.2 q.2
def PPs(X:Cx)(pos:Pos)(keys:List (Option eT))(values:List eT)(trs:List (TE×TE)):Prop :=
 ∀(kL:List (aT×Obj)) (s:aw) (σ:St) (H:Hp) (Q:List (V×V)->Hp->Prop),Inv X kL σ H s->FP trs σ H Q ->
  a9 (cy X.prog X.w) X.A (evalPairs (pairTrees keys values X.env pos)) (λvs s'=>∃ps H',Inv X kL σ H' s'/\VV ps vs/\Q ps H') X.xe s
def Xj:PPs X pos [] [] []:=λkL s σ H Q I h=>pairTrees_nil_walk ⟨[],H,I,.nil,h⟩
variable{trs:List (TE×TE)}
def qw{k v:eT}{ks:List (Option eT)}{vs:List eT}{tk tv:TE}(hk:PE X k tk)(hv:PE X v tv)(hr:PPs X pos ks vs trs) :
  PPs X pos (some k::ks) (v::vs) ((tk,tv)::trs):=λkL s σ H Q I h=>
 pairTrees_cons_walk (cC (hk kL s σ H _ I h) λu O ⟨x,H1,U,Y,Z⟩=>cC (hv kL O σ H1 _ U Z) λw2 s2 ⟨y,H2,I2,ry,q2⟩=>
  cC (hr kL s2 σ H2 _ I2 q2) λws s3 ⟨ps,H3,I3,J,q3⟩=>⟨(x,y)::ps,H3,I3,.cons ⟨Y,ry⟩ J,q3⟩)
def qR(zp more:List (Key×V)):List (Key×V):=more.foldl (λacc kv=>putK acc kv.1 kv.2) zp
def KV.merge:∀ {more:List (Key×V)} {rs:List (Key×af)} {zp:List (Key×V)} {vs:List (Key×af)},KV more rs->KV zp vs->KV (qR zp more) (merged vs rs):=by
 intro more rs zp vs r
 unfold KV at r
 induction r generalizing zp vs with
 |nil=>intro q;exact q
 |@cons p q ps qs h t ih=>
  intro J
  have e:KV (putK zp p.1 p.2) (stored vs q.1 q.2):=by
   have:=J.put p.1 h.2
   rw[←h.1];exact this
  exact ih e
theorem mV:∀(more zp:List (Key×V)),(qR zp more).length<=zp.length+more.length
 |[],zp=>by show zp.length<=zp.length+0;omega
 |p::r,zp=>by
  have h1:=mV r (putK zp p.1 p.2)
  have h2:=fP zp p.1 p.2
  show (qR (putK zp p.1 p.2) r).length<=_
  rw[bE];omega
theorem vV{P:cw}{w:da}:∀ {zp:List (Key×V)} {ws:List (af×af)},VV (zp.map λkv=>(kV kv.1,kv.2)) ws->∃rs,Carries (bA P w) ws rs/\KV zp rs
 |[],_,r=>by rw[ny] at r;cases r;exact⟨[],mf,.nil⟩
 |p::zp,_,r=>by
  rw[aE] at r
  cases r with
  |@cons a b as bs h t=>
   obtain⟨rs,c,q⟩:=vV (P:=P) (w:=w) t
   obtain⟨b1,b2⟩:=b
   exact⟨(p.1,b2)::rs,⟨vz h.1,rfl,c⟩,.cons ⟨rfl,h.2⟩ q⟩
def adT(trs:List (TE×TE)):TE:=λσ H Q=>∀p,H p=none->FP trs σ (upd H p (.dK [])) λps H2=>H2 p=some (.dK [])/\∃zp:List (Key×V),ps=zp.map (λkv=>(kV kv.1,kv.2))/\zp.length<=15/\Q (.ref p) (upd H2 p (.dK (qR [] zp)))
def Vm{keys:List (Option eT)}{values:List eT}(h:PPs X pos keys values trs)(hall:keys.all (·.isSome)=true)(hl:keys.length=values.length)(h0:keys≠[])
  (h15:keys.length<=15):PE X (.Dict keys values pos) (adT trs):=by
 intro kL s σ H Q I q
 have Y:=I.hok.fresh (a8 s.heap.objs.size)
 have Z:=I.laid (a:=s.heap.objs.size) (o:=.dK []) (h':=s.heap.push { cls:=.type "dict",data:=.dict #[] }) (t':=s.toks) (λ_ _ q=>ai _ q) (a8 _) (Q6 s.heap I.big)
 refine wpAny_Dict_walk (knd:=bA X.prog X.w) hall hl h0 h15 (cC (h kL _ σ _ _ Z (q _ Y)) λws s2 zz=>?_)
 obtain⟨ps,H2,U,O,e,zp,ep,lk,q2⟩:=zz
 subst ep
 obtain⟨rs,c,rk⟩:=vV (P:=X.prog) (w:=X.w) O
 obtain⟨z,hd,ac,r0,dd⟩:=YW U.hok e
 cases r0
 refine⟨rs,c,dd,λh' J hs=>⟨.ref s.heap.objs.size,_,?_,rfl,q2⟩⟩
 have hz:(qR [] zp).length<=cf:=by
  have h1:=mV zp []
  rw[lS] at h1
  rw[lI];omega
 have he:∃q,h'.get? s.heap.objs.size=some q:=let ⟨q,_,_,hq,_⟩:=J;⟨q,hq⟩
 exact ur U (by rw[e];exact mf) hs he (Rh hz hd (rk.merge .nil) J)
end L2
namespace L3
open PySem PySem.Spec PyProof.Rows L2
abbrev St:=L2.St
inductive D where
 |non | bl (b:Bool) | int (i:Int) | str (x:Str) | tup (ds:List D) | fl (ds:List D) | ref (a:aT) | ty (n:String) | ktup (ds:List D)
def FzL(K:ag)(H:Hp)(a:aT)(xs:List V):Prop :=
 (∃o,H a=some (.frz o (.lst xs))) \/
  ∃(o:Obj) (its:Array af) (n:Nat),K.lookup a=some o/\o.cls=.type "list"/\o.dict=none/\o.data=.seq its n/\its.size<=cf/\Vals xs its.toList
variable{K:ag}{H:Hp}{a:aT}{xs:List V}
def FzL.sq(h:FzL K H a xs):cV K H a xs:=by
 rcases h with ⟨o,h⟩ | h
 ·exact .inl (.inr ⟨o,h⟩)
 ·exact .inr h
def KTp(K:ag)(a:aT)(xs:List V):Prop:=∃(o:Obj) (its:Array af) (n:Nat),K.lookup a=some o/\o.cls=.type "tuple"/\o.data=.seq its n/\its.size<=cf/\Vals xs its.toList
def KTp.sq(h:KTp K a xs):jC K H a xs:=.inr h
mutual
inductive Rep(K:ag)(H:Hp):D->V->Prop
 |non:Rep K H .non .non
 |bl (b:Bool):Rep K H (.bl b) (.bl b)
 |int (i:Int):Rep K H (.int i) (.int i)
 |str (x:Str):Rep K H (.str x) (.str x)
 |ty (n:String):Rep K H (.ty n) (.ty n)
 |ref (a:aT):Rep K H (.ref a) (.ref a)
 |tup {a:aT} {xs:List V} {ds:List D}:H a=some (.tup xs)->aK K H ds xs->Rep K H (.tup ds) (.ref a)
 |fl {a:aT} {xs:List V} {ds:List D}:FzL K H a xs->aK K H ds xs->Rep K H (.fl ds) (.ref a)
 |ktup {a:aT} {xs:List V} {ds:List D}:KTp K a xs->aK K H ds xs->Rep K H (.ktup ds) (.ref a)
inductive aK(K:ag)(H:Hp):List D->List V->Prop
 |nil:aK K H [] []
 |cons {d:D} {v:V} {ds:List D} {vs:List V}:Rep K H d v->aK K H ds vs->aK K H (d::ds) (v::vs)
end
structure TK(H H':Hp):Prop where
 tup:∀a xs,H a=some (.tup xs)->H' a=some (.tup xs)
 frz:∀a o u,H a=some (.frz o u)->H' a=some (.frz o u)
def TK.refl:TK H H:=⟨λ_ _ h=>h,λ_ _ _ h=>h⟩
def TK.trans{H1 H2:Hp}(a:TK H H1)(b:TK H1 H2):TK H H2:=⟨λc xs h=>b.tup c xs (a.tup c xs h),λc o u h=>b.frz c o u (a.frz c o u h)⟩
variable{p:aT}
def TK.fresh{o:HO}(n:H p=none):TK H (upd H p o) :=
 ⟨λa xs h=>by rw[aC (aX h n)];exact h,λa o' u h=>by rw[aC (aX h n)];exact h⟩
def TK.lst{H:Hp}{p:aT}{o:HO}{xs:List V}(n:H p=some (.lst xs)):TK H (upd H p o) :=
 ⟨λa ys h=>by rw[aC (j4 h n (by intro z;cases z))];exact h,λa o' u h=>by rw[aC (j4 h n (by intro z;cases z))];exact h⟩
def TK.dT{H:Hp}{p:aT}{o:HO}{xs:List (List Key×V)}(n:H p=some (.dT xs)):TK H (upd H p o) :=
 ⟨λa ys h=>by rw[aC (j4 h n (by intro z;cases z))];exact h,λa o' u h=>by rw[aC (j4 h n (by intro z;cases z))];exact h⟩
def TK.ins{H:Hp}{p C dx:aT}{o:HO}{xs:List (Str×V)}(n:H p=some (.ins C dx xs)):TK H (upd H p o) :=
 ⟨λa ys h=>by rw[aC (j4 h n (by intro z;cases z))];exact h,λa o' u h=>by rw[aC (j4 h n (by intro z;cases z))];exact h⟩
def TK.sqT{H':Hp}(t:TK H H')(h:jC K H a xs):jC K H' a xs:=by
 rcases h with (h | ⟨o,h⟩) | h
 ·exact .inl (.inl (t.tup _ _ h))
 ·exact .inl (.inr ⟨o,t.frz _ _ _ h⟩)
 ·exact .inr h
def TK.fzL{H':Hp}(t:TK H H')(h:FzL K H a xs):FzL K H' a xs:=by
 rcases h with ⟨o,h⟩ | h
 ·exact .inl ⟨o,t.frz _ _ _ h⟩
 ·exact .inr h
def Rep.mono{H':Hp}(t:TK H H'){d:D}{v:V}(h:Rep K H d v):Rep K H' d v :=
 Rep.rec (motive_1:=λd v _=>Rep K H' d v) (motive_2:=λds vs _=>aK K H' ds vs) .non .bl .int .str .ty .ref (λh _ r=>.tup (t.tup _ _ h) r) (λh _ r=>.fl (t.fzL h) r) (λh _ r=>.ktup h r) .nil (λ_ _ r s=>.cons r s) h
variable{ds:List D}{vs:List V}
def aK.mono{H':Hp}(t:TK H H')(h:aK K H ds vs):aK K H' ds vs :=
 aK.rec (motive_1:=λd v _=>Rep K H' d v) (motive_2:=λds vs _=>aK K H' ds vs) .non .bl .int .str .ty .ref (λh _ r=>.tup (t.tup _ _ h) r) (λh _ r=>.fl (t.fzL h) r) (λh _ r=>.ktup h r) .nil (λ_ _ r s=>.cons r s) h
section
variable{K:ag}{H:Hp}
def aK.length(h:aK K H ds vs):ds.length=vs.length :=
 aK.rec (motive_1:=λ_ _ _=>True) (motive_2:=λds vs _=>ds.length=vs.length) trivial (λ_=>trivial) (λ_=>trivial) (λ_=>trivial) (λ_=>trivial) (λ_=>trivial) (λ_ _ _=>trivial) (λ_ _ _=>trivial) (λ_ _ _=>trivial) rfl (λ_ _ _ i=>congrArg (· + 1) i) h
theorem aK.get:∀ {ds:List D} {vs:List V} {i:Nat} {d:D},aK K H ds vs->ds[i]?=some d->∃v,vs[i]?=some v/\Rep K H d v
 |_,_,_,_,.nil,e=>by simp at e
 |_,_,0,_,.cons r _,e=>by simp at e;subst e;exact⟨_,rfl,r⟩
 |_,_,i+1,d,.cons _ t,e=>by
  obtain⟨u,h1,h2⟩:=aK.get (i:=i) (d:=d) t (by simpa using e)
  exact⟨u,by simpa using h1,h2⟩
theorem aK.FQ:∀ {ds:List D} {vs:List V} {i:Nat} {v:V},aK K H ds vs->vs[i]?=some v->∃d,ds[i]?=some d/\Rep K H d v
 |_,_,_,_,.nil,e=>by simp at e
 |_,_,0,_,.cons r _,e=>by simp at e;subst e;exact⟨_,rfl,r⟩
 |_,_,i+1,v,.cons _ t,e=>by
  obtain⟨u,h1,h2⟩:=aK.FQ (i:=i) (v:=v) t (by simpa using e)
  exact⟨u,by simpa using h1,h2⟩
def aK.append{es:List D}{us:List V}(h:aK K H ds vs)(s:aK K H es us):aK K H (ds++es) (vs++us) :=
 aK.rec (motive_1:=λ_ _ _=>True) (motive_2:=λds vs _=>aK K H (ds++es) (vs++us)) trivial (λ_=>trivial) (λ_=>trivial) (λ_=>trivial) (λ_=>trivial) (λ_=>trivial) (λ_ _ _=>trivial) (λ_ _ _=>trivial) (λ_ _ _=>trivial) s (λr _ _ i=>.cons r i) h
theorem aK.take:∀ {ds:List D} {vs:List V} (n:Nat),aK K H ds vs->aK K H (ds.take n) (vs.take n)
 |_,_,0,_=>.nil
 |_,_,_+1,.nil=>.nil
 |_,_,n+1,.cons r t=>.cons r (aK.take n t)
theorem aK.drop:∀ {ds:List D} {vs:List V} (n:Nat),aK K H ds vs->aK K H (ds.drop n) (vs.drop n)
 |_,_,0,r=>r
 |_,_,_+1,.nil=>.nil
 |_,_,n+1,.cons _ t=>aK.drop n t
def aK.snoc{d:D}{v:V}(r:aK K H ds vs)(s:Rep K H d v):aK K H (ds++[d]) (vs++[v]):=r.append (.cons s .nil)
theorem aK.ints:∀(ns:List Int),aK K H (ns.map D.int) (ns.map V.int)
 |[]=>.nil
 |n::ns=>.cons (.int n) (aK.ints ns)
def aK.o7{ns:List Int}:∀ {vs:List V},aK K H (ns.map D.int) vs->vs=ns.map V.int:=by
 induction ns with
 |nil=>intro vs h;cases h;rfl
 |cons n ns ih=>
  intro vs h
  cases h with
  |cons r t=>cases r;rw[aE,ih t]
end
inductive O3 where
 |lst (ds:List D)
 |dic (zp:List (List Key×D))
 |dik (zp:List (Key×D))
 |ins (c:Str) (fs:List (Str×D))
 |exc (c:Str) (fs:List (Str×D))
 |tab (x:Str)
 |tabd (x:Str) (l k:Nat)
abbrev aA:=aT->Option O3
def au(H:aA)(a:aT)(o:O3):aA:=λb=>if b=a then some o else H b
variable{o:O3}
def aj{H:aA}:au H a o a=some o:=by unfold au;rw[if_pos rfl]
def aG{H:aA}{b:aT}(h:b≠a):au H a o b=H b:=by unfold au;rw[if_neg h]
def cN{H:aA}{u:O3}:au (au H a o) a u=au H a u:=by
 funext b;unfold au;split <;> rfl
def ne3{H:aA}{b:aT}(h:H a=some o)(h':H b=none):a≠b:=by
 intro e;subst e;rw[h] at h';cases h'
def aej(a C:aT)(dd:Option aT):HO:=.ext λh=>∃o vs,h.get? a=some o/\o.cls=.ref C/\o.data=.fields vs/\o.dict=dd
def XF(K:ag)(H:Hp)(dd:Option aT)(fs:List (Str×D)):Prop:=fs=[]\/∃dx od xs,dd=some dx/\H dx=some (.frz od (.xd xs))/\Paired (λ(p:Str×D) (q:Str×V)=>p.1=q.1/\Rep K H p.2 q.2) fs xs
def XF.mono{H':Hp}{dd:Option aT}{fs:List (Str×D)}(x:XF K H dd fs)(t:TK H H'):XF K H' dd fs:=by
 rcases x with x | ⟨dx,od,xs,e,q,r⟩
 ·exact .inl x
 ·exact .inr ⟨dx,od,xs,e,t.frz _ _ _ q,Paired.pA r λ_ _ z=>⟨z.1,z.2.mono t⟩⟩
structure RB(K:ag)(H:Hp)(x:Str)(c a:aT):Prop where
 tab:W.tabIn K x=some (c,a)
 hd:∀h:fA,K.In h->W.CodeHd h c a
 bm:∃bm ob,kq K eK "__builtins__" = some (some (.ref bm))/\bm≠CH/\H bm=some (.frz ob (.own bm))/\ob.cls=.type "module"/\ob.dict=some CH/\ob.data=.plain
def RB.mono{H':Hp}{x:Str}{c:aT}(h:RB K H x c a)(t:TK H H'):RB K H' x c a :=
 ⟨h.tab,h.hd,let ⟨bm,ob,h1,h2,J,O⟩:=h.bm;⟨bm,ob,h1,h2,t.frz _ _ _ J,O⟩⟩
def afd(x:Str):Str:=x ++ ".<locals>." ++ "<lambda>"
def OR(K:ag)(H:Hp)(a:aT):O3->Prop
 |.lst ds=>∃xs,H a=some (.lst xs)/\aK K H ds xs
 |.dic zp=>∃ks,H a=some (.dT ks)/\Paired (λ(p:List Key×D) (q:List Key×V)=>p.1=q.1/\Rep K H p.2 q.2) zp ks
 |.dik zp=>∃ks,H a=some (.dK ks)/\Paired (λ(p:Key×D) (q:Key×V)=>p.1=q.1/\Rep K H p.2 q.2) zp ks
 |.ins c fs=>∃C dx xs,kq K eK c=some (some (.ref C))/\H a=some (.ins C dx xs)/\Paired (λ(p:Str×D) (q:Str×V)=>p.1=q.1/\Rep K H p.2 q.2) fs xs
 |.exc c fs=>∃C dd,kq K eK c=some (some (.ref C))/\H a=some (aej a C dd)/\XF K H dd fs
 |.tab x=>H a=some (.tbl #[])/\∃c,RB K H x c a
 |.tabd x l k=>∃c' oc vs t,H a=some (.tbl #[ma l,ma k,.ref c'])/\H c'=some (.frz oc (.own c'))/\oc.data=.fields vs/\vs[1]?=some (.str (afd x) t)/\∃c,RB K H x c a
def HR(K:ag)(H3:aA)(H:Hp):Prop:=∀a o,H3 a=some o->OR K H a o
def aq(H H':aA):Prop:=∀a o,H a=some o->H' a=some o
def aq.refl{H:aA}:aq H H:=λ_ _ h=>h
def aq.trans{H H1 H2:aA}(a:aq H H1)(b:aq H1 H2):aq H H2:=λc o h=>b c o (a c o h)
def aq.fresh{H:aA}(n:H p=none):aq H (au H p o):=λa u h=>by rw[aG (ne3 h n)];exact h
def aq.upd{H H':aA}(s:aq H H')(n:H p=none):aq H (au H' p o):=λa u h=>by rw[aG (ne3 h n)];exact s a u h
section
variable{K:ag}{H H':Hp}{H3 H3':aA}
def HR.sub(h:HR K H3' H)(s:aq H3 H3'):HR K H3 H:=λa o e=>h a o (s a o e)
def HR.fresh(h:HR K H3 H)(n:H p=none):H3 p=none:=by
 cases e:H3 p with
 |none=>rfl
 |some o=>
  cases o with
  |lst ds=>obtain⟨xs,q,_⟩:=h p _ e;rw[n] at q;cases q
  |dic ks=>obtain⟨xs,q,_⟩:=h p _ e;rw[n] at q;cases q
  |dik ks=>obtain⟨xs,q,_⟩:=h p _ e;rw[n] at q;cases q
  |ins c fs=>obtain⟨C,dx,xs,_,q,_⟩:=h p _ e;rw[n] at q;cases q
  |exc c fs=>obtain⟨C,J,_,q,_⟩:=h p _ e;rw[n] at q;cases q
  |tab x=>obtain⟨q,_⟩:=h p _ e;rw[n] at q;cases q
  |tabd x l k=>obtain⟨_,_,_,_,q,_⟩:=h p _ e;rw[n] at q;cases q
def OR.keep(x:OR K H a o)(t:TK H H')(e:H' a=H a):OR K H' a o:=by
 cases o with
 |lst ds=>obtain⟨xs,q,r⟩:=x;exact⟨xs,e.trans q,r.mono t⟩
 |dic ks=>obtain⟨xs,q,r⟩:=x;exact⟨xs,e.trans q,Paired.pA r λ_ _ z=>⟨z.1,z.2.mono t⟩⟩
 |dik ks=>obtain⟨xs,q,r⟩:=x;exact⟨xs,e.trans q,Paired.pA r λ_ _ z=>⟨z.1,z.2.mono t⟩⟩
 |ins c fs=>obtain⟨C,dx,xs,g,q,r⟩:=x;exact⟨C,dx,xs,g,e.trans q,Paired.pA r λ_ _ z=>⟨z.1,z.2.mono t⟩⟩
 |exc c fs=>obtain⟨C,J,g,q,f⟩:=x;exact⟨C,J,g,e.trans q,f.mono t⟩
 |tab x=>obtain⟨q,c,g⟩:=x;exact⟨e.trans q,c,g.mono t⟩
 |tabd x l k=>obtain⟨O,oc,vs,u,q,U,d,v,c,g⟩:=x;exact⟨O,oc,vs,u,e.trans q,t.frz _ _ _ U,d,v,c,g.mono t⟩
def HR.set(h:HR K H3 H){o:HO}{o3:O3}(t:TK H (upd H p o))(new:OR K (upd H p o) p o3):HR K (au H3 p o3) (upd H p o):=λb u e=>by
 by_cases hb:b=p
 ·subst hb;rw[aj] at e;cases e;exact new
 ·rw[aG hb] at e;exact (h b u e).keep t (aC hb)
def HR.uL(h:HR K H3 H)(t:TK H (upd H p (.lst xs)))(r:aK K (upd H p (.lst xs)) ds xs):HR K (au H3 p (.lst ds)) (upd H p (.lst xs)):=h.set (o3:=.lst ds) t ⟨xs,aZ,r⟩
def HR.tup(h:HR K H3 H){p:aT}{xs:List V}(n:H p=none):HR K H3 (upd H p (.tup xs)):=λb u e=>by
 have J:b≠p:=ne3 e (h.fresh n)
 exact (h b u e).keep (TK.fresh n) (aC J)
end
abbrev cD:=List (Option D)
abbrev bL:=D->aA->Prop
abbrev bK:=cD->aA->bL->Prop
abbrev tG:=cD->aA->(Bool->aA->Prop)->Prop
abbrev qG:=cD->aA->(List D->aA->Prop)->Prop
structure cX where
 nx:cD->aA->Prop
 rt:bL
 bk:cD->aA->Prop:=λ_ _=>False
 ct:cD->aA->Prop:=λ_ _=>False
abbrev bC:=cX->cD->aA->Prop
structure SR(K:ag)(H:Hp)(σ3:cD)(σ:St):Prop where
 len:σ3.length=σ.length
 get:∀(i:Nat) (d:D),σ3[i]?=some (some d)->∃v,σ[i]?=some (some v)/\Rep K H d v
variable{σ:St}
def SR.mono{H':Hp}{σ3:cD}(s:SR K H σ3 σ)(t:TK H H'):SR K H' σ3 σ :=
 ⟨s.len,λi d e=>let ⟨v,h1,h2⟩:=s.get i d e;⟨v,h1,h2.mono t⟩⟩
def SR.set{σ3:cD}(s:SR K H σ3 σ)(i:Nat){d:D}{v:V}(r:Rep K H d v):SR K H (σ3.set i (some d)) (σ.set i (some v)):=by
 refine⟨by simp[s.len],λj e h=>?_⟩
 by_cases hj:j=i
 ·subst hj
  by_cases hl:j<σ3.length
  ·rw[ro hl] at h
   cases h
   exact⟨v,by rw[ro (by rw[←s.len];exact hl)],r⟩
  ·rw[gv (by simpa using hl)] at h;cases h
 ·rw[kN (mI hj)] at h
  obtain⟨u,h1,h2⟩:=s.get j e h
  exact⟨u,by rw[kN (mI hj)];exact h1,h2⟩
def KE(K:ag)(H:Hp)(Q3:bL)(Q:VK):Prop:=∀d v H3' H',TK H H'->HR K H3' H'->Rep K H' d v->Q3 d H3'->Q v H'
def KT(K:ag)(H:Hp)(Q3:Bool->aA->Prop)(Q:Bool->Hp->Prop):Prop:=∀b H3' H',TK H H'->HR K H3' H'->Q3 b H3'->Q b H'
def KA(K:ag)(H:Hp)(Q3:List D->aA->Prop)(Q:List V->Hp->Prop):Prop:=∀ds vs H3' H',TK H H'->HR K H3' H'->aK K H' ds vs->Q3 ds H3'->Q vs H'
def KN(K:ag)(H:Hp)(Q3:cD->aA->Prop)(Q:St->Hp->Prop):Prop:=∀σ3 σ H3' H',TK H H'->SR K H' σ3 σ->HR K H3' H'->Q3 σ3 H3'->Q σ H'
structure KS(K:ag)(H:Hp)(D3:cX)(D:Ends):Prop where
 nx:KN K H D3.nx D.nx
 rt:KE K H D3.rt D.rt
 bk:KN K H D3.bk D.bk
 ct:KN K H D3.ct D.ct
def KE.mono{H1:Hp}{Q3:bL}{Q:VK}(k:KE K H Q3 Q)(t:TK H H1):KE K H1 Q3 Q:=λd v H3 H' t'=>k d v H3 H' (t.trans t')
def KN.mono{H1:Hp}{Q3:cD->aA->Prop}{Q:St->Hp->Prop}(k:KN K H Q3 Q)(t:TK H H1):KN K H1 Q3 Q:=λd v H3 H' t'=>k d v H3 H' (t.trans t')
def KS.mono{H1:Hp}{D3:cX}{D:Ends}(k:KS K H D3 D)(t:TK H H1):KS K H1 D3 D:=⟨k.nx.mono t,k.rt.mono t,k.bk.mono t,k.ct.mono t⟩
inductive jz(K:ag)(t:bK)(σ:St)(H:Hp)(Q:VK):Prop
 |mk (σ3:cD) (H3:aA) (Q3:bL) (_:SR K H σ3 σ) (_:HR K H3 H) (_:t σ3 H3 Q3) (_:KE K H Q3 Q)
variable{G:Prop}
def jz.ex{t:bK}{Q:VK}(z:jz K t σ H Q)(k:∀(σ3:cD) (H3:aA) (Q3:bL),SR K H σ3 σ->HR K H3 H->t σ3 H3 Q3->KE K H Q3 Q->G):G:=by
 cases z with
 |mk σ3 H3 Q3 h0 h1 h2 h3=>exact k σ3 H3 Q3 h0 h1 h2 h3
inductive liftT(K:ag)(t:tG)(σ:St)(H:Hp)(Q:Bool->Hp->Prop):Prop
 |mk (σ3:cD) (H3:aA) (Q3:Bool->aA->Prop) (_:SR K H σ3 σ) (_:HR K H3 H) (_:t σ3 H3 Q3) (_:KT K H Q3 Q)
def liftT.ex{t:tG}{Q:Bool->Hp->Prop}(z:liftT K t σ H Q)(k:∀(σ3:cD) (H3:aA) (Q3:Bool->aA->Prop),SR K H σ3 σ->HR K H3 H->t σ3 H3 Q3->KT K H Q3 Q->G):G:=by
 cases z with
 |mk σ3 H3 Q3 h0 h1 h2 h3=>exact k σ3 H3 Q3 h0 h1 h2 h3
inductive Fv(K:ag)(t:qG)(σ:St)(H:Hp)(Q:List V->Hp->Prop):Prop
 |mk (σ3:cD) (H3:aA) (Q3:List D->aA->Prop) (_:SR K H σ3 σ) (_:HR K H3 H) (_:t σ3 H3 Q3) (_:KA K H Q3 Q)
def Fv.ex{t:qG}{Q:List V->Hp->Prop}(z:Fv K t σ H Q)(k:∀(σ3:cD) (H3:aA) (Q3:List D->aA->Prop),SR K H σ3 σ->HR K H3 H->t σ3 H3 Q3->KA K H Q3 Q->G):G:=by
 cases z with
 |mk σ3 H3 Q3 h0 h1 h2 h3=>exact k σ3 H3 Q3 h0 h1 h2 h3
inductive JB(K:ag)(t:bC)(D:Ends)(σ:St)(H:Hp):Prop
 |mk (σ3:cD) (H3:aA) (D3:cX) (_:SR K H σ3 σ) (_:HR K H3 H) (_:t D3 σ3 H3) (_:KS K H D3 D)
def JB.ex{t:bC}{D:Ends}(z:JB K t D σ H)(k:∀(σ3:cD) (H3:aA) (D3:cX),SR K H σ3 σ->HR K H3 H->t D3 σ3 H3->KS K H D3 D->G):G:=by
 cases z with
 |mk σ3 H3 D3 h0 h1 h2 h3=>exact k σ3 H3 D3 h0 h1 h2 h3
def aF(X:Cx)(e:eT)(t:bK):Prop:=PE X e (jz X.K t)
def yc(X:Cx)(e:eT)(t:tG):Prop:=PT X e (liftT X.K t)
def Ys(X:Cx)(e:eT)(t:tG):Prop:=PW X e (liftT X.K t)
def FJ(X:Cx)(es:List eT)(t:qG):Prop:=PA X es (Fv X.K t)
def qg(X:Cx)(st:rj)(t:bC):Prop:=PS X st (JB X.K t)
def pN(X:Cx)(st:List rj)(t:bC):Prop:=Fz X st (JB X.K t)
section
variable{X:Cx}{e:eT}{es:List eT}{st:rj}{sts:List rj}
def aY{t t':TE}(h:PE X e t)(i:∀σ H Q,t' σ H Q->t σ H Q):PE X e t':=λkL s σ H Q I J=>h kL s σ H Q I (i σ H Q J)
def Hn{t t':TT}(h:PT X e t)(i:∀σ H Q,t' σ H Q->t σ H Q):PT X e t':=λkL s σ H Q I J=>h kL s σ H Q I (i σ H Q J)
def R7{t t':TT}(h:PW X e t)(i:∀σ H Q,t' σ H Q->t σ H Q):PW X e t':=λJ kL s σ H Q I O=>h J kL s σ H Q I (i σ H Q O)
def S8{t t':TA}(h:PA X es t)(i:∀σ H Q,t' σ H Q->t σ H Q):PA X es t':=λpos kL s σ H Q I J=>h pos kL s σ H Q I (i σ H Q J)
def gZ{t t':TS}(h:PS X st t)(i:∀D σ H,t' D σ H->t D σ H):PS X st t':=λkL s σ H D I J=>h kL s σ H D I (i D σ H J)
def Jw{t t':TS}(h:Fz X sts t)(i:∀D σ H,t' D σ H->t D σ H):Fz X sts t':=λkL s σ H D I J=>h kL s σ H D I (i D σ H J)
end
end L3
namespace L3
open PySem PySem.Spec PyProof.Rows L2
abbrev R3:=D->D->aA->bL->Prop
inductive bN(K:ag)(r:R3)(x y:V)(H:Hp)(Q:VK):Prop
 |mk (dx dy:D) (H3:aA) (Q3:bL) (_:HR K H3 H) (_:Rep K H dx x) (_:Rep K H dy y) (_:r dx dy H3 Q3) (_:KE K H Q3 Q)
inductive YB(K:ag)(r:D->aA->bL->Prop)(x:V)(H:Hp)(Q:VK):Prop
 |mk (dx:D) (H3:aA) (Q3:bL) (_:HR K H3 H) (_:Rep K H dx x) (_:r dx H3 Q3) (_:KE K H Q3 Q)
inductive jm(K:ag)(r:List D->aA->bL->Prop)(xs:List V)(H:Hp)(Q:VK):Prop
 |mk (ds:List D) (H3:aA) (Q3:bL) (_:HR K H3 H) (_:aK K H ds xs) (_:r ds H3 Q3) (_:KE K H Q3 Q)
inductive liftM(K:ag)(r:D->List D->aA->bL->Prop)(x:V)(xs:List V)(H:Hp)(Q:VK):Prop
 |mk (d:D) (ds:List D) (H3:aA) (Q3:bL) (_:HR K H3 H) (_:Rep K H d x) (_:aK K H ds xs) (_:r d ds H3 Q3) (_:KE K H Q3 Q)
section
variable{X:Cx}{a b c e:eT}{es:List eT}{pos:Pos}{ta tb tc te:bK}{tr:qG}{tA tB:tG}
def v3(i:Nat):bK:=λσ H Q=>match σ[i]? with
 |some (some d)=>Q d H
 |_=>False
def c3(d:D):bK:=λ_ H Q=>Q d H
def ZQ(i:Nat){x:Str}(hN:X.N[i]?=some x:=by rfl)(hv:Vis X.env.scope x:=by first | exact vn rfl | exact ui (vn rfl) | exact ui (ui rfl))(hd:(x==("__debug__" : Str))=false:=by decide)
  (hcd:(x==("__classdict__" : Str))=false:=by decide):aF X (.Name x pos) (v3 i) :=
 aY (pv i hN hv hd hcd) λσ H Q J=>J.ex λU H3 Y O hr t k=>by
  unfold v3 at t
  split at t
  ·rename_i d h
   obtain⟨v,h1,r⟩:=O.get i d h
   exact⟨v,h1,k d v H3 H TK.refl hr r t⟩
  ·exact t.elim
def aaN{i:Int}{j:Nat}:aF X (.Constant (.int i) j pos) (c3 (.int i)):=aY abz λ_ _ _ ⟨_,_,_,_,hr,t,k⟩=>k _ _ _ _ TK.refl hr (.int i) t
def acD{i:Bool}{j:Nat}:aF X (.Constant (.bool i) j pos) (c3 (.bl i)):=aY ab3 λ_ _ _ ⟨_,_,_,_,hr,t,k⟩=>k _ _ _ _ TK.refl hr (.bl i) t
def abM{j:Nat}:aF X (.Constant .none j pos) (c3 .non):=aY aaQ λ_ _ _ ⟨_,_,_,_,hr,t,k⟩=>k _ _ _ _ TK.refl hr .non t
def Zv{i:Str}{j:Nat}:aF X (.Constant (.str i) j pos) (c3 (.str i)):=aY aaZ λ_ _ _ ⟨_,_,_,_,hr,t,k⟩=>k _ _ _ _ TK.refl hr (.str i) t
def K4{x:Str}{T:String}(hg:Gl X x)(hm:X.mg x=none)(hv:iF x=some (.type T))(hn:x ≠ "__name__":=by decide)(hd:(x==("__debug__" : Str))=false:=by decide):aF X (.Name x pos) (c3 (.ty T)) :=
 aY (Xn (v:=.ty T) hg hm hv rfl hn hd) λ_ _ _ ⟨_,_,_,_,hr,t,k⟩=>k _ _ _ _ TK.refl hr (.ty T) t
def o3(r:R3)(ta tb:bK):bK:=λσ H Q=>ta σ H λx H1=>tb σ H1 λy H2=>r x y H2 Q
def qu{K:ag}{r:R3}{σ:St}{H:Hp}{Q:VK}(h:jz K (o3 r ta tb) σ H Q):tOp (bN K r) (jz K ta) (jz K tb) σ H Q:=by
 obtain⟨al,H3,Q3,sr,hr,t,k⟩:=h
 exact⟨al,H3,_,sr,hr,t,λx v U Ha J Y rx qa=>⟨al,U,_,sr.mono J,Y,qa,λy u Z Hb O ac ry qb=>
  ⟨x,y,Z,Q3,ac,rx.mono O,ry,qb,k.mono (J.trans O)⟩⟩⟩
def sU{op:GV}{r:R3}(ho:ir X (nk op) (bN X.K r))(ha:aF X a ta)(hb:aF X b tb):aF X (.BinOp a op b pos) (o3 r ta tb) :=
 aY (acS ho ha hb) λ_ _ _ h=>qu h
def Ab{op:PU}{r:R3}(ho:ir X (iA op) (bN X.K r))(ha:aF X a ta)(hb:aF X b tb)(hm:vb op b=false:=by first | exact Um _ | with_unfolding_all rfl):aF X (.Compare a [op] [b] pos) (o3 r ta tb) :=
 aY (VN ho ha hb hm) λ_ _ _ h=>qu h
def adW{r:R3}(hr:IxR X (bN X.K r))(ha:aF X a ta)(hb:aF X b tb)(hs:Jj b:=by exact λ_ _=>rfl):aF X (.Subscript a b pos) (o3 r ta tb) :=
 aY (ac4 hr ha hb hs) λ_ _ _ h=>qu h
def u3(r:D->aA->bL->Prop)(ta:bK):bK:=λσ H Q=>ta σ H λx H1=>r x H1 Q
def acz{op:UnaryOp}{r:D->aA->bL->Prop}(ho:UnR X (NN op) (YB X.K r))(ha:aF X a ta):aF X (.UnaryOp op a pos) (u3 r ta) :=
 aY (acC ho ha) λ_ _ _ Y=>Y.ex λZ H3 Q3 sr hr t k=>⟨Z,H3,_,sr,hr,t,λx v J Ha O U rx qa=>⟨x,J,Q3,U,rx,qa,k.mono O⟩⟩
def bt(d:D)(H:aA)(Q:Bool->aA->Prop):Prop:=match d with
 |.bl k=>Q k H
 |_=>False
def KQ{K:ag}{H:Hp}{Q3:Bool->aA->Prop}{Q:Bool->Hp->Prop}(k:KT K H Q3 Q):KE K H (λd H1=>bt d H1 Q3) (λx H'=>∃c,x=.bl c/\Q c H'):=λd v H3' H' O hr J q=>by
 cases J with
 |bl b=>exact⟨b,rfl,k _ _ _ O hr q⟩
 |_=>exact q.elim
def dU(t:bK):tG:=λσ H Q=>t σ H λd H1=>bt d H1 Q
def mL{op:PU}{r:R3}(ho:ir X (iA op) (bN X.K r))(ha:aF X a ta)(hb:aF X b tb)(hm:vb op b=false:=by first | exact Um _ | with_unfolding_all rfl):yc X (.Compare a [op] [b] pos) (dU (o3 r ta tb)) :=
 Hn (Wj ho ha hb hm) λ_ _ _ J=>J.ex λO H3 Y U hr t k=>qu ⟨O,H3,_,U,hr,t,KQ k⟩
def Yi(h:aF X e te)(he:∀whole,LY e X.env whole=(do let v ←whole;NL e.pos;EO [v] (truthy v)):=by intro _;rfl):yc X e (dU te) :=
 Hn (ZD h he) λ_ _ _ J=>J.ex λO H3 Y U hr t k=>⟨O,H3,_,U,hr,t,KQ k⟩
def an3(t u:tG):tG:=λσ H Q=>t σ H λc H1=>if c=true then u σ H1 Q else Q false H1
def or3(t u:tG):tG:=λσ H Q=>t σ H λc H1=>if c=true then Q true H1 else u σ H1 Q
def QJ(t:tG):tG:=λσ H Q=>t σ H λc H1=>Q (!c) H1
variable{rest:List eT}
def KT.mono{K:ag}{H H1:Hp}{Q3:Bool->aA->Prop}{Q:Bool->Hp->Prop}(k:KT K H Q3 Q)(t:TK H H1):KT K H1 Q3 Q:=λd H3 H' t'=>k d H3 H' (t.trans t')
def R8(ha:yc X a tA):Ys X (.BoolOp .And [a] pos) tA:=V0 ha
def VH(ha:yc X a tA):Ys X (.BoolOp .Or [a] pos) tA:=aaD ha
def W3(ha:yc X a tA)(hb:Ys X (.BoolOp .And (b::rest) pos) tB):Ys X (.BoolOp .And (a::b::rest) pos) (an3 tA tB) :=
 R7 (aad ha hb) λ_ _ _ zz=>zz.ex λY H3 Q3 Z hr t k=>⟨Y,H3,_,Z,hr,t,λc U Ha J O qa=>by
  cases c with
  |true=>exact⟨Y,U,Q3,Z.mono J,O,qa,k.mono J⟩
  |false=>exact k _ _ _ J O qa⟩
def abG(ha:yc X a tA)(hb:Ys X (.BoolOp .Or (b::rest) pos) tB):Ys X (.BoolOp .Or (a::b::rest) pos) (or3 tA tB) :=
 R7 (ac5 ha hb) λ_ _ _ zz=>zz.ex λY H3 Q3 Z hr t k=>⟨Y,H3,_,Z,hr,t,λc U Ha J O qa=>by
  cases c with
  |false=>exact⟨Y,U,Q3,Z.mono J,O,qa,k.mono J⟩
  |true=>exact k _ _ _ J O qa⟩
def ab6(h:Ys X e tA):yc X e tA:=h.pt
def We(ha:yc X a tA):yc X (.UnaryOp .Not a pos) (QJ tA) :=
 Hn (abk ha) λ_ _ _ U=>U.ex λY H3 Q3 Z hr t k=>⟨Y,H3,_,Z,hr,t,λc ac Ha J O qa=>k _ _ _ J O qa⟩
def av3(ta tb:bK):bK:=λσ H Q=>ta σ H λx H1=>match x with
 |.bl c=>if c=true then tb σ H1 Q else Q (.bl false) H1
 |_=>False
def nv3(ta:bK):bK:=λσ H Q=>ta σ H λx H1=>match x with
 |.bl c=>Q (.bl (!c)) H1
 |_=>False
def abu(ha:aF X a ta)(hb:aF X (.BoolOp .And (b::rest) pos) tb):aF X (.BoolOp .And (a::b::rest) pos) (av3 ta tb) :=
 aY (Zf ha hb) λ_ _ _ zz=>zz.ex λZ H3 Q3 sr hr t k=>⟨Z,H3,_,sr,hr,t,λx v U Ha J O rx Y=>by
  cases rx with
  |bl c=>
   refine⟨c,rfl,?_⟩
   cases c with
   |true=>exact⟨Z,U,Q3,sr.mono J,O,Y,k.mono J⟩
   |false=>exact k _ _ _ _ J O (.bl false) Y
  |_=>exact Y.elim⟩
def ZL(ha:aF X a ta):aF X (.UnaryOp .Not a pos) (nv3 ta) :=
 aY (aa8 ha) λ_ _ _ Y=>Y.ex λZ H3 Q3 sr hr t k=>⟨Z,H3,_,sr,hr,t,λx v ac Ha J O rx U=>by
  cases rx with
  |bl c=>exact⟨c,rfl,k _ _ _ _ J O (.bl _) U⟩
  |_=>exact U.elim⟩
def ak:qG:=λ_ H Q=>Q [] H
def aa(ta:bK)(tr:qG):qG:=λσ H Q=>ta σ H λx H1=>tr σ H1 λxs H2=>Q (x::xs) H2
def rM:FJ X [] ak:=S8 aaj λ_ _ _ ⟨_,_,_,_,hr,t,k⟩=>k _ _ _ _ TK.refl hr .nil t
def fL(ha:aF X e te)(hr:FJ X es tr)(hs:bS (e::es) X.env=(false,gN e X.env)::bS es X.env:=by rfl):FJ X (e::es) (aa te tr) :=
 S8 (VF ha hr hs) λ_ _ _ zz=>zz.ex λac H3 Q3 sr hr t k=>⟨ac,H3,_,sr,hr,t,λx v U Ha J Y rx qa=>⟨ac,U,_,sr.mono J,Y,qa,λds vs al Hb O Z rs qb=>
  k _ _ _ _ (J.trans O) Z (.cons (rx.mono O) rs) qb⟩⟩
def cO(t:qG):bK:=λσ H Q=>t σ H λds H1=>ds.length<=1000/\Q (.tup ds) H1
def wL(t:qG):bK:=λσ H Q=>t σ H λds H1=>ds.length<=1000/\∀p,H1 p=none->Q (.ref p) (au H1 p (.lst ds))
def uc{n:Nat}(h:n<=1000):n<=cf:=kn (rJ h)
def aaA{x1:Nat}(h:FJ X es tr):aF X (.Tuple es x1 pos) (cO tr) :=
 aY (Zi h) λ_ _ _ Z=>Z.ex λac H3 Q3 sr hr t k=>⟨ac,H3,_,sr,hr,t,λds vs al Ha J O U Y=>
  ⟨by rw[←U.length];exact uc Y.1,λp n=>k _ _ _ _ (J.trans (TK.fresh n)) (O.tup n) (.tup aZ (U.mono (TK.fresh n))) Y.2⟩⟩
def ZX(h:FJ X es tr):aF X (.List es pos) (wL tr) :=
 aY (aav h) λ_ _ _ Z=>Z.ex λac H3 Q3 sr hr t k=>⟨ac,H3,_,sr,hr,t,λds vs al Ha O J U Y=>
  ⟨by rw[←U.length];exact uc Y.1,λp n=>k _ _ _ _ (O.trans (TK.fresh n)) (J.uL (TK.fresh n) (U.mono (TK.fresh n))) (.ref p) (Y.2 p (J.fresh n))⟩⟩
end
section
variable{X:Cx}
def aH:R3:=λx y H Q=>match x,y with
 |.int i,.int j=>Q (.int (i+j)) H
 |.str i,.str j=>i.length+j.length<=cf/\Q (.str (i++j)) H
 | .ref a,.ref b => (match H a,H b with
  |some (.lst xs),some (.lst ys)=>xs.length+ys.length<=cf/\∀p,H p=none->Q (.ref p) (au H p (.lst (xs++ys)))
  |_,_=>False)
 |_,_=>False
def U4:ir X (nk .Add) (bN X.K aH):=by
 intro kL s σ H x y v u Q I O U h
 obtain⟨dx,dy,H3,Q3,hr,Y,J,t,k⟩:=h
 cases Y with
 |int i=>
  cases J with
  |int j=>exact Zg kL s σ H _ _ v u Q I O U ⟨i,j,rfl,rfl,k _ _ _ _ TK.refl hr (.int _) t⟩
  |_=>exact t.elim
 |str i=>
  cases J with
  |str j=>exact HN kL s σ H _ _ v u Q I O U ⟨i,j,rfl,rfl,t.1,k _ _ _ _ TK.refl hr (.str _) t.2⟩
  |_=>exact t.elim
 |ref a=>
  cases J with
  |ref b=>
   (delta aH at t;dsimp only at t)
   split at t
   ·rename_i xs ys ha hb
    obtain⟨vs,ga,Z⟩:=hr a _ ha
    obtain⟨us,gb,rb⟩:=hr b _ hb
    exact Zy kL s σ H _ _ v u Q I O U ⟨a,b,vs,us,rfl,rfl,ga,gb,by rw[←Z.length,←rb.length];exact t.1,λp n=>
     k _ _ _ _ (TK.fresh n) (hr.uL (TK.fresh n) ((Z.append rb).mono (TK.fresh n))) (.ref p) (t.2 p (hr.fresh n))⟩
   ·exact t.elim
  |_=>exact t.elim
 |_=>exact t.elim
def Yd(C:Int->Int->Prop)(g:Int->Int->D):R3:=λx y H Q=>match x,y with
 |.int i,.int j=>C i j/\Q (g i j) H
 |_,_=>False
def Jd(g:Int->Int->D):R3:=λx y H Q=>match x,y with
 |.int i,.int j=>Q (g i j) H
 |_,_=>False
def Be{f:af->af->Sem af}{g:Int->Int->V}{g3:Int->Int->D}(h:ir X f (Wn g))(e:∀H i j,Rep X.K H (g3 i j) (g i j)):ir X f (bN X.K (Jd g3)):=by
 intro kL s σ H x y v u Q I U Y q
 obtain⟨dx,dy,H3,Z,hr,J,O,t,k⟩:=q
 cases J with
 |int i=>
  cases O with
  |int j=>exact h kL s σ H _ _ v u Q I U Y ⟨i,j,rfl,rfl,k _ _ _ _ TK.refl hr (e _ i j) t⟩
  |_=>exact t.elim
 |_=>exact t.elim
def rF{f:af->af->Sem af}{C:Int->Int->Prop}{g:Int->Int->V}{g3:Int->Int->D}(h:ir X f (rI C g))(e:∀H i j,Rep X.K H (g3 i j) (g i j)):ir X f (bN X.K (Yd C g3)):=by
 intro kL s σ H x y v u Q I U Y q
 obtain⟨dx,dy,H3,Z,hr,J,O,t,k⟩:=q
 cases J with
 |int i=>
  cases O with
  |int j=>exact h kL s σ H _ _ v u Q I U Y ⟨i,j,rfl,rfl,t.1,k _ _ _ _ TK.refl hr (e _ i j) t.2⟩
  |_=>exact t.elim
 |_=>exact t.elim
def Vu:ir X (nk .Sub) (bN X.K (Jd λi j=>.int (i-j))):=Be abw λ_ _ _=>.int _
def Vb:ir X (nk .Mod) (bN X.K (Yd (λ_ j=>0<j) λi j=>.int (i%j))):=rF aas λ_ _ _=>.int _
def WK:ir X (nk .Pow) (bN X.K (Yd Wm λi j=>.int (i ^ j.toNat))):=rF aao λ_ _ _=>.int _
def aap:ir X (iA .Gt) (bN X.K (Jd λi j=>.bl (decide (j<i)))):=Be ad7 λ_ _ _=>.bl _
def abh:ir X (iA .GtE) (bN X.K (Jd λi j=>.bl (decide (j<=i)))):=Be adS λ_ _ _=>.bl _
def intsOf:List D->Option (List Int)
 |[]=>some []
 |.int i::ds=>(intsOf ds).map (i::·)
 |_::_=>none
theorem dR:∀ {ds:List D} {ns:List Int},intsOf ds=some ns->ds=ns.map D.int
 |[],_,h=>by simp only[intsOf,k9] at h;subst h;rfl
 |.int i::ds,ns,h=>by
  simp only[intsOf,cv] at h
  obtain⟨ms,h1,h2⟩:=h
  subst h2
  rw[dR h1];rfl
 |.non::_,_,h=>by simp[intsOf] at h
 |.bl _::_,_,h=>by simp[intsOf] at h
 |.str _::_,_,h=>by simp[intsOf] at h
 |.tup _::_,_,h=>by simp[intsOf] at h
 |.fl _::_,_,h=>by simp[intsOf] at h
 |.ktup _::_,_,h=>by simp[intsOf] at h
 |.ref _::_,_,h=>by simp[intsOf] at h
 |.ty _::_,_,h=>by simp[intsOf] at h
def vJ:R3:=λx y H Q=>match x,y with
 |.int i,.int j=>Q (.bl (decide (i<j))) H
 | .tup xs,.tup ys => (match intsOf xs,intsOf ys with
  |some ns,some ms=>Q (.bl (HT.lexLt ns ms)) H
  |_,_=>False)
 |_,_=>False
def aag(hu:X.A.units<lP):ir X (iA .Lt) (bN X.K vJ):=by
 intro kL s σ H x y v u Q I U Y h
 obtain⟨dx,dy,H3,Q3,hr,O,J,t,k⟩:=h
 cases O with
 |int i=>
  cases J with
  |int j=>exact ad5 kL s σ H _ _ v u Q I U Y ⟨i,j,rfl,rfl,k _ _ _ _ TK.refl hr (.bl _) t⟩
  |_=>exact t.elim
 |tup ha ra=>
  cases J with
  |tup hb rb=>
   (delta vJ at t;dsimp only at t)
   split at t
   ·rename_i ns ms Z e2
    have z1:=dR Z
    have z2:=dR e2
    subst z1;subst z2
    have w1:=ra.o7
    have w2:=rb.o7
    subst w1;subst w2
    exact aa1 hu kL s σ H _ _ v u Q I U Y ⟨_,_,ns,ms,rfl,rfl,jC.of ha,jC.of hb,k _ _ _ _ TK.refl hr (.bl _) t⟩
   ·exact t.elim
  |_=>exact t.elim
 |_=>exact t.elim
def nM:D->aA->bL->Prop:=λx H Q=>match x with
 |.int i=>Q (.int (-i)) H
 |_=>False
def Wi:UnR X (NN .USub) (YB X.K nM):=by
 intro kL s σ H x v Q I O h
 obtain⟨dx,H3,U,hr,J,t,k⟩:=h
 cases J with
 |int i=>exact aaH kL s σ H _ v Q I O ⟨i,rfl,k _ _ _ _ TK.refl hr (.int _) t⟩
 |_=>exact t.elim
def isN:D->Bool
 |.non=>true
 |_=>false
def K3:R3:=λx y H Q=>match y with
 |.non=>Q (.bl (isN x)) H
 |_=>False
def Wr{K:ag}{H:Hp}{d:D}{v:V}(r:Rep K H d v):decide (v=.non)=isN d:=by
 cases r with
 |non=>rfl
 |_=>exact decide_eq_false (by intro z;cases z)
def Vv:ir X (iA .Is) (bN X.K K3):=by
 intro kL s σ H x y v u Q I U Y h
 obtain⟨dx,dy,H3,Z,hr,J,O,t,k⟩:=h
 cases O with
 |non=>exact aau kL s σ H _ _ v u Q I U Y ⟨rfl,by rw[Wr J];exact k _ _ _ _ TK.refl hr (.bl _) t⟩
 |_=>exact t.elim
def uv{K:ag}{H:Hp}{ds:List D}{vs:List V}{i:Int}{d:D}(r:aK K H ds vs)(h:jU ds i=some d):∃v,jU vs i=some v/\Rep K H d v:=by
 unfold jU at h ⊢
 rw[r.length] at h
 cases e:Ov vs.length i with
 |none=>rw[e] at h;cases h
 |some j=>
  rw[e] at h
  exact r.get h
def aB:R3:=λx y H Q=>match x,y with
 |.tup ds,.int i=>(match jU ds i with | some d=>Q d H | none=>False)
 |.fl ds,.int i=>(match jU ds i with | some d=>Q d H | none=>False)
 |.ktup ds,.int i=>(match jU ds i with | some d=>Q d H | none=>False)
 |.str z,.int i=>z.length<=cf/\(match jU z.cps.toList i with | some c=>Q (.str ⟨#[c]⟩) H | none=>False)
 | .ref a,.int i => (match H a with
  |some (.lst ds)=>(match jU ds i with | some d=>Q d H | none=>False)
  |_=>False)
 |_,_=>False
def ix3:IxR X (bN X.K aB):=by
 intro value J kL s σ H x y v u Q I rx ry h hs
 obtain⟨dx,dy,H3,Q3,hr,ac,U,t,k⟩:=h
 cases ac with
 |tup Y Z=>
  cases U with
  |int i=>
   (delta aB at t;dsimp only at t)
   split at t
   ·rename_i d e
    obtain⟨w,ew,O⟩:=uv Z e
    exact Rt value J kL s σ H _ _ v u Q I rx ry ⟨_,_,i,w,rfl,rfl,jC.of Y,ew,k _ _ _ _ TK.refl hr O t⟩ hs
   ·exact t.elim
  |_=>exact t.elim
 |ktup Y Z=>
  cases U with
  |int i=>
   (delta aB at t;dsimp only at t)
   split at t
   ·rename_i d e
    obtain⟨w,ew,O⟩:=uv Z e
    exact Rt value J kL s σ H _ _ v u Q I rx ry ⟨_,_,i,w,rfl,rfl,Y.sq,ew,k _ _ _ _ TK.refl hr O t⟩ hs
   ·exact t.elim
  |_=>exact t.elim
 |fl Y Z=>
  cases U with
  |int i=>
   (delta aB at t;dsimp only at t)
   split at t
   ·rename_i d e
    obtain⟨w,ew,O⟩:=uv Z e
    exact Jl value J kL s σ H _ _ v u Q I rx ry ⟨_,_,i,w,rfl,rfl,Y.sq,ew,k _ _ _ _ TK.refl hr O t⟩ hs
   ·exact t.elim
  |_=>exact t.elim
 |str z=>
  cases U with
  |int i=>
   (delta aB at t;dsimp only at t)
   obtain⟨hz,t⟩:=t
   split at t
   ·rename_i c e
    exact abr value J kL s σ H _ _ v u Q I rx ry ⟨z,i,c,rfl,rfl,hz,e,k _ _ _ _ TK.refl hr (.str _) t⟩ hs
   ·exact t.elim
  |_=>exact t.elim
 |ref a=>
  cases U with
  |int i=>
   (delta aB at t;dsimp only at t)
   split at t
   ·rename_i ds Y
    obtain⟨vs,ga,Z⟩:=hr a _ Y
    split at t
    ·rename_i d e
     obtain⟨w,ew,O⟩:=uv Z e
     exact Jl value J kL s σ H _ _ v u Q I rx ry ⟨_,_,i,w,rfl,rfl,cV.of ga,ew,k _ _ _ _ TK.refl hr O t⟩ hs
    ·exact t.elim
   ·exact t.elim
  |_=>exact t.elim
 |_=>exact t.elim
def iG{α:Type}(xs:List α)(lo hi:Option Int):List α:=(xs.drop (HT.c7 xs.length 0 lo)).take (HT.c7 xs.length xs.length hi-HT.c7 xs.length 0 lo)
def Dt{K:ag}{H:Hp}{ds:List D}{vs:List V}(r:aK K H ds vs)(lo hi:Option Int):aK K H (iG ds lo hi) (Cj vs lo hi):=by
 unfold iG Cj
 rw[r.length]
 exact (r.drop _).take _
abbrev Yo:=cD->aA->(Option Int->aA->Prop)->Prop
inductive Rf(K:ag)(t:Yo)(σ:St)(H:Hp)(Q:Option Int->Hp->Prop):Prop
 |mk (σ3:cD) (H3:aA) (Q3:Option Int->aA->Prop) (_:SR K H σ3 σ) (_:HR K H3 H) (_:t σ3 H3 Q3) (_:∀o H3' H',TK H H'->HR K H3' H'->Q3 o H3'->Q o H')
def Rf.ex{K:ag}{t:Yo}{σ:St}{H:Hp}{Q:Option Int->Hp->Prop}{G:Prop}(z:Rf K t σ H Q)(k:∀(σ3:cD) (H3:aA) (Q3:Option Int->aA->Prop),SR K H σ3 σ->HR K H3 H->t σ3 H3 Q3->(∀o H3' H',TK H H'->HR K H3' H'->Q3 o H3'->Q o H')->G):G:=by
 cases z with
 |mk σ3 H3 Q3 h0 h1 h2 h3=>exact k σ3 H3 Q3 h0 h1 h2 h3
def PO3(X:Cx)(e:Option eT)(t:Yo):Prop:=PO X e (Rf X.K t)
def RG{e:Option eT}{t t':TO}(h:PO X e t)(i:∀σ H Q,t' σ H Q->t σ H Q):PO X e t':=λkL s σ H Q I J=>h kL s σ H Q I (i σ H Q J)
def Wl:Yo:=λ_ H Q=>Q none H
def UG(t:bK):Yo:=λσ H Q=>t σ H λx H1=>match x with
 |.int i=>Q (some i) H1
 |_=>False
def Qo:PO3 X none Wl:=RG VP λ_ _ _ ⟨_,_,_,_,hr,t,k⟩=>k _ _ _ TK.refl hr t
def QG{e:eT}{te:bK}(h:aF X e te):PO3 X (some e) (UG te):=RG (V5 h) λ_ _ _ Y=>Y.ex λZ H3 Q3 sr hr t k=>
 ⟨Z,H3,_,sr,hr,t,λx v ac Ha J O rx U=>by
  cases rx with
  |int i=>exact⟨i,rfl,k _ _ _ J O U⟩
  |_=>exact U.elim⟩
abbrev Zx:=D->Option Int->Option Int->aA->bL->Prop
inductive zr(K:ag)(r:Zx)(x:V)(lo hi:Option Int)(H:Hp)(Q:VK):Prop
 |mk (d:D) (H3:aA) (Q3:bL) (_:HR K H3 H) (_:Rep K H d x) (_:r d lo hi H3 Q3) (_:KE K H Q3 Q)
def Ub(r:Zx)(te:bK)(tl th:Yo):bK:=λσ H Q=>te σ H λx H1=>tl σ H1 λl H2=>th σ H2 λu H3=>r x l u H3 Q
def wy{e:eT}{te:bK}{lo hi:Option eT}{tl th:Yo}{pos p2:Pos}{r:Zx}(hr:YD X (zr X.K r))(he:aF X e te)(hl:PO3 X lo tl)(hu:PO3 X hi th):aF X (.Subscript e (.Slice lo hi none p2) pos) (Ub r te tl th) :=
 aY (TQ hr he hl hu) λ_ _ _ zz=>zz.ex λY H3 Q3 Z hr t k=>⟨Y,H3,_,Z,hr,t,λx v ac Ha J al rx qa=>⟨Y,ac,_,Z.mono J,al,qa,λl am Hb O ap qb=>
  ⟨Y,am,_,(Z.mono J).mono O,ap,qb,λu a0 Hc U a1 qc=>⟨x,a0,Q3,a1,(rx.mono O).mono U,qc,k.mono ((J.trans O).trans U)⟩⟩⟩⟩
def Fi:Zx:=λx lo hi H Q=>match x with
 |.fl ds=>∀p,H p=none->Q (.ref p) (au H p (.lst (iG ds lo hi)))
 | .ref a => (match H a with
  |some (.lst ds)=>∀p,H p=none->Q (.ref p) (au H p (.lst (iG ds lo hi)))
  |_=>False)
 |_=>False
def aaU:YD X (zr X.K Fi):=by
 intro kL s σ H x v Y Z lo hi U Q I rx hs pl pu h
 obtain⟨d,H3,Q3,hr,rd,t,k⟩:=h
 have go:∀(a:aT) (xs:List V) (ds:List D),x=.ref a->cV X.K H a xs->aK X.K H ds xs->(∀p,H3 p=none->Q3 (.ref p) (au H3 p (.lst (iG ds lo hi)))) ->
   ∃T id,xw (.type T) "__getitem__" = pure (some (.builtin id))/\s.TypeIs v T/\a9 (cy X.prog X.w) X.A (A4 v (.ref U)) (EP X kL σ Q) X.xe s:=λa xs ds ex hq J q=>
  Wc kL s σ H x v Y Z lo hi U Q I rx hs pl pu ⟨a,xs,ex,hq,λp n=>
   k _ _ _ _ (TK.fresh n) (hr.uL (TK.fresh n) ((Dt J lo hi).mono (TK.fresh n))) (.ref p) (q p (hr.fresh n))⟩
 cases rd with
 |fl O J=>exact go _ _ _ rfl O.sq J t
 |ref a=>
  (delta Fi at t;dsimp only at t)
  split at t
  ·rename_i ds O
   obtain⟨vs,ga,J⟩:=hr a _ O
   exact go _ _ _ rfl (cV.of ga) J t
  ·exact t.elim
 |_=>exact t.elim
def aM(r:List D->aA->bL->Prop)(t:qG):bK:=λσ H Q=>t σ H λds H1=>r ds H1 Q
def ue{K:ag}{r:List D->aA->bL->Prop}{t:qG}{σ:St}{H:Hp}{Q:VK}(h:jz K (aM r t) σ H Q):tCB (jm K r) (Fv K t) σ H Q:=by
 obtain⟨Y,H3,Z,sr,hr,t,k⟩:=h
 exact⟨Y,H3,_,sr,hr,t,λds vs J Ha O U rs qa=>⟨ds,J,Z,U,rs,qa,k.mono O⟩⟩
def lY{x:Str}{p pos:Pos}{e:eT}{es:List eT}{t:qG}{id:String}{r:List D->aA->bL->Prop}(hc:d8 X (.builtin id) (jm X.K r))(hg:Gl X x)(hm:X.mg x=none)(hv:iF x=some (.builtin id))(ha:FJ X (e::es) t)
  (hn:x ≠ "__name__":=by decide) (hdb:(x==("__debug__" : Str))=false:=by decide)
  (he:bS (e::es) X.env=(false,gN e X.env)::bS es X.env:=by rfl) (hpl:(mN pos (bS es X.env)).any (·.1)=false:=by rfl):aF X (.Call (.Name x p) (e::es) [] pos) (aM r t) :=
 aY (Ur hc hg hm hv ha hn hdb he hpl) λ_ _ _ h=>ue h
def qQ{x:Str}{p pos:Pos}{e:eT}{es:List eT}{t:qG}{T:String}{r:List D->aA->bL->Prop}(hc:d8 X (.type T) (jm X.K r))(hg:Gl X x)(hm:X.mg x=none)(hv:iF x=some (.type T))(ha:FJ X (e::es) t)
  (hn:x ≠ "__name__":=by decide) (hdb:(x==("__debug__" : Str))=false:=by decide)
  (he:bS (e::es) X.env=(false,gN e X.env)::bS es X.env:=by rfl) (hpl:(mN pos (bS es X.env)).any (·.1)=false:=by rfl):aF X (.Call (.Name x p) (e::es) [] pos) (aM r t) :=
 aY (N7 hc hg hm hv ha hn hdb he hpl) λ_ _ _ h=>ue h
def bj:List D->aA->bL->Prop:=λds H Q=>match ds with
 |[.tup xs]=>Q (.int xs.length) H
 |[.fl xs]=>Q (.int xs.length) H
 |[.str z]=>z.length<=cf/\Q (.int z.length) H
 | [.ref a] => (match H a with
  |some (.lst xs)=>Q (.int xs.length) H
  |_=>False)
 |_=>False
def Yc:d8 X (.builtin "len") (jm X.K bj):=by
 intro kL s σ H xs us Q I U h
 obtain⟨ds,H3,Q3,hr,Y,t,k⟩:=h
 cases Y with
 |nil=>exact t.elim
 |cons r1 r2=>
  cases r2 with
  |cons _ _=>cases r1 <;> exact t.elim
  |nil=>
   cases r1 with
   |tup J O=>exact jR kL s σ H _ us Q I U ⟨_,_,rfl,.inr (jC.of J),by rw[←O.length];exact k _ _ _ _ TK.refl hr (.int _) t⟩
   |fl J O=>exact jR kL s σ H _ us Q I U ⟨_,_,rfl,.inl J.sq,by rw[←O.length];exact k _ _ _ _ TK.refl hr (.int _) t⟩
   |str z=>exact Bp kL s σ H _ us Q I U ⟨_,rfl,t.1,k _ _ _ _ TK.refl hr (.int _) t.2⟩
   |ref a=>
    (delta bj at t;dsimp only at t)
    split at t
    ·rename_i ds J
     obtain⟨vs,Z,O⟩:=hr a _ J
     exact jR kL s σ H _ us Q I U ⟨_,_,rfl,.inl (cV.of Z),by rw[←O.length];exact k _ _ _ _ TK.refl hr (.int _) t⟩
    ·exact t.elim
   |_=>exact t.elim
def gK:List D->aA->bL->Prop:=λds H Q=>match ds with
 |[.tup xs]=>Q (.tup xs) H
 |[.fl xs]=>Q (.tup xs) H
 | [.ref a] => (match H a with
  |some (.lst xs)=>Q (.tup xs) H
  |_=>False)
 |_=>False
def NK:d8 X (.type "tuple") (jm X.K gK):=by
 intro kL s σ H xs us Q I U h
 obtain⟨ds,H3,Q3,hr,Y,t,k⟩:=h
 cases Y with
 |nil=>exact t.elim
 |cons r1 r2=>
  cases r2 with
  |cons _ _=>cases r1 <;> exact t.elim
  |nil=>
   cases r1 with
   |tup J O=>exact iZ kL s σ H _ us Q I U ⟨_,_,rfl,.inr ⟨jC.of J,k _ _ _ _ TK.refl hr (.tup J O) t⟩⟩
   |fl J O=>exact iZ kL s σ H _ us Q I U ⟨_,_,rfl,.inl ⟨J.sq,λl n=>k _ _ _ _ (TK.fresh n) (hr.tup n) (.tup aZ (O.mono (TK.fresh n))) t⟩⟩
   |ref a=>
    (delta gK at t;dsimp only at t)
    split at t
    ·rename_i ds J
     obtain⟨vs,Z,O⟩:=hr a _ J
     exact iZ kL s σ H _ us Q I U ⟨_,_,rfl,.inl ⟨cV.of Z,λl n=>k _ _ _ _ (TK.fresh n) (hr.tup n) (.tup aZ (O.mono (TK.fresh n))) t⟩⟩
    ·exact t.elim
   |_=>exact t.elim
def jW:List D->aA->bL->Prop:=λds H Q=>match ds with
 |[.tup xs]=>∀p,H p=none->Q (.ref p) (au H p (.lst xs))
 |[.fl xs]=>∀p,H p=none->Q (.ref p) (au H p (.lst xs))
 | [.ref a] => (match H a with
  |some (.lst xs)=>∀p,H p=none->Q (.ref p) (au H p (.lst xs))
  |_=>False)
 |_=>False
def Ut:d8 X (.type "list") (jm X.K jW):=by
 intro kL s σ H xs us Q I Y h
 obtain⟨ds,H3,Z,hr,rd,t,k⟩:=h
 have J:∀ {ds:List D} {vs:List V},aK X.K H ds vs->(∀p,H3 p=none->Z (.ref p) (au H3 p (.lst ds)))->∀l,H l=none->Q (.ref l) (upd H l (.lst vs)):=λO q l n=>
  k _ _ _ _ (TK.fresh n) (hr.uL (TK.fresh n) (O.mono (TK.fresh n))) (.ref l) (q l (hr.fresh n))
 cases rd with
 |nil=>exact t.elim
 |cons r1 r2=>
  cases r2 with
  |cons _ _=>cases r1 <;> exact t.elim
  |nil=>
   cases r1 with
   |tup U O=>exact jJ kL s σ H _ us Q I Y ⟨_,_,rfl,.inr (jC.of U),J O t⟩
   |fl U O=>exact jJ kL s σ H _ us Q I Y ⟨_,_,rfl,.inl U.sq,J O t⟩
   |ref a=>
    (delta jW at t;dsimp only at t)
    split at t
    ·rename_i ds U
     obtain⟨vs,ga,O⟩:=hr a _ U
     exact jJ kL s σ H _ us Q I Y ⟨_,_,rfl,.inl (cV.of ga),J O t⟩
    ·exact t.elim
   |_=>exact t.elim
end
end L3
namespace L3
open PySem PySem.Spec PyProof.Rows L2
variable{P:cw}{w:da}{K:ag}{tg:eT}
theorem Nh(it:aT)(lo:Int)(n:Nat):Turn P w K tg (Itr lo n) [it] it (λi h=>Me h it (lo+(i:Nat)*1) ((n:Int)-(i:Nat)) 1) where
 mem:=bX.mpr rfl
 obj:=λi h st b J=>by
  rw[bX.mp J]
  exact⟨_,st,λv z=>by have z':ON _=Data.cell v:=z;cases z'⟩
 keep:=λi h h' st k=>k it (bX.mpr rfl) _ st
 item:=by
  intro X Y Z hK hc i kL s σ H E I U st hg
  subst Y Z hK
  obtain⟨f0,f1,f2,f3,f4,f5⟩:=U it (bX.mpr rfl)
  have al:i<n:=hg
  refine wpAny_pyNext_long_item st (by grind) λh' ac sb=>?_
  have I1:Inv X kL σ H { s with heap:=h',toks:=s.toks+1 }:=I.turned (λb o J e=>(sb.2 b J).trans e) f0 f1 f3 f4 f5
  have O:Me h' it (lo+((i+1:Nat):Int)*1) ((n:Int)-((i+1:Nat):Int)) 1:=by
   have e1:lo+(i:Int)*1+1=lo+((i+1:Nat):Int)*1:=by grind
   have e2:(n:Int)-(i:Int)-1=(n:Int)-((i+1:Nat):Int):=by grind
   rw[←e1,←e2];exact ac
  exact⟨_,rfl,ye (s:={ s with heap:=h',toks:=s.toks+1 }) (n := "longrange_iterator") O rfl rfl (by decide) ⟨.int (lo+i),H,I1,⟨s.toks,by rw[Kt]⟩,⟨rfl,rfl⟩,O,λb J=>(U b J).1⟩⟩
 done:=by
  intro X Y Z hK hc i kL s σ H E I U st hg
  subst Y Z hK
  obtain⟨f0,f1,f2,f3,f4,f5⟩:=U it (bX.mpr rfl)
  have am:n<=i:=hg
  exact wpAny_pyNext_long_end (I.ok.hd hc) st (by grind) λh' eb=>⟨rfl,I.turned (t':=s.toks) (λb o J e=>eb b o J e) f0 f1 f3 f4 f5⟩
 self:=λ_ _ _ _ _ st h=>wpAny_pyIter_longiter st h
section
variable{X:Cx}{tg:eT}
theorem range_any{kL:List (aT×Obj)}{σ:St}{H:Hp}{s:aw}{R:It->Hp->Prop}{E:af->aw->Prop}{lo hi:Int}{t u v:Tok}{tk:Nat}(I:Inv X kL σ H s)(q:R (Itr lo (hi-lo).toNat) H) :
  a9 (cy X.prog X.w) X.A (FY (.ref s.heap.objs.size)) (PIE X kL σ tg R) E { s with heap:=s.heap.push { cls:=.type "range",data:=.fields #[.int lo t,.int hi u,.int 1 v] },toks:=tk }:=by
 have J:Inv X kL σ H { s with heap:=s.heap.push { cls:=.type "range",data:=.fields #[.int lo t,.int hi u,.int 1 v] },toks:=tk }:=I.kept λb o e=>ai _ e
 have O:(((hi-lo).toNat:Nat):Int)-((0:Nat):Int)=NC lo hi 1:=by rw[rangeSize_one];split <;> grind
 have U:lo+((0:Nat):Int)*1=lo:=by grind
 have Y:∀b∈[(s.heap.push { cls:=.type "range",data:=.fields #[.int lo t,.int hi u,.int 1 v] }).objs.size],eY X kL H b:=λb Z=>by
  rw[bX.mp Z]
  exact J.wY (a8 _) (J.hok.fresh (a8 _))
 cases hs:Pe lo hi 1 with
 |true=>
  refine wpAny_pyIter_range (OP ..) hs ⟨_,_,_,_,H,rfl,J.kept (t':=tk) λb o e=>ai _ e,FT _ lo (hi-lo).toNat,?_,Y,q⟩
  show IsRangeIter _ _ (lo+((0:Nat):Int)*1) ((((hi-lo).toNat:Nat):Int)-((0:Nat):Int)) 1
  rw[U,O]
  exact ba _ rfl
 |false=>
  refine wpAny_pyIter_longrange (OP ..) hs ⟨_,_,_,_,H,rfl,J.kept (t':=tk) λb o e=>ai _ e,Nh _ lo (hi-lo).toNat,?_,Y,q⟩
  show Me _ _ (lo+((0:Nat):Int)*1) ((((hi-lo).toNat:Nat):Int)-((0:Nat):Int)) 1
  rw[U,O]
  exact ba _ rfl
def acB(ta:TA):TI:=λσ H R=>ta σ H λvs H1=>∃j:Int,vs=[.int j]/\R (Itr 0 j.toNat) H1
def acY(ta:TA):TI:=λσ H R=>ta σ H λvs H1=>∃i j:Int,vs=[.int i,.int j]/\R (Itr i (j-i).toNat) H1
def O4{a:eT}{ta:TA}{p pos:Pos}(hg:Gl X "range")(hm:X.mg "range" = none)(ha:PA X [a] ta)(hs:bS [a] X.env=[(false,gN a X.env)]:=by rfl):PI X tg (.Call (.Name "range" p) [a] [] pos) (acB ta):=by
 intro kL s σ H R I h
 refine ND (eX I hg hm boot_range (fe (cC (ha pos kL s σ H _ I h) λus Y J=>?_) hs rfl))
 obtain⟨vs,H1,O,U,j,e,q⟩:=J
 subst e
 obtain⟨u,rfl,t,rfl⟩:=vals1 U
 exact call_range_1 (range_any O (by simpa using q))
def Mr{a b:eT}{ta:TA}{p pos:Pos}(hg:Gl X "range")(hm:X.mg "range" = none)(ha:PA X [a,b] ta)(hs:bS [a,b] X.env=[(false,gN a X.env),(false,gN b X.env)]:=by rfl)(hs2:bS [b] X.env=[(false,gN b X.env)]:=by rfl) :
  PI X tg (.Call (.Name "range" p) [a,b] [] pos) (acY ta):=by
 intro kL s σ H R I h
 refine ND (eX I hg hm boot_range (fe (cC (ha pos kL s σ H _ I h) λus Y J=>?_) (by rw[hs,hs2]) (by rw[hs2];rfl)))
 obtain⟨vs,H1,O,U,i,j,e,q⟩:=J
 subst e
 obtain⟨u,Z,rfl,⟨t,rfl⟩,⟨t',rfl⟩⟩:=vals2 U
 exact call_range_2 (range_any O q)
end
section
variable{X:Cx}{st:rj}{rest:List rj}{t u:bC}{e:eT}{te:bK}{pos:Pos}
def nU:bC:=λD σ H=>D.nx σ H
def aV(t u:bC):bC:=λD σ H=>t { D with nx:=u D } σ H
def aak:pN X [] nU:=Jw V9 λ_ _ _ ⟨_,_,_,J,hr,t,k⟩=>k.nx _ _ _ _ TK.refl J hr t
def JM(h1:qg X st t)(h2:pN X rest u):pN X (st::rest) (aV t u) :=
 Jw (R5 h1 h2) λ_ _ _ Z=>Z.ex λac H3 J sr hr q k=>⟨ac,H3,{ J with nx:=u J },sr,hr,q,
  ⟨λO al H3' H' tk U Y q'=>⟨O,H3',J,U,Y,q',k.mono tk⟩,k.rt,k.bk,k.ct⟩⟩
def Sh(h1:qg X st t):pN X [st] t:=U6 h1
def O8(te:bK):bC:=λD σ H=>te σ H λ_ H1=>D.nx σ H1
def Xb(he:aF X e te)(hs:tf e none pos.line X.env=pure false:=by rfl):qg X (.Expr e pos) (O8 te) :=
 gZ (VM he hs) λ_ _ _ Y=>Y.ex λZ H3 D3 U hr t k=>⟨Z,H3,_,U,hr,t,λx v ac Ha J O rx qa=>k.nx _ _ _ _ J (U.mono J) O qa⟩
def dD(te:bK):bC:=λD σ H=>te σ H D.rt
def abo(he:aF X e te):qg X (.Return (some e) pos) (dD te) :=
 gZ (aaV he) λ_ _ _ J=>J.ex λO H3 Y U hr t k=>⟨O,H3,_,U,hr,t,k.rt⟩
def nZ(c:tG)(t u:bC):bC:=λD σ H=>c σ H λb H1=>if b=true then t D σ H1 else u D σ H1
def acw{c:eT}{a b:List rj}{tc:tG}(hc:yc X c tc)(ha:pN X a t)(hb:pN X b u):qg X (.If c a b pos) (nZ tc t u) :=
 gZ (adX hc ha hb) λ_ _ _ zz=>zz.ex λY H3 D3 Z hr q k=>⟨Y,H3,_,Z,hr,q,λb O Ha J U qa=>by
  cases b with
  |true=>exact⟨Y,O,D3,Z.mono J,U,qa,k.mono J⟩
  |false=>exact⟨Y,O,D3,Z.mono J,U,qa,k.mono J⟩⟩
def st3(i:Nat)(te:bK):bC:=λD σ H=>te σ H λx H1=>D.nx (σ.set i (some x)) H1
def abm(i:Nat){x:Str}{pos':Pos}(hN:X.N.Nodup)(he:aF X e te)(hi:X.N[i]?=some x:=by rfl)(hx:Loc X.env.scope x:=by first | exact vn rfl | exact ui rfl)(hs:tf e (some (.Name x pos')) pos.line X.env=pure false:=by rfl)
  (hf:X.fn x=true\/X.env.scope.names.lookup x=some .local:=by first | exact .inl rfl | exact .inr rfl | assumption):qg X (.Assign [.Name x pos'] e pos) (st3 i te) :=
 gZ (aaP hN hi hx he hs hf) λ_ _ _ Y=>Y.ex λZ H3 D3 U hr t k=>⟨Z,H3,_,U,hr,t,λx v ac Ha J O rx qa=>k.nx _ _ _ _ J ((U.mono J).set i rx) O qa⟩
abbrev um:=D->cD->aA->(cD->aA->Prop)->Prop
inductive J1(K:ag)(t:um)(v:V)(σ:St)(H:Hp)(Q:St->Hp->Prop):Prop
 |mk (d:D) (σ3:cD) (H3:aA) (Q3:cD->aA->Prop) (_:Rep K H d v) (_:SR K H σ3 σ) (_:HR K H3 H) (_:t d σ3 H3 Q3) (_:KN K H Q3 Q)
def PG3(X:Cx)(tg:eT)(t:um):Prop:=PG X tg (J1 X.K t)
def Hw{t t':TG}(h:PG X tg t)(i:∀v σ H Q,t' v σ H Q->t v σ H Q):PG X tg t':=λkL s σ H v u Q I r J=>h kL s σ H v u Q I r (i v σ H Q J)
def jB(i:Nat):um:=λd σ H Q=>Q (σ.set i (some d)) H
def VJ(i:Nat){x:Str}(hN:X.N.Nodup)(hi:X.N[i]?=some x:=by rfl)(hx:Loc X.env.scope x:=by first | exact vn rfl | exact ui rfl)(hf:X.fn x=true\/X.env.scope.names.lookup x=some .local:=by first | exact .inl rfl | exact .inr rfl | assumption) :
  PG3 X (.Name x pos) (jB i):=Hw (fM hN hi hx hf) λ_ _ _ _ ⟨d,U,H3,Y,J,O,hr,t,k⟩=>k _ _ _ _ TK.refl (O.set i J) hr t
def Fy(i j:Nat):um:=λd σ H Q=>match d with
 |.tup [x,y]=>Q ((σ.set i (some x)).set j (some y)) H
 |_=>False
def Zu(i j l:Nat):um:=λd σ H Q=>match d with
 |.tup [x,y,z]=>Q (((σ.set i (some x)).set j (some y)).set l (some z)) H
 |_=>False
def Wo(i j:Nat){x y:Str}{p1 p2:Pos}{kk:Nat}(hc:X.calm=true)(hN:X.N.Nodup)(hi:X.N[i]?=some x:=by rfl)(hx:Loc X.env.scope x:=by first | exact vn rfl | exact ui rfl)(hj:X.N[j]?=some y:=by rfl)(hy:Loc X.env.scope y:=by first | exact vn rfl | exact ui rfl)
  (hf:X.fn x=true\/X.env.scope.names.lookup x=some .local:=by first | exact .inl rfl | exact .inr rfl | assumption) (hf':X.fn y=true\/X.env.scope.names.lookup y=some .local:=by first | exact .inl rfl | exact .inr rfl | assumption) :
  PG3 X (.Tuple [.Name x p1,.Name y p2] kk pos) (Fy i j) :=
 Hw (Ib (n:=2) hc (g8 (fM hN hi hx hf) (g8 (fM hN hj hy hf') Bj))) λv σ H Q ⟨d,U,H3,Y,J,O,hr,t,k⟩=>by
  cases J with
  |tup ha ra=>
   cases ra with
   |nil=>exact t.elim
   |cons r1 ra=>
    cases ra with
    |nil=>exact t.elim
    |cons r2 ra=>
     cases ra with
     |cons _ _=>exact t.elim
     |nil=>exact⟨_,_,rfl,jC.of ha,rfl,_,_,rfl,_,_,rfl,rfl,k _ _ _ _ TK.refl ((O.set i r1).set j r2) hr t⟩
  |_=>exact t.elim
def QM(i j l:Nat){x y z:Str}{p1 p2 p3:Pos}{kk:Nat}(hc:X.calm=true)(hN:X.N.Nodup)(hi:X.N[i]?=some x:=by rfl)(hx:Loc X.env.scope x:=by first | exact vn rfl | exact ui rfl)(hj:X.N[j]?=some y:=by rfl)(hy:Loc X.env.scope y:=by first | exact vn rfl | exact ui rfl)
  (hl:X.N[l]?=some z:=by rfl) (hz:Loc X.env.scope z:=by first | exact vn rfl | exact ui rfl)
  (hf:X.fn x=true\/X.env.scope.names.lookup x=some .local:=by first | exact .inl rfl | exact .inr rfl | assumption) (hf':X.fn y=true\/X.env.scope.names.lookup y=some .local:=by first | exact .inl rfl | exact .inr rfl | assumption)
  (hf'':X.fn z=true\/X.env.scope.names.lookup z=some .local:=by first | exact .inl rfl | exact .inr rfl | assumption) :
  PG3 X (.Tuple [.Name x p1,.Name y p2,.Name z p3] kk pos) (Zu i j l) :=
 Hw (Ib (n:=3) hc (g8 (fM hN hi hx hf) (g8 (fM hN hj hy hf') (g8 (fM hN hl hz hf'') Bj)))) λv σ H Q ⟨d,U,H3,Y,J,O,hr,t,k⟩=>by
  cases J with
  |tup ha ra=>
   cases ra with
   |nil=>exact t.elim
   |cons r1 ra=>
    cases ra with
    |nil=>exact t.elim
    |cons r2 ra=>
     cases ra with
     |nil=>exact t.elim
     |cons r3 ra=>
      cases ra with
      |cons _ _=>exact t.elim
      |nil=>exact⟨_,_,rfl,jC.of ha,rfl,_,_,rfl,_,_,rfl,_,_,rfl,rfl,k _ _ _ _ TK.refl (((O.set i r1).set j r2).set l r3) hr t⟩
  |_=>exact t.elim
def as3(te:bK)(g:um):bC:=λD σ H=>te σ H λx H1=>g x σ H1 D.nx
def aac{g:um}(he:aF X e te)(hg:PG3 X tg g)(hs:swapsWithSole [tg] e pos.line X.env=pure false:=by rfl)(hw:swappedStores [tg] e X.env=pure none:=by rfl)
  (h1:(xo [tg] X.env).map (·.2)=[FX tg X.env]:=by rfl):qg X (.Assign [tg] e pos) (as3 te g) :=
 gZ (ZM he hg hs hw h1) λ_ _ _ zz=>zz.ex λY H3 D3 Z hr t k=>⟨Y,H3,_,Z,hr,t,λx v O Ha J U rx qa=>⟨x,Y,O,_,rx,Z.mono J,U,qa,k.nx.mono J⟩⟩
def wh3(c:tG)(tb:bC):bC:=λD σ H=>∃(P:cD->aA->Prop) (μ:cD->aA->Nat),P σ H/\∀σ H,P σ H ->
 c σ H λb H1=>if b=true then tb { D with nx:=λσ' H'=>P σ' H'/\μ σ' H'<μ σ H,ct:=λσ' H'=>P σ' H'/\μ σ' H'<μ σ H,bk:=D.nx } σ H1 else D.nx σ H1
def Qw{c:eT}{body:List rj}{tc:tG}{tb:bC}(hp:IP (cy X.prog X.w) X.A X.env X.xe)(hc:yc X c tc)(hb:pN X body tb):qg X (.While c body [] pos) (wh3 tc tb) :=
 gZ (Qx hp hc hb) λD σ H zz=>zz.ex λa5 H3 D3 sr hr t k=>by
  obtain⟨P,μ,p0,a1⟩:=t
  refine⟨λm a0 H'=>∃J H3',TK H H'/\SR X.K H' J a0/\HR X.K H3' H'/\P J H3'/\m=μ J H3',⟨_,a5,H3,TK.refl,sr,hr,p0,rfl⟩,?_⟩
  rintro m a6 H1 ⟨U,Z,Y,ac,a3,p1,rfl⟩
  refine⟨U,Z,_,ac,a3,a1 U Z p1,λb a4 Ha O a2 qa=>?_⟩
  cases b with
  |false=>exact k.nx _ _ _ _ (Y.trans O) (ac.mono O) a2 qa
  |true=>
   refine⟨λa0 H'=>∃J H3',TK H H'/\SR X.K H' J a0/\HR X.K H3' H'/\P J H3'/\μ J H3'<μ U Z,?_,?_⟩
   ·rintro a0 H' ⟨J,H3',z1,z2,z3,z4,z5⟩
    exact⟨_,z5,J,H3',z1,z2,z3,z4,rfl⟩
   ·have kk:=k.mono (Y.trans O)
    exact⟨U,a4,_,ac.mono O,a2,qa,⟨λJ a0 H3' H' al am ap q'=>⟨J,H3',(Y.trans O).trans al,am,ap,q'.1,q'.2⟩,kk.rt,kk.nx,
     λJ a0 H3' H' al am ap q'=>⟨J,H3',(Y.trans O).trans al,am,ap,q'.1,q'.2⟩⟩⟩
abbrev wI:=cD->aA->(List D->(aA->Prop)->aA->Prop)->Prop
def zJ(K:ag)(H0:Hp)(ds:List D)(keep:aA->Prop)(J:It):Prop :=
 ∀H3 H,TK H0 H->HR K H3 H->keep H3->(∀i,i<ds.length->J.go i H/\∀x H',J.yld i H x H'->TK H H'/\HR K H3 H'/\∃d,ds[i]?=some d/\Rep K H' d x)/\J.stop ds.length H
inductive Yr(K:ag)(t:wI)(σ:St)(H:Hp)(R:It->Hp->Prop):Prop
 |mk (σ3:cD) (H3:aA) (R3:List D->(aA->Prop)->aA->Prop) (_:SR K H σ3 σ) (_:HR K H3 H) (_:t σ3 H3 R3) (_:∀ds keep J H3' H',TK H H'->HR K H3' H'->zJ K H' ds keep J->R3 ds keep H3'->R J H')
def tM(X:Cx)(tg iter:eT)(t:wI):Prop:=PI X tg iter (Yr X.K t)
def lQ{iter:eT}{t t':TI}(h:PI X tg iter t)(i:∀σ H R,t' σ H R->t σ H R):PI X tg iter t':=λkL s σ H R I J=>h kL s σ H R I (i σ H R J)
def wH(te:bK):wI:=λσ H R=>te σ H λx H1=>match x with
 | .ref a => (match H1 a with
  |some (.lst ds)=>R ds (λH'=>H' a=some (.lst ds)) H1
  |_=>False)
 |.fl ds=>R ds (λ_=>True) H1
 |_=>False
def Vq(te:bK):wI:=λσ H R=>te σ H λx H1=>match x with
 |.tup ds=>R ds (λ_=>True) H1
 |_=>False
def Mj{H:Hp}{a:aT}{ds:List D}:zJ K H ds (λH'=>H' a=some (.lst ds)) (Itl K a):=λH3 H' _ hr U=>by
 obtain⟨vs,J,O⟩:=hr a _ U
 refine⟨λi hi=>⟨⟨vs,vs[i]'(by rw[←O.length];exact hi),cV.of J,by simp⟩,λx Y y=>?_⟩,⟨vs,cV.of J,by rw[O.length];exact a8 _⟩⟩
 obtain⟨e,y⟩:=y
 subst e
 exact⟨TK.refl,hr,O.FQ (y vs (cV.of J))⟩
def WD{H:Hp}{a:aT}{xs:List V}{ds:List D}(ha:FzL K H a xs)(ra:aK K H ds xs):zJ K H ds (λ_=>True) (Itl K a):=λH3 H' U hr _=>by
 have J:=(U.fzL ha).sq
 have O:=ra.mono U
 refine⟨λi hi=>⟨⟨xs,xs[i]'(by rw[←ra.length];exact hi),J,by simp⟩,λx Y y=>?_⟩,⟨xs,J,by rw[ra.length];exact a8 _⟩⟩
 obtain⟨e,y⟩:=y
 subst e
 exact⟨TK.refl,hr,O.FQ (y xs J)⟩
def Qt{H:Hp}{a:aT}{xs:List V}{ds:List D}(ha:jC K H a xs)(ra:aK K H ds xs):zJ K H ds (λ_=>True) (Itt K a):=λH3 H' U hr _=>by
 have J:=U.sqT ha
 have O:=ra.mono U
 refine⟨λi hi=>⟨⟨xs,xs[i]'(by rw[←ra.length];exact hi),J,by simp⟩,λx Y y=>?_⟩,⟨xs,J,by rw[ra.length];exact a8 _⟩⟩
 obtain⟨e,y⟩:=y
 subst e
 exact⟨TK.refl,hr,O.FQ (y xs J)⟩
def U7(h:aF X e te):tM X tg e (wH te) :=
 lQ (Wt h) λ_ _ _ ⟨ac,H3,R3,sr,hr,t,k⟩=>⟨ac,H3,_,sr,hr,t,λx v al Ha U J rx O=>by
  cases rx with
  |ref a=>
   simp only[] at O
   split at O
   ·rename_i ds Y
    obtain⟨vs,ga,Z⟩:=J a _ Y
    exact⟨a,rfl,⟨vs,cV.of ga⟩,k _ _ _ _ _ U J Mj O⟩
   ·exact O.elim
  |fl Y Z=>exact⟨_,rfl,⟨_,Y.sq⟩,k _ _ _ _ _ U J (WD Y Z) O⟩
  |_=>exact O.elim⟩
def aa3(h:aF X e te):tM X tg e (Vq te) :=
 lQ (abq h) λ_ _ _ ⟨Y,H3,R3,Z,hr,t,k⟩=>⟨Y,H3,_,Z,hr,t,λx v ac Ha J O rx U=>by
  cases rx with
  |tup ha ra=>exact⟨_,rfl,⟨_,jC.of ha⟩,k _ _ _ _ _ J O (Qt (jC.of ha) ra) U⟩
  |_=>exact U.elim⟩
def jZ(lo:Int)(n:Nat):List D:=(bo n).map λ(i:Nat)=>D.int (lo+(i:Int))
def tZ(lo:Int)(n:Nat):(jZ lo n).length=n:=by simp[jZ]
def Ka{lo:Int}{n i:Nat}(h:i<n):(jZ lo n)[i]?=some (.int (lo+i)):=by simp[jZ,h]
def BX{H:Hp}{lo:Int}{n:Nat}:zJ K H (jZ lo n) (λ_=>True) (Itr lo n):=λH3 H' O hr _=>by
 refine⟨λi hi=>?_,?_⟩
 ·rw[tZ] at hi
  refine⟨hi,λx J y=>?_⟩
  obtain⟨e,y⟩:=y
  subst y
  subst e
  exact⟨TK.refl,hr,_,Ka hi,.int _⟩
 ·rw[tZ];exact a8 _
def rg1(x:D)(H:aA)(R:List D->(aA->Prop)->aA->Prop):Prop:=match x with
 |.int j=>R (jZ 0 j.toNat) (λ_=>True) H
 |_=>False
def rg2(x y:D)(H:aA)(R:List D->(aA->Prop)->aA->Prop):Prop:=match x,y with
 |.int i,.int j=>R (jZ i (j-i).toNat) (λ_=>True) H
 |_,_=>False
def Uz(ta:bK):wI:=λσ H R=>ta σ H λx H1=>rg1 x H1 R
def Zo(ta tb:bK):wI:=λσ H R=>ta σ H λx H1=>tb σ H1 λy H2=>rg2 x y H2 R
def Xy{a:eT}{ta:bK}{p pos:Pos}(hm:X.mg "range" = none)(ha:aF X a ta)(hg:Gl X "range":=by rfl)(hs:bS [a] X.env=[(false,gN a X.env)]:=by rfl)(hs':bS [a] X.env=(false,gN a X.env)::bS [] X.env:=by rfl):tM X tg (.Call (.Name "range" p) [a] [] pos) (Uz ta) :=
 lQ (O4 hg hm (fL ha rM hs') hs) λ_ _ _ ⟨Y,H3,R3,Z,hr,t,k⟩=>by
  refine⟨Y,H3,λds H1=>(match ds with | [x]=>rg1 x H1 R3 | _=>False),Z,hr,t,λds vs ac Ha O U rs J=>?_⟩
  cases rs with
  |nil=>exact J.elim
  |cons r1 r2=>
   cases r2 with
   |cons _ _=>exact J.elim
   |nil=>
    cases r1 with
    |int j=>exact⟨j,rfl,k _ _ _ _ _ O U BX J⟩
    |_=>exact J.elim
def WT{a b:eT}{ta tb:bK}{p pos:Pos}(hm:X.mg "range" = none)(ha:aF X a ta)(hb:aF X b tb)(hg:Gl X "range":=by rfl)(hs:bS [a,b] X.env=[(false,gN a X.env),(false,gN b X.env)]:=by rfl)
  (hs1:bS [a,b] X.env=(false,gN a X.env)::bS [b] X.env:=by rfl) (hs2:bS [b] X.env=(false,gN b X.env)::bS [] X.env:=by rfl) (hs3:bS [b] X.env=[(false,gN b X.env)]:=by rfl):tM X tg (.Call (.Name "range" p) [a,b] [] pos) (Zo ta tb) :=
 lQ (Mr hg hm (fL ha (fL hb rM hs2) hs1) hs hs3) λ_ _ _ ⟨Y,H3,R3,Z,hr,t,k⟩=>by
  refine⟨Y,H3,λds H1=>(match ds with | [x,y]=>rg2 x y H1 R3 | _=>False),Z,hr,t,λds vs ac Ha O U rs J=>?_⟩
  cases rs with
  |nil=>exact J.elim
  |cons r1 r2=>
   cases r2 with
   |nil=>exact J.elim
   |cons r2 r3=>
    cases r3 with
    |cons _ _=>exact J.elim
    |nil=>
     cases r1 with
     |int i=>
      cases r2 with
      |int j=>exact⟨i,j,rfl,k _ _ _ _ _ O U BX J⟩
      |_=>exact J.elim
     |_=>exact J.elim
def xf(wi:wI)(g:um)(tb:bC):bC:=λD σ H=>wi σ H λds keep H1=>∃P:Nat->cD->aA->Prop,P 0 σ H1/\(∀i σ H,i<=ds.length->P i σ H->keep H) /\
 (∀i d σ H,ds[i]?=some d->P i σ H->g d σ H λσ2 H2=>tb { D with nx:=P (i+1),ct:=P (i+1),bk:=D.nx } σ2 H2)/\∀σ H,P ds.length σ H->D.nx σ H
def Za{iter:eT}{body:List rj}{wi:wI}{g:um}{tb:bC}(hp:IP (cy X.prog X.w) X.A X.env X.xe)(hc:X.calm=true)(hi:tM X tg iter wi)(hg:PG3 X tg g)(hb:pN X body tb)
  (hs:∀x,kX iter X.env x=pure x:=by intro _;rfl):qg X (.For tg iter body [] pos) (xf wi g tb) :=
 gZ (aah hp hc hi hg hb hs) λD σ H zz=>zz.ex λbm H3 D3 sr hr t k=>⟨bm,H3,_,sr,hr,t,λds keep J H3' H' al a7 ok q=>by
  obtain⟨P,p0,pk,am,pd⟩:=q
  refine⟨λi m bn H1=>m=ds.length-i/\i<=ds.length/\∃U O,TK H' H1/\SR X.K H1 U bn/\HR X.K O H1/\P i U O,⟨ds.length,by simp,eD _,bm,H3',TK.refl,sr.mono al,a7,p0⟩,?_⟩
  rintro i m bn H1 ⟨rfl,hi,U,O,Z,a5,a6,p1⟩
  obtain⟨go,stop⟩:=ok O H1 Z a6 (pk i U O hi p1)
  by_cases hlt:i<ds.length
  ·obtain⟨g1,g2⟩:=go i hlt
   refine .inr ⟨g1,λbp Y=>i+1<=ds.length/\∃σ3' H3'',TK H' Y/\SR X.K Y σ3' bp/\HR X.K H3'' Y/\P (i+1) σ3' H3'',λbp Y z=>⟨ds.length-(i+1),by omega,rfl,z.1,z.2⟩,λx Y y=>?_⟩
   obtain⟨ac,bd,d,ed,rd⟩:=g2 x Y y
   refine⟨d,U,O,_,rd,a5.mono ac,bd,am i d U O ed p1,λbe bu bg Hb ap bi bl qb=>⟨be,bg,_,bi,bl,qb,?_⟩⟩
   have kk:=k.mono (al.trans ((Z.trans ac).trans ap))
   exact⟨λa0 bq a1 Hc a2 a3 a4 qc=>⟨hlt,a0,a1,((Z.trans ac).trans ap).trans a2,a3,a4,qc⟩,kk.rt,kk.nx,λa0 bq a1 Hc a2 a3 a4 qc=>⟨hlt,a0,a1,((Z.trans ac).trans ap).trans a2,a3,a4,qc⟩⟩
  ·have e:i=ds.length:=by omega
   subst e
   exact .inl ⟨stop,k.nx _ _ _ _ (al.trans Z) a5 a6 (pd U O p1)⟩⟩
end
variable{kL:List (aT×Obj)}{σ:St}{H:Hp}{s:aw}{pos:Pos}{ds:List D}{i:Nat}
abbrev du:=List D->aA->bL->Prop
def j9(K:ag)(sp:du):Sp:=λvs H Q _=>jm K sp vs H Q
structure Fn(P:cw)(w:da)(K:ag)(mg:Str->Option af)(base:fA)(k:Nat)(x:Str)(ps:List Str)(sp:du):Prop where
 ex:∃f fd,jE P w K mg base Gh k f fd ps (j9 K sp)/\mg x=some (.ref f)/\nX K (.ref f)=true/\Binds K fd ps []
variable{X:Cx}{k:Nat}{sp:du}
def aD{x:Str}{ps:List Str}{p:Pos}{e:eT}{es:List eT}{t:qG}(F:Fn X.prog X.w X.K X.mg X.base k x ps sp)(hr:dI k X.A)(ha:FJ X (e::es) t)
  (hg:Gl X x:=by rfl) (hdb:(x==("__debug__" : Str))=false:=by decide) (he:bS (e::es) X.env=(false,gN e X.env)::bS es X.env:=by rfl) (hpl:(mN pos (bS es X.env)).any (·.1)=false:=by rfl) :
  aF X (.Call (.Name x p) (e::es) [] pos) (aM sp t):=by
 obtain⟨f,fd,F,Y,Z,hb⟩:=F.ex
 refine aY (Vj (E:=E0) F hr hg Y Z hb .nil JG ha hdb he hpl) λ_ _ _ h=>?_
 obtain⟨ac,H3,Q3,sr,hr,t,k⟩:=h
 exact⟨ac,H3,_,sr,hr,t,λds vs J Ha O U rs qa=>⟨ds,J,Q3,U,by rw[i4];exact rs,qa,k.mono O⟩⟩
def lC(N:List Str)(ds:List D):cD:=ds.map some++D8 (N.length-ds.length) none
def RJ{N:List Str}{vs:List V}(r:aK K H ds vs):SR K H (lC N ds) (L2.start N vs):=by
 have J:=r.length
 refine⟨by simp[lC,L2.start,J],λi d h=>?_⟩
 unfold lC at h
 by_cases hi:i<ds.length
 ·rw[gI (by simpa using hi),ay] at h
  cases e:ds[i]? with
  |none=>rw[e] at h;cases h
  |some d'=>
   rw[e] at h
   cases h
   obtain⟨v,O,U⟩:=r.get e
   refine⟨v,?_,U⟩
   unfold L2.start
   rw[gI (by rw[ae,←J];exact hi),ay,O]
   rfl
 ·rw[fI (by simpa using hi),B6] at h
  split at h <;> cases h
def Ec(Q:bL):cX:={ nx:=λ_ H'=>∃H'',aq H'' H'/\Q .non H'',rt:=λd H'=>∃H'',aq H'' H'/\Q d H'' }
variable{mg:Str->Option af}
def KH{base:fA}{x qual:Str}{st:rj}{f:aT}{fd:nr}{N ps:List Str}(F:V3 K x qual st f fd)(S:gJ N ps (aL st))
  (len:∀ds H Q,sp ds H Q->ds.length=ps.length)
  (hbody:∀ (cdv:af) (A:gu) (outer:List Env) (s:aw) (H:Hp) (E:XK),dI k (A.deeper (AA qual (aL st) s.heap.objs.size f cdv)) →
   ∃t,pN (Af Gh P w K mg base N qual (aL st) f cdv A outer s H E).nox (dm st) t/\∀ds H3 Q3,sp ds H3 Q3->t (Ec Q3) (lC N ds) H3):jE P w K mg base Gh (k+1) f fd ps (j9 K sp):=by
 refine F.ok S (λvs H Q E h=>?_) (λcdv A outer s H vs Q E hr h=>?_)
 ·obtain⟨ds,H3,Q3,_,O,q,_⟩:=h
  rw[←O.length]
  exact len ds H3 Q3 q
 ·obtain⟨ds,H3,Q3,U,O,q,k⟩:=h
  obtain⟨t,ht,hq⟩:=hbody cdv A outer s H E hr
  refine⟨_,ht,lC N ds,H3,_,RJ O,U,hq ds H3 Q3 q,⟨λac σ H3' H' Y sr J z=>?_,λd v H3' H' Y J rd z=>?_,λ_ _ _ _ _ _ _ z=>z.elim,λ_ _ _ _ _ _ _ z=>z.elim⟩⟩
  ·obtain⟨Z,sub,q'⟩:=z
   exact k _ _ _ _ Y (J.sub sub) .non q'
  ·obtain⟨Z,sub,q'⟩:=z
   exact k _ _ _ _ Y (J.sub sub) rd q'
def fn3{base:fA}{x qual:Str}{st:rj}{f:aT}{fd:nr}{N ps:List Str}(F:V3 K x qual st f fd)(S:gJ N ps (aL st))
  (hm:mg x=some (.ref f)) (hb:Binds K fd ps []) (len:∀ds H Q,sp ds H Q->ds.length=ps.length)
  (hbody:∀ (cdv:af) (A:gu) (outer:List Env) (s:aw) (H:Hp) (E:XK),dI k (A.deeper (AA qual (aL st) s.heap.objs.size f cdv)) →
   ∃t,pN (Af Gh P w K mg base N qual (aL st) f cdv A outer s H E).nox (dm st) t/\∀ds H3 Q3,sp ds H3 Q3->t (Ec Q3) (lC N ds) H3):Fn P w K mg base (k+1) x ps sp :=
 ⟨f,fd,KH F S len hbody,hm,F.kp,hb⟩
def Mp{a:aT}{ns:List Int}{E:XK}(hO:Only H)(hS:cV K H a (ns.map V.int))(h:sp [.fl (ns.map D.int)] (λ_=>none) (λd _=>d=.bl true)):j9 K sp [.ref a] H (λv _=>v=.bl true) E:=by
 refine⟨[.fl (ns.map D.int)],λ_=>none,λd _=>d=.bl true,λb o e=>(by cases e),.cons (.fl ?_ (aK.ints ns)) .nil,h,λd v H3' H' O hr J q=>?_⟩
 ·rcases hS with (z | z) | z
  ·rcases hO a with q | ⟨o,xs,q⟩
   ·rw[z] at q;cases q
   ·rw[z] at q;cases q
  ·exact .inl z
  ·exact .inr z
 ·subst q
  cases J
  rfl
def gk{α β:Type}(f:α->Option β):List α->Option (List β)
 |[]=>some []
 |d::ds=>match f d with
  |none=>none
  |some p=>match gk f ds with
   |none=>none
   |some ps=>some (p::ps)
def mO:Nat->D->Option xy
 |0,d=>match d with
  |.non=>some .none
  |.bl b=>some (.bool b)
  |.int i=>some (.int i)
  |.str x=>if wo x=true then some (.str x) else none
  |_=>none
 |n+1,d=>match d with
  |.non=>some .none
  |.bl b=>some (.bool b)
  |.int i=>some (.int i)
  |.str x=>if wo x=true then some (.str x) else none
  |.tup ds=>(gk (mO n) ds).map .tuple
  |.ktup ds=>(gk (mO n) ds).map .tuple
  |_=>none
def Hf(H:aA)(d:D):Option xy:=match d with
 | .ref a => (match H a with
  |some (.lst ds)=>(gk (mO 4) ds).map .list
  |_=>none)
 |.fl ds=>(gk (mO 4) ds).map .list
 |d=>mO 5 d
section
variable{X:Cx}{kL:List (aT×Obj)}{σ:St}{H:Hp}{s:aw}
def xN{f:D->Option xy}{d:D}{ps:List xy}(h:gk f (d::ds)=some ps):∃p ps',f d=some p/\gk f ds=some ps'/\ps=p::ps':=by
 unfold gk at h
 cases e1:f d with
 |none=>rw[e1] at h;cases h
 |some p=>
  rw[e1] at h
  cases e2:gk f ds with
  |none=>rw[e2] at h;cases h
  |some ps'=>rw[e2] at h;cases h;exact⟨p,ps',rfl,rfl,rfl⟩
def n8{f:D->Option xy}{n:Nat}(hf:∀ {d:D} {v:V} {u:af} {p:xy},Rep X.K H d v->RelV v u->f d=some p->(∃as,Mn s.heap u p as)/\p.canLay0=true/\p.depth<=n) :
  ∀ {ds:List D} {vs:List V} {us:List af} {ps:List xy},aK X.K H ds vs->Vals vs us->gk f ds=some ps->(∃as,ReadsAll s.heap us ps as)/\HI ps=true/\PyData.depthAll ps<=n:=by
 intro ds vs us ps hr J h
 induction J generalizing ds ps with
 |nil=>
  cases hr
  cases h
  exact⟨⟨[],.nil⟩,rfl,eD _⟩
 |cons q qs ih=>
  cases hr with
  |cons r rs=>
   obtain⟨p,O,U,Y,rfl⟩:=xN h
   obtain⟨⟨as,h1⟩,h2,Z⟩:=hf r q U
   obtain⟨⟨bs,g1⟩,g2,g3⟩:=ih rs Y
   exact⟨⟨_,.cons h1 g1⟩,by rw[HI,h2,g2];rfl,Nat.max_le.mpr ⟨Z,g3⟩⟩
def cM(I:Inv X kL σ H s):∀(n:Nat) {d:D} {v:V} {u:af} {p:xy},Rep X.K H d v->RelV v u->mO n d=some p->(∃as,Mn s.heap u p as)/\p.canLay0=true/\p.depth<=n:=by
 intro n
 induction n with
 |zero=>
  intro d v u p r q h
  cases r with
  |non=>cases h;cases q;exact⟨⟨_,.none⟩,rfl,eD _⟩
  |bl b=>cases h;cases q;exact⟨⟨_,.bool b⟩,rfl,eD _⟩
  |int i=>cases h;obtain⟨t,rfl⟩:=q;exact⟨⟨_,.int i t⟩,rfl,eD _⟩
  |str x=>
   replace h:(if wo _=true then some (Mo _) else none)=some p:=h
   split at h
   ·rename_i J
    cases h;obtain⟨t,rfl⟩:=q;exact⟨⟨_,.str x t⟩,J,eD _⟩
   ·cases h
  |_=>cases h
 |succ n ih=>
  intro d v u p r q h
  cases r with
  |non=>cases h;cases q;exact⟨⟨_,.none⟩,rfl,eD _⟩
  |bl b=>cases h;cases q;exact⟨⟨_,.bool b⟩,rfl,eD _⟩
  |int i=>cases h;obtain⟨t,rfl⟩:=q;exact⟨⟨_,.int i t⟩,rfl,eD _⟩
  |str x=>
   replace h:(if wo _=true then some (Mo _) else none)=some p:=h
   split at h
   ·rename_i J
    cases h;obtain⟨t,rfl⟩:=q;exact⟨⟨_,.str x t⟩,J,eD _⟩
   ·cases h
  |tup ha ra=>
   replace h:(gk (mO n) _).map kr=some p:=h
   rw[cv] at h
   obtain⟨ps,h1,rfl⟩:=h
   cases q
   obtain⟨its,O,⟨o,U,Y,m,hd⟩,_⟩:=I.tuple (jC.of ha)
   obtain⟨⟨as,Z⟩,g2,g3⟩:=n8 (f:=mO n) (n:=n) ih ra O h1
   exact⟨⟨_,.tuple U Y hd (by simpa using Z)⟩,g2,by simp only[HK];omega⟩
  |ktup ha ra=>
   replace h:(gk (mO n) _).map kr=some p:=h
   rw[cv] at h
   obtain⟨ps,h1,rfl⟩:=h
   cases q
   obtain⟨its,O,⟨o,U,Y,m,hd⟩,_⟩:=I.tuple ha.sq
   obtain⟨⟨as,Z⟩,g2,g3⟩:=n8 (f:=mO n) (n:=n) ih ra O h1
   exact⟨⟨_,.tuple U Y hd (by simpa using Z)⟩,g2,by simp only[HK];omega⟩
  |_=>cases h
def mC(I:Inv X kL σ H s){H3:aA}(hr:HR X.K H3 H){d:D}{v:V}{u:af}{p:xy}(r:Rep X.K H d v)(q:RelV v u)(h:Hf H3 d=some p):(∃as,Mn s.heap u p as)/\p.canLay0=true/\p.depth<=5:=by
 have lst:∀ {a:aT} {xs:List V} {ds:List D},cV X.K H a xs->aK X.K H ds xs->(gk (mO 4) ds).map PyData.list=some p->(∃as,Mn s.heap (.ref a) p as)/\p.canLay0=true/\p.depth<=5:=λU J h=>by
  simp only[cv] at h
  obtain⟨ps,h1,rfl⟩:=h
  obtain⟨its,Y,pl,_⟩:=I.list U
  obtain⟨o,Z,hc,m,hd⟩:=pl.isList
  obtain⟨⟨as,g1⟩,g2,g3⟩:=n8 (f:=mO 4) (n:=4) (cM I 4) J Y h1
  exact⟨⟨_,.list Z hc hd (by simpa using g1)⟩,g2,by simp only[HK];omega⟩
 cases r with
 |ref a=>
  (delta Hf at h;dsimp only at h)
  split at h
  ·rename_i ds O
   obtain⟨vs,ga,J⟩:=hr a _ O
   cases q
   exact lst (cV.of ga) J h
  ·cases h
 |fl O J=>cases q;exact lst O.sq J h
 |non=>exact cM I 5 .non q h
 |bl b=>exact cM I 5 (.bl b) q h
 |int b=>exact cM I 5 (.int b) q h
 |str b=>exact cM I 5 (.str b) q h
 |ty b=>exact cM I 5 (.ty b) q h
 |tup a b=>exact cM I 5 (.tup a b) q h
 |ktup a b=>exact cM I 5 (.ktup a b) q h
end
def jf:R3:=λx y H Q=>match Hf H x,Hf H y with
 |some p,some q=>Q (.bl (fg p q)) H
 |_,_=>False
def eG:R3:=λx y H Q=>match Hf H x,Hf H y with
 |some p,some q=>Q (.bl (!PyData.eqv p q)) H
 |_,_=>False
section
variable{X:Cx}
def Q7(hu:X.A.units+64<lP):ir X (iA .Eq) (bN X.K jf):=by
 intro kL s σ H x y v u Q I U Y h
 obtain⟨dx,dy,H3,Q3,hr,J,O,t,k⟩:=h
 simp only[jf] at t
 split at t
 ·rename_i p q Z e2
  obtain⟨⟨as,h1⟩,h2,h3⟩:=mC I hr J U Z
  obtain⟨⟨bs,g1⟩,g2,g3⟩:=mC I hr O Y e2
  exact SeqAt.compareEq_reads h1 g1 h2 g2 (by have:=C9 p.depth q.depth;omega) ⟨.bl _,H,I,rfl,k _ _ _ _ TK.refl hr (.bl _) t⟩
 ·exact t.elim
def abH(hu:X.A.units+64<lP):ir X (iA .NotEq) (bN X.K eG):=by
 intro kL s σ H x y v u Q I U Y h
 obtain⟨dx,dy,H3,Q3,hr,J,O,t,k⟩:=h
 simp only[eG] at t
 split at t
 ·rename_i p q Z e2
  obtain⟨⟨as,h1⟩,h2,h3⟩:=mC I hr J U Z
  obtain⟨⟨bs,g1⟩,g2,g3⟩:=mC I hr O Y e2
  exact SeqAt.compareNe_reads h1 g1 h2 g2 (by have:=C9 p.depth q.depth;omega) ⟨.bl _,H,I,rfl,k _ _ _ _ TK.refl hr (.bl _) t⟩
 ·exact t.elim
def tK(H:aA)(d:D):Option (List D):=match d with
 | .ref a => (match H a with
  |some (.lst ds)=>some ds
  |_=>none)
 |.fl ds=>some ds
 |.tup ds=>some ds
 |_=>none
def wQ(neg:Bool):R3:=λx y H Q=>match mO 4 x,(tK H y).bind (gk (mO 4)) with
 |some p,some ps=>Q (.bl (if neg then !ps.any (λq=>fg q p) else ps.any λq=>fg q p)) H
 |_,_=>False
open Classical in
def wJ(h:fA)(p:xy)(u:af):Bool:=decide (∃q as,Mn h u q as/\q.canLay0=true/\fg q p=true)
open Classical in
def Rp{h:fA}{p q:xy}{u:af}{as:List aT}(r:Mn h u q as)(c:q.canLay0=true):wJ h p u=fg q p:=by
 unfold wJ
 cases e:fg q p with
 |true=>exact decide_eq_true ⟨q,as,r,c,e⟩
 |false=>
  refine decide_eq_false λz=>?_
  obtain⟨U,J,Y,Z,O⟩:=z
  have z:=PC q U u as J c r Y
  subst z
  rw[e] at O
  cases O
def jF(I:Inv X kL σ H s)(p:xy) :
  ∀ {ds:List D} {vs:List V} {us:List af} {ps:List xy},aK X.K H ds vs->Vals vs us->gk (mO 4) ds=some ps ->
   us.any (wJ s.heap p)=ps.any (λq=>fg q p)/\∀u∈us,∃q as,Mn s.heap u q as/\q.canLay0=true/\q.depth<=4:=by
 intro ds vs us ps hr O h
 induction O generalizing ds ps with
 |nil=>
  cases hr
  cases h
  exact⟨rfl,λ_ z=>nomatch z⟩
 |cons q qs ih=>
  cases hr with
  |cons r rs=>
   obtain⟨p',U,Y,Z,rfl⟩:=xN h
   obtain⟨⟨as,h1⟩,h2,h3⟩:=cM I 4 r q Y
   obtain⟨g1,g2⟩:=ih rs Z
   refine⟨by rw[nI,nI,Rp h1 h2,g1],λu J=>?_⟩
   rcases br.mp J with e | J
   ·rw[e];exact⟨_,_,h1,h2,h3⟩
   ·exact g2 u J
def yO{A:gu}(I:Inv X kL σ H s)(hu:A.units+8<lP){x:D}{vx:V}{ux:af}{p:xy}(rx:Rep X.K H x vx)(qx:RelV vx ux)(ex:mO 4 x=some p)
  {us:List af} (h:∀u∈us,∃q as,Mn s.heap u q as/\q.canLay0=true/\q.depth<=4):∀u,u∈us.toArray->Pm A s u ux (wJ s.heap p u):=λu J=>by
 obtain⟨q,as,h1,h2,Y⟩:=h u (by simpa using J)
 obtain⟨⟨bs,O⟩,U,Z⟩:=cM I 4 rx qx ex
 rw[Rp h1 h2]
 exact SeqAt.eqAt_reads _ _ A s _ _ _ _ h1 O h2 U (by have:=C9 q.depth p.depth;omega)
def in1_units{A:gu}(h:A.units+64<lP):A.in1.units+8<lP:=by
 have e:A.in1.units=A.units+1:=rfl
 omega
def Zc(hu:X.A.units+64<lP):ir X (iA .In) (bN X.K (wQ false)):=by
 intro kL s σ H x y v u Q I rx ry h
 obtain⟨dx,dy,H3,Q3,hr,O,ac,t,k⟩:=h
 simp only[wQ] at t
 split at t
 ·rename_i p ps e1 J
  simp only[B7] at J
  obtain⟨ds,J,e3⟩:=J
  have U:=k _ _ _ _ TK.refl hr (.bl _) t
  cases ac with
  |ref a=>
   (delta tK at J;dsimp only at J)
   split at J
   ·rename_i al Y
    cases J
    obtain⟨vs,ga,Z⟩:=hr a _ Y
    cases ry
    obtain⟨its,rv,pl,_⟩:=I.list (cV.of ga)
    obtain⟨g1,g2⟩:=jF I p Z rv e3
    refine Lm (wJ s.heap p) pl.isList (yO I (in1_units hu) O rx e1 g2) ⟨.bl _,H,I,rfl,?_⟩
    rw[show its.toArray.any (wJ s.heap p)=its.any (wJ s.heap p) by simp,g1]
    exact U
   ·cases J
  |fl Y Z=>
   cases J
   cases ry
   obtain⟨its,rv,pl,_⟩:=I.list Y.sq
   obtain⟨g1,g2⟩:=jF I p Z rv e3
   refine Lm (wJ s.heap p) pl.isList (yO I (in1_units hu) O rx e1 g2) ⟨.bl _,H,I,rfl,?_⟩
   rw[show its.toArray.any (wJ s.heap p)=its.any (wJ s.heap p) by simp,g1]
   exact U
  |tup Y Z=>
   cases J
   cases ry
   obtain⟨its,rv,pl,_⟩:=I.tuple (jC.of Y)
   obtain⟨g1,g2⟩:=jF I p Z rv e3
   refine SeqAt.in_tupleAt (wJ s.heap p) pl (yO I (in1_units hu) O rx e1 g2) ⟨.bl _,H,I,rfl,?_⟩
   rw[show its.toArray.any (wJ s.heap p)=its.any (wJ s.heap p) by simp,g1]
   exact U
  |_=>cases J
 ·exact t.elim
def Ma(hu:X.A.units+64<lP):ir X (iA .NotIn) (bN X.K (wQ true)):=by
 intro kL s σ H x y v u Q I rx ry h
 obtain⟨dx,dy,H3,Q3,hr,O,ac,t,k⟩:=h
 simp only[wQ] at t
 split at t
 ·rename_i p ps e1 J
  simp only[B7] at J
  obtain⟨ds,J,e3⟩:=J
  have U:=k _ _ _ _ TK.refl hr (.bl _) t
  cases ac with
  |ref a=>
   (delta tK at J;dsimp only at J)
   split at J
   ·rename_i al Y
    cases J
    obtain⟨vs,ga,Z⟩:=hr a _ Y
    cases ry
    obtain⟨its,rv,pl,_⟩:=I.list (cV.of ga)
    obtain⟨g1,g2⟩:=jF I p Z rv e3
    refine F5 (wJ s.heap p) pl.isList (yO I (in1_units hu) O rx e1 g2) ⟨.bl _,H,I,rfl,?_⟩
    rw[show its.toArray.any (wJ s.heap p)=its.any (wJ s.heap p) by simp,g1]
    exact U
   ·cases J
  |fl Y Z=>
   cases J
   cases ry
   obtain⟨its,rv,pl,_⟩:=I.list Y.sq
   obtain⟨g1,g2⟩:=jF I p Z rv e3
   refine F5 (wJ s.heap p) pl.isList (yO I (in1_units hu) O rx e1 g2) ⟨.bl _,H,I,rfl,?_⟩
   rw[show its.toArray.any (wJ s.heap p)=its.any (wJ s.heap p) by simp,g1]
   exact U
  |tup Y Z=>
   cases J
   cases ry
   obtain⟨its,rv,pl,_⟩:=I.tuple (jC.of Y)
   obtain⟨g1,g2⟩:=jF I p Z rv e3
   refine SeqAt.notIn_tupleAt (wJ s.heap p) pl (yO I (in1_units hu) O rx e1 g2) ⟨.bl _,H,I,rfl,?_⟩
   rw[show its.toArray.any (wJ s.heap p)=its.any (wJ s.heap p) by simp,g1]
   exact U
  |_=>cases J
 ·exact t.elim
def tyH(H:aA)(d:D):Option String:=match d with
 |.non=>some "NoneType"
 |.bl _=>some "bool"
 |.int _=>some "int"
 |.str _=>some "str"
 |.tup _=>some "tuple"
 |.fl _=>some "list"
 | .ref a => (match H a with
  |some (.lst _)=>some "list"
  |some (.dic _)=>some "dict"
  |_=>none)
 |.ty _=>none
 |.ktup _=>some "tuple"
def isT(U T:String):Bool:=U==T||(U == "bool" && T == "int")
def kinds:List String:=["int", "bool", "str", "tuple", "list", "dict"]
def iT:List D->aA->bL->Prop:=λds H Q=>match ds with
 | [x,.ty T] => (match tyH H x with
  |some U=>T∈kinds/\Q (.bl (isT U T)) H
  |none=>False)
 |_=>False
def aaY(K:ag)(U T:String)(hU:U ∈ "NoneType"::kinds)(hT:T∈kinds):D7 K (.type U) (.type T)=some (isT U T):=by
 simp only[kinds,br,dc,or_false] at hU hT
 rcases hU with rfl | rfl | rfl | rfl | rfl | rfl | rfl <;> rcases hT with rfl | rfl | rfl | rfl | rfl | rfl <;> kernel_rfl
def MP{H:aA}{Q:bL}(t:iT ds H Q):∃x T U,ds=[x,.ty T]/\tyH H x=some U/\T∈kinds/\Q (.bl (isT U T)) H:=by
 unfold iT at t
 split at t
 ·split at t
  ·exact⟨_,_,_,rfl,by assumption,t⟩
  ·exact t.elim
 ·exact t.elim
def Xa:d8 X (.builtin "isinstance") (jm X.K iT):=by
 intro kL s σ H xs us Q I rs h
 obtain⟨ds,H3,Q3,hr,rd,t,k⟩:=h
 obtain⟨x,T,U,rfl,O,hT,t⟩:=MP t
 cases rd with | cons r1 r2=>cases r2 with | cons r2 r3=>cases r3 with | nil=>cases r2 with | ty _=>
 obtain⟨u,w,rfl,Y,ac⟩:=vals2 rs
 obtain rfl:w=Value.type T:=ac
 have J:∀tk,EP X kL σ Q (.bool (isT U T)) { s with toks:=tk }:=λtk=>⟨.bl _,H,I.tok tk,rfl,k _ _ _ _ TK.refl hr (.bl _) t⟩
 have e:∀(hU:U ∈ "NoneType"::kinds),D7 X.K (.type U) (.type T)=some (isT U T):=λhU=>aaY X.K U T hU hT
 cases r1 with
 |non=>cases O;exact gQ I Y (.non) (e (.head _)) J
 |bl b=>cases O;exact gQ I Y (.bl b) (e (.tail _ (.tail _ (.head _)))) J
 |int b=>cases O;exact gQ I Y (.int b) (e (.tail _ (.head _))) J
 |str b=>cases O;exact gQ I Y (.str b) (e (.tail _ (.tail _ (.tail _ (.head _))))) J
 |ty b=>cases O
 |tup Z ra=>
  cases O
  cases Y
  obtain⟨its,_,⟨o,h1,h2,_⟩,_⟩:=I.tuple (jC.of Z)
  exact gL Ap I.qz ⟨o,h1,h2⟩ (e (.tail _ (.tail _ (.tail _ (.tail _ (.head _)))))) (λz=>nomatch z) J
 |ktup Z ra=>
  cases O
  cases Y
  obtain⟨its,_,⟨o,h1,h2,_⟩,_⟩:=I.tuple Z.sq
  exact gL Ap I.qz ⟨o,h1,h2⟩ (e (.tail _ (.tail _ (.tail _ (.tail _ (.head _)))))) (λz=>nomatch z) J
 |fl Z ra=>
  cases O
  cases Y
  obtain⟨its,_,pl,_⟩:=I.list Z.sq
  obtain⟨o,h1,h2,_⟩:=pl.isList
  exact gL A3 I.qz ⟨o,h1,h2⟩ (e (.tail _ (.tail _ (.tail _ (.tail _ (.tail _ (.head _))))))) (λz=>nomatch z) J
 |ref a=>
  (delta tyH at O;dsimp only at O)
  split at O
  ·rename_i ds Z
   cases O
   obtain⟨vs,ga,ra⟩:=hr a _ Z
   exact gQ I Y (.lst ga) (e (.tail _ (.tail _ (.tail _ (.tail _ (.tail _ (.head _))))))) J
  ·rename_i ds Z
   cases O
   obtain⟨vs,ga,ra⟩:=hr a _ Z
   exact gQ I Y (.dT ga) (e (.tail _ (.tail _ (.tail _ (.tail _ (.tail _ (.tail _ (.head _)))))))) J
  all_goals cases O
def m3(r:D->List D->aA->bL->Prop)(to:bK)(t:qG):bK:=λσ H Q=>to σ H λx H1=>(match x with
 | .ref a => (match H1 a with
  |some (.lst _)=>t σ H1 λxs H2=>r x xs H2 Q
  |_=>False)
 |_=>False)
def Rk{o e:eT}{es:List eT}{to:bK}{t:qG}{name:Str}{apos cpos:Pos}{id:String}{r:D->List D->aA->bL->Prop}(slot:Pw "list" name id)(hty:typeOf (.builtin id)=pure (.type "method_descriptor"))(hm:Vz X id (liftM X.K r))(ho:aF X o to)(ha:FJ X (e::es) t)
  (hbase:vc o name X.env (gN o X.env)=gN o X.env:=by rfl)
  (hfew:((mN cpos (bS (e::es) X.env)).all (λx => !x.1) && (HA cpos (A5 [] X.env)).all (λx => x.1.isSome)
   && decide ((e::es).length+([]:List HC).length+(if ([]:List HC).isEmpty then 0 else 1)<30))=true:=by rfl)
  (hline:(apos.endLine==cpos.line)=true:=by rfl) (hs:bS (e::es) X.env=(false,gN e X.env)::bS es X.env:=by rfl) (hplain:(mN cpos (bS es X.env)).any (·.1)=false:=by rfl) :
  aF X (.Call (.Attribute o name apos) (e::es) [] cpos) (m3 r to t) :=
 aY (YH F.plainAttrs_list slot hty hm ho ha hbase hfew hline hs hplain) λ_ _ _ zz=>zz.ex λam H3 Q3 sr hr t k=>⟨am,H3,_,sr,hr,t,λx v Y Ha J O rx U=>by
  cases rx with
  |ref a=>
   simp only[] at U
   split at U
   ·rename_i ds ha
    obtain⟨vs,ga,ra⟩:=O a _ ha
    exact⟨.inl ⟨rfl,vs,cV.of ga⟩,am,Y,_,sr.mono J,O,U,λds us Z Hb ac al rs qb=>⟨.ref a,ds,Z,Q3,al,.ref a,rs,qb,k.mono (J.trans ac)⟩⟩
   ·exact U.elim
  |_=>exact U.elim⟩
def nO:D->List D->aA->bL->Prop:=λx xs H Q=>match x,xs with
 | .ref a,[y] => (match H a with
  |some (.lst ds)=>ds.length<cf/\Q .non (au H a (.lst (ds++[y])))
  |_=>False)
 |_,_=>False
def V1:Vz X "list.append" (liftM X.K nO):=by
 intro kL s σ H x xs v us Q I Y Z h
 obtain⟨d,ds,H3,Q3,hr,rd,O,t,k⟩:=h
 cases rd with
 |ref a=>
  cases O with
  |nil=>exact t.elim
  |cons r1 r2=>
   cases r2 with
   |cons _ _=>exact t.elim
   |nil=>
    (delta nO at t;dsimp only at t)
    split at t
    ·rename_i ds ha
     obtain⟨vs,J,U⟩:=hr a _ ha
     exact yF kL s σ H _ _ v us Q I Y Z ⟨a,vs,_,rfl,rfl,J,by rw[←U.length];exact t.1,k _ _ _ _ (TK.lst J) (hr.uL (TK.lst J) ((U.snoc r1).mono (TK.lst J))) .non t.2⟩
    ·exact t.elim
 |_=>exact t.elim
def qt:D->List D->aA->bL->Prop:=λx xs H Q=>match x,xs with
 | .ref a,[.ref b] => (match H a,H b with
  |some (.lst ds),some (.lst es)=>ds.length+es.length<=cf/\Q .non (au H a (.lst (ds++es)))
  |_,_=>False)
 |_,_=>False
def Xf:Vz X "list.extend" (liftM X.K qt):=by
 intro kL s σ H x xs v us Q I Z rs h
 obtain⟨d,ds,H3,Q3,hr,rd,O,t,k⟩:=h
 cases rd with
 |ref a=>
  cases O with
  |nil=>exact t.elim
  |cons r1 r2=>
   cases r2 with
   |cons _ _=>cases r1 <;> exact t.elim
   |nil=>
    cases r1 with
    |ref b=>
     (delta qt at t;dsimp only at t)
     split at t
     ·rename_i ds es ha hb
      obtain⟨vs,J,U⟩:=hr a _ ha
      obtain⟨ws,gb,Y⟩:=hr b _ hb
      exact Lf kL s σ H _ _ v us Q I Z rs ⟨a,b,vs,ws,rfl,rfl,J,gb,by rw[←U.length,←Y.length];exact t.1,k _ _ _ _ (TK.lst J) (hr.uL (TK.lst J) ((U.append Y).mono (TK.lst J))) .non t.2⟩
     ·exact t.elim
    |_=>exact t.elim
 |_=>exact t.elim
end
variable{scope:vT}
def Gi{env:Env}(h:∀y,(y,NameKind.free)∈scope.names->∃c,env.cells.lookup y=some c) :
  ∃cl,closureFor scope env=pure cl/\(∀y c,cl.lookup y=some c->env.cells.lookup y=some c)/\∀y,(y,NameKind.free)∈scope.names->∃c,cl.lookup y=some c:=by
 have go:∀(names:List (Str×Au)) (cs:List (Str×aT)),(∀y,(y,NameKind.free)∈names->∃c,env.cells.lookup y=some c)->(∀y c,cs.lookup y=some c->env.cells.lookup y=some c) ->
   ∃cl,(forIn (m:=Sem) names cs λ(x:Str×Au) r=>match x with
    |(name,kind)=>if (kind==NameKind.free)=true then do let c ←cellOf env name;pure (r8 ((name,c)::r)) else pure (r8 r))=pure cl /\
    (∀y c,cl.lookup y=some c->env.cells.lookup y=some c)/\(∀y,(y,NameKind.free)∈names->∃c,cl.lookup y=some c)/\∀y c,cs.lookup y=some c->∃J,cl.lookup y=some J:=by
  intro names
  induction names with
  |nil=>intro cs _ h2;exact⟨cs,rfl,h2,(λ_ z=>nomatch z),λy c e=>⟨c,e⟩⟩
  |cons x r ih=>
   intro cs h1 h2
   obtain⟨n,k⟩:=x
   by_cases hk:k=NameKind.free
   ·subst hk
    obtain⟨c,hc⟩:=h1 n eA
    have ec:cellOf env n=pure c:=by unfold cellOf;rw[hc]
    have ac:∀y J,((n,c)::cs).lookup y=some J->env.cells.lookup y=some J:=λy J e=>by
     rw[i8] at e
     split at e
     ·rename_i he
      cases e
      rw[eq_of_beq he];exact hc
     ·exact h2 y J e
    obtain⟨cl,U,Y,Z,e4⟩:=ih ((n,c)::cs) (λy O=>h1 y (cK _ O)) ac
    have hn:∃J,cl.lookup n=some J:=e4 n c (by rw[i8];simp)
    refine⟨cl,?_,Y,λy O=>?_,λy J e=>?_⟩
    ·rw[r9]
     simp only[beq_self_eq_true,if_true,ec]
     exact U
    ·rcases br.mp O with z | z
     ·cases z;exact hn
     ·exact Z y z
    ·by_cases O:y=n
     ·rw[O];exact hn
     ·exact e4 y J (by rw[i8,beq_eq_false_iff_ne.mpr O];exact e)
   ·have hb:(k==NameKind.free)=false:=by simpa using hk
    obtain⟨cl,U,Y,Z,e4⟩:=ih cs (λy O=>h1 y (cK _ O)) h2
    refine⟨cl,?_,Y,λy O=>?_,e4⟩
    ·rw[r9]
     simp only[hb,c9,if_false]
     exact U
    ·rcases br.mp O with z | z
     ·cases z;exact absurd rfl hk
     ·exact Z y z
 obtain⟨cl,U,Y,Z,_⟩:=go scope.names [] h (λ_ _ e=>by simp at e)
 refine⟨cl,?_,Y,Z⟩
 unfold closureFor
 refine OQ (congrArg (λt=>t >>= λcs=>pure cs) U) ?_
 rfl
variable{target:eT}{ifs:List eT}
def O5{prog:cw}{A:gu}{R:CL->aw->Prop}{elt iter:eT}{it acc:af}{env:Env}(I:Nat->aw->Prop)
  (turn:∀ n s,I n s→a9 (cy prog w) A (l9 it) (λr s₁ => match r with
   |none=>R (.ok .next) s₁
   | some v => a9 (cy prog w) A (yb target it v) (λ_ s₁' => a9 (cy prog w) A (FX target env v) (λ_ s₂ =>
     a9 (cy prog w) A (forIn ifs true λc r=>if r=true then do let ok ←LY c env (gN c env);pure (r8 ok) else pure (r8 r)) (λok s₃=>
      if ok=true then a9 (cy prog w) A (gN elt env) (λx s₄=>
       a9 (cy prog w) A (call (.builtin "list.append") [acc,x]) (λ_ s₅=>∃m,m<n/\I m s₅) (λ_ _=>False) s₄) (λ_ _=>False) s₃
      else ∃m,m<n/\I m s₃) (λ_ _=>False) s₂) (λ_ _=>False) s₁') (λ_ _=>False) s₁) (λ_ _=>False) s)
  (n:Nat) (h:I n s) :
  rq (cy prog w) A (.compLoop (.ListComp elt [⟨target,iter,ifs,0⟩] scope pos) 0 it acc env) R s:=by
 refine codeAny_loop rfl I (λn s Y=>?_) n h
 show a9 _ A ((compTurn (.ListComp elt [⟨target,iter,ifs,0⟩] scope pos) 0 it acc env).onRaise (λx=>do noteFrame x env;theTreesLotGoes x)) _ _ s
 refine wpAny_noted ?_
 rw[compTurn_list]
 refine ab (wpAny_standAt (ab (kU (turn n s Y) (λr s₁ O=>?_) λ_ _ h'=>h'.elim)))
 cases r with
 |none=>exact av O
 |some v=>
  refine ab (kU O (λ_ s₁' J=>?_) λ_ _ h'=>h'.elim)
  refine ab (kU J (λ_ s₂ Z=>ab (kU Z (λok s₃ U=>?_) λ_ _ h'=>h'.elim)) λ_ _ h'=>h'.elim)
  cases ok with
  |false=>exact av ⟨rfl,U⟩
  |true=>
   exact ab (ab (kU U (λx s₄ ac=>ab (kU ac (λ_ s₅ al=>av (av ⟨rfl,al⟩)) λ_ _ h'=>h'.elim)) λ_ _ h'=>h'.elim))
def rR(X:Cx)(N':List Str)(scope:vT)(cl:List (Str×aT))(s₁:aw)(H₁:Hp)(fp:List aT)(kL:List (aT×Obj)):Cx where
 prog:=X.prog
 w:=X.w
 K:=X.K
 mg:=X.mg
 base:=X.base
 A:=X.A
 N:=N'
 s₀:=s₁
 H₀:=H₁
 env:=compEnvC scope cl s₁.heap.objs.size X.env
 outer:=X.stack
 stack:=X.stack
 ex:=fp
 fn:=λ_=>false
 calm:=X.calm
 pn:=X.pn++kL
 xe:=λ_ _=>False
abbrev FV:=List (Nat×Str)
def aeg(scope sc:vT):vT:={ scope with names:=scope.names.map λ(n,k)=>if (k == .free&&sc.kind == .function&&sc.names.lookup n==some .cell) then (n,.cell) else (n,k) }
structure fK(sc:vT)(N:List Str)(scope:vT)(N':List Str)(own:List Str)(fv:FV):Prop where
 kind:scope.kind=.function
 nocell:∀y∈scope.names,y.2≠.cell
 loc:∀y∈scope.names,y.2=.local->scope.names.lookup y.1=some .local
 fre':∀y∈scope.names,y.2=.free->sc.names.lookup y.1=some .cell
 eqN:N'=own++fv.map (·.2)
 nd:N'.Nodup
 slot:∀p∈fv,N[p.1]?=some p.2/\sc.names.lookup p.2=some .cell/\(aeg scope sc).names.lookup p.2=some .cell
variable{own:List Str}{fv:FV}
def fK.fre{sc:vT}{N N':List Str}(c:fK sc N scope N' own fv):∀y,(y,NameKind.free)∈scope.names->sc.names.lookup y=some .cell:=λy J=>c.fre' _ J rfl
def blk(own:List Str)(fv:FV)(σ:St):St:=own.map (λ_=>none)++fv.map λp=>(σ[p.1]?).join
theorem ie{scope:vT}{env:Env}:∀ {names:List (Str×Au)} {y:Str} {k:Au},
  (names.map λ(n,k)=>if (k==NameKind.free&&env.scope.kind == .function&&env.kindOf n==some .cell) then (n,NameKind.cell) else (n,k)).lookup y=some k->k=.cell\/k=.free->(∀z∈names,z.2≠.cell)->(y,NameKind.free)∈names
 |[],_,_,h,_,_=>by simp at h
 |(n,k0)::r,y,k,h,hk,hc=>by
  rw[aE] at h
  by_cases hf:k0=NameKind.free
  ·by_cases hy:y=n
   ·subst hy;subst hf;exact eA
   ·refine cK _ (ie (env:=env) (scope:=scope) (k:=k) ?_ hk λz hz=>hc z (cK _ hz))
    dsimp only at h
    have hyb:(y==n)=false:=beq_eq_false_iff_ne.mpr hy
    split at h <;> (rw[i8,hyb] at h;exact h)
  ·have J:(k0==NameKind.free)=false:=by simpa using hf
   simp only[J,zw,c9,if_false] at h
   rw[i8] at h
   by_cases hy:y=n
   ·subst hy
    simp only[beq_self_eq_true] at h
    cases h
    rcases hk with z | z
    ·exact absurd z (hc _ eA)
    ·exact absurd z hf
   ·have hyb:(y==n)=false:=beq_eq_false_iff_ne.mpr hy
    rw[hyb] at h
    exact cK _ (ie (env:=env) (scope:=scope) (k:=k) h hk λz hz=>hc z (cK _ hz))
section
variable{X:Cx}{kL:List (aT×Obj)}{σ:St}{H₁:Hp}{s₁ s₂:aw}{scope:vT}{cl:List (Str×aT)}{N' own:List Str}{fv:FV}{fp:List aT}
def Zn(I:Inv X kL σ H₁ s₁)(c:fK X.env.scope X.N scope N' own fv)(h1:∀y c,cl.lookup y=some c->X.env.cells.lookup y=some c)(h2:∀y,(y,NameKind.free)∈scope.names->∃c,cl.lookup y=some c)
  (hf:∀b∈fp,eY X kL H₁ b/\b<s₁.heap.objs.size):(rR X N' scope cl s₁ H₁ fp kL).Ok where
 mod:=I.ok.mod
 kind:=c.kind
 glob:=I.ok.glob
 blt:=I.ok.blt
 above:=a8 _
 inj:=λx y a U Y=>I.ok.inj x y a (h1 x a U) (h1 y a Y)
 has:=λx Z=>by
  have O:(HL scope X.env).names.lookup x=some .cell\/(HL scope X.env).names.lookup x=some .free:=Z
  rcases O with z | z
  ·exact h2 x (ie (scope:=scope) (env:=X.env) z (.inl rfl) c.nocell)
  ·exact h2 x (ie (scope:=scope) (env:=X.env) z (.inr rfl) c.nocell)
 cab:=λx a e=>by cases e
 hd:=I.ok.hd
 frames:=I.ok.frames
 stk:=.inl rfl
 exf:=λb J=>⟨cx (hf b J).2,λx a e=>(hf b J).1.2.2.2.2.1 x a (h1 x a e)⟩
 bs:=I.bs
 bsz:=ft I.ok.bsz I.sz
 noex:=λb o e J=>by
  rcases (hf b J).1.2.2.2.1 with z | z
  ·exact I.ok.noex b o e z
  ·exact absurd (dA (b5 (I.ok.bs b o e).1) z) (nE _)
 exfs:=λb J hm=>by
  rcases br.mp (I.uC b hm) with z | z
  ·exact (hf b J).1.2.1 z
  ·exact (hf b J).1.2.2.1 z
 qI:=I.stack
 frf:=I.Jz
def X8:(blk own fv σ).length=(own++fv.map (·.2)).length:=by simp[blk]
def Mw(I:Inv X kL σ H₁ s₁)(c:fK X.env.scope X.N scope N' own fv)(h1:∀y c,cl.lookup y=some c->X.env.cells.lookup y=some c)(h2:∀y,(y,NameKind.free)∈scope.names->∃c,cl.lookup y=some c)
  (hf:∀b∈fp,eY X kL H₁ b/\b<s₁.heap.objs.size) {h':fA} {m:Str->Option af} {tk:Nat} (hn:h'.Ns s₁.heap.objs.size m) (kp:∀b o,s₁.heap.get? b=some o->h'.get? b=some o) :
  Inv (rR X N' scope cl s₁ H₁ fp kL) [] (blk own fv σ) H₁ { s₁ with heap:=h',toks:=tk } where
 ok:=Zn I c h1 h2 hf
 os:=rfl
 bare:=I.bare
 base:=Un.kept kp
 loc:=by
  refine⟨m,hn,λi x v e1 J e3=>?_⟩
  have U:(own++fv.map (·.2))[i]?=some x:=by rw[←c.eqN];exact e1
  have hi:¬i<own.length:=λhi=>by
   unfold blk at J
   rw[gI (by simpa using hi),ay] at J
   cases z:own[i]? with
   |none=>rw[z] at J;cases J
   |some y=>rw[z] at J;cases J
  unfold blk at J
  rw[fI (by simpa using hi),ae,ay] at J
  rw[fI (by simpa using hi),ay] at U
  cases z:fv[i-own.length]? with
  |none=>rw[z] at J;cases J
  |some p=>
   rw[z] at J U
   have ex:p.2=x:=Option.some.inj U
   subst ex
   obtain⟨g1,g2,g3⟩:=c.slot p (df z)
   have O:(σ[p.1]?).join=some v:=Option.some.inj J
   have Z:σ[p.1]?=some (some v):=by
    cases q:σ[p.1]? with
    |none=>rw[q] at O;cases O
    |some o=>rw[q] at O;rw[show o=some v from O]
   obtain⟨m0,am,al⟩:=I.loc
   obtain⟨u,ru,lu⟩:=al p.1 p.2 v g1 Z (.inr (.inl g2))
   refine⟨u,ru,.inr ⟨.inl g3,?_⟩⟩
   rcases lu with ⟨k,_⟩ | ⟨_,cc,ec,ic⟩
   ·exact absurd (show X.env.scope.names.lookup p.2=some NameKind.local from k) (by rw[g2];intro z;cases z)
   ·have Y:(p.2,NameKind.free)∈scope.names:=ie (scope:=scope) (env:=X.env) g3 (.inl rfl) c.nocell
    obtain⟨c',ac⟩:=h2 _ Y
    have:=h1 _ _ ac
    rw[ec] at this
    cases this
    obtain⟨o,ho,hd⟩:=ic
    exact⟨cc,ac,o,kp _ _ ho,hd⟩
 cell:=λx a e=>by
  obtain⟨v,o,ho,hd⟩:=I.cell x a (h1 x a e)
  exact⟨v,o,kp _ _ ho,hd⟩
 free:=I.hok.fresh (a8 _)
 freeC:=λx a e=>I.freeC x a (h1 x a e)
 pin:=λp hp=>by
  rw[i4] at hp
  obtain⟨g1,g2,g3,g4,g5⟩:=I.pin p hp
  refine⟨kp _ _ g1,g2,cx (b5 g1),λhm=>?_,g5⟩
  rcases br.mp (I.uC p.1 hm) with z | z
  ·exact g3 z
  ·exact g4 z
 hok:=I.hok.kept kp
 len:=by rw[X8,←c.eqN];rfl
def Q9{σ':St}{H':Hp}(I:Inv X kL σ H₁ s₁)(hf:∀b∈fp,eY X kL H₁ b/\b<s₁.heap.objs.size)(J:Inv (rR X N' scope cl s₁ H₁ fp kL) [] σ' H' s₂) :
  Inv X kL σ H' s₂/\eY X kL H' s₁.heap.objs.size/\∃m,s₂.heap.Ns s₁.heap.objs.size m:=by
 have U:Inv X kL σ H' s₂:=I.call' (ch:=fp) J.os J.base J.hok J.bare λb O=>⟨(hf b O).1.2.2.2.1,(hf b O).1.2.1,(hf b O).1.2.2.2.2.1,(hf b O).1.2.2.2.2.2⟩
 obtain⟨m,Y,_⟩:=J.loc
 exact⟨U,⟨J.free,(I.wY (H':=H') (a8 _) J.free).2⟩,m,Y⟩
end
def Om(X:Cx)(ifs:List eT)(t:TT):Prop:=∀(kL:List (aT×Obj)) (s:aw) (σ:St) (H:Hp) (Q:Bool->Hp->Prop),Inv X kL σ H s->t σ H Q ->
 a9 (cy X.prog X.w) X.A (forIn ifs true λc r=>if r=true then do let ok ←LY c X.env (gN c X.env);pure (r8 ok) else pure (r8 r)) (TP X kL σ Q) X.xe s
def Tp:Om X [] (λ_ H Q=>Q true H):=λ_ _ _ H _ I h=>wpAny_tests_nil ⟨H,I,h⟩
def Qq{c:eT}{t:TT}(h:PT X c t):Om X [c] t:=λkL s σ H Q I J=>wpAny_tests_one (h kL s σ H Q I J)
def Js(wi:TI)(g:TG)(tc:TT)(te:TE)(own:List Str)(fv:FV):TE:=λσ H Q=>wi σ H λJ H1=>∀p,H1 p=none->∃W:Nat->Nat->Hp->Prop,(∃m,W 0 m (upd H1 p (.lst [])))/\∀i m H2,W i m H2 ->
 (J.stop i H2∧Q (.ref p) H2)∨(J.go i H2∧∀ x H3,J.yld i H2 x H3→g x (blk own fv σ) H3 λσ2 H4 => tc σ2 H4 λb H5 => if b = true then te σ2 H5 λv H6 => ∃ acc,H6 p = some (.lst acc)∧acc.length < cf ∧
  ∃m',m'<m/\W (i+1) m' (upd H6 p (.lst (acc++[v]))) else ∃m',m'<m/\W (i+1) m' H5)
variable{g:TG}
def yu{elt iter:eT}{fpos:Pos}{N':List Str}{wi:TI}{tc:TT}{te:TE}{R:VK}{use:Option (af->Sem Unit)}{Q':af->aw->Prop}
  (c:fK X.env.scope X.N scope N' own fv) (hcalm:X.calm=true) (hi:PI X target iter wi)
  (hgk:∀x σ H Q,g x σ H Q->g x σ H λσ' H'=>(σ'.length=σ.length/\∀i,own.length<=i->σ'[i]?=σ[i]?)/\Q σ' H')
  (hb:∀cl s₁ H₁ fp,PG (rR X N' scope cl s₁ H₁ fp kL) target g/\Om (rR X N' scope cl s₁ H₁ fp kL) ifs tc/\PE (rR X N' scope cl s₁ H₁ fp kL) elt te)
  (hs:∀x,kX iter X.env x=pure x) (I:Inv X kL σ H s) (h:Js wi g tc te own fv σ H R)
  (fin:∀(p C:aT) (H':Hp) (s':aw) (m:Str->Option af),Inv X kL σ H' s'->eY X kL H' C->s'.heap.Ns C m->R (.ref p) H'->compPost (cy X.prog X.w) X.A X.xe use Q' (.ref p) C (.ok .next) s') :
  a9 (cy X.prog X.w) X.A (comprehension (.ListComp elt [⟨target,iter,ifs,0⟩] scope pos) scope X.env fpos (newList []) false (gN iter X.env) use) Q' X.xe s:=by
 obtain⟨cl,al,h1,h2⟩:=Gi (scope:=scope) (env:=X.env) λy hy=>I.ok.has y (.inl (c.fre y hy))
 refine wpAny_comprehension_free (use:=use) rfl hs al c.kind c.loc (kU (hi kL s σ H _ I h) (λv s1 be=>kU be (λb3 O bg=>?_) λ_ _ e=>e) λ_ _ e=>e)
 obtain⟨it,fp,tn,J,H2,rfl,I2,T,ap,f2,q2⟩:=bg
 refine fR ?_
 have I3:Inv X kL σ (upd H2 O.heap.objs.size (.lst [])) { O with heap:=O.heap.push { cls:=.type "list",data:=.seq ([]:List af).toArray } }:=I2.ad0 (t':=O.toks) (ys:=[]) (its:=[]) .nil (eD _)
 have np:H2 O.heap.objs.size=none:=I2.fresh
 generalize hs3:({ O with heap:=O.heap.push { cls:=.type "list",data:=.seq ([]:List af).toArray } }:aw)=s3 at I3
 have e3:s3.heap=O.heap.push { cls:=.type "list",data:=.seq ([]:List af).toArray }:=by rw[←hs3]
 have Y:∀b o,O.heap.get? b=some o->s3.heap.get? b=some o:=λb o e=>by rw[e3];exact ai _ e
 have f3:∀b∈fp,eY X kL (upd H2 O.heap.objs.size (.lst [])) b/\b<s3.heap.objs.size:=λb hb=>by
  obtain⟨o,ho,_⟩:=T.obj 0 _ ap b hb
  have bi:=b5 ho
  refine⟨⟨?_,(f2 b hb).2⟩,b5 (Y b o ho)⟩
  rw[aC (cx bi)]
  exact (f2 b hb).1
 have st3:tn 0 s3.heap:=T.keep 0 _ _ ap λb hb o e=>Y b o e
 refine wpAny_newFunctionEnv c.nocell (by intro y hy;simp at hy) (λh' bl bm=>?_) c.kind
 have kp:∀b o,s3.heap.get? b=some o->h'.get? b=some o:=λb o e=>(bm.2 b (cx (b5 e))).trans (ai _ e)
 have J0:Inv (rR X N' scope cl s3 (upd H2 O.heap.objs.size (.lst [])) fp kL) [] (blk own fv σ) (upd H2 O.heap.objs.size (.lst [])) { s3 with heap:=h',toks:=s3.toks+([]:List (Str×af)).length }:=Mw I3 c h1 h2 f3 bl kp
 have a0:tn 0 h':=T.keep 0 _ _ st3 λb hb o e=>kp b o e
 obtain⟨W,⟨m0,w0⟩,a1⟩:=q2 O.heap.objs.size np
 obtain⟨hg,a2,a3⟩:=hb cl s3 (upd H2 O.heap.objs.size (.lst [])) fp
 have b4:∀b∈fp,b≠s3.heap.objs.size:=λb hb=>cx (f3 b hb).2
 have U:∀ {H':Hp},(∀b∈fp,H' b=none)->∀b∈fp,eY (rR X N' scope cl s3 (upd H2 O.heap.objs.size (.lst [])) fp kL) [] H' b:=λhn b hb=>by
  obtain⟨⟨_,g1,g2,g3,g4,g5⟩,g6⟩:=f3 b hb
  refine⟨hn b hb,cx g6,λhm=>?_,.inl hb,λx a e=>g4 x a (h1 x a e),λp hp=>g5 p (by simpa [rR] using hp)⟩
  rcases br.mp (I3.uC b hm) with z | z
  ·exact g1 z
  ·exact g2 z
 have Z:rq (cy X.prog X.w) X.A (.compLoop (.ListComp elt [⟨target,iter,ifs,0⟩] scope pos) 0 (.ref it) (.ref O.heap.objs.size) (compEnvC scope cl s3.heap.objs.size X.env))
   (compPost (cy X.prog X.w) X.A X.xe use Q' (.ref O.heap.objs.size) s3.heap.objs.size) { s3 with heap:=h',toks:=s3.toks+([]:List (Str×af)).length }:=by
  refine O5 (λn s'=>∃i H' σ',Inv (rR X N' scope cl s3 (upd H2 O.heap.objs.size (.lst [])) fp kL) [] (blk own fv σ) H' s'/\σ'=blk own fv σ/\tn i s'.heap/\(∀b∈fp,H' b=none)/\W i n H') ?_ m0 ⟨0,_,_,J0,rfl,a0,λb hb=>(f3 b hb).1.1,w0⟩
  rintro n s5 ⟨i,H5,_,J5,rfl,a4,a5,w5⟩
  rcases a1 i n H5 w5 with ⟨stop,qn⟩ | ⟨go,step⟩
  ·refine cC (T.done (rR X N' scope cl s3 (upd H2 O.heap.objs.size (.lst [])) fp kL) rfl rfl rfl hcalm i [] s5 _ H5 _ J5 (U a5) a4 stop) λr s6 hr=>?_
   obtain⟨rfl,J6⟩:=hr
   obtain⟨I6,f6,m6,n6⟩:=Q9 I3 f3 J6
   exact fin _ _ H5 s6 m6 I6 f6 n6 qn
  ·refine cC (T.item (rR X N' scope cl s3 (upd H2 O.heap.objs.size (.lst [])) fp kL) rfl rfl rfl hcalm i [] s5 _ H5 _ J5 (U a5) a4 go) λr s6 hr=>?_
   obtain⟨u,rfl,h6⟩:=hr
   refine cC h6 λ_ s7 h7=>?_
   obtain⟨x,H7,J7,r7,y7,am,bn⟩:=h7
   have bp:=J7.pinned (U bn) (T.obj _ _ am)
   refine cC (hg _ s7 _ H7 x u _ bp r7 (hgk _ _ _ _ (step x H7 y7))) λ_ s8 h8=>?_
   obtain⟨bd,H8,J8,⟨l8,k8⟩,q8⟩:=h8
   refine cC (a2 _ s8 bd H8 _ J8 q8) λok s9 h9=>?_
   obtain⟨H9,J9,q9⟩:=h9
   have ac:∀ {H':Hp} {s':aw},Inv (rR X N' scope cl s3 (upd H2 O.heap.objs.size (.lst [])) fp kL) ([]++vI fp s7.heap) bd H' s' ->
     Inv (rR X N' scope cl s3 (upd H2 O.heap.objs.size (.lst [])) fp kL) [] (blk own fv σ) H' s'/\tn (i+1) s'.heap/\∀b∈fp,H' b=none:=λ{H' s'} J'=>by
    refine⟨J'.pF.weak l8.symm λj v e=>?_,T.keep _ _ _ am λb hb o e=>(J'.pin (b,o) (fx _ (fx _ (jX hb e)))).1,λb hb=>?_⟩
    ·have hj:own.length<=j:=IX λhj=>by
      unfold blk at e
      rw[gI (by simpa using hj),ay] at e
      cases z:own[j]? with
      |none=>rw[z] at e;cases e
      |some y=>rw[z] at e;cases e
     rw[k8 j hj];exact e
    ·obtain⟨o,e,d⟩:=T.obj _ _ am b hb
     exact (J'.pin (b,o) (fx _ (fx _ (jX hb e)))).2.1
   cases ok with
   |false=>
    rw[if_neg ff] at q9 ⊢
    obtain⟨m',hm,w9⟩:=q9
    obtain⟨g1,g2,g3⟩:=ac J9
    exact⟨m',hm,i+1,H9,_,g1,rfl,g2,g3,w9⟩
   |true=>
    rw[if_pos rfl] at q9 ⊢
    refine cC (a3 _ s9 bd H9 _ J9 q9) λxv bq bu=>?_
    obtain⟨v,a6,bv,bw,a7,ea,hl,m',hm,bx⟩:=bu
    refine cC (yF _ bq bd a6 (.ref O.heap.objs.size) [v] (.ref O.heap.objs.size) [xv] (λz H'=>z=.non/\H'=upd a6 O.heap.objs.size (.lst (a7++[v]))) bv rfl (.cons bw .nil) ⟨_,a7,v,rfl,rfl,ea,hl,rfl,rfl⟩) λ_ ca b0=>?_
    obtain⟨z,cb,b2,_,_,rfl⟩:=b0
    obtain⟨g1,g2,g3⟩:=ac b2
    exact⟨m',hm,i+1,_,_,g1,rfl,g2,g3,bx⟩
 exact codeAny_compStart_list Z (T.self X.A 0 _ _ _ a0 Z)
def KY{elt iter:eT}{N':List Str}{wi:TI}{tc:TT}{te:TE}
  (c:fK X.env.scope X.N scope N' own fv) (hcalm:X.calm=true) (hi:PI X target iter wi)
  (hgk:∀x σ H Q,g x σ H Q->g x σ H λσ' H'=>(σ'.length=σ.length/\∀i,own.length<=i->σ'[i]?=σ[i]?)/\Q σ' H')
  (hb:∀kL cl s₁ H₁ fp,PG (rR X N' scope cl s₁ H₁ fp kL) target g/\Om (rR X N' scope cl s₁ H₁ fp kL) ifs tc/\PE (rR X N' scope cl s₁ H₁ fp kL) elt te)
  (hs:∀x,kX iter X.env x=pure x:=by intro _;rfl):PE X (.ListComp elt [⟨target,iter,ifs,0⟩] scope pos) (Js wi g tc te own fv):=by
 intro kL s σ H Q I h
 rw[eval_ListComp]
 refine yu (use:=none) (R:=Q) c hcalm hi hgk (hb kL) hs I h λp C H' s' m J f n q=>?_
 refine⟨m,n,λh' O=>⟨.ref p,H',J.turned (t':=s'.toks) (it:=C) (λb o hb e=>(O.2 b hb).trans e) f.1 f.2.1 f.2.2.2.1 f.2.2.2.2.1 f.2.2.2.2.2,rfl,q⟩⟩
def Iw{elt iter:eT}{spos py:Pos}{y:Str}{j:Nat}{N':List Str}{wi:TI}{tc:TT}{te:TE}
  (hN:X.N.Nodup) (hj:X.N[j]?=some y) (hy:Loc X.env.scope y) (hsw:tf (.ListComp elt [⟨target,iter,ifs,0⟩] scope pos) (some (.Name y py)) spos.line X.env=pure true)
  (c:fK X.env.scope X.N scope N' own fv) (hcalm:X.calm=true) (hi:PI X target iter wi)
  (hgk:∀x σ H Q,g x σ H Q->g x σ H λσ' H'=>(σ'.length=σ.length/\∀i,own.length<=i->σ'[i]?=σ[i]?)/\Q σ' H')
  (hb:∀kL cl s₁ H₁ fp,PG (rR X N' scope cl s₁ H₁ fp kL) target g/\Om (rR X N' scope cl s₁ H₁ fp kL) ifs tc/\PE (rR X N' scope cl s₁ H₁ fp kL) elt te)
  (hs:∀x,kX iter X.env x=pure x:=by intro _;rfl) (hf:X.fn y=true\/X.env.scope.names.lookup y=some .local:=by first | exact .inl rfl | exact .inr rfl | assumption) :
  PS X (.Assign [.Name y py] (.ListComp elt [⟨target,iter,ifs,0⟩] scope pos) spos) (Zj (Js wi g tc te own fv) (gH j)):=by
 intro kL s σ H Z I h
 rw[exec_Assign_Name_used _ _ _ _ hsw]
 refine ab (wpAny_standAt (ab ?_))
 show a9 _ X.A (do let _ ←comprehension (.ListComp elt [⟨target,iter,ifs,0⟩] scope pos) scope X.env _ (newList []) false (gN iter X.env) (some (FX (.Name y py) X.env))) _ _ s
 refine ab (kU (yu (use:=some (FX (.Name y py) X.env)) (Q':=λ_ s'=>SP X kL Z .next s') c hcalm hi hgk (hb kL) hs I h λp C H' s' m J f n q=>?_) (λ_ s' hq=>av (av hq)) λ_ _ e=>e)
 show a9 _ X.A (FX (.Name y py) X.env (.ref p)) _ _ s'
 refine GW (xZ J hN hj hy (v:=.ref p) rfl (λU J' O=>?_) hf)
 obtain⟨a,sb,ha⟩:=O
 have hC:C≠a:=by
  rcases ha with z | z
  ·rw[z];exact f.2.1
  ·exact λw=>f.2.2.2.2.1 _ _ z w.symm
 refine⟨m,n.sameBut sb hC,λh' Y=>⟨_,H',J'.turned (t':=U.toks) (it:=C) (λb o hb e=>(Y.2 b hb).trans e) f.1 f.2.1 f.2.2.2.1 f.2.2.2.2.1 f.2.2.2.2.2,q⟩⟩
def Gy{n:Nat}(h:n<=10000):n<cf:=by rw[show cf=16777216 by decide];omega
def oN(wi:wI)(g:um)(tc:tG)(te:bK)(own:List Str)(fv:FV):bK:=λσ H Q=>wi σ H λds keep H1=>(∀H2:aA,aq H1 H2->keep H2)/\ds.length<=10000/\∃rs:List (Option D),rs.length=ds.length /\
 (∀ (i:Nat) (d:D),ds[i]? = some d→∀ H2:aA,aq H1 H2→g d (own.map (λ_ => none)++fv.map λp => (σ[p.1]?).join) H2 λσ2 H4 => tc σ2 H4 λb H5 =>
  if b=true then te σ2 H5 λv H6=>aq H2 H6/\rs[i]?=some (some v) else aq H2 H5/\rs[i]?=some none) /\
 ∀p,H1 p=none->Q (.ref p) (au H1 p (.lst (rs.filterMap id)))
def abC{σ3:cD}(s:SR K H σ3 σ):SR K H (own.map (λ_=>none)++fv.map λp=>(σ3[p.1]?).join) (blk own fv σ):=by
 refine⟨by simp[blk],λi d h=>?_⟩
 have hi:¬i<own.length:=λhi=>by
  rw[gI (by simpa using hi),ay] at h
  cases z:own[i]? with
  |none=>rw[z] at h;cases h
  |some y=>rw[z] at h;cases h
 rw[fI (by simpa using hi),ae,ay] at h
 unfold blk
 rw[fI (by simpa using hi),ae,ay]
 cases z:fv[i-own.length]? with
 |none=>rw[z] at h;cases h
 |some p=>
  rw[z] at h
  have h':(σ3[p.1]?).join=some d:=Option.some.inj h
  have e:σ3[p.1]?=some (some d):=by
   cases q:σ3[p.1]? with
   |none=>rw[q] at h';cases h'
   |some o=>rw[q] at h';rw[show o=some d from h']
  obtain⟨v,J,O⟩:=s.get _ _ e
  exact⟨v,by show some (σ[p.1]?).join=some (some v);rw[J];rfl,O⟩
def gF{rs:List (Option D)}{o:Option D}(h:rs[i]?=some o):(rs.take (i+1)).filterMap id=(rs.take i).filterMap id++o.toList:=by
 rw[gS,h,List.filterMap_append]
 cases o <;> rfl
theorem qL{wi:wI}{g:um}{g2:TG}{tc:tG}{te:bK}{Q:VK}(hgr:∀v σ H Q,J1 K g v σ H Q->g2 v σ H Q)(h:jz K (oN wi g tc te own fv) σ H Q):Js (Yr K wi) g2 (liftT K tc) (jz K te) own fv σ H Q:=by
 obtain⟨bx,H3,Q3,sr,hr,t,k⟩:=h
 refine⟨bx,H3,_,sr,hr,t,λds keep J H3' H' ap a0 ok q p np=>?_⟩
 obtain⟨ac,a1,rs,be,bg,a2⟩:=q
 have Wl:H3' p=none:=a0.fresh np
 have bi:∀i,((rs.take i).filterMap id).length<=i:=λi=>ft (List.length_filterMap_le _ _) (by rw[fm];grind)
 refine⟨λi m H2=>m=ds.length-i/\i<=ds.length/\TK H' H2/\HR K (au H3' p (.lst ((rs.take i).filterMap id))) H2,⟨ds.length,by simp,eD _,TK.fresh np,a0.uL (TK.fresh np) (.nil)⟩,?_⟩
 rintro i m H2 ⟨rfl,hi,O,a3⟩
 have Y:aq H3' (au H3' p (.lst ((rs.take i).filterMap id))):=aq.fresh Wl
 obtain⟨go,stop⟩:=ok _ H2 O a3 (ac _ Y)
 by_cases hlt:i<ds.length
 ·obtain⟨g1,g2⟩:=go i hlt
  refine .inr ⟨g1,λx bl y=>?_⟩
  obtain⟨bm,bn,d,ed,rd⟩:=g2 x bl y
  replace O:=O.trans bm
  refine hgr _ _ _ _ ⟨d,_,_,_,rd,(abC sr).mono (ap.trans O),bn,bg i d ed _ Y,λa4 b2 bp Ha a5 a6 bq qa=>⟨a4,bp,_,a6,bq,qa,λb bu Hb al a7 qb=>?_⟩⟩
  cases b with
  |true=>
   rw[if_pos rfl] at qb ⊢
   refine⟨a4,bu,_,a6.mono al,a7,qb,λv u b0 Hc bv bd rv qc=>?_⟩
   obtain⟨sub,am⟩:=qc
   obtain⟨bw,U,Z⟩:=bd p _ (sub p _ aj)
   refine⟨bw,U,?_,ds.length-(i+1),by grind,rfl,hlt,((O.trans a5).trans (al.trans bv)).trans (TK.lst U),?_⟩
   ·rw[←Z.length]
    exact Gy (ft (bi i) (ft hi a1))
   ·rw[gF am,←cN]
    exact (bd.sub sub).uL (TK.lst U) ((Z.snoc rv).mono (TK.lst U))
  |false=>
   rw[if_neg ff] at qb ⊢
   obtain⟨sub,am⟩:=qb
   refine⟨ds.length-(i+1),by grind,rfl,hlt,(O.trans a5).trans al,?_⟩
   rw[gF am]
   simp only[Option.toList,i4]
   exact a7.sub sub
 ·have e:i=ds.length:=by grind
  subst e
  refine .inl ⟨stop,k _ _ _ _ (ap.trans O) a3 (.ref p) ?_⟩
  rw[fh (by rw[be];exact a8 _)]
  exact a2 p Wl
def jd:tG:=λ_ H Q=>Q true H
def yP(X:Cx)(ifs:List eT)(t:tG):Prop:=Om X ifs (liftT X.K t)
def Qs:yP X [] jd:=λkL s σ H Q I h=>by
 obtain⟨J,H3,O,U,hr,t,k⟩:=h
 exact Tp kL s σ H Q I (k _ _ _ TK.refl hr t)
def PB{c:eT}{t:tG}(h:yc X c t):yP X [c] t:=Qq h
def gr_name:∀v σ H Q,J1 K (jB i) v σ H Q->gH i v σ H Q:=λ_ _ _ _ ⟨_,_,_,_,J,O,hr,t,k⟩=>k _ _ _ _ TK.refl (O.set i J) hr t
theorem JT{n:Nat}(hi:i<n):∀x σ H Q,gH i x σ H Q->gH i x σ H λσ' H'=>(σ'.length=σ.length/\∀j,n<=j->σ'[j]?=σ[j]?)/\Q σ' H':=λx σ H Q h=>
 ⟨⟨by simp,λj J=>kN (by grind)⟩,h⟩
def V2{j:Nat}:∀v σ H Q,J1 K (Fy i j) v σ H Q->QV K 2 (o9 (gH i) (o9 (gH j) Uo)) v σ H Q:=λv σ H Q ⟨d,U,H3,Y,J,O,hr,t,k⟩=>by
 cases J with
 |tup ha ra=>
  cases ra with
  |nil=>exact t.elim
  |cons r1 ra=>
   cases ra with
   |nil=>exact t.elim
   |cons r2 ra=>
    cases ra with
    |cons _ _=>exact t.elim
    |nil=>exact⟨_,_,rfl,jC.of ha,rfl,_,_,rfl,_,_,rfl,rfl,k _ _ _ _ TK.refl ((O.set i r1).set j r2) hr t⟩
 |_=>exact t.elim
theorem Vp{n j:Nat}(hi:i<n)(hj:j<n):∀x σ H Q,QV K 2 (o9 (gH i) (o9 (gH j) Uo)) x σ H Q ->
  QV K 2 (o9 (gH i) (o9 (gH j) Uo)) x σ H λσ' H'=>(σ'.length=σ.length/\∀l,n<=l->σ'[l]?=σ[l]?)/\Q σ' H':=λx σ H Q h=>by
 obtain⟨a,xs,rfl,h1,h2,v,r,rfl,J,O,rfl,e,q⟩:=h
 refine⟨a,_,rfl,h1,h2,v,_,rfl,J,_,rfl,e,⟨by simp,λl U=>?_⟩,q⟩
 rw[kN (by grind),kN (by grind)]
section
variable{X:Cx}{elt iter:eT}{ifs:List eT}{scope:vT}{pos px py pt spos:Pos}{x x' y:Str}{fv:FV}{wi:wI}{tc:tG}{te:bK}{kk:Nat}
def Jm(c:fK X.env.scope X.N scope (x::fv.map (·.2)) [x] fv)(hcalm:X.calm=true)(hi:tM X (.Name x px) iter wi)
  (hifs:∀kL cl s₁ H₁ fp,yP (rR X (x::fv.map (·.2)) scope cl s₁ H₁ fp kL) ifs tc) (helt:∀kL cl s₁ H₁ fp,aF (rR X (x::fv.map (·.2)) scope cl s₁ H₁ fp kL) elt te)
  (hx:(HL scope X.env).names.lookup x=some .local:=by rfl) (hs:∀x,kX iter X.env x=pure x:=by intro _;rfl):aF X (.ListComp elt [⟨.Name x px,iter,ifs,0⟩] scope pos) (oN wi (jB 0) tc te [x] fv) :=
 aY (KY (g:=gH 0) (tc:=liftT X.K tc) (te:=jz X.K te) c hcalm hi (JT (Lo)) (λkL cl s₁ H₁ fp=>⟨fM c.nd rfl (.inl hx) (.inr hx),hifs kL cl s₁ H₁ fp,helt kL cl s₁ H₁ fp⟩) hs) λ_ _ _ h=>qL gr_name h
def wG(j:Nat)(hN:X.N.Nodup)(c:fK X.env.scope X.N scope (x::fv.map (·.2)) [x] fv)(hcalm:X.calm=true)(hi:tM X (.Name x px) iter wi)
  (hifs:∀kL cl s₁ H₁ fp,yP (rR X (x::fv.map (·.2)) scope cl s₁ H₁ fp kL) ifs tc) (helt:∀kL cl s₁ H₁ fp,aF (rR X (x::fv.map (·.2)) scope cl s₁ H₁ fp kL) elt te)
  (hj:X.N[j]?=some y:=by rfl) (hy:Loc X.env.scope y:=by first | exact vn rfl | exact ui rfl) (hsw:tf (.ListComp elt [⟨.Name x px,iter,ifs,0⟩] scope pos) (some (.Name y py)) spos.line X.env=pure true:=by rfl)
  (hx:(HL scope X.env).names.lookup x=some .local:=by rfl) (hs:∀x,kX iter X.env x=pure x:=by intro _;rfl) (hf:X.fn y=true\/X.env.scope.names.lookup y=some .local:=by first | exact .inl rfl | exact .inr rfl | assumption) :
  qg X (.Assign [.Name y py] (.ListComp elt [⟨.Name x px,iter,ifs,0⟩] scope pos) spos) (st3 j (oN wi (jB 0) tc te [x] fv)) :=
 gZ (Iw (g:=gH 0) (tc:=liftT X.K tc) (te:=jz X.K te) hN hj hy hsw c hcalm hi (JT (Lo)) (λkL cl s₁ H₁ fp=>⟨fM c.nd rfl (.inl hx) (.inr hx),hifs kL cl s₁ H₁ fp,helt kL cl s₁ H₁ fp⟩) hs hf)
  λ_ _ _ Y=>Y.ex λZ H3 D3 U hr t k=>qL gr_name ⟨Z,H3,_,U,hr,t,λx v ac Ha J O rx qa=>k.nx _ _ _ _ J ((U.mono J).set j rx) O qa⟩
def RK(c:fK X.env.scope X.N scope (x::x'::fv.map (·.2)) [x,x'] fv)(hcalm:X.calm=true)(hi:tM X (.Tuple [.Name x px,.Name x' py] kk pt) iter wi)
  (hifs:∀kL cl s₁ H₁ fp,yP (rR X (x::x'::fv.map (·.2)) scope cl s₁ H₁ fp kL) ifs tc) (helt:∀kL cl s₁ H₁ fp,aF (rR X (x::x'::fv.map (·.2)) scope cl s₁ H₁ fp kL) elt te)
  (hx:(HL scope X.env).names.lookup x=some .local:=by rfl) (hx':(HL scope X.env).names.lookup x'=some .local:=by rfl) (hs:∀x,kX iter X.env x=pure x:=by intro _;rfl) :
  aF X (.ListComp elt [⟨.Tuple [.Name x px,.Name x' py] kk pt,iter,ifs,0⟩] scope pos) (oN wi (Fy 0 1) tc te [x,x'] fv) :=
 aY (KY (g:=QV X.K 2 (o9 (gH 0) (o9 (gH 1) Uo))) (tc:=liftT X.K tc) (te:=jz X.K te) c hcalm hi (Vp (show 0<2 by decide) (show 1<2 by decide))
  (λkL cl s₁ H₁ fp=>⟨Ib (n:=2) hcalm (g8 (fM c.nd rfl (.inl hx) (.inr hx)) (g8 (fM c.nd rfl (.inl hx') (.inr hx')) Bj)),hifs kL cl s₁ H₁ fp,helt kL cl s₁ H₁ fp⟩) hs) λ_ _ _ h=>qL V2 h
end
end L3
namespace L3
open PySem L2
def bF:R3:=Jd λi j=>.int (i-j)
def dG:R3:=Yd (λ_ j=>0<j) λi j=>.int (i%j)
def Eo:R3:=Yd Wm λi j=>.int (i ^ j.toNat)
def Zm:R3:=Jd λi j=>.bl (decide (j<i))
def aaa:R3:=Jd λi j=>.bl (decide (j<=i))
theorem gW:∀ns:List Int,intsOf (ns.map D.int)=some ns
 |[]=>rfl
 |n::ns=>by simp only[aE,intsOf,gW ns,oQ]
def afU(f:List Int->Int):List D->aA->bL->Prop:=λds H Q=>match ds with
 | [.ref a] => (match H a with
  | some (.lst xs) => (match intsOf xs with
   |some ns=>ns≠[]/\Q (.int (f ns)) H
   |none=>False)
  |_=>False)
 |_=>False
def yE:D->List D->aA->bL->Prop:=λx xs H Q=>match x,xs with
 | .ref a,[.int i,y] => (match H a with
  |some (.lst ds)=>((0<=i/\i<=ds.length)/\ds.length<1000)/\Q .non (au H a (.lst (ds.take i.toNat++y::ds.drop i.toNat)))
  |_=>False)
 |_,_=>False
abbrev Pt:=Int×Int
def aO(p:Pt):D:=.tup [.int p.1,.int p.2]
def sW:List D->Option (List Pt)
 |[]=>some []
 |.tup [.int x,.int y]::ds=>(sW ds).map ((x,y)::·)
 |_::_=>none
theorem rH:∀ps:List Pt,sW (ps.map aO)=some ps
 |[]=>rfl
 |p::ps=>by simp only[aE,aO,sW];rw[rH ps];rfl
def yI:∀ {ds:List D} {ps:List Pt},sW ds=some ps->ds=ps.map aO:=by
 intro ds
 induction ds with
 |nil=>intro ps h;simp only[sW,k9] at h;subst h;rfl
 |cons d ds ih=>
  intro ps h
  unfold sW at h
  split at h
  ·rename_i a;cases a
  ·rename_i x y r J
   cases J
   simp only[cv] at h
   obtain⟨O,h1,h2⟩:=h
   subst h2
   rw[ih h1];rfl
  ·cases h
def wK(c r:Pt):Bool:=HT.lexLt [r.2,r.1] [c.2,c.1]
def xq(row:List Pt)(c:Pt):List Pt:=row.takeWhile (wK c)++c::row.dropWhile (wK c)
def bT(ps:List Pt):List Pt:=ps.foldl xq []
def JP(c r:Pt):wK c r=true↔r.2<c.2\/(r.2=c.2/\r.1<c.1):=by
 unfold wK HT.lexLt
 by_cases h:r.2=c.2
 ·rw[if_pos h]
  unfold HT.lexLt
  by_cases h2:r.1=c.1
  ·rw[if_pos h2];unfold HT.lexLt;simp[h,h2]
  ·rw[if_neg h2];simp[h]
 ·rw[if_neg h]
  simp[h]
def rA(c r:Pt):wK c r=false↔c.2<r.2\/(c.2=r.2/\c.1<=r.1):=by
 rw[←B8,JP]
 omega
theorem iY{p:Pt->Bool}:∀ {row:List Pt} {k:Nat},k<=row.length->(∀r∈row.take k,p r=true)->(∀h:k<row.length,p (row[k]'h)=false)->row.takeWhile p=row.take k/\row.dropWhile p=row.drop k
 |[],k,_,_,_=>by simp
 |r::row,0,_,_,h=>by
  have:=h (by simp)
  simp at this
  simp[EU,EV,this]
 |r::row,k+1,hk,h1,h2=>by
  have hr:p r=true:=h1 r (by simp)
  have J:=iY (p:=p) (row:=row) (k:=k) (by simpa using hk) (λx O=>h1 x (by simp[O])) (λh=>by have:=h2 (by simpa using h);simpa using this)
  simp[EU,EV,hr,J.1,J.2]
def MN(row:List Pt)(c:Pt):(xq row c).Perm (c::row):=by
 unfold xq
 have e:=xh (p:=wK c) (l:=row)
 have h:(row.takeWhile (wK c)++c::row.dropWhile (wK c)).Perm (c::(row.takeWhile (wK c)++row.dropWhile (wK c))):=tF
 rw[e] at h
 exact h
theorem mq:∀(ps row:List Pt),(ps.foldl xq row).Perm (row++ps)
 |[],row=>by simp
 |p::ps,row=>by
  rw[vj]
  refine (mq ps _).trans ?_
  refine ((MN row p).append_right ps).trans ?_
  rw[ku]
  exact tF.symm
def dO(ps:List Pt):(bT ps).Perm ps:=by
 have:=mq ps []
 simpa [bT] using this
def my(ps:List Pt):(bT ps).length=ps.length:=(dO ps).length_eq
def Ia{ps:List Pt}{i:Nat}{c:Pt}(h:ps[i]?=some c):bT (ps.take (i+1))=xq (bT (ps.take i)) c:=by
 unfold bT
 rw[gS,h,HM]
 rfl
def Kq(a b:Pt):Prop:=wK a b=false
theorem Mf{a b c:Pt}(h1:Kq a b)(h2:Kq b c):Kq a c:=by
 unfold Kq at *
 rw[rA] at *
 grind
theorem Hs{c r:Pt}(h:wK c r=true):Kq r c:=by
 unfold Kq
 rw[JP] at h
 rw[rA]
 grind
def CZ{row:List Pt}{c:Pt}(h:row.Pairwise Kq):(xq row c).Pairwise Kq:=by
 unfold xq
 have e:=xh (p:=wK c) (l:=row)
 have Y:∀r∈row.takeWhile (wK c),wK c r=true:=λr hr=>by
  have:=List.all_takeWhile (p:=wK c) (l:=row)
  rw[kQ] at this
  exact this r hr
 have hd:∀r∈row.dropWhile (wK c),Kq c r:=by
  have hs:(row.dropWhile (wK c)).Pairwise Kq:=by rw[←e] at h;exact (x5.mp h).2.1
  cases hq:row.dropWhile (wK c) with
  |nil=>intro r hr;cases hr
  |cons x xs=>
   have O:wK c x=false:=by
    have:=List.head?_dropWhile_not (wK c) row
    rw[hq] at this
    simpa using this
   rw[hq] at hs
   intro r hr
   rcases br.mp hr with rfl | hr
   ·exact O
   ·exact Mf O ((iL.mp hs).1 r hr)
 rw[←e] at h
 obtain⟨h1,h2,Z⟩:=x5.mp h
 refine x5.mpr ⟨h1,iL.mpr ⟨hd,h2⟩,λa U b J=>?_⟩
 rcases br.mp J with rfl | J
 ·exact Hs (Y a U)
 ·exact Z a U b J
theorem jo:∀(ps row:List Pt),row.Pairwise Kq->(ps.foldl xq row).Pairwise Kq
 |[],_,h=>h
 |_::ps,_,h=>jo ps _ (CZ h)
def zR(ps:List Pt):(bT ps).Pairwise Kq:=jo ps [] HE
end L3
namespace L3
open PySem PySem.Spec PyProof.Rows L2
section
variable{X:Cx}
def Wg:V->List V->Hp->VK->Prop:=λx vs H Q=>∃l xs i y,x=.ref l/\vs=[.int i,y]/\H l=some (.lst xs)/\(0<=i/\i<=xs.length)/\xs.length<cf/\Q .non (upd H l (.lst (xs.take i.toNat++y::xs.drop i.toNat)))
theorem Mz:MtM X "list.insert" Wg:=by
 intro kL s σ H x vs v us Q I Y Z h
 obtain⟨l,xs,i,y,rfl,rfl,U,hi,hz,q⟩:=h
 cases Y
 obtain⟨u,O,rfl,ru,ry⟩:=Z.two
 obtain⟨t,rfl⟩:=ru
 obtain⟨z,its,n,r,hl,e⟩:=I.Oc U
 have hs:=lI
 have J:AE i=true:=by
  unfold AE
  simp only[tm,decide_eq_true_eq]
  constructor <;> grind
 refine F4 BD ⟨_,e,rfl⟩ F.entry_list_insert (F.args_list_insert_3 _ _ _)
  (Dx l its.toArray n i t O (by simp[J]) (by rw[c6];grind)) ⟨e,?_⟩
 refine⟨.non,_,I.abn (its':=its.take i.toNat++O::its.drop i.toNat) U e ?_ ((r.take _).append (.cons ry (r.drop _))) ?_,rfl,q⟩
 ·have hk:(if i<0 then (i+(its.toArray.size:Int)).toNat else min i.toNat its.toArray.size)=i.toNat:=by
   rw[if_neg (by grind),c6];grind
  show (its.toArray.extract 0 (if i<0 then (i+(its.toArray.size:Int)).toNat else min i.toNat its.toArray.size)).push O++its.toArray.extract (if i<0 then (i+(its.toArray.size:Int)).toNat else min i.toNat its.toArray.size)=_
  rw[hk]
  apply MA
  simp
  exact fh (by rw[i6];exact a8 _)
 ·simp only[ck,bE,fm,i6]
  grind
def Xu:Vz X "list.insert" (liftM X.K yE):=by
 intro kL s σ H x xs v us Q I Y Z h
 obtain⟨d,ds,H3,Q3,hr,rd,U,t,k⟩:=h
 cases rd with
 |ref a=>
  cases U with
  |nil=>exact t.elim
  |cons r1 r2=>
   cases r2 with
   |nil=>cases r1 <;> exact t.elim
   |cons r2 r3=>
    cases r3 with
    |cons _ _=>cases r1 <;> exact t.elim
    |nil=>
     cases r1 with
     |int i=>
      (delta yE at t;dsimp only at t)
      split at t
      ·rename_i ds ha
       obtain⟨vs,J,O⟩:=hr a _ ha
       obtain⟨⟨hi,hl⟩,q⟩:=t
       exact Mz kL s σ H _ _ v us Q I Y Z ⟨a,vs,i,_,rfl,rfl,J,by rw[←O.length];exact hi,by rw[←O.length];exact rJ (kn hl),
        k _ _ _ _ (TK.lst J) (hr.uL (TK.lst J) (((O.take _).append (.cons r2 (O.drop _))).mono (TK.lst J))) .non q⟩
      ·exact t.elim
     |_=>exact t.elim
 |_=>exact t.elim
end
end L3
namespace L3
open PySem L2
def aW:cf=16777216:=by decide
variable{n:Nat}
def jM(h:n<=1000):n<cf:=by rw[aW];omega
def ao{H:aA}{a p:aT}{o u:O3}(h:H a=some o)(n:H p=none):au H p u a=some o:=by rw[aG (ne3 h n)];exact h
def dj{H H2:aA}{p:aT}{o:O3}(s:aq H H2)(h:H2 p=some o):aq (au H p o) H2:=λb u e=>by
 by_cases hb:b=p
 ·subst hb;rw[aj] at e;cases e;exact h
 ·rw[aG hb] at e;exact s b u e
def fU{H H2:aA}{p:aT}(s:aq H H2)(h:H2 p=none):H p=none:=by
 cases e:H p with
 |none=>rfl
 |some o=>have:=s p o e;rw[h] at this;cases this
section
variable{σ:cD}{H:aA}{Q:bL}{D0:cX}{i j:Int}{a b:aT}{d x y:D}{ds es:List D}{ta tb te tc:bK}{tr:qG}{t u:bC}{cA cB:tG}{QL:List D->aA->Prop}{QB:Bool->aA->Prop}
def SQ{k:Nat}(h:σ[k]?=some (some d))(q:Q d H):v3 k σ H Q:=by unfold v3;rw[h];exact q
def aeD(q:Q d H):c3 d σ H Q:=q
def abV{r:R3}(h:ta σ H λx H1=>tb σ H1 λy H2=>r x y H2 Q):o3 r ta tb σ H Q:=h
def ae9{r:D->aA->bL->Prop}(h:ta σ H λx H1=>r x H1 Q):u3 r ta σ H Q:=h
def adE(q:Q (.int (-i)) H):nM (.int i) H Q:=q
def aca(q:Q (.int (i-j)) H):bF (.int i) (.int j) H Q:=q
def adf(q:Q (.int (i+j)) H):aH (.int i) (.int j) H Q:=q
def JR(ha:H a=some (.lst ds))(hb:H b=some (.lst es))(hl:ds.length+es.length<=cf)(q:∀p,H p=none->Q (.ref p) (au H p (.lst (ds++es)))):aH (.ref a) (.ref b) H Q:=by
 (delta aH;simp only[ha,hb]);exact⟨hl,q⟩
def Y5(c:0<j)(q:Q (.int (i%j)) H):dG (.int i) (.int j) H Q:=⟨c,q⟩
def acb(c:Wm i j)(q:Q (.int (i ^ j.toNat)) H):Eo (.int i) (.int j) H Q:=⟨c,q⟩
def aeB(q:Q (.bl (decide (j<i))) H):Zm (.int i) (.int j) H Q:=q
def afS(q:Q (.bl (decide (j<=i))) H):aaa (.int i) (.int j) H Q:=q
def aeW(q:Q (.bl (decide (i<j))) H):vJ (.int i) (.int j) H Q:=q
def acH{x1 x2 y1 y2:Int}(q:Q (.bl (HT.lexLt [x1,x2] [y1,y2])) H):vJ (.tup [.int x1,.int x2]) (.tup [.int y1,.int y2]) H Q:=q
def YM(i:Int):mO 4 (.int i)=some (.int i):=rfl
def adq(b:Bool):mO 4 (.bl b)=some (.bool b):=rfl
def ab8(x y:Int):mO 5 (.tup [.int x,.int y])=some (.tuple [.int x,.int y]):=rfl
def abT(q:Q (.bl (decide (i=j))) H):jf (.int i) (.int j) H Q:=by
 have e:(i==j)=decide (i=j):=rfl
 (delta jf Hf;simp only[YM,fg,e]);exact q
def aea(q:Q (.bl (!decide (i=j))) H):eG (.int i) (.int j) H Q:=by
 have e:(i==j)=decide (i=j):=rfl
 (delta eG Hf;simp only[YM,fg,e]);exact q
def adM{x1 x2 y1 y2:Int}(q:Q (.bl (!decide ((x1,x2)=(y1,y2)))) H):eG (.tup [.int x1,.int x2]) (.tup [.int y1,.int y2]) H Q:=by
 have e:(g9 [.int x1,.int x2] [.int y1,.int y2])=decide ((x1,x2)=(y1,y2)):=by
  simp only[g9,fg,xE,si,DA];rfl
 (delta eG Hf;simp only[ab8,fg,e]);exact q
def adQ(q:Q (.bl (isN x)) H):K3 x .non H Q:=q
def Ek(h:jU ds i=some d)(q:Q d H):aB (.tup ds) (.int i) H Q:=by (delta aB;simp only[h]);exact q
def adg(h:jU ds i=some d)(q:Q d H):aB (.fl ds) (.int i) H Q:=by (delta aB;simp only[h]);exact q
def fV(ha:H a=some (.lst ds))(h:jU ds i=some d)(q:Q d H):aB (.ref a) (.int i) H Q:=by (delta aB;simp only[ha,h]);exact q
def adP(h:te σ H λd H1=>bt d H1 QB):dU te σ H QB:=h
def aci{k:Bool}(q:QB k H):bt (.bl k) H QB:=q
def aeJ(h:cA σ H λc H1=>if c=true then cB σ H1 QB else QB false H1):an3 cA cB σ H QB:=h
def afo(h:cA σ H λc H1=>if c=true then QB true H1 else cB σ H1 QB):or3 cA cB σ H QB:=h
def aeh(h:cA σ H λc H1=>QB (!c) H1):QJ cA σ H QB:=h
def avk(tb:bK)(σ:cD)(x:D)(H1:aA)(Q:bL):Prop:=match x with
 |.bl c=>if c=true then tb σ H1 Q else Q (.bl false) H1
 |_=>False
def nvk(x:D)(H1:aA)(Q:bL):Prop:=match x with
 |.bl c=>Q (.bl (!c)) H1
 |_=>False
def aeR(h:ta σ H λx H1=>avk tb σ x H1 Q):av3 ta tb σ H Q:=h
def acx{c:Bool}(h:if c=true then tb σ H Q else Q (.bl false) H):avk tb σ (.bl c) H Q:=h
def afB(h:ta σ H λx H1=>nvk x H1 Q):nv3 ta σ H Q:=h
def adJ{c:Bool}(q:Q (.bl (!c)) H):nvk (.bl c) H Q:=q
def acT(q:QL [] H):ak σ H QL:=q
def Zq(h:ta σ H λx H1=>tr σ H1 λxs H2=>QL (x::xs) H2):aa ta tr σ H QL:=h
def aeP(h:tr σ H λds H1=>ds.length<=1000/\Q (.tup ds) H1):cO tr σ H Q:=h
def aee(h:tr σ H λds H1=>ds.length<=1000/\∀p,H1 p=none->Q (.ref p) (au H1 p (.lst ds))):wL tr σ H Q:=h
def ac0{q:Prop}(h:PH ds.length n=true)(h2:q):ds.length<=n/\q:=⟨DI h,h2⟩
def afk{r:List D->aA->bL->Prop}(h:tr σ H λds H1=>r ds H1 Q):aM r tr σ H Q:=h
def Y7(q:Q (.int ds.length) H):bj [.tup ds] H Q:=q
def abf(q:Q (.int ds.length) H):bj [.fl ds] H Q:=q
def aal(ha:H a=some (.lst ds))(q:Q (.int ds.length) H):bj [.ref a] H Q:=by (delta bj;simp only[ha]);exact q
def abp(q:Q (.tup ds) H):gK [.tup ds] H Q:=q
def abj(ha:H a=some (.lst ds))(q:Q (.tup ds) H):gK [.ref a] H Q:=by (delta gK;simp only[ha]);exact q
def Xm(q:∀p,H p=none->Q (.ref p) (au H p (.lst ds))):jW [.tup ds] H Q:=q
def aer{tl th:Yo}{r:Zx}(h:te σ H λx H1=>tl σ H1 λl H2=>th σ H2 λu H3=>r x l u H3 Q):Ub r te tl th σ H Q:=h
def afP{QO:Option Int->aA->Prop}(q:QO none H):Wl σ H QO:=q
def ptk(x:D)(H1:aA)(QO:Option Int->aA->Prop):Prop:=match x with
 |.int i=>QO (some i) H1
 |_=>False
def afi{QO:Option Int->aA->Prop}(h:te σ H λx H1=>ptk x H1 QO):UG te σ H QO:=h
def adK{QO:Option Int->aA->Prop}(q:QO (some i) H):ptk (.int i) H QO:=q
def adi{lo hi:Option Int}(q:∀p,H p=none->Q (.ref p) (au H p (.lst (iG ds lo hi)))):Fi (.fl ds) lo hi H Q:=q
def acA{lo hi:Option Int}(ha:H a=some (.lst ds))(q:∀p,H p=none->Q (.ref p) (au H p (.lst (iG ds lo hi)))):Fi (.ref a) lo hi H Q:=by (delta Fi;simp only[ha]);exact q
def Yg(h:t { D0 with nx:=u D0 } σ H):aV t u D0 σ H:=h
def aef{k:Nat}(h:te σ H λx H1=>D0.nx (σ.set k (some x)) H1):st3 k te D0 σ H:=h
def adY(h:D0.nx σ H):nU D0 σ H:=h
def afv(h:te σ H λ_ H1=>D0.nx σ H1):O8 te D0 σ H:=h
def adV(h:te σ H λd H1=>D0.rt d H1):dD te D0 σ H:=h
def acE(h:cA σ H λb H1=>if b=true then t D0 σ H1 else u D0 σ H1):nZ cA t u D0 σ H:=h
def ae5{g:um}(h:te σ H λx H1=>g x σ H1 D0.nx):as3 te g D0 σ H:=h
def afa{k:Nat}{R:cD->aA->Prop}(h:R (σ.set k (some d)) H):jB k d σ H R:=h
def acy{k l:Nat}{R:cD->aA->Prop}(h:R ((σ.set k (some x)).set l (some y)) H):Fy k l (.tup [x,y]) σ H R:=h
def afK{k l m:Nat}{z:D}{R:cD->aA->Prop}(h:R (((σ.set k (some x)).set l (some y)).set m (some z)) H):Zu k l m (.tup [x,y,z]) σ H R:=h
def GZ{n:cD->aA->Prop}{r:bL}{bk ct:cD->aA->Prop}(h:n σ H):cX.nx ⟨n,r,bk,ct⟩ σ H:=h
def afu{n:cD->aA->Prop}{r:bL}{bk ct:cD->aA->Prop}(h:r d H):cX.rt ⟨n,r,bk,ct⟩ d H:=h
def aed{n:cD->aA->Prop}{r:bL}{bk ct:cD->aA->Prop}(h:bk σ H):cX.bk ⟨n,r,bk,ct⟩ σ H:=h
def afG{n:cD->aA->Prop}{r:bL}{bk ct:cD->aA->Prop}(h:ct σ H):cX.ct ⟨n,r,bk,ct⟩ σ H:=h
def aJ{H':aA}(h:Q d H')(s:aq H' H):cX.rt (Ec Q) d H:=⟨H',s,h⟩
def Lp(g:um)(tb:bC)(D0:cX)(σ:cD)(ds:List D)(keep:aA->Prop)(H1:aA):Prop:=∃P:Nat->cD->aA->Prop,P 0 σ H1/\(∀i σ H,i<=ds.length->P i σ H->keep H) /\
 (∀i d σ H,ds[i]?=some d->P i σ H->g d σ H λσ2 H2=>tb { D0 with nx:=P (i+1),ct:=P (i+1),bk:=D0.nx } σ2 H2)/\∀σ H,P ds.length σ H->D0.nx σ H
def ae1{wi:wI}{g:um}(h:wi σ H λds keep H1=>Lp g t D0 σ ds keep H1):xf wi g t D0 σ H:=h
def Lp.by{g:um}{keep:aA->Prop}(P:Nat->cD->aA->Prop)(h0:P 0 σ H)(hk:∀i σ H,i<=ds.length->P i σ H->keep H)
  (turn:∀i d σ H,ds[i]?=some d->P i σ H->g d σ H λσ2 H2=>t { D0 with nx:=P (i+1),ct:=P (i+1),bk:=D0.nx } σ2 H2) (fin:∀σ H,P ds.length σ H->D0.nx σ H):Lp g t D0 σ ds keep H:=⟨P,h0,hk,turn,fin⟩
def Lp.jZ{g:um}{lo:Int}(P:Nat->cD->aA->Prop)(h0:P 0 σ H)
  (turn:∀(i:Nat) σ H,i<n->P i σ H->g (.int (lo+(i:Int))) σ H λσ2 H2=>t { D0 with nx:=P (i+1),ct:=P (i+1),bk:=D0.nx } σ2 H2) (fin:∀σ H,P n σ H->D0.nx σ H):Lp g t D0 σ (jZ lo n) (λ_=>True) H :=
 ⟨P,h0,λ_ _ _ _ _=>trivial,λi d σ H hd p=>by
  have hi:i<n:=by
   have:=(cE.mp hd).1
   rwa [tZ] at this
  rw[Ka hi] at hd
  cases hd
  exact turn i σ H hi p,λσ H p=>fin σ H (by rw[tZ] at p;exact p)⟩
def Lp.heap{g:um}{keep:aA->Prop}(F:aA->Prop)(hF:F H)(h:∀H',F H'->Lp g t D0 σ ds keep H'):Lp g t D0 σ ds keep H:=h H hF
def acR{R:List D->(aA->Prop)->aA->Prop}(h:ta σ H λx H1=>rg1 x H1 R):Uz ta σ H R:=h
def acL{R:List D->(aA->Prop)->aA->Prop}(h:ta σ H λx H1=>tb σ H1 λy H2=>rg2 x y H2 R):Zo ta tb σ H R:=h
def ac7{R:List D->(aA->Prop)->aA->Prop}(h:R (jZ 0 j.toNat) (λ_=>True) H):rg1 (.int j) H R:=h
def acO{R:List D->(aA->Prop)->aA->Prop}(h:R (jZ i (j-i).toNat) (λ_=>True) H):rg2 (.int i) (.int j) H R:=h
def ilk(x:D)(H1:aA)(R:List D->(aA->Prop)->aA->Prop):Prop:=match x with
 | .ref a => (match H1 a with
  |some (.lst ds)=>R ds (λH'=>H' a=some (.lst ds)) H1
  |_=>False)
 |.fl ds=>R ds (λ_=>True) H1
 |_=>False
def itk(x:D)(H1:aA)(R:List D->(aA->Prop)->aA->Prop):Prop:=match x with
 |.tup ds=>R ds (λ_=>True) H1
 |_=>False
def aeY{R:List D->(aA->Prop)->aA->Prop}(h:te σ H λx H1=>ilk x H1 R):wH te σ H R:=h
def acJ{R:List D->(aA->Prop)->aA->Prop}(ha:H a=some (.lst ds))(h:R ds (λH'=>H' a=some (.lst ds)) H):ilk (.ref a) H R:=by (delta ilk;simp only[ha]);exact h
def adb{R:List D->(aA->Prop)->aA->Prop}(h:R ds (λ_=>True) H):ilk (.fl ds) H R:=h
def afO{R:List D->(aA->Prop)->aA->Prop}(h:te σ H λx H1=>itk x H1 R):Vq te σ H R:=h
def acU{R:List D->(aA->Prop)->aA->Prop}(h:R ds (λ_=>True) H):itk (.tup ds) H R:=h
def WN(P:cD->aA->Prop)(μ:cD->aA->Nat)(h0:P σ H)(turn:∀σ H,P σ H->cA σ H λb H1=>if b=true then t { D0 with nx:=λσ' H'=>P σ' H'/\μ σ' H'<μ σ H,ct:=λσ' H'=>P σ' H'/\μ σ' H'<μ σ H,bk:=D0.nx } σ H1 else D0.nx σ H1):wh3 cA t D0 σ H:=⟨P,μ,h0,turn⟩
def mtk(r:D->List D->aA->bL->Prop)(t:qG)(σ:cD)(x:D)(H1:aA)(Q:bL):Prop:=match x with
 | .ref a => (match H1 a with
  |some (.lst _)=>t σ H1 λxs H2=>r x xs H2 Q
  |_=>False)
 |_=>False
def aft{r:D->List D->aA->bL->Prop}(h:te σ H λx H1=>mtk r tr σ x H1 Q):m3 r te tr σ H Q:=h
def adn{r:D->List D->aA->bL->Prop}(ha:H a=some (.lst ds))(h:tr σ H λxs H2=>r (.ref a) xs H2 Q):mtk r tr σ (.ref a) H Q:=by (delta mtk;simp only[ha]);exact h
def Eb(ha:H a=some (.lst ds))(hl:ds.length<cf)(q:Q .non (au H a (.lst (ds++[y])))):nO (.ref a) [y] H Q:=by (delta nO;simp only[ha]);exact⟨hl,q⟩
def Kf(ha:H a=some (.lst ds))(hb:H b=some (.lst es))(hl:ds.length+es.length<=cf)(q:Q .non (au H a (.lst (ds++es)))):qt (.ref a) [.ref b] H Q:=by (delta qt;simp only[ha,hb]);exact⟨hl,q⟩
def YX(ha:H a=some (.lst ds))(hi:0<=i/\i<=ds.length)(hl:ds.length<1000)(q:Q .non (au H a (.lst (ds.take i.toNat++y::ds.drop i.toNat)))):yE (.ref a) [.int i,y] H Q:=by
 (delta yE;simp only[ha]);exact⟨⟨hi,hl⟩,q⟩
def JQ(ha:H a=some (.lst ds)):tK H (.ref a)=some ds:=by (delta tK;simp only[ha])
def Yv{U T:String}(h:tyH H x=some U)(hT:T∈kinds)(q:Q (.bl (isT U T)) H):iT [x,.ty T] H Q:=by
 (delta iT;simp only[h]);exact⟨hT,q⟩
def jK{α:Type}{xs:List α}{f:α->D}{k:Int}(h0:0<=k)(h1:k.toNat<xs.length):jU (xs.map f) k=some (f (xs[k.toNat]'h1)):=by
 have J:k<((xs.map f).length:Int):=by rw[ae];omega
 unfold jU Ov
 rw[if_pos h0,if_pos J,i9,ay,aS h1]
 rfl
theorem Sg:∀ps:List Pt,gk (mO 4) (ps.map aO)=some (ps.map λp=>kr [.int p.1,.int p.2])
 |[]=>rfl
 |p::ps=>by
  have e:mO 4 (aO p)=some (kr [.int p.1,.int p.2]):=rfl
  simp only[aE,gk,e,Sg ps]
def aaF(p q:Pt):fg (kr [.int p.1,.int p.2]) (kr [.int q.1,.int q.2])=decide (p=q):=by
 obtain⟨a,b⟩:=p
 obtain⟨c,d⟩:=q
 simp only[fg,g9,xE,si,DA];rfl
theorem RD(p:Pt):∀ps:List Pt,(ps.map λp=>kr [.int p.1,.int p.2]).any (λq=>fg q (kr [.int p.1,.int p.2]))=decide (p∈ps)
 |[]=>by simp
 |q::ps=>by
  rw[aE,nI,RD p ps,aaF]
  by_cases h:q=p
  ·subst h;simp
  ·have h':¬p=q:=λe=>h e.symm
   simp[h,h']
def aaX{p1 p2:Int}{ps:List Pt}(h:tK H y=some (ps.map aO))(q:Q (.bl (!decide ((p1,p2)∈ps))) H):wQ true (.tup [.int p1,.int p2]) y H Q:=by
 have e:mO 4 (.tup [.int p1,.int p2])=some (kr [.int p1,.int p2]):=rfl
 (delta wQ;simp only[e,h,i9,Sg])
 rw[←RD (p1,p2) ps] at q
 exact q
def Cp(g:um)(tc:tG)(te:bK)(σ0:cD)(ds:List D)(keep:aA->Prop)(H1:aA)(Q:bL):Prop:=(∀H2:aA,aq H1 H2->keep H2)/\ds.length<=10000/\∃rs:List (Option D),rs.length=ds.length /\
 (∀ (i:Nat) (d:D),ds[i]? = some d→∀ H2:aA,aq H1 H2→g d σ0 H2 λσ2 H4 => tc σ2 H4 λb H5 =>
  if b=true then te σ2 H5 λv H6=>aq H2 H6/\rs[i]?=some (some v) else aq H2 H5/\rs[i]?=some none) /\
 ∀p,H1 p=none->Q (.ref p) (au H1 p (.lst (rs.filterMap id)))
def aeV(own:List Str)(fv:FV)(σ:cD):cD:=own.map (λ_=>none)++fv.map λp=>(σ[p.1]?).join
def aek{wi:wI}{g:um}{own:List Str}{fv:FV}(h:wi σ H λds keep H1=>Cp g cA te (aeV own fv σ) ds keep H1 Q):oN wi g cA te own fv σ H Q:=h
def acN(q:QB true H):jd σ H QB:=q
def Cp.abK{α:Type}{g:um}{keep:aA->Prop}{σ0:cD}{as:List α}{E:α->D}(F:α->D)(T:α->Bool)(hk:∀H2:aA,aq H H2->keep H2)(hl:as.length<=1000)
  (hel:∀(i:Nat) a,as[i]?=some a->∀(R1:bL) (R0:aA->Prop) (H2:aA),aq H H2->(T a=true->∀H6,aq H2 H6->R1 (F a) H6)->(T a=false->∀H6,aq H2 H6->R0 H6)->g (E a) σ0 H2 λσ2 H4=>cA σ2 H4 λb H5=>if b=true then te σ2 H5 R1 else R0 H5)
  (fin:∀p,H p=none->Q (.ref p) (au H p (.lst ((as.filter T).map F)))):Cp g cA te σ0 (as.map E) keep H Q:=by
 refine⟨hk,by rw[ae];exact ft hl (by decide),as.map (λa=>if T a=true then some (F a) else none),by simp,λi d hd H2 hs=>?_,λp Y=>?_⟩
 ·rw[ay] at hd
  cases e:as[i]? with
  |none=>rw[e] at hd;cases hd
  |some a=>
   rw[e] at hd
   cases hd
   have U:(as.map λa=>if T a=true then some (F a) else none)[i]?=some (if T a=true then some (F a) else none):=by rw[ay,e];rfl
   exact hel i a e _ _ H2 hs (λJ H6 O=>⟨O,by rw[U,if_pos J]⟩) λJ H6 O=>⟨O,by rw[U,if_neg (by rw[J];exact ff)]⟩
 ·have e:∀as:List α,(as.map λa=>if T a=true then some (F a) else none).filterMap id=(as.filter T).map F:=by
   intro as
   induction as with
   |nil=>rfl
   |cons a as ih=>
    rw[aE,lx]
    cases h:T a with
    |true=>rw[ke h,aE,←ih];rfl
    |false=>rw[kg (by simp[h]),←ih];rfl
  rw[e]
  exact fin p Y
def Cp.map{α:Type}{g:um}{keep:aA->Prop}{σ0:cD}{as:List α}{E:α->D}(F:α->D)(hk:∀H2:aA,aq H H2->keep H2)(hl:as.length<=1000)
  (hel:∀(i:Nat) a,as[i]?=some a->∀(R:bL) (H2:aA),aq H H2->(∀H6,aq H2 H6->R (F a) H6)->g (E a) σ0 H2 λσ2 H4=>te σ2 H4 R)
  (fin:∀p,H p=none->Q (.ref p) (au H p (.lst (as.map F)))):Cp g jd te σ0 (as.map E) keep H Q:=by
 refine⟨hk,by rw[ae];exact ft hl (by decide),as.map (λa=>some (F a)),by simp,λi d hd H2 hs=>?_,λp J=>?_⟩
 ·rw[ay] at hd
  cases e:as[i]? with
  |none=>rw[e] at hd;cases hd
  |some a=>
   rw[e] at hd
   cases hd
   have O:(as.map λa=>some (F a))[i]?=some (some (F a)):=by rw[ay,e];rfl
   exact hel i a e _ H2 hs λH6 U=>⟨U,O⟩
 ·have e:∀as:List α,(as.map λa=>some (F a)).filterMap id=as.map F:=by
   intro as
   induction as with
   |nil=>rfl
   |cons a as ih=>rw[aE,lx,aE,←ih];rfl
  rw[e]
  exact fin p J
def Cp.pA{α:Type}{g:um}{keep:aA->Prop}{σ0:cD}{as:List α}{E:α->D}(f:α->Pt)(hk:∀H2:aA,aq H H2->keep H2)(hl:as.length<=1000)
  (hel:∀(i:Nat) a,as[i]?=some a->∀(R:bL) (H2:aA),aq H H2->(∀H6,aq H2 H6->R (.tup [.int (f a).1,.int (f a).2]) H6)->g (E a) σ0 H2 λσ2 H4=>te σ2 H4 R)
  (fin:∀p,H p=none->Q (.ref p) (au H p (.lst ((as.map f).map aO)))):Cp g jd te σ0 (as.map E) keep H Q :=
 Cp.map (λa=>aO (f a)) hk hl hel λp J=>by have:=fin p J;rw[dP] at this;exact this
def ac9{k l:Bool}(q:Q (.bl (k==l)) H):jf (.bl k) (.bl l) H Q:=by
 (delta jf Hf;simp only[adq,fg]);exact q
def CN{α:Type}(xs:List α)(f:α->D)(lo hi:Option Int):iG (xs.map f) lo hi=(iG xs lo hi).map f:=by
 unfold iG;rw[ae,xI,BE]
def zA{p A B:Prop}[Decidable p](h1:p->A)(h2:¬p->B):if decide p=true then A else B:=by
 by_cases h:p
 ·rw[if_pos (decide_eq_true h)];exact h1 h
 ·rw[if_neg (by simpa using h)];exact h2 h
def Pz{p A B:Prop}[Decidable p](h1:¬p->A)(h2:p->B):if (!decide p)=true then A else B:=by
 by_cases h:p
 ·rw[if_neg (by simpa using h)];exact h2 h
 ·rw[if_pos (by simpa using h)];exact h1 h
def ifB{c:Bool}{A B:Prop}(h1:c=true->A)(h2:c=false->B):if c=true then A else B:=by
 cases c
 ·rw[if_neg ff];exact h2 rfl
 ·rw[if_pos rfl];exact h1 rfl
def ifY{c:Bool}{A B:Prop}(hc:c=true)(h:A):if c=true then A else B:=by rw[if_pos hc];exact h
def xu{c:Bool}{A B:Prop}(hc:c=false)(h:B):if c=true then A else B:=by subst hc;exact h
end
end L3
namespace L3
open PySem PySem.W PyProof.Rows
end L3
namespace L3
open PySem PySem.Spec PySem.W PyProof.Rows
end L3
namespace L3
open PySem PySem.Spec PyProof.Rows L2
def Cx.Ym(X:Cx):Cx:={ X with A:=X.A.in1.in1,xe:=λ_ _=>False }
variable{X:Cx}
def Ok.Ym(k:X.Ok):(Cx.Ym X).Ok:=⟨k.mod,k.kind,k.glob,k.blt,k.above,k.inj,k.has,k.cab,k.hd,k.frames,k.stk,k.exf,k.bs,k.bsz,k.noex,k.exfs,k.qI,k.frf⟩
section
variable{X:Cx}{kL:List (aT×Obj)}{σ:St}{H H':Hp}{s:aw}
def Inv.Ym(I:Inv X kL σ H s):Inv (Cx.Ym X) kL σ H s:=⟨Ok.Ym I.ok,I.os,I.bare,I.base,I.loc,I.cell,I.free,I.freeC,I.pin,I.hok,I.len⟩
def Inv.aex(k:X.Ok)(I:Inv (Cx.Ym X) kL σ H s):Inv X kL σ H s:=⟨k,I.os,I.bare,I.base,I.loc,I.cell,I.free,I.freeC,I.pin,I.hok,I.len⟩
def Inv.adopt{D kS:aT}{xs:List V}{its:List af}{n:Nat}{h':fA}(I:Inv X kL σ H s)(fD:eY X kL H D)(fk:eY X kL H kS)(g:∀b o,b≠kS->b≠D->s.heap.get? b=some o->h'.get? b=some o)
  (hD:h'.get? D=some (MB "list" its.toArray n)) (hv:Vals xs its) (hz:xs.length<=cf):Inv X kL σ (upd H D (.lst xs)) { s with heap:=h' }:=by
 have U:∀b u,H b=some u->b≠D:=λb u e z=>by rw[z,fD.1] at e;cases e
 have Y:∀b u,H b=some u->b≠kS:=λb u e z=>by rw[z,fk.1] at e;cases e
 have out:∀b,b∉[kS,D]->b≠kS/\b≠D:=λb O=>⟨λz=>O (by simp[z]),λz=>O (by simp[z])⟩
 refine I.step (g':=s.gens) (d':=s.drawn) (t':=s.toks) (ch:=[kS,D]) (λb O=>?_) (λb o _ _ J e _=>g b o (out b J).1 (out b J).2 e) (λb o _ _ J e _=>⟨o.slots,g b o (out b J).1 (out b J).2 e⟩) (λb o J _ z=>by rw[aC (out b J).2];exact z) ?_
  (λb ys e=>by rw[aC (U b _ e)];exact e) (λb o u e=>by rw[aC (U b _ e)];exact e) (λb ps e=>⟨#[],by rw[aC (U b _ e),e];simp⟩) (λm Z=>?_) (λb u e=>?_) I.bare
 ·rcases br.mp O with z | O
  ·rw[z];exact⟨fk.2.2.2.1,fk.2.1,fk.2.2.2.2.1,fk.2.2.2.2.2⟩
  ·rw[bX.mp O];exact⟨fD.2.2.2.1,fD.2.1,fD.2.2.2.2.1,fD.2.2.2.2.2⟩
 ·exact λb o J e=>⟨o,g b o (out b J).1 (out b J).2 e⟩
 ·obtain⟨o,es,ep,ho,r⟩:=Z
  exact⟨o,es,ep,g _ o (mI fk.2.1) (mI fD.2.1) ho,r⟩
 ·by_cases O:b=D
  ·subst O
   rw[aZ] at e
   cases e
   exact⟨hz,its,n,hv,hD⟩
  ·rw[aC O] at e
   refine (I.hok b u e).stay (λc v J q=>?_) (λc q=>by rw[aC (U c _ q)];exact q) λc ys q=>by rw[aC (U c _ q)];exact q
   rcases J with z | z
   ·exact g c v (by rw[z];exact Y b u e) (by rw[z];exact O) q
   ·exact g c v (Y c _ z) (U c _ z) q
end
def Paired.snoc{α β:Type}{R:α->β->Prop}{as:List α}{bs:List β}{a:α}{b:β}(t:Paired R as bs)(h:R a b):Paired R (as++[a]) (bs++[b]):=by
 induction t with
 |nil=>exact .cons h .nil
 |cons r _ ih=>exact .cons r ih
def keysOf:List D->Option (List Key)
 |[]=>some []
 |.int i::ds=>(keysOf ds).map (zd i::·)
 |.str x::ds=>(keysOf ds).map (AY x::·)
 |_::_=>none
theorem gY{K:ag}{H:Hp}:∀ {ds:List D} {xs:List V} {ks:List Key},aK K H ds xs->keysOf ds=some ks->xs=ks.map kV
 |_,_,_,.nil,h=>by simp only[keysOf,k9] at h;subst h;rfl
 |_,_,_,.cons (d:=d) r t,h=>by
  cases r with
  |int i=>
   simp only[keysOf,cv] at h
   obtain⟨ms,h1,rfl⟩:=h
   rw[gY t h1];rfl
  |str i=>
   simp only[keysOf,cv] at h
   obtain⟨ms,h1,rfl⟩:=h
   rw[gY t h1];rfl
  |_=>simp[keysOf] at h
abbrev Tab:=List (List Key×D)
def j6(zp:Tab)(k:List Key):Option D:=(zp.find? λkv=>decide (kv.1=k)).map (·.2)
def dput(zp:Tab)(k:List Key)(d:D):Tab:=if (zp.any λkv=>decide (kv.1=k))=true then zp.map (λkv=>if kv.1=k then (kv.1,d) else kv) else zp++[(k,d)]
abbrev TR(K:ag)(H:Hp):Tab->List (List Key×V)->Prop:=Paired (λ(p:List Key×D) (q:List Key×V)=>p.1=q.1/\Rep K H p.2 q.2)
theorem TR.look{K:ag}{H:Hp}{k:List Key}:∀ {zp:Tab} {ks:List (List Key×V)},TR K H zp ks->(mR ks k).isSome=(j6 zp k).isSome/\∀d,j6 zp k=some d->∃v,mR ks k=some v/\Rep K H d v
 |_,_,.nil=>⟨rfl,λ_ h=>nomatch h⟩
 |_,_,.cons (a:=p) (b:=q) r t=>by
  have ih:=TR.look (k:=k) t
  by_cases e:p.1=k
  ·have J:q.1=k:=r.1.symm.trans e
   have O:∀rest:Tab,j6 (p::rest) k=some p.2:=λrest=>by unfold j6;rw[gT (by simpa using e)];rfl
   rw[lN J,O]
   exact⟨rfl,λd h=>⟨_,rfl,by cases h;exact r.2⟩⟩
  ·have J:¬q.1=k:=λz=>e (r.1.trans z)
   have O:∀rest:Tab,j6 (p::rest) k=j6 rest k:=λrest=>by unfold j6;rw[gi (by simpa using e)]
   rw[lE J,O]
   exact ih
theorem TR.any{K:ag}{H:Hp}{k:List Key}:∀ {zp:Tab} {ks:List (List Key×V)},TR K H zp ks->(zp.any λkv=>decide (kv.1=k))=ks.any λkv=>decide (kv.1=k)
 |_,_,.nil=>rfl
 |_,_,.cons r t=>by rw[nI,nI,TR.any t,r.1]
theorem TR.repl{K:ag}{H:Hp}{k:List Key}{d:D}{v:V}(rd:Rep K H d v):∀ {zp:Tab} {ks:List (List Key×V)},TR K H zp ks->TR K H (zp.map λkv=>if kv.1=k then (kv.1,d) else kv) (ks.map λkv=>if kv.1=k then (kv.1,v) else kv)
 |_,_,.nil=>.nil
 |_,_,.cons (a:=p) (b:=q) r t=>by
  refine .cons ?_ (TR.repl rd t)
  dsimp only
  by_cases e:p.1=k
  ·rw[if_pos e,if_pos (r.1.symm.trans e)];exact⟨r.1,rd⟩
  ·rw[if_neg e,if_neg (λz=>e (r.1.trans z))];exact r
variable{K:ag}{H:Hp}{zp:Tab}{ks:List (List Key×V)}
def TR.put{k:List Key}{d:D}{v:V}(r:TR K H zp ks)(rd:Rep K H d v):TR K H (dput zp k d) (putK ks k v):=by
 unfold dput putK
 rw[←TR.any r]
 split
 ·exact TR.repl rd r
 ·exact Paired.snoc r ⟨rfl,rd⟩
def TR.mono{H':Hp}(t:TK H H')(r:TR K H zp ks):TR K H' zp ks:=Paired.pA r λ_ _ z=>⟨z.1,z.2.mono t⟩
def HR.aax{H3:aA}(h:HR K H3 H){p:aT}(t:TK H (upd H p (.dT ks)))(r:TR K (upd H p (.dT ks)) zp ks):HR K (au H3 p (.dic zp)) (upd H p (.dT ks)):=h.set (o3:=.dic zp) t ⟨ks,aZ,r⟩
def KD(neg:Bool):R3:=λx y H Q=>match x,y with
 | .tup ds,.ref a => (match keysOf ds,H a with
  |some k,some (.dic zp)=>Q (.bl (if neg then !(j6 zp k).isSome else (j6 zp k).isSome)) H
  |_,_=>False)
 |_,_=>False
def dB(neg:Bool):R3:=λx y H Q=>wQ neg x y H Q\/KD neg x y H Q
section
variable{X:Cx}
def Vt(hu:X.A.units+64<lP):ir X (iA .In) (bN X.K (dB false)):=by
 intro kL s σ H x y v u Q I U Y h
 obtain⟨dx,dy,H3,Z,hr,J,O,t,k⟩:=h
 rcases t with t | t
 ·exact Zc hu kL s σ H x y v u Q I U Y ⟨dx,dy,H3,Z,hr,J,O,t,k⟩
 ·cases J with
  |tup ha ra=>
   cases O with
   |ref a=>
    (delta KD at t;dsimp only at t)
    split at t
    ·rename_i ks zp e1 e2
     obtain⟨vs,gd,rd⟩:=hr a _ e2
     cases Y
     have ex:=gY ra e1
     subst ex
     refine afg (by omega) I (qY.t gd ha) U λs' I'=>⟨.bl _,H,I',rfl,?_⟩
     rw[(TR.look (k:=ks) rd).1]
     exact k _ _ _ _ TK.refl hr (.bl _) t
    ·exact t.elim
   |_=>exact t.elim
  |_=>exact t.elim
def uR(hu:X.A.units+64<lP):ir X (iA .NotIn) (bN X.K (dB true)):=by
 intro kL s σ H x y v u Q I U Y h
 obtain⟨dx,dy,H3,Z,hr,J,O,t,k⟩:=h
 rcases t with t | t
 ·exact Ma hu kL s σ H x y v u Q I U Y ⟨dx,dy,H3,Z,hr,J,O,t,k⟩
 ·cases J with
  |tup ha ra=>
   cases O with
   |ref a=>
    (delta KD at t;dsimp only at t)
    split at t
    ·rename_i ks zp e1 e2
     obtain⟨vs,gd,rd⟩:=hr a _ e2
     cases Y
     have ex:=gY ra e1
     subst ex
     refine Xi (by omega) I (qY.t gd ha) U λs' I'=>⟨.bl _,H,I',rfl,?_⟩
     rw[(TR.look (k:=ks) rd).1]
     exact k _ _ _ _ TK.refl hr (.bl _) t
    ·exact t.elim
   |_=>exact t.elim
  |_=>exact t.elim
def dpk(v x y:D)(σ:cD)(H:aA)(R:cD->aA->Prop):Prop:=match x,y with
 | .ref a,.tup ds => (match keysOf ds,H a with
  |some k,some (.dic zp)=>zp.length<1000/\R σ (au H a (.dic (dput zp k v)))
  |_,_=>False)
 |_,_=>False
def Uv(td ty tv:bK):bC:=λD0 σ H=>tv σ H λv H1=>td σ H1 λx H2=>ty σ H2 λy H3=>dpk v x y σ H3 D0.nx
def Xh{o i value:eT}{td ty tv:bK}{pos pos':Pos}(hu:X.A.units+64<lP)(ho:aF X o td)(hi:aF X i ty)(hv:aF X value tv)(hs:tf value (some (.Subscript o i pos')) pos.line X.env=pure false:=by rfl) :
  qg X (.Assign [.Subscript o i pos'] value pos) (Uv td ty tv) :=
 gZ (WY (by omega) ho hi hv hs) λD0 σ H zz=>zz.ex λac H3 D3 sr hr t k=>⟨ac,H3,_,sr,hr,t,λdv v al Ha J am rv qa=>⟨ac,al,_,sr.mono J,am,qa,λdx x ap Hb O a0 rx qb=>⟨ac,ap,_,(sr.mono J).mono O,a0,qb,λdy y a1 Hc Y Z ry U=>by
  cases rx with
  |ref a=>
   cases ry with
   |tup hb rb=>
    (delta dpk at U;dsimp only at U)
    split at U
    ·rename_i ks zp e1 e2
     obtain⟨vs,gd,rd⟩:=Z a _ e2
     have ex:=gY rb e1
     subst ex
     obtain⟨hl,U⟩:=U
     refine⟨a,_,rfl,Sx.t gd hb (by rw[←Paired.length rd];exact rJ (kn hl)),?_⟩
     have tt:=TK.dT (o:=.dT (putK vs ks v)) gd
     exact k.nx _ _ _ _ ((J.trans (O.trans Y)).trans tt) ((((sr.mono J).mono O).mono Y).mono tt) (Z.aax tt (TR.put (TR.mono tt rd) (((rv.mono O).mono Y).mono tt))) U
    ·exact U.elim
   |_=>exact U.elim
  |_=>exact U.elim⟩⟩⟩
def dn3:bK:=λ_ H Q=>∀p,H p=none->Q (.ref p) (au H p (.dic []))
def Yb{pos:Pos}:aF X (.Dict [] [] pos) dn3:=aY QQ λ_ _ _ ⟨_,_,_,_,hr,t,k⟩=>λp n=>k _ _ _ _ (TK.fresh n) (hr.aax (TK.fresh n) .nil) (.ref p) (t p (hr.fresh n))
def NZ{kL:List (aT×Obj)}{σ:St}{s:aw}{a b:aT}{zp:List (List Key×V)}{k:List Key}{v:V}{r:af}{A:gu}{E:af->aw->Prop}{Q:Unit->aw->Prop}(hu:A.units<lP)(I:Inv X kL σ H s)(e:H a=some (.dT zp))(eb:H b=some (.tup (k.map kV)))
  (l:zp.length<cf) (rv:RelV v r) (h:∀s',Inv X kL σ (upd H a (.dT (putK zp k v))) s'->Q () s'):a9 (cy X.prog X.w) A (dictSet a (.ref b) r) Q E s:=by
 obtain⟨z,hd,xs,J,Z⟩:=Qu I.hok e
 have hz:xs.length<=cf:=by rw[←Paired.length J];exact z
 have hl:(putK zp k v).length<=cf:=ft (fP zp k v) l
 refine wpAny_dictSet_heap (knd:=B3 (bA X.prog X.w)) (hsz:=hz) hu (rm I.hok eb) Z λh' O hs=>h _ ?_
 obtain⟨q,es,ep,U,h2,h3,h4,_,h5⟩:=O
 exact ur I (by rw[e];exact mf) hs ⟨q,U⟩ ⟨hl,hd,_,(J.put k eb rv).keeps λc ys Y=>by rw[aC (j4 Y e (λz=>nomatch z))];exact Y,q,es,ep,U,h2,h3,h4,h5⟩
end
def ra3:bC:=λ_ _ _=>False
def Sv{st:rj}:qg X st ra3:=λ_ _ _ _ _ _ h=>by obtain⟨_,_,_,_,_,t,_⟩:=h;exact t.elim
section
variable{prog:cw}{w:da}{A:gu}{E:af->aw->Prop}{s:aw}
def Ax:xw (.type "list") "keys" = pure none:=am_miss_of_fast (by kernel_rfl)
def M4{a:aT}{o:Obj}{xs:Array af}{k:Nat}{Q:Option af->aw->Prop}(hx:s.heap.get? a=some o)(hc:o.cls=.type "list")(hdat:o.data=.seq xs k)(hd:o.dict=none)(hA:A.handled=none)
  (h:∀h' tk,(∀b ob,s.heap.get? b=some ob->h'.get? b=some ob)->Q none { s with heap:=h',toks:=tk }):a9 (cy prog w) A (getAttr? (.ref a) "keys") Q E s:=by
 obtain⟨c,Y,Z,sl⟩:=o
 simp only at hc hdat hd;subst hc hdat hd
 obtain⟨hp,g,d,tk,os⟩:=s
 have U:∀J,(⟨hp,g,d,J,os⟩:aw).TypeIs (.ref a) "list":=λ_=>⟨_,hx,rfl⟩
 have f1:=sub_AttributeError;have f3:=vi.lookup;have f4:=vi.bind (.ref a);have f5:=am_list_getattr_none
 unfold getAttr? getAttrBy? getAttrBy
 repeat (any_goals (first | assumption | exact U _ | ((with_reducible show a9 _ _ (call (Value.builtin "list.__getattribute__") _ _) _ _ _);refine F4 vi (U _) am_entry_list_getattribute (F.args_list_getattribute_2 _ _) (meets_getattribute_miss_list a xs k sl "keys" _ Ax (by decide) (by decide)) ⟨hx,hA,λh' J e O=>?_⟩) | wp_step))
 obtain⟨t',u',he⟩:=id O.there
 show a9 _ _ (F6 _ _ _ _ _ _ _) _ _ _
 unfold F6
 repeat (any_goals (first | assumption | wp_step))
 all_goals exact h _ _ O.keeps
def rZ:EA OS "dict.update.loop" = some md.«dict.update.loop»:=B9 (by kernel_rfl)
def iH:plainId "dict.update.loop" = true:=by decide +kernel
end
def mH(H:Hp):List V->List (List Key×V)->Prop:=Paired λv p=>∃t b,v=.ref t/\H t=some (.tup [.ref b,p.2])/\H b=some (.tup (p.1.map kV))
variable{vs:List V}{ps:List (List Key×V)}
def mH.mono{H':Hp}(t:∀b xs,H b=some (.tup xs)->H' b=some (.tup xs))(h:mH H vs ps):mH H' vs ps:=Paired.pA h λ_ _ ⟨a,b,e,h1,h2⟩=>⟨a,b,e,t _ _ h1,t _ _ h2⟩
theorem Paired.YZ{α β:Type}{R:α->β->Prop}:∀ {as:List α} {bs:List β} {i:Nat} {a:α},Paired R as bs->as[i]?=some a->∃b,bs.drop i=b::bs.drop (i+1)/\R a b
 |_,_,_,_,.nil,e=>by simp at e
 |_,_,0,_,.cons r _,e=>by simp at e;subst e;exact⟨_,rfl,r⟩
 |_,_,i+1,a,.cons _ t,e=>by
  obtain⟨b,h1,h2⟩:=Paired.YZ (i:=i) (a:=a) t (by simpa using e)
  exact⟨b,by simpa using h1,h2⟩
section
variable{X:Cx}{kL:List (aT×Obj)}{σ:St}
theorem N6{A:gu}{R:CL->aw->Prop}{it a d:aT}(hA:X.A=A.in1)(hc:X.calm=true)(hu:A.units+2<lP):∀(k i:Nat) (tk:Tok) (s:aw) (H:Hp) (zp:List (List Key×V)),vs.length-i=k->i<=vs.length ->
  Inv X kL σ H s->s.heap.IsListIter it a i->eY X kL H it->H a=some (.lst vs)->H d=some (.dT zp)->zp.length+(vs.length-i)<=2000->mH H vs ps ->
  (∀s' kvs',kvs'=(ps.drop i).foldl (λacc kv=>putK acc kv.1 kv.2) zp->Inv X kL σ (upd H d (.dT kvs')) s'->R (.ok (.ret .none)) s') ->
  rq (cy X.prog X.w) A (.builtin "dict.update.loop" ⟨[.ref d,.ref it,.int (i:Int) tk,.none],[]⟩) R s:=by
 intro k
 induction k with
 |zero=>
  intro i tk s H zp hk hi I st fi Y hd hl hp hR
  refine ij rZ ?_
  rw[gp iH _]
  show a9 _ A.in1 (l9 (.ref it) >>= _) _ _ s
  obtain⟨its,rv,p,hz⟩:=I.list (cV.of Y)
  have a1:=rv.length
  have a2:=Paired.length hp
  obtain⟨f0,f1,f2,f3,f4,f5⟩:=fi
  have hh:A.in1.handled=none:=by rw[←hA];exact I.ok.hd hc
  refine ab (xi hh st p.isList (by simp;grind) λh' eb=>?_)
  have Z:Inv X kL σ H { s with heap:=h' }:=I.turned (t':=s.toks) (λb o hb e=>eb b o hb e) f0 f1 f3 f4 f5
  refine ab (m:=MY d []) (av (av (hR _ zp ?_ ?_)))
  ·rw[List.drop_eq_nil_of_le (by grind)];rfl
  ·have:upd H d (.dT zp)=H:=by
    funext b
    unfold upd
    split
    ·rename_i e;rw[e,hd]
    ·rfl
   rw[this];exact Z
 |succ k ih=>
  intro i tk s H zp hk hi I st fi Y hd hl hp hR
  refine ij rZ ?_
  rw[gp iH _]
  show a9 _ A.in1 (l9 (.ref it) >>= _) _ _ s
  obtain⟨its,rv,p,hz⟩:=I.list (cV.of Y)
  have J:i<vs.length:=by grind
  obtain⟨U,ac,t,b,ev,ht,hb⟩:=Paired.YZ hp (aS J)
  obtain⟨u,al,ru⟩:=rv.get (aS J)
  rw[ev] at ru
  cases ru
  obtain⟨f0,f1,f2,f3,f4,f5⟩:=fi
  refine ab (wb st p.isList (x:=.ref t) (by simpa using al) λh' am sb=>?_)
  have Z:Inv X kL σ H { s with heap:=h' }:=I.turned (t':=s.toks) (λb o hb e=>(sb.2 b hb).trans e) f0 f1 f3 f4 f5
  obtain⟨a3,rp,⟨ot,et,ct,nt,dt⟩,_⟩:=Z.tuple (jC.of (K:=X.K) ht)
  obtain⟨u1,u2,rfl,r1,r2⟩:=vals2 rp
  cases r1
  dsimp only
  refine ab (gz (ab (wpAny_tryCatch ?_)))
  unfold NU
  refine ab (we (T := "tuple") ⟨ot,et,ct⟩ ?_)
  rw[if_pos (by decide)]
  refine ab (iq et dt (av ?_))
  have ap:A.in1.units<lP:=by show A.units+1<lP;grind
  show a9 _ A.in1 (EO _ (dictSet d (.ref b) u2)) _ _ _
  obtain⟨oi,ei,ci,di⟩:=id am
  have Ip:Inv X (kL++[(it,oi)]) σ H { s with heap:=h' }:=Z.ud λq O=>by
   rcases ib.mp O with O | O
   ·exact Z.pin q (fx _ O)
   ·rw[bX.mp O]
    exact⟨ei,f0,f1,f2,λv z=>by rw[di] at z;cases z⟩
  refine gz (NZ ap Ip hd hb (by rw[lI];grind) r2 λs2 I2=>?_)
  have nd:∀c xs,H c=some (.tup xs)->upd H d (.dT (putK zp U.1 U.2)) c=some (.tup xs):=λc xs e=>by rw[aC (j4 e hd (λz=>nomatch z))];exact e
  have pi:=I2.pin (it,oi) (by simp)
  have a0:s2.heap.IsListIter it a (i+1):=⟨oi,pi.1,ci,di⟩
  have I3:Inv X kL σ (upd H d (.dT (putK zp U.1 U.2))) s2:=I2.ud λq O=>I2.pin q (by simp[O])
  have a4:=fP zp U.1 U.2
  refine av ⟨pT iH _,?_⟩
  refine ih (i+1) 0 s2 _ _ (by grind) J I3 a0 ⟨pi.2.1,f1,f2,f3,f4,f5⟩ (by rw[aC (j4 Y hd (λz=>nomatch z))];exact Y) aZ (by grind) (hp.mono nd) λs' kvs' ek I'=>hR s' kvs' ?_ ?_
  ·rw[ek,ac];rfl
  ·rw[Jo] at I';exact I'
theorem W0{s:aw}{a:aT}{Q:af->aw->Prop}(hc:X.calm=true)(hu:X.A.units+64<lP)(I:Inv X kL σ H s)(ha:H a=some (.lst vs))(hp:mH H vs ps)(hl:vs.length<=1000)
  (h:∀d s',H d=none->Inv X kL σ (upd H d (.dT (ps.foldl (λacc kv=>putK acc kv.1 kv.2) []))) s'->Q (.ref d) s'):a9 (cy X.prog X.w) X.A (call (.type "dict") [.ref a]) Q X.xe s:=by
 refine MC (Q₁:=λobj s₁=>obj=.ref s.heap.objs.size/\s₁={ s with heap:=s.heap.push { cls:=.type "dict",data:=.dict #[] } }) F.kt_called_dict (F.kt_typeCall_dict_1 _) F.entry_dict_init (kt_code_dict_new _ ⟨rfl,rfl⟩) λobj s₁ hq=>?_
 obtain⟨rfl,rfl⟩:=hq
 have nd:H s.heap.objs.size=none:=I.hok.fresh (a8 _)
 have Y:=I.laid (a:=s.heap.objs.size) (o:=.dT []) (h':=s.heap.push { cls:=.type "dict",data:=.dict #[] }) (t':=s.toks) (λ_ _ q=>ai _ q) (a8 _) (De s.heap I.big)
 have J:upd H s.heap.objs.size (.dT []) a=some (.lst vs):=by rw[aC (aX ha nd)];exact ha
 have Z:({ s with heap:=s.heap.push { cls:=.type "dict",data:=.dict #[] } }:aw).TypeIs (.ref s.heap.objs.size) "dict":=⟨_,ba _ rfl,rfl⟩
 obtain⟨its,rv,⟨o,n,eo,co,dk,U⟩,_⟩:=Y.list (cV.of J)
 have hh:X.A.in1.in1.handled=none:=I.ok.hd hc
 refine⟨Z,F.args_dict_init_2 _ _,?_⟩
 unfold md.«dict.__init__» MZ
 refine ab (ab (wpAny_notOrdered_dict Z ?_))
 show a9 _ _ (pure (s.heap.objs.size,[eB a])) _ _ _
 refine av ?_
 show a9 _ _ (Cb "dict.__init__" s.heap.objs.size (.ref a) [] .none) _ _ _
 unfold Cb
 refine ab (we (T := "list") ⟨o,eo,co⟩ ?_)
 rw[if_pos (by decide)]
 refine ab (M4 eo co U dk hh λh' tk kp=>?_)
 have O:=(Inv.Ym Y).kept (t':=tk) kp
 obtain⟨ac,am,p2,_⟩:=O.list (cV.of J)
 rw[if_pos (by rfl)]
 refine ab (xA ?_)
 refine ab (pj p2.isList ?_)
 have hn:=O.hok.fresh (a8 _)
 have I3:=O.kept (t':=tk) (h':=h'.push { cls:=.type "list_iterator",data:=.fields #[.ref a,.int 0 0] }) (λb ob q=>ai _ q)
 refine av ⟨pT iH _,?_⟩
 have ap:vs.length-0=vs.length:=rfl
 refine N6 (X:=Cx.Ym X) (it:=h'.objs.size) (a:=a) (vs:=vs) (ps:=ps) rfl hc (show X.A.units+1+2<lP by grind) vs.length 0 0 _ _ [] rfl (eD _) I3 ⟨_,ba _ rfl,rfl,rfl⟩ (O.wY (a8 _) hn) J aZ (by simp;grind) (hp.mono λb xs e=>by rw[aC (aX e nd)];exact e) λs' al ek I'=>⟨rfl,h _ s' nd ?_⟩
 rw[Jo,ek] at I'
 exact Inv.aex I.ok I'
end
def uG:List D->Option Tab
 |[]=>some []
 | .tup [.tup ks,y]::ds => (match keysOf ks,uG ds with
  |some k,some r=>some ((k,y)::r)
  |_,_=>none)
 |_::_=>none
def dfold(zp more:Tab):Tab:=more.foldl (λacc kv=>dput acc kv.1 kv.2) zp
theorem Kg{K:ag}{H:Hp}:∀ {ds:List D} {vs:List V} {tb:Tab},aK K H ds vs->uG ds=some tb->∃ps,mH H vs ps/\TR K H tb ps
 |_,_,_,.nil,h=>by simp only[uG,k9] at h;subst h;exact⟨[],.nil,.nil⟩
 |d::_,_,_,.cons r t,h=>by
  unfold uG at h
  split at h
  ·rename_i e;cases e
  ·rename_i e
   cases e
   split at h
   ·rename_i k r' e1 e2
    cases h
    obtain⟨ps,h1,h2⟩:=Kg t e2
    cases r with
    |tup ha ra=>
     cases ra with
     |cons q1 q2=>
      cases q2 with
      |cons q2 q3=>
       cases q3
       cases q1 with
       |tup hb rb=>
        have ex:=gY rb e1
        subst ex
        exact⟨(k,_)::ps,.cons ⟨_,_,rfl,ha,hb⟩ h1,.cons ⟨rfl,q2⟩ h2⟩
   ·cases h
  ·cases h
theorem TR.fold{K:ag}{H:Hp}:∀ {more:Tab} {ms:List (List Key×V)} {zp:Tab} {ks:List (List Key×V)},TR K H more ms->TR K H zp ks->TR K H (dfold zp more) (ms.foldl (λacc kv=>putK acc kv.1 kv.2) ks)
 |_,_,_,_,.nil,q=>q
 |_,_,_,_,.cons (a:=p) (b:=m) r t,q=>by
  have e:=TR.put (k:=p.1) q r.2
  have:=TR.fold t e
  unfold dfold at this ⊢
  rw[vj,vj,←r.1]
  exact this
def qT:List D->aA->bL->Prop:=λds H Q=>match ds with
 | [.ref a] => (match H a with
  | some (.lst xs) => (match uG xs with
   |some tb=>xs.length<=1000/\∀p,H p=none->Q (.ref p) (au H p (.dic (dfold [] tb)))
   |none=>False)
  |_=>False)
 |_=>False
def QD(hc:X.calm=true)(hu:X.A.units+64<lP):d8 X (.type "dict") (jm X.K qT):=by
 intro kL s σ H xs us Q I O h
 obtain⟨ds,H3,Q3,hr,U,t,k⟩:=h
 cases U with
 |nil=>exact t.elim
 |cons r1 r2=>
  cases r2 with
  |cons _ _=>cases r1 <;> exact t.elim
  |nil=>
   cases r1 with
   |ref a=>
    (delta qT at t;dsimp only at t)
    split at t
    ·rename_i xs Y
     split at t
     ·rename_i tb Z
      obtain⟨vs,ga,J⟩:=hr a _ Y
      obtain⟨u,rfl,ru⟩:=vals1 O
      cases ru
      obtain⟨ps,h1,h2⟩:=Kg J Z
      refine W0 hc hu I ga h1 (by rw[←J.length];exact t.1) λd s' nd I'=>⟨.ref d,_,I',rfl,?_⟩
      exact k _ _ _ _ (TK.fresh nd) (hr.aax (TK.fresh nd) (TR.mono (TK.fresh nd) (TR.fold h2 .nil))) (.ref d) (t.2 d (hr.fresh nd))
     ·exact t.elim
    ·exact t.elim
   |_=>exact t.elim
end L3
namespace L3
open PySem L2
def kP(c:Pt):List Key:=[zd c.1,zd c.2]
def Gz{a b:Pt}(h:kP a=kP b):a=b:=by
 unfold kP at h
 simp only[DB,Sum.inl.injEq,and_true] at h
 exact aI h.1 h.2
section
variable{σ:cD}{H:aA}{Q:bL}{D0:cX}{a p:aT}{x y:D}{ta tb te:bK}{p1 p2:Int}{ps:List Pt}
def Ad(h:tK H y=some (ps.map aO))(q:Q (.bl (!decide ((p1,p2)∈ps))) H):dB true (.tup [.int p1,.int p2]) y H Q:=.inl (aaX h q)
def acs(h:te σ H λv H1=>ta σ H1 λx H2=>tb σ H2 λy H3=>dpk v x y σ H3 D0.nx):Uv ta tb te D0 σ H:=h
def aeX(h:∀p,H p=none->Q (.ref p) (au H p (.dic []))):dn3 σ H Q:=h
end
end L3
namespace L3
open PySem PySem.Spec PyProof.Rows L2
def boolsOf:List D->Option (List Bool)
 |[]=>some []
 |.bl b::ds=>(boolsOf ds).map (b::·)
 |_::_=>none
def Cy(bs:List Bool):boolsOf (bs.map D.bl)=some bs:=by
 induction bs with
 |nil=>rfl
 |cons b bs ih=>rw[aE,boolsOf,ih];rfl
theorem sH:∀ {ds:List D} {bs:List Bool},boolsOf ds=some bs->ds=bs.map D.bl
 |[],bs,h=>by cases h;rfl
 |d::ds,bs,h=>by
  cases d with
  |bl b=>
   rw[boolsOf,cv] at h
   obtain⟨cs,hc,rfl⟩:=h
   rw[sH hc];rfl
  |_=>cases h
def Tw(f:List Bool->Bool):List D->aA->bL->Prop:=λds H Q=>match ds with
 | [.ref a] => (match H a with
  | some (.lst xs) => (match boolsOf xs with
   |some bs=>Q (.bl (f bs)) H
   |none=>False)
  |_=>False)
 |_=>False
abbrev Eu:List D->aA->bL->Prop:=Tw λbs=>bs.all id
variable{H:aA}{Q:bL}
def abI{f:List Bool->Bool}{bs:List Bool}{a:aT}(ha:H a=some (.lst (bs.map D.bl)))(q:Q (.bl (f bs)) H):Tw f [.ref a] H Q:=by
 (delta Tw;simp only[ha,Cy]);exact q
def lets(z:Str):List D:=z.cps.toList.map λc=>D.str ⟨#[c]⟩
def iz3(te:bK):wI:=λσ H R=>te σ H λx H1=>match x with
 |.str z=>R (lets z) (λ_=>True) H1
 |_=>False
def izk(x:D)(H:aA)(R:List D->(aA->Prop)->aA->Prop):Prop:=match x with
 |.str z=>R (lets z) (λ_=>True) H
 |_=>False
variable{σ:cD}{R:List D->(aA->Prop)->aA->Prop}
def aeU{te:bK}(h:te σ H λx H1=>izk x H1 R):iz3 te σ H R:=h
variable{z:Str}
def adG(h:R (lets z) (λ_=>True) H):izk (.str z) H R:=h
def strsOf:List D->Option (List Str)
 |[]=>some []
 |.str b::ds=>(strsOf ds).map (b::·)
 |_::_=>none
def Jf(bs:List Str):strsOf (bs.map D.str)=some bs:=by
 induction bs with
 |nil=>rfl
 |cons b bs ih=>rw[aE,strsOf,ih];rfl
theorem vh:∀ {ds:List D} {bs:List Str},strsOf ds=some bs->ds=bs.map D.str
 |[],bs,h=>by cases h;rfl
 |d::ds,bs,h=>by
  cases d with
  |str b=>
   rw[strsOf,cv] at h
   obtain⟨cs,hc,rfl⟩:=h
   rw[vh hc];rfl
  |_=>cases h
def sI(z:Str)(ys:List Str):Str:=⟨(ys.drop 1).foldl (λacc p=>acc++z.cps++p.cps) (ys.headD ⟨#[]⟩).cps⟩
theorem xM(z:Str)(hz:z.cps=#[]):∀(ys:List Str) (acc:Array Nat),ys.foldl (λacc p=>acc++z.cps++p.cps) acc=acc++(ys.map λy=>y.cps.toList).flatten.toArray
 |[],acc=>by simp
 |y::ys,acc=>by rw[vj,xM z hz ys,hz];apply MA;simp
def OJ(hz:z.cps=#[])(ys:List Str):sI z ys=⟨(ys.map λy=>y.cps.toList).flatten.toArray⟩:=by
 unfold sI
 rw[xM z hz]
 cases ys with
 |nil=>simp
 |cons y ys=>simp
def Iv(hz:z.cps=#[])(cs:List Nat):sI z (cs.map λc=>⟨#[c]⟩)=⟨cs.toArray⟩:=by
 rw[OJ hz,dP]
 congr 2
 induction cs with
 |nil=>rfl
 |cons c cs ih=>simp only[aE,List.flatten_cons,ih];rfl
def lO:D->List D->aA->bL->Prop:=λx xs H Q=>match x,xs with
 | .str z,[.ref a] => (match H a with
  | some (.lst ds) => (match strsOf ds with
   |some ys=>(ys.map λy=>y.cps.size).sum+ys.length*z.cps.size<=16777216/\Q (.str (sI z ys)) H
   |none=>False)
  |_=>False)
 |_,_=>False
def mz3(r:D->List D->aA->bL->Prop)(to:bK)(t:qG):bK:=λσ H Q=>to σ H λx H1=>(match x with
 |.str _=>t σ H1 λxs H2=>r x xs H2 Q
 |_=>False)
def mzk(r:D->List D->aA->bL->Prop)(t:qG)(σ:cD)(x:D)(H1:aA)(Q:bL):Prop:=match x with
 |.str _=>t σ H1 λxs H2=>r x xs H2 Q
 |_=>False
variable{r:D->List D->aA->bL->Prop}
def afH{to:bK}{t:qG}(h:to σ H λx H1=>mzk r t σ x H1 Q):mz3 r to t σ H Q:=h
def ab2{t:qG}(h:t σ H λxs H2=>r (.str z) xs H2 Q):mzk r t σ (.str z) H Q:=h
def aa4{ys:List Str}{a:aT}(ha:H a=some (.lst (ys.map D.str)))(hl:(ys.map λy=>y.cps.size).sum+ys.length*z.cps.size<=16777216)(q:Q (.str (sI z ys)) H):lO (.str z) [.ref a] H Q:=by
 (delta lO;simp only[ha,Jf]);exact⟨hl,q⟩
def Dv(z:Str)(lo hi:Option Int):Str:=⟨(iG z.cps.toList lo hi).toArray⟩
def Cd:Zx:=λx lo hi H Q=>match x with
 |.str z=>z.length<=cf/\Q (.str (Dv z lo hi)) H
 |_=>False
def YG{lo hi:Option Int}(hl:z.length<=cf)(q:Q (.str (Dv z lo hi)) H):Cd (.str z) lo hi H Q:=⟨hl,q⟩
end L3
namespace L3
open PySem PySem.Spec PyProof.Rows PySem.Calls L2
section
variable{X:Cx}
theorem DG:∀ {bs:List Bool} {us:List af} {i:Nat} {v:af},Vals (bs.map V.bl) us->us[i]?=some v->∃b,bs[i]?=some b/\v=.bool b
 |[],_,i,v,.nil,e=>by simp at e
 |b::bs,_,0,v,.cons r t,e=>by
  simp at e;subst e
  exact⟨b,rfl,r⟩
 |b::bs,_,i+1,v,.cons r t,e=>by
  obtain⟨c,h1,h2⟩:=DG (bs:=bs) (i:=i) t (by simpa using e)
  exact⟨c,by simpa using h1,h2⟩
theorem aK.yJ{K:ag}{H:Hp}:∀ {bs:List Bool} {vs:List V},aK K H (bs.map D.bl) vs->vs=bs.map V.bl
 |[],_,.nil=>rfl
 |_::bs,_,.cons (.bl _) t=>by rw[aE,aK.yJ (bs:=bs) t]
def M6{h h':fA}{o:Obj}(hk:∀b x,b∉[h.objs.size]->(h.push o).get? b=some x->h'.get? b=some x)(b:aT)(x:Obj)(e:h.get? b=some x):h'.get? b=some x:=by
 refine hk b x (λJ=>?_) (ai _ e)
 rw[bX.mp J] at e
 exact absurd (b5 e) (nE _)
def Ld(hc:X.calm=true):d8 X (.builtin "all") (λxs H Q=>∃(a:aT) (bs:List Bool),xs=[.ref a]/\cV X.K H a (bs.map V.bl)/\Q (.bl (bs.all id)) H):=by
 intro kL s σ H xs us Q I r h
 obtain⟨a,bs,rfl,hq,q⟩:=h
 obtain⟨u,rfl,ru⟩:=vals1 r
 cases ru
 obtain⟨its,Z,pl,_⟩:=I.list hq
 have O:=pl.isList
 have U:a<s.heap.objs.size:=by obtain⟨_,e,_⟩:=O;exact b5 e
 have J:its.length=bs.length:=by have:=Z.length;rw[ae] at this;exact this.symm
 refine call_all_walk (pj O ?_)
 refine⟨s.heap.objs.size,[s.heap.objs.size,a],[s.heap.objs.size],its.toArray.size,_,_,λi=>(bs[i]?).getD true,rfl,
  Walks.list (A:=X.A.in1) (I.ok.hd hc) _ a (cx U) its.toArray,⟨⟨_,ba _ rfl,rfl,rfl⟩,O.push _⟩,?_,?_⟩
 ·intro i v s' Q' E' hP Y
  obtain⟨b,e,rfl⟩:=DG Z (i:=i) (v:=v) (by simpa using hP)
  dsimp only at Y
  rw[e,Option.getD_some] at Y
  exact sD Y
 ·intro h' tk hk
  rw[c6,J,LSm.range_all]
  exact⟨.bl (bs.all id),H,I.kept (M6 hk),rfl,q⟩
def Xr{id:String}{f:List Bool->Bool}(h:d8 X (.builtin id) (λxs H Q=>∃(a:aT) (bs:List Bool),xs=[.ref a]/\cV X.K H a (bs.map V.bl)/\Q (.bl (f bs)) H)):d8 X (.builtin id) (jm X.K (Tw f)):=by
 intro kL s σ H xs us Q I J t
 obtain⟨ds,H3,Q3,hr,O,t,k⟩:=t
 cases O with
 |nil=>exact t.elim
 |cons r1 r2=>
  cases r2 with
  |cons _ _=>cases r1 <;> exact t.elim
  |nil=>
   cases r1 with
   |ref a=>
    (delta Tw at t;dsimp only at t)
    split at t
    ·rename_i ds U
     split at t
     ·rename_i bs e
      obtain⟨vs,Y,Z⟩:=hr a _ U
      have z:=sH e
      subst z
      have z:=Z.yJ
      subst z
      exact h kL s σ H _ us Q I J ⟨a,bs,rfl,cV.of Y,k _ _ _ _ TK.refl hr (.bl _) t⟩
     ·exact t.elim
    ·exact t.elim
   |_=>exact t.elim
def Vk(hc:X.calm=true):d8 X (.builtin "all") (jm X.K Eu):=Xr (Ld hc)
end
end L3
namespace L3
open PySem PySem.Spec PyProof.Rows L2
def Itx(x:Str):It:=⟨λi _=>i<x.cps.size,λi H v H'=>H'=H/\∃c,x.cps[i]?=some c/\v=.str ⟨#[c]⟩,λi _=>x.cps.size<=i⟩
variable{K:ag}
def xR{P:cw}{w:da}{tg:eT}{ty:String}{x:Str}{t:Tok}(it:aT)
  (hn:["enumerate", "zip", "dict_itemiterator", "dict_reverseitemiterator", "odict_iterator", "itertools.zip_longest", "itertools.pairwise"].contains ty=false)
  (W:∀A':gu,A'.handled=none->Walks P w A' it [it] [it] x.cps.size (SignAt x) (λi h=>h.IsStrIter it ty x t i))
  (S:∀(A:gu) (i:Nat) (s:aw) (Q:af->aw->Prop) (E:af->aw->Prop),s.heap.IsStrIter it ty x t i->Q (.ref it) s->a9 (cy P w) A (FY (.ref it)) Q E s) :
  Turn P w K tg (Itx x) [it] it (λi h=>i<=x.cps.size/\h.IsStrIter it ty x t i) where
 mem:=bX.mpr rfl
 obj:=by
  rintro i h ⟨_,o,e,_,d⟩ b J
  rw[bX.mp J]
  exact⟨o,e,λv z=>by rw[d] at z;cases z⟩
 keep:=by
  rintro i h h' ⟨l,o,e,c⟩ k
  exact⟨l,o,k it (bX.mpr rfl) o e,c⟩
 item:=by
  intro X Z hw hK hc i kL s σ H E I U st hg
  subst Z hw hK
  obtain⟨f0,f1,f2,f3,f4,f5⟩:=U it (bX.mpr rfl)
  refine (W X.A (I.ok.hd hc)).item i s _ _ hg st.2 λv h' Y hv O kk=>?_
  obtain⟨c,u,ac,rfl⟩:=hv
  have I1:L2.Inv X kL σ H { s with heap:=h',toks:=Y }:=I.turned (λb o J e=>kk b o (λz=>J (bX.mp z)) e) f0 f1 f3 f4 f5
  obtain⟨o,e,al,d⟩:=id O
  exact⟨_,rfl,ye (s:={ s with heap:=h',toks:=Y }) e al d hn ⟨.str ⟨#[c]⟩,H,I1,⟨u,rfl⟩,⟨rfl,c,ac,rfl⟩,⟨hg,O⟩,λb J=>(U b J).1⟩⟩
 done:=by
  intro X Z hw hK hc i kL s σ H E I U st hg
  subst Z hw hK
  obtain⟨f0,f1,f2,f3,f4,f5⟩:=U it (bX.mpr rfl)
  have hi:i=x.cps.size:=pb st.1 hg
  subst hi
  exact (W X.A (I.ok.hd hc)).done s _ _ st.2 λh' Y kk=>⟨rfl,I.turned (t':=Y) (λb o J e=>kk b o (λz=>J (bX.mp z)) e) f0 f1 f3 f4 f5⟩
 self:=λA i s Q E st h=>S A i s Q E st.2 h
section
variable{X:Cx}
def adH(tl:TE):TI:=λσ H R=>tl σ H λx H1=>∃z,x=.str z/\R (Itx z) H1
def WQ{tg l:eT}{tl:TE}(hl:PE X l tl):PI X tg l (adH tl):=by
 intro kL s σ H R I h
 refine cC (hl kL s σ H _ I h) λv J Y=>?_
 obtain⟨x,H1,O,Z,q1⟩:=Y
 obtain⟨z,rfl,q⟩:=q1
 obtain⟨t,rfl⟩:=Z
 have fp:∀b∈[J.heap.objs.size],eY X kL H1 b:=λb hb=>by
  rw[bX.mp hb]
  exact O.wY (a8 _) (O.hok.fresh (a8 _))
 cases ha:z.cps.all (· < 128)
 ·refine wpAny_pyIter_wide ha ?_
  exact⟨J.heap.objs.size,[J.heap.objs.size],_,_,H1,rfl,O.kept (t':=J.toks) λb o e=>ai _ e,
   xR (ty := "str_iterator") (x:=z) (t:=t) _ (by decide) (λA' U=>Walks.strWide U _ z t) (λA i s Q E st h=>wpAny_pyIter_striter_wide st h),⟨eD _,_,ba _ rfl,rfl,rfl⟩,fp,q⟩
 ·refine F7 ha ?_
  exact⟨J.heap.objs.size,[J.heap.objs.size],_,_,H1,rfl,O.kept (t':=J.toks) λb o e=>ai _ e,
   xR (ty := "str_ascii_iterator") (x:=z) (t:=t) _ (by decide) (λA' U=>Walks.strAscii U _ z t) (λA i s Q E st h=>wpAny_pyIter_striter_ascii st h),⟨eD _,_,ba _ rfl,rfl,rfl⟩,fp,q⟩
def Ml{H:Hp}{z:Str}:zJ K H (lets z) (λ_=>True) (Itx z):=λH3 H' Y hr _=>by
 have J:(lets z).length=z.cps.size:=by unfold lets;rw[ae,cS]
 refine⟨λi hi=>⟨by rw[J] at hi;exact hi,λx O y=>?_⟩,by rw[J];exact a8 _⟩
 obtain⟨e,c,U,rfl⟩:=y
 subst e
 refine⟨TK.refl,hr,.str ⟨#[c]⟩,?_,.str _⟩
 unfold lets
 rw[ay,jS,U]
 rfl
def Vr{tg e:eT}{te:bK}(h:aF X e te):tM X tg e (iz3 te) :=
 lQ (WQ h) λ_ _ _ ⟨Y,H3,R3,Z,hr,t,k⟩=>⟨Y,H3,_,Z,hr,t,λx v ac Ha J O rx U=>by
  cases rx with
  |str z=>exact⟨z,rfl,k _ _ _ _ _ J O Ml U⟩
  |_=>exact U.elim⟩
end
end L3
namespace L3
open PySem PySem.Spec PyProof.Rows L2
section
variable{X:Cx}
def aK.PL{K:ag}{H:Hp}{bs:List Str}:∀ {vs:List V},aK K H (bs.map D.str) vs->vs=bs.map V.str:=by
 induction bs with
 |nil=>intro vs h;cases h;rfl
 |cons b bs ih=>
  intro vs h
  cases h with
  |cons r t=>
   cases r
   rw[ih t];rfl
theorem K9:∀ {ys:List Str} {us:List af},Vals (ys.map V.str) us->StrsAre us ys
 |[],_,.nil=>.nil
 |y::ys,_,.cons r t=>by
  obtain⟨k,rfl⟩:=r
  exact .cons y k (K9 t)
def Qp:Vz X "str.join" (λx xs H Q=>∃(z:Str) (a:aT) (ys:List Str),x=.str z/\xs=[.ref a]/\cV X.K H a (ys.map V.str)/\(ys.map λy=>y.cps.size).sum+ys.length*z.cps.size<=16777216/\Q (.str (sI z ys)) H):=by
 intro kL s σ H x xs v us Q I J O h
 obtain⟨z,a,ys,rfl,rfl,U,Y,q⟩:=h
 obtain⟨t,rfl⟩:=J
 obtain⟨u,rfl,Z⟩:=vals1 O
 cases Z
 obtain⟨its,rv,pl,_⟩:=I.list U
 refine join_list pl.isList (ys:=ys) (by simpa using K9 rv) Y λt' k=>?_
 exact⟨.str (sI z ys),H,I.kept (t':=k) λ_ _ e=>e,⟨t',rfl⟩,q⟩
def Ug:Vz X "str.join" (liftM X.K lO):=by
 intro kL s σ H x xs v us Q I O U t
 obtain⟨d,ds,H3,Q3,hr,Y,J,t,k⟩:=t
 cases Y with
 |str z=>
  cases J with
  |nil=>exact t.elim
  |cons r1 r2=>
   cases r2 with
   |cons _ _=>cases r1 <;> exact t.elim
   |nil=>
    cases r1 with
    |ref a=>
     (delta lO at t;dsimp only at t)
     split at t
     ·rename_i ds Z
      split at t
      ·rename_i ys e
       obtain⟨vs,ga,ra⟩:=hr a _ Z
       have w:=vh e
       subst w
       have w:=ra.PL
       subst w
       exact Qp kL s σ H _ _ v us Q I O U ⟨z,a,ys,rfl,rfl,cV.of ga,t.1,k _ _ _ _ TK.refl hr (.str _) t.2⟩
      ·exact t.elim
     ·exact t.elim
    |_=>exact t.elim
 |_=>exact t.elim
def ado{o e:eT}{es:List eT}{to:bK}{t:qG}{name:Str}{apos cpos:Pos}{id:String}{r:D->List D->aA->bL->Prop}(slot:Pw "str" name id)(hty:typeOf (.builtin id)=pure (.type "method_descriptor"))
  (hm:Vz X id (liftM X.K r)) (ho:aF X o to) (ha:FJ X (e::es) t) (hbase:vc o name X.env (gN o X.env)=gN o X.env:=by rfl)
  (hfew:((mN cpos (bS (e::es) X.env)).all (λx=>!x.1)&&(HA cpos (A5 [] X.env)).all (λx=>x.1.isSome)&&decide ((e::es).length+([]:List HC).length+(if ([]:List HC).isEmpty then 0 else 1)<30))=true:=by rfl)
  (hline:(apos.endLine==cpos.line)=true:=by rfl) (hs:bS (e::es) X.env=(false,gN e X.env)::bS es X.env:=by rfl) (hplain:(mN cpos (bS es X.env)).any (·.1)=false:=by rfl) :
  aF X (.Call (.Attribute o name apos) (e::es) [] cpos) (mz3 r to t) :=
 aY (YH F.plainAttrs_str slot hty hm ho ha hbase hfew hline hs hplain) λ_ _ _ zz=>zz.ex λal H3 Q3 sr hr t k=>⟨al,H3,_,sr,hr,t,λx v O Ha J U rx qa=>by
  cases rx with
  |str z=>
   exact⟨rfl,al,O,_,sr.mono J,U,qa,λds vs Y Hb Z ac rs qb=>⟨.str z,ds,Y,Q3,ac,.str z,rs,qb,(k.mono J).mono Z⟩⟩
  |_=>exact qa.elim⟩
end
end L3
namespace L3
open PySem PySem.Spec PyProof.Rows L2
section
variable{X:Cx}
theorem Ji(v:Option Int)(d n:Nat):(match v with | none=>(d:Int) | some i=>max 0 (min (if i<0 then i+(n:Int) else i) (n:Int)))=((HT.c7 n d v:Nat):Int):=by
 cases v with
 |none=>rfl
 |some i=>
  unfold HT.c7
  dsimp only
  split <;> grind
def Ig(lo hi:Option Int)(n:Nat):LU lo hi 1 n=(bo (HT.c7 n n hi-HT.c7 n 0 lo)).map (HT.c7 n 0 lo + ·):=by
 have J:=Ji lo 0 n
 have O:=Ji hi n n
 rw[←Mc,←J,←O]
 cases lo <;> cases hi <;> rfl
theorem adF(v:Option Int)(n:Nat):HT.c7 n n v<=n:=by
 cases v with
 |none=>exact a8 n
 |some i=>
  unfold HT.c7
  dsimp only
  split <;> grind
theorem OD(z:Str)(lo hi:Option Int):NF z lo hi=Dv z lo hi:=by
 have O:z.cps.toList.length=z.length:=cS
 have hh:=adF hi z.length
 unfold NF Dv iG
 rw[Ig,OO,O]
 split
 ·rename_i c
  rw[tm] at c
  have U:=c.2
  rw[beq_iff_eq] at U
  have c3:HT.c7 z.length z.length hi-HT.c7 z.length 0 lo=z.length:=by simpa using U
  obtain⟨a⟩:=z
  congr 1
  apply MA
  rw[c3]
  by_cases h0:a.size=0
  ·have e:a=#[]:=Array.eq_empty_of_size_eq_zero h0
   subst e
   simp
  ·have J:HT.c7 (L9 ⟨a⟩) 0 lo=0:=by
    have h1:L9 ⟨a⟩=a.size:=rfl
    grind
   rw[J,la,fh (by rw[O];exact a8 _)]
 ·rfl
def Xe:YD X (λx lo hi H Q=>∃z,x=.str z/\z.length<=cf/\Q (.str (Dv z lo hi)) H):=by
 intro kL s σ H x v Z vu lo hi sl Q I Y hs pl U h
 obtain⟨z,rfl,O,q⟩:=h
 obtain⟨t,rfl⟩:=Y
 have J:∀t' k,EP X kL σ Q (.str (NF z lo hi) t') { s with toks:=k }:=λt' k=>by
  rw[OD]
  exact⟨.str (Dv z lo hi),H,I.kept (t':=k) λ_ _ e=>e,⟨t',rfl⟩,q⟩
 refine⟨"str",_,F.slot_str_getitem.lookup,Mb _ _ _,?_⟩
 cases pl with
 |none=>
  cases U with
  |none=>exact qv (l:=none) (u:=none) (st:=none) hs rfl (yi ⟨ft (CU z _ _) O,J⟩)
  |int j u=>exact qv (l:=none) (u:=some (j,u)) (st:=none) hs rfl (yi ⟨ft (CU z _ _) O,J⟩)
 |int i w=>
  cases U with
  |none=>exact qv (l:=some (i,w)) (u:=none) (st:=none) hs rfl (yi ⟨ft (CU z _ _) O,J⟩)
  |int j u=>exact qv (l:=some (i,w)) (u:=some (j,u)) (st:=none) hs rfl (yi ⟨ft (CU z _ _) O,J⟩)
def RV:YD X (zr X.K Cd):=by
 intro kL s σ H x v J O lo hi U Q I Y hs pl Z h
 obtain⟨d,H3,Q3,hr,rd,t,k⟩:=h
 cases rd with
 |str z=>exact Xe kL s σ H _ v J O lo hi U Q I Y hs pl Z ⟨z,rfl,t.1,k _ _ _ _ TK.refl hr (.str _) t.2⟩
 |_=>exact t.elim
end
end L3
namespace L3
open PySem L2
def Bt(n:Nat)(i:Int):Prop:=i.natAbs<2 ^ n
section
variable{m n:Nat}{i j:Int}
def Bt.mono(h:Bt m i)(l:m<=n):Bt n i:=dA h (Nat.pow_le_pow_right (by decide) l)
def Bt.of_le(h:Bt m j)(l:i.natAbs<=j.natAbs):Bt m i:=mh l h
def Bt.add(h:Bt m i)(g:Bt n j):Bt (max m n+1) (i+j):=by
 have h':=Bt.mono h (Lu m n)
 have g':=Bt.mono g (IZ m n)
 show _<_
 rw[NV,Nat.mul_two]
 exact mh (Int.natAbs_add_le i j) (Nat.add_lt_add h' g')
def Bt.neg(h:Bt m i):Bt m (-i):=by unfold Bt at *;rw[Int.natAbs_neg];exact h
def Bt.sub(h:Bt m i)(g:Bt n j):Bt (max m n+1) (i-j):=by rw[Int.sub_eq_add_neg];exact h.add g.neg
def Bt.mul(h:Bt m i)(g:Bt n j):Bt (m+n) (i*j):=by
 unfold Bt at *
 rw[AF,Nat.pow_add]
 exact Nat.mul_lt_mul'' h g
def Bt.div(h:Bt m i):Bt m (i / j):=Bt.of_le h (Int.natAbs_ediv_le_natAbs i j)
def Bt.mod(g:Bt n j)(hj:0<j):Bt n (i%j):=by
 refine g.of_le ?_
 have h1:=kl i (NW hj)
 have h2:=iN i hj
 omega
def Bt.lit(h:i.natAbs<2 ^ n):Bt n i:=h
end
def tu(i j:Int):Prop:=aaK i j\/∃m n,Bt m i/\Bt n j/\m+n<=134217728
def tu.of{m n:Nat}{i j:Int}(h:Bt m i)(g:Bt n j)(l:m+n<=134217728):tu i j:=.inr ⟨m,n,h,g,l⟩
def Dc(_ j:Int):Prop:=0<j/\Bt 8999 j
def Tg(_ j:Int):Prop:=j≠0/\Bt 8999 j
def b7:R3:=Yd tu λi j=>.int (i*j)
def cF:R3:=Yd Dc λi j=>.int (i / j)
def Aq:R3:=Yd Tg λi j=>.int (i.fdiv j)
def Ae:R3:=Yd (λ_ j=>j≠0) λi j=>.int (i.fmod j)
section
variable{σ:cD}{H:aA}{Q:bL}{i j:Int}{d x y:D}{ds es:List D}
def Ql(c:tu i j)(q:Q (.int (i*j)) H):b7 (.int i) (.int j) H Q:=⟨c,q⟩
def IK(c:Dc i j)(q:Q (.int (i / j)) H):cF (.int i) (.int j) H Q:=⟨c,q⟩
def abQ(c:Tg i j)(q:Q (.int (i.fdiv j)) H):Aq (.int i) (.int j) H Q:=⟨c,q⟩
def aam(c:j≠0)(q:Q (.int (i.fmod j)) H):Ae (.int i) (.int j) H Q:=⟨c,q⟩
def Kr:List D->aA->bL->Prop:=λds H Q=>match ds with
 |[.int i]=>Q (.int (if i<0 then -i else i)) H
 |_=>False
def acM(q:Q (.int (if i<0 then -i else i)) H):Kr [.int i] H Q:=q
theorem JK:∀ns:List Int,gk (mO 4) (ns.map D.int)=some (ns.map sP)
 |[]=>rfl
 |n::ns=>by
  have e:mO 4 (D.int n)=some (sP n):=rfl
  simp only[aE,gk,e,JK ns]
def Xv(H:aA)(ns:List Int):Hf H (.tup (ns.map D.int))=some (.tuple (ns.map sP)):=by
 have e:Hf H (.tup (ns.map D.int))=(gk (mO 4) (ns.map D.int)).map .tuple:=rfl
 rw[e,JK];rfl
theorem sG:∀ms ns:List Int,g9 (ms.map sP) (ns.map sP)=decide (ms=ns)
 |[],[]=>by simp[g9]
 |[],_::_=>by simp[g9]
 |_::_,[]=>by simp[g9]
 |m::ms,n::ns=>by
  have e:fg (.int m) (.int n)=decide (m=n):=by simp only[fg];rfl
  simp only[aE,g9,sG ms ns,e,DB,DA]
def ZR{ms ns:List Int}(q:Q (.bl (!decide (ms=ns))) H):eG (.tup (ms.map D.int)) (.tup (ns.map D.int)) H Q:=by
 (delta eG;simp only[Xv,fg,sG]);exact q
def Cp.jZ{g:um}{σ0:cD}{te:bK}{lo:Int}{n:Nat}(F:Nat->D)(hl:n<=1000)
  (hel:∀i:Nat,i<n->∀(R:bL) (H2:aA),aq H H2->(∀H6,aq H2 H6->R (F i) H6)->g (.int (lo+(i:Int))) σ0 H2 λσ2 H4=>te σ2 H4 R)
  (fin:∀p,H p=none->Q (.ref p) (au H p (.lst ((bo n).map F)))):Cp g jd te σ0 (jZ lo n) (λ_=>True) H Q :=
 Cp.map F (λ_ _=>trivial) (by rw[eI];exact hl) (λ_ a J=>hel a (b6.mp (df J))) fin
end
variable{te:bK}
def fC(ds es:List D):List D:=List.zipWith (λx y=>D.tup [x,y]) ds es
def zpk(x y:D)(H:aA)(R:List D->(aA->Prop)->aA->Prop):Prop:=match x,y with
 | .ref a,.ref b => (match H a,H b with
  |some (.lst ds),some (.lst es)=>R (fC ds es) (λH'=>H' a=some (.lst ds)/\H' b=some (.lst es)) H
  |_,_=>False)
 |_,_=>False
def izp(ta tb:bK):wI:=λσ H R=>ta σ H λx H1=>tb σ H1 λy H2=>zpk x y H2 R
section
variable{σ:cD}{H:aA}{a b:aT}{ds es:List D}
def acV{ta tb:bK}{R:List D->(aA->Prop)->aA->Prop}(h:ta σ H λx H1=>tb σ H1 λy H2=>zpk x y H2 R):izp ta tb σ H R:=h
def acf{R:List D->(aA->Prop)->aA->Prop}(ha:H a=some (.lst ds))(hb:H b=some (.lst es))(h:R (fC ds es) (λH'=>H' a=some (.lst ds)/\H' b=some (.lst es)) H):zpk (.ref a) (.ref b) H R:=by
 (delta zpk;simp only[ha,hb]);exact h
theorem uJ{α β:Type}{f:α->D}{g:β->D}:∀(as:List α) (bs:List β),fC (as.map f) (bs.map g)=(as.zip bs).map λp=>D.tup [f p.1,g p.2]
 |[],_=>rfl
 |_::_,[]=>rfl
 |a::as,b::bs=>by
  have ih:=uJ (f:=f) (g:=g) as bs
  unfold fC at ih ⊢
  rw[aE,aE,List.zipWith_cons_cons,ih,g7,aE]
def rvk(x:D)(H:aA)(Q:bL):Prop:=match x with
 | .ref a => (match H a with
  |some (.lst ds)=>∀p,H p=none->Q (.ref p) (au H p (.lst ds.reverse))
  |_=>False)
 |_=>False
def kdk(zp:List (Str×D))(x:D)(H:aA)(Q:bL):Prop:=match x with
 | .str z => (match zp.lookup z with
  |some d=>Q d H
  |none=>False)
 |_=>False
def UL(zp:List (Str×D))(te:bK):bK:=λσ H Q=>te σ H λx H1=>kdk zp x H1 Q
def aes{zp:List (Str×D)}{Q:bL}(h:te σ H λx H1=>kdk zp x H1 Q):UL zp te σ H Q:=h
def CK{zp:List (Str×D)}{z:Str}{d:D}{Q:bL}(hl:zp.lookup z=some d)(h:Q d H):kdk zp (.str z) H Q:=by (delta kdk;simp only[hl]);exact h
def ab7{ds:List D}{i:Int}{d:D}{Q:bL}(h:jU ds i=some d)(q:Q d H):aB (.ktup ds) (.int i) H Q:=by (delta aB;simp only[h]);exact q
def irk(x:D)(H:aA)(R:List D->(aA->Prop)->aA->Prop):Prop:=match x with
 |.str z=>z.length<=cf/\R (lets z).reverse (λ_=>True) H
 |_=>False
def irv(te:bK):wI:=λσ H R=>te σ H λx H1=>irk x H1 R
def acF{R:List D->(aA->Prop)->aA->Prop}(h:te σ H λx H1=>irk x H1 R):irv te σ H R:=h
def adw{z:Str}{R:List D->(aA->Prop)->aA->Prop}(hz:z.length<=cf)(h:R (lets z).reverse (λ_=>True) H):irk (.str z) H R:=⟨hz,h⟩
def au3(k:Nat)(r:R3)(te:bK):bC:=λD0 σ H=>match σ[k]? with
 |some (some x)=>te σ H λy H1=>r x y H1 λz H2=>D0.nx (σ.set k (some z)) H2
 |_=>False
def aeC{k:Nat}{r:R3}{D0:cX}{x:D}(hx:σ[k]?=some (some x))(h:te σ H λy H1=>r x y H1 λz H2=>D0.nx (σ.set k (some z)) H2):au3 k r te D0 σ H:=by
 simp only[au3,hx];exact h
def zH:R3:=λx y H Q=>match x,y with
 |.int i,.int j=>Q (.int (i+j)) H
 |.str i,.str j=>i.length+j.length<=cf/\Q (.str (i++j)) H
 |_,_=>False
def ZF{i j:Int}{Q:bL}(q:Q (.int (i+j)) H):zH (.int i) (.int j) H Q:=q
def Jt{y z:Str}{Q:bL}(hl:y.length+z.length<=cf)(q:Q (.str (y++z)) H):zH (.str y) (.str z) H Q:=⟨hl,q⟩
def asc(z:Str):Prop:=z.cps.all (· < 128)=true
def ztk(x y:D)(H:aA)(R:List D->(aA->Prop)->aA->Prop):Prop:=match x,y with
 | .ref a,.str z => (match H a with
  |some (.lst ds)=>asc z/\R (fC ds (lets z)) (λH'=>H' a=some (.lst ds)) H
  |_=>False)
 |_,_=>False
def izt(ta tb:bK):wI:=λσ H R=>ta σ H λx H1=>tb σ H1 λy H2=>ztk x y H2 R
def acP{ta tb:bK}{R:List D->(aA->Prop)->aA->Prop}(h:ta σ H λx H1=>tb σ H1 λy H2=>ztk x y H2 R):izt ta tb σ H R:=h
def adz{z:Str}{R:List D->(aA->Prop)->aA->Prop}(ha:H a=some (.lst ds))(hz:asc z)(h:R (fC ds (lets z)) (λH'=>H' a=some (.lst ds)) H):ztk (.ref a) (.str z) H R:=by
 (delta ztk;simp only[ha]);exact⟨hz,h⟩
end
end L3
namespace L3
open PySem PySem.Spec PyProof.Rows L2
section
variable{X:Cx}
def tu.ok{i j:Int}(h:tu i j):IntMulOk i j:=by
 rcases h with h | ⟨m,n,h1,h2,J⟩
 ·exact h.ok
 ·exact IntMulOk.of_le (MD.mpr h1) (MD.mpr h2) J
def Bt.log{j:Int}(h:Bt 8999 j):j.natAbs.log2<9000:=by
 by_cases h0:j.natAbs=0
 ·rw[h0];decide +kernel
 ·have:=(Nat.log2_lt h0).mpr h
  omega
def Tv:ir X (nk .Mult) (bN X.K b7):=rF (opI λ_ _ _ _ _ _ _ J q=>mul_int q (tu.ok J)) λ_ _ _=>.int _
def Oo:ir X (nk .FloorDiv) (bN X.K cF):=rF (opI λi j _ _ _ _ _ J q=>by
 have h1:(0:Int)<j:=J.1
 exact floordiv_int (by omega) (by rw[Int.fdiv_eq_ediv_of_nonneg i (by omega)];exact q) (.inl (BF (Bt.log J.2)))) λ_ _ _=>.int _
def Nf:ir X (nk .FloorDiv) (bN X.K Aq):=rF (opI λi j _ _ _ _ _ J q=>floordiv_int J.1 q (.inl (BF (Bt.log J.2)))) λ_ _ _=>.int _
def RX:ir X (nk .Mod) (bN X.K Ae):=rF Vf λ_ _ _=>.int _
def Wv:d8 X (.builtin "abs") (jm X.K Kr):=by
 intro kL s σ H xs us Q I J t
 obtain⟨ds,H3,U,hr,O,t,k⟩:=t
 cases O with
 |nil=>exact t.elim
 |cons r1 r2=>
  cases r2 with
  |cons _ _=>cases r1 <;> exact t.elim
  |nil=>
   cases r1 with
   |int i=>exact RL kL s σ H _ us Q I J ⟨i,rfl,k _ _ _ _ TK.refl hr (.int _) t⟩
   |_=>exact t.elim
end
end L3
namespace L3
open PySem PySem.Spec PyProof.Rows L2
section
variable{X:Cx}{kL:List (aT×Obj)}{σ:St}{H:Hp}{s:aw}{h':fA}
def qU{t':Nat}{ch:List aT}{T:aT}{o:HO}(I:L2.Inv X kL σ H s)(k:∀b u,b∉ch->s.heap.get? b=some u->h'.get? b=some u)
  (hf:∀b∈ch,eY X kL H b) (hp:s.heap.objs.size<=T) (new:bO X.prog X.w (upd H T o) h' T o):L2.Inv X kL σ (upd H T o) { s with heap:=h',toks:=t' }:=by
 have O:H T=none:=I.hok.fresh hp
 refine I.step (g':=s.gens) (d':=s.drawn) (ch:=ch) (λb U=>?_) (λb u _ _ J e _=>k b u J e) (λb u _ _ J e _=>⟨u.slots,k b u J e⟩)
  (λb u _ e n=>by rw[aC (cx (dA (b5 e) hp))];exact n) (λb u J e=>⟨u,k b u J e⟩)
  (λb xs q=>by rw[aC (aX q O)];exact q) (λb u xs q=>by rw[aC (aX q O)];exact q) (λb ps q=>⟨#[],by rw[aC (aX q O),q];simp⟩) (λm Z=>?_) (λb u e=>?_) I.bare
 ·obtain⟨Y,f1,f2,f3,f4,f5⟩:=hf b U
  exact⟨f3,f1,f4,f5⟩
 ·obtain⟨u,es,ep,hu,r⟩:=Z
  exact⟨u,es,ep,k _ u (λz=>(hf _ z).2.1 rfl) hu,r⟩
 ·by_cases U:b=T
  ·subst U;rw[aZ] at e;cases e;exact new
  ·rw[aC U] at e
   refine (I.hok b u e).stay (λc v J q=>k c v (λz=>?_) q) (λc q=>by rw[aC (aX q O)];exact q) λc xs q=>by rw[aC (aX q O)];exact q
   have Y:=(hf c z).1
   rcases J with rfl | J
   ·rw[Y] at e;cases e
   ·rw[Y] at J;cases J
def qy{t':Nat}{ch:List aT}(I:L2.Inv X kL σ H s)(k:∀b u,b∉ch->s.heap.get? b=some u->h'.get? b=some u)
  (hf:∀b∈ch,eY X kL H b):L2.Inv X kL σ H { s with heap:=h',toks:=t' }:=by
 refine I.step (g':=s.gens) (d':=s.drawn) (ch:=ch) (λb U=>?_) (λb u _ _ J e _=>k b u J e) (λb u _ _ J e _=>⟨u.slots,k b u J e⟩)
  (λb u _ e n=>n) (λb u J e=>⟨u,k b u J e⟩)
  (λb xs q=>q) (λb u xs q=>q) (λb ps q=>⟨#[],by rw[q];simp⟩) (λm Y=>?_) (λb u e=>?_) I.bare
 ·obtain⟨O,f1,f2,Z,f4,f5⟩:=hf b U
  exact⟨Z,f1,f4,f5⟩
 ·obtain⟨u,es,ep,hu,r⟩:=Y
  exact⟨u,es,ep,k _ u (λz=>(hf _ z).2.1 rfl) hu,r⟩
 ·refine (I.hok b u e).stay (λc v J q=>k c v (λz=>?_) q) (λc q=>q) λc xs q=>q
  have O:=(hf c z).1
  rcases J with rfl | J
  ·rw[O] at e;cases e
  ·rw[O] at J;cases J
end
def Itz(K:ag)(a b:aT):It :=
 ⟨λi H=>∃xs ys x y,cV K H a xs/\cV K H b ys/\xs[i]?=some x/\ys[i]?=some y,
   λi H v H'=>∃T x y,v=.ref T/\H T=none/\H'=upd H T (.tup [x,y])/\∀xs ys,cV K H a xs->cV K H b ys->xs[i]?=some x/\ys[i]?=some y,
   λi H=>∃xs ys,cV K H a xs/\cV K H b ys/\(xs.length<=i\/ys.length<=i)⟩
variable{K:ag}{elts:List eT}{kt:Nat}
theorem Ud{P:cw}{w:da}{pt:Pos}(z TI TO i1 i2 a b:aT)(D:ZipApart z TI TO i1 i2 a b) :
  Turn P w K (.Tuple elts kt pt) (Itz K a b) [z,TI,TO,i1,i2] z (λi h=>AG h z TI TO .none/\mi h TI (.ref i1) (.ref i2)/\(∃u v,mi h TO u v)/\h.IsListIter i1 a i/\h.IsListIter i2 b i) where
 mem:=by simp
 obj:=by
  rintro i h ⟨h1,h2,⟨u,v,U⟩,⟨o4,Y,c4,d4⟩,⟨o5,Z,c5,d5⟩⟩ c hc
  simp only[br,dc,or_false] at hc
  rcases hc with rfl | rfl | rfl | rfl | rfl
  ·exact⟨_,h1,λv z=>nomatch z⟩
  ·exact⟨_,h2,λv z=>nomatch z⟩
  ·exact⟨_,U,λv z=>nomatch z⟩
  ·exact⟨_,Y,λv z=>by rw[d4] at z;cases z⟩
  ·exact⟨_,Z,λv z=>by rw[d5] at z;cases z⟩
 keep:=by
  rintro i h h' ⟨h1,h2,⟨u,v,U⟩,Y,Z⟩ k
  exact⟨k z (by simp) _ h1,k TI (by simp) _ h2,⟨u,v,k TO (by simp) _ U⟩,Y.at λo e=>k i1 (by simp) o e,Z.at λo e=>k i2 (by simp) o e⟩
 item:=by
  intro X hP hw hK hc i kL s σ H E I hf st hg
  subst hP hw hK
  obtain⟨xs,ys,x,y,hq,O,hx,hy⟩:=hg
  obtain⟨h1,h2,⟨u0,v0,U⟩,Y,Z⟩:=st
  obtain⟨its,rv,p,hz⟩:=I.list hq
  obtain⟨its',ac,p',ap⟩:=I.list O
  obtain⟨u,hu,ru⟩:=rv.get hx
  obtain⟨u',a0,bd⟩:=ac.get hy
  have hT:H s.heap.objs.size=none:=I.hok.fresh (a8 _)
  refine wpAny_pyNext_zip_item D h1 h2 U Y Z p.isList p'.isList (x:=u) (y:=u') (by simpa using hu) (by simpa using a0) λh' a1 a2 a3 a4 a5 a6 a7=>?_
  refine⟨_,rfl,?_⟩
  refine AV (s:={ s with heap:=h' }) a1 λam b1 b2=>?_
  have lt:∀ {c o},s.heap.get? c=some o->s.heap.objs.size≠c:=λe=>nv (b5 e)
  have be:am.get? s.heap.objs.size=some { cls:=.type "tuple",data:=.seq #[u,u'] }:=(b2.2 _ (lt h1)).trans a5
  have I1:L2.Inv X kL σ (upd H s.heap.objs.size (.tup [x,y])) { s with heap:=am,toks:=s.toks }:=by
   refine qU (ch:=[z,TI,TO,i1,i2]) I (λc o J e=>?_) hf (a8 _) ⟨?_,[u,u'],.cons ru (.cons bd .nil),⟨_,be,rfl,_,rfl,rfl⟩⟩
   ·have n1:c≠z:=λw=>J (by simp[w])
    exact (b2.2 c n1).trans (a7 c o n1 (λw=>J (by simp[w])) (λw=>J (by simp[w])) (λw=>J (by simp[w])) e)
   ·show 2<=cf;decide
  refine⟨.ref s.heap.objs.size,_,I1,rfl,⟨_,x,y,rfl,hT,rfl,λbg bi q1 q2=>⟨by rw[I.pG q1 hq];exact hx,by rw[I.pG q2 O];exact hy⟩⟩,⟨b1,?_,⟨u,u',?_⟩,?_,?_⟩,λc al=>?_⟩
  ·exact (b2.2 TI D.TIz).trans (a7 TI _ D.TIz D.TITO D.TIi1 D.TIi2 h2)
  ·exact (b2.2 TO D.TOz).trans a2
  ·exact a3.at λo e=>(b2.2 i1 D.i1z).trans e
  ·exact a4.at λo e=>(b2.2 i2 D.i2z).trans e
  ·have J:H c=none:=(hf c al).1
   have:c≠s.heap.objs.size:=by
    obtain⟨o,e,_⟩:∃o,s.heap.get? c=some o/\True:=by
     simp only[br,dc,or_false] at al
     rcases al with rfl | rfl | rfl | rfl | rfl
     ·exact⟨_,h1,trivial⟩
     ·exact⟨_,h2,trivial⟩
     ·exact⟨_,U,trivial⟩
     ·obtain⟨o,e,_⟩:=Y;exact⟨o,e,trivial⟩
     ·obtain⟨o,e,_⟩:=Z;exact⟨o,e,trivial⟩
    exact (lt e).symm
   rw[aC this];exact J
 done:=by
  intro X hP hw hK hc i kL s σ H E I hf st hg
  subst hP hw hK
  obtain⟨xs,ys,hq,O,hx⟩:=hg
  obtain⟨h1,h2,⟨u0,v0,U⟩,Y,Z⟩:=st
  obtain⟨its,rv,p,hz⟩:=I.list hq
  obtain⟨its',ac,p',ap⟩:=I.list O
  have hl:=rv.length
  have bl:=ac.length
  refine wpAny_pyNext_zip_end (I.ok.hd hc) D h1 h2 U Y Z p.isList p'.isList (by rcases hx with hx | hx;exact .inl (by simp;grind);exact .inr (by simp;grind)) λh' k=>⟨rfl,?_⟩
  exact qy (t':=s.toks) (ch:=[z,TI,TO,i1,i2]) I (λc o J e=>k c o (λw=>J (by simp[w])) (λw=>J (by simp[w])) (λw=>J (by simp[w])) (λw=>J (by simp[w])) e) hf
 self:=λA i s Q E st h=>tI st.1 h
section
variable{X:Cx}{tg:eT}
def boot_zip:iF "zip" = some (.type "zip"):=by rfl
def ae8(K:ag)(ta:TA):TI:=λσ H R=>ta σ H λvs H1=>∃a b,vs=[.ref a,.ref b]/\(∃xs,cV K H1 a xs)/\(∃ys,cV K H1 b ys)/\R (Itz K a b) H1
theorem aa0{a b:eT}{ta:TA}{p pos pt:Pos}(hg:Gl X "zip")(hm:X.mg "zip" = none)(ha:PA X [a,b] ta)(hs:bS [a,b] X.env=[(false,gN a X.env),(false,gN b X.env)]:=by rfl)(hs2:bS [b] X.env=[(false,gN b X.env)]:=by rfl) :
  PI X (.Tuple elts kt pt) (.Call (.Name "zip" p) [a,b] [] pos) (ae8 X.K ta):=by
 intro kL s σ H R I h
 refine ND (eX I hg hm boot_zip (fe (cC (ha pos kL s σ H _ I h) λus J ⟨vs,H1,O,r1,l1,l2,e,⟨xs,hq⟩,⟨ys,Z⟩,q⟩=>?_) (by rw[hs,hs2]) (by rw[hs2];rfl)))
 subst e
 obtain⟨u,u',rfl,e1,e2⟩:=vals2 r1
 cases e1
 cases e2
 obtain⟨its,rv,pl,hz⟩:=O.list hq
 obtain⟨its',a0,U,a3⟩:=O.list Z
 have a1:l1<J.heap.objs.size:=by obtain⟨_,e,_⟩:=pl.isList;exact b5 e
 have a2:l2<J.heap.objs.size:=by obtain⟨_,e,_⟩:=U.isList;exact b5 e
 refine call_zip_2 pl.isList U.isList λh' hz ac al am ap hsz hk=>?_
 refine tI (s:={ J with heap:=h' }) hz ?_
 have I2:L2.Inv X kL σ H1 { J with heap:=h',toks:=J.toks }:=O.kept (t':=J.toks) hk
 refine⟨_,_,_,_,H1,rfl,I2,Ud _ _ _ _ _ l1 l2 (zipApart_new a1 a2),⟨hz,ac,⟨_,_,al⟩,am,ap⟩,λb hb=>?_,q⟩
 simp only[br,dc,or_false] at hb
 have Y:J.heap.objs.size<=b:=by rcases hb with rfl | rfl | rfl | rfl | rfl <;> grind
 have fp:=O.wY (b:=b) (H':=H1) Y (O.hok.fresh Y)
 exact fp
def aK.zip{H:Hp}{ds es:List D}{xs ys:List V}{i:Nat}{x y:V}(r:aK K H ds xs)(r':aK K H es ys)(hx:xs[i]?=some x)(hy:ys[i]?=some y):∃d e,(fC ds es)[i]?=some (.tup [d,e])/\Rep K H d x/\Rep K H e y:=by
 obtain⟨d,hd,J⟩:=r.FQ hx
 obtain⟨e,O,U⟩:=r'.FQ hy
 refine⟨d,e,?_,J,U⟩
 unfold fC
 rw[sj,hd,O]
theorem Pu{H:Hp}{a b:aT}{ds es:List D}:zJ K H (fC ds es) (λH'=>H' a=some (.lst ds)/\H' b=some (.lst es)) (Itz K a b):=λH3 H' _ hr hk=>by
 obtain⟨vs,O,U⟩:=hr a _ hk.1
 obtain⟨us,Y,Z⟩:=hr b _ hk.2
 have hl:(fC ds es).length=min ds.length es.length:=by unfold fC;rw[y8]
 refine⟨λi hi=>?_,?_⟩
 ·rw[hl] at hi
  have h1:i<vs.length:=by rw[←U.length];grind
  have h2:i<us.length:=by rw[←Z.length];grind
  refine⟨⟨vs,us,vs[i],us[i],cV.of O,cV.of Y,by simp,by simp⟩,λv am y=>?_⟩
  obtain⟨T,x,y,rfl,J,rfl,ac⟩:=y
  obtain⟨hx,hy⟩:=ac vs us (cV.of O) (cV.of Y)
  obtain⟨d,e,al,rd,re⟩:=aK.zip U Z hx hy
  exact⟨TK.fresh J,hr.tup J,_,al,.tup aZ (.cons (rd.mono (TK.fresh J)) (.cons (re.mono (TK.fresh J)) .nil))⟩
 ·rw[hl]
  refine⟨vs,us,cV.of O,cV.of Y,?_⟩
  rw[←U.length,←Z.length]
  grind
def aaG{a b:eT}{ta tb:bK}{p pos pt:Pos}(hm:X.mg "zip" = none)(ha:aF X a ta)(hb:aF X b tb)(hg:Gl X "zip":=by rfl)(hs:bS [a,b] X.env=[(false,gN a X.env),(false,gN b X.env)]:=by rfl)
  (hs1:bS [a,b] X.env=(false,gN a X.env)::bS [b] X.env:=by rfl) (hs2:bS [b] X.env=(false,gN b X.env)::bS [] X.env:=by rfl) (hs3:bS [b] X.env=[(false,gN b X.env)]:=by rfl):tM X (.Tuple elts kt pt) (.Call (.Name "zip" p) [a,b] [] pos) (izp ta tb) :=
 lQ (aa0 hg hm (fL ha (fL hb rM hs2) hs1) hs hs3) λ_ _ _ ⟨Y,H3,R3,Z,hr,t,k⟩=>by
  refine⟨Y,H3,λds H1=>(match ds with | [x,y]=>zpk x y H1 R3 | _=>False),Z,hr,t,λds vs ac Ha U O rs J=>?_⟩
  cases rs with
  |nil=>exact J.elim
  |cons r1 r2=>
   cases r2 with
   |nil=>exact J.elim
   |cons r2 r3=>
    cases r3 with
    |cons _ _=>exact J.elim
    |nil=>
     cases r1 with
     |ref x=>
      cases r2 with
      |ref y=>
       (delta zpk at J;dsimp only at J)
       split at J
       ·rename_i ds es hx hy
        obtain⟨vs,ga,ra⟩:=O x _ hx
        obtain⟨us,gb,rb⟩:=O y _ hy
        exact⟨x,y,rfl,⟨vs,cV.of ga⟩,⟨us,cV.of gb⟩,k _ _ _ _ _ U O Pu J⟩
       ·exact J.elim
      |_=>exact J.elim
     |_=>exact J.elim
end
end L3
namespace L3
open PySem PySem.Spec PyProof.Rows L2
def Vals.ac6{xs:List V}{us:List af}{x:V}{u:af}(h:Vals xs us)(r:RelV x u):Vals (xs++[x]) (us++[u]):=Paired.snoc h r
section
variable{X:Cx}
def boot_reversed:iF "reversed" = some (.type "reversed"):=by rfl
def boot_list:iF "list" = some (.type "list"):=by rfl
end
end L3
namespace L3
open PySem PySem.Spec PyProof.Rows L2
inductive Az(K:ag):D->af->Prop
 |str (x:Str) (t:Tok):Az K (.str x) (.str x t)
 |int (i:Int) (t:Tok):Az K (.int i) (.int i t)
 |tupI {a:aT} {ns:List Int}:KTp K a (ns.map V.int)->Az K (.ktup (ns.map D.int)) (.ref a)
variable{K:ag}
def Az.rep{H:Hp}{d:D}{v:af}(r:Az K d v):∃y,RelV y v/\Rep K H d y:=by
 cases r with
 |str x t=>exact⟨.str x,⟨t,rfl⟩,.str x⟩
 |int i t=>exact⟨.int i,⟨t,rfl⟩,.int i⟩
 |tupI h=>exact⟨.ref _,rfl,.ktup h (aK.ints _)⟩
inductive Ao(w:da)(K:ag):List B0->List (Str×D)->Prop
 |nil:Ao w K [] []
 |cons {k:Str} {d:D} {t:Tok} {v:af} {es:List B0} {zp:List (Str×D)}:Az K d v->Ao w K es zp->Ao w K (⟨hashStr w k,.str k t,v⟩::es) ((k,d)::zp)
structure DC(K:ag)(w:da)(a:aT)(zp:List (Str×D)):Prop where
 ob:∃o es ep,K.lookup a=some o/\o.ExactDict/\o.data=.dict es ep/\Ao w K es.toList zp
 nd:(zp.map (·.1)).Nodup
 ns:(a==me)=false
theorem Ao.pairs{P:cw}{w:da}{K:ag}:∀ {es:List B0} {zp:List (Str×D)},Ao w K es zp->∃vs:List (Key×af),Pairs (bA P w) es vs/\vs.map (·.1)=zp.map (λp=>(AY p.1:Key)) /\
  (∀e∈es,∃k,(bA P w).is k e.key=true/\e.hash=(bA P w).hash k)/\(∀z d,zp.lookup z=some d->∃v,tw vs (.inr z)=some v/\Az K d v)/\∀z,zp.lookup z=none->tw vs (.inr z)=none
 |_,_,.nil=>⟨[],.nil,rfl,by simp,by simp,λz _=>rfl⟩
 |_,_,.cons (k:=k) (d:=d) (t:=t) (v:=v) r h=>by
  obtain⟨vs,h1,h2,h3,h4,h5⟩:=Ao.pairs (P:=P) h
  refine⟨(.inr k,v)::vs,.cons (lZ P w k t) rfl h1,by rw[aE,h2];rfl,?_,?_,?_⟩
  ·intro e U
   rcases br.mp U with rfl | U
   ·exact⟨.inr k,lZ P w k t,rfl⟩
   ·exact h3 e U
  ·intro z Z J
   by_cases e:z=k
   ·subst e
    rw[i8,beq_self_eq_true] at J
    cases J
    exact⟨v,by unfold tw;rw[gT (by simp)];rfl,r⟩
   ·have Y:(z==k)=false:=beq_eq_false_iff_ne.mpr e
    rw[i8,Y] at J
    obtain⟨v',O,q2⟩:=h4 z Z J
    refine⟨v',?_,q2⟩
    unfold tw at O ⊢
    rw[gi (by simp;exact λq=>e q.symm)]
    exact O
  ·intro z J
   have e:z≠k:=by
    rintro rfl
    rw[i8,beq_self_eq_true] at J
    cases J
   have Y:(z==k)=false:=beq_eq_false_iff_ne.mpr e
   rw[i8,Y] at J
   have O:=h5 z J
   unfold tw at O ⊢
   rw[gi (by simp;exact λq=>e q.symm)]
   exact O
variable{zp:List (Str×D)}
def DC.dict{P:cw}{w:da}{a:aT}{h:fA}(c:DC K w a zp)(hk:K.In h):∃vs:List (Key×af),h.DictOf (bA P w) a vs/\(∀z d,zp.lookup z=some d->∃v,tw vs (.inr z)=some v/\Az K d v)/\∀z,zp.lookup z=none->tw vs (.inr z)=none:=by
 obtain⟨o,es,ep,h1,h2,J,O⟩:=c.ob
 obtain⟨vs,p1,p2,U,Y,Z⟩:=Ao.pairs (P:=P) O
 refine⟨vs,⟨o,es,ep,hk a o h1,h2,J,λe he=>U e (by simpa using he),p1,?_⟩,Y,Z⟩
 rw[p2]
 have:=c.nd
 rw[ax,dS] at this ⊢
 exact this.imp λh q=>h (Sum.inr.inj q)
section
variable{X:Cx}
def tKd(K:ag)(zp:List (Str×D))(te:TE):TE:=λσ H Q=>te σ H λx H1=>∃z d,x=.str z/\zp.lookup z=some d/\∀v y,RelV y v->Rep K H1 d y->Q y H1
def adm{x:Str}{a:aT}{e:eT}{te:TE}{p pos:Pos}(hg:Gl X x)(hm:X.mg x=some (.ref a))(c:DC X.K X.w a zp)(he:PE X e te)(hs:Ot e)(hd:(x==("__debug__" : Str))=false:=by decide):PE X (.Subscript (.Name x p) e pos) (tKd X.K zp te):=by
 intro kL s σ H Q I h
 refine Kv AU.lookup hs (zU I hg hm (cC (he kL s σ H _ I h) λiv s2 Z=>?_) hd)
 obtain⟨y,H2,U,ry,z,d,ey,hl,q2⟩:=Z
 subst ey
 obtain⟨vs,Y,h1,_⟩:=c.dict (P:=X.prog) U.qz
 obtain⟨v,hv,rk⟩:=h1 z d hl
 obtain⟨y,J,O⟩:=rk.rep (H:=H2)
 exact⟨Y.typeIs,IY (vz (k:=.inr z) ry) Y.mapOf hv ⟨y,H2,U.tok _,J,q2 v y J O⟩⟩
def R4{x:Str}{e:eT}{te:bK}{p pos:Pos}(hg:Gl X x)(hm:∃a,X.mg x=some (.ref a)/\DC X.K X.w a zp)(he:aF X e te)(hs:Ot e:=by exact λ_ _=>rfl)(hd:(x==("__debug__" : Str))=false:=by decide) :
  aF X (.Subscript (.Name x p) e pos) (UL zp te):=by
 obtain⟨a,hm,c⟩:=hm
 refine aY (adm hg hm c he hs hd) λ_ _ _ h=>?_
 obtain⟨Z,H3,Q3,sr,hr,t,k⟩:=h
 refine⟨Z,H3,_,sr,hr,t,λx v ac Ha O U rx J=>?_⟩
 cases rx with
 |str z=>
  (delta kdk at J;dsimp only at J)
  split at J
  ·rename_i d hl
   exact⟨z,d,rfl,hl,λv y _ Y=>k _ _ _ _ O U Y J⟩
  ·exact J.elim
 |_=>exact J.elim
end
def Mx:xw (.type "str") "__reversed__" = pure none:=by
 rw[nc,kc]
 kernel_rfl
def Ph:Pw "reversed" "__init__" "object.__init__" :=
 .of (owner := "object") (n := "__init__") (by rw[nc,kc];kernel_rfl) (by decide +kernel) (by decide +kernel) (by decide +kernel)
  (by first | exact .inl (by decide +kernel) | exact .inr (by decide +kernel)) (by rw[qA];kernel_rfl)
def FW:TypeCalled "reversed" "reversed.__new__" "object.__init__" :=
 ⟨by decide +kernel,by decide +kernel,⟨_,_,F.mro_reversed⟩,F.made_reversed,by decide +kernel,by rw[qA];kernel_rfl,Ph⟩
def lM:Pw "reversed" "__next__" "reversed.__next__" :=
 .of (owner := "reversed") (n := "__next__") (by rw[nc,kc];kernel_rfl) (by decide +kernel) (by decide +kernel) (by decide +kernel)
  (by first | exact .inl (by decide +kernel) | exact .inr (by decide +kernel)) (by rw[qA];kernel_rfl)
def kY:EA OS "reversed.__next__" = some md.«reversed.__next__»:=B9 (by kernel_rfl)
def yH:Lv.lookup (M0 ['d','e','s','r','e','v','e','r'].reverse)=some Manifest.sig_reversed:=by kernel_rfl
def mW(a:af):F8 "reversed.__next__" ⟨[a],[]⟩:=by
 unfold F8
 rw[BG (id := "reversed.__next__") (n:=['_','_','t','x','e','n','_','_']) (o:=['d','e','s','r','e','v','e','r']) (by kernel_rfl) yH]
 kernel_rfl
def wR(a:af):F8 "reversed.__iter__" ⟨[a],[]⟩:=by
 unfold F8
 rw[BG (id := "reversed.__iter__") (n:=['_','_','r','e','t','i','_','_']) (o:=['d','e','s','r','e','v','e','r']) (by kernel_rfl) yH]
 kernel_rfl
def DR:Pw "reversed" "__iter__" "reversed.__iter__" :=
 .of (owner := "reversed") (n := "__iter__") (by rw[nc,kc];kernel_rfl) (by decide +kernel) (by decide +kernel) (by decide +kernel)
  (by first | exact .inl (by decide +kernel) | exact .inr (by decide +kernel)) (by rw[qA];kernel_rfl)
def uH:EA OS "reversed.__iter__" = some md.«dict_keyiterator.__iter__» :=
 EB (id' := "dict_keyiterator.__iter__") (by kernel_rfl) (by first | rfl | decide +kernel | (unfold String.splitOn;simp +decide [String.splitOnAux])) (by decide +kernel) (by kernel_rfl)
def Lg(x:Str)(t:Tok)(hfit:¬(x.length:Int)≥2 ^ 63):Meets (md.«reversed.__new__» ⟨[.type "reversed",.str x t],[]⟩) (λ_ R s=>R (.ok (.ret (.ref s.heap.objs.size))) { s with heap:=s.heap.push { cls:=.type "reversed",data:=.fields #[.str x t,ma ((x.length:Int)-1)] },toks:=s.toks+1+1 }) :=
 .of_wp λprog w A R s h=>by
  unfold md.«reversed.__new__»
  refine ab (pz (newClass_reversed _) ?_)
  try dsimp only
  refine ab (pz (a:=()) (by first | rfl | kernel_rfl) ?_)
  refine ab (pz (a:=()) (by first | rfl | kernel_rfl) ?_)
  try dsimp only
  refine ab (mT (T := "str") (v:=.str x t) rfl Mx ?_)
  refine ab ?_
  wp_delta
  refine ab (qB (T := "str") (v:=.str x t) (b:=false) rfl (by rw[qA];kernel_rfl) ?_)
  try dsimp only
  refine ab (mT (T := "str") (v:=.str x t) rfl BH.lookup ?_)
  try dsimp only
  rw[if_pos (by decide)]
  refine av ?_
  rw[if_neg (by decide)]
  refine ab (len_str hfit ?_)
  refine ab (pz (a:=some _) rfl ?_)
  try dsimp only
  refine ab ?_
  unfold LA
  exact fR (av ⟨_,rfl,h⟩)
def Jc(h:fA)(it:aT)(x:Str)(t:Tok)(i:Int):Prop:=h.get? it=some { cls:=.type "reversed",data:=.fields #[.str x t,ma i] }
section
variable{prog:cw}{w:da}{A:gu}{E:af->aw->Prop}{s:aw}{x:Str}{t:Tok}{it:aT}
def xr{Q:af->aw->Prop}(hfit:¬(x.length:Int)≥2 ^ 63)(h:Q (.ref s.heap.objs.size) { s with heap:=s.heap.push { cls:=.type "reversed",data:=.fields #[.str x t,ma ((x.length:Int)-1)] },toks:=s.toks+1+1 }) :
  a9 (cy prog w) A (call (.type "reversed") [.str x t]) Q E s :=
 HP FW (by decide) (F.typeCall_reversed_1 _) (F.newCall_reversed_1 _) (λobj=>F.args_object_init_2 obj _) F.entry_reversed_new (Lg x t hfit) ⟨⟨_,ba _ rfl,rfl⟩,h⟩
def oH{i:Int}(h:Jc s.heap it x t i):s.TypeIs (.ref it) "reversed":=⟨_,h,rfl⟩
def Ue{i:Nat}{c:Nat}{Q:Option af->aw->Prop}(hit:Jc s.heap it x t (i:Int))(hfit:¬(x.length:Int)≥2 ^ 63)(hc:x.cps[i]?=some c)
  (hQ:∀h' tk u,Jc h' it x t ((i:Int)-1)->kH it s.heap h'->Q (some (.str ⟨#[c]⟩ u)) { s with heap:=h',toks:=tk }):a9 (cy prog w) A (l9 (.ref it)) Q E s:=by
 have U:=oH hit
 have J:s.heap.get? it=some { cls:=.type "reversed",data:=.fields #[.str x t,ma (i:Int)] }:=hit
 unfold l9
 refine ab (nL (fb (name:=fE "__next__") U lM (fN lM U kY ?_ (mW _))))
 unfold md.«reversed.__next__»
 refine ab (pz (a:=(eB it,[])) rfl ?_)
 try dsimp only
 refine ab (fq J rfl (x:=.str x t) rfl ?_)
 refine ab (fq J rfl (x:=ma (i:Int)) rfl ?_)
 show a9 _ _ (if (i:Int)<0 then _ else _) _ _ s
 rw[if_neg (by omega)]
 refine ab (mT (T := "str") (v:=.str x t) rfl BH.lookup ?_)
 rw[if_neg (by decide)]
 have Y:i<x.cps.size:=(AH.mp hc).1
 have O:(ES (i:Int) x.length).bind (x.cps[·]?)=some c:=by
  have e:ES (i:Int) x.length=some i:=by
   unfold ES
   have h1:¬((i:Int)<0):=by omega
   have h2:(i:Int)<(x.length:Int):=by show (i:Int)<(x.cps.size:Int);omega
   simp only[h1,if_false]
   rw[if_pos (by simp[h2]),eP]
  rw[e];exact hc
 have hr:(decide ((i:Int) < -(2 ^ 63:Int))||decide ((i:Int)≥2 ^ 63))=false:=by
  have h2:(i:Int)<(x.length:Int):=by show (i:Int)<(x.cps.size:Int);omega
  have Z:¬((i:Int) < -(2 ^ 63:Int)):=by omega
  have h4:¬((i:Int)≥2 ^ 63):=by omega
  rw[decide_eq_false Z,decide_eq_false h4];rfl
 refine ab (wpAny_mkInt ?_)
 refine ab (nL (getItem_str hr O ?_))
 show a9 _ _ (DD (eB it) 1 >>= _) _ _ _
 refine ab (fq (s:={ s with toks:=s.toks+1+1 }) J rfl (x:=ma (i:Int)) rfl ?_)
 show a9 _ _ (setField (eB it) 1 (ma ((i:Int)-1)) >>= _) _ _ _
 refine ab (iO (s:={ s with toks:=s.toks+1+1 }) J (by simp) λh1 hz hs=>?_)
 exact av ⟨_,rfl,av (hQ h1 _ _ hz hs)⟩
def Yk{Q:Option af->aw->Prop}(hh:A.handled=none)(hit:Jc s.heap it x t (-1))(hQ:∀h',(∀b o,b≠it->s.heap.get? b=some o->h'.get? b=some o)->Q none { s with heap:=h' }):a9 (cy prog w) A (l9 (.ref it)) Q E s:=by
 have U:=oH hit
 have J:s.heap.get? it=some { cls:=.type "reversed",data:=.fields #[.str x t,ma (-1)] }:=hit
 unfold l9
 refine ab (nL (fb (name:=fE "__next__") U lM (fN lM U kY ?_ (mW _))))
 unfold md.«reversed.__next__»
 refine ab (pz (a:=(eB it,[])) rfl ?_)
 try dsimp only
 refine ab (fq J rfl (x:=.str x t) rfl ?_)
 refine ab (fq J rfl (x:=ma (-1)) rfl ?_)
 show a9 _ _ (if (-1:Int)<0 then _ else _) _ _ s
 rw[if_pos (by omega)]
 refine ab (xA ?_)
 refine ab ?_
 wp_delta
 refine ab (iO J (by simp) λh1 Z hs=>?_)
 refine iO (s:={ s with heap:=h1 }) Z (by simp) λh2 ac O=>?_
 refine ab ?_
 show a9 _ _ (NX (.type "StopIteration") [] >>= _) _ _ _
 refine ab ?_
 simp only[NX,OT]
 refine ab (fR ?_ (by size_fits))
 refine ab (m:=wq _ _) (pz (a:=jI) (by first | rfl | (simp only[wq];rfl)) ?_)
 refine fR ?_ (by size_fits)
 simp only[OU]
 refine ab (FE ?_)
 rw[show A.in1.handled=none from hh]
 refine ab (av (KL ?_))
 refine ab (qB (T := "StopIteration") (b:=true) ⟨_,ba _ rfl,rfl⟩ AI ?_)
 exact av (hQ _ λb o Y e=>ai _ (ai _ ((O.2 b Y).trans ((hs.2 b Y).trans e))))
def CT{i:Int}{Q:af->aw->Prop}(hit:Jc s.heap it x t i)(h:Q (.ref it) s):a9 (cy prog w) A (FY (.ref it)) Q E s:=by
 have J:=oH hit
 refine A7 J DR (fN DR J uH ?_ (wR _))
 show a9 _ _ (ret (.ref it)) _ _ s
 exact av ⟨_,rfl, "reversed",_,J,lM.lookup,h⟩
end
def Itv(x:Str):It:=⟨λi _=>i<x.cps.size,λi H v H'=>H'=H/\∃c,x.cps[x.cps.size-1-i]?=some c/\v=.str ⟨#[c]⟩,λi _=>x.cps.size<=i⟩
def S5{P:cw}{w:da}{tg:eT}{x:Str}{t:Tok}(it:aT)(hfit:¬(x.length:Int)≥2 ^ 63) :
  Turn P w K tg (Itv x) [it] it (λi h=>i<=x.cps.size/\Jc h it x t ((x.cps.size:Int)-1-(i:Int))) where
 mem:=bX.mpr rfl
 obj:=by
  rintro i h ⟨_,e⟩ b J
  rw[bX.mp J]
  exact⟨_,e,λv z=>nomatch z⟩
 keep:=by
  rintro i h h' ⟨l,e⟩ k
  exact⟨l,k it (bX.mpr rfl) _ e⟩
 item:=by
  intro X U Y Z hc i kL s σ H E I O st hg
  subst U Y Z
  obtain⟨f0,f1,f2,f3,f4,f5⟩:=O it (bX.mpr rfl)
  have ac:i<x.cps.size:=hg
  obtain⟨_,e⟩:=st
  have ei:(x.cps.size:Int)-1-(i:Int)=((x.cps.size-1-i:Nat):Int):=by omega
  rw[ei] at e
  have hx:x.cps[x.cps.size-1-i]?=some (x.cps[x.cps.size-1-i]'(by omega)):=eW (by omega)
  refine Ue e hfit hx λh' tk u e' sb=>?_
  have e2:((x.cps.size-1-i:Nat):Int)-1=(x.cps.size:Int)-1-((i+1:Nat):Int):=by omega
  rw[e2] at e'
  have I1:L2.Inv X kL σ H { s with heap:=h',toks:=tk }:=I.turned (λb o J q=>(sb.2 b J).trans q) f0 f1 f3 f4 f5
  exact⟨_,rfl,ye (s:={ s with heap:=h',toks:=tk }) e' rfl rfl (by decide) ⟨.str _,H,I1,⟨u,rfl⟩,⟨rfl,_,hx,rfl⟩,⟨ac,e'⟩,λb J=>(O b J).1⟩⟩
 done:=by
  intro X U Y Z hc i kL s σ H E I O st hg
  subst U Y Z
  obtain⟨f0,f1,f2,f3,f4,f5⟩:=O it (bX.mpr rfl)
  have hi:i=x.cps.size:=pb st.1 hg
  subst hi
  have e:=st.2
  rw[show (x.cps.size:Int)-1-(x.cps.size:Int) = -1 from by omega] at e
  exact Yk (I.ok.hd hc) e λh' k=>⟨rfl,I.turned (t':=s.toks) (λb o J q=>k b o J q) f0 f1 f3 f4 f5⟩
 self:=λA i s Q E st h=>CT st.2 h
section
variable{X:Cx}{tg:eT}
def aew(te:TE):TI:=λσ H R=>te σ H λx H1=>∃z,x=.str z/\z.length<=cf/\R (Itv z) H1
def Y8{a:eT}{ta:TE}{p pos:Pos}(hg:Gl X "reversed")(hm:X.mg "reversed" = none)(ha:PE X a ta)(hs:bS [a] X.env=[(false,gN a X.env)]:=by rfl):PI X tg (.Call (.Name "reversed" p) [a] [] pos) (aew ta):=by
 intro kL s σ H R I h
 refine ND (eX I hg hm boot_reversed (fe ?_ hs rfl))
 rw[hs]
 refine rL (cC (ha kL s σ H _ I h) λv J Y=>?_)
 obtain⟨x,H1,U,Z,z,ex,hz,q⟩:=Y
 subst ex
 obtain⟨t,rfl⟩:=Z
 refine sL ?_
 have O:¬(z.length:Int)≥2 ^ 63:=by rw[aW] at hz;omega
 refine xr O ?_
 have e0:Jc (J.heap.push { cls:=.type "reversed",data:=.fields #[.str z t,ma ((z.length:Int)-1)] }) J.heap.objs.size z t ((z.cps.size:Int)-1-((0:Nat):Int)):=by
  have e:(z.cps.size:Int)-1-((0:Nat):Int)=(z.length:Int)-1:=by show _=(z.cps.size:Int)-1;omega
  rw[e]
  exact ba _ rfl
 have I2:L2.Inv X kL σ H1 { J with heap:=J.heap.push { cls:=.type "reversed",data:=.fields #[.str z t,ma ((z.length:Int)-1)] },toks:=J.toks+1+1 }:=U.kept λb o e=>ai _ e
 refine CT (s:={ J with heap:=J.heap.push { cls:=.type "reversed",data:=.fields #[.str z t,ma ((z.length:Int)-1)] },toks:=J.toks+1+1 }) e0 ?_
 refine⟨J.heap.objs.size,[J.heap.objs.size],_,_,H1,rfl,I2,S5 _ O,⟨eD _,e0⟩,λb hb=>?_,q⟩
 rw[bX.mp hb]
 exact U.wY (a8 _) (U.hok.fresh (a8 _))
def Qz{H:Hp}{z:Str}:zJ K H (lets z).reverse (λ_=>True) (Itv z):=λH3 H' Y hr _=>by
 have J:(lets z).length=z.cps.size:=by unfold lets;rw[ae,cS]
 refine⟨λi hi=>?_,by rw[uj,J];exact a8 _⟩
 rw[uj,J] at hi
 refine⟨hi,λx O y=>?_⟩
 obtain⟨e,c,U,rfl⟩:=y
 subst e
 refine⟨TK.refl,hr,.str ⟨#[c]⟩,?_,.str _⟩
 rw[DJ (by rw[J];exact hi),J]
 unfold lets
 rw[ay,jS,U]
 rfl
def ZG{e:eT}{te:bK}{p pos:Pos}(hm:X.mg "reversed" = none)(h:aF X e te)(hg:Gl X "reversed":=by rfl)(hs:bS [e] X.env=[(false,gN e X.env)]:=by rfl):tM X tg (.Call (.Name "reversed" p) [e] [] pos) (irv te) :=
 lQ (Y8 hg hm h hs) λ_ _ _ ⟨Y,H3,R3,Z,hr,t,k⟩=>⟨Y,H3,_,Z,hr,t,λx v ac Ha J O rx U=>by
  cases rx with
  |str z=>exact⟨z,rfl,U.1,k _ _ _ _ _ J O Qz U.2⟩
  |_=>exact U.elim⟩
end
end L3
namespace L3
open PySem PySem.Spec PyProof.Rows L2
end L3
namespace L3
open PySem PySem.Spec PyProof.Rows L2
section
variable{X:Cx}
def RP:ir X (B4 .Add) (bN X.K zH):=by
 intro kL s σ H x y v u Q I U Y h
 obtain⟨dx,dy,H3,Z,hr,O,J,t,k⟩:=h
 cases O with
 |int i=>
  cases J with
  |int j=>exact Wd kL s σ H _ _ v u Q I U Y ⟨i,j,rfl,rfl,k _ _ _ _ TK.refl hr (.int _) t⟩
  |_=>exact t.elim
 |str i=>
  cases J with
  |str j=>exact Bv kL s σ H _ _ v u Q I U Y ⟨i,j,rfl,rfl,t.1,k _ _ _ _ TK.refl hr (.str _) t.2⟩
  |_=>exact t.elim
 |_=>exact t.elim
def aan{i:Nat}{x:Str}{e:eT}{te:bK}{op:GV}{r:R3}{pos' pos:Pos}(hN:X.N.Nodup)(ho:ir X (B4 op) (bN X.K r))(he:aF X e te)(hi:X.N[i]?=some x:=by rfl)(hx:Loc X.env.scope x:=by first | exact vn rfl | exact ui rfl)
  (hf:X.fn x=true\/X.env.scope.names.lookup x=some .local:=by first | exact .inl rfl | exact .inr rfl | assumption):qg X (.AugAssign (.Name x pos') op e pos) (au3 i r te) :=
 gZ (aai (i:=i) (ti:=bN X.K r) hN hi hx he ho hf) λD0 σ H zz=>zz.ex λal H3 D3 U hr t k=>by
  simp only[au3] at t
  split at t
  ·rename_i d hd
   obtain⟨v,hv,rv⟩:=U.get _ _ hd
   refine⟨v,hv,al,H3,_,U,hr,t,λy u Y Ha J Z ry qa=>⟨d,y,Y,_,Z,rv.mono J,ry,qa,λz w am Hb O ac rz qb=>?_⟩⟩
   exact k.nx _ _ _ _ (J.trans O) ((U.mono (J.trans O)).set i rz) ac qb
  ·exact t.elim
end
end L3
namespace L3
open PySem PySem.Spec PyProof.Rows L2
structure Uw(z TI TO i1 i2:aT)(f1 f2:List aT):Prop where
 TIz:TI≠z
 TOz:TO≠z
 i1z:i1≠z
 i2z:i2≠z
 TITO:TI≠TO
 TIi1:TI≠i1
 TIi2:TI≠i2
 TOi1:TO≠i1
 TOi2:TO≠i2
 i12:i1≠i2
 a1:z∉f1/\TO∉f1/\i2∉f1
 a2:z∉f2/\TO∉f2/\i1∉f2
section
variable{prog:cw}{w:da}{A:gu}{E:af->aw->Prop}{s:aw}
variable{z TI TO i1 i2:aT}{f1 f2:List aT}{n1 n2 k:Nat}{P1 P2:Nat->af->Prop}{S1 S2:Nat->fA->Prop}{a b:af}
def xQ{Q:Option af->aw->Prop}(D:Uw z TI TO i1 i2 f1 f2)(D1:ME prog w A.in1 i1 f1 n1 P1 S1)(D2:ME prog w A.in1 i2 f2 n2 P2 S2)(h1:k<n1)(h2:k<n2)
  (hz:AG s.heap z TI TO .none) (hTI:mi s.heap TI (.ref i1) (.ref i2)) (hTO:mi s.heap TO a b) (st1:S1 k s.heap) (st2:S2 k s.heap)
  (hQ:∀ h' tk x y,P1 k x→P2 k y→AG h' z TI TO (ma s.heap.objs.size)→mi h' TO x y→S1 (k + 1) h'→S2 (k + 1) h'→mi h' s.heap.objs.size x y →
   (∀c o,c≠z->c≠TO->c≠i1->c≠i2->s.heap.get? c=some o->h'.get? c=some o)->Q (some (.ref s.heap.objs.size)) { s with heap:=h',toks:=tk }) :
  a9 (cy prog w) A (l9 (.ref z)) Q E s:=by
 have hT:s.TypeIs (.ref z) "zip":=⟨_,hz,rfl⟩
 unfold l9
 refine ab (nL (fb (name:=fE "__next__") hT ng (fN ng hT xB ?_ (wt _))))
 show a9 _ _ (DD (.ref z) 2 >>= _) _ _ _
 refine ab (fq hz rfl (x:=.bool false) rfl ?_)
 show a9 _ _ (DD (.ref z) 3 >>= _) _ _ _
 refine ab (fq hz rfl (x:=.ref TI) rfl ?_)
 refine ab (iq hTI rfl ?_)
 show a9 _ _ (eR (.ref z) >>= _) _ _ _
 refine ab ?_
 unfold eR
 refine ab (fq hz rfl (x:=.none) rfl (av ?_))
 simp only[if_true]
 refine ab (xA ?_)
 refine ab (fq hz rfl (x:=.ref TO) rfl ?_)
 refine ab (iO hz (by simp) λbn a7 Z=>?_)
 replace a7:AG bn z TI TO .ellipsis:=a7
 refine ab ?_
 simp only[I0,LB,r9,AJ]
 have ne:∀ {c d:aT} {f:List aT},c∈f->d∉f->c≠d:=λJ hd e=>hd (e▸J)
 refine ab (ab (BI ?_))
 show a9 _ _ (eJ (.ref i1) >>= _) _ _ _
 have bu:S1 k bn:=D1.frame _ _ _ st1 λc J o e=>(Z.2 c (ne J D.a1.1)).trans e
 have bv:S2 k bn:=D2.frame _ _ _ st2 λc J o e=>(Z.2 c (ne J D.a2.1)).trans e
 refine ab (D1.item k { s with heap:=bn } _ _ h1 bu λx bw bd hx bx ac=>av ?_)
 have a4:mi bw TO a b:=(ac.2 TO D.TOi1).trans ((Z.2 TO D.TOz).trans hTO)
 refine ab (iq (s:={ s with heap:=bw,toks:=bd }) a4 rfl ?_)
 refine ab (x8 (s:={ s with heap:=bw,toks:=bd }) a4 λbp al am=>?_)
 replace al:mi bp TO x b:=al
 refine ab (A8 (av ?_))
 have b0:S1 (k+1) bp:=D1.frame _ _ _ bx λc J o e=>(am.2 c (ne J D.a1.2.1)).trans e
 have b2:S2 k bp:=D2.frame _ _ _ bv λc J o e=>(am.2 c (ne J D.a2.2.1)).trans ((ac.2 c (ne J D.a2.2.2)).trans e)
 refine ab (ab (BI ?_))
 show a9 _ _ (eJ (.ref i2) >>= _) _ _ _
 refine ab (D2.item k { s with heap:=bp,toks:=bd } _ _ h2 b2 λy b3 Y hy b4 ap=>av ?_)
 have a5:mi b3 TO x b:=(ap.2 TO D.TOi2).trans al
 refine ab (iq (s:={ s with heap:=b3,toks:=Y }) a5 rfl ?_)
 refine ab (x8 (s:={ s with heap:=b3,toks:=Y }) a5 λO U a0=>?_)
 replace U:mi O TO x y:=U
 refine ab (A8 (av (av ?_)))
 have ca:S1 (k+1) O:=D1.frame _ _ _ b0 λc J o e=>(a0.2 c (ne J D.a1.2.1)).trans ((ap.2 c (ne J D.a1.2.2)).trans e)
 have cb:S2 (k+1) O:=D2.frame _ _ _ b4 λc J o e=>(a0.2 c (ne J D.a2.2.1)).trans e
 refine ab (iq (s:={ s with heap:=O,toks:=Y }) U rfl ?_)
 refine ab (MG ?_)
 have hsz:O.objs.size=s.heap.objs.size:=by rw[a0.1,ap.1,am.1,ac.1,Z.1]
 have bg:AG O z TI TO .ellipsis:=(a0.2 z D.TOz.symm).trans ((ap.2 z D.i2z.symm).trans ((am.2 z D.TOz.symm).trans ((ac.2 z D.i1z.symm).trans a7)))
 have cc:∀c o,c≠z->c≠TO->c≠i1->c≠i2->s.heap.get? c=some o->O.get? c=some o:=λc o c1 c2 c3 c4 e=>
  (a0.2 c c2).trans ((ap.2 c c4).trans ((am.2 c c2).trans ((ac.2 c c3).trans ((Z.2 c c1).trans e))))
 have a6:z<O.objs.size:=b5 bg
 show a9 _ _ (uk (.ref z) (.ref O.objs.size) >>= _) _ _ _
 refine ab ?_
 unfold uk
 have cd:AG (O.push { cls:=.type "tuple",data:=.seq #[x,y] }) z TI TO .ellipsis:=ai _ bg
 refine ab (iO (s:={ s with heap:=O.push { cls:=.type "tuple",data:=.seq #[x,y] },toks:=Y }) cd (by simp) λce be bi=>?_)
 replace be:AG ce z TI TO (ma O.objs.size):=be
 refine iO (s:={ s with heap:=ce,toks:=Y }) be (by simp) λbq a3 bl=>?_
 replace a3:AG bq z TI TO (ma O.objs.size):=a3
 have up:∀c o,c≠z->O.get? c=some o->bq.get? c=some o:=λc o c1 e=>(bl.2 c c1).trans ((bi.2 c c1).trans (ai _ e))
 have bm:mi bq O.objs.size x y:=(bl.2 _ (nv a6)).trans ((bi.2 _ (nv a6)).trans (ba _ rfl))
 rw[hsz] at a3 bm
 refine av ⟨_,rfl,av ?_⟩
 show Q (some (.ref O.objs.size)) _
 rw[hsz]
 exact hQ bq Y x y hx hy a3 (up _ _ D.TOz U) (D1.frame _ _ _ ca λc J o e=>up c o (ne J D.a1.1) e) (D2.frame _ _ _ cb λc J o e=>up c o (ne J D.a2.1) e) bm λc o c1 c2 c3 c4 e=>up c o c1 (cc c o c1 c2 c3 c4 e)
def xg(prog:cw)(w:da)(A:gu)(it:aT)(S:fA->Prop):Prop:=∀(s:aw) (Q:af->aw->Prop) (E:af->aw->Prop),S s.heap ->
 (∀h' e,KO it s.heap h'->(∃o,h'.get? e=some o/\o.cls=.type "StopIteration")->E (.ref e) { s with heap:=h' })->a9 (cy prog w) A (eJ (.ref it)) Q E s
def DX{Q:Option af->aw->Prop}(D:Uw z TI TO i1 i2 f1 f2)(fr1:∀h h':fA,S1 k h->(∀b∈f1,∀o,h.get? b=some o->h'.get? b=some o)->S1 k h')(fr2:∀h h':fA,S2 k h->(∀b∈f2,∀o,h.get? b=some o->h'.get? b=some o)->S2 k h')
  (hend:xg prog w A.in1 i1 (S1 k)\/((k<n1/\ME prog w A.in1 i1 f1 n1 P1 S1)/\xg prog w A.in1 i2 (S2 k)))
  (hz:AG s.heap z TI TO .none) (hTI:mi s.heap TI (.ref i1) (.ref i2)) (hTO:mi s.heap TO a b) (st1:S1 k s.heap) (st2:S2 k s.heap)
  (hQ:∀h' tk,(∀c o,c≠z->c≠TO->c≠i1->c≠i2->s.heap.get? c=some o->h'.get? c=some o)->Q none { s with heap:=h',toks:=tk }) :
  a9 (cy prog w) A (l9 (.ref z)) Q E s:=by
 have hT:s.TypeIs (.ref z) "zip":=⟨_,hz,rfl⟩
 unfold l9
 refine ab (nL (fb (name:=fE "__next__") hT ng (fN ng hT xB ?_ (wt _))))
 have a3:∀h' e tk,(∀c o,c≠z->c≠TO->c≠i1->c≠i2->s.heap.get? c=some o->h'.get? c=some o)->(∃o,h'.get? e=some o/\o.cls=.type "StopIteration") ->
   a9 (cy prog w) A (do let r ←isInstance (.ref e) (Value.type "StopIteration");if r=true then pure none else throw (.ref e)) Q E { s with heap:=h',toks:=tk }:=by
  rintro h' e tk hk ⟨o,ho,hc⟩
  refine ab (qB (T := "StopIteration") (b:=true) ⟨o,ho,hc⟩ AI ?_)
  exact av (hQ h' tk hk)
 show a9 _ _ (DD (.ref z) 2 >>= _) _ _ _
 refine ab (fq hz rfl (x:=.bool false) rfl ?_)
 show a9 _ _ (DD (.ref z) 3 >>= _) _ _ _
 refine ab (fq hz rfl (x:=.ref TI) rfl ?_)
 refine ab (iq hTI rfl ?_)
 show a9 _ _ (eR (.ref z) >>= _) _ _ _
 refine ab ?_
 unfold eR
 refine ab (fq hz rfl (x:=.none) rfl (av ?_))
 simp only[if_true]
 refine ab (xA ?_)
 refine ab (fq hz rfl (x:=.ref TO) rfl ?_)
 refine ab (iO hz (by simp) λa4 al Y=>?_)
 replace al:AG a4 z TI TO .ellipsis:=al
 refine ab ?_
 simp only[I0,LB,r9,AJ]
 have ne:∀ {c d:aT} {f:List aT},c∈f->d∉f->c≠d:=λhc hd e=>hd (e▸hc)
 refine ab (ab (BI ?_))
 show a9 _ _ (eJ (.ref i1) >>= _) _ _ _
 have a5:S1 k a4:=fr1 _ _ st1 λc hc o e=>(Y.2 c (ne hc D.a1.1)).trans e
 have bi:S2 k a4:=fr2 _ _ st2 λc hc o e=>(Y.2 c (ne hc D.a2.1)).trans e
 rcases hend with hend | ⟨⟨bl,D1⟩,hend⟩
 ·refine ab (hend { s with heap:=a4 } _ _ a5 λa0 e J he=>?_)
  obtain⟨oe,O,Z⟩:=he
  have a6:AG a0 z TI TO .ellipsis:=J _ _ D.i1z.symm al
  have ap:e≠z:=λx=>by subst x;rw[a6] at O;cases O;simp at Z
  refine iO (s:={ s with heap:=a0 }) a6 (by simp) λbg _ U=>?_
  exact a3 bg e s.toks (λc o c1 _ c3 _ x=>(U.2 c c1).trans (J c o c3 ((Y.2 c c1).trans x))) ⟨oe,(U.2 e ap).trans O,Z⟩
 ·refine ab (D1.item k { s with heap:=a4 } _ _ bl a5 λx a0 ac hx bq J=>av ?_)
  have am:mi a0 TO a b:=(J.2 TO D.TOi1).trans ((Y.2 TO D.TOz).trans hTO)
  refine ab (iq (s:={ s with heap:=a0,toks:=ac }) am rfl ?_)
  refine ab (x8 (s:={ s with heap:=a0,toks:=ac }) am λbg bn U=>?_)
  refine ab (A8 (av ?_))
  have bm:S2 k bg:=fr2 _ _ bi λc hc o e=>(U.2 c (ne hc D.a2.2.1)).trans ((J.2 c (ne hc D.a2.2.2)).trans e)
  refine ab (ab (BI ?_))
  show a9 _ _ (eJ (.ref i2) >>= _) _ _ _
  refine ab (hend { s with heap:=bg,toks:=ac } _ _ bm λbp e a7 he=>?_)
  obtain⟨oe,O,Z⟩:=he
  have bd:AG bp z TI TO .ellipsis:=a7 _ _ D.i2z.symm ((U.2 z D.TOz.symm).trans ((J.2 z D.i1z.symm).trans al))
  have ap:e≠z:=λx=>by subst x;rw[bd] at O;cases O;simp at Z
  refine iO (s:={ s with heap:=bp,toks:=ac }) bd (by simp) λbu _ be=>?_
  exact a3 bu e ac (λc o c1 c2 c3 c4 x=>(be.2 c c1).trans (a7 c o c4 ((U.2 c c2).trans ((J.2 c c3).trans ((Y.2 c c1).trans x))))) ⟨oe,(be.2 e ap).trans O,Z⟩
end
def Z5(x:Str)(t:Tok):Obj:={ cls:=.type "str_ascii_iterator",data:=.fields #[.str x t,.int 0 0] }
def Jq(l:aT):Obj:={ cls:=.type "list_iterator",data:=.fields #[.ref l,.int 0 0] }
abbrev zh2(h:fA)(o1 o2:Obj):fA:=(h.push o1).push o2
abbrev zh3(h:fA)(o1 o2:Obj):fA:=(zh2 h o1 o2).push { cls:=.type "tuple",data:=.seq #[.ref h.objs.size,.ref (h.push o1).objs.size] }
abbrev zh4(h:fA)(o1 o2:Obj):fA:=(zh3 h o1 o2).push { cls:=.type "tuple",data:=.seq #[.none,.none] }
abbrev Ah(h:fA)(o1 o2:Obj):fA:=(zh4 h o1 o2).push { cls:=.type "zip",data:=.fields #[.none,.bool false,.bool false,.ref (zh2 h o1 o2).objs.size,.ref (zh3 h o1 o2).objs.size] }
set_option maxHeartbeats 4000000 in
def z7(l:aT)(xs:Array af)(x:Str)(t:Tok)(ha:x.cps.all (· < 128)=true) :
  Meets (md.«zip.__new__» ⟨[.type "zip",.ref l,.str x t],[]⟩) (λ_ R s=>s.heap.IsList l xs/\R (.ok (.ret (.ref (zh4 s.heap (Jq l) (Z5 x t)).objs.size))) { s with heap:=Ah s.heap (Jq l) (Z5 x t) }) :=
 .of_wp λprog w A R s h=>by
  obtain⟨O,g,d,U,os⟩:=s
  obtain⟨Y,h⟩:=h
  have J:=sub_zip
  have Z:OV (Shared.heap ⟨O,g,d,U,os⟩) l xs:=Y
  wp_walk using pj Z,F7 ha
  exact⟨_,rfl,h⟩
def Jk(h:fA)(o1 o2:Obj)(f1:o1.isFreed=false)(f2:o2.isFreed=false):let n:=h.objs.size
  (zh4 h o1 o2).objs.size=n+4/\AG (Ah h o1 o2) (n+4) (n+2) (n+3) .none/\mi (Ah h o1 o2) (n+2) (.ref n) (.ref (n+1))/\mi (Ah h o1 o2) (n+3) .none .none/\(Ah h o1 o2).get? n=some o1/\(Ah h o1 o2).get? (n+1)=some o2/\∀c o,h.get? c=some o->(Ah h o1 o2).get? c=some o:=by
 intro n
 have J:(h.push o1).objs.size=n+1:=mx ..
 have O:(zh2 h o1 o2).objs.size=n+2:=by rw[mx,J]
 have U:(zh3 h o1 o2).objs.size=n+3:=by rw[mx,O]
 have Y:(zh4 h o1 o2).objs.size=n+4:=by rw[mx,U]
 have Z:(Ah h o1 o2).get? (zh4 h o1 o2).objs.size=some _:=ba _ rfl
 have g4:(Ah h o1 o2).get? (zh3 h o1 o2).objs.size=some _:=ai _ (ba _ rfl)
 have g3:(Ah h o1 o2).get? (zh2 h o1 o2).objs.size=some _:=ai _ (ai _ (ba _ rfl))
 have g2:(Ah h o1 o2).get? (h.push o1).objs.size=some o2:=ai _ (ai _ (ai _ (ba _ f2)))
 have g1:(Ah h o1 o2).get? h.objs.size=some o1:=ai _ (ai _ (ai _ (ai _ (ba _ f1))))
 rw[O,U,Y] at Z
 rw[J,O] at g3
 rw[U] at g4
 rw[J] at g2
 exact⟨Y,Z,g3,g4,g1,g2,λc o x=>ai _ (ai _ (ai _ (ai _ (ai _ x))))⟩
theorem Ux{l n:Nat}(h:l<n):n+4≠l/\n+3≠l/\n+1≠l/\n≠l:=by grind
def nm1{x a:Nat}(h:x≠a):x∉[a]:=by simp[h]
def X6{x a b:Nat}(h:x≠a)(g:x≠b):x∉[a,b]:=by simp[h,g]
def Gp(K:ag)(a:aT)(x:Str):It :=
 ⟨λi H=>∃xs v c,cV K H a xs/\xs[i]?=some v/\x.cps[i]?=some c,
   λi H y H'=>∃T v c,y=.ref T/\H T=none/\H'=upd H T (.tup [v,.str ⟨#[c]⟩])/\x.cps[i]?=some c/\∀xs,cV K H a xs->xs[i]?=some v,
   λi H=>∃xs,cV K H a xs/\(xs.length<=i\/x.cps.size<=i)⟩
variable{K:ag}{elts:List eT}{kt:Nat}
theorem BW{P:cw}{w:da}{pt:Pos}{x:Str}{t:Tok}(z TI TO i1 i2 a:aT)(D:Uw z TI TO i1 i2 [i1,a] [i2])(hai:a≠i1) :
  Turn P w K (.Tuple elts kt pt) (Gp K a x) [z,TI,TO,i1,i2] z (λi h=>AG h z TI TO .none/\mi h TI (.ref i1) (.ref i2)/\(∃u v,mi h TO u v)/\h.IsListIter i1 a i/\i<=x.cps.size/\h.IsStrIter i2 "str_ascii_iterator" x t i) where
 mem:=by simp
 obj:=by
  rintro i h ⟨h1,h2,⟨u,v,h3⟩,⟨o4,O,c4,d4⟩,_,⟨o5,U,c5,d5⟩⟩ c hc
  simp only[br,dc,or_false] at hc
  rcases hc with rfl | rfl | rfl | rfl | rfl
  ·exact⟨_,h1,λv z=>nomatch z⟩
  ·exact⟨_,h2,λv z=>nomatch z⟩
  ·exact⟨_,h3,λv z=>nomatch z⟩
  ·first
   |exact⟨_,O,λv z=>by rw[d4] at z;cases z⟩
   |exact⟨_,U,λv z=>by rw[d5] at z;cases z⟩
  ·first
   |exact⟨_,O,λv z=>by rw[d4] at z;cases z⟩
   |exact⟨_,U,λv z=>by rw[d5] at z;cases z⟩
 keep:=by
  rintro i h h' ⟨h1,h2,⟨u,v,h3⟩,O,hi,⟨o5,U,r5⟩⟩ k
  exact⟨k z (by simp) _ h1,k TI (by simp) _ h2,⟨u,v,k TO (by simp) _ h3⟩,O.at λo e=>k i1 (by simp) o e,hi,o5,k i2 (by simp) o5 U,r5⟩
 item:=by
  intro X hP hw hK hc i kL s σ H E I hf st hg
  subst hP hw hK
  obtain⟨xs,v,c,hq,am,ac⟩:=hg
  obtain⟨h1,h2,⟨u0,v0,h3⟩,O,_,U⟩:=st
  obtain⟨its,rv,pl,hz⟩:=I.list hq
  obtain⟨u,hu,ru⟩:=rv.get am
  have hh:=I.ok.hd hc
  have bg:i<its.length:=(cE.mp hu).1
  have ap:i<x.cps.size:=(AH.mp ac).1
  have hT:H s.heap.objs.size=none:=I.hok.fresh (a8 _)
  refine xQ (k:=i) (f1:=[i1,a]) (f2:=[i2]) (S1:=λi h=>h.IsListIter i1 a i/\h.IsList a its.toArray) (S2:=λi h=>h.IsStrIter i2 "str_ascii_iterator" x t i) D (F9 (prog:=X.prog) (w:=X.w) (A:=X.A.in1) hh i1 a hai its.toArray) (MH (prog:=X.prog) (w:=X.w) (A:=X.A.in1) hh i2 x t) (by simp;grind) ap h1 h2 h3 ⟨O,pl.isList⟩ U λh' tk y1 y2 a4 a6 a1 a2 sa sb a5 a7=>?_
  refine⟨_,rfl,?_⟩
  refine AV (s:={ s with heap:=h',toks:=tk }) a1 λa0 b1 b2=>?_
  have lt:∀ {c o},s.heap.get? c=some o->s.heap.objs.size≠c:=λe=>nv (b5 e)
  obtain⟨c',u',bd,rfl⟩:=a6
  have ec:c'=c:=Option.some.inj (bd.symm.trans ac)
  subst ec
  have eu:y1=u:=by
   have q:=a4
   simp only[List.getElem?_toArray] at q
   exact Option.some.inj (q.symm.trans hu)
  subst eu
  have be:a0.get? s.heap.objs.size=some { cls:=.type "tuple",data:=.seq #[y1,.str ⟨#[c']⟩ u'] }:=(b2.2 _ (lt h1)).trans a5
  have I1:L2.Inv X kL σ (upd H s.heap.objs.size (.tup [v,.str ⟨#[c']⟩])) { s with heap:=a0,toks:=tk }:=by
   refine qU (ch:=[z,TI,TO,i1,i2]) I (λc o J e=>?_) hf (a8 _) ⟨?_,[y1,.str ⟨#[c']⟩ u'],.cons ru (.cons ⟨_,rfl⟩ .nil),⟨_,be,rfl,_,rfl,rfl⟩⟩
   ·have n1:c≠z:=λw=>J (by simp[w])
    exact (b2.2 c n1).trans (a7 c o n1 (λw=>J (by simp[w])) (λw=>J (by simp[w])) (λw=>J (by simp[w])) e)
   ·show 2<=cf;decide
  refine⟨.ref s.heap.objs.size,_,I1,rfl,⟨_,v,c',rfl,hT,rfl,ac,λbi q1=>by rw[I.pG q1 hq];exact am⟩,⟨b1,?_,⟨_,_,(b2.2 TO D.TOz).trans a2⟩,?_,ap,?_⟩,λd al=>?_⟩
  ·exact (b2.2 TI D.TIz).trans (a7 TI _ D.TIz D.TITO D.TIi1 D.TIi2 h2)
  ·exact (sa).1.at λo e=>(b2.2 i1 D.i1z).trans e
  ·obtain⟨o,e,r⟩:=sb
   exact⟨o,(b2.2 i2 D.i2z).trans e,r⟩
  ·have J:H d=none:=(hf d al).1
   have:d≠s.heap.objs.size:=by
    obtain⟨o,e,_⟩:∃o,s.heap.get? d=some o/\True:=by
     simp only[br,dc,or_false] at al
     obtain⟨o4,e4,_⟩:=O
     obtain⟨o5,e5,_⟩:=U
     rcases al with rfl | rfl | rfl | rfl | rfl
     ·exact⟨_,h1,trivial⟩
     ·exact⟨_,h2,trivial⟩
     ·exact⟨_,h3,trivial⟩
     ·first | exact⟨_,e4,trivial⟩ | exact⟨_,e5,trivial⟩
     ·first | exact⟨_,e4,trivial⟩ | exact⟨_,e5,trivial⟩
    exact (lt e).symm
   rw[aC this];exact J
 done:=by
  intro X hP hw hK hc i kL s σ H E I hf st hg
  subst hP hw hK
  obtain⟨xs,hq,hx⟩:=hg
  obtain⟨h1,h2,⟨u0,v0,h3⟩,O,hi,U⟩:=st
  obtain⟨its,rv,pl,hz⟩:=I.list hq
  have hl:=rv.length
  have hh:=I.ok.hd hc
  have DL:=F9 (prog:=X.prog) (w:=X.w) (A:=X.A.in1) hh i1 a hai its.toArray
  have DT:=MH (prog:=X.prog) (w:=X.w) (A:=X.A.in1) hh i2 x t
  have a3:its.length<=i->xg X.prog X.w X.A.in1 i1 ((λi h=>h.IsListIter i1 a i/\h.IsList a its.toArray) i):=λY s' Q E' Z hE=>DM hh Z.1 Z.2 (by simp;grind) hE
  have Mi:x.cps.size<=i->xg X.prog X.w X.A.in1 i2 ((λi h=>h.IsStrIter i2 "str_ascii_iterator" x t i) i):=λY s' Q E' Z hE=>by
   have e:i=x.cps.size:=pb hi Y
   subst e
   exact DT.done s' Q E' Z hE
  refine DX (k:=i) (P1:=λi v=>its.toArray[i]?=some v) (f1:=[i1,a]) (f2:=[i2]) (n1:=its.toArray.size) (S1:=λi h=>h.IsListIter i1 a i/\h.IsList a its.toArray) (S2:=λi h=>h.IsStrIter i2 "str_ascii_iterator" x t i) D (λ_ _ q k=>DL.frame i _ _ q k) (λ_ _ q k=>DT.frame i _ _ q k) ?_ h1 h2 h3 ⟨O,pl.isList⟩ U λh' tk k=>⟨rfl,?_⟩
  ·by_cases Y:its.length<=i
   ·exact .inl (a3 Y)
   ·exact .inr ⟨⟨by simp;grind,DL⟩,Mi (by grind)⟩
  ·exact qy (t':=tk) (ch:=[z,TI,TO,i1,i2]) I (λc o J e=>k c o (λw=>J (by simp[w])) (λw=>J (by simp[w])) (λw=>J (by simp[w])) (λw=>J (by simp[w])) e) hf
 self:=λA i s Q E st h=>tI st.1 h
section
variable{X:Cx}{tg:eT}
def Df{prog:cw}{w:da}{A:gu}{E:af->aw->Prop}{s:aw}{l:aT}{xs:Array af}{x:Str}{t:Tok}{Q:af->aw->Prop}(ha:x.cps.all (· < 128)=true)(hl:s.heap.IsList l xs)
  (h:Q (.ref (s.heap.objs.size+4)) { s with heap:=Ah s.heap (Jq l) (Z5 x t) }):a9 (cy prog w) A (call (.type "zip") [.ref l,.str x t]) Q E s:=by
 refine HP NY (by decide) (Jn _ _) (LD _ _) (λobj=>EC obj _ _) LF (z7 l xs x t ha) ⟨hl,?_⟩
 obtain⟨J,O,_⟩:=Jk s.heap (Jq l) (Z5 x t) rfl rfl
 show _/\_
 rw[J]
 exact⟨⟨_,O,rfl⟩,h⟩
def XM(K:ag)(ta:TA):TI:=λσ H R=>ta σ H λvs H1=>∃l x,vs=[.ref l,.str x]/\x.cps.all (· < 128)=true/\(∃xs,cV K H1 l xs)/\R (Gp K l x) H1
theorem Ow{a b:eT}{ta:TA}{p pos pt:Pos}(hg:Gl X "zip")(hm:X.mg "zip" = none)(ha:PA X [a,b] ta)(hs:bS [a,b] X.env=[(false,gN a X.env),(false,gN b X.env)]:=by rfl)(hs2:bS [b] X.env=[(false,gN b X.env)]:=by rfl) :
  PI X (.Tuple elts kt pt) (.Call (.Name "zip" p) [a,b] [] pos) (XM X.K ta):=by
 intro kL s σ H R I h
 refine ND (eX I hg hm boot_zip (fe (cC (ha pos kL s σ H _ I h) λus J ⟨vs,H1,U,r1,l,x,e,hx,⟨xs,hq⟩,q⟩=>?_) (by rw[hs,hs2]) (by rw[hs2];rfl)))
 subst e
 obtain⟨u,u',rfl,e1,e2⟩:=vals2 r1
 cases e1
 obtain⟨t,rfl⟩:=e2
 obtain⟨its,rv,pl,hz⟩:=U.list hq
 have a1:l<J.heap.objs.size:=by obtain⟨_,e,_⟩:=pl.isList;exact b5 e
 refine Df hx pl.isList ?_
 obtain⟨z4,Y,g3,g4,g1,g2,hk⟩:=Jk J.heap (Jq l) (Z5 x t) rfl rfl
 generalize hn:J.heap.objs.size=n at *
 refine tI (s:={ J with heap:=Ah J.heap (Jq l) (Z5 x t) }) Y ?_
 have I2:L2.Inv X kL σ H1 { J with heap:=Ah J.heap (Jq l) (Z5 x t),toks:=J.toks }:=U.kept (t':=J.toks) hk
 have D:Uw (n+4) (n+2) (n+3) n (n+1) [n,l] [n+1]:=by
  exact⟨(show (n+2:Nat)≠n+4 from by grind),(show (n+3:Nat)≠n+4 from by grind),(show (n:Nat)≠n+4 from by grind),(show (n+1:Nat)≠n+4 from by grind),(show (n+2:Nat)≠n+3 from by grind),(show (n+2:Nat)≠n from by grind),(show (n+2:Nat)≠n+1 from by grind),(show (n+3:Nat)≠n from by grind),(show (n+3:Nat)≠n+1 from by grind),(show (n:Nat)≠n+1 from by grind),⟨X6 (show (n+4:Nat)≠n from by grind) (Ux a1).1,X6 (show (n+3:Nat)≠n from by grind) (Ux a1).2.1,X6 (show (n+1:Nat)≠n from by grind) (Ux a1).2.2.1⟩,⟨nm1 (show (n+4:Nat)≠n+1 from by grind),nm1 (show (n+3:Nat)≠n+1 from by grind),nm1 (show (n:Nat)≠n+1 from by grind)⟩⟩
 refine⟨_,_,_,_,H1,rfl,I2,BW (t:=t) _ _ _ _ _ l D (mI (Ux a1).2.2.2),⟨Y,g3,⟨_,_,g4⟩,⟨_,g1,rfl,rfl⟩,eD _,⟨_,g2,rfl,rfl⟩⟩,λb Z=>?_,q⟩
 simp only[br,dc,or_false] at Z
 have O:J.heap.objs.size<=b:=by rw[hn];rcases Z with rfl | rfl | rfl | rfl | rfl <;> grind
 exact U.wY (b:=b) (H':=H1) O (U.hok.fresh O)
theorem CW{H:Hp}{a:aT}{ds:List D}{z:Str}:zJ K H (fC ds (lets z)) (λH'=>H' a=some (.lst ds)) (Gp K a z):=λH3 H' _ hr hk=>by
 obtain⟨vs,J,O⟩:=hr a _ hk
 have Z:(fC ds (lets z)).length=min ds.length z.cps.size:=by
  have hz:(lets z).length=z.cps.size:=by unfold lets;rw[ae,cS]
  unfold fC;rw[y8,hz]
 refine⟨λi hi=>?_,?_⟩
 ·rw[Z] at hi
  have h1:i<vs.length:=by rw[←O.length];grind
  have h2:i<z.cps.size:=by grind
  refine⟨⟨vs,vs[i],z.cps[i],cV.of J,by simp,by simp⟩,λv ac y=>?_⟩
  obtain⟨T,x,c,rfl,U,rfl,hc,hx⟩:=y
  obtain⟨d,hd,rd⟩:=O.FQ (hx vs (cV.of J))
  have Y:(lets z)[i]?=some (.str ⟨#[c]⟩):=by unfold lets;rw[ay,jS,hc];rfl
  refine⟨TK.fresh U,hr.tup U,.tup [d,.str ⟨#[c]⟩],?_,.tup aZ (.cons (rd.mono (TK.fresh U)) (.cons (.str _) .nil))⟩
  unfold fC
  rw[sj,hd,Y]
 ·rw[Z]
  refine⟨vs,cV.of J,?_⟩
  rw[←O.length]
  grind
end
section
variable{X:Cx}
def Ou{a b:eT}{ta tb:bK}{p pos pt:Pos}(hm:X.mg "zip" = none)(ha:aF X a ta)(hb:aF X b tb)(hg:Gl X "zip":=by rfl)(hs:bS [a,b] X.env=[(false,gN a X.env),(false,gN b X.env)]:=by rfl)
  (hs1:bS [a,b] X.env=(false,gN a X.env)::bS [b] X.env:=by rfl) (hs2:bS [b] X.env=(false,gN b X.env)::bS [] X.env:=by rfl) (hs3:bS [b] X.env=[(false,gN b X.env)]:=by rfl):tM X (.Tuple elts kt pt) (.Call (.Name "zip" p) [a,b] [] pos) (izt ta tb) :=
 lQ (Ow hg hm (fL ha (fL hb rM hs2) hs1) hs hs3) λ_ _ _ ⟨Y,H3,R3,Z,hr,t,k⟩=>by
  refine⟨Y,H3,λds H1=>(match ds with | [x,y]=>ztk x y H1 R3 | _=>False),Z,hr,t,λds vs ac Ha U O rs J=>?_⟩
  cases rs with
  |nil=>exact J.elim
  |cons r1 r2=>
   cases r2 with
   |nil=>exact J.elim
   |cons r2 r3=>
    cases r3 with
    |cons _ _=>exact J.elim
    |nil=>
     cases r1 with
     |ref x=>
      cases r2 with
      |str z=>
       (delta ztk at J;dsimp only at J)
       split at J
       ·rename_i ds hx
        obtain⟨vs,ga,ra⟩:=O x _ hx
        exact⟨x,z,rfl,J.1,⟨vs,cV.of ga⟩,k _ _ _ _ _ U O CW J.2⟩
       ·exact J.elim
      |_=>exact J.elim
     |_=>exact J.elim
end
end L3
namespace L3
open PySem PySem.Spec PyProof.Rows L2
def sY(f:Str)(y:D):List (Str×D)->List (Str×D)
 |[]=>[(f,y)]
 |(g,x)::r=>if g=f then (g,y)::r else (g,x)::sY f y r
def xX(cs:List Str)(f:Str)(x:D)(H:aA)(Q:bL):Prop:=match x with
 | .ref a => (match H a with
  | some (.ins c fs) => c∈cs∧(match fs.lookup f with
   |some d=>Q d H
   |none=>False)
  |_=>False)
 |_=>False
def Z7(cs:List Str)(f:Str)(ta:bK):bK:=λσ H Q=>ta σ H λx H1=>xX cs f x H1 Q
def Mv(cs:List Str)(f:Str)(y x:D)(H:aA)(R:aA->Prop):Prop:=match x with
 | .ref a => (match H a with
  |some (.ins c fs)=>(c∈cs/\fs.length<1000)/\R (au H a (.ins c (sY f y fs)))
  |_=>False)
 |_=>False
def sf3(cs:List Str)(f:Str)(ta tv:bK):bC:=λD σ H=>tv σ H λy H1=>ta σ H1 λx H2=>Mv cs f y x H2 (D.nx σ)
def nR(ms:List (Str×du))(m:Str)(x:D)(H:aA)(R:du->Prop):Prop:=match x with
 | .ref a => (match H a with
  | some (.ins c fs) => fs.lookup m = none∧(match ms.lookup c with
   |some sp=>R sp
   |none=>False)
  |_=>False)
 |_=>False
def ym(ms:List (Str×du))(m:Str)(ta:bK)(t:qG):bK:=λσ H Q=>ta σ H λx H1=>nR ms m x H1 λsp=>t σ H1 λds H2=>sp (x::ds) H2 Q
def mk3(c:Str)(sp:du)(t:qG):bK:=λσ H Q=>t σ H λds H1=>∀x,H1 x=none->sp (.ref x::ds) (au H1 x (.ins c [])) λv H2=>v=.non/\Q (.ref x) H2
section
variable{H:aA}{Q:bL}{σ:cD}{a:aT}{c f m:Str}{cs:List Str}{fs:List (Str×D)}{d y:D}{ta tv:bK}{t:qG}{sp:du}{ms:List (Str×du)}
def aen(h:ta σ H λx H1=>xX cs f x H1 Q):Z7 cs f ta σ H Q:=h
def ad6(h:H a=some (.ins c fs))(hc:c∈cs)(hl:fs.lookup f=some d)(q:Q d H):xX cs f (.ref a) H Q:=by
 (delta xX;simp only[h,hl]);exact⟨hc,q⟩
def aec{E:cX}(h:tv σ H λy H1=>ta σ H1 λx H2=>Mv cs f y x H2 (E.nx σ)):sf3 cs f ta tv E σ H:=h
def adu{R:aA->Prop}(h:H a=some (.ins c fs))(hc:c∈cs)(hl:fs.length<1000)(q:R (au H a (.ins c (sY f y fs)))):Mv cs f y (.ref a) H R:=by
 (delta Mv;simp only[h]);exact⟨⟨hc,hl⟩,q⟩
def afF(h:ta σ H λx H1=>nR ms m x H1 λsp=>t σ H1 λds H2=>sp (x::ds) H2 Q):ym ms m ta t σ H Q:=h
def Qe{R:du->Prop}(h:H a=some (.ins c fs))(hl:fs.lookup m=none)(hs:ms.lookup c=some sp)(q:R sp):nR ms m (.ref a) H R:=by
 (delta nR;simp only[h,hs]);exact⟨hl,q⟩
def aeQ(h:t σ H λds H1=>∀x,H1 x=none->sp (.ref x::ds) (au H1 x (.ins c [])) λv H2=>v=.non/\Q (.ref x) H2):mk3 c sp t σ H Q:=h
end
structure XN where
 c:Str
 fs:List (Str×D):=[]
instance:Coe Str XN:=⟨λc=>⟨c,[]⟩⟩
def gone(i:Nat)(D:cX):cX:={ nx:=λσ' H'=>D.nx (σ'.set i none) H',rt:=D.rt,bk:=λσ' H'=>D.bk (σ'.set i none) H',ct:=λσ' H'=>D.ct (σ'.set i none) H' }
section
variable{H:aA}{Q:bL}{σ:cD}{a:aT}{c:Str}{b:Bool}{tbl:List (Str×Bool)}{ta:bK}
def Zr{D:cX}{i:Nat}(h:D.nx (σ.set i none) H):(gone i D).nx σ H:=h
def Xk{E:cX}{i:Nat}{d:D}(h:E.rt d H):(gone i E).rt d H:=h
end
abbrev Jx(K:ag)(H:Hp)(fs:List (Str×D))(xs:List (Str×V)):Prop:=Paired (λ(p:Str×D) (q:Str×V)=>p.1=q.1/\Rep K H p.2 q.2) fs xs
section
variable{K:ag}{H:Hp}
def Jx.put{f:Str}{y:D}{v:V}(r:Rep K H y v):∀ {fs:List (Str×D)} {xs:List (Str×V)},Jx K H fs xs->Jx K H (sY f y fs) (jO f v xs):=by
 intro fs xs h
 induction h with
 |nil=>exact .cons ⟨rfl,r⟩ .nil
 |@cons p p' _ _ e t ih=>
  obtain⟨g,d⟩:=p
  obtain⟨g',x⟩:=p'
  obtain⟨e,q⟩:=e
  have J:g=g':=e
  subst J
  unfold sY jO
  by_cases h:g=f
  ·rw[if_pos h,if_pos h];exact .cons ⟨rfl,r⟩ t
  ·rw[if_neg h,if_neg h];exact .cons ⟨rfl,q⟩ ih
def Jx.len:∀ {fs:List (Str×D)} {xs:List (Str×V)},Jx K H fs xs->fs.length=xs.length:=by
 intro fs xs h
 induction h with
 |nil=>rfl
 |cons _ _ ih=>exact congrArg (· + 1) ih
def Jx.look{f:Str}{d:D}:∀ {fs:List (Str×D)} {xs:List (Str×V)},Jx K H fs xs->fs.lookup f=some d->∃v,xs.lookup f=some v/\Rep K H d v:=by
 intro fs xs h l
 induction h with
 |nil=>cases l
 |@cons p p' _ _ e t ih=>
  obtain⟨g,d'⟩:=p
  obtain⟨g',x⟩:=p'
  obtain⟨e,q⟩:=e
  have J:g=g':=e
  subst J
  rw[i8] at l ⊢
  cases hb:f==g with
  |true=>rw[hb] at l;cases l;exact⟨x,rfl,q⟩
  |false=>rw[hb] at l;exact ih l
def Jx.no{f:Str}:∀ {fs:List (Str×D)} {xs:List (Str×V)},Jx K H fs xs->fs.lookup f=none->xs.lookup f=none:=by
 intro fs xs h l
 induction h with
 |nil=>rfl
 |@cons p p' _ _ e t ih=>
  obtain⟨g,d'⟩:=p
  obtain⟨g',x⟩:=p'
  have J:g=g':=e.1
  subst J
  rw[i8] at l ⊢
  cases hb:f==g with
  |true=>rw[hb] at l;cases l
  |false=>rw[hb] at l;exact ih l
end
def lG(K:ag)(cs:List Str)(f:Str):Prop:=∀c∈cs,∃C,kq K eK c=some (some (.ref C))/\KJ K C/\lH K C f
variable{K:ag}
def lG.nil{f:Str}:lG K [] f:=λ_ h=>absurd h (by simp)
def lG.cons{K:ag}{f c:Str}{cs:List Str}{C:aT}(h1:kq K eK c=some (some (.ref C)))(h2:KJ K C)(h3:lH K C f)(r:lG K cs f):lG K (c::cs) f:=λd h=>by
 rcases br.mp h with rfl | h
 ·exact⟨C,h1,h2,h3⟩
 ·exact r d h
structure pL(P:cw)(w:da)(K:ag)(mg:Str->Option af)(base:fA)(k:Nat)(c m:Str)(ps:List Str)(sp:du):Prop where
 ex:∃C f fd,kq K eK c=some (some (.ref C))/\KJ K C/\Meth K C m f/\jE P w K mg base Gh k f fd ps (j9 K sp)/\Binds K fd ps []
structure Z1(P:cw)(w:da)(K:ag)(mg:Str->Option af)(base:fA)(k:Nat)(c:Str)(ps:List Str)(sp:du):Prop where
 ex:∃C f fd,kq K eK c=some (some (.ref C))/\mg c=some (.ref C)/\Mk K C f/\jE P w K mg base Gh k f fd ps (j9 K sp)/\Binds K fd ps []
section
variable{X:Cx}{e o value:eT}{es:List eT}{ta tv:bK}{t:qG}{cs:List Str}{f m c:Str}{k:Nat}{pos pos' p apos:Pos}{ps:List Str}{sp:du}
def Qn(hk:lG X.K cs f)(he:aF X e ta)(hb:vc e f X.env (gN e X.env)=gN e X.env:=by rfl):aF X (.Attribute e f pos) (Z7 cs f ta) :=
 aY (abd he hb) λ_ _ _ zz=>zz.ex λac H3 Q3 sr hr q kk=>⟨ac,H3,_,sr,hr,q,λx v al Ha Y O rx J=>by
  cases rx with
  |ref a=>
   (delta xX at J;dsimp only at J)
   split at J
   ·rename_i c fs ha
    obtain⟨hc,J⟩:=J
    split at J
    ·rename_i d hd
     obtain⟨C,hC,cl,na⟩:=hk c hc
     obtain⟨Z,dx,xs,U,ga,ra⟩:=O a _ ha
     have eC:Z=C:=by rw[hC] at U;cases U;rfl
     subst eC
     obtain⟨v,hv,rv⟩:=Jx.look ra hd
     exact⟨a,Z,dx,xs,v,rfl,ga,cl,na,hv,kk _ _ _ _ Y O rv J⟩
    ·exact J.elim
   ·exact J.elim
  |_=>exact J.elim⟩
def QX(hk:lG X.K cs f)(ha:aF X o ta)(hv:aF X value tv)(hs:tf value (some (.Attribute o f pos')) pos.line X.env=pure false:=by rfl):qg X (.Assign [.Attribute o f pos'] value pos) (sf3 cs f ta tv) :=
 gZ (Y6 ha hv hs) λ_ _ _ zz=>zz.ex λam H3 D3 sr hr q kk=>⟨am,H3,_,sr,hr,q,λy v ac Ha O al ry qa=>⟨am,ac,_,sr.mono O,al,qa,λx u ap Hb U Z rx J=>by
  cases rx with
  |ref a=>
   (delta Mv at J;dsimp only at J)
   split at J
   ·rename_i c fs ha
    obtain⟨⟨hc,hl⟩,J⟩:=J
    obtain⟨C,hC,cl,na⟩:=hk c hc
    obtain⟨C',dx,xs,Y,ga,ra⟩:=Z a _ ha
    have eC:C'=C:=by rw[hC] at Y;cases Y;rfl
    subst eC
    have My:TK Hb (upd Hb a (.ins C' dx (jO f v xs))):=TK.ins ga
    refine⟨a,C',dx,xs,rfl,ga,cl,na,by rw[←Jx.len ra];exact hl,kk.nx _ _ _ _ ((O.trans U).trans My) (sr.mono ((O.trans U).trans My)) ?_ J⟩
    refine Z.set (o3:=.ins c (sY f y fs)) My ⟨C',dx,_,Y,aZ,Jx.put ((ry.mono U).mono My) (Paired.pA ra λ_ _ z=>⟨z.1,z.2.mono My⟩)⟩
   ·exact J.elim
  |_=>exact J.elim⟩⟩
def jN(P:cw)(w:da)(K:ag)(mg:Str->Option af)(base:fA)(k:Nat)(m:Str)(ps:List Str)(ms:List (Str×du)):Prop:=∀c sp,ms.lookup c=some sp->pL P w K mg base k c m ps sp
def jN.nil{P:cw}{w:da}{mg:Str->Option af}{base:fA}:jN P w K mg base k m ps []:=λc sp h=>by cases h
def jN.cons{P:cw}{w:da}{K:ag}{mg:Str->Option af}{base:fA}{k':Nat}{ms:List (Str×du)}(h:pL P w K mg base k' c m ps sp)(hk:k'<=k)(r:jN P w K mg base k m ps ms):jN P w K mg base k m ps ((c,sp)::ms):=λd J hd=>by
 cases hb:d==c with
 |true=>
  simp only[rg,hb] at hd
  cases hd
  obtain rfl:d=c:=beq_iff_eq.mp hb
  obtain⟨C,f,fd,h1,h2,O,U,Y⟩:=h.ex
  exact⟨C,f,fd,h1,h2,O,U.mono hk,Y⟩
 |false=>simp only[rg,hb] at hd;exact r d J hd
def Am{pl:Sem Bool}{ms:List (Str×du)}(hm:jN X.prog X.w X.K X.mg X.base k m ps ms)(hr:dI k X.A)(he:aF X o ta)(ha:FJ X (e::es) t)
  (hst:bS (e::es) X.env=(false,gN e X.env)::bS es X.env:=by rfl) (hpl:(mN pos (bS es X.env)).any (·.1)=false:=by rfl)
  (ht:gN (.Call (.Attribute o m apos) (e::es) [] pos) X.env = (do
   let ov ←gN o X.env
   NL apos.atName
   let (f,first) ←EO [ov] (IS ov m pl)
   callWith pos f first (mN pos (bS (e::es) X.env)) (HA pos (A5 [] X.env))):=by rfl) :
  aF X (.Call (.Attribute o m apos) (e::es) [] pos) (ym ms m ta t):=by
 intro kL s σ H Q I ⟨a3,H3,Q3,sr,ac,q,kk⟩
 refine DO (pl:=pl) (cC (he kL s σ H (λx H1=>∃a C dx fs f fd sp,x=.ref a/\H1 a=some (.ins C dx fs)/\KJ X.K C/\Meth X.K C m f/\fs.lookup m=none/\jE X.prog X.w X.K X.mg X.base Gh k f fd ps (j9 X.K sp)/\Binds X.K fd ps [] /\
   Fv X.K t σ H1 λvs H2=>j9 X.K sp (x::vs) H2 Q E0) I ⟨a3,H3,_,sr,ac,q,?_⟩) λu s1 zz=>?_) ht
 ·intro x v al Ha U Y rx J
  cases rx with
  |ref a=>
   (delta nR at J;dsimp only at J)
   split at J
   ·rename_i c fs am
    obtain⟨hl,J⟩:=J
    split at J
    ·rename_i sp ap
     obtain⟨C,f,fd,hC,cl,O,F,hb⟩:=(hm c sp ap).ex
     obtain⟨C',dx,xs,Z,ga,ra⟩:=Y a _ am
     have eC:C'=C:=by rw[hC] at Z;cases Z;rfl
     subst eC
     refine⟨a,C',dx,xs,f,fd,sp,rfl,ga,cl,O,Jx.no ra hl,F,hb,a3,al,_,sr.mono U,Y,J,λds vs a0 Hb a1 a2 rs qb=>?_⟩
     exact⟨.ref a::ds,a0,Q3,a2,.cons (.ref a) rs,qb,kk.mono (U.trans a1)⟩
    ·exact J.elim
   ·exact J.elim
  |_=>exact J.elim
 ·obtain⟨x,H1,I1,rx,a,C,dx,fs,f,fd,sp,ex,ea,c,O,l,F,hb,q⟩:=zz
  subst ex
  obtain rfl:u=eB a:=rx
  refine uD I1 ea c O l ?_
  refine As (first:=[.ref a]) (h₀:=X.base) I.ok.mod.kin O.kp (cC (ha pos kL s1 σ H1 _ I1 q) λus s2 ⟨vs,H2,I2,r,q2⟩=>⟨I2.qz,?_⟩) hst hpl
  exact Gf (dvs:=[]) (ds:=[]) (us:=.ref a::us) (vs:=.ref a::vs) F hr hb .nil JG I2 (.cons rfl r) (by rw[i4];exact q2)
def vD{pl:Sem Bool}{ms:List (Str×du)}(hm:jN X.prog X.w X.K X.mg X.base k m ps ms)(hr:dI k X.A)(he:aF X o ta)
  (ht:gN (.Call (.Attribute o m apos) [] [] pos) X.env = (do
   let ov ←gN o X.env
   NL apos.atName
   let (f,first) ←EO [ov] (IS ov m pl)
   callWith pos f first (mN pos (bS [] X.env)) (HA pos (A5 [] X.env))):=by rfl) :
  aF X (.Call (.Attribute o m apos) [] [] pos) (ym ms m ta ak):=by
 intro kL s σ H Q I ⟨a0,H3,Q3,sr,Z,q,kk⟩
 refine DO (pl:=pl) (cC (he kL s σ H (λx H1=>∃a C dx fs f fd sp,x=.ref a/\H1 a=some (.ins C dx fs)/\KJ X.K C/\Meth X.K C m f/\fs.lookup m=none/\jE X.prog X.w X.K X.mg X.base Gh k f fd ps (j9 X.K sp)/\Binds X.K fd ps [] /\
   j9 X.K sp [x] H1 Q E0) I ⟨a0,H3,_,sr,Z,q,?_⟩) λu s1 zz=>?_) ht
 ·intro x v ac Ha al U rx J
  cases rx with
  |ref a=>
   (delta nR at J;dsimp only at J)
   split at J
   ·rename_i c fs am
    obtain⟨hl,J⟩:=J
    split at J
    ·rename_i sp ap
     obtain⟨C,f,fd,hC,cl,O,F,hb⟩:=(hm c sp ap).ex
     obtain⟨C',dx,xs,Y,ga,ra⟩:=U a _ am
     have eC:C'=C:=by rw[hC] at Y;cases Y;rfl
     subst eC
     exact⟨a,C',dx,xs,f,fd,sp,rfl,ga,cl,O,Jx.no ra hl,F,hb,[.ref a],ac,Q3,U,.cons (.ref a) .nil,J,kk.mono al⟩
    ·exact J.elim
   ·exact J.elim
  |_=>exact J.elim
 ·obtain⟨x,H1,I1,rx,a,C,dx,fs,f,fd,sp,ex,ea,c,O,l,F,hb,q⟩:=zz
  subst ex
  obtain rfl:u=eB a:=rx
  refine uD I1 ea c O l ?_
  exact PySem.W.callWith_K0 (first:=[.ref a]) I1.qz O.kp (Gf (dvs:=[]) (ds:=[]) (us:=[.ref a]) (vs:=[.ref a]) F hr hb .nil JG I1 (.cons rfl .nil) q)
def Xx(F:Z1 X.prog X.w X.K X.mg X.base k c ps sp)(hr:dI (k+1) X.A)(ha:FJ X (e::es) t)
  (hg:Gl X c:=by rfl) (hdb:(c==("__debug__" : Str))=false:=by decide) (he:bS (e::es) X.env=(false,gN e X.env)::bS es X.env:=by rfl) (hpl:(mN pos (bS es X.env)).any (·.1)=false:=by rfl) :
  aF X (.Call (.Name c p) (e::es) [] pos) (mk3 c sp t):=by
 obtain⟨C,f,fd,hC,Y,M,F,hb⟩:=F.ex
 refine aY (Xw (E:=E0) M F hr hg Y hb .nil JG ha hdb he hpl) λ_ H _ h=>?_
 obtain⟨a1,H3,Q3,sr,Z,q,kk⟩:=h
 refine⟨a1,H3,_,sr,Z,q,λds vs ac O al J rs qa=>?_⟩
 intro x dx nx U am
 rw[i4]
 have t1:TK O (upd O dx (.own x)):=TK.fresh U
 have t2:TK (upd O dx (.own x)) (upd (upd O dx (.own x)) x (.ins C dx [])):=TK.fresh (by rw[aC (mI am)];exact nx)
 have tt:=t1.trans t2
 have h1:HR X.K ac (upd O dx (.own x)):=λb u e=>(J b u e).keep t1 (aC (ne3 e (J.fresh U)))
 refine⟨.ref x::ds,_,_,h1.set (o3:=.ins c []) t2 ⟨C,dx,[],hC,aZ,.nil⟩,.cons (.ref x) (rs.mono tt),qa x (J.fresh nx),?_⟩
 rintro d v a2 Hb ap a0 rd ⟨rfl,qb⟩
 cases rd
 exact⟨rfl,kk _ _ _ _ (al.trans (tt.trans ap)) a0 (.ref x) qb⟩
end
end L3
namespace L3
open PySem PySem.Spec PyProof.Rows L2
end L3
namespace L3
open PySem PySem.Spec PyProof.Rows L2 PySem.Calls Builtin Builtin.ObjectAttr Builtin.Getset_descriptor
end L3
namespace L3
open PySem PySem.Spec PyProof.Rows L2
def dgk(x y:D)(H:aA)(Q:bL):Prop:=match x,y with
 | .ref a,.tup ds => (match keysOf ds,H a with
  | some k,some (.dic zp) => (match j6 zp k with
   |some d=>Q d H
   |none=>False)
  |_,_=>False)
 |_,_=>False
def Ve(ta tb:bK):bK:=λσ H Q=>ta σ H λx H1=>tb σ H1 λy H2=>dgk x y H2 Q
def rN:List D->aA->bL->Prop:=λds H Q=>match ds with
 | [.ref a] => (match H a with
  |some (.dic zp)=>Q (.int zp.length) H
  |_=>False)
 |_=>False
def cu(zp:List (Pt×D)):Tab:=zp.map λkv=>(kP kv.1,kv.2)
def eO(zp:List (Pt×D))(c:Pt):Option D:=(zp.find? λkv=>decide (kv.1=c)).map (·.2)
def qO(zp:List (Pt×D))(c:Pt)(d:D):List (Pt×D):=if (zp.any λkv=>decide (kv.1=c))=true then zp.map (λkv=>if kv.1=c then (kv.1,d) else kv) else zp++[(c,d)]
theorem zK(c:Pt):∀zp:List (Pt×D),j6 (cu zp) (kP c)=eO zp c
 |[]=>rfl
 |p::zp=>by
  unfold cu j6 eO
  rw[aE]
  by_cases e:p.1=c
  ·rw[gT (by simp[e]),gT (by simp[e])];rfl
  ·have e':¬kP p.1=kP c:=λz=>e (Gz z)
   rw[gi (by simpa using e'),gi (by simpa using e)]
   exact zK c zp
def Qa(c:Pt)(d:D)(zp:List (Pt×D)):dput (cu zp) (kP c) d=cu (qO zp c d):=by
 have U:((cu zp).any λJ=>decide (J.1=kP c))=zp.any λJ=>decide (J.1=c):=by
  unfold cu
  rw[HU]
  congr 1
  funext J
  by_cases e:J.1=c
  ·simp[e]
  ·have O:¬kP J.1=kP c:=λz=>e (Gz z)
   simp[e,O]
 unfold dput qO
 rw[U]
 split
 ·unfold cu
  rw[dP,dP]
  refine d6 λJ _=>?_
  show (if kP J.1=kP c then (kP J.1,d) else (kP J.1,J.2))=_
  by_cases e:J.1=c
  ·simp[e]
  ·have O:¬kP J.1=kP c:=λz=>e (Gz z)
   simp[e,O]
 ·unfold cu
  rw[de];rfl
def BR(zp:List (Pt×D)):(cu zp).length=zp.length:=by unfold cu;rw[ae]
def xV(c:Pt)(d:D)(zp:List (Pt×D)):(qO zp c d).map (·.1)=if c∈zp.map (·.1) then zp.map (·.1) else zp.map (·.1)++[c]:=by
 have U:(zp.any λJ=>decide (J.1=c))=decide (c∈zp.map (·.1)):=by
  rw[Bool.eq_iff_iff,Cc,decide_eq_true_eq,b9]
  constructor
  ·rintro⟨x,O,e⟩;exact⟨x,O,by simpa using e⟩
  ·rintro⟨x,O,e⟩;exact⟨x,O,by simpa using e⟩
 unfold qO
 rw[U]
 by_cases h:c∈zp.map (·.1)
 ·rw[if_pos (decide_eq_true h),if_pos h,dP]
  refine d6 λJ _=>?_
  show (if J.1=c then (J.1,d) else J).1=J.1
  split <;> rfl
 ·rw[if_neg (by simpa using h),if_neg h,de];rfl
variable{zp:List (Pt×D)}
def Je{c:Pt}{d:D}(h:(zp.map (·.1)).Nodup):((qO zp c d).map (·.1)).Nodup:=by
 rw[xV]
 split
 ·exact h
 ·rename_i z
  rw[kD]
  exact⟨h,by simp,λa J b O=>by rw[bX.mp O];exact λe=>z (e▸J)⟩
def pI{c q:Pt}{d:D}:q∈(qO zp c d).map (·.1)↔q∈zp.map (·.1)\/q=c:=by
 rw[xV]
 split
 ·rename_i z
  constructor
  ·exact .inl
  ·rintro (y | rfl)
   ·exact y
   ·exact z
 ·simp
theorem EY{c q:Pt}{d:D}(h:¬c=q):∀zp:List (Pt×D),eO (zp.map λkv=>if kv.1=c then (kv.1,d) else kv) q=eO zp q
 |[]=>rfl
 |p::zp=>by
  have ih:=EY (d:=d) h zp
  unfold eO at ih ⊢
  rw[aE]
  by_cases e:p.1=q
  ·have J:¬p.1=c:=λz=>h (z▸e)
   rw[if_neg J,gT (by simp[e]),gT (by simp[e])]
  ·have O:¬(if p.1=c then (p.1,d) else p).1=q:=by split <;> exact e
   rw[gi (by simpa using O),gi (by simpa using e)]
   exact ih
theorem yr{c:Pt}{d:D}:∀zp:List (Pt×D),(zp.any λkv=>decide (kv.1=c))=true->eO (zp.map λkv=>if kv.1=c then (kv.1,d) else kv) c=some d
 |[],h=>by simp at h
 |p::zp,h=>by
  unfold eO
  rw[aE]
  by_cases e:p.1=c
  ·rw[if_pos e,gT (by simp[e])];rfl
  ·rw[nI,decide_eq_false e,FD] at h
   have ih:=yr (d:=d) zp h
   unfold eO at ih
   rw[if_neg e,gi (by simpa using e)]
   exact ih
def LQ{c q:Pt}{d:D}:eO (qO zp c d) q=if q=c then some d else eO zp q:=by
 unfold qO
 by_cases h:(zp.any λJ=>decide (J.1=c))=true
 ·rw[if_pos h]
  by_cases e:q=c
  ·subst e;rw[if_pos rfl];exact yr zp h
  ·rw[if_neg e];exact EY (λz=>e z.symm) zp
 ·rw[if_neg h]
  by_cases e:q=c
  ·subst e
   rw[if_pos rfl]
   unfold eO
   rw[HV]
   have:zp.find? (λJ=>decide (J.1=q))=none:=by
    rw[rV]
    intro x O z
    exact h (Cc.mpr ⟨x,O,z⟩)
   rw[this,Option.none_or,gT (by simp)];rfl
  ·rw[if_neg e]
   unfold eO
   rw[HV,gi (by simpa using λz:c=q=>e z.symm),List.find?_nil,Option.or_none]
section
variable{H:aA}{Q:bL}{σ:cD}{a:aT}{p1 p2:Int}{d:D}{zp:List (Pt×D)}{ta tb:bK}
def aeN(h:ta σ H λx H1=>tb σ H1 λy H2=>dgk x y H2 Q):Ve ta tb σ H Q:=h
def uV(h:H a=some (.dic (cu zp)))(hl:eO zp (p1,p2)=some d)(q:Q d H):dgk (.ref a) (.tup [.int p1,.int p2]) H Q:=by
 have e:keysOf [D.int p1,.int p2]=some (kP (p1,p2)):=rfl
 (delta dgk;simp only[e,h,zK,hl]);exact q
def abg{zp:Tab}(h:H a=some (.dic zp))(q:Q (.int zp.length) H):rN [.ref a] H Q:=by
 (delta rN;simp only[h]);exact q
def Rq{R:cD->aA->Prop}(ha:H a=some (.dic (cu zp)))(hl:zp.length<1000)(q:R σ (au H a (.dic (cu (qO zp (p1,p2) d))))):dpk d (.ref a) (.tup [.int p1,.int p2]) σ H R:=by
 have e:keysOf [D.int p1,.int p2]=some (kP (p1,p2)):=rfl
 (delta dpk;simp only[e,ha,Qa])
 exact⟨by rw[BR];exact hl,q⟩
end
def lzk(x y:D)(H:aA)(Q:bL):Prop:=match x,y with
 | .tup ds,.ref b => (match H b with
  |some (.lst es)=>ds.length<=1000/\∀p,H p=none->Q (.ref p) (au H p (.lst (fC ds es)))
  |_=>False)
 |_,_=>False
def lz3(ta tb:bK):bK:=λσ H Q=>ta σ H λx H1=>tb σ H1 λy H2=>lzk x y H2 Q
def yS:Zx:=λx lo hi H Q=>match x with
 |.tup ds=>¬(HT.c7 ds.length 0 lo=0/\HT.c7 ds.length ds.length hi=ds.length)/\Q (.tup (iG ds lo hi)) H
 |_=>False
section
variable{H:aA}{Q:bL}{σ:cD}{a:aT}{ds es:List D}{ta tb:bK}
def aem(h:ta σ H λx H1=>tb σ H1 λy H2=>lzk x y H2 Q):lz3 ta tb σ H Q:=h
def adL(h:H a=some (.lst es))(hl:ds.length<=1000)(q:∀p,H p=none->Q (.ref p) (au H p (.lst (fC ds es)))):lzk (.tup ds) (.ref a) H Q:=by
 (delta lzk;simp only[h]);exact⟨hl,q⟩
def Yw{lo hi:Option Int}(hw:¬(HT.c7 ds.length 0 lo=0/\HT.c7 ds.length ds.length hi=ds.length))(q:Q (.tup (iG ds lo hi)) H):yS (.tup ds) lo hi H Q:=⟨hw,q⟩
end
section
variable{X:Cx}{o i:eT}{ta tb:bK}{pos:Pos}
def X3(hu:X.A.units+64<lP)(ho:aF X o ta)(hi:aF X i tb)(hs:Ot i:=by exact λ_ _=>rfl):aF X (.Subscript o i pos) (Ve ta tb) :=
 aY (JN (mh (EW (by decide:1<=64) _) hu) ho hi hs) λ_ _ _ zz=>zz.ex λam H3 Q3 sr hr t k=>⟨am,H3,_,sr,hr,t,λx v Z Ha O ac rx qa=>⟨am,Z,_,sr.mono O,ac,qa,λy u ap Hb U Y ry J=>by
  have al:=rx.mono U
  cases al with
  |ref a=>
   cases ry with
   |tup hy ry=>
    (delta dgk at J;dsimp only at J)
    split at J
    ·rename_i ks zp e1 e2
     split at J
     ·rename_i d e3
      obtain⟨vs,gd,rd⟩:=Y a _ e2
      have ex:=gY ry e1
      subst ex
      obtain⟨v,hv,rv⟩:=(TR.look (k:=ks) rd).2 d e3
      exact⟨a,v,rfl,by rw[←hv];exact qY.t gd hy,k _ _ _ _ (O.trans U) Y rv J⟩
     ·exact J.elim
    ·exact J.elim
   |_=>exact J.elim
  |_=>exact J.elim⟩⟩
theorem ou{α β:Type}{F:α->β->Prop}:∀ {l:List α} {m:List β},Paired F l m->l.length=m.length
 |_,_,.nil=>rfl
 |_,_,.cons _ t=>by rw[bE,bE,ou t]
def Ik{prog:cw}{w:da}{K:Type}[DecidableEq K]{knd:HeapKind prog w K}{d:aT}(hd:(d==me)=false) :
  MeetsIn prog w (md.«dict.__len__» ⟨[.ref d],[]⟩) (λ_ R s=>∃xs:List (K×aT×af),s.heap.DictOfH knd d xs/\R (.ok (.ret (.int xs.length s.toks))) { s with toks:=s.toks+1 }) :=
 .of_wp λA R s ⟨xs,O,h⟩=>by
  obtain⟨o,es,ep,U,Z,J,Y,hp,hn⟩:=O
  show a9 _ _ (dictSize d >>= _) _ _ s
  unfold dictSize
  refine ab (ab (wpAny_dictEntries U J (av ?_)))
  show a9 _ _ (MU d >>= _) _ _ s
  refine ab (wpAny_pendingCount_other hd ?_)
  refine wpAny_ret_mkInt ?_
  rw[nB,size_of_entries Y];exact h
theorem Od{prog:cw}{w:da}{K:Type}[DecidableEq K]{knd:HeapKind prog w K}{A:gu}{E:af->aw->Prop}{s:aw}{d:aT}{xs:List (K×aT×af)}{Q:af->aw->Prop}(hd:(d==me)=false)(hm:s.heap.DictOfH knd d xs)(hfit:(xs.length:Int)<2 ^ 63)
  (h:Q (.int xs.length (s.toks+1)) { s with toks:=s.toks+1+1 }):a9 (cy prog w) A (call (.builtin "len") [.ref d]) Q E s:=by
 refine AW kind_len plain_len entry_len (args_len1 _) ?_
 unfold md.«len»
 refine ab (m:=oneArg "len" _) (av ?_)
 refine ab (m:=callSpecial? (.ref d) (fE "__len__")) (fb (name:=fE "__len__") hm.typeIs LG
  (call_meetsIn LG hm.typeIs F.entry_dict_len (F.args_dict_len_1 _) (Ik (knd:=knd) hd) ⟨xs,hm,?_⟩))
 show a9 _ _ _ _ _ { s with toks:=s.toks+1 }
 refine ab (gz (av ?_))
 refine ab (A8 ?_)
 show a9 _ _ (if ((xs.length:Nat):Int)<0 then _ else _) _ _ _
 rw[if_neg (by grind)]
 show a9 _ _ (if ((xs.length:Nat):Int)≥2 ^ 63 then _ else _) _ _ _
 rw[if_neg (by grind)]
 exact ab (wpAny_mkInt (av ⟨_,rfl,h⟩))
theorem QW:d8 X (.builtin "len") (jm X.K rN):=by
 intro kL s σ H xs us Q I U h
 obtain⟨ds,H3,Q3,hr,Y,t,k⟩:=h
 cases Y with
 |nil=>exact t.elim
 |cons r1 r2=>
  cases r2 with
  |cons _ _=>cases r1 <;> exact t.elim
  |nil=>
   cases r1 with
   |ref a=>
    (delta rN at t;dsimp only at t)
    split at t
    ·rename_i zp Z
     obtain⟨ks,ga,ra⟩:=hr a _ Z
     obtain⟨z,hd,ys,J,dd⟩:=Qu I.hok ga
     obtain⟨u,rfl,ru⟩:=Vals.one U
     obtain rfl:u=eB a:=ru
     have O:ys.length=ks.length:=(ou J).symm
     have l2:zp.length=ks.length:=ou ra
     refine Od hd dd (by rw[O];rw[lI] at z;grind) ?_
     refine⟨.int zp.length,H,I.tok _,⟨_,by rw[O,←l2]⟩,k _ _ _ _ TK.refl hr (.int _) t⟩
    ·exact t.elim
   |_=>exact t.elim
end
variable{A:gu}{E:af->aw->Prop}{s:aw}{Q:af->aw->Prop}
def Cu{α:Type}{M:OM}{a:aT}{k:Option Obj->Sem α}{Q:α->aw->Prop}(h:a9 M A (k (s.heap.get? a)) Q E s):a9 M A (Sem.loadIfAlive a k) Q E s:=λO p J=>by
 have:=h O p J
 rw[Sem.wp_loadIfAlive];exact this
section
variable{prog:cw}{w:da}{A:gu}{E:af->aw->Prop}{s:aw}
def Hy{jt tt:aT}{i:Nat}{its:Array af}{x:af}(hj:s.heap.IsTupleIter jt tt i)(ht:s.heap.IsTuple tt its)(hx:its[i]?=some x)
  (hQ:∀h',h'.IsTupleIter jt tt (i+1)->kH jt s.heap h'->Q x { s with heap:=h' }):a9 (cy prog w) A (eJ (.ref jt)) Q E s:=by
 obtain⟨o,J,Y,hd⟩:=id hj
 obtain⟨Z,O,_,nl,U⟩:=ht
 unfold eJ
 refine ab (fb (name:=fE "__next__") hj.typeIs og (fN og hj.typeIs zi ?_ (yk _)))
 show a9 _ _ (DD (.ref jt) 0 >>= _) _ _ s
 refine ab (fq J hd (x:=.ref tt) rfl ?_)
 show a9 _ _ (if (eB tt==jI)=true then _ else _) _ _ s
 rw[if_neg (show ¬((eB tt==jI)=true) from ff)]
 show a9 _ _ (DD (.ref jt) 1 >>= _) _ _ s
 refine ab (fq J hd (x:=.int i 0) rfl ?_)
 show a9 _ _ (seqItems? (.ref tt) >>= _) _ _ s
 refine ab (iq O U ?_)
 simp only[eP,hx]
 refine ab (wx J hd (by simp) (av ⟨x,rfl,av (hQ _ ⟨_,hX _ J (xk (oj hd _)),(A9 ..).trans Y,by rw[oj hd];simp[ma]⟩ (kz ..))⟩))
def lR{jt tt:aT}{i:Nat}{its:Array af}(hh:A.handled=none)(hj:s.heap.IsTupleIter jt tt i)(ht:s.heap.IsTuple tt its)(hx:its[i]?=none)
  (hE:∀h' e,KO jt s.heap h'->(∃o,h'.get? e=some o/\o.cls=.type "StopIteration")->E (.ref e) { s with heap:=h' }):a9 (cy prog w) A (eJ (.ref jt)) Q E s:=by
 obtain⟨o,J,Y,hd⟩:=id hj
 obtain⟨Z,O,_,nl,U⟩:=ht
 unfold eJ
 refine ab (fb (name:=fE "__next__") hj.typeIs og (fN og hj.typeIs zi ?_ (yk _)))
 show a9 _ _ (DD (.ref jt) 0 >>= _) _ _ s
 refine ab (fq J hd (x:=.ref tt) rfl ?_)
 show a9 _ _ (if (eB tt==jI)=true then _ else _) _ _ s
 rw[if_neg (show ¬((eB tt==jI)=true) from ff)]
 show a9 _ _ (DD (.ref jt) 1 >>= _) _ _ s
 refine ab (fq J hd (x:=.int i 0) rfl ?_)
 show a9 _ _ (seqItems? (.ref tt) >>= _) _ _ s
 refine ab (iq O U ?_)
 simp only[eP,hx]
 refine ab (xA (ab (wx J hd (by simp) ?_)))
 show a9 _ _ (NX (.type "StopIteration") [] >>= λ_=>_) _ _ _
 refine ab ?_
 simp only[NX,OT]
 refine ab (fR ?_ (by size_fits))
 refine ab (m:=wq _ _) (pz (a:=jI) (by first | (simp only[wq];rfl) | rfl) ?_)
 refine fR ?_ (by size_fits)
 simp only[OU]
 refine ab (FE ?_)
 first | rw[hh] | rw[show A.in1.handled=none from hh]
 refine ab (av (KL ?_))
 exact hE _ _ (((kz ..).extBut.push _).push _) ⟨_,ba _ rfl,rfl⟩
def Tz(hh:A.handled=none)(jt tt:aT)(hne:tt≠jt)(its:Array af):ME prog w A jt [jt,tt] its.size (λi v=>its[i]?=some v) (λi h=>h.IsTupleIter jt tt i/\h.IsTuple tt its) where
 live:=λ_ _ st=>let ⟨o,Y,_⟩:=st.1;⟨o,Y⟩
 frame:=λ_ _ _ st U=>⟨st.1.at λo e=>U jt (by simp) o e,st.2.at λo e=>U tt (by simp) o e⟩
 item:=λi s Q E hi st Z=>Hy st.1 st.2 (x:=its[i]) (by simp[hi]) λh' O J=>Z _ h' s.toks (by simp[hi]) ⟨O,st.2.extBut J.extBut hne⟩ J
 done:=λs Q E st hE=>lR hh st.1 st.2 (by simp) hE
def Ga(h:fA)(z TI TO T0:aT):Prop:=∃b:Bool,h.get? z=some { cls:=.type "zip",data:=.fields #[ma T0,.bool b,.bool false,.ref TI,.ref TO] }
variable{z TI TO i1 i2 T0:aT}{f1 f2:List aT}{n1 n2 k:Nat}{P1 P2:Nat->af->Prop}{S1 S2:Nat->fA->Prop}{a b:af}
def Yq(hz:Ga s.heap z TI TO T0){o0:Obj}(h0:s.heap.get? T0=some o0){Q:Bool->aw->Prop}
  (h:∀h',Ga h' z TI TO T0->kH z s.heap h'->Q false { s with heap:=h' }):a9 (cy prog w) A (eR (.ref z)) Q E s:=by
 obtain⟨U,hz⟩:=hz
 unfold eR
 refine ab (fq hz rfl (x:=ma T0) rfl ?_)
 unfold ma
 dsimp only
 refine ab (Cu (av ?_))
 rw[eP,h0]
 simp only[Option.isNone_some,c9,if_false]
 refine ab (fq hz rfl (x:=.bool U) rfl ?_)
 cases U with
 |true=>
  rw[if_neg (by decide)]
  exact av (h s.heap ⟨true,hz⟩ (HZ _ _))
 |false=>
  rw[if_pos (by decide)]
  refine ab (iO hz (by simp) λY J O=>av (h Y ⟨true,?_⟩ O))
  exact J
def Ob{Q:Option af->aw->Prop}(D:Uw z TI TO i1 i2 f1 f2)(D1:ME prog w A.in1 i1 f1 n1 P1 S1)(D2:ME prog w A.in1 i2 f2 n2 P2 S2)(h1:k<n1)(h2:k<n2)
  (hz:Ga s.heap z TI TO T0) {o0:Obj} (h0:s.heap.get? T0=some o0) (hTI:mi s.heap TI (.ref i1) (.ref i2)) (st1:S1 k s.heap) (st2:S2 k s.heap)
  (hQ:∀ h' tk x y,P1 k x→P2 k y→Ga h' z TI TO T0→S1 (k + 1) h'→S2 (k + 1) h'→mi h' s.heap.objs.size x y →
   (∀c o,c≠z->c≠i1->c≠i2->s.heap.get? c=some o->h'.get? c=some o)->Q (some (.ref s.heap.objs.size)) { s with heap:=h',toks:=tk }) :
  a9 (cy prog w) A (l9 (.ref z)) Q E s:=by
 obtain⟨bb,ac⟩:=id hz
 have hT:s.TypeIs (.ref z) "zip":=⟨_,ac,rfl⟩
 unfold l9
 refine ab (nL (fb (name:=fE "__next__") hT ng (fN ng hT xB ?_ (wt _))))
 show a9 _ _ (DD (.ref z) 2 >>= λ_=>_) _ _ _
 refine ab (fq ac rfl (x:=.bool false) rfl ?_)
 show a9 _ _ (DD (.ref z) 3 >>= λ_=>_) _ _ _
 refine ab (fq ac rfl (x:=.ref TI) rfl ?_)
 refine ab (iq hTI rfl ?_)
 show a9 _ _ (eR (.ref z) >>= λ_=>_) _ _ _
 refine ab (Yq hz h0 λal am J=>?_)
 simp only[c9,if_false]
 refine ab ?_
 rw[←vv]
 simp only[r9,AJ]
 have ne:∀ {c d:aT} {f:List aT},c∈f->d∉f->c≠d:=λO hd e=>hd (e▸O)
 have ap:S1 k al:=D1.frame _ _ _ st1 λc O o e=>(J.2 c (ne O D.a1.1)).trans e
 have a0:S2 k al:=D2.frame _ _ _ st2 λc O o e=>(J.2 c (ne O D.a2.1)).trans e
 refine ab (ab (gz ?_))
 show a9 _ _ (eJ (.ref i1) >>= λ_=>_) _ _ _
 refine ab (D1.item k { s with heap:=al } _ _ h1 ap λx bi a3 hx a4 U=>av (av ?_))
 have a5:S2 k bi:=D2.frame _ _ _ a0 λc O o e=>(U.2 c (ne O D.a2.2.2)).trans e
 refine ab (ab (gz ?_))
 show a9 _ _ (eJ (.ref i2) >>= λ_=>_) _ _ _
 refine ab (D2.item k { s with heap:=bi,toks:=a3 } _ _ h2 a5 λy Z a6 hy a7 Y=>av (av (av ?_)))
 have bd:S1 (k+1) Z:=D1.frame _ _ _ a4 λc O o e=>(Y.2 c (ne O D.a1.2.2)).trans e
 refine ab (MG (av ⟨_,rfl,av ?_⟩) (by show 2<=cf;decide))
 have hsz:Z.objs.size=s.heap.objs.size:=by rw[Y.1,U.1,J.1]
 have up:∀c o,Z.get? c=some o->(Z.push { cls:=.type "tuple",data:=.seq #[x,y] }).get? c=some o:=λc o e=>ai _ e
 have hn:mi (Z.push { cls:=.type "tuple",data:=.seq #[x,y] }) Z.objs.size x y:=ba _ rfl
 rw[hsz] at hn
 obtain⟨b1,be⟩:=am
 have bg:Ga (Z.push { cls:=.type "tuple",data:=.seq #[x,y] }) z TI TO T0:=⟨b1,up _ _ ((Y.2 z D.i2z.symm).trans ((U.2 z D.i1z.symm).trans be))⟩
 show Q (some (.ref Z.objs.size)) _
 rw[hsz]
 exact hQ _ a6 x y hx hy bg (D1.frame _ _ _ bd λc _ o e=>up c o e) (D2.frame _ _ _ a7 λc _ o e=>up c o e) hn λc o c1 c3 c4 e=>up c o ((Y.2 c c4).trans ((U.2 c c3).trans ((J.2 c c1).trans e)))
def Sq{Q:Option af->aw->Prop}(D:Uw z TI TO i1 i2 f1 f2)(fr1:∀h h':fA,S1 k h->(∀b∈f1,∀o,h.get? b=some o->h'.get? b=some o)->S1 k h')(fr2:∀h h':fA,S2 k h->(∀b∈f2,∀o,h.get? b=some o->h'.get? b=some o)->S2 k h')
  (hend:xg prog w A.in1 i1 (S1 k)\/((k<n1/\ME prog w A.in1 i1 f1 n1 P1 S1)/\xg prog w A.in1 i2 (S2 k)))
  (hz:Ga s.heap z TI TO T0) {o0:Obj} (h0:s.heap.get? T0=some o0) (hTI:mi s.heap TI (.ref i1) (.ref i2)) (st1:S1 k s.heap) (st2:S2 k s.heap)
  (hQ:∀h' tk,(∀c o,c≠z->c≠i1->c≠i2->s.heap.get? c=some o->h'.get? c=some o)->Q none { s with heap:=h',toks:=tk }) :
  a9 (cy prog w) A (l9 (.ref z)) Q E s:=by
 obtain⟨bb,Y⟩:=id hz
 have hT:s.TypeIs (.ref z) "zip":=⟨_,Y,rfl⟩
 unfold l9
 refine ab (nL (fb (name:=fE "__next__") hT ng (fN ng hT xB ?_ (wt _))))
 have Z:∀h' e tk,(∀c o,c≠z->c≠i1->c≠i2->s.heap.get? c=some o->h'.get? c=some o)->(∃o,h'.get? e=some o/\o.cls=.type "StopIteration") ->
   a9 (cy prog w) A (do let r ←isInstance (.ref e) (Value.type "StopIteration");if r=true then pure none else throw (.ref e)) Q E { s with heap:=h',toks:=tk }:=by
  rintro h' e tk hk ⟨o,ho,J⟩
  exact ab (qB (T := "StopIteration") (b:=true) ⟨o,ho,J⟩ AI (av (hQ h' tk hk)))
 show a9 _ _ (DD (.ref z) 2 >>= λ_=>_) _ _ _
 refine ab (fq Y rfl (x:=.bool false) rfl ?_)
 show a9 _ _ (DD (.ref z) 3 >>= λ_=>_) _ _ _
 refine ab (fq Y rfl (x:=.ref TI) rfl ?_)
 refine ab (iq hTI rfl ?_)
 show a9 _ _ (eR (.ref z) >>= λ_=>_) _ _ _
 refine ab (Yq hz h0 λam a6 O=>?_)
 simp only[c9,if_false]
 refine ab ?_
 rw[←vv]
 simp only[r9,AJ]
 have ne:∀ {c d:aT} {f:List aT},c∈f->d∉f->c≠d:=λJ hd e=>hd (e▸J)
 have ac:S1 k am:=fr1 _ _ st1 λc J o e=>(O.2 c (ne J D.a1.1)).trans e
 have a0:S2 k am:=fr2 _ _ st2 λc J o e=>(O.2 c (ne J D.a2.1)).trans e
 refine ab (ab (gz ?_))
 show a9 _ _ (eJ (.ref i1) >>= λ_=>_) _ _ _
 rcases hend with hend | ⟨⟨a3,D1⟩,hend⟩
 ·exact ab (hend { s with heap:=am } _ _ ac λap e U he=>Z ap e s.toks (λc o c1 c3 _ x=>U c o c3 ((O.2 c c1).trans x)) he)
 ·refine ab (D1.item k { s with heap:=am } _ _ a3 ac λx ap al hx a7 U=>av (av ?_))
  have a4:S2 k ap:=fr2 _ _ a0 λc J o e=>(U.2 c (ne J D.a2.2.2)).trans e
  refine ab (ab (gz ?_))
  show a9 _ _ (eJ (.ref i2) >>= λ_=>_) _ _ _
  exact ab (hend { s with heap:=ap,toks:=al } _ _ a4 λbd e a5 he=>Z bd e al (λc o c1 c3 c4 x=>a5 c o c4 ((U.2 c c3).trans ((O.2 c c1).trans x))) he)
end
def ZSt(h:fA)(z TI TO:aT):Prop:=(AG h z TI TO .none/\∃u v,mi h TO u v)\/∃T0 o0,Ga h z TI TO T0/\h.get? T0=some o0/\T0≠z/\∃oO,h.get? TO=some oO
section
variable{X:Cx}{kL:List (aT×Obj)}{σ:St}{A:gu}{z TI TO i1 i2 ta lb S:aT}{us ws:List af}{xs ys:List V}{dx dy:List D}{H0:Hp}{H3:aA}{R:CL->aw->Prop}
def Q5(hh:A.handled=none)(D:Uw z TI TO i1 i2 [i1,ta] [i2,lb])(n1:ta≠i1)(n2:lb≠i2){i:Nat}{H:Hp}{Q:Option af->aw->Prop}(I:L2.Inv X kL σ H s)
  (hf:∀b∈[z,TI,TO,i1,i2],eY X kL H b) (hz:ZSt s.heap z TI TO) (hTI:mi s.heap TI (.ref i1) (.ref i2)) (h1:s.heap.IsTupleIter i1 ta i) (h2:s.heap.IsTuple ta us.toArray) (h3:s.heap.IsListIter i2 lb i) (h4:s.heap.IsList lb ws.toArray)
  (hi1:i<us.length) (hi2:i<ws.length) {x y:V} (rx:∀u,us[i]?=some u->RelV x u) (ry:∀u,ws[i]?=some u->RelV y u)
  (hQ:∀ h' tk,L2.Inv X kL σ (upd H s.heap.objs.size (.tup [x,y])) { s with heap:=h',toks:=tk }→ZSt h' z TI TO→mi h' TI (.ref i1) (.ref i2)→h'.IsTupleIter i1 ta (i + 1)→h'.IsTuple ta us.toArray→h'.IsListIter i2 lb (i + 1)→h'.IsList lb ws.toArray →
   (∀c o,c∉[z,TI,TO,i1,i2]->s.heap.get? c=some o->h'.get? c=some o)->Q (some (.ref s.heap.objs.size)) { s with heap:=h',toks:=tk }) :
  a9 (cy X.prog X.w) A (l9 (.ref z)) Q E s:=by
 have DT:=Tz (prog:=X.prog) (w:=X.w) (A:=A.in1) hh i1 ta n1 us.toArray
 have DL:=F9 (prog:=X.prog) (w:=X.w) (A:=A.in1) hh i2 lb n2 ws.toArray
 have o1:∀ {h:fA},h.IsTupleIter i1 ta i->∃o,h.get? i1=some o:=λ⟨o,e,_⟩=>⟨o,e⟩
 have al:∀c∈[z,TI,TO,i1,i2],(∃o,s.heap.get? c=some o)->s.heap.objs.size≠c:=λc _ ⟨o,e⟩=>nv (b5 e)
 have k1:i<us.toArray.size:=by simpa using hi1
 have k2:i<ws.toArray.size:=by simpa using hi2
 have two:∀ {h':fA} {tk:Nat} {u v:af},us.toArray[i]?=some u->ws.toArray[i]?=some v->mi h' s.heap.objs.size u v->(∀c o,c∉[z,TI,TO,i1,i2]->s.heap.get? c=some o->h'.get? c=some o)->L2.Inv X kL σ (upd H s.heap.objs.size (.tup [x,y])) { s with heap:=h',toks:=tk }:=λhu hv hp O=>
  qU (ch:=[z,TI,TO,i1,i2]) I (λc o am e=>O c o am e) hf (a8 _) ⟨by show 2<=cf;decide,[_,_],.cons (rx _ (by simpa using hu)) (.cons (ry _ (by simpa using hv)) .nil),⟨_,hp,rfl,_,rfl,rfl⟩⟩
 have out:∀ {c:aT},c∉[z,TI,TO,i1,i2]->c≠z/\c≠TI/\c≠TO/\c≠i1/\c≠i2:=λh=>by simp only[br,dc,or_false,not_or] at h;exact h
 rcases hz with ⟨hz,u0,v0,ap⟩ | ⟨T0,o0,hz,h0,ac,oO,hO⟩
 ·refine xQ (k:=i) D DT DL k1 k2 hz hTI ap ⟨h1,h2⟩ ⟨h3,h4⟩ λh' tk u v hu hv a1 a2 sa Z a5 U=>?_
  have O:∀c o,c∉[z,TI,TO,i1,i2]->s.heap.get? c=some o->h'.get? c=some o:=λc o J e=>U c o (out J).1 (out J).2.2.1 (out J).2.2.2.1 (out J).2.2.2.2 e
  exact hQ h' tk (two hu hv a5 O) (.inr ⟨s.heap.objs.size,_,⟨false,a1⟩,a5,al z (by simp) ⟨_,hz⟩,_,a2⟩) (U TI _ D.TIz D.TITO D.TIi1 D.TIi2 hTI) sa.1 sa.2 Z.1 Z.2 O
 ·refine Ob (k:=i) D DT DL k1 k2 hz h0 hTI ⟨h1,h2⟩ ⟨h3,h4⟩ λh' tk u v hu hv a1 sa Z a5 U=>?_
  have O:∀c o,c∉[z,TI,TO,i1,i2]->s.heap.get? c=some o->h'.get? c=some o:=λc o J e=>U c o (out J).1 (out J).2.2.2.1 (out J).2.2.2.2 e
  have Y:∃o,h'.get? T0=some o:=by
   by_cases e1:T0=i1
   ·obtain⟨o,e,_⟩:=sa.1;exact⟨o,by rw[e1];exact e⟩
   ·by_cases e2:T0=i2
    ·obtain⟨o,e,_⟩:=Z.1;exact⟨o,by rw[e2];exact e⟩
    ·exact⟨o0,U T0 o0 ac e1 e2 h0⟩
  obtain⟨o',Y⟩:=Y
  exact hQ h' tk (two hu hv a5 O) (.inr ⟨T0,o',a1,Y,ac,oO,U TO _ D.TOz D.TOi1 D.TOi2 hO⟩) (U TI _ D.TIz D.TIi1 D.TIi2 hTI) sa.1 sa.2 Z.1 Z.2 O
theorem Qy(hh:A.handled=none)(D:Uw z TI TO i1 i2 [i1,ta] [i2,lb])(n1:ta≠i1)(n2:lb≠i2){i:Nat}{H:Hp}{Q:Option af->aw->Prop}(I:L2.Inv X kL σ H s)
  (hf:∀b∈[z,TI,TO,i1,i2],eY X kL H b) (hz:ZSt s.heap z TI TO) (hTI:mi s.heap TI (.ref i1) (.ref i2)) (h1:s.heap.IsTupleIter i1 ta i) (h2:s.heap.IsTuple ta us.toArray) (h3:s.heap.IsListIter i2 lb i) (h4:s.heap.IsList lb ws.toArray)
  (hi:us.length<=i\/ws.length<=i)
  (hQ:∀h' tk,L2.Inv X kL σ H { s with heap:=h',toks:=tk }->(∀c o,c∉[z,TI,TO,i1,i2]->s.heap.get? c=some o->h'.get? c=some o)->Q none { s with heap:=h',toks:=tk }) :
  a9 (cy X.prog X.w) A (l9 (.ref z)) Q E s:=by
 have Z:=Tz (prog:=X.prog) (w:=X.w) (A:=A.in1) hh i1 ta n1 us.toArray
 have DL:=F9 (prog:=X.prog) (w:=X.w) (A:=A.in1) hh i2 lb n2 ws.toArray
 have out:∀ {c:aT},c∉[z,TI,TO,i1,i2]->c≠z/\c≠TI/\c≠TO/\c≠i1/\c≠i2:=λh=>by simp only[br,dc,or_false,not_or] at h;exact h
 have e1:us.length<=i->xg X.prog X.w A.in1 i1 ((λi h=>h.IsTupleIter i1 ta i/\h.IsTuple ta us.toArray) i):=λU s' Q' E' J hE=>lR hh J.1 J.2 (by simp;grind) hE
 have e2:ws.length<=i->xg X.prog X.w A.in1 i2 ((λi h=>h.IsListIter i2 lb i/\h.IsList lb ws.toArray) i):=λU s' Q' E' J hE=>DM hh J.1 J.2 (by simp;grind) hE
 have he:xg X.prog X.w A.in1 i1 ((λi h=>h.IsTupleIter i1 ta i/\h.IsTuple ta us.toArray) i)\/((i<us.toArray.size/\ME X.prog X.w A.in1 i1 [i1,ta] us.toArray.size (λi v=>us.toArray[i]?=some v) (λi h=>h.IsTupleIter i1 ta i/\h.IsTuple ta us.toArray))/\xg X.prog X.w A.in1 i2 ((λi h=>h.IsListIter i2 lb i/\h.IsList lb ws.toArray) i)):=by
  by_cases U:us.length<=i
  ·exact .inl (e1 U)
  ·exact .inr ⟨⟨by simp;grind,Z⟩,e2 (by grind)⟩
 rcases hz with ⟨hz,u0,v0,ac⟩ | ⟨T0,o0,hz,h0,al,oO,hO⟩
 ·refine DX (k:=i) (P1:=λi v=>us.toArray[i]?=some v) (n1:=us.toArray.size) (S1:=λi h=>h.IsTupleIter i1 ta i/\h.IsTuple ta us.toArray) (S2:=λi h=>h.IsListIter i2 lb i/\h.IsList lb ws.toArray) D (λ_ _ q k=>Z.frame i _ _ q k) (λ_ _ q k=>DL.frame i _ _ q k) he hz hTI ac ⟨h1,h2⟩ ⟨h3,h4⟩ λh' tk k=>?_
  have Y:∀c o,c∉[z,TI,TO,i1,i2]->s.heap.get? c=some o->h'.get? c=some o:=λc o O e=>k c o (out O).1 (out O).2.2.1 (out O).2.2.2.1 (out O).2.2.2.2 e
  exact hQ h' tk (qy (t':=tk) (ch:=[z,TI,TO,i1,i2]) I Y hf) Y
 ·refine Sq (k:=i) (P1:=λi v=>us.toArray[i]?=some v) (n1:=us.toArray.size) (S1:=λi h=>h.IsTupleIter i1 ta i/\h.IsTuple ta us.toArray) (S2:=λi h=>h.IsListIter i2 lb i/\h.IsList lb ws.toArray) D (λ_ _ q k=>Z.frame i _ _ q k) (λ_ _ q k=>DL.frame i _ _ q k) he hz h0 hTI ⟨h1,h2⟩ ⟨h3,h4⟩ λh' tk k=>?_
  have Y:∀c o,c∉[z,TI,TO,i1,i2]->s.heap.get? c=some o->h'.get? c=some o:=λc o O e=>k c o (out O).1 (out O).2.2.2.1 (out O).2.2.2.2 e
  exact hQ h' tk (qy (t':=tk) (ch:=[z,TI,TO,i1,i2]) I Y hf) Y
end
def tIt(t:aT):Obj:={ cls:=.type "tuple_iterator",data:=.fields #[.ref t,.int 0 0] }
set_option maxHeartbeats 4000000 in
def zT(t l:aT)(xs ys:Array af) :
  Meets (md.«zip.__new__» ⟨[.type "zip",.ref t,.ref l],[]⟩) (λ_ R s=>(s.heap.IsTuple t xs/\s.heap.IsList l ys)/\R (.ok (.ret (.ref (zh4 s.heap (tIt t) (Jq l)).objs.size))) { s with heap:=Ah s.heap (tIt t) (Jq l) }) :=
 .of_wp λprog w A R s h=>by
  obtain⟨J,g,d,O,os⟩:=s
  obtain⟨⟨Y,Z⟩,h⟩:=h
  have U:=sub_zip
  have hT:Heap.IsTuple (Shared.heap ⟨J,g,d,O,os⟩) t xs:=Y
  have hL:OV (Shared.heap ⟨J.push { cls:=.type "tuple_iterator",data:=.fields #[.ref t,.int 0 0] },g,d,O,os⟩) l ys:=PZ Z _
  wp_walk using zC hT,pj hL
  exact⟨_,rfl,h⟩
def DY{prog:cw}{w:da}{t l:aT}{xs ys:Array af}(ht:s.heap.IsTuple t xs)(hl:s.heap.IsList l ys)
  (h:Q (.ref (s.heap.objs.size+4)) { s with heap:=Ah s.heap (tIt t) (Jq l) }):a9 (cy prog w) A (call (.type "zip") [.ref t,.ref l]) Q E s:=by
 refine HP NY (by decide) (Jn _ _) (LD _ _) (λobj=>EC obj _ _) LF (zT t l xs ys) ⟨⟨ht,hl⟩,?_⟩
 obtain⟨J,O,_⟩:=Jk s.heap (tIt t) (Jq l) rfl rfl
 show _/\_
 rw[J]
 exact⟨⟨_,O,rfl⟩,h⟩
def Ng:xw (.type "zip") "__len__" = pure none:=by
 rw[nc,kc]
 kernel_rfl
def Hv:xw (.type "zip") "__length_hint__" = pure none:=by
 rw[nc,kc]
 kernel_rfl
section
variable{X:Cx}{kL:List (aT×Obj)}{σ:St}{A:gu}{z TI TO i1 i2 ta lb S:aT}{us ws:List af}{xs ys:List V}{dx dy:List D}{H0:Hp}{H3:aA}{R:CL->aw->Prop}{res:af}
theorem Uk(hh:A.handled=none)(D:Uw z TI TO i1 i2 [i1,ta] [i2,lb])(n1:ta≠i1)(n2:lb≠i2)(hS:S∉[z,TI,TO,i1,i2])(hSt:S≠ta)(hSl:S≠lb)(rx:Vals xs us)(ry:Vals ys ws)(px:aK X.K H0 dx xs)(py:aK X.K H0 dy ys)(hu:us.length<=1000) :
  ∀(m i:Nat) (s:aw) (H:Hp) (acc:Array af) (c:Nat) (vs:List V),min us.length ws.length-i=m->i<=min us.length ws.length->L2.Inv X kL σ H s->TK H0 H->HR X.K H3 H->(∀b∈[z,TI,TO,i1,i2],eY X kL H b)->eY X kL H S->ZSt s.heap z TI TO->mi s.heap TI (.ref i1) (.ref i2) ->
   s.heap.IsTupleIter i1 ta i->s.heap.IsTuple ta us.toArray->s.heap.IsListIter i2 lb i->s.heap.IsList lb ws.toArray->s.heap.get? S=some { cls:=.type "list",dict:=none,data:=.seq acc c,slots:=#[] }->Vals vs acc.toList->aK X.K H ((fC dx dy).take i) vs->vs.length=i ->
   (∀s' H' vs' acc' c',L2.Inv X kL σ H' s'->TK H0 H'->HR X.K H3 H'->eY X kL H' S->eY X kL H' z->s'.heap.get? S=some { cls:=.type "list",dict:=none,data:=.seq acc' c',slots:=#[] }->Vals vs' acc'.toList->aK X.K H' (fC dx dy) vs'->vs'.length<=1000->R (.ok (.ret res)) s') ->
   rq (cy X.prog X.w) A (.builtin "list.extend.loop" ⟨[.ref S,.ref z,res],[]⟩) R s:=by
 have lz:(fC dx dy).length=min us.length ws.length:=by unfold fC;rw[y8,px.length,py.length,rx.length,ry.length]
 intro m
 induction m with
 |zero=>
  intro i s H acc c vs hm hi I tk hr hf fS hz Z h1 h2 h3 h4 hs hv O Y hR
  refine ij EX ?_
  rw[gp uu _]
  show a9 _ A.in1 (l9 (.ref z) >>= λ_=>_) _ _ s
  refine ab (Qy (A:=A.in1) hh D n1 n2 I hf hz Z h1 h2 h3 h4 (by grind) λh' t' I' hk=>?_)
  refine av (hR _ H vs acc c I' tk hr fS (hf z (by simp)) (hk S _ hS hs) hv ?_ (by grind))
  rw[fh (by grind)] at O
  exact O
 |succ m ih=>
  intro i s H acc c vs hm hi I tk hr hf fS hz Z h1 h2 h3 h4 hs hv O Y hR
  refine ij EX ?_
  rw[gp uu _]
  show a9 _ A.in1 (l9 (.ref z) >>= λ_=>_) _ _ s
  have hx:i<xs.length:=by rw[rx.length];grind
  have hy:i<ys.length:=by rw[ry.length];grind
  have gx:xs[i]?=some xs[i]:=aS hx
  have gy:ys[i]?=some ys[i]:=aS hy
  obtain⟨u,eu,ru⟩:=rx.get gx
  obtain⟨v,ev,rv⟩:=ry.get gy
  have hT:H s.heap.objs.size=none:=I.hok.fresh (a8 _)
  refine ab (Q5 (A:=A.in1) hh D n1 n2 I hf hz Z h1 h2 h3 h4 (by grind) (by grind) (x:=xs[i]) (y:=ys[i]) (λw e=>by rw[eu] at e;cases e;exact ru) (λw e=>by rw[ev] at e;cases e;exact rv) λh' t' I' a4 ap a5 a6 a7 bd hk=>?_)
  have am:=hk S _ hS hs
  have al:acc.size=i:=by rw[←cS,←hv.length];exact Y
  show a9 _ A.in1 (JA S (·.push (eB s.heap.objs.size)) >>= λ_=>_) _ _ _
  refine ab ?_
  have J:∀b o,b≠S->h'.get? b=some o->(h'.update S (n9 (·.push (eB s.heap.objs.size)))).get? b=some o:=λb o U e=>(nz _ _ (mI U)).trans e
  have ac:TK H (upd H s.heap.objs.size (.tup [xs[i],ys[i]])):=TK.fresh hT
  have nS:S≠s.heap.objs.size:=cx (b5 hs)
  have a0:eY X kL (upd H s.heap.objs.size (.tup [xs[i],ys[i]])) S:=⟨by rw[aC nS];exact fS.1,fS.2⟩
  have be:∀b∈[z,TI,TO,i1,i2],∃o,s.heap.get? b=some o:=by
   intro b U
   simp only[br,dc,or_false] at U
   rcases U with rfl | rfl | rfl | rfl | rfl
   ·rcases hz with ⟨q,_⟩ | ⟨_,_,⟨_,q⟩,_⟩
    ·exact⟨_,q⟩
    ·exact⟨_,q⟩
   ·exact⟨_,Z⟩
   ·rcases hz with ⟨_,_,_,q⟩ | ⟨_,_,_,_,_,o,q⟩
    ·exact⟨_,q⟩
    ·exact⟨_,q⟩
   ·obtain⟨o,e,_⟩:=h1;exact⟨o,e⟩
   ·obtain⟨o,e,_⟩:=h3;exact⟨o,e⟩
  have bg:∀b∈[z,TI,TO,i1,i2],eY X kL (upd H s.heap.objs.size (.tup [xs[i],ys[i]])) b:=λb U=>by
   obtain⟨o,e⟩:=be b U
   exact⟨by rw[aC (cx (b5 e))];exact (hf b U).1,(hf b U).2⟩
  have I2:=qy (t':=t') (ch:=[S]) (h':=h'.update S (n9 (·.push (eB s.heap.objs.size)))) I' (λb o U e=>J b o (λq=>U (by simp[q])) e) (λb U=>by rw[bX.mp U];exact a0)
  have zS:∀b∈[z,TI,TO,i1,i2],b≠S:=λb U e=>hS (e▸U)
  have bi:ZSt (h'.update S (n9 (·.push (eB s.heap.objs.size)))) z TI TO:=by
   rcases a4 with ⟨q,u0,v0,q2⟩ | ⟨T0,o0,⟨b0,q⟩,q2,q3,oO,q4⟩
   ·exact .inl ⟨J _ _ (zS z (by simp)) q,u0,v0,J _ _ (zS TO (by simp)) q2⟩
   ·by_cases e:T0=S
    ·exact .inr ⟨T0,_,⟨b0,J _ _ (zS z (by simp)) q⟩,by rw[e];exact hX _ am rfl,q3,oO,J _ _ (zS TO (by simp)) q4⟩
    ·exact .inr ⟨T0,o0,⟨b0,J _ _ (zS z (by simp)) q⟩,J _ _ e q2,q3,oO,J _ _ (zS TO (by simp)) q4⟩
  have hd:dx[i]?=some (dx[i]'(by rw[px.length];exact hx)):=aS _
  have a1:dy[i]?=some (dy[i]'(by rw[py.length];exact hy)):=aS _
  obtain⟨vx,a2,bl⟩:=px.get hd
  obtain⟨vy,a3,bm⟩:=py.get a1
  rw[gx] at a2;cases a2
  rw[gy] at a3;cases a3
  have ez:(fC dx dy).take (i+1)=(fC dx dy).take i++[.tup [dx[i]'(by rw[px.length];exact hx),dy[i]'(by rw[py.length];exact hy)]]:=by
   rw[gS]
   congr 1
   unfold fC
   rw[sj,hd,a1];rfl
  refine yn am rfl (av ⟨pT uu _,ih (i+1) _ _ (acc.push (.ref s.heap.objs.size)) _ (vs++[.ref s.heap.objs.size]) (by grind) (by grind) I2 (tk.trans ac) (hr.tup hT) bg a0 bi (J _ _ (zS TI (by simp)) ap) (a5.at λo e=>J _ o (zS i1 (by simp)) e) (a6.at λo e=>J _ o hSt.symm e) (a7.at λo e=>J _ o (zS i2 (by simp)) e) (bd.at λo e=>J _ o hSl.symm e) (hX _ am rfl) ?_ ?_ (by rw[ck,Y];rfl) hR⟩)
   (by rw[al,lI];grind) (by show (acc.push _).size<=cf+1;rw[vk,al,lI];grind)
  ·rw[Ic]
   exact Vals.ac6 hv rfl
  ·rw[ez]
   exact (O.mono ac).snoc (.tup aZ (.cons (bl.mono (tk.trans ac)) (.cons (bm.mono (tk.trans ac)) .nil)))
end
def Wh{prog:cw}{w:da}{R:CL->aw->Prop}{S z TI TO:aT}{res:af}{c0:Nat}(hSz:S≠z)(hS:s.heap.get? S=some { cls:=.type "list",data:=.seq #[] c0 })(hz:AG s.heap z TI TO .none)
  (h:∀h' c,(∀b o,b≠S->s.heap.get? b=some o->h'.get? b=some o)->h'.get? S=some { cls:=.type "list",dict:=none,data:=.seq #[] c,slots:=#[] }->rq (cy prog w) A (.builtin "list.extend.loop" ⟨[.ref S,.ref z,res],[]⟩) R { s with heap:=h' }) :
  a9 (cy prog w) A.in1 (kT (.ref S) (.ref z) res) (λfin s'=>match fin with
   |.done f=>R (.ok f) s'
   |.again c=>c.quiet=true/\rq (cy prog w) A c R s') (λe s'=>R (.error e) s') s:=by
 have O:s.TypeIs (.ref z) "zip":=⟨_,hz,rfl⟩
 have h1:BM (.ref S) (.ref z)=false:=by simp[BM,hSz]
 unfold kT
 refine ab (we O ?_)
 rw[if_neg (by rw[h1];decide)]
 refine ab (tI hz ?_)
 refine ab (gz ?_)
 unfold sM
 refine ab (mT O Ng ?_)
 show a9 _ A.in1 (specialOf (eB z) (fE "__length_hint__") >>= λ_=>_) _ _ s
 refine ab (mT O Hv (av ?_))
 rw[if_pos (by rfl)]
 refine ab (xA ?_)
 unfold N0
 refine ab (ab ?_)
 show a9 _ _ (JA S (λx=>x.push jI)) _ _ s
 refine yn hS rfl ?_
 have U:=hX (n9 (λx:Array af=>x.push jI)) hS rfl
 have Y:∀b o,b≠S->s.heap.get? b=some o->(s.heap.update S (n9 (λx:Array af=>x.push jI))).get? b=some o:=λb o J e=>(nz _ _ (mI J)).trans e
 show a9 _ _ (JA S (λx=>x.pop)) _ _ { s with heap:=s.heap.update S (n9 (λx:Array af=>x.push jI)) }
 refine yn U rfl ?_
 have Z:=hX (n9 (λx:Array af=>x.pop)) U rfl
 exact av ⟨pT uu _,h _ _ (λb o J e=>(nz _ _ (mI J)).trans (Y b o J e)) Z⟩
section
variable{X:Cx}
theorem Gj{a b:eT}{ta tb:bK}{p1 p2 pos1 pos2:Pos}(hc:X.calm=true)(m1:X.mg "list" = none)(m2:X.mg "zip" = none)(ha:aF X a ta)(hb:aF X b tb)(g1:Gl X "list":=by rfl)(g2:Gl X "zip":=by rfl)
  (hs:bS [.Call (.Name "zip" p2) [a,b] [] pos2] X.env=[(false,gN (.Call (.Name "zip" p2) [a,b] [] pos2) X.env)]:=by rfl) (hs0:bS [a,b] X.env=[(false,gN a X.env),(false,gN b X.env)]:=by rfl) (hs2:bS [b] X.env=[(false,gN b X.env)]:=by rfl)
  (hs3:bS [a,b] X.env=(false,gN a X.env)::bS [b] X.env:=by rfl) (hs4:bS [b] X.env=(false,gN b X.env)::bS [] X.env:=by rfl) :
  aF X (.Call (.Name "list" p1) [.Call (.Name "zip" p2) [a,b] [] pos2] [] pos1) (lz3 ta tb):=by
 intro kL s σ H Q I ⟨b0,H3,Q3,sr,a5,t,kk⟩
 refine ND (eX I g1 m1 boot_list (fe ?_ hs rfl))
 rw[hs]
 refine rL ?_
 have hp:FJ X [a,b] (aa ta (aa tb ak)):=fL ha (fL hb rM hs4) hs3
 refine ND (eX I g2 m2 boot_zip (fe (cC (hp pos2 kL s σ H (λvs H1=>∃Z l0 xs ys dx dy H3',vs=[.ref Z,.ref l0]/\TK H H1/\HR X.K H3' H1/\H1 Z=some (.tup xs)/\H1 l0=some (.lst ys)/\aK X.K H1 dx xs/\aK X.K H1 dy ys/\dx.length<=1000/\∀p,H3' p=none->Q3 (.ref p) (au H3' p (.lst (fC dx dy)))) I
  ⟨b0,H3,λds H1=>(match ds with | [x,y]=>lzk x y H1 Q3 | _=>False),sr,a5,t,λds vs a6 Ha a7 ac rs Y=>?_⟩) λus U ⟨vs,H1,I1,r1,Z,l0,xs,ys,dx,dy,H3',e,bd,be,et,el,px,py,hl,q⟩=>?_) (by rw[hs0,hs2]) (by rw[hs2];rfl)))
 ·cases rs with
  |nil=>exact Y.elim
  |cons r1 r2=>
   cases r2 with
   |nil=>exact Y.elim
   |cons r2 r3=>
    cases r3 with
    |cons _ _=>exact Y.elim
    |nil=>
     cases r1 with
     |tup ht rt=>
      cases r2 with
      |ref l=>
       (delta lzk at Y;dsimp only at Y)
       split at Y
       ·rename_i es he
        obtain⟨ys,gy,ry⟩:=ac l _ he
        exact⟨_,l,_,ys,_,es,a6,rfl,a7,ac,ht,gy,rt,ry,Y.1,Y.2⟩
       ·exact Y.elim
      |_=>exact Y.elim
     |_=>exact Y.elim
 subst e
 obtain⟨u,u',rfl,e1,e2⟩:=vals2 r1
 cases e1
 cases e2
 obtain⟨its,rx,pt,b2⟩:=I1.tuple (jC.of et)
 obtain⟨bg,ry,pl,b3⟩:=I1.list (cV.of el)
 have al:U.heap.IsTuple Z its.toArray:=pt
 have a1:Z<U.heap.objs.size:=by obtain⟨_,e,_⟩:=pt;exact b5 e
 have a2:l0<U.heap.objs.size:=by obtain⟨_,e,_⟩:=pl.isList;exact b5 e
 refine DY al pl.isList ?_
 obtain⟨z4,g5,g3,g4,bi,bl,hk⟩:=Jk U.heap (tIt Z) (Jq l0) rfl rfl
 generalize hn:U.heap.objs.size=n at *
 refine sL ?_
 have I2:L2.Inv X kL σ H1 { U with heap:=Ah U.heap (tIt Z) (Jq l0),toks:=U.toks }:=I1.kept (t':=U.toks) hk
 have D:Uw (n+4) (n+2) (n+3) n (n+1) [n,Z] [n+1,l0]:=by
  exact⟨(show (n+2:Nat)≠n+4 from by grind),(show (n+3:Nat)≠n+4 from by grind),(show (n:Nat)≠n+4 from by grind),(show (n+1:Nat)≠n+4 from by grind),(show (n+2:Nat)≠n+3 from by grind),(show (n+2:Nat)≠n from by grind),(show (n+2:Nat)≠n+1 from by grind),(show (n+3:Nat)≠n from by grind),(show (n+3:Nat)≠n+1 from by grind),(show (n:Nat)≠n+1 from by grind),⟨X6 (show (n+4:Nat)≠n from by grind) (Ux a1).1,X6 (show (n+3:Nat)≠n from by grind) (Ux a1).2.1,X6 (show (n+1:Nat)≠n from by grind) (Ux a1).2.2.1⟩,⟨X6 (show (n+4:Nat)≠n+1 from by grind) (Ux a2).1,X6 (show (n+3:Nat)≠n+1 from by grind) (Ux a2).2.1,X6 (show (n:Nat)≠n+1 from by grind) (Ux a2).2.2.2⟩⟩
 generalize hh5:Ah U.heap (tIt Z) (Jq l0)=h5 at *
 have z5:h5.objs.size=n+5:=by rw[←hh5,mx,z4]
 refine MC (Q₁:=λobj s₁=>obj=.ref h5.objs.size/\s₁={ U with heap:=h5.push { cls:=.type "list",data:=.seq #[] } }) F.called_list (F.typeCall_list_1 _) F.entry_list_init (code_list_new _ ⟨rfl,rfl⟩) ?_
 rintro obj s₁ ⟨rfl,rfl⟩
 have hS:(h5.push { cls:=.type "list",data:=.seq #[] }).get? h5.objs.size=some { cls:=.type "list",data:=.seq #[] }:=ba _ rfl
 refine⟨⟨_,hS,rfl⟩,F.args_list_init_2 _ _,?_⟩
 generalize hp6:h5.push { cls:=.type "list",data:=.seq #[] }=h6 at hS
 have k6:∀b o,h5.get? b=some o->h6.get? b=some o:=λb o e=>by rw[←hp6];exact ai _ e
 show a9 _ _ (CY (.ref h5.objs.size) >>= λbm=>NG (.ref h5.objs.size) (λ_=>#[]) >>= λ_=>letGo bm.toList.reverse >>= λ_=>kT (.ref h5.objs.size) (.ref (n+4)) .none) _ _ _
 refine ab ?_
 unfold CY
 refine ab (iq hS rfl (av ?_))
 show a9 _ _ (JA h5.objs.size (λ_=>#[]) >>= λ_=>letGo (#[]:Array af).toList.reverse >>= λ_=>kT (.ref h5.objs.size) (.ref (n+4)) .none) _ _ _
 refine ab (yn hS rfl ?_)
 have am:=hX (n9 (λ_=>(#[]:Array af))) hS rfl
 have ap:∀b o,b≠h5.objs.size->h6.get? b=some o->(h6.update h5.objs.size (n9 (λ_=>(#[]:Array af)))).get? b=some o:=λb o hb e=>(nz _ _ (mI hb)).trans e
 generalize h6.update h5.objs.size (n9 (λ_=>(#[]:Array af)))=h7 at am ap
 refine ab (A8 ?_)
 have a0:∀ {b:aT} {o:Obj},h5.get? b=some o->b≠h5.objs.size:=λe=>cx (b5 e)
 have k7:∀b o,h5.get? b=some o->h7.get? b=some o:=λb o e=>ap b o (a0 e) (k6 b o e)
 refine Wh (A:=X.A.in1) (s:={ U with heap:=h7 }) (TI:=n+2) (TO:=n+3) (by rw[z5];show (n+5:Nat)≠n+4;grind) am (k7 _ _ g5) λh8 c8 k8 bn=>?_
 have O:∀b o,h5.get? b=some o->h8.get? b=some o:=λb o e=>k8 b o (a0 e) (k7 b o e)
 have I8:L2.Inv X kL σ H1 { U with heap:=h8,toks:=U.toks }:=I1.kept (t':=U.toks) λb o e=>O b o (hk b o e)
 have fp:∀b,n<=b->eY X kL H1 b:=λb hb=>I1.wY (b:=b) (H':=H1) (by rw[hn];exact hb) (I1.hok.fresh (by rw[hn];exact hb))
 refine Uk (X:=X) (kL:=kL) (σ:=σ) (A:=X.A.in1) (H0:=H1) (H3:=H3') (us:=its) (ws:=bg) (xs:=xs) (ys:=ys) (dx:=dx) (dy:=dy) (I1.ok.hd hc) D (cx a1) (cx (dA a2 (Kx n)))
  (by rw[z5];simp only[br,dc,or_false,not_or];exact⟨(show (n+5:Nat)≠n+4 from by grind),(show (n+5:Nat)≠n+2 from by grind),(show (n+5:Nat)≠n+3 from by grind),(show (n+5:Nat)≠n from by grind),(show (n+5:Nat)≠n+1 from by grind)⟩)
  (by rw[z5];exact mI (cx (dA a1 (qE n 5)))) (by rw[z5];exact mI (cx (dA a2 (qE n 5)))) rx ry px py (by rw[←rx.length,←px.length];exact hl)
  _ 0 _ H1 #[] c8 [] rfl (eD _) I8 TK.refl be (λb hb=>fp b (by simp only[br,dc,or_false] at hb;rcases hb with rfl | rfl | rfl | rfl | rfl <;> first | exact a8 _ | exact qE _ _)) (fp _ (by rw[z5];exact qE _ _))
  (.inl ⟨O _ _ g5,_,_,O _ _ g4⟩) (O _ _ g3) ⟨_,O _ _ bi,rfl,rfl⟩ (al.at λo e=>O _ _ (hk _ _ e)) ⟨_,O _ _ bl,rfl,rfl⟩ (pl.isList.at λo e=>O _ _ (hk _ _ e)) bn .nil .nil rfl ?_
 intro s' H' bp a3 c' I' bq a4 fS fz bu bv bw bx
 refine⟨rfl,?_⟩
 have J:=Inv.adopt (D:=h5.objs.size) (kS:=n+4) (xs:=bp) (its:=a3.toList) (n:=c') (h':=s'.heap) I' fS fz (λb o _ _ e=>e) (by rw[ED];exact bu) bv (uc bx)
 refine⟨.ref h5.objs.size,_,J,rfl,kk _ _ _ _ ((bd.trans bq).trans (TK.fresh fS.1)) (a4.uL (TK.fresh fS.1) (bw.mono (TK.fresh fS.1))) (.ref _) (q _ (a4.fresh fS.1))⟩
end
def mD{us:List af}{ns:List Int}(h:mr us ns):Vals (ns.map V.int) us:=by
 induction h with
 |nil=>exact .nil
 |cons n t _ ih=>exact .cons ⟨t,rfl⟩ ih
section
variable{X:Cx}
def X4:YD X (zr X.K yS):=by
 intro kL s σ H x v J O lo hi U Q I Y hs pl Z h
 obtain⟨d,H3,Q3,hr,rd,t,k⟩:=h
 cases rd with
 |tup ha ra=>
  obtain⟨hw,t⟩:=t
  refine Ze kL s σ H _ v J O lo hi U Q I Y hs pl Z ⟨_,_,rfl,jC.of ha,by rw[←ra.length];exact hw,λp n=>k _ _ _ _ (TK.fresh n) (hr.tup n) (.tup aZ ?_) t⟩
  exact (Dt ra lo hi).mono (TK.fresh n)
 |_=>exact t.elim
end
end L3
namespace L3
end L3
namespace L3
open PySem PySem.Spec PySem.W PyProof.Rows
end L3
namespace L3
open PySem PySem.Spec PyProof.Rows L2
end L3
namespace L3
end L3
namespace L3.ST
open PySem PySem.SetTable
def Nt(M:Nat)(p:Probe):Probe:=if p.more>0 then { p with j:=p.j+1,more:=p.more-1 } else { p with j:=(leap M p.i p.perturb).1,more:=runEnd M (leap M p.i p.perturb).1-(leap M p.i p.perturb).1,i:=(leap M p.i p.perturb).1,perturb:=(leap M p.i p.perturb).2 }
def az(M:Nat)(p:Probe):Nat->Probe
 |0=>p
 |n+1=>az M (Nt M p) n
theorem Ew(M:Nat):∀(n:Nat) (p:Probe),az M p (n+1)=Nt M (az M p n)
 |0,_=>rfl
 |n+1,p=>Ew M n (Nt M p)
theorem bD(M:Nat):∀(m n:Nat) (p:Probe),az M p (m+n)=az M (az M p m) n
 |0,n,p=>by rw[iP];rfl
 |m+1,n,p=>by rw[show m+1+n=(m+n)+1 from by grind];exact bD M m n (Nt M p)
def blk(M:Nat)(x:Nat×Nat)(d:Option Nat):Probe:={ j:=x.1,more:=runEnd M x.1-x.1,i:=x.1,perturb:=x.2,dummy:=d }
theorem v5(M i:Nat):i<=runEnd M i/\runEnd M i<=i+9:=by unfold runEnd;split <;> grind
theorem zu(M:Nat):∀(k:Nat) (p:Probe),k<=p.more->az M p k={ p with j:=p.j+k,more:=p.more-k }
 |0,p,_=>rfl
 |k+1,p,h=>by
  have e:Nt M p={ p with j:=p.j+1,more:=p.more-1 }:=if_pos (by grind)
  show az M (Nt M p) k=_
  rw[e,zu M k _ (by show k<=p.more-1;grind)]
  show Probe.mk (p.j+1+k) (p.more-1-k) p.i p.perturb p.dummy=Probe.mk (p.j+(k+1)) (p.more-(k+1)) p.i p.perturb p.dummy
  rw[show p.j+1+k=p.j+(k+1) from by grind,show p.more-1-k=p.more-(k+1) from by grind]
theorem vO(M:Nat)(p:Probe):az M p (p.more+1)=blk M (leap M p.i p.perturb) p.dummy:=by
 rw[Ew,zu M p.more p (a8 _)]
 exact if_neg (show ¬p.more-p.more>0 by grind)
def xU(M:Nat):Nat->Nat×Nat->Nat×Nat
 |0,x=>x
 |n+1,x=>xU M n (leap M x.1 x.2)
theorem rB(M:Nat)(d:Option Nat):∀(L:Nat) (x:Nat×Nat),∃n,n<=10*L/\az M (blk M x d) n=blk M (xU M L x) d
 |0,x=>⟨0,by grind,rfl⟩
 |L+1,x=>by
  obtain⟨n,h1,h2⟩:=rB M d L (leap M x.1 x.2)
  have r:=v5 M x.1
  have e:=vO M (blk M x d)
  refine⟨(blk M x d).more+1+n,?_,?_⟩
  ·show runEnd M x.1-x.1+1+n<=_;grind
  ·rw[bD,e];exact h2
theorem Ie(M:Nat):∀(L:Nat) (x:Nat×Nat),(xU M L x).2=x.2 / 32 ^ L
 |0,x=>by show x.2=x.2 / 32 ^ 0;rw[N1,Nat.div_one]
 |L+1,x=>by
  show (xU M L (leap M x.1 x.2)).2=_
  rw[Ie M L]
  show x.2 / 32 / 32 ^ L=_
  rw[Nat.div_div_eq_div_mul,NV,C0]
theorem K6(M:Nat):∀(a b:Nat) (x:Nat×Nat),xU M (a+b) x=xU M b (xU M a x)
 |0,b,x=>by rw[iP];rfl
 |a+1,b,x=>by rw[show a+1+b=(a+b)+1 from by grind];exact K6 M a b _
def l0(M i:Nat):Nat:=(i*5+1)%(M+1)
def Vn(M:Nat):Nat->Nat->Nat
 |0,i=>i
 |n+1,i=>Vn M n (l0 M i)
theorem uy(M:Nat):∀(a b:Nat) (x:Nat),Vn M (a+b) x=Vn M b (Vn M a x)
 |0,b,x=>by rw[iP];rfl
 |a+1,b,x=>by rw[show a+1+b=(a+b)+1 from by grind];exact uy M a b _
theorem uY(M:Nat):∀(L i:Nat),xU M L (i,0)=(Vn M L i,0)
 |0,_=>rfl
 |L+1,i=>by
  show xU M L (leap M i 0)=(Vn M L (l0 M i),0)
  have e:leap M i 0=(l0 M i,0):=by unfold leap l0;rw[Nat.zero_div,nB]
  rw[e,uY M L]
def YT(M:Nat):Nat->Nat->List Nat
 |0,_=>[]
 |n+1,i=>i::YT M n (l0 M i)
theorem zZ(M:Nat):∀(n i j:Nat),j∈YT M n i->∃a,a<n/\Vn M a i=j
 |0,_,_,h=>by cases h
 |n+1,i,j,h=>by
  rcases br.mp h with e | h
  ·exact⟨0,by grind,e.symm⟩
  ·obtain⟨a,h1,h2⟩:=zZ M n (l0 M i) j h
   exact⟨a+1,by grind,h2⟩
def O9(M:Nat):Prop:=M=7\/M=31\/M=127
variable{M:Nat}
theorem XQ(h:O9 M):(∀j,j<=M->j∈YT M (M+1) 0)/\Vn M (M+1) 0=0:=by
 have Y:((bo 8).all λj=>(YT 7 8 0).contains j)=true:=by decide
 have U:((bo 32).all λj=>(YT 31 32 0).contains j)=true:=by decide +kernel
 have O:((bo 128).all λj=>(YT 127 128 0).contains j)=true:=by decide +kernel
 have J:∀ {m:Nat},((bo (m+1)).all λj=>(YT m (m+1) 0).contains j)=true->∀j,j<=m->j∈YT m (m+1) 0:=λ{m} k j Z=>by
  have:=kQ.mp k j (b6.mpr (by grind))
  simpa using this
 rcases h with rfl | rfl | rfl
 ·exact⟨J Y,by decide⟩
 ·exact⟨J U,by decide +kernel⟩
 ·exact⟨J O,by decide +kernel⟩
theorem Fj(h:O9 M){i j:Nat}(hi:i<=M)(hj:j<=M):∃L,L<=M/\Vn M L i=j:=by
 obtain⟨h1,h2⟩:=XQ h
 obtain⟨a,U,J⟩:=zZ M _ _ _ (h1 i hi)
 obtain⟨b,Y,O⟩:=zZ M _ _ _ (h1 j hj)
 by_cases hab:a<=b
 ·refine⟨b-a,by grind,?_⟩
  have e:=uy M a (b-a) 0
  rw[show a+(b-a)=b from by grind,J,O] at e
  exact e.symm
 ·refine⟨M+1-a+b,by grind,?_⟩
  have e:=uy M a (M+1-a+b) 0
  rw[show a+(M+1-a+b)=(M+1)+b from by grind,uy,h2,O,J] at e
  exact e.symm
theorem Ij(M:Nat):∀(L:Nat) (x:Nat×Nat),1<=L->(xU M L x).1<=M
 |1,x,_=>by
  show (x.1*5+1+x.2 / 32)%(M+1)<=M
  have:=rX (x.1*5+1+x.2 / 32) (show 0<M+1 by grind);grind
 |L+2,x,_=>Ij M (L+1) _ (by grind)
theorem cover(h:O9 M){p:Probe}(hm:p.more<=9)(hp:p.perturb<2 ^ 64){j:Nat}(hj:j<=M):∃n,n<10*turns M/\(az M p n).j=j:=by
 have Z:=vO M p
 have c1:=rB M p.dummy 12 (leap M p.i p.perturb)
 obtain⟨n1,h1,U⟩:=c1
 have J:(xU M 12 (leap M p.i p.perturb)).2=0:=by
  have:=Ie M 13 (p.i,p.perturb)
  rw[show (xU M 13 (p.i,p.perturb))=xU M 12 (leap M p.i p.perturb) from rfl] at this
  rw[this]
  exact JE (dA hp (by decide))
 have O:(xU M 12 (leap M p.i p.perturb)).1<=M:=Ij M 12 _ (by decide)
 generalize xU M 12 (leap M p.i p.perturb)=x at U J O
 obtain⟨i,pt⟩:=x
 dsimp only at J O
 subst J
 obtain⟨L,hL,eL⟩:=Fj h O hj
 obtain⟨n2,h2,Y⟩:=rB M p.dummy L (i,0)
 rw[uY,eL] at Y
 refine⟨p.more+1+n1+n2,?_,?_⟩
 ·unfold turns;grind
 ·rw[bD,bD,Z,U,Y];rfl
def Ra(xs:Array Nat):Prop:=∀a b,a<b->b<xs.size->xs.getD a 0<xs.getD b 0
def Ir(xs:Array Nat){i:Nat}(h:i<xs.size)(a b:Nat):xs.getD i a=xs.getD i b:=by simp[vE,h]
theorem v8(xs:Array Nat)(j:Nat)(hr:Ra xs):∀(f lo hi:Nat),lo<=hi->hi<=xs.size->hi-lo<=f->(∀i,i<lo->xs.getD i 0<j)->(∀i,hi<=i->i<xs.size->j<=xs.getD i 0) ->
  below.go xs j f lo hi<=xs.size/\(∀i,i<below.go xs j f lo hi->xs.getD i 0<j)/\∀i,below.go xs j f lo hi<=i->i<xs.size->j<=xs.getD i 0
 |0,lo,hi,h1,h2,h3,a,b=>by
  have:lo=hi:=by grind
  subst this
  exact⟨h2,a,b⟩
 |f+1,lo,hi,h1,h2,h3,a,b=>by
  unfold below.go
  by_cases hlt:lo<hi
  ·rw[if_pos hlt]
   dsimp only
   have O:lo<=(lo+hi) / 2:=by grind
   have U:(lo+hi) / 2<hi:=by grind
   rw[Ir xs (show (lo+hi) / 2<xs.size by grind) j 0]
   by_cases hc:xs.getD ((lo+hi) / 2) 0<j
   ·rw[if_pos hc]
    refine v8 xs j hr f _ hi (by grind) h2 (by grind) (λi J=>?_) b
    by_cases e:i=(lo+hi) / 2
    ·rw[e];exact hc
    ·exact HG (hr i _ (by grind) (by grind)) hc
   ·rw[if_neg hc]
    refine v8 xs j hr f lo _ (by grind) (by grind) (by grind) a λi J hs=>?_
    by_cases e:i=(lo+hi) / 2
    ·rw[e];grind
    ·have:=hr _ i (show (lo+hi) / 2<i by grind) hs;grind
  ·rw[if_neg hlt]
   have:lo=hi:=by grind
   subst this
   exact⟨h2,a,b⟩
theorem qm{xs:Array Nat}(hr:Ra xs)(j:Nat):below xs j<=xs.size/\(∀i,i<below xs j->xs.getD i 0<j)/\∀i,below xs j<=i->i<xs.size->j<=xs.getD i 0 :=
 v8 xs j hr xs.size 0 xs.size (eD _) (a8 _) (by grind) (λi h=>absurd h (by grind)) λi h1 h2=>absurd h1 (by grind)
def wk(xs:Array Nat)(j:Nat):Prop:=∃i,i<xs.size/\xs.getD i 0=j
def vG{xs:Array Nat}{i:Nat}(h:i<xs.size):xs[i]?=some (xs.getD i 0):=by simp[vE,h]
def Bd{t:qS}(hr:Ra t.place)(i:Nat)(h:i<t.place.size):t.slot (t.place.getD i 0)=.live i:=by
 obtain⟨b1,b2,J⟩:=qm hr (t.place.getD i 0)
 have e:below t.place (t.place.getD i 0)=i:=by
  rcases gX (below t.place (t.place.getD i 0)) i with z | z | z
  ·have h1:=J _ (a8 _) (by omega)
   have h2:=hr _ i z h
   omega
  ·exact z
  ·have:=b2 i z;omega
 unfold slot
 dsimp only
 rw[e,vG h,if_pos (by simp)]
theorem yG{t:qS}(hr:Ra t.place)(hd:t.dummies=#[]){j:Nat}(h:¬wk t.place j):t.slot j=.empty:=by
 unfold slot
 dsimp only
 have J:(t.place[below t.place j]? == some j)=false:=by
  by_cases hb:below t.place j<t.place.size
  ·rw[vG hb]
   simp only[Option.some_beq_some,beq_eq_false_iff_ne,ne_eq]
   exact λz=>h ⟨_,hb,z⟩
  ·rw[lh (by grind)];rfl
 have O:has t.dummies j=false:=by rw[hd];rfl
 rw[if_neg (by rw[J];exact ff),if_neg (by rw[O];exact ff)]
theorem Pr(xs:Array Nat)(p x:Nat)(hp:p<=xs.size):(insertAt xs p x).size=xs.size+1:=by
 unfold insertAt
 simp only[Iq,vk,kM];grind
theorem XR{α:Type}(xs:Array α)(p:Nat)(x d:α)(hp:p<=xs.size)(i:Nat):(insertAt xs p x).getD i d=if i<p then xs.getD i d else if i=p then x else xs.getD (i-1) d:=by
 have J:(insertAt xs p x)[i]?=if i<p then xs[i]? else if i=p then some x else xs[i-1]?:=by
  unfold insertAt
  rw[DS,vk,kM]
  rw[show min p xs.size-0+1=p+1 from by grind]
  by_cases h1:i<p
  ·rw[if_pos (by grind),if_pos h1,uS,if_neg (by rw[kM];grind),r6]
   rw[if_pos (by grind),iP]
  ·rw[if_neg h1]
   by_cases h2:i=p
   ·rw[if_pos (by grind),if_pos h2,uS,if_pos (by rw[kM];grind)]
   ·rw[if_neg (by grind),if_neg h2,r6]
    by_cases h3:i-(p+1)<xs.size-p
    ·rw[if_pos (by grind)];congr 1;grind
    ·rw[if_neg (by grind),lh (by grind)]
 rw[fy,J,fy,fy]
 split
 ·rfl
 ·split <;> rfl
end L3.ST
namespace L3.ST
open PySem PySem.SetTable
def st0(M:Nat)(h:Int):Probe:=blk M (bits h%(M+1),bits h) none
def J4(h:Int):bits h<2 ^ 64:=by
 unfold bits
 have h1:=kl h (show (2 ^ 64:Int)≠0 by decide)
 have h2:=iN h (show (0:Int)<2 ^ 64 by decide)
 have e:((2:Nat) ^ 64:Nat)=((2:Int) ^ 64).toNat:=by decide
 rw[e]
 exact (Int.toNat_lt_toNat (by decide)).mpr h2
theorem mJ(M:Nat):∀(n:Nat) (p:Probe),(az M p n).dummy=p.dummy
 |0,_=>rfl
 |n+1,p=>by
  show (az M (Nt M p) n).dummy=_
  rw[mJ M n]
  unfold Nt;split <;> rfl
def jh(M:Nat)(occ:Nat->Prop)(h:Int)(j:Nat):Prop:=∃n,(az M (st0 M h) n).j=j/\∀m,m<n->occ (az M (st0 M h) m).j
def jh.mono{M:Nat}{occ occ':Nat->Prop}{h:Int}{j:Nat}(r:jh M occ h j)(k:∀j,occ j->occ' j):jh M occ' h j:=by
 obtain⟨n,h1,h2⟩:=r
 exact⟨n,h1,λm J=>k _ (h2 m J)⟩
structure Tb(t:qS)(hs:Nat->Int)(n:Nat):Prop where
 size:t.place.size=n
 rise:Ra t.place
 le:∀i,i<n->t.place.getD i 0<=t.mask
 nod:t.dummies=#[]
 msk:O9 t.mask
 rch:∀i,i<n->jh t.mask (wk t.place) (hs i) (t.place.getD i 0)
variable{t:qS}{hs:Nat->Int}{n:Nat}
theorem U8(T:Tb t hs n)(hn:n<=t.mask):∃j,j<=t.mask/\¬wk t.place j:=by
 apply cn
 intro z
 have all:∀j,j<=t.mask->wk t.place j:=λj J=>cn λy=>z ⟨j,J,y⟩
 have O:∀j,j<=t.mask->∃i,i<t.place.size/\t.place.getD i 0=j/\j<=i:=by
  intro j
  induction j with
  |zero=>intro J;obtain⟨i,h1,h2⟩:=all 0 J;exact⟨i,h1,h2,eD _⟩
  |succ j ih=>
   intro J
   obtain⟨i,h1,h2,Z⟩:=ih (by grind)
   obtain⟨U,g1,Y⟩:=all (j+1) J
   refine⟨U,g1,Y,?_⟩
   apply cn
   intro y
   by_cases e:U=i
   ·rw[e] at Y;grind
   ·have:=T.rise U i (by grind) h1;grind
 obtain⟨i,h1,_,Z⟩:=O t.mask (a8 _)
 rw[T.size] at h1
 grind
theorem QZ(T:Tb t hs n)(hn:n<=t.mask)(h:Int):∃e,e<10*turns t.mask/\¬wk t.place (az t.mask (st0 t.mask h) e).j/\∀m,m<e->wk t.place (az t.mask (st0 t.mask h) m).j:=by
 obtain⟨j,h1,h2⟩:=U8 T hn
 obtain⟨k,J,O⟩:=cover T.msk (p:=st0 t.mask h) (by have:=v5 t.mask (bits h%(t.mask+1));show runEnd t.mask (bits h%(t.mask+1))-bits h%(t.mask+1)<=9;grind) (J4 h) h1
 have:∀k,k<10*turns t.mask->¬wk t.place (az t.mask (st0 t.mask h) k).j->∃e,e<10*turns t.mask/\¬wk t.place (az t.mask (st0 t.mask h) e).j/\∀m,m<e->wk t.place (az t.mask (st0 t.mask h) m).j:=by
  intro k
  induction k using DE with
  |ind k ih=>
   intro U Y
   by_cases z:∃m,m<k/\¬wk t.place (az t.mask (st0 t.mask h) m).j
   ·obtain⟨m,Z,m2⟩:=z
    exact ih m Z (by grind) m2
   ·exact⟨k,U,Y,λm hm=>cn λy=>z ⟨m,hm,y⟩⟩
 exact this k J (by rw[O];exact h2)
theorem Uq{t:qS}{hs hA:Nat->Int}{n:Nat}(T:Tb t hs n)(hA':∀i,i<n->hA i=hs i)(h:Int):∀(k f:Nat) (p:Probe),p.dummy=none->k<f->¬wk t.place (az t.mask p k).j->(∀m,m<k->wk t.place (az t.mask p m).j) ->
  (probe.go t hA h f p=some (.empty (az t.mask p k).j none)/\∀m i,m<k->i<n->t.place.getD i 0=(az t.mask p m).j->hs i≠h) \/
  ∃m i,m<k/\i<n/\t.place.getD i 0=(az t.mask p m).j/\hs i=h/\probe.go t hA h f p=some (.candidate (az t.mask p m).j i (az t.mask p (m+1)))/\∀m' i',m'<m->i'<n->t.place.getD i' 0=(az t.mask p m').j->hs i'≠h
 |0,f+1,p,hd,hf,he,_=>by
  refine .inl ⟨?_,λm i hm=>absurd hm (gc _)⟩
  unfold probe.go
  have:t.slot p.j=.empty:=yG T.rise T.nod he
  rw[this]
  show some (Met.empty p.j p.dummy)=_
  rw[hd];rfl
 |k+1,f+1,p,hd,hf,he,hm=>by
  obtain⟨i,hi,U⟩:=hm 0 (by grind)
  have es:t.slot p.j=.live i:=by
   have:=Bd T.rise i hi
   rw[U] at this
   exact this
  rw[T.size] at hi
  have own:∀i',i'<n->t.place.getD i' 0=p.j->i'=i:=by
   intro i' h1 h2
   rw[show p.j=t.place.getD i 0 from U.symm] at h2
   rcases gX i' i with z | z | z
   ·have:=T.rise i' i z (by rw[T.size];exact hi);grind
   ·exact z
   ·have:=T.rise i i' z (by rw[T.size];exact h1);grind
  by_cases hc:hs i=h
  ·refine .inr ⟨0,i,by grind,hi,U,hc,?_,λm' _ z=>absurd z (gc _)⟩
   unfold probe.go
   rw[es]
   show (if (hA i==h)=true then some (Met.candidate p.j i (t.advance p)) else _)=_
   rw[if_pos (by rw[hA' i hi,hc];exact beq_self_eq_true h)]
   rfl
  ·have step:probe.go t hA h (f+1) p=probe.go t hA h f (Nt t.mask p):=by
    conv=>lhs;unfold probe.go
    rw[es]
    show (if (hA i==h)=true then some (Met.candidate p.j i (t.advance p)) else _)=_
    rw[if_neg (by rw[hA' i hi];simpa using hc)]
    rfl
   have first:∀m i',m=0->i'<n->t.place.getD i' 0=(az t.mask p m).j->hs i'≠h:=λm i' z h1 h2=>by
    subst z
    rw[own i' h1 h2];exact hc
   rcases Uq T hA' h k f (Nt t.mask p) (by rw[←hd];exact mJ t.mask 1 p) (by grind) he (λm ac=>hm (m+1) (by grind)) with ⟨Z,Y⟩ | ⟨m,i',Z,Y,g3,g4,g5,g6⟩
   ·refine .inl ⟨step.trans Z,λm i' h1 h2 J=>?_⟩
    cases m with
    |zero=>exact first 0 i' rfl h2 J
    |succ m=>exact Y m i' (by grind) h2 J
   ·refine .inr ⟨m+1,i',by grind,Y,g3,g4,step.trans g5,λm' O h1 h2 J=>?_⟩
    cases m' with
    |zero=>exact first 0 O rfl h2 J
    |succ m'=>exact g6 m' O (by grind) h2 J
def Th(T:Tb t hs n){h:Int}{e:Nat}(he:¬wk t.place (az t.mask (st0 t.mask h) e).j)(hm:∀m,m<e->wk t.place (az t.mask (st0 t.mask h) m).j)(hj:(az t.mask (st0 t.mask h) e).j<=t.mask) :
  Tb (t.put (az t.mask (st0 t.mask h) e).j).1 (λi=>if i<(t.put (az t.mask (st0 t.mask h) e).j).2 then hs i else if i=(t.put (az t.mask (st0 t.mask h) e).j).2 then h else hs (i-1)) (n+1)/\(t.put (az t.mask (st0 t.mask h) e).j).2<=n:=by
 generalize hjj:(az t.mask (st0 t.mask h) e).j=j at he hj ⊢
 obtain⟨b1,b2,b3⟩:=qm T.rise j
 have hb:below t.place j<=n:=by rw[←T.size];exact b1
 have U:∀i,below t.place j<=i->i<t.place.size->j<t.place.getD i 0:=λi h1 h2=>by
  have:=b3 i h1 h2
  rcases ky j (t.place.getD i 0) with z | z
  ·exact z
  ·exact absurd ⟨i,h2,by omega⟩ he
 have get:=XR t.place (below t.place j) j 0 b1
 have sz:=Pr t.place (below t.place j) j b1
 have J:∀x,wk t.place x->wk (insertAt t.place (below t.place j) j) x:=by
  rintro x ⟨i,h1,h2⟩
  by_cases z:i<below t.place j
  ·exact⟨i,by omega,by rw[get,if_pos z];exact h2⟩
  ·exact⟨i+1,by omega,by rw[get,if_neg (by omega),if_neg (by omega)];exact h2⟩
 have e2:(t.put j).2=below t.place j:=rfl
 have O:(t.put j).1.place=insertAt t.place (below t.place j) j:=rfl
 have e3:(t.put j).1.mask=t.mask:=rfl
 refine⟨⟨?_,?_,?_,?_,?_,?_⟩,hb⟩
 ·rw[O,sz,T.size]
 ·rw[O]
  intro a b Y Z
  rw[sz] at Z
  rw[get,get]
  by_cases z1:a<below t.place j
  ·rw[if_pos z1]
   by_cases z2:b<below t.place j
   ·rw[if_pos z2];exact T.rise a b Y (by omega)
   ·rw[if_neg z2]
    by_cases z3:b=below t.place j
    ·rw[if_pos z3];exact b2 a z1
    ·rw[if_neg z3];exact T.rise a (b-1) (by omega) (by omega)
  ·rw[if_neg z1,if_neg (show ¬b<below t.place j by omega),if_neg (show ¬b=below t.place j by omega)]
   by_cases z3:a=below t.place j
   ·rw[if_pos z3];exact U (b-1) (by omega) (by omega)
   ·rw[if_neg z3];exact T.rise (a-1) (b-1) (by omega) (by omega)
 ·intro i hi
  rw[O,e3,get]
  split
  ·exact T.le i (by omega)
  ·split
   ·exact hj
   ·exact T.le (i-1) (by omega)
 ·show (if has t.dummies j then eraseAt t.dummies (below t.dummies j) else t.dummies)=#[]
  rw[T.nod];rfl
 ·exact T.msk
 ·intro i hi
  rw[O,e2,e3,get]
  by_cases z1:i<below t.place j
  ·rw[if_pos z1,if_pos z1];exact (T.rch i (by omega)).mono J
  ·rw[if_neg z1,if_neg z1]
   by_cases z2:i=below t.place j
   ·rw[if_pos z2,if_pos z2];exact⟨e,hjj,λm h=>J _ (hm m h)⟩
   ·rw[if_neg z2,if_neg z2];exact (T.rch (i-1) (by omega)).mono J
end L3.ST
namespace L3.ST
open PySem PySem.SetTable
variable{M:Nat}
def Pg{i:Nat}(h:i<=M):runEnd M i<=M:=by unfold runEnd;split <;> omega
theorem XS(M i p:Nat):(leap M i p).1<=M:=by
 show (i*5+1+p / 32)%(M+1)<=M
 have:=rX (i*5+1+p / 32) (show 0<M+1 by grind);grind
theorem Rg(M:Nat):∀(n:Nat) (p:Probe),p.j+p.more<=M->(az M p n).j<=M
 |0,p,h=>by show p.j<=M;grind
 |n+1,p,h=>by
  refine Rg M n (Nt M p) ?_
  unfold Nt
  split
  ·show p.j+1+(p.more-1)<=M;grind
  ·show (leap M p.i p.perturb).1+(runEnd M (leap M p.i p.perturb).1-(leap M p.i p.perturb).1)<=M
   have h1:=XS M p.i p.perturb
   have h2:=Pg h1
   have J:=v5 M (leap M p.i p.perturb).1
   grind
theorem zg(M:Nat)(h:Int)(n:Nat):(az M (st0 M h) n).j<=M:=by
 refine Rg M n _ ?_
 have J:bits h%(M+1)<=M:=by have:=rX (bits h) (show 0<M+1 by grind);grind
 have h1:=Pg J
 have h2:=v5 M (bits h%(M+1))
 show bits h%(M+1)+(runEnd M (bits h%(M+1))-bits h%(M+1))<=M
 grind
theorem HB(hM:O9 M)(x:Nat×Nat)(hx:x.2<2 ^ 64){j:Nat}(hj:j<=M):∃L,L<turns M/\(xU M L x).1=j:=by
 have J:(xU M 13 x).2=0:=by
  rw[Ie]
  exact JE (dA hx (by decide))
 have O:(xU M 13 x).1<=M:=Ij M 13 _ (by decide)
 obtain⟨L,Y,U⟩:=Fj hM O hj
 refine⟨13+L,by unfold turns;grind,?_⟩
 rw[K6]
 generalize xU M 13 x=y at J O U
 obtain⟨i,pt⟩:=y
 dsimp only at J U
 subst J
 rw[uY];exact U
def HQ(ow:Array (Option Nat))(j:Nat):Prop:=(ow.getD j (some 0)).isNone=false
theorem CJ(M:Nat)(ow:Array (Option Nat))(d:Option Nat):∀(f:Nat) (x:Nat×Nat),(∃L,L<f/\¬HQ ow (xU M L x).1) ->
  ∃n,layClean.free M ow f x.1 x.2=some (az M (blk M x d) n).j/\¬HQ ow (az M (blk M x d) n).j/\∀m,m<n->HQ ow (az M (blk M x d) m).j
 |0,x,h=>by obtain⟨L,hL,_⟩:=h;exact absurd hL (gc _)
 |f+1,x,h=>by
  have inr:∀k,k<=runEnd M x.1-x.1->(az M (blk M x d) k).j=x.1+k:=λk U=>by rw[zu M k _ U];rfl
  have rl:=v5 M x.1
  unfold layClean.free
  cases hf:(bo (runEnd M x.1+1-x.1)).find? λk=>(ow.getD (x.1+k) (some 0)).isNone with
  |some k=>
   have h1:=yv hf
   have h2:=oz hf
   rw[b6] at h2
   refine⟨k,?_,?_,?_⟩
   ·rw[inr k (by grind)]
   ·rw[inr k (by grind)];unfold HQ;rw[h1];exact JI
   ·intro m Y
    rw[inr m (by grind)]
    unfold HQ
    have:=List.find?_eq_some_iff_getElem.mp hf
    obtain⟨_,i,hi,Z,hb⟩:=this
    rw[AK] at Z
    subst Z
    have:=hb m Y
    rw[AK] at this
    simpa using this
  |none=>
   have J:=rV.mp hf
   have tk:∀k,k<=runEnd M x.1-x.1->HQ ow (x.1+k):=λk U=>by
    have:=J k (b6.mpr (by grind))
    unfold HQ
    exact Iy.mpr this
   obtain⟨n,g1,g2,g3⟩:=CJ M ow d f (leap M x.1 x.2) (by
    obtain⟨L,hL,hq⟩:=h
    cases L with
    |zero=>
     have:=tk 0 (eD _)
     rw[nB] at this
     exact absurd this hq
    |succ L=>exact⟨L,by grind,hq⟩)
   have O:=vO M (blk M x d)
   refine⟨(blk M x d).more+1+n,?_,?_,?_⟩
   ·dsimp only
    rw[bD,O];exact g1
   ·rw[bD,O];exact g2
   ·intro m Y
    by_cases z:m<=runEnd M x.1-x.1
    ·rw[inr m z];exact tk m z
    ·have e:m=(blk M x d).more+1+(m-((blk M x d).more+1)):=by
      have:(blk M x d).more=runEnd M x.1-x.1:=rfl
      grind
     rw[e,bD,O]
     exact g3 _ (by grind)
structure Own(M:Nat)(hs:Nat->Int)(ow:Array (Option Nat))(k:Nat):Prop where
 size:ow.size=M+1
 lt:∀j k',ow.getD j none=some k'->k'<k
 has:∀k',k'<k->∃j,j<=M/\ow.getD j none=some k'/\jh M (HQ ow) (hs k') j
 one:∀j j' k',ow.getD j none=some k'->ow.getD j' none=some k'->j=j'
variable{ow:Array (Option Nat)}
def oX{j:Nat}(h:j<ow.size):HQ ow j↔∃k,ow.getD j none=some k:=by
 unfold HQ
 have e:ow.getD j (some 0)=ow.getD j none:=by simp[vE,h]
 rw[e]
 cases ow.getD j none with
 |none=>simp
 |some k=>simp
def Nm:∀ {l:List Nat} {n:Nat},l.Nodup->(∀x∈l,x<n)->l.length<=n:=by
 intro l n h1 h2
 have:∀(l m:List Nat),l.Nodup->(∀x∈l,x∈m)->l.length<=m.length:=by
  intro l
  induction l with
  |nil=>intros;exact eD _
  |cons x l ih=>
   intro m O hs
   rw[fo] at O
   have J:=hs x eA
   have:=ih (m.erase x) O.2 λy U=>(mB (λe=>O.1 (by rw[←e];exact U))).mpr (hs y (cK _ U))
   rw[jv J] at this
   have:=fF J
   rw[bE];omega
 have:=this l (bo n) h1 λx J=>b6.mpr (h2 x J)
 rwa [eI] at this
variable{hs:Nat->Int}
theorem Uc{k:Nat}(O:Own M hs ow k)(hk:k<=M):∃j,j<=M/\¬HQ ow j:=by
 apply cn
 intro z
 have all:∀j,j<=M->∃k',ow.getD j none=some k':=λj J=>by
  apply cn
  intro y
  exact z ⟨j,J,λw=>y ((oX (by rw[O.size];grind)).mp w)⟩
 have nd:((bo (M+1)).map λj=>(ow.getD j none).getD 0).Nodup:=by
  rw[ax,dS]
  have U:=ml (n:=M+1)
  rw[ax] at U
  refine U.imp_of_mem λ{a b} ha hb ne e=>ne ?_
  obtain⟨Y,Z⟩:=all a (by rw[b6] at ha;grind)
  obtain⟨kb,eb⟩:=all b (by rw[b6] at hb;grind)
  rw[Z,eb] at e
  have e':Y=kb:=e
  subst e'
  exact O.one a b Y Z eb
 have:=Nm (n:=k) nd λx hx=>by
  obtain⟨j,J,rfl⟩:=b9.mp hx
  obtain⟨kj,ej⟩:=all j (by rw[b6] at J;grind)
  rw[ej]
  exact O.lt j kj ej
 rw[ae,eI] at this
 grind
theorem VL{k:Nat}(hM:O9 M)(O:Own M hs ow k)(hk:k<=M) :
  ∃j,layClean.free M ow (turns M) (bits (hs k)%(M+1)) (bits (hs k))=some j/\Own M hs (ow.setIfInBounds j (some k)) (k+1):=by
 obtain⟨j0,Z,ac⟩:=Uc O hk
 obtain⟨L,hL,eL⟩:=HB hM (bits (hs k)%(M+1),bits (hs k)) (J4 _) Z
 obtain⟨n,g1,g2,g3⟩:=CJ M ow none (turns M) (bits (hs k)%(M+1),bits (hs k)) ⟨L,hL,by rw[eL];exact ac⟩
 have hj:(az M (blk M (bits (hs k)%(M+1),bits (hs k)) none) n).j<=M:=zg M (hs k) n
 generalize hjj:(az M (blk M (bits (hs k)%(M+1),bits (hs k)) none) n).j=j at g1 g2 hj
 have js:j<ow.size:=by rw[O.size];grind
 have jn:ow.getD j none=none:=by
  cases e:ow.getD j none with
  |none=>rfl
  |some U=>exact absurd ((oX js).mpr ⟨U,e⟩) g2
 have get:∀i,(ow.setIfInBounds j (some k)).getD i none=if i=j then some k else ow.getD i none:=by
  intro i
  rw[fy,Array.getElem?_setIfInBounds,fy]
  by_cases z:i=j
  ·rw[if_pos z.symm,if_pos z,if_pos js];rfl
  ·rw[if_neg (λy=>z y.symm),if_neg z]
 have sz:(ow.setIfInBounds j (some k)).size=M+1:=by rw[BN];exact O.size
 have J:∀i,HQ ow i->HQ (ow.setIfInBounds j (some k)) i:=by
  intro i hi
  by_cases hs:i<ow.size
  ·rw[oX (by rw[sz,←O.size];exact hs),get]
   obtain⟨U,e⟩:=(oX hs).mp hi
   by_cases z:i=j
   ·exact⟨k,if_pos z⟩
   ·exact⟨U,by rw[if_neg z];exact e⟩
  ·unfold HQ
   rw[show (ow.setIfInBounds j (some k)).getD i (some 0)=some 0 from by simp[vE,BN,hs]]
   rfl
 refine⟨j,g1,sz,?_,?_,?_⟩
 ·intro i U h
  rw[get] at h
  by_cases z:i=j
  ·rw[if_pos z] at h;cases h;grind
  ·rw[if_neg z] at h;have:=O.lt i U h;grind
 ·intro U al
  by_cases z:U=k
  ·subst z
   exact⟨j,hj,by rw[get,if_pos rfl],n,hjj,λm hm=>J _ (g3 m hm)⟩
  ·obtain⟨i,i1,i2,i3⟩:=O.has U (by grind)
   refine⟨i,i1,?_,i3.mono J⟩
   rw[get,if_neg (λy=>by rw[y,jn] at i2;cases i2)]
   exact i2
 ·intro i Y U h h'
  rw[get] at h h'
  by_cases z:i=j
  ·by_cases z':Y=j
   ·rw[z,z']
   ·rw[if_pos z] at h
    rw[if_neg z'] at h'
    cases h
    exact absurd (O.lt Y k h') (nE _)
  ·rw[if_neg z] at h
   by_cases z':Y=j
   ·rw[if_pos z'] at h'
    cases h'
    exact absurd (O.lt i k h) (nE _)
   ·rw[if_neg z'] at h'
    exact O.one i Y U h h'
def yU(M:Nat)(acc:Option (Array (Option Nat)×Nat))(h:Int):Option (Array (Option Nat)×Nat):=do
 let (owner,k) ←acc
 let j ←layClean.free M owner (turns M) (bits h%(M+1)) (bits h)
 pure (owner.setIfInBounds j (some k),k+1)
theorem Cr{M:Nat}(hM:O9 M){hs:Nat->Int}:∀(l:List Int) (ow:Array (Option Nat)) (k:Nat),Own M hs ow k->k+l.length<=M+1->(∀i,i<l.length->l.getD i 0=hs (k+i)) ->
  ∃ow',l.foldl (yU M) (some (ow,k))=some (ow',k+l.length)/\Own M hs ow' (k+l.length)
 |[],ow,k,O,_,_=>⟨ow,rfl,O⟩
 |h::l,ow,k,O,hk,hl=>by
  have e0:h=hs k:=hl 0 (by rw[bE];grind)
  rw[bE] at hk
  obtain⟨j,J,U⟩:=VL hM O (by grind)
  obtain⟨ow',Y,Z⟩:=Cr hM l _ (k+1) U (by grind) λi hi=>by
   have:=hl (i+1) (by rw[bE];grind)
   rw[show k+1+i=k+(i+1) from by grind,←this]
   rfl
  have e1:yU M (some (ow,k)) h=some (ow.setIfInBounds j (some k),k+1):=by
   subst e0
   show (layClean.free M ow (turns M) (bits (hs k)%(M+1)) (bits (hs k))).bind _=_
   rw[J];rfl
  refine⟨ow',?_,?_⟩
  ·rw[vj,e1,Y,bE,show k+1+l.length=k+(l.length+1) from by grind]
  ·rw[bE,show k+(l.length+1)=k+1+l.length from by grind];exact Z
def Us(M:Nat)(hs:Nat->Int):Own M hs (DF (M+1) none) 0:=by
 have g:∀j,(DF (M+1) (none:Option Nat)).getD j none=none:=λj=>by
  rw[fy,Array.getElem?_replicate];split <;> rfl
 refine⟨Array.size_replicate,λj J h=>?_,λJ h=>absurd h (gc _),λj O J h=>?_⟩
 ·rw[g] at h;cases h
 ·rw[g] at h;cases h
theorem MK(hM:O9 M)(H:Array Int)(hH:∀i,i<H.size->H.getD i 0=hs i)(hn:H.size<=M+1):∃ow,layClean M H=some ow/\Own M hs ow H.size:=by
 obtain⟨ow,h1,h2⟩:=Cr hM H.toList _ 0 (Us M hs) (by rw[cS];grind) λi hi=>by
  rw[cS] at hi
  rw[iP,←hH i hi]
  simp[vE,hi,bP]
 rw[cS,iP] at h1 h2
 refine⟨ow,?_,h2⟩
 unfold layClean
 rw[←Array.foldl_toList]
 have:(H.toList.foldl (yU M) (some (DF (M+1) none,0))).map (·.1)=some ow:=by rw[h1];rfl
 exact this
def UJ(M:Nat)(ow:Array (Option Nat)):List (Nat×Nat):=(bo (M+1)).filterMap λj=>(ow.getD j none).map (j,·)
theorem pM{x:Nat×Nat}:x∈UJ M ow↔x.1<=M/\ow.getD x.1 none=some x.2:=by
 unfold UJ
 rw[zD]
 constructor
 ·rintro⟨j,J,e⟩
  rw[cv] at e
  obtain⟨k,O,rfl⟩:=e
  rw[b6] at J
  exact⟨by show j<=M;grind,O⟩
 ·rintro⟨h1,h2⟩
  exact⟨x.1,b6.mpr (by grind),by rw[h2];rfl⟩
def Ex(M:Nat)(ow:Array (Option Nat)):(UJ M ow).Pairwise λa b=>a.1<b.1:=by
 unfold UJ
 rw[List.pairwise_filterMap]
 refine ll.imp λ{a b} J x O y U=>?_
 rw[cv] at O U
 obtain⟨_,_,rfl⟩:=O
 obtain⟨_,_,rfl⟩:=U
 exact J
theorem BV{n:Nat}(O:Own M hs ow n):((UJ M ow).map gE).Perm (bo n):=by
 refine (eS ?_ ml).mpr λk=>?_
 ·rw[ax,dS]
  refine (Ex M ow).imp_of_mem λ{a b} J U Y e=>?_
  have h1:=(pM.mp J).2
  have h2:=(pM.mp U).2
  rw[e] at h1
  have:=O.one _ _ _ h1 h2
  grind
 ·rw[b9,b6]
  constructor
  ·rintro⟨x,Z,rfl⟩
   exact O.lt _ _ (pM.mp Z).2
  ·intro hk
   obtain⟨j,h1,h2,_⟩:=O.has k hk
   exact⟨(j,k),pM.mpr ⟨h1,h2⟩,rfl⟩
def Yh{n:Nat}(O:Own M hs ow n):(UJ M ow).length=n:=by
 have:=(BV O).length_eq
 rwa [ae,eI] at this
theorem Ws(hM:O9 M)(H:Array Int)(hH:∀i,i<H.size->H.getD i 0=hs i)(hn:H.size<=M+1)(fi mo:Nat)(le pl:Bool) :
  ∃t ord,laid M fi mo le pl H=some (t,ord)/\t.mask=M/\t.led=le/\t.plain=pl/\t.moves=mo/\ord.toList.Perm (bo H.size)/\Tb t (λr=>hs (ord.getD r 0)) H.size:=by
 obtain⟨ow,h1,O⟩:=MK hM H hH hn
 have len:=Yh O
 have J:∀ {x:Nat×Nat},x∈UJ M ow↔x.1<=M/\ow.getD x.1 none=some x.2:=pM
 have Y:=Ex M ow
 have Z:=BV O
 have ac:laid M fi mo le pl H=some ({ mask:=M,place:=((UJ M ow).map (·.1)).toArray,dummies:=#[],finger:=fi,led:=le,moves:=mo,plain:=pl },((UJ M ow).map (·.2)).toArray):=by
  unfold laid
  rw[h1];rfl
 rw[ac]
 generalize UJ M ow=ls at len J Y Z
 refine⟨{ mask:=M,place:=(ls.map (·.1)).toArray,dummies:=#[],finger:=fi,led:=le,moves:=mo,plain:=pl },(ls.map (·.2)).toArray,rfl,rfl,rfl,rfl,rfl,Z,?_⟩
 have sz:(ls.map (·.1)).toArray.size=H.size:=by rw[c6,ae,len]
 have U:∀i,(hi:i<H.size)->(ls.map (·.1)).toArray.getD i 0=(ls[i]'(by rw[len];exact hi)).1:=λi hi=>by
  have:i<ls.length:=by rw[len];exact hi
  simp[vE,this]
 have al:∀i,(hi:i<H.size)->(ls.map (·.2)).toArray.getD i 0=(ls[i]'(by rw[len];exact hi)).2:=λi hi=>by
  have:i<ls.length:=by rw[len];exact hi
  simp[vE,this]
 have mem:∀i,(hi:i<H.size)->ls[i]'(by rw[len];exact hi)∈ls:=λi hi=>nV _
 refine⟨sz,?_,?_,rfl,hM,?_⟩
 ·intro a b am hb
  have hb:b<(ls.map (·.1)).toArray.size:=hb
  rw[sz] at hb
  show (ls.map (·.1)).toArray.getD a 0<(ls.map (·.1)).toArray.getD b 0
  rw[U a (by grind),U b hb]
  exact tT.mp Y a b (by rw[len];grind) (by rw[len];exact hb) am
 ·intro i hi
  show (ls.map (·.1)).toArray.getD i 0<=M
  rw[U i hi]
  exact (J.mp (mem i hi)).1
 ·intro i hi
  show jh M (wk (ls.map (·.1)).toArray) (hs ((ls.map (·.2)).toArray.getD i 0)) ((ls.map (·.1)).toArray.getD i 0)
  rw[U i hi,al i hi]
  have hx:=J.mp (mem i hi)
  generalize ls[i]'(by rw[len];exact hi)=x at hx
  obtain⟨j,j1,j2,j3⟩:=O.has x.2 (O.lt _ _ hx.2)
  have e:=O.one _ _ _ hx.2 j2
  rw[e]
  refine jh.mono (occ:=λy=>y<=M/\HQ ow y) ?_ ?_
  ·obtain⟨n,n1,n2⟩:=j3
   exact⟨n,n1,λm hm=>⟨zg M _ m,n2 m hm⟩⟩
  ·rintro y ⟨y1,y2⟩
   obtain⟨k,ek⟩:=(oX (by rw[O.size];grind)).mp y2
   obtain⟨r,hr,er⟩:=hZ (J.mpr ⟨y1,ek⟩:(y,k)∈ls)
   rw[len] at hr
   exact⟨r,by rw[sz];exact hr,by rw[U r hr,er]⟩
end L3.ST
namespace L3.ST
open PySem PySem.SetTable PySem.Spec PyProof.Rows
section
variable{prog:cw}{w:da}{A:gu}{E:af->aw->Prop}{s:aw}
def u9{ks:List Int}{vs:List af}(h:ItemsAre (eM prog w) ks vs):∀v∈vs,∃i t,v=.int i t:=by
 induction h with
 |nil=>intro v J;cases J
 |@cons k u ks vs h1 _ ih=>
  intro v J
  rcases br.mp J with rfl | J
  ·cases v with
   |int i t=>exact⟨i,t,rfl⟩
   |_=>exact absurd h1 (by simp[eM,Kk])
  ·exact ih v J
def yM{ks:List Int}{a:aT}{Q:Bool->aw->Prop}(hk:iS (eM prog w) s.heap ks a)(h:Q false s):a9 (cy prog w) A (IA 8 (.ref a)) Q E s:=by
 have Y:=hk.typeIs
 obtain⟨o,items,n,Z,hc,hd,hi⟩:=hk
 have J:=u9 hi
 unfold IA
 refine ab (we Y ?_)
 dsimp only
 refine ab ?_
 refine av ?_
 simp only[pV,c9,if_false]
 refine ab (iq Z hd ?_)
 dsimp only
 refine ab ?_
 rw[←vv]
 refine xt _ (λrest r s'=>r.1=none/\s'=s/\∀v∈rest,∃i t,v=qq i t) _ ?_ ?_ _ _ ⟨rfl,rfl,J⟩
 ·rintro v rest r s' ⟨hr,rfl,U⟩
  obtain⟨i,t,rfl⟩:=U v eA
  refine ab ?_
  show a9 _ _ (pure false) _ _ _
  refine av ?_
  simp only[c9,if_false]
  exact av ⟨rfl,rfl,λu O=>U u (cK _ O)⟩
 ·rintro⟨r1,r2⟩ s' ⟨hr,rfl,_⟩
  simp only at hr
  subst hr
  exact av h
def Hz{ks:List Int}{a:aT}{Q:Bool->aw->Prop}(hk:iS (eM prog w) s.heap ks a)(l:List af)(hl:∀y∈l,∃b ls,y=.ref b/\iS (eM prog w) s.heap ls b)(h:Q false s):a9 (cy prog w) A (IB (.ref a) l) Q E s:=by
 unfold IB
 refine ab ?_
 refine xt _ (λrest r s'=>r.1=none/\s'=s/\∀y∈rest,∃b ls,y=.ref b/\iS (eM prog w) s.heap ls b) _ ?_ ?_ _ _ ⟨rfl,rfl,hl⟩
 ·rintro v rest r s' ⟨hr,rfl,U⟩
  obtain⟨b,ls,rfl,Y⟩:=U v eA
  have J:∀y∈rest,∃b ls,y=.ref b/\iS (eM prog w) s'.heap ls b:=λu O=>U u (cK _ O)
  dsimp only
  by_cases hab:(a==b)=true
  ·rw[hab]
   simp only[NS,if_true]
   exact av ⟨rfl,rfl,J⟩
  ·rw[B8] at hab
   rw[hab]
   simp only[carriedByValue,FD,FF,c9,if_false]
   refine ab (DU hk ?_)
   simp only[pV,c9,if_false]
   refine ab (DU Y ?_)
   simp only[pV,c9,if_false]
   refine ab (yM hk ?_)
   simp only[c9,if_false]
   refine ab (yM Y ?_)
   simp only[c9,if_false]
   exact av ⟨rfl,rfl,J⟩
 ·rintro⟨Z,r2⟩ s' ⟨hr,rfl,_⟩
  simp only at hr
  subst hr
  exact av h
def Dp{ks:List Int}{a:aT}{Q:Bool->aw->Prop}(hk:iS (eM prog w) s.heap ks a)(h:Q true s):a9 (cy prog w) A (hashByValue 8 (.ref a)) Q E s:=by
 have Y:=hk.typeIs
 obtain⟨o,items,n,Z,hc,hd,hi⟩:=hk
 have J:=u9 hi
 unfold hashByValue
 refine ab (mT Y F.slot_tuple_hash.lookup ?_)
 dsimp only
 refine ab (iq Z hd ?_)
 refine ab ?_
 show a9 _ _ (forIn items _ _) _ _ s
 rw[←vv]
 refine xt _ (λrest r s'=>r.1=none/\s'=s/\∀v∈rest,∃i t,v=qq i t) _ ?_ ?_ _ _ ⟨rfl,rfl,J⟩
 ·rintro v rest r s' ⟨hr,rfl,U⟩
  obtain⟨i,t,rfl⟩:=U v eA
  refine ab ?_
  show a9 _ _ (pure true) _ _ _
  refine av ?_
  simp only[pV,c9,if_false]
  exact av ⟨rfl,rfl,λu O=>U u (cK _ O)⟩
 ·rintro⟨r1,r2⟩ s' ⟨hr,rfl,_⟩
  simp only at hr
  subst hr
  exact av h
def O7(prog:cw)(w:da)(h:fA)(es:Array (Int×af))(ks:List (List Int)):Prop :=
 es.size=ks.length/\∀i,i<ks.length->∃a,es[i]?=some (f7 (eM prog w) (ks.getD i []),.ref a)/\iS (eM prog w) h (ks.getD i []) a
def hsh(prog:cw)(w:da)(ks:List (List Int))(i:Nat):Int:=f7 (eM prog w) (ks.getD i [])
def O7.mem{h:fA}{es:Array (Int×af)}{ks:List (List Int)}(x:O7 prog w h es ks):∀y∈es.toList,∃b ls,y.2=.ref b/\iS (eM prog w) h ls b:=by
 intro y J
 obtain⟨i,hi,rfl⟩:=hZ J
 rw[cS] at hi
 obtain⟨a,h1,h2⟩:=x.2 i (by rw[←x.1];exact hi)
 rw[eW hi,k9] at h1
 rw[mE,h1]
 exact⟨a,_,rfl,h2⟩
def fits_of{t:qS}{hs:Nat->Int}{n:Nat}(T:Tb t hs n)(hn:n<=t.mask):t.fits n=true:=by
 unfold SetTable.fits FG
 rw[T.nod,T.size]
 simp only[beq_self_eq_true,FH,decide_eq_true_eq]
 show n+0<=t.mask;omega
def aae{t:qS}(h:O9 t.mask):t.gaveWay=false:=by
 unfold SetTable.gaveWay
 rcases h with e | e | e <;> rw[e] <;> rfl
def Up{M:OM}{α:Type}{c:Bool}{m1:Sem Bool}{bad r:Sem α}{Q:α->aw->Prop}(h1:∀Q':Bool->aw->Prop,Q' false s->a9 M A m1 Q' E s)(h:a9 M A r Q E s):a9 M A (if (!c)=true then do let b ←m1;if b=true then bad else r else r) Q E s:=by
 cases c with
 |true=>exact h
 |false=>
  show a9 M A (m1 >>= λb=>if b=true then bad else r) Q E s
  refine ab (h1 _ ?_)
  rw[if_neg ff];exact h
def Nq{t:qS}{hs hA:Nat->Int}{n:Nat}(T:Tb t hs n){h:Int}{p:Probe}{P:Option Met}(hP:t.probe hA h p=P)(hA':∀i,i<n->hA i=hs i){k:Nat}(hd:p.dummy=none)(hk:k<10*turns t.mask)(h1:¬wk t.place (az t.mask p k).j)(h2:∀m,m<k->wk t.place (az t.mask p m).j) :
  (P=some (.empty (az t.mask p k).j none)/\∀m i,m<k->i<n->t.place.getD i 0=(az t.mask p m).j->hs i≠h) \/
  ∃m i,m<k/\i<n/\t.place.getD i 0=(az t.mask p m).j/\hs i=h/\P=some (.candidate (az t.mask p m).j i (az t.mask p (m+1)))/\∀m' i',m'<m->i'<n->t.place.getD i' 0=(az t.mask p m').j->hs i'≠h:=by
 subst hP
 exact Uq T hA' h k _ p hd hk h1 h2
def HW{S a:aT}{o:Obj}{es:Array (Int×af)}{ep:Nat}{t:qS}{ks:List (List Int)}{kx:List Int}{Q:SetFound->aw->Prop}(hu:A.units<lP)
  (ho:s.heap.get? S=some o) (hd:o.data=.set es ep t) (el:O7 prog w s.heap es ks) (T:Tb t (hsh prog w ks) ks.length) (hn:ks.length<=t.mask) (hx:iS (eM prog w) s.heap kx a)
  {e:Nat} (he1:e<10*turns t.mask) (he2:¬wk t.place (az t.mask (st0 t.mask (f7 (eM prog w) kx)) e).j) (he3:∀m,m<e->wk t.place (az t.mask (st0 t.mask (f7 (eM prog w) kx)) m).j)
  (q1:kx∈ks->Q (.there none) s) (q2:kx∉ks->Q (.free (az t.mask (st0 t.mask (f7 (eM prog w) kx)) e).j false) s) :
  ∀(d f m:Nat) (stand:Option Probe),e-m=d->m<=e->d<f->stand.getD (t.probeStart (f7 (eM prog w) kx))=az t.mask (st0 t.mask (f7 (eM prog w) kx)) m ->
   (∀m' i,m'<m->i<ks.length->t.place.getD i 0=(az t.mask (st0 t.mask (f7 (eM prog w) kx)) m').j->ks.getD i []≠kx) ->
   a9 (cy prog w) A (setSearchFrom S (.ref a) (f7 (eM prog w) kx) true f stand) Q E s:=by
 have hf:t.fits es.size=true:=by rw[el.1];exact fits_of T hn
 intro d
 induction d using DE with
 |ind d ih=>
  intro f m stand ac hm J al O
  cases f with
  |zero=>exact absurd J (gc _)
  |succ f=>
   unfold setSearchFrom
   refine ab (kF ho hd hf ?_)
   dsimp only
   rw[aae T.msk]
   simp only[c9,if_false]
   rw[al]
   generalize hh:f7 (eM prog w) kx=hv at *
   generalize hP:t.probe _ hv (az t.mask (st0 t.mask hv) m)=P
   have U:(az t.mask (st0 t.mask hv) m).dummy=none:=mJ t.mask m _
   have sh:∀i,az t.mask (az t.mask (st0 t.mask hv) m) i=az t.mask (st0 t.mask hv) (m+i):=λi=>(bD t.mask m i _).symm
   have Y:m+(e-m)=e:=t9 hm
   rcases Nq T hP (λi hi=>by
    obtain⟨b,g1,_⟩:=el.2 i hi
    show (PD (·.1) es[i]?).getD 0=_
    rw[g1];rfl) (k:=e-m) U (mh (Pp e m) he1) (by rw[sh,Y];exact he2) (λi hi=>by rw[sh];exact he3 _ (DV hi)) with ⟨rfl,g2⟩ | ⟨m',i,g1,g2,g3,g4,rfl,g6⟩
   ·dsimp only
    rw[sh,Y]
    refine av (q2 λZ=>?_)
    obtain⟨i,hi,ei⟩:=hZ Z
    have ek:ks.getD i []=kx:=by rw[bP,aS hi,ei];rfl
    have eh:hsh prog w ks i=hv:=by unfold hsh;rw[ek];exact hh
    obtain⟨n0,r1,r2⟩:=T.rch i hi
    rw[eh] at r1 r2
    have am:n0<e:=by
     rcases gX n0 e with z | z | z
     ·exact z
     ·subst z
      exact absurd ⟨i,by rw[T.size];exact hi,r1.symm⟩ he2
     ·exact absurd (r2 e z) he2
    by_cases z:n0<m
    ·exact O n0 i z hi r1.symm ek
    ·refine g2 (n0-m) i (Nat.sub_lt_sub_right (GA.mp z) am) hi ?_ eh
     rw[sh,t9 (GA.mp z)];exact r1.symm
   ·dsimp only
    rw[sh]
    obtain⟨b,b1,b2⟩:=el.2 i g2
    refine Up (λQ' hq=>Hz hx _ (λy hy=>?_) hq) ?_
    ·obtain⟨z,hz,rfl⟩:=b9.mp hy
     have ap:z∈es.toList:=by
      have:=Array.mem_filter.mp (x4.mp hz)
      exact x4.mpr this.1
     exact el.mem z ap
    rw[b1]
    dsimp only
    refine ab (gz (wpAny_eqBool_tuple hu b2 hx ?_))
    refine ab (kF ho hd hf ?_)
    dsimp only
    by_cases hk:ks.getD i []=kx
    ·rw[decide_eq_true hk]
     simp only[FF,if_true]
     refine av (q1 ?_)
     rw[←hk,bP,aS g2]
     exact nV g2
    ·rw[decide_eq_false hk]
     simp only[wm,c9,if_false]
     have e1:t.sameMemory t.moves t.mask=some true:=by unfold SetTable.sameMemory;rw[if_pos (beq_self_eq_true _)]
     rw[e1]
     dsimp only
     rw[if_pos rfl]
     have e2:t.slot (az t.mask (st0 t.mask hv) (m+m')).j=.live i:=by
      rw[←sh,←g3];exact Bd T.rise i (by rw[T.size];exact g2)
     rw[e2]
     dsimp only
     rw[b1]
     dsimp only
     refine ab (wpAny_isSame_ref_self ?_)
     refine ab (av ?_)
     rw[if_pos rfl]
     dsimp only
     have c1:m+m'<e:=DV g1
     have c2:e-(m+m'+1)<d:=ac▸Nat.sub_lt_sub_left (mh (qE m m') c1) (Nat.lt_succ_of_le (qE m m'))
     refine ih (e-(m+m'+1)) c2 f (m+m'+1) _ rfl c1 (dA c2 (yy.mp J)) ?_ ?_
     ·rw[sh];rfl
     ·intro m2 i2 h1 h2 h3 h4
      by_cases z:m2<m
      ·exact O m2 i2 z h2 h3 h4
      ·have eh:hsh prog w ks i2=hv:=by unfold hsh;rw[h4];exact hh
       by_cases z2:m2=m+m'
       ·subst z2
        rw[←sh,←g3] at h3
        have:i2=i:=by
         rcases gX i2 i with y | y | y
         ·have:=T.rise i2 i y (by rw[T.size];exact g2);exact absurd h3 (cx this)
         ·exact y
         ·have:=T.rise i i2 y (by rw[T.size];exact h2);exact absurd h3.symm (cx this)
        subst this
        exact hk h4
       ·refine g6 (m2-m) i2 (Nat.sub_lt_left_of_lt_add (GA.mp z) (AL (yy.mp h1) z2)) h2 ?_ eh
        rw[sh,t9 (GA.mp z)];exact h3
end
variable{h:fA}{es:Array (Int×af)}{ks:List (List Int)}{t:qS}{S:aT}{o:Obj}{ep:Nat}
theorem Uj{α:Type}(xs:Array α)(p:Nat)(x:α)(hp:p<=xs.size)(i:Nat):(insertAt xs p x)[i]?=if i<p then xs[i]? else if i=p then some x else xs[i-1]?:=by
 unfold insertAt
 rw[DS,vk,kM]
 rw[show min p xs.size-0+1=p+1 from by grind]
 by_cases h1:i<p
 ·rw[if_pos (by grind),if_pos h1,uS,if_neg (by rw[kM];grind),r6]
  rw[if_pos (by grind),iP]
 ·rw[if_neg h1]
  by_cases h2:i=p
  ·rw[if_pos (by grind),if_pos h2,uS,if_pos (by rw[kM];grind)]
  ·rw[if_neg (by grind),if_neg h2,r6]
   by_cases h3:i-(p+1)<xs.size-p
   ·rw[if_pos (by grind)];congr 1;grind
   ·rw[if_neg (by grind),lh (by grind)]
theorem Ht{α:Type}(xs:Array α)(p:Nat)(x:α)(hp:p<=xs.size):(insertAt xs p x).size=xs.size+1:=by
 unfold insertAt
 simp only[Iq,vk,kM];grind
def pY(ks:List (List Int))(p:Nat)(k:List Int):List (List Int):=ks.take p++k::ks.drop p
theorem o6(ks:List (List Int))(p:Nat)(k:List Int)(hp:p<=ks.length):(pY ks p k).length=ks.length+1:=by
 unfold pY
 rw[ck,bE,fm,i6];grind
theorem Fx(ks:List (List Int))(p:Nat)(k:List Int)(hp:p<=ks.length)(i:Nat):(pY ks p k).getD i []=if i<p then ks.getD i [] else if i=p then k else ks.getD (i-1) []:=by
 unfold pY
 rw[bP,bP,bP,List.getElem?_append,fm,show min p ks.length=p from by grind]
 by_cases h1:i<p
 ·rw[if_pos h1,if_pos h1,GB,if_pos h1]
 ·rw[if_neg h1,if_neg h1]
  by_cases h2:i=p
  ·rw[if_pos h2,h2,IC];rfl
  ·rw[if_neg h2,show i-p=(i-1-p)+1 from by grind,Cf,AM,show p+(i-1-p)=i-1 from by grind]
def Li(ks:List (List Int))(p:Nat)(k:List Int):(pY ks p k).Perm (k::ks):=by
 unfold pY
 refine tF.trans ?_
 rw[sk]
section
variable{prog:cw}{w:da}{A:gu}{E:af->aw->Prop}{s:aw}
def O6{h':fA}{ks:List Int}{a d:aT}(x:iS (eM prog w) h ks a)(ho:h.get? d=some o)(hd:o.data=.set es ep t)(hs:kH d h h'):iS (eM prog w) h' ks a:=by
 obtain⟨o',items,n,O,Y,J,hi⟩:=x
 have U:a≠d:=by
  rintro rfl
  obtain rfl:o'=o:=Option.some.inj (O.symm.trans ho)
  rw[hd] at J;exact nomatch J
 exact⟨o',items,n,(hs.2 a U).trans O,Y,J,hi⟩
def O7.keeps{h':fA}{es':Array (Int×af)}{d:aT}(x:O7 prog w h es' ks)(ho:h.get? d=some o)(hd:o.data=.set es ep t)(hs:kH d h h'):O7 prog w h' es' ks :=
 ⟨x.1,λi hi=>let ⟨a,h1,h2⟩:=x.2 i hi;⟨a,h1,O6 h2 ho hd hs⟩⟩
def SetT(prog:cw)(w:da)(h:fA)(S:aT)(ks:List (List Int)):Prop :=
 ∃o es ep t,h.get? S=some o/\o.ExactSet/\o.data=.set es ep t/\O7 prog w h es ks/\Tb t (hsh prog w ks) ks.length/\t.plain=true/\ks.length*5<t.mask*3/\ks.Nodup
def wu{a:aT}(ho:h.get? a=some o)(hd:o.data=.set es ep t)(es':Array (Int×af))(t':qS) :
  (h.update a (AN es' t')).get? a=some { o with data:=.set es' (ep+1) t' }:=by
 have:=hX (AN es' t') ho (by rw[putSet_of es' t' hd];rfl)
 rw[putSet_of es' t' hd] at this;exact this
theorem Vi{a p:Nat}{kx:List Int}(x:O7 prog w h es ks)(hp:p<=ks.length)(hx:iS (eM prog w) h kx a) :
  O7 prog w h (insertAt es p (f7 (eM prog w) kx,.ref a)) (pY ks p kx):=by
 have J:p<=es.size:=by rw[x.1];exact hp
 refine⟨by rw[Ht es p _ J,o6 ks p kx hp,x.1],λi hi=>?_⟩
 rw[o6 ks p kx hp] at hi
 rw[Uj es p _ J,Fx ks p kx hp]
 by_cases h1:i<p
 ·rw[if_pos h1,if_pos h1];exact x.2 i (by grind)
 ·rw[if_neg h1,if_neg h1]
  by_cases h2:i=p
  ·rw[if_pos h2,if_pos h2];exact⟨a,rfl,hx⟩
  ·rw[if_neg h2,if_neg h2];exact x.2 (i-1) (by grind)
def JD{hs hs':Nat->Int}{n:Nat}(T:Tb t hs n)(h:∀i,i<n->hs i=hs' i):Tb t hs' n :=
 ⟨T.size,T.rise,T.le,T.nod,T.msk,λi hi=>by rw[←h i hi];exact T.rch i hi⟩
def Hq(ord:Array Nat)(ks:List (List Int)):List (List Int):=ord.toList.map λr=>ks.getD r []
def S9{ord:Array Nat}(x:O7 prog w h es ks)(hp:ord.toList.Perm (bo ks.length)):O7 prog w h (ord.filterMap (es[·]?)) (Hq ord ks)/\(Hq ord ks).Perm ks:=by
 have O:∀r∈ord.toList,r<ks.length:=λr hr=>b6.mp (hp.mem_iff.mp hr)
 have Y:ord.toList.length=ks.length:=by rw[hp.length_eq,eI]
 have U:∀l:List Nat,(∀r∈l,r<ks.length)->l.filterMap (es[·]?)=l.map λr=>es.getD r (0,.none):=by
  intro l
  induction l with
  |nil=>intro _;rfl
  |cons r l ih=>
   intro Z
   have hr:r<es.size:=by rw[x.1];exact Z r eA
   rw[lx,eW hr,aE,ih λr' J=>Z r' (cK _ J)]
   simp[vE,hr]
 have e1:(ord.filterMap (es[·]?)).toList=ord.toList.map λr=>es.getD r (0,.none):=by
  rw[Array.toList_filterMap];exact U _ O
 refine⟨⟨?_,λi hi=>?_⟩,?_⟩
 ·rw[←cS,e1,ae];unfold Hq;rw[ae]
 ·unfold Hq at hi ⊢
  rw[ae] at hi
  have hr:=O _ (nV hi)
  obtain⟨a,h1,h2⟩:=x.2 _ hr
  have e2:(ord.toList.map λr=>ks.getD r []).getD i []=ks.getD (ord.toList[i]) []:=by
   rw[bP,ay,aS hi];rfl
  rw[e2]
  refine⟨a,?_,h2⟩
  rw[←jS,e1,ay,aS hi,←h1]
  have J:ord.toList[i]<es.size:=by rw[x.1];exact hr
  show some (es.getD (ord.toList[i]) (0,.none))=_
  rw[fy,eW J];rfl
 ·unfold Hq
  have:=hp.map λr=>ks.getD r []
  refine this.trans ?_
  have e3:(bo ks.length).map (λr=>ks.getD r [])=ks:=by
   apply w8
   intro i
   rw[ay]
   by_cases hi:i<ks.length
   ·rw[ly hi,aS hi];simp[hi]
   ·rw[gv (by simpa using hi),gv (by simpa using hi)];rfl
  rw[e3]
end
section
variable{prog:cw}{w:da}{A:gu}{E:af->aw->Prop}{s:aw}
theorem Mu{Q:Unit->aw->Prop}(ho:s.heap.get? S=some o)(hex:o.ExactSet)(hd:o.data=.set es ep t)(el:O7 prog w s.heap es ks)(T:Tb t (hsh prog w ks) ks.length)(hpl:t.plain=true)(hn:ks.length<=t.mask)(hnd:ks.Nodup)
  {M:Nat} (hM:O9 M) (hsz:sizeAbove (grown ks.length)=M+1) (hfew:ks.length*5<M*3)
  (h:∀h' ks',kH S s.heap h'->SetT prog w h' S ks'->ks'.Perm ks->Q () { s with heap:=h' }):a9 (cy prog w) A (setRelay S (grown ks.length)) Q E s:=by
 have hf:t.fits es.size=true:=by rw[el.1];exact fits_of T hn
 obtain⟨t2,J,l1,l2,l3,l4,l5,l6,l7⟩:=Ws hM (hs:=hsh prog w ks) (es.map (·.1)) (by
  intro i hi
  rw[EE] at hi
  obtain⟨a,h1,_⟩:=el.2 i (by rw[←el.1];exact hi)
  rw[fy,Array.getElem?_map,h1];rfl) (by rw[EE,el.1];grind) t.finger (t.movedTo M) t.led t.plain
 rw[EE,el.1] at l6 l7
 obtain⟨x2,p2⟩:=S9 el l6
 have U:t.relaid (es.map (·.1)) (grown ks.length)=some (t2,J):=by
  unfold relaid
  rw[hsz];exact l1
 unfold setRelay
 refine ab (kF ho hd hf ?_)
 dsimp only
 rw[if_neg (by rw[hsz,lI];rcases hM with e | e | e <;> rw[e] <;> decide)]
 rw[U]
 have O:((J.filterMap (es[·]?)).size != es.size)=false:=by
  rw[x2.1,p2.length_eq,el.1];exact bne_self_eq_false _
 refine ab (Q:=_) (show a9 (cy prog w) A (do
   if ((J.filterMap (es[·]?)).size != es.size)=true then unsupported "internal:set-table-lost-an-element"
   pure (J.filterMap (es[·]?),t2)) _ E s from ?_)
 rw[O]
 simp only[c9,if_false]
 refine av ?_
 dsimp only
 have ac:(J.filterMap (es[·]?)).size<=cf:=by
  rw[x2.1,p2.length_eq,lI]
  have:t.mask<=127:=by rcases T.msk with e | e | e <;> grind
  grind
 refine Bi ho hd ?_ ac
 have Y:=kz s.heap S (AN (J.filterMap (es[·]?)) t2)
 refine h _ (Hq J ks) Y ⟨_,_,_,_,wu ho hd _ _,hex,rfl,x2.keeps ho hd Y,?_,by rw[l4];exact hpl,by rw[p2.length_eq,l2];exact hfew,p2.nodup_iff.mpr hnd⟩ p2
 rw[p2.length_eq]
 refine JD l7 λi hi=>?_
 unfold hsh Hq
 have Z:i<J.toList.length:=by rw[l6.length_eq,eI];exact hi
 congr 1
 rw[bP (l:=J.toList.map _),ay,aS Z]
 have al:i<J.size:=by rw[←cS];exact Z
 rw[fy,eW al,mE];rfl
def same_self(s:aw):s={ s with heap:=s.heap }:=by cases s;rfl
theorem XH{a:aT}{kx:List Int}{Q:Bool->aw->Prop}(hu:A.units<lP)(hS:SetT prog w s.heap S ks)(hx:iS (eM prog w) s.heap kx a)(hb:ks.length<76)
  (h:∀b h' ks',kH S s.heap h'->SetT prog w h' S ks'->(∀k,k∈ks'↔k∈ks\/k=kx)->ks'.length<=ks.length+1->Q b { s with heap:=h' }) :
  a9 (cy prog w) A (C1 S (.ref a) (f7 (eM prog w) kx)) Q E s:=by
 obtain⟨o,es,ep,t,ho,a4,hd,el,T,ap,am,be⟩:=id hS
 have hn:ks.length<=t.mask:=by grind
 have hf:t.fits es.size=true:=by rw[el.1];exact fits_of T hn
 obtain⟨e,a5,a6,a7⟩:=QZ T hn (f7 (eM prog w) kx)
 have hM:t.mask<=127:=by rcases T.msk with e | e | e <;> grind
 unfold C1 MI
 refine gz (ab (kF ho hd hf ?_))
 dsimp only
 have bg:byScan (.ref a) es=false:=rfl
 rw[bg]
 simp only[c9,if_false]
 unfold setSearch
 refine ab (HW hu ho hd el T hn hx a5 a6 a7 (λhm=>?_) (λhm=>?_) e 100000 0 none (by grind) (eD _) (by unfold turns at a5;grind) rfl (λm' i z=>absurd z (gc _)))
 ·dsimp only
  refine av ?_
  rw[same_self s]
  exact h _ s.heap ks (HZ S s.heap) hS (λk=>⟨.inl,λz=>z.elim id λe=>e▸hm⟩) (Kx _)
 ·dsimp only
  refine ab (kF ho hd hf ?_)
  dsimp only
  have hj:=zg t.mask (f7 (eM prog w) kx) e
  obtain⟨T1,hp⟩:=Th T a6 a7 hj
  have m1:(t.put (az t.mask (st0 t.mask (f7 (eM prog w) kx)) e).j).1.mask=t.mask:=rfl
  have p1:(t.put (az t.mask (st0 t.mask (f7 (eM prog w) kx)) e).j).1.plain=t.plain:=rfl
  generalize t.put (az t.mask (st0 t.mask (f7 (eM prog w) kx)) e).j=tp at T1 hp m1 p1
  obtain⟨t1,p⟩:=tp
  dsimp only at T1 hp m1 p1 ⊢
  have T2:Tb t1 (hsh prog w (pY ks p kx)) (pY ks p kx).length:=by
   rw[o6 ks p kx hp]
   refine JD T1 λi _=>?_
   unfold hsh
   rw[Fx ks p kx hp]
   split
   ·rfl
   ·split <;> rfl
  have a0:=o6 ks p kx hp
  have O:=Li ks p kx
  have U:(pY ks p kx).Nodup:=O.nodup_iff.mpr (fo.mpr ⟨hm,be⟩)
  have ac:=Vi (p:=p) el hp hx
  have Y:∀k,k∈pY ks p kx↔k∈ks\/k=kx:=λk=>by
   rw[O.mem_iff,br]
   exact⟨λz=>z.symm,λz=>z.symm⟩
  have a1:(pY ks p kx).length<=ks.length+1:=by grind
  have bi:es.size+1=(pY ks p kx).length:=by rw[a0,el.1]
  rw[bi]
  generalize pY ks p kx=kk at T2 a0 O U ac Y a1
  rw[p1,ap]
  refine ab ?_
  refine Dp hx ?_
  rw[if_pos rfl]
  have bd:(insertAt es p (f7 (eM prog w) kx,eB a)).size<=cf:=by rw[ac.1,a0,lI];grind
  refine ab (Bi ho hd ?_ bd)
  have al:=kz s.heap S (AN (insertAt es p (f7 (eM prog w) kx,eB a)) t1)
  have a2:=wu ho hd (insertAt es p (f7 (eM prog w) kx,eB a)) t1
  have a3:=ac.keeps ho hd al
  generalize insertAt es p (f7 (eM prog w) kx,eB a)=es1 at bd al a2 ac a3
  have Z:t1.fill=kk.length:=by
   unfold FG
   rw[T2.nod,T2.size];rfl
  by_cases hfull:t1.tooFull=true
  ·rw[hfull]
   simp only[AO,FF,if_true]
   unfold Cn at hfull
   rw[Z] at hfull
   have J:=of_decide_eq_true hfull
   rw[m1] at J
   have bl:∃M,O9 M/\sizeAbove (grown kk.length)=M+1/\kk.length*5<M*3:=by
    rcases T.msk with z | z | z
    ·rw[z] at J am
     have e5:kk.length=5:=by grind
     rw[e5]
     exact⟨31,.inr (.inl rfl),by decide,by decide⟩
    ·rw[z] at J am
     have bm:kk.length=19:=by grind
     rw[bm]
     exact⟨127,.inr (.inr rfl),by decide,by decide⟩
    ·rw[z] at J;grind
   obtain⟨M,bn,bp,bq⟩:=bl
   refine ab (Mu (s:={ s with heap:=s.heap.update S (AN es1 t1) }) a2 a4 rfl a3 T2 (p1.trans ap) (by rw[m1];grind) U bn bp bq λh' ks' s1 s2 s3=>?_)
   refine av (h _ h' ks' (al.trans s1) s2 (λk=>by rw[s3.mem_iff];exact Y k) (by rw[s3.length_eq];exact a1))
  ·rw[B8] at hfull
   rw[hfull]
   simp only[wm,c9,if_false]
   unfold Cn at hfull
   rw[Z] at hfull
   have J:=of_decide_eq_false hfull
   exact av (h _ _ kk al ⟨_,_,_,_,a2,a4,rfl,a3,T2,p1.trans ap,by grind,U⟩ Y a1)
end
section
variable{prog:cw}{w:da}{A:gu}{E:af->aw->Prop}{s:aw}
def z8{h':fA}{ks:List Int}{a d:aT}(x:iS (eM prog w) h ks a)(ho:h.get? d=some o)(hc:o.cls≠.type "tuple")(hs:∀b u,b≠d->h.get? b=some u->h'.get? b=some u):iS (eM prog w) h' ks a:=by
 obtain⟨o',items,n,J,O,U,hi⟩:=x
 have Y:a≠d:=by
  rintro rfl
  obtain rfl:o'=o:=Option.some.inj (J.symm.trans ho)
  exact hc O
 exact⟨o',items,n,hs a o' Y J,O,U,hi⟩
def SetT.off{h':fA}{d:aT}(x:SetT prog w h S ks)(hS:S≠d)(ho:h.get? d=some o)(hc:o.cls≠.type "tuple")(hs:∀b u,b≠d->h.get? b=some u->h'.get? b=some u):SetT prog w h' S ks:=by
 obtain⟨u,es,ep,t,h1,h2,O,J,U⟩:=x
 exact⟨u,es,ep,t,hs S u hS h1,h2,O,⟨J.1,λi hi=>let ⟨a,Y,Z⟩:=J.2 i hi;⟨a,Y,z8 Z ho hc hs⟩⟩,U⟩
theorem PJ{R:CL->aw->Prop}{I l:aT}{items:Array af}{kk:List (List Int)}{ad:Nat->aT}(hh:A.handled=none)(hu:A.units+1<lP)(hSI:S≠I)(hSl:S≠l)(hlI:l≠I)(hsz:items.size=kk.length)(h76:kk.length<=76)(hit:∀j,j<kk.length->items[j]?=some (.ref (ad j))) :
  ∀(d i:Nat) (s:aw) (ks:List (List Int)),kk.length-i=d->i<=kk.length->s.heap.IsListIter I l i->s.heap.IsList l items->SetT prog w s.heap S ks->(∀x,x∈ks↔x∈kk.take i)->ks.length<=i->(∀j,j<kk.length->iS (eM prog w) s.heap (kk.getD j []) (ad j)) ->
   (∀h' tk ks',(∀b o,b≠S->b≠I->s.heap.get? b=some o->h'.get? b=some o)->SetT prog w h' S ks'->(∀x,x∈ks'↔x∈kk)->ks'.length<=kk.length->R (.ok (.ret .none)) { s with heap:=h',toks:=tk }) ->
   rq (cy prog w) A (.builtin "set.update.loop" ⟨[.ref S,.ref I],[]⟩) R s:=by
 intro d
 induction d with
 |zero=>
  intro i s ks hd hi it li st mem le Z hR
  have e:i=kk.length:=by grind
  subst e
  refine ij qV ?_
  rw[gp kR _]
  show a9 _ A.in1 (l9 (.ref I) >>= _) _ _ s
  refine ab (xi (by simp[hh]) it li (by simp[hsz]) λh' he=>?_)
  show a9 _ A.in1 (ret jI) _ _ _
  obtain⟨o,io,ic,_⟩:=id it
  rw[fh (a8 _)] at mem
  exact av (hR h' s.toks ks (λb o _ hb q=>he b o hb q) (st.off hSI io (by rw[ic];decide) he) mem le)
 |succ d ih=>
  intro i s ks hd hi it li st mem le Z hR
  have Y:i<kk.length:=by grind
  refine ij qV ?_
  rw[gp kR _]
  show a9 _ A.in1 (l9 (.ref I) >>= _) _ _ s
  refine ab (wb it li (hit i Y) λh1 a0 ac=>?_)
  obtain⟨o,io,ic,_⟩:=id it
  have O:∀b u,b≠I->s.heap.get? b=some u->h1.get? b=some u:=λb u hb q=>ac.extBut b u hb q
  have al:=st.off hSI io (by rw[ic];decide) O
  have U:∀j,j<kk.length->iS (eM prog w) h1 (kk.getD j []) (ad j):=λj hj=>z8 (Z j hj) io (by rw[ic];decide) O
  have a1:h1.IsList l items:=li.extBut ac.extBut hlI
  show a9 _ A.in1 (EO [eB (ad i)] (PF S (.ref (ad i))) >>= _) _ _ _
  refine ab (gz ?_)
  unfold PF
  refine gz (ab (wpAny_pyHash_tuple (knd:=eM prog w) (by show A.units+1<lP;exact hu) (U i Y) ?_))
  refine XH (s:={ s with heap:=h1,toks:=s.toks+((kk.getD i []).length+1) }) (by show A.units+1<lP;exact hu) al (U i Y) (by grind) λb h2 a2 sb a3 m2 a5=>?_
  obtain⟨o2,_,_,_,so,sx,sd,_⟩:=id al
  have J:∀b u,b≠S->h1.get? b=some u->h2.get? b=some u:=λb u hb q=>(sb.2 b hb).trans q
  have a4:o2.cls≠.type "tuple":=by rw[sx.1];decide
  refine av ⟨pT kR _,ih (i+1) _ a2 (by grind) (by grind) (a0.at λu q=>J I u (λz=>hSI z.symm) q) (a1.at λu q=>J l u (λz=>hSl z.symm) q) a3 (λx=>?_) (by grind) (λj hj=>z8 (U j hj) so a4 J) λh' tk ks' k1 k2 k3 k4=>?_⟩
  ·rw[m2,mem,gS,aS Y,ib]
   rw[show kk.getD i []=kk[i] from by rw[bP,aS Y];rfl]
   simp
  ·exact hR h' tk ks' (λb u am ap q=>k1 b u am ap (J b u am (O b u ap q))) k2 k3 k4
end
section
variable{prog:cw}{w:da}{A:gu}{E:af->aw->Prop}{s:aw}
def bU(led:Bool):Obj:={ cls:=.type "set",dict:=none,data:=.set #[] 0 (.fresh 0 0 led) }
def P0{led:Bool}(ho:h.get? S=some (bU led)):SetT prog w h S [] :=
 ⟨_,_,_,_,ho,⟨rfl,rfl,rfl⟩,rfl,⟨rfl,λ_ z=>absurd z (gc _)⟩,⟨rfl,λ_ _ _ z=>absurd z (gc _),λ_ z=>absurd z (gc _),rfl,.inl rfl,λ_ z=>absurd z (gc _)⟩,rfl,(by show 0*5<7*3;decide),oa⟩
set_option maxHeartbeats 3200000 in
def RC{l:aT}{items:Array af}{kk:List (List Int)}{ad:Nat->aT}{Q:af->aw->Prop}(hh:A.handled=none)(hu:A.units+16<lP)(hl:s.heap.IsList l items)(hsz:items.size=kk.length)(h76:kk.length<=76)(hit:∀j,j<kk.length->items[j]?=some (.ref (ad j)))
  (keys:∀j,j<kk.length->iS (eM prog w) s.heap (kk.getD j []) (ad j))
  (h:∀h' tk ks,SetT prog w h' s.heap.objs.size ks->(∀x,x∈ks↔x∈kk)->ks.length<=kk.length->(∀b o,s.heap.get? b=some o->h'.get? b=some o)->Q (.ref s.heap.objs.size) { s with heap:=h',toks:=tk }) :
  a9 (cy prog w) A (call (.type "set") [.ref l]) Q E s:=by
 obtain⟨c,tl,a2⟩:=iX.mro;have am:=iX.made;have a3:=iX.sub
 refine F1 (DH ?_);show a9 _ _ (callAny (.type "set") _) _ _ _
 refine av ⟨GG _ (by decide +kernel),ij ID ?_⟩;rw[GH (DZ "set" [.ref l] []) rfl]
 have h1:=iX.notType;have h2:=iX.canCreate;have bd:=JJ (.ref l)
 (repeat (any_goals (first | assumption | wp_step)))
 refine rS (code_set_new_1 (.ref l) (E:=E) (Q₁:=λobj s₁=>∃led:Bool,obj=.ref s.heap.objs.size/\s₁={ s with heap:=s.heap.push (bU led) }) λled=>⟨led,rfl,rfl⟩) λr s₁ hr=>?_
 cases r with
 |error e=>exact hr
 |ok fl=>
  cases fl with
  |ret obj=>
   obtain⟨led,rfl,rfl⟩:=hr
   have hS:(s.heap.push (bU led)).get? s.heap.objs.size=some (bU led):=ba _ rfl
   have hT:M1 { s with heap:=s.heap.push (bU led) } (.ref s.heap.objs.size) "set":=⟨_,hS,rfl⟩
   have be:=iX.init.lookup;have bg:=iX.init.bind (.ref s.heap.objs.size)
   (repeat (any_goals (first | assumption | wp_step)))
   refine rS (EF (R:=wants (λr s₂=>r=.none/\∃h' tk ks,s₂={ s with heap:=h',toks:=tk }/\SetT prog w h' s.heap.objs.size ks/\(∀x,x∈ks↔x∈kk)/\ks.length<=kk.length/\∀b o,s.heap.get? b=some o->h'.get? b=some o) E) iX.init.plain JO (JU hT ?_)) λbi s₂ J=>?_
   ·have O:(s.heap.push (bU led)).IsList l items:=hl.push _
    obtain⟨⟨a4,ap,a0,al⟩,U,Y,nl,Z⟩:=hl
    simp only at Y Z;subst Y;subst Z
    have a5:=ai (bU led) U
    have a6:=F.sub_list_set;have a7:=F.sub_list_frozenset
    have bl:(Value.type "list" == Value.type "dict")=false:=by decide
    unfold md.«set.__init__» noKeywords yA;generalize hPI:FY=PI
    wp_walk
    subst hPI
    refine pj O (ab (EG ?_))
    have ac:l<s.heap.objs.size:=b5 U
    have hz:(s.heap.push (bU led)).objs.size=s.heap.objs.size+1:=mx ..
    have up:∀(X:Obj) b o,s.heap.get? b=some o->((s.heap.push (bU led)).push X).get? b=some o:=λX b o q=>ai _ (ai _ q)
    refine PJ (I:=(s.heap.push (bU led)).objs.size) (l:=l) (items:=items) (kk:=kk) (ad:=ad) (by simp[hh]) (by show A.units+2+1<lP;omega) (by rw[hz];exact cx (xp _)) (nv ac) (by rw[hz];exact cx (sN ac)) hsz h76 hit kk.length 0 _ [] (by omega) (eD _) ⟨_,ba _ rfl,rfl,rfl⟩ (O.push _) (P0 (ai _ hS)) (by simp) (eD _) (λj hj=>let ⟨o,its,n,q,r⟩:=keys j hj;⟨o,its,n,up _ _ _ q,r⟩) λh' tk a1 k1 k2 k3 k4=>?_
    show a9 _ _ _ _ _ _
    refine av ?_
    show a9 _ _ (ret jI) _ _ _
    refine av ⟨rfl,h',tk,a1,rfl,k2,k3,k4,λb o q=>k1 b o (cx (b5 q)) (by rw[hz];exact cx (sN (b5 q))) (up _ b o q)⟩
   ·cases bi with
    |error e=>exact J
    |ok fl₂=>
     cases fl₂ with
     |ret r=>
      obtain⟨rfl,h',tk,ks,rfl,k1,k2,k3,k4⟩:=J
      (repeat (any_goals (first | assumption | wp_step)))
      exact h _ _ ks k1 k2 k3 k4
     |_=>exact J.elim
  |_=>exact hr.elim
end
end L3.ST
namespace L3
open PySem PySem.Spec PyProof.Rows L2
def tpI(ns:List Int):D:=.tup (ns.map D.int)
def pU:List D->aA->bL->Prop:=λds H Q=>∃(a:aT) (kk:List (List Int)),ds=[.ref a]/\H a=some (.lst (kk.map tpI))/\kk.length<=76/\∀ks:List (List Int),ks.Nodup->(∀x,x∈ks↔x∈kk)->Q (.int ks.length) H
theorem zL{α:Type}[DecidableEq α]:∀ {l m:List α},l.Nodup->(∀x∈l,x∈m)->l.length<=m.length
 |[],_,_,_=>eD _
 |x::l,m,hn,hs=>by
  rw[fo] at hn
  have hx:=hs x eA
  have:=zL (m:=m.erase x) hn.2 λy J=>(mB (λe=>hn.1 (by rw[←e];exact J))).mpr (hs y (cK _ J))
  rw[jv hx] at this
  have:=fF hx
  rw[bE];grind
theorem wF{α:Type}[DecidableEq α]:∀ {l m:List α},l.Nodup->(∀x∈l,x∈m)->m.length<=l.length->m.Nodup
 |[],m,_,_,h=>by rw[Co.mp (Nat.le_zero.mp h)];exact oa
 |x::l,m,hn,hs,h=>by
  have hn':=fo.mp hn
  have U:=hs x eA
  have Z:(m.erase x).length=m.length-1:=jv U
  have hp:=fF U
  rw[bE] at h
  have O:∀y∈l,y∈m.erase x:=λy J=>(mB (λe=>hn'.1 (by rw[←e];exact J))).mpr (hs y (cK _ J))
  have Y:=wF hn'.2 O (by grind)
  refine (List.perm_cons_erase U).nodup_iff.mpr (fo.mpr ⟨λz=>?_,Y⟩)
  have:=zL hn λy J=>by
   rcases br.mp J with e | J
   ·rw[e];exact z
   ·exact O y J
  rw[bE] at this
  grind
def p2l(p:Pt):List Int:=[p.1,p.2]
def XX{p q:Pt}(h:p2l p=p2l q):p=q:=by
 simp only[p2l,DB,and_true] at h
 exact aI h.1 h.2
variable{H:aA}
theorem Ea{ps:List Pt}{a:aT}{Q:bL}(ha:H a=some (.lst (ps.map aO)))(hl:ps.length<=76)(q:∀n:Nat,(n=ps.length↔ps.Nodup)->n<=ps.length->Q (.int n) H):pU [.ref a] H Q:=by
 have e:(ps.map p2l).map tpI=ps.map aO:=by rw[dP];rfl
 have nd:(ps.map p2l).Nodup↔ps.Nodup:=by
  rw[ax,ax,dS]
  exact⟨λh=>h.imp λ{x y} z w=>z (by rw[w]),λh=>h.imp λ{x y} z w=>z (XX w)⟩
 refine⟨a,ps.map p2l,rfl,by rw[e];exact ha,by rw[ae];exact hl,λks h1 h2=>q ks.length ?_ ?_⟩
 ·rw[←nd]
  constructor
  ·intro z
   exact wF h1 (λx J=>(h2 x).mp J) (by rw[ae];grind)
  ·intro z
   have:=((eS h1 z).mpr h2).length_eq
   rwa [ae] at this
 ·have:=zL h1 λx J=>(h2 x).mp J
  rwa [ae] at this
section
variable{X:Cx}
theorem wj{prog:cw}{w:da}:∀ {ns:List Int} {vs:List af},Vals (ns.map V.int) vs->ItemsAre (eM prog w) ns vs
 |[],_,.nil=>.nil
 |_::_,_,.cons r t=>by
  obtain⟨t',rfl⟩:=r
  exact .cons (GI _ _ _ _) (wj t)
theorem yz{kL:List (aT×Obj)}{σ:St}{H:Hp}{s:aw}(I:Inv X kL σ H s):∀ {kk:List (List Int)} {vs:List V} {its:List af},aK X.K H (kk.map tpI) vs->Vals vs its ->
  ∀j,j<kk.length->∃a,its[j]?=some (.ref a)/\iS (eM X.prog X.w) s.heap (kk.getD j []) a
 |[],_,_,_,_,j,hj=>absurd hj (gc _)
 |ns::kk,_,_,.cons r t,.cons q qs,j,hj=>by
  cases j with
  |zero=>
   cases r with
   |tup ha rl=>
    cases q
    have ex:=aK.o7 rl
    subst ex
    obtain⟨its,J,⟨o,O,U,m,hd⟩,_⟩:=I.tuple (jC.of ha)
    exact⟨_,rfl,o,_,m,O,U,hd,by simpa using wj J⟩
  |succ j=>
   obtain⟨a,h1,h2⟩:=yz I t qs j (by rw[bE] at hj;grind)
   exact⟨a,by simpa using h1,by simpa using h2⟩
theorem N5{p1 p2 pos1 pos2:Pos}{e:eT}{t:qG}(hc:X.calm=true)(hu:X.A.units+64<lP)(hgl:Gl X "len")(hml:X.mg "len" = none)(hgs:Gl X "set")(hms:X.mg "set" = none)(hvl:iF "len" = some (.builtin "len"))(hvs:iF "set" = some (.type "set"))(ha:FJ X [e] t)
  (he1:bS [P4 (.Name "set" p2) [e] [] pos2] X.env=(false,gN (.Call (.Name "set" p2) [e] [] pos2) X.env)::bS [] X.env:=by rfl) (he2:bS [e] X.env=(false,gN e X.env)::bS [] X.env:=by rfl)
  (hq1:(mN pos1 (bS [] X.env)).any (·.1)=false:=by rfl) (hq2:(mN pos2 (bS [] X.env)).any (·.1)=false:=by rfl) :
  aF X (.Call (.Name "len" p1) [.Call (.Name "set" p2) [e] [] pos2] [] pos1) (aM pU t):=by
 intro kL s σ H Q I h
 have h':=ue h
 refine kK (eX I hgl hml hvl ?_ (by decide) (by decide))
 refine qr ?_ he1 hq1
 rw[he1]
 show a9 _ _ (NJ ((false,gN (.Call (.Name "set" p2) [e] [] pos2) X.env)::mN pos1 (bS [] X.env))) _ _ s
 refine rL ?_
 refine kK (eX I hgs hms hvs ?_ (by decide) (by decide))
 refine fe (cC (ha pos2 kL s σ H _ I h') λus s1 zz=>?_) he2 hq2
 obtain⟨vs,H1,I1,r1,q1⟩:=zz
 obtain⟨ds,H3,Q3,hr,rd,⟨a,kk,rfl,ka,ac,tq⟩,al⟩:=q1
 cases rd with
 |cons r1' r2'=>
  cases r2'
  cases r1'
  obtain⟨u,rfl,ru⟩:=Vals.one r1
  obtain rfl:u=eB a:=ru
  obtain⟨xs,ga,ra⟩:=hr a _ ka
  obtain⟨its,rv,pl,hz⟩:=I1.list (cV.of ga)
  have J:=yz I1 ra rv
  have U:its.length=kk.length:=by rw[←rv.length,←ra.length,ae]
  have am:∃ad:Nat->aT,∀j,j<kk.length->its[j]?=some (.ref (ad j))/\iS (eM X.prog X.w) s1.heap (kk.getD j []) (ad j):=by
   refine⟨λj=>if O:j<kk.length then Classical.choose (J j O) else 0,λj O=>?_⟩
   dsimp only
   rw[dif_pos O]
   exact Classical.choose_spec (J j O)
  obtain⟨ad,Y⟩:=am
  refine ST.RC (items:=its.toArray) (kk:=kk) (ad:=ad) (I1.ok.hd hc) (by grind) pl.isList (by rw[c6,U]) ac (λj O=>by simpa using (Y j O).1) (λj O=>(Y j O).2) λh2 tk ks k1 k2 k3 k4=>?_
  have I2:=I1.kept (t':=tk) k4
  obtain⟨o,es,ep,tb,ho,ap,hd,el,T,_,a1,a0⟩:=id k1
  refine sL ?_
  have Z:tb.fits es.size=true:=by rw[el.1];exact ST.fits_of T (by grind)
  refine call_len_set (s:={ s1 with heap:=h2,toks:=tk }) ho ap hd Z (by rw[el.1];have:((ks.length:Nat):Int)<100:=(by grind);exact Int.lt_trans this (by decide)) ?_
  refine⟨.int ks.length,H1,I2.tok (tk+1+1),⟨tk+1,by rw[el.1]⟩,?_⟩
  exact al _ _ _ _ TK.refl hr (.int _) (tq ks a0 k2)
end
def io3(v w:wI):wI:=λσ H R=>v σ H R\/w σ H R
variable{R:List D->(aA->Prop)->aA->Prop}
def acq{v w:wI}{σ:cD}(h:v σ H R):io3 v w σ H R:=.inl h
def abU{v w:wI}{σ:cD}(h:w σ H R):io3 v w σ H R:=.inr h
def abX{X:Cx}{tg e:eT}{v w:wI}(hv:tM X tg e v)(hw:tM X tg e w):tM X tg e (io3 v w):=by
 intro kL s σ H R I h
 obtain⟨O,H3,R3,h1,h2,J | J,U⟩:=h
 ·exact hv kL s σ H R I ⟨O,H3,R3,h1,h2,J,U⟩
 ·exact hw kL s σ H R I ⟨O,H3,R3,h1,h2,J,U⟩
end L3
namespace L3
open PySem L2
end L3
namespace L3
open PySem PySem.Spec PyProof.Rows L2
end L3
namespace L3
open PySem L2
end L3
namespace L3
open PySem PySem.Spec PyProof.Rows L2
end L3
namespace L3
open PySem L2
abbrev Du:=List (Key×D)
def nJ(zp:Du)(k:Key):Option D:=(zp.find? λkv=>decide (kv.1=k)).map (·.2)
end L3
namespace L3
open PySem PySem.Spec PyProof.Rows L2
def TK.dK{H:Hp}{p:aT}{o:HO}{xs:List (Key×V)}(n:H p=some (.dK xs)):TK H (upd H p o) :=
 ⟨λa ys h=>by rw[aC (j4 h n (by intro z;cases z))];exact h,λa o' u h=>by rw[aC (j4 h n (by intro z;cases z))];exact h⟩
abbrev TI'(K:ag)(H:Hp):Du->List (Key×V)->Prop:=Paired (λ(p:Key×D) (q:Key×V)=>p.1=q.1/\Rep K H p.2 q.2)
section
variable{K:ag}{H:Hp}{k:Key}
theorem TI'.look:∀ {zp:Du} {ks:List (Key×V)},TI' K H zp ks->(mR ks k).isSome=(nJ zp k).isSome/\∀d,nJ zp k=some d->∃v,mR ks k=some v/\Rep K H d v
 |_,_,.nil=>⟨rfl,λ_ h=>nomatch h⟩
 |_,_,.cons (a:=p) (b:=q) r t=>by
  have ih:=TI'.look t
  by_cases e:p.1=k
  ·have J:q.1=k:=r.1.symm.trans e
   have O:∀rest:Du,nJ (p::rest) k=some p.2:=λrest=>by unfold nJ;rw[gT (by simpa using e)];rfl
   rw[lN J,O]
   exact⟨rfl,λd h=>⟨_,rfl,by cases h;exact r.2⟩⟩
  ·have J:¬q.1=k:=λz=>e (r.1.trans z)
   have O:∀rest:Du,nJ (p::rest) k=nJ rest k:=λrest=>by unfold nJ;rw[gi (by simpa using e)]
   rw[lE J,O]
   exact ih
def HR.ab5{H3:aA}(h:HR K H3 H){p:aT}{ks:List (Key×V)}{zp:Du}(t:TK H (upd H p (.dK ks)))(r:TI' K (upd H p (.dK ks)) zp ks):HR K (au H3 p (.dik zp)) (upd H p (.dK ks)):=h.set (o3:=.dik zp) t ⟨ks,aZ,r⟩
end
end L3
namespace L3
open PySem L2
end L3
namespace L3
open PySem PySem.Spec PyProof.Rows L2
end L3
namespace L3
open PySem L2
end L3
namespace L3
open PySem PySem.Spec PyProof.Rows L2
section
variable{prog:cw}{w:da}{A:gu}{E:af->aw->Prop}{s:aw}{T:String}{r d:aT}{n:Nat}{P:Nat->af->Prop}{OK:fA->Prop}
def Cv{Q:List af->aw->Prop}(K:EH prog w T r d n P OK)(hh:A.handled=none)(hok:OK s.heap)(hn:n<=cf)
  (hQ:∀h' tk (acc:Array af),s.heap.objs.size<=h'.objs.size->(∀b o,s.heap.get? b=some o->h'.get? b=some o)->ItemsOf P acc n->Q acc.toList { s with heap:=h',toks:=tk }):a9 (cy prog w) A (collect (.ref r)) Q E s:=by
 have code:∀R:CL->aw->Prop,(∀h' tk (acc:Array af) Z,s.heap.objs.size<=h'.objs.size->(∀b o,s.heap.get? b=some o->h'.get? b=some o)->h'.get? s.heap.objs.size=some { cls:=.type "list",dict:=none,data:=.seq acc Z,slots:=#[] }->ItemsOf P acc n->R (.ok (.ret (.ref s.heap.objs.size))) { s with heap:=h',toks:=tk })->rq (cy prog w) A (.builtin "proto.collect" ⟨[.ref r],[]⟩) R s:=by
  intro R hR
  refine ij F.entry_proto_collect ?_
  rw[gp F.plain_proto_collect _]
  show a9 _ A.in1 (newList [] >>= λl=>PR (.builtin "list.__iadd__" ⟨[l,.ref r],[]⟩)) _ _ s
  refine ab (fR (av ⟨pT Cs _,ij F.entry_list_iadd ?_⟩))
  rw[gp Cs _]
  have hS:(s.heap.push { cls:=.type "list",data:=.seq ([]:List af).toArray }).get? s.heap.objs.size=some { cls:=.type "list",data:=.seq #[] }:=ba _ rfl
  have U:=K.there _ hok
  show a9 _ A.in1 (kT (.ref s.heap.objs.size) (.ref r) (.ref s.heap.objs.size)) _ _ _
  exact W.kdl_extend (R:=R) (s:={ s with heap:=s.heap.push { cls:=.type "list",data:=.seq ([]:List af).toArray } }) K hh (K.keep _ _ hok λb _ o e=>ai _ e) _ (nv U.1) (nv U.2) _ _ hS (λh' tk Y Z hk O J=>hR h' tk Y Z (kn (b5 O)) (λb o e=>hk b o (cx (b5 e)) (ai _ e)) O J) hn
 unfold collect
 refine ab (EG (code _ λh' tk acc Z hz hk O J=>?_))
 show a9 _ A (load s.heap.objs.size >>= _) _ _ _
 refine ab (wpAny_load O ?_)
 exact av (hQ h' tk acc hz hk J)
def Hk{ns:List Int}{Q:af->aw->Prop}(K:EH prog w T r d n P OK)(hh:A.in1.handled=none)(hok:OK s.heap)(hn:n<=cf)(h64:n<64)(hi:∀acc:Array af,ItemsOf P acc n->mr acc.toList ns)
  (h:∀h' tk a (out:Array af) (ms:List Int) e,s.heap.objs.size<=a->mr out.toList ms->ms.Perm ns->ms.Pairwise (·<=·)->(∀b o,s.heap.get? b=some o->h'.get? b=some o)->h'.get? a=some (MB "list" out e)->Q (.ref a) { s with heap:=h',toks:=tk }) :
  a9 (cy prog w) A (call (.builtin "sorted") [.ref r]) Q E s:=by
 refine AW kind_sorted plain_sorted entry_sorted (args_sorted1 _) ?_
 unfold md.«sorted»
 refine ab (m:=checkCount "sorted" 1 1 _) (av (ab (Cv K hh hok hn λh' tk acc Z hk J=>?_)))
 have hI:=hi acc J
 have U:acc.toList.length=n:=by rw[cS];exact J.1
 refine ab (wpAny_newList ?_ (by rw[U];exact hn))
 have O:(h'.push (MB "list" acc.toList.toArray 0)).get? h'.objs.size=some (MB "list" acc.toList.toArray 0):=ba _ rfl
 show a9 _ _ _ _ _ { s with heap:=h'.push (MB "list" acc.toList.toArray 0),toks:=tk }
 refine ab (gz (fN slot_list_sort ⟨_,O,rfl⟩ entry_list_sort (list_sort_tree O hI (by rw[U];exact h64) λout ms a1 a2 a3=>⟨_,rfl,?_⟩) (args_list_sort _)))
 obtain⟨c,hc⟩:=sortedHeap_at (vs:=acc.toList) (out:=out) O
 refine av ⟨_,rfl,h _ tk h'.objs.size out ms c Z a1 a2 a3 (λb o q=>?_) hc⟩
 have Y:=hk b o q
 have lt:=b5 Y
 exact (sortedHeap_old (cx lt) (by rw[size_push'];exact sN lt)).trans (ai _ Y)
end
end L3
namespace L3
open PySem L2
end L3
namespace L3
open PySem PySem.Spec PyProof.Rows L2
end L3
namespace L3
open PySem L2
end L3
namespace L3
open PySem PySem.Spec PyProof.Rows L2
end L3
namespace L3
open PySem L2
end L3
namespace L3
open PySem PySem.Spec PyProof.Rows L2
end L3
namespace L3
open PySem L2
end L3
namespace L3
open PySem PySem.Spec PyProof.Rows L2
end L3
namespace L3
open PySem L2
end L3
namespace L3
open PySem PySem.Spec PyProof.Rows L2
def Vec:Nat->(List af->Prop)->Prop
 |0,P=>P []
 |n+1,P=>∀u,Vec n λus=>P (u::us)
theorem Vec.row{P:List af->Prop}:∀ {us:List af},Vec us.length P->P us
 |[],h=>h
 |u::_,h=>Vec.row (P:=λus=>P (u::us)) (h u)
def Bnd(x qual:Str)(st:rj)(ps:List Str):Prop:=∀(kV doc pm:af) (an:Option aT) (cdv ct:af),
 Vec ps.length λus=>L1 (mn x qual (gP st) (dm st) (aL st) .none kV doc pm an cdv ct) ⟨us,[]⟩=pure (ps.zip us)
def Bnd.of{K:ag}{x qual:Str}{st:rj}{f:aT}{fd:nr}{ps:List Str}(b:Bnd x qual st ps)(F:V3 K x qual st f fd):Binds K fd ps [] :=
 F.binds λkV doc pm an cdv ct _ e=>Vec.row (e▸b kV doc pm an cdv ct)
end L3
namespace L3
open PySem PySem.W PySem.Spec PyProof.Rows
end L3
namespace L3
open PySem PySem.Spec PyProof.Rows L2
end L3
namespace L3
open PySem L2
end L3
namespace L3
open PySem PySem.Spec PyProof.Rows L2
end L3
namespace L3
open PySem L2
def tabS(zp:List (Str×Str)):Du:=zp.map λx=>(.inr x.1,.str x.2)
def dcS(zp:List (Str×Str)):bK:=λ_ H Q=>∀p,H p=none->Q (.ref p) (au H p (.dik (tabS zp)))
variable{H:aA}{Q:bL}
def acZ{zp:List (Str×Str)}{σ:cD}(h:∀p,H p=none->Q (.ref p) (au H p (.dik (tabS zp)))):dcS zp σ H Q:=h
def gsk(x y:D)(H:aA)(Q:bL):Prop:=∃a z zp d,x=.ref a/\y=.str z/\H a=some (.dik zp)/\nJ zp (.inr z)=some d/\Q d H
def gs3(ta tb:bK):bK:=λσ H Q=>ta σ H λx H1=>tb σ H1 λy H2=>gsk x y H2 Q
def ad3{ta tb:bK}{σ:cD}(h:ta σ H λx H1=>tb σ H1 λy H2=>gsk x y H2 Q):gs3 ta tb σ H Q:=h
def acI{a:aT}{z:Str}{zp:Du}{d:D}(e:H a=some (.dik zp))(l:nJ zp (.inr z)=some d)(q:Q d H):gsk (.ref a) (.str z) H Q:=⟨a,z,zp,d,rfl,rfl,e,l,q⟩
end L3
namespace L3
open PySem PySem.Spec PyProof.Rows L2
section
variable{X:Cx}{o i:eT}{ta tb:bK}{pos:Pos}
def T3(hu:X.A.units+64<lP)(ho:aF X o ta)(hi:aF X i tb)(hs:Ot i:=by exact λ_ _=>rfl):aF X (.Subscript o i pos) (gs3 ta tb) :=
 aY (JN (mh (EW (by decide:1<=64) _) hu) ho hi hs) λ_ _ _ zz=>zz.ex λac H3 Q3 sr hr t k=>⟨ac,H3,_,sr,hr,t,λx v U Ha J Y rx qa=>⟨ac,U,_,sr.mono J,Y,qa,λy u al Hb Z O ry qb=>by
  obtain⟨a,n,zp,d,rfl,rfl,e,l,q⟩:=qb
  cases rx
  cases ry
  obtain⟨vs,gd,rd⟩:=O a _ e
  obtain⟨v,hv,rv⟩:=(TI'.look (k:=.inr n) rd).2 d l
  exact⟨a,v,rfl,by rw[←hv];exact qY.k (k:=.inr n) gd,k _ _ _ _ (J.trans Z) O rv q⟩⟩⟩
def R6{k1 k2 k3 k4 v1 v2 v3 v4:eT}{a1 a2 a3 a4 b1 b2 b3 b4:Str}(hm:∀a b c d:V,qR [] [(.inr a1,a),(.inr a2,b),(.inr a3,c),(.inr a4,d)]=[(.inr a1,a),(.inr a2,b),(.inr a3,c),(.inr a4,d)])
  (h1:aF X k1 (c3 (.str a1))) (w1:aF X v1 (c3 (.str b1))) (h2:aF X k2 (c3 (.str a2))) (w2:aF X v2 (c3 (.str b2))) (h3:aF X k3 (c3 (.str a3))) (w3:aF X v3 (c3 (.str b3))) (h4:aF X k4 (c3 (.str a4))) (w4:aF X v4 (c3 (.str b4))) :
  aF X (.Dict [some k1,some k2,some k3,some k4] [v1,v2,v3,v4] pos) (dcS [(a1,b1),(a2,b2),(a3,b3),(a4,b4)]) :=
 aY (Vm (qw h1 w1 (qw h2 w2 (qw h3 w3 (qw h4 w4 Xj)))) rfl rfl (by simp) (by simp)) λ_ H _ zz=>zz.ex λac H3 Q3 sr hr t k=>λp U=>by
  have J:TK H (upd H p (.dK [])):=TK.fresh U
  have step:∀ {G:Prop} (z:Str) (O:Hp) (R:VK),TK (upd H p (.dK [])) O->HR X.K (au H3 p (.dik [])) O->(∀Hb,TK (upd H p (.dK [])) Hb->HR X.K (au H3 p (.dik [])) Hb->R (.str z) Hb)->jz X.K (c3 (.str z)) _ O R:=λ{G} z O R ta ha f=>
   ⟨ac,au H3 p (.dik []),λd H3'=>d=.str z/\H3'=au H3 p (.dik []),(sr.mono J).mono ta,ha,⟨rfl,rfl⟩,λd v H3' H' t' h' r' q'=>by
    obtain⟨rfl,rfl⟩:=q'
    cases r'
    exact f H' (ta.trans t') h'⟩
  have h0:HR X.K (au H3 p (.dik [])) (upd H p (.dK [])):=hr.ab5 J .nil
  refine step (G:=True) a1 _ _ TK.refl h0 λG1 t1 e1=>step (G:=True) b1 _ _ t1 e1 λG2 t2 e2=>step (G:=True) a2 _ _ t2 e2 λG3 t3 e3=>step (G:=True) b2 _ _ t3 e3 λG4 t4 e4=>step (G:=True) a3 _ _ t4 e4 λG5 t5 e5=>step (G:=True) b3 _ _ t5 e5 λG6 t6 e6=>step (G:=True) a4 _ _ t6 e6 λG7 t7 e7=>step (G:=True) b4 _ _ t7 e7 λG8 t8 Y=>?_
  obtain⟨ks,Z,rd⟩:=Y p _ aj
  cases rd
  refine⟨Z,[(.inr a1,.str b1),(.inr a2,.str b2),(.inr a3,.str b3),(.inr a4,.str b4)],rfl,by simp,?_⟩
  rw[hm]
  have tt:=TK.dK (o:=.dK [(.inr a1,V.str b1),(.inr a2,.str b2),(.inr a3,.str b3),(.inr a4,.str b4)]) Z
  have hs:=Y.ab5 (zp:=tabS [(a1,b1),(a2,b2),(a3,b3),(a4,b4)]) tt (.cons ⟨rfl,.str _⟩ (.cons ⟨rfl,.str _⟩ (.cons ⟨rfl,.str _⟩ (.cons ⟨rfl,.str _⟩ .nil))))
  rw[cN] at hs
  exact k _ _ _ _ ((J.trans t8).trans tt) hs (.ref p) (t p (hr.fresh U))
end
end L3
namespace L3
open PySem L2
def Bm:List D->aA->bL->Prop:=λds H Q=>∃ns:List Int,ds=[tpI ns]/\ns.length<=4/\ns.Pairwise (· < ·)/\∀p:aT,H p=none->Q (.ref p) (au H p (.lst (ns.map D.int)))
def Qi{ns:List Int}{H:aA}{Q:bL}(hl:ns.length<=4)(hw:ns.Pairwise (· < ·))(h:∀p:aT,H p=none->Q (.ref p) (au H p (.lst (ns.map D.int)))):Bm [.tup (ns.map D.int)] H Q:=⟨ns,rfl,hl,hw,h⟩
end L3
namespace L3.ST
open PySem PySem.SetTable PySem.Spec PyProof.Rows
theorem Ks{t:qS}{hs:Nat->Int}{n:Nat}(T:Tb t hs n)(h:Int):∀(k f:Nat) (p:Probe),p.dummy=none->k<f->¬wk t.place (az t.mask p k).j->(∀m,m<k->wk t.place (az t.mask p m).j) ->
  probe.go t (λ_=>h+1) h f p=some (.empty (az t.mask p k).j none)
 |0,f+1,p,hd,hf,he,_=>by
  unfold probe.go
  have:t.slot p.j=.empty:=yG T.rise T.nod he
  rw[this]
  show some (Met.empty p.j p.dummy)=_
  rw[hd];rfl
 |k+1,f+1,p,hd,hf,he,hm=>by
  obtain⟨i,hi,J⟩:=hm 0 (by grind)
  have es:t.slot p.j=.live i:=by
   have:=Bd T.rise i hi
   rw[J] at this
   exact this
  have O:=Ks T h k f (Nt t.mask p) (by rw[←hd];exact mJ t.mask 1 p) (by grind) he (λm U=>hm (m+1) (by grind))
  refine OQ ?_ O
  conv=>lhs;unfold probe.go
  rw[es]
  show (if (h+1==h)=true then _ else _)=_
  rw[if_neg (by simp;omega)]
  rfl
variable{t:qS}{hs:Nat->Int}{n:Nat}
def ZW(T:Tb t hs n)(hn:n+1<=t.mask)(es:Array (Int×af))(hz:es.size=n)(h:Int)(x:af) :
  ∃t' p hs',layNew t es h x=(insertAt es p (h,x),t',false,false)/\Tb t' hs' (n+1)/\p<=n/\t'.mask=t.mask/\t'.plain=t.plain/\t'.led=t.led:=by
 obtain⟨e,U,J,O⟩:=QZ T (by omega) h
 have hj:=zg t.mask h e
 obtain⟨T1,hp⟩:=Th T J O hj
 have Y:t.freeSlot h=some ((az t.mask (st0 t.mask h) e).j,false):=by
  have g:=Ks T h e (10*turns t.mask) (st0 t.mask h) rfl U J O
  have g':t.probe (λ_=>h+1) h (t.probeStart h)=some (.empty (az t.mask (st0 t.mask h) e).j none):=g
  unfold SetTable.freeSlot
  rw[g'];rfl
 generalize (az t.mask (st0 t.mask h) e).j=j at *
 have m1:(t.put j).1.mask=t.mask:=rfl
 have Z:(t.put j).1.fits (insertAt es (t.put j).2 (h,x)).size=true:=by
  rw[Ht es _ _ (by rw[hz];exact hp),hz]
  exact fits_of T1 (by rw[m1];exact hn)
 refine⟨(t.put j).1,(t.put j).2,_,?_,T1,hp,rfl,rfl,rfl⟩
 unfold layNew
 rw[Y]
 show (insertAt es (t.put j).2 (h,x),(t.put j).1.orStandIn (insertAt es (t.put j).2 (h,x)).size,false,!(t.put j).1.fits (insertAt es (t.put j).2 (h,x)).size)=_
 unfold SetTable.orStandIn
 rw[Z,if_pos rfl];rfl
section
variable{prog:cw}{w:da}{A:gu}{E:af->aw->Prop}{s:aw}
def EI(prog:cw)(w:da)(es:Array (Int×af))(ns:List Int):Prop:=es.size=ns.length/\∀i,i<ns.length->∃t,es[i]?=some ((eM prog w).hash (ns.getD i 0),.int (ns.getD i 0) t)
def Gu(w:da):Bool:=w.params.followText "set-order"
def Aa(prog:cw)(w:da)(h:fA)(S:aT)(es:Array (Int×af))(t:qS)(ns:List Int)(ep:Nat):Prop :=
 ∃o hs,h.get? S=some o/\o.ExactSet/\o.data=.set es ep t/\EI prog w es ns/\Tb t hs ns.length/\t.plain=true/\t.led=(!Gu w)/\t.mask=7/\ns.Nodup/\ns.length<=4
def tX(prog:cw)(w:da)(h:fA)(S:aT)(ns:List Int)(ep:Nat):Prop:=∃es t,Aa prog w h S es t ns ep
def insI(ns:List Int)(p:Nat)(k:Int):List Int:=ns.take p++k::ns.drop p
def lJ(ks:List Int)(p:Nat)(k:Int)(hp:p<=ks.length):(insI ks p k).length=ks.length+1:=by
 unfold insI;simp only[ck,fm,bE,i6];omega
def Qm(ks:List Int)(p:Nat)(k:Int)(hp:p<=ks.length)(i:Nat):(insI ks p k).getD i 0=if i<p then ks.getD i 0 else if i=p then k else ks.getD (i-1) 0:=by
 unfold insI
 have J:(ks.take p).length=p:=by rw[fm];omega
 rw[bP]
 by_cases h1:i<p
 ·rw[if_pos h1,gI (by omega),BC h1,bP]
 ·rw[if_neg h1,fI (by omega),J]
  by_cases h2:i=p
  ·subst h2;rw[if_pos rfl,IC];rfl
  ·rw[if_neg h2,show i-p=(i-1-p)+1 by omega,Cf,AM,bP,show p+(i-1-p)=i-1 by omega]
def insI_perm(ks:List Int)(p:Nat)(k:Int):(insI ks p k).Perm (k::ks):=by
 have h:(insI ks p k).Perm (k::(ks.take p++ks.drop p)):=tF
 rwa [sk] at h
def EI.elems{es:Array (Int×af)}{ns:List Int}(x:EI prog w es ns):ElemsOf (eM prog w) es.toList:=by
 intro e J
 obtain⟨i,hi,rfl⟩:=hZ J
 rw[cS] at hi
 obtain⟨t,h1⟩:=x.2 i (by rw[←x.1];exact hi)
 rw[eW hi,k9] at h1
 rw[mE,h1]
 exact⟨⟨_,GI _ _ _ _,rfl⟩,rfl⟩
def EI.put{es:Array (Int×af)}{ns:List Int}(x:EI prog w es ns){p:Nat}(hp:p<=ns.length)(k:Int)(t:Tok):EI prog w (insertAt es p ((eM prog w).hash k,.int k t)) (insI ns p k):=by
 have J:p<=es.size:=by rw[x.1];exact hp
 refine⟨by rw[Ht es p _ J,lJ ns p k hp,x.1],λi hi=>?_⟩
 rw[lJ ns p k hp] at hi
 rw[Uj es p _ J,Qm ns p k hp]
 by_cases h1:i<p
 ·rw[if_pos h1,if_pos h1];exact x.2 i (by omega)
 ·rw[if_neg h1,if_neg h1]
  by_cases h2:i=p
  ·rw[if_pos h2,if_pos h2];exact⟨t,rfl⟩
  ·rw[if_neg h2,if_neg h2];exact x.2 (i-1) (by omega)
def Pk{S:aT}{ns:List Int}{ep:Nat}{k:Int}{tk:Tok}{Q:Bool->aw->Prop}(hS:tX prog w s.heap S ns ep)(hk:k∉ns)(hb:ns.length<4)
  (h:∀b h' ns' ep',kH S s.heap h'->tX prog w h' S ns' ep'->ns'.Perm (k::ns)->Q b { s with heap:=h' }) :
  a9 (cy prog w) A (C1 S (.int k tk) ((eM prog w).hash k)) Q E s:=by
 obtain⟨es,t,o,hs,ho,a1,hd,O,T,Z,ac,J,a2,h4⟩:=hS
 have hf:t.fits es.size=true:=by rw[O.1];exact fits_of T (by omega)
 have al:=O.elems
 have am:(eM prog w).is k (.int k tk)=true:=GI _ _ _ _
 have U:List.findIdx? (λe=>(eM prog w).is k e.2) es.toList=none:=by
  rw[List.findIdx?_eq_none_iff]
  intro e he
  obtain⟨i,hi,rfl⟩:=hZ he
  rw[cS] at hi
  obtain⟨t',h1⟩:=O.2 i (by rw[←O.1];exact hi)
  rw[eW hi,k9] at h1
  rw[mE,h1]
  have ap:i<ns.length:=by rw[←O.1];exact hi
  rw[KeyKind.is_eq_decide (GI _ _ (ns.getD i 0) t') k]
  refine decide_eq_false λz=>hk ?_
  rw[z,bP,aS ap]
  exact nV ap
 obtain⟨t',p,a3,hL,T',hp,m1,p1,l1⟩:=ZW T (by omega) es O.1 ((eM prog w).hash k) (.int k tk)
 unfold C1 MI
 refine gz (ab (kF ho hd hf ?_))
 dsimp only
 rw[byScan_of (x:=.int k tk) rfl (by rw[O.1];unfold scanBound;omega) al]
 simp only[↓reduceIte]
 unfold setAddByScan
 refine ab (ab (xA (ab (wpAny_setScan_of am ho hd hf al ?_))))
 rw[U]
 dsimp only
 rw[hL]
 dsimp only
 refine ab (av ?_)
 rw[p1,Z]
 simp only[↓reduceIte]
 refine ab ?_
 rw[hashByValue_scannable 8 (x:=.int k tk) rfl]
 refine av ?_
 rw[show plainKind (.int k tk)=true from rfl]
 simp only[↓reduceIte]
 show a9 _ _ (storeSet S (insertAt es p ((eM prog w).hash k,.int k tk)) t' >>= _) _ _ _
 have a0:=O.put hp k tk
 have hz:(insertAt es p ((eM prog w).hash k,qq k tk)).size=ns.length+1:=by rw[a0.1,lJ ns p k hp]
 refine ab (Bi ho hd ?_ (by rw[hz,lI];omega))
 have a4:=kz s.heap S (AN (insertAt es p ((eM prog w).hash k,qq k tk)) t')
 have a5:=wu ho hd (insertAt es p ((eM prog w).hash k,qq k tk)) t'
 have Y:(!false&&t'.tooFull)=false:=by
  unfold Cn FG
  rw[T'.nod,T'.size,m1,J]
  simp only[AO,FH,decide_eq_false_iff_not]
  show ¬((ns.length+1+0)*5≥7*3);omega
 rw[Y]
 simp only[c9,↓reduceIte]
 have per:=insI_perm ns p k
 refine av (av (h _ _ (insI ns p k) (ep+1) a4 ⟨_,t',_,a3,a5,a1,rfl,a0,?_,by rw[p1,Z],by rw[l1,ac],by rw[m1,J],per.nodup_iff.mpr (fo.mpr ⟨hk,a2⟩),by rw[lJ ns p k hp];omega⟩ per))
 rw[lJ ns p k hp];exact T'
end
section
variable{prog:cw}{w:da}{A:gu}{E:af->aw->Prop}{s:aw}
def tX.at{h h':fA}{S:aT}{ns:List Int}{ep:Nat}(x:tX prog w h S ns ep)(k:∀u,h.get? S=some u->h'.get? S=some u):tX prog w h' S ns ep:=by
 obtain⟨es,t,o,hs,h1,h2⟩:=x
 exact⟨es,t,o,hs,k o h1,h2⟩
def Xc{h h':fA}{l:aT}{items:Array af}(x:h.IsTuple l items)(k:∀u,h.get? l=some u->h'.get? l=some u):h'.IsTuple l items:=by
 obtain⟨o,h1,h2⟩:=x
 exact⟨o,k o h1,h2⟩
def abt{h h':fA}{I l:aT}{i:Nat}(x:h.IsTupleIter I l i)(k:∀u,h.get? I=some u->h'.get? I=some u):h'.IsTupleIter I l i:=by
 obtain⟨o,h1,h2⟩:=x
 exact⟨o,k o h1,h2⟩
theorem M9{R:CL->aw->Prop}{S I l:aT}{items:Array af}{kk:List Int}(hh:A.handled=none)(hSI:S≠I)(hSl:S≠l)(hlI:l≠I)(hi:mr items.toList kk)(h4:kk.length<=4)(hnd:kk.Nodup) :
  ∀(d i:Nat) (s:aw) (ks:List Int) (ep:Nat),kk.length-i=d->i<=kk.length->s.heap.IsTupleIter I l i->s.heap.IsTuple l items->tX prog w s.heap S ks ep->ks.Perm (kk.take i) ->
   (∀h' tk ks' ep',(∀b o,b≠S->b≠I->s.heap.get? b=some o->h'.get? b=some o)->tX prog w h' S ks' ep'->ks'.Perm kk->R (.ok (.ret .none)) { s with heap:=h',toks:=tk }) ->
   rq (cy prog w) A (.builtin "set.update.loop" ⟨[.ref S,.ref I],[]⟩) R s:=by
 have hsz:items.size=kk.length:=by rw[←cS];exact hi.length
 intro d
 induction d with
 |zero=>
  intro i s ks ep hd a0 it li st Z hR
  have e:i=kk.length:=by grind
  subst e
  refine ij qV ?_
  rw[gp kR _]
  show a9 _ A.in1 (l9 (.ref I) >>= _) _ _ s
  refine ab (CI (by simp[hh]) it li (by simp[hsz]) λh' he=>?_)
  show a9 _ A.in1 (ret jI) _ _ _
  rw[fh (a8 _)] at Z
  exact av (hR h' s.toks ks ep (λb o _ hb q=>he b o hb q) (st.at λu q=>he S u hSI q) Z)
 |succ d ih=>
  intro i s ks ep hd a0 it li st Z hR
  have U:i<kk.length:=by grind
  have Y:i<items.toList.length:=by rw[cS,hsz];exact U
  obtain⟨t,ht⟩:=hi.int_at i _ (aS Y)
  have hx:items[i]?=some (.int (kk.getD i 0) t):=by rw[←jS,aS Y,ht]
  have eg:kk.getD i 0=kk[i]:=by rw[bP,aS U];rfl
  refine ij qV ?_
  rw[gp kR _]
  show a9 _ A.in1 (l9 (.ref I) >>= _) _ _ s
  refine ab (B5 it li hx λh1 a1 ac=>?_)
  have O:∀b u,b≠I->s.heap.get? b=some u->h1.get? b=some u:=λb u hb q=>ac.extBut b u hb q
  have a2:tX prog w h1 S ks ep:=st.at λu q=>O S u hSI q
  have a3:h1.IsTuple l items:=li.extBut ac.extBut hlI
  have bd:ks.length=i:=by rw[Z.length_eq,fm];omega
  have a4:kk.getD i 0∉ks:=by
   rw[Z.mem_iff,eg]
   intro z
   have al:=hnd
   rw[←sk i kk,AX U,kD] at al
   exact al.2.2 _ z _ eA rfl
  show a9 _ A.in1 (EO [qq (kk.getD i 0) t] (PF S (.int (kk.getD i 0) t)) >>= _) _ _ _
  refine ab (gz ?_)
  unfold PF
  refine gz (ab (IL ?_))
  refine Pk (s:={ s with heap:=h1,toks:=s.toks+1 }) a2 a4 (by omega) λb h2 a5 a6 sb a7 m2=>?_
  have J:∀b u,b≠S->h1.get? b=some u->h2.get? b=some u:=λb u hb q=>(sb.2 b hb).trans q
  refine av ⟨pT kR _,ih (i+1) _ a5 a6 (by grind) (by grind) (abt a1 λu q=>J I u (λz=>hSI z.symm) q) (Xc a3 λu q=>J l u (λz=>hSl z.symm) q) a7 ?_ λh' tk ks' ep' k1 k2 k3=>?_⟩
  ·rw[gS,aS U]
   refine m2.trans (LH ?_ (List.perm_append_singleton _ _).symm)
   rw[eg]
   exact List.Perm.cons _ Z
  ·exact hR h' tk ks' ep' (λb u am ap q=>k1 b u am ap (J b u am (O b u ap q))) k2 k3
def Lk(a:af){Q₁:af->aw->Prop}(h:Q₁ (.ref s.heap.objs.size) { s with heap:=s.heap.push (bU (!Gu w)) }):rq (cy prog w) A (.call (.builtin "set.__new__") ⟨[.type "set",a],[]⟩) (wants Q₁ E) s:=by
 have J:=sub_set_self
 refine DH ?_
 show a9 _ A.in1 (checkBuiltinCall "set.__new__" ⟨[.type "set",a],[]⟩ >>= λ_=>PR (.builtin "set.__new__" ⟨[.type "set",a],[]⟩)) _ _ s
 refine ab (pz (F.newCall_set_1 a) (av ⟨pT LI _,ij F.entry_set_new ?_⟩))
 rw[gp LI _]
 unfold md.«set.__new__» ML
 obtain⟨O,g,d,U,os⟩:=s
 dsimp only at h ⊢
 wp_walk
 refine tJ (av ?_)
 dsimp only;simp only[newObj]
 exact ab (wpAny_alloc (av (av h)))
def Rc{h:fA}{S:aT}(ho:h.get? S=some (bU (!Gu w))):tX prog w h S [] 0 :=
 ⟨_,_,_,λ_=>0,ho,⟨rfl,rfl,rfl⟩,rfl,⟨rfl,λ_ z=>absurd z (gc _)⟩,⟨rfl,λ_ _ _ z=>absurd z (gc _),λ_ z=>absurd z (gc _),rfl,.inl rfl,λ_ z=>absurd z (gc _)⟩,rfl,rfl,rfl,oa,eD _⟩
set_option maxHeartbeats 3200000 in
def NB{l:aT}{items:Array af}{kk:List Int}{Q:af->aw->Prop}(hh:A.handled=none)(hl:s.heap.IsTuple l items)(hi:mr items.toList kk)(h4:kk.length<=4)(hnd:kk.Nodup)
  (h:∀h' tk ks ep,tX prog w h' s.heap.objs.size ks ep->ks.Perm kk->(∀b o,s.heap.get? b=some o->h'.get? b=some o)->Q (.ref s.heap.objs.size) { s with heap:=h',toks:=tk }) :
  a9 (cy prog w) A (call (.type "set") [.ref l]) Q E s:=by
 obtain⟨c,tl,a4⟩:=iX.mro;have ap:=iX.made;have a5:=iX.sub
 refine F1 (DH ?_);show a9 _ _ (callAny (.type "set") _) _ _ _
 refine av ⟨GG _ (by decide +kernel),ij ID ?_⟩;rw[GH (DZ "set" [.ref l] []) rfl]
 have h1:=iX.notType;have h2:=iX.canCreate;have bg:=JJ (.ref l)
 (repeat (any_goals (first | assumption | wp_step)))
 refine rS (Lk (.ref l) (E:=E) (Q₁:=λobj s₁=>∃led,led=(!Gu w)/\obj=.ref s.heap.objs.size/\s₁={ s with heap:=s.heap.push (bU led) }) ⟨_,rfl,rfl,rfl⟩) λr s₁ hr=>?_
 cases r with
 |error e=>exact hr
 |ok fl=>
  cases fl with
  |ret obj=>
   obtain⟨led,O,rfl,rfl⟩:=hr
   have hS:(s.heap.push (bU led)).get? s.heap.objs.size=some (bU led):=ba _ rfl
   have hT:M1 { s with heap:=s.heap.push (bU led) } (.ref s.heap.objs.size) "set":=⟨_,hS,rfl⟩
   have bi:=iX.init.lookup;have bl:=iX.init.bind (.ref s.heap.objs.size)
   (repeat (any_goals (first | assumption | wp_step)))
   refine rS (EF (R:=wants (λr s₂=>r=.none/\∃h' tk ks ep,s₂={ s with heap:=h',toks:=tk }/\tX prog w h' s.heap.objs.size ks ep/\ks.Perm kk/\∀b o,s.heap.get? b=some o->h'.get? b=some o) E) iX.init.plain JO (JU hT ?_)) λbm s₂ J=>?_
   ·have U:(s.heap.push (bU led)).IsTuple l items:=hl.push _
    obtain⟨⟨a6,a0,a1,am⟩,Y,Z,nl,ac⟩:=hl
    simp only at Z ac;subst Z;subst ac
    have a7:=ai (bU led) Y
    have bd:=F.sub_tuple_set;have be:=F.sub_tuple_frozenset
    have bn:(Value.type "tuple" == Value.type "dict")=false:=by decide
    unfold md.«set.__init__» noKeywords yA;generalize hPI:FY=PI
    wp_walk
    subst hPI
    refine zC U (ab (EG ?_))
    have al:l<s.heap.objs.size:=b5 Y
    have hz:(s.heap.push (bU led)).objs.size=s.heap.objs.size+1:=mx ..
    have up:∀(X:Obj) b o,s.heap.get? b=some o->((s.heap.push (bU led)).push X).get? b=some o:=λX b o q=>ai _ (ai _ q)
    refine M9 (I:=(s.heap.push (bU led)).objs.size) (l:=l) (items:=items) (kk:=kk) (by simp[hh]) (by rw[hz];exact cx (xp _)) (nv al) (by rw[hz];exact cx (sN al)) hi h4 hnd kk.length 0 _ [] 0 (by omega) (eD _) ⟨_,ba _ rfl,rfl,rfl⟩ (U.push _) (Rc (O▸ai _ hS)) (by simp) λh' tk a2 a3 k1 k2 k3=>?_
    show a9 _ _ _ _ _ _
    refine av ?_
    show a9 _ _ (ret jI) _ _ _
    refine av ⟨rfl,h',tk,a2,a3,rfl,k2,k3,λb o q=>k1 b o (cx (b5 q)) (by rw[hz];exact cx (sN (b5 q))) (up _ b o q)⟩
   ·cases bm with
    |error e=>exact J
    |ok fl₂=>
     cases fl₂ with
     |ret r=>
      obtain⟨rfl,h',tk,ks,ep,rfl,k1,k2,k4⟩:=J
      (repeat (any_goals (first | assumption | wp_step)))
      exact h _ _ ks ep k1 k2 k4
     |_=>exact J.elim
  |_=>exact hr.elim
end
variable{es:Array (Int×af)}{ns:List Int}{S:aT}{ep:Nat}
def cZ:Pw "set_iterator" "__next__" "set_iterator.__next__" :=
 .of (n := "__next__") (owner := "set_iterator") (by rw[nc,kc];kernel_rfl) (by decide +kernel) (by decide +kernel) (by decide +kernel) (.inl (by decide +kernel)) (by rw[qA];kernel_rfl)
def mX:EA OS "set_iterator.__next__" = some md.«set_iterator.__next__»:=B9 (by kernel_rfl)
def vH:EA OS "set.__iter__" = some md.«frozenset.__iter__»:=EB (id' := "frozenset.__iter__") (by kernel_rfl) rfl (by decide +kernel) (by kernel_rfl)
def Cw:Lv.lookup (M0 ['r','o','t','a','r','e','t','i','_','t','e','s'].reverse)=some Manifest.sig_set_iterator:=by kernel_rfl
def pK(a:af):F8 "set_iterator.__next__" ⟨[a],[]⟩:=by
 unfold F8
 rw[BG (o:=['r','o','t','a','r','e','t','i','_','t','e','s']) (n:=['_','_','t','x','e','n','_','_']) (id := "set_iterator.__next__") (by kernel_rfl) Cw]
 kernel_rfl
def pX:Pw "set_iterator" "__iter__" "set_iterator.__iter__" :=
 .of (n := "__iter__") (owner := "set_iterator") (by rw[nc,kc];kernel_rfl) (by decide +kernel) (by decide +kernel) (by decide +kernel) (.inl (by decide +kernel)) (by rw[qA];kernel_rfl)
def wX:EA OS "set_iterator.__iter__" = some md.«dict_keyiterator.__iter__»:=EB (id' := "dict_keyiterator.__iter__") (by kernel_rfl) rfl (by decide +kernel) (by kernel_rfl)
def zP(a:af):F8 "set_iterator.__iter__" ⟨[a],[]⟩:=by
 unfold F8
 rw[BG (o:=['r','o','t','a','r','e','t','i','_','t','e','s']) (n:=['_','_','r','e','t','i','_','_']) (id := "set_iterator.__iter__") (by kernel_rfl) Cw]
 kernel_rfl
section
variable{prog:cw}{w:da}{A:gu}{E:af->aw->Prop}{s:aw}
def Oz(h:fA)(I S:aT)(slot i n ep:Nat):Prop:=∃o,h.get? I=some o/\o.cls=.type "set_iterator"/\o.data=.fields #[.int slot 0,.int i 0,.ref S,.int n 0,.int ep 0]
def jc(w:da)(S:aT)(ep:Nat)(es:Array (Int×af)):Array (Int×af):=if Gu w then JY (w.params.setOrder S ep) es else es
def Oz.typeIs{I:aT}{slot i:Nat}(x:Oz s.heap I S slot i n ep):s.TypeIs (.ref I) "set_iterator":=let ⟨o,J,O,_⟩:=x;⟨o,J,O⟩
def Aa.typeIs(x:Aa prog w s.heap S es t ns ep):s.TypeIs (.ref S) "set":=let ⟨o,_,J,O,_⟩:=x;⟨o,J,O.1⟩
def adU{Q:af->aw->Prop}(hS:Aa prog w s.heap S es t ns ep)
  (hQ:Q (.ref s.heap.objs.size) { s with heap:=s.heap.push { cls:=.type "set_iterator",data:=.fields #[.int 0 0,.int 0 0,.ref S,.int ns.length 0,.int ep 0] } }):a9 (cy prog w) A (FY (.ref S)) Q E s:=by
 have Z:=hS.typeIs
 obtain⟨o,hs,J,al,hd,el,T,O,ac,U,am,h4⟩:=hS
 have Y:t.fits es.size=true:=by rw[el.1];exact fits_of T (by omega)
 refine A7 Z LJ (fN LJ Z vH ?_ (F.args_set_iter_1 _))
 unfold md.«frozenset.__iter__» NH OW
 simp only[Ct,pV,c9,↓reduceIte,bind_assoc,lS,bne_self_eq_false]
 unfold Na Nc
 refine ab (av ?_)
 dsimp only
 refine ab (av ?_)
 refine ab (ab (y9 J hd Y (av ?_)))
 unfold setDrawn MM
 refine ab (ab (kF J hd Y ?_))
 dsimp only
 refine ab (ab (tJ (av (av ?_))))
 refine yB (λz=>absurd z ?_) (λ_=>?_)
 ·show ¬((!Gu w&&(!t.plain&&decide (es.size>1)))=true)
  rw[O];simp
 refine ab (av ?_)
 refine ab (wpAny_setEpoch_of J hd Y ?_)
 refine ab (fR (av ⟨_,rfl, "set_iterator",_,⟨_,ba _ rfl,rfl⟩,cZ.lookup,?_⟩))
 simpa [ma,el.1] using hQ
def below_at(T:Tb t hs n){i:Nat}(hi:i<n):below t.place (t.place.getD i 0+1)=i+1:=by
 obtain⟨b1,b2,J⟩:=qm T.rise (t.place.getD i 0+1)
 have O:=T.size
 generalize below t.place (t.place.getD i 0+1)=b at *
 rcases gX b (i+1) with z | z | z
 ·have:=J i (by omega) (by omega);omega
 ·exact z
 ·have:=b2 (i+1) z
  have:=T.rise i (i+1) (by omega) (by omega)
  omega
def sV{slot i:Nat}{Q:Option (af×Nat)->aw->Prop}(hS:Aa prog w s.heap S es t ns ep)(hb:Gu w=false->below t.place slot=i)
  (h1:∀hv x,(jc w S ep es)[i]?=some (hv,x)->∀slot':Nat,(Gu w=false->below t.place slot'=i+1)->Q (some (x,slot')) s) (h2:(jc w S ep es)[i]?=none->Q none s):a9 (cy prog w) A (N2 S slot i ep) Q E s:=by
 obtain⟨o,hs,ho,am,hd,U,T,Y,J,Z,ap,h4⟩:=hS
 have hf:t.fits es.size=true:=by rw[U.1];exact fits_of T (by omega)
 unfold N2 MM
 refine ab (kF ho hd hf ?_)
 dsimp only
 refine ab (ab (tJ (av ?_)))
 cases hB:Gu w with
 |false=>
  rw[if_neg (show ¬((⟨(cy prog w).prog,(cy prog w).w.params⟩:Setting).params.followText "set-order" = true) from by show ¬(Gu w=true);rw[hB];exact ff)]
  have ac:=hb hB
  have eo:jc w S ep es=es:=by unfold jc;rw[hB];rfl
  rw[eo] at h1 h2
  refine yB (λz=>absurd z ?_) (λ_=>?_)
  ·show ¬((!t.plain&&decide (es.size>1))=true)
   rw[Y];simp
  refine ab ?_
  show a9 _ _ (if (!t.led && !es.isEmpty)=true then (unsupported "set:maker-not-led" : Sem Unit) else pure ()) _ _ _
  rw[if_neg (by rw[J,hB];simp)]
  refine av ?_
  rw[ac]
  by_cases hi:i<ns.length
  ·have al:i<es.size:=by rw[U.1];exact hi
   have O:es[i]?=some es[i]:=eW al
   have h5:t.place[i]?=some (t.place.getD i 0):=vG (by rw[T.size];exact hi)
   rw[O,h5]
   exact av (h1 _ _ O _ λ_=>below_at T hi)
  ·have O:es[i]?=none:=lh (by rw[U.1];omega)
   rw[O]
   exact av (h2 O)
 |true=>
  rw[if_pos (show ((⟨(cy prog w).prog,(cy prog w).w.params⟩:Setting).params.followText "set-order" = true) from hB)]
  rw[if_neg (by simp)]
  have eo:jc w S ep es=JY (w.params.setOrder S ep) es:=by unfold jc;rw[hB];rfl
  rw[eo] at h1 h2
  unfold setWalk MM
  refine ab (ab (kF ho hd hf ?_))
  dsimp only
  refine ab (ab (tJ (av ?_)))
  rw[if_pos (show ((⟨(cy prog w).prog,(cy prog w).w.params⟩:Setting).params.followText "set-order" = true) from hB)]
  refine ab (tJ (av (av ?_)))
  show Q (PD (λe:Int×af=>(e.2,slot)) (JY (w.params.setOrder S ep) es)[i]?) s
  cases hx:(JY (w.params.setOrder S ep) es)[i]? with
  |none=>exact h2 hx
  |some e=>exact h1 e.1 e.2 hx slot λz=>JI (hB.symm.trans z)
def ac1{I:aT}{slot i:Nat}{hv:Int}{x:af}{Q:Option af->aw->Prop}(hit:Oz s.heap I S slot i ns.length ep)(hS:Aa prog w s.heap S es t ns ep)(hi:i<ns.length)
  (hb:Gu w=false->below t.place slot=i) (hx:(jc w S ep es)[i]?=some (hv,x))
  (hQ:∀h' slot',Oz h' I S slot' (i+1) ns.length ep->(Gu w=false->below t.place slot'=i+1)->kH I s.heap h'->Q (some x) { s with heap:=h' }):a9 (cy prog w) A (l9 (.ref I)) Q E s:=by
 have hT:=hit.typeIs
 obtain⟨io,O,ic,J⟩:=hit
 obtain⟨o,hs,ho,al,hd,el,T,am,Z,U,ap,h4⟩:=hS
 have hf:t.fits es.size=true:=by rw[el.1];exact fits_of T (by omega)
 unfold l9
 refine ab (nL (fb (name:=fE "__next__") hT cZ (fN cZ hT mX ?_ (pK _))))
 unfold md.«set_iterator.__next__» OW
 simp only[Ct,pV,c9,↓reduceIte,bind_assoc,lS,bne_self_eq_false]
 refine ab (av ?_)
 refine ab (MO O J ?_)
 dsimp only
 refine ab (y9 ho hd hf ?_)
 rw[if_neg (by rw[el.1];simp)]
 refine ab ?_
 show a9 _ _ (N2 S slot i ep) _ _ _
 refine sV ⟨o,hs,ho,al,hd,el,T,am,Z,U,ap,h4⟩ hb (λa1 x' ac slot' a0=>?_) (λz=>by rw[hx] at z;cases z)
 rw[hx] at ac
 cases ac
 dsimp only
 refine ab (wx O J (by simp) ?_)
 have hg:(s.heap.update I (BO (·.setIfInBounds 0 (ma slot')))).get? I=some (BO (·.setIfInBounds 0 (ma slot')) io):=hX _ O (xk (oj J _))
 have Y:(BO (·.setIfInBounds 0 (ma slot')) io).data=.fields #[.int slot' 0,.int i 0,.ref S,.int ns.length 0,.int ep 0]:=by rw[oj J];simp[ma]
 refine ab (wx (s:={ s with heap:=s.heap.update I (BO (·.setIfInBounds 0 (ma slot'))) }) hg Y (by simp) ?_)
 refine av ⟨x,rfl,av (hQ _ slot' ⟨_,hX _ hg (xk (oj Y _)),?_,?_⟩ a0 ((kz ..).trans (kz ..)))⟩
 ·exact (A9 ..).trans ((A9 ..).trans ic)
 ·rw[oj Y];simp[ma]
def endI{I:aT}{slot i:Nat}{Q:Option af->aw->Prop}(hh:A.handled=none)(hit:Oz s.heap I S slot i ns.length ep)(hS:Aa prog w s.heap S es t ns ep)
  (hb:Gu w=false->below t.place slot=i) (hx:(jc w S ep es)[i]?=none)
  (hQ:∀h',KO I s.heap h'->Q none { s with heap:=h' }):a9 (cy prog w) A (l9 (.ref I)) Q E s:=by
 have hT:=hit.typeIs
 obtain⟨io,O,ic,U⟩:=hit
 obtain⟨o,hs,ho,ac,hd,el,T,al,Y,J,am,h4⟩:=hS
 have hf:t.fits es.size=true:=by rw[el.1];exact fits_of T (by omega)
 unfold l9
 refine ab (nL (fb (name:=fE "__next__") hT cZ (fN cZ hT mX ?_ (pK _))))
 unfold md.«set_iterator.__next__» OW
 simp only[Ct,pV,c9,↓reduceIte,bind_assoc,lS,bne_self_eq_false]
 refine ab (av ?_)
 refine ab (MO O U ?_)
 dsimp only
 refine ab (y9 ho hd hf ?_)
 rw[if_neg (by rw[el.1];simp)]
 refine ab ?_
 show a9 _ _ (N2 S slot i ep) _ _ _
 refine sV ⟨o,hs,ho,ac,hd,el,T,al,Y,J,am,h4⟩ hb (λa0 x' Z ap a1=>by rw[hx] at Z;cases Z) (λ_=>?_)
 dsimp only
 refine ab (wx O U (by simp) ?_)
 refine ab ?_
 simp only[NX,OT]
 refine ab (fR ?_ (by size_fits))
 refine ab (m:=wq _ _) (pz (a:=jI) rfl ?_)
 refine fR ?_ (by size_fits)
 simp only[OU]
 refine ab (FE ?_)
 rw[show A.in1.handled=none from hh]
 refine ab (av (KL ?_))
 refine ab (qB (T := "StopIteration") (b:=true) ⟨_,ba _ rfl,rfl⟩ AI ?_)
 exact av (hQ _ (((kz ..).extBut.push _).push _))
theorem JV{α:Type}(f:Nat->Nat):∀(n k:Nat) (l:List α) (out:Array α),l.length=n->(N3 f n k l out).toList.Perm (out.toList++l)
 |0,k,l,out,h=>by
  obtain rfl:l=[]:=Co.mp h
  rw[i4];exact MQ _
 |n+1,k,l,out,h=>by
  have J:f k%l.length<l.length:=rX _ (by omega)
  unfold N3
  rw[aS J]
  refine (JV f n (k+1) (l.eraseIdx (f k%l.length)) _ (by rw[List.length_eraseIdx_of_lt J];omega)).trans ?_
  rw[Ic,Bn]
  refine List.Perm.append_left _ ?_
  rw[List.eraseIdx_eq_take_drop_succ]
  have e:l=l.take (f k%l.length)++l[f k%l.length]::l.drop (f k%l.length+1):=by rw[←AX J,sk]
  refine LH ?_ (List.Perm.of_eq e.symm)
  exact (tF (l₁:=l.take (f k%l.length))).symm
def Nu(S:aT)(ep:Nat)(es:Array (Int×af)):(jc w S ep es).toList.Perm es.toList:=by
 unfold jc
 split
 ·have:=JV (w.params.setOrder S ep) es.size 0 es.toList #[] rfl
  exact this
 ·exact MQ _
def ivl:af->Int
 |.int k _=>k
 |_=>0
def EI.vals(x:EI prog w es ns):es.toList.map (λe=>ivl e.2)=ns:=by
 refine w8 λi=>?_
 rw[ay,jS]
 by_cases hi:i<ns.length
 ·obtain⟨t,e⟩:=x.2 i hi
  rw[e,aS hi]
  show some (ns.getD i 0)=_
  rw[bP,aS hi];rfl
 ·rw[lh (by rw[x.1];omega),gv (by omega)];rfl
def Xz(x:EI prog w es ns):∃ms:List Int,ms.Perm ns/\ms.length=ns.length/\(∀i,i<ns.length->∃hv t,(jc w S ep es)[i]?=some (hv,.int (ms.getD i 0) t))/\(jc w S ep es)[ns.length]?=none:=by
 have O:=Nu (w:=w) S ep es
 have Z:(jc w S ep es).size=ns.length:=by rw[←cS,O.length_eq,cS,x.1]
 refine⟨(jc w S ep es).toList.map (λe=>ivl e.2),?_,by rw[ae,cS,Z],λi hi=>?_,lh (by omega)⟩
 ·have:=O.map (λe=>ivl e.2)
  rwa [x.vals] at this
 ·have J:i<(jc w S ep es).size:=by omega
  have hm:(jc w S ep es)[i]∈es.toList:=O.mem_iff.mp (by rw[←mE];exact nV _)
  obtain⟨j,U,Y⟩:=hZ hm
  rw[cS] at U
  obtain⟨t,e⟩:=x.2 j (by rw[←x.1];exact U)
  rw[eW U,k9] at e
  rw[mE,e] at Y
  refine⟨(eM prog w).hash (ns.getD j 0),t,?_⟩
  have eg:((jc w S ep es).toList.map (λe=>ivl e.2)).getD i 0=ns.getD j 0:=by
   rw[bP,ay,jS,eW J,←Y];rfl
  rw[eg,eW J,Y]
def adC(hh:A.handled=none)(I S:aT)(hne:S≠I){ms:List Int}(hm:∀i,i<ns.length->∃hv t,(jc w S ep es)[i]?=some (hv,.int (ms.getD i 0) t))(hn:(jc w S ep es)[ns.length]?=none) :
  Walks prog w A I [I,S] [I] ns.length (λi v=>∃t,v=.int (ms.getD i 0) t) (λi h=>(∃slot,Oz h I S slot i ns.length ep/\(Gu w=false->below t.place slot=i))/\Aa prog w h S es t ns ep) where
 sub:=λb O=>by simp at O;simp[O]
 frame:=λ_ _ _ st hk=>⟨let ⟨slot,⟨o,Y,r⟩,q⟩:=st.1;⟨slot,⟨o,hk I (by simp) o Y,r⟩,q⟩,let ⟨o,hs,Y,r⟩:=st.2;⟨o,hs,hk S (by simp) o Y,r⟩⟩
 item:=λi s Q E hi st Z=>by
  obtain⟨⟨slot,J,O⟩,hS⟩:=st
  obtain⟨hv,tk,hx⟩:=hm i hi
  refine ac1 J hS hi O hx λh' U ac am al=>?_
  exact Z _ h' s.toks ⟨tk,rfl⟩ ⟨⟨U,ac,am⟩,let ⟨o,hs,Y,r⟩:=hS;⟨o,hs,al.extBut S o hne Y,r⟩⟩ λb o O e=>al.extBut b o (λh=>O (by simp[h])) e
 done:=λs Q E st Z=>by
  obtain⟨⟨slot,J,O⟩,hS⟩:=st
  exact endI hh J hS O hn λh' ap=>Z h' s.toks λb o O e=>ap b o (λh=>O (by simp[h])) e
 self:=λ_ _ _ _ st Z=>by
  obtain⟨⟨slot,J,O⟩,hS⟩:=st
  refine A7 J.typeIs pX (fN pX J.typeIs wX ?_ (zP _))
  show a9 _ _ (ret (.ref I)) _ _ _
  exact av ⟨_,rfl, "set_iterator",_,J.typeIs,cZ.lookup,Z⟩
def adx{Q:Bool->aw->Prop}(hT:s.TypeIs (.ref S) "set")(h:Q false s):a9 (cy prog w) A (sM (.ref S)) Q E s:=by
 unfold sM
 refine ab (mT hT F.slot_set_len.lookup ?_)
 generalize hid:("set.__len__" : String)=id0
 wp_delta
 rw[show splitId id0=some ("set", "__len__") from by subst hid;decide +kernel]
 subst hid
 refine ab (qB (T := "set") (b:=true) hT sub_set_self ?_)
 refine yB (λJ=>absurd J (by decide)) (λ_=>?_)
 refine yB (λ_=>?_) (λJ=>absurd (by decide +kernel) J)
 exact ab (we hT (av h))
def afq{ms:List Int}(hm:∀i,i<ns.length->∃hv t,(jc w S ep es)[i]?=some (hv,.int (ms.getD i 0) t))(hn:(jc w S ep es)[ns.length]?=none)(hrise:Gu w=false->below t.place 0=0) :
  EH prog w "set" S S ns.length (λi v=>∃t,v=.int (ms.getD i 0) t) (λh=>Aa prog w h S es t ns ep) where
 type:=λ_ hs=>hs.typeIs
 there:=λ_ hs=>let ⟨_,_,J,_⟩:=hs;⟨b5 J,b5 J⟩
 keep:=λ_ _ hs U=>let ⟨o,q,J,r⟩:=hs;⟨o,q,U S (.inl rfl) o J,r⟩
 notList:=by decide
 notTuple:=by decide
 hint:=λ_ _ _ _ hs O=>adx hs.typeIs O
 iter:=λA s hh hs=>⟨_,_,(λ_ _ O=>adU hs O),adC hh s.heap.objs.size S (let ⟨_,_,J,_⟩:=hs;cx (b5 J)) hm hn,⟨⟨0,⟨_,ba _ rfl,rfl,rfl⟩,hrise⟩,let ⟨o,q,J,r⟩:=hs;⟨o,q,ai _ J,r⟩⟩⟩
def Gg(T:Tb t hs n):below t.place 0=0:=by
 obtain⟨b1,b2,_⟩:=qm T.rise 0
 rcases vF (below t.place 0) with z | z
 ·exact z
 ·exact absurd (b2 0 z) (gc _)
theorem Y4:∀ {us:List af} {ms:List Int},us.length=ms.length->(∀(i:Nat) (v:af),us[i]?=some v->∃t,v=qq (ms.getD i 0) t)->mr us ms
 |[],[],_,_=>.nil
 |u::us,m::ms,h,q=>by
  obtain⟨t,rfl⟩:=q 0 u rfl
  exact .cons m t (Y4 (Nat.succ.inj h) λi v J=>q (i+1) v J)
def sortI{Q:af->aw->Prop}(hh:A.in1.handled=none)(hS:tX prog w s.heap S ns ep)
  (h:∀h' tk a (out:Array af) (ms:List Int) e,s.heap.objs.size<=a->mr out.toList ms->ms.Perm ns->ms.Pairwise (·<=·)->(∀b o,s.heap.get? b=some o->h'.get? b=some o)->h'.get? a=some (MB "list" out e)->Q (.ref a) { s with heap:=h',toks:=tk }) :
  a9 (cy prog w) A (call (.builtin "sorted") [.ref S]) Q E s:=by
 obtain⟨es,t,Y⟩:=hS
 obtain⟨o,hs,ho,ac,hd,el,T,al,Z,O,am,h4⟩:=id Y
 obtain⟨ms,p1,p2,p3,p4⟩:=Xz (S:=S) (ep:=ep) el
 refine L3.Hk (afq p3 p4 λ_=>Gg T) hh Y (by rw[lI];omega) (by omega) (λap J=>Y4 (by rw[cS,J.1,p2]) λi v hv=>J.2 i v (by rw[←jS];exact hv)) λh' tk a out U e z1 z2 z3 z4 z5 z6=>?_
 exact h h' tk a out U e z1 z2 (z3.trans p1) z4 z5 z6
end
end L3.ST
namespace L3
open PySem PySem.Spec PyProof.Rows L2
section
variable{X:Cx}
theorem yN:∀ {ns:List Int} {vs:List af},Vals (ns.map V.int) vs->mr vs ns
 |[],_,.nil=>.nil
 |_::_,_,.cons r t=>by
  obtain⟨t',rfl⟩:=r
  exact .cons _ t' (yN t)
def M8{ms ns:List Int}(hp:ms.Perm ns)(h1:ms.Pairwise (·<=·))(h2:ns.Pairwise (· < ·)):ms=ns :=
 hp.eq_of_pairwise (λ_ _ _ _ h h'=>Int.le_antisymm h h') h1 (h2.imp λh=>zh h)
def Np{p1 p2 pos1 pos2:Pos}{e:eT}{t:qG}(hc:X.calm=true)(hgl:Gl X "sorted")(hml:X.mg "sorted" = none)(hgs:Gl X "set")(hms:X.mg "set" = none)(hvl:iF "sorted" = some (.builtin "sorted"))(hvs:iF "set" = some (.type "set"))(ha:FJ X [e] t)
  (he1:bS [P4 (.Name "set" p2) [e] [] pos2] X.env=(false,gN (.Call (.Name "set" p2) [e] [] pos2) X.env)::bS [] X.env:=by rfl) (he2:bS [e] X.env=(false,gN e X.env)::bS [] X.env:=by rfl)
  (hq1:(mN pos1 (bS [] X.env)).any (·.1)=false:=by rfl) (hq2:(mN pos2 (bS [] X.env)).any (·.1)=false:=by rfl) :
  aF X (.Call (.Name "sorted" p1) [.Call (.Name "set" p2) [e] [] pos2] [] pos1) (aM Bm t):=by
 intro kL s σ H Q I h
 have h':=ue h
 refine kK (eX I hgl hml hvl ?_ (by decide) (by decide))
 refine qr ?_ he1 hq1
 rw[he1]
 show a9 _ _ (NJ ((false,gN (.Call (.Name "set" p2) [e] [] pos2) X.env)::mN pos1 (bS [] X.env))) _ _ s
 refine rL ?_
 refine kK (eX I hgs hms hvs ?_ (by decide) (by decide))
 refine fe (cC (ha pos2 kL s σ H _ I h') λus s1 zz=>?_) he2 hq2
 obtain⟨vs,H1,O,r1,q1⟩:=zz
 obtain⟨ds,H3,Q3,hr,rd,⟨ns,rfl,h4,hw,tq⟩,U⟩:=q1
 cases rd with
 |cons r1' r2'=>
  cases r2'
  cases r1' with
  |tup hta rl=>
   obtain⟨u,rfl,ru⟩:=Vals.one r1
   cases ru
   have ex:=aK.o7 rl
   subst ex
   obtain⟨its,rv,J,_⟩:=O.tuple (jC.of hta)
   have Y:ns.Nodup:=hw.imp λz=>Int.ne_of_lt z
   refine ST.NB (items:=its.toArray) (kk:=ns) (O.ok.hd hc) J (yN rv) h4 Y λh2 tk ks ep k1 k2 k4=>?_
   have I2:=O.kept (t':=tk) k4
   refine sL ?_
   refine ST.sortI (s:={ s1 with heap:=h2,toks:=tk }) (O.ok.hd hc) k1 λh3 Z a' out ms e za hI hp ac hk he=>?_
   have em:ms=ns:=M8 (hp.trans k2) ac hw
   subst em
   have fr:H1 a'=none:=I2.hok.fresh za
   refine⟨.ref a',_,I2.laid (t':=Z) (a:=a') (o:=.lst (ms.map V.int)) hk za ⟨by rw[ae];exact uc (by omega),out.toList,e,mD hI,?_⟩,rfl,?_⟩
   ·rw[ED];exact he
   ·exact U _ _ _ _ (TK.fresh fr) (hr.uL (TK.fresh fr) (aK.ints ms)) (.ref _) (tq _ (hr.fresh fr))
end
end L3
namespace L3
open PySem L2
end L3
namespace L3
open PySem PySem.Spec PyProof.Rows L2
end L3
namespace L3
open PySem L2
end L3
namespace L3
open PySem PySem.Spec PyProof.Rows L2
end L3
namespace L3
open PySem PySem.Spec PyProof.Rows L2 PySem.Calls Builtin Builtin.ObjectAttr
end L3
namespace L3
open PySem PySem.Spec PyProof.Rows L2
section
variable{X:Cx}{e o value:eT}{es:List eT}{t:L2.TA}{ta tv:L2.TE}{c f:Str}{pos pos' p apos:Pos}
end
def Rd(N:List Str)(sp:du)(t:bC):Prop:=∀ds H Q,sp ds H Q->t (Ec Q) (lC N ds) H
def Bo(P:cw)(w:da)(K:ag)(mg:Str->Option af)(base:fA)(N ps:List Str)(q:Str)(st:rj)(k:Nat)(t:bC):Prop :=
 gJ N ps (aL st)->∀(f:aT) (cdv:af) (A:gu) (outer:List Env) (s:aw) (H:Hp) (E:XK),dI k (A.deeper (AA q (aL st) s.heap.objs.size f cdv))->pN (Af Gh P w K mg base N q (aL st) f cdv A outer s H E).nox (dm st) t
def Ln(sp:du)(ps:List Str):Prop:=∀ds H Q,sp ds H Q->ds.length=ps.length
inductive Dfn(K:ag)(x q:Str)(st:rj)(f:aT)(N ps:List Str):Prop
 |mk {fd:nr} (F:V3 K x q st f fd) (S:gJ N ps (aL st)) (hb:Binds K fd ps [])
inductive Cl1(K:ag)(c:Str)(C:aT):Prop
 |mk (a:kq K eK c=some (some (.ref C))) (cl:KJ K C)
section
variable{P:cw}{w:da}{K:ag}{mg:Str->Option af}{base h:fA}{x q c m:Str}{st:rj}{f C:aT}{N ps:List Str}{k:Nat}{sp:du}{se:SpE}{t:bC}{te:EK3->bC}{oc kV doc pm cdv ct mc:af}{od an:Option aT}{osl:Array (Option af)}
def dfn(l:K.lookup f=some ⟨oc,od,.func (mn x q (gP st) (dm st) (aL st) .none kV doc pm an cdv ct),osl⟩:=by k_is)(d:AB K cdv q=true:=by k_is)(g:nX K (.ref f)=true:=by k_is)
  (b:Bnd x q st ps:=by (repeat intro _);exact rfl) (S:gJ N ps (aL st):=by exact⟨rfl,rfl,rfl,by decide +kernel,rfl,by decide +kernel,by decide +kernel⟩):Dfn K x q st f N ps:=⟨S7 l d g,S,b.of (S7 l d g)⟩
def cl1(a:kq K eK c=some (some (.ref C)):=by k_is)(b:tj K C Str.empty=true:=by k_is)(d:wc K C=true:=by k_is)(e:A2 K C=true:=by k_is)
  (g:ip K (.ref C) "__setattr__" = some (some (.builtin "object.__setattr__")):=by k_is):Cl1 K c C:=⟨a,b,d,e,g⟩
def yQ(_:K.In h/\h.Ns eK mg)(rd:Rd N sp t)(d:Cl1 K c C:=by exact cl1)(a:ip K (.ref C) m=some (some (.ref f)):=by k_is)(n:ze K (.ref f)=true:=by k_is)(D:Dfn K m q st f N ps:=by exact dfn)(len:Ln sp ps:=by walk_at "ln")(b:Bo P w K mg base N ps q st k t:=by walk_at "ok"):pL P w K mg base (k+1) c m ps sp:=by
 cases D with
 |mk F S B=>cases d with
  |mk a1 cl=>exact⟨_,_,_,a1,cl,⟨a,n,F.kp⟩,KH F S len λcdv A outer s H E hr=>⟨t,b S _ cdv A outer s H E hr,rd⟩,B⟩
variable(T:K.In h/\h.Ns eK mg)
include T
def cg(rd:Rd N sp t)(a:kq K eK x=some (some (.ref f)):=by k_is)(D:Dfn K x x st f N ps:=by exact dfn)(len:Ln sp ps:=by walk_at "ln")(b:Bo P w K mg base N ps x st k t:=by walk_at "ok"):Fn P w K mg base (k+1) x ps sp:=by
 cases D with
 |mk F S B=>exact fn3 F S (BQ T.1 T.2 a) B len λcdv A outer s H E hr=>⟨t,b S _ cdv A outer s H E hr,rd⟩
def aeG(rd:Rd N sp t)(a:kq K eK c=some (some (.ref C)):=by k_is)(i:ip K (.ref C) "__init__" = some (some (.ref f)):=by k_is)(e:C6 K C=true:=by k_is)(n:ze K (.ref f)=true:=by k_is)(g:nX K (.ref C)=true:=by k_is)
  (D:Dfn K "__init__" q st f N ps:=by exact dfn) (len:Ln sp ps:=by walk_at "ln") (b:Bo P w K mg base N ps q st k t:=by walk_at "ok"):Z1 P w K mg base (k+1) c ps sp:=by
 cases D with
 |mk F S B=>exact⟨_,_,_,a,BQ T.1 T.2 a,⟨e,i,n,g⟩,KH F S len λcdv A outer s H E hr=>⟨t,b S _ cdv A outer s H E hr,rd⟩,B⟩
def ab4{l:C8}{y:Str}(hf:mg "law" = some (.ref f))(rd:Rd N sp t)(a:kq K eK "law" = some (some (.ref C)):=by k_is)
  (l':K.lookup C=some ⟨oc,od,.func (mn "law" "law" (gP st) (dm st) (aL st) .none kV doc pm an cdv ct),osl⟩:=by k_is) (D:Dfn K "law" "law" st C N [y]:=by exact dfn)
  (e:∀v:af,L1 (mn "law" "law" (gP st) (dm st) (aL st) .none kV doc pm an cdv ct) ⟨[v],[]⟩=pure [(y,v)]:=by intro _;rfl) (len:Ln sp [y]:=by walk_at "ln")
  (b:∀base,Bo l.prog w K mg base N [y] "law" st k t:=by intro base;walk_at "ok"):∃fd:nr,(∀(s:aw) (v:af),ER s fd ⟨[v],[]⟩ [(y,v)])/\∀base:fA,K.In base->base.Ns eK mg->jE l.prog w K mg base Gh (k+1) f fd [y] (j9 K sp):=by
 cases D with
 |mk F S B=>
  have z:=hf.symm.trans (BQ T.1 T.2 a)
  cases z
  obtain⟨Z,ac,al,J,am,ap,O,a0,U,rfl,Y,a1⟩:=F.ex
  rw[l'] at Y
  cases Y
  exact⟨_,λ_ v=>.of_eq (e v),λbase _ _=>KH F S len λcdv A outer s H E hr=>⟨t,b base S _ cdv A outer s H E hr,rd⟩⟩
def oU(e:kq K eK x=some none:=by k_is):mg x=none:=W.mg_none_of T.1 T.2 e
end
def YJ{X:Cx}{N ps:List Str}{st:rj}{scope:vT}{N' own:List Str}{fv:FV}(S:gJ N ps (aL st))(c:fK (aL st) N scope N' own fv)(h1:X.env.scope=aL st:=by rfl)(h2:X.N=N:=by rfl):fK X.env.scope X.N scope N' own fv:=by
 rw[h1,h2];exact c
section
variable{P:cw}{w:da}{K:ag}{mg:Str->Option af}{base h:fA}{x q c b f z:Str}{st:rj}{C g a:aT}{ps:List Str}{k ep:Nat}{zp:List (Str×D)}{es:Array B0}
def dc3(T:K.In h/\h.Ns eK mg)(n:kq K eK x=some (some (.ref a)):=by k_is)(l:K.lookup a=some ⟨.type "dict",none,.dict es ep,#[]⟩:=by k_is)(r:Ao w K es.toList zp:=by walk_at "en")(d:(zp.map (·.1)).Nodup:=by decide)(s:(a==me)=false:=by rfl) :
  ∃a,mg x=some (.ref a)/\DC K w a zp:=⟨_,BQ T.1 T.2 n,⟨⟨_,_,_,l,⟨rfl,rfl,rfl⟩,rfl,r⟩,d,s⟩⟩
def tp2{i j:Int}{u v:Tok}{n:Nat}(l:K.lookup a=some ⟨.type "tuple",none,.seq #[.int i u,.int j v] n,#[]⟩:=by k_is):Az K (.ktup (([i,j]:List Int).map D.int)) (.ref a):=.tupI ⟨_,_,_,l,rfl,rfl,(by show 2<=cf;decide),.cons ⟨_,rfl⟩ (.cons ⟨_,rfl⟩ .nil)⟩
def afs{cs:List Str}(r:lG K cs f)(d:Cl1 K c C:=by exact cl1)(e:ip K (.ref C) f=some none:=by k_is):lG K (c::cs) f:=by
 cases d with
 |mk a cl=>exact .cons a cl e r
end
def Aw{sc scope:vT}{N own:List Str}(h1:scope.kind=.function:=by rfl)(h2:∀y∈scope.names,y.2≠.cell:=by decide +kernel)(h3:∀y∈scope.names,y.2=.local->scope.names.lookup y.1=some .local:=by decide +kernel)
  (h4:∀y∈scope.names,y.2≠.free:=by decide +kernel) (h5:own.Nodup:=by decide +kernel):fK sc N scope own own [] :=
 ⟨h1,h2,h3,λy J e=>absurd e (h4 y J),(i4 _).symm,h5,λp O=>absurd O (by simp)⟩
abbrev Sd:=Pt×Str
def q2(t:Sd):List Int:=[t.1.1,t.1.2]
end L3
namespace Law
open PySem PySem.Spec PyProof.Rows L2 L3
set_option maxHeartbeats 8000000
def uA:List (Str×D):=[("e",.ktup (([1,0]:List Int).map D.int)),("n",.ktup (([0,1]:List Int).map D.int)),("w",.ktup (([-1,0]:List Int).map D.int)),("s",.ktup (([0,-1]:List Int).map D.int))]
def lX:List (Str×D):=[("e",.str "w"),("n",.str "s"),("w",.str "e"),("s",.str "n")]
def jP:List (Str×D):=[("e",.ktup (([0,-1]:List Int).map D.int)),("n",.ktup (([0,0]:List Int).map D.int)),("w",.ktup (([-1,0]:List Int).map D.int)),("s",.ktup (([-1,-1]:List Int).map D.int))]
local macro_rules | `(tactic| walk_at "l3h")=>`(tactic| first
 |with_reducible exact aj
 |assumption
 |exact ao (by walk_at "l3h") (by assumption))
local macro_rules | `(tactic| walk_at "l3a")=>`(tactic| first
 |with_reducible assumption
 |decide
 |omega
 |exact⟨by decide,by decide⟩
 |exact vn ⟨by decide,by decide⟩
 |exact ui ⟨by decide,by decide⟩
 |exact⟨by decide,by decide,by decide⟩
 |exact vn ⟨by omega,by omega⟩
 |exact ui ⟨by omega,by omega⟩
 |exact⟨by omega,by omega⟩)
local macro_rules | `(tactic| walk_at "l3t")=>`(tactic| simp only[lC,aE,ny,bE,lS,BS,Nat.reduceSub,iP,D8,ku,lT])
local macro_rules | `(tactic| walk_at "l3b")=>`(tactic| first
 |with_reducible assumption
 |((with_reducible show Bt _ (_+_));exact Bt.add (by walk_at "l3b") (by walk_at "l3b"))
 |((with_reducible show Bt _ (_-_));exact Bt.sub (by walk_at "l3b") (by walk_at "l3b"))
 |((with_reducible show Bt _ (_*_));exact Bt.mul (by walk_at "l3b") (by walk_at "l3b"))
 |((with_reducible show Bt _ (-_));exact Bt.neg (by walk_at "l3b"))
 |((with_reducible show Bt _ (_ / _));exact Bt.div (by walk_at "l3b"))
 |exact Bt.lit (n:=64) (by decide)
 |exact Bt.lit (n:=256) (by decide))
local macro_rules | `(tactic| walk_at "l3w")=>`(tactic| first
 |((with_reducible show Dc _ _);exact And.intro (by walk_at "l3a") (Bt.mono (by walk_at "l3b") (by decide)))
 |exact vn (by walk_at "l3a")
 |exact tu.of (by walk_at "l3b") (by walk_at "l3b") (by decide))
set_option hygiene false in
local macro_rules | `(tactic| walk_at "oB0")=>`(tactic| ((with_reducible show pN _ (_::_) _);refine JM ?_ ?_))
set_option hygiene false in
local macro_rules | `(tactic| walk_at "oS0")=>`(tactic| ((with_reducible show qg _ (.Return ..) _);refine abo ?_))
set_option hygiene false in
local macro_rules | `(tactic| walk_at "oS1")=>`(tactic| ((with_reducible show qg _ (.If ..) _);refine acw ?_ ?_ ?_))
set_option hygiene false in
local macro_rules | `(tactic| walk_at "oS2")=>`(tactic| ((with_reducible show qg _ (.Expr ..) _);refine Xb ?_))
set_option hygiene false in
local macro_rules | `(tactic| walk_at "oS3")=>`(tactic| ((with_reducible show qg _ (.For ..) _);refine Za LP rfl ?_ ?_ ?_))
set_option hygiene false in
local macro_rules | `(tactic| walk_at "oS4")=>`(tactic| ((with_reducible show qg _ (.While ..) _);refine Qw LP ?_ ?_))
set_option hygiene false in
local macro_rules | `(tactic| walk_at "oT0")=>`(tactic| ((with_reducible show yc _ (.BoolOp _ _ _) _);refine ab6 ?_))
set_option hygiene false in
local macro_rules | `(tactic| walk_at $s)=>do
 let n:=s.getString
 let tb:=if n=="l3"||n=="l3s" then "l3p|Yg 0u|v3 _ _ _ _ 4 0G SQ rfl ? 2 0r|% aeD abV aef|Zr 0u 0t|Xk 0u|cX.nx Ec _ 1 _ _ 3 0f GZ 0u 0t|% afk Zq acT acE adP aci adV|cX.rt Ec _ 1 _ _ 3 0f afu 0u|% aeP adf aca abT aea aeW aeB afS acH adE ae9|aB D.tup _ 1 D.int _ 1 _ _ 4 0G Ek rfl ? 2 0r|% aeJ afo aeh aeR acx afB adJ adQ aee Y7 abf abp Xm aer afP afi adK adi adY afv ae5|afa 0u 0t|acy 0u 0t|afK 0u 0t|% aed afG ae1 acR acL ac7 acO aeY adb afO acU|au3 _ _ _ _ _ _ 6 0G aeC rfl ? 2 0r|% ZF acF aes acV aen aec afF aeQ acP afH ab2 aeU adG aft aeN aem acs aeX acZ ad3 ac9 aek acN~l3s|0A 0G ac0 rfl ? 2 0r|adM 0u|b7 _ _ _ _ 4 0G Ql !l3w ? 2 0r|cF _ _ _ _ 4 0G IK !l3w ? 2 0r|dG _ _ _ _ 4 0G Y5 !l3a ? 2 0r|Eo _ _ _ _ 4 0G acb !l3a ? 2 0r|bj D.ref _ 1 0L _ _ 3 0G aal !l3h ? 2 0r|gK D.ref _ 1 0L _ _ 3 0G abj !l3h ? 2 0r|Fi D.ref _ 1 _ _ _ _ 5 0G acA !l3h ? 2 0r|ilk D.ref _ 1 _ _ 3 0G acJ !l3h ? 2 0r|aB D.ktup _ 1 D.int _ 1 _ _ 4 0G ab7 rfl ? 2 0r|xX _ _ D.ref _ 1 _ _ 5 0G ad6 !l3h 0d rfl ? 4 0r|Mv _ _ _ D.ref _ 1 _ _ 6 0G adu !l3h 0d 0d ? 4 0r|nR _ _ D.ref _ 1 _ _ 5 0G Qe !l3h rfl rfl ? 4 0r|mtk _ _ _ D.ref _ 1 _ _ 6 0G adn !l3h ? 2 0r|iT _ D.ty _ 1 0M _ _ 3 0G Yv rfl 0s ? 3 0r|@l3p|@l3c" else if n=="o" then "oE|aF _ _ v3 _ 1 3 0G ZQ _ 1 0e|aF _ _ c3 _ 1 3 0G aaN 0e|aF _ _ o3 aB _ _ 3 3 0G adW ix3 ? ? 3 0r|aF _ _ cO _ 1 3 0G aaA ? 1 0r|aF _ _ o3 aH _ _ 3 3 0G sU U4 ? ? 3 0r|aF _ _ o3 bF _ _ 3 3 0G sU Vu ? ? 3 0r|aF _ _ aM bj _ 2 3 0G lY Yc rfl Su T 1 0q ? 5 0r|aF _ _ c3 _ 1 3 0G Zv 0e|aF _ _ wL _ 1 3 0G ZX ? 1 0r|aF _ _ o3 dG _ _ 3 3 0G sU Vb ? ? 3 0r|aF _ _ o3 b7 _ _ 3 3 0G sU Tv ? ? 3 0r|aF _ _ o3 cF _ _ 3 3 0G sU Oo ? ? 3 0r|aF _ _ c3 _ 1 3 0G acD 0e|aF _ _ oN _ _ _ _ _ _ 6 3 0G Jm YJ S !co 2 rfl ? 0l 0l 5 0r|aF _ _ u3 nM _ 2 3 0G acz Wi ? 2 0r|aF _ _ aM iT _ 2 3 0G lY Xa rfl zF T 1 0q ? 5 0r|aF _ _ Ve _ _ 2 3 0G X3 hr.units ? ? 3 0r|aF _ _ oN _ _ _ _ _ _ 6 3 0G Jm Aw rfl ? 0l 0l 5 0r|aF _ _ m3 nO _ _ 3 3 0G Rk F.slot_list_append F.type_list_append V1 ? ? 5 0r|aF _ _ m3 qt _ _ 3 3 0G Rk F.slot_list_extend F.type_list_extend Xf ? ? 5 0r|aF _ _ aM jW _ 2 3 0G qQ Ut rfl Hm T 1 0q ? 5 0r|aF _ _ av3 _ _ 2 3 0G abu ? ? 2 0r|Yb 0e|aF _ _ ym bJ 0m _ _ _ 4 3 0G vD _ :pl jN.cons #1 :k jH T 1 0d jN.nil 4 hr.mono 0d 1 ? 4 0r|aF _ _ o3 jf _ _ 3 3 0G Ab Q7 hr.units 1 ? ? 3 0r|aF _ _ aM Eu _ 2 3 0G lY Vk rfl 1 rfl aco T 1 0q ? 5 0r|aF _ _ mz3 lO _ _ 3 3 0G ado F.slot_str_join F.type_str_join Ug ? ? 5 0r|aF _ _ Ub yS _ _ _ 4 3 0G wy X4 ? ? ? 4 0r|aF _ _ o3 Eo _ _ 3 3 0G sU WK ? ? 3 0r|aF _ _ UL _ _ 2 3 0G R4 rfl U0 T 1 ? 3 0r|aF _ _ Ub Cd _ _ _ 4 3 0G wy RV ? ? ? 4 0r|aF _ _ c3 _ 1 3 0G K4 rfl La T 1 0q 3 0e|aF _ _ Z7 _ _ _ 3 3 0G Qn Jr ? 2 0r|aF _ _ ym cj 0m _ _ _ 4 3 0G Am _ :pl jN.cons #1 :k jT T 1 0d jN.nil 4 hr.mono 0d 1 ? ? 5 0r|aF _ _ ym aU 0m _ _ _ 4 3 0G Am _ :pl jN.cons #4 :k gm T 1 0d jN.nil 4 hr.mono 0d 1 ? ? 5 0r|aF _ _ c3 _ 1 3 0G abM 0e|aF _ _ ym bc 0m _ _ _ 4 3 0G vD _ :pl jN.cons #6 :k ik T 1 0d jN.nil 4 hr.mono 0d 1 ? 4 0r|aF _ _ mk3 _ _ _ 3 3 0G Xx GQ T 1 hr.mono 0d 1 ? 3 0r|aF _ _ aM gK _ 2 3 0G qQ NK rfl La T 1 0q ? 5 0r|aF _ _ c3 _ 1 3 0G K4 rfl Hm T 1 0q 3 0e|aF _ _ o3 Ae _ _ 3 3 0G sU RX ? ? 3 0r|aF _ _ aM Kr _ 2 3 0G lY Wv rfl acv T 1 0q ? 5 0r|aF _ _ o3 Aq _ _ 3 3 0G sU Nf ? ? 3 0r|aF _ _ Z7 _ _ _ 3 3 0G Qn BJ ? 2 0r|aF _ _ UL _ _ 2 3 0G R4 rfl Dh T 1 ? 3 0r|aF _ _ lz3 _ _ 2 3 0G Gj rfl Hm T 1 Ro T 1 ? ? 5 0r|aF _ _ c3 _ 1 3 0G K4 rfl acQ T 1 0q 3 0e|aF _ _ nv3 _ 1 3 0G ZL ? 1 0r|aF _ _ c3 _ 1 3 0G K4 rfl abi T 1 0q 3 0e|aF _ _ m3 yE _ _ 3 3 0G Rk BD F.type_list_insert Xu ? ? 5 0r|aF _ _ o3 dB true 1 _ _ 3 3 0G Ab uR hr.units 1 ? ? 3 0r|aF _ _ o3 Zm _ _ 3 3 0G Ab aap ? ? 3 0r|aF _ _ aM rN _ 2 3 0G lY QW rfl Su T 1 0q ? 5 0r|aF _ _ aM pU _ 2 3 0G N5 rfl hr.units rfl Su T 1 rfl YC T 1 0q 0q ? 9 0r|aF _ _ dcS _ 1 3 0G R6 0n ? ? ? ? ? ? ? ? 9 0r|aF _ _ aM Bm _ 2 3 0G Np rfl rfl Tq T 1 rfl YC T 1 0q 0q ? 8 0r|aF _ _ gs3 _ _ 2 3 0G T3 hr.units ? ? 3 0r|aF _ _ oN _ _ _ _ _ _ 6 3 0G RK Aw rfl ? 0l 0l 5 0r|aF _ _ UL _ _ 2 3 0G R4 rfl zO T 1 ? 3 0r|aF _ _ o3 K3 _ _ 3 3 0G Ab Vv ? ? 3 0r|aF _ _ ym cJ 0m _ _ _ 4 3 0G vD _ :pl jN.cons #5 :k jj T 1 0d jN.nil 4 hr.mono 0d 1 ? 4 0r|aF _ _ aM qT _ 2 3 0G qQ QD rfl hr.units 2 rfl abF T 1 0q ? 5 0r|aF _ _ ym bI 0m _ _ _ 4 3 0G Am _ :pl jN.cons #7 :k iy T 1 0d jN.nil 4 hr.mono 0d 1 ? ? 5 0r|aF _ _ Ub Fi _ _ _ 4 3 0G wy aaU ? ? ? 4 0r|aF _ _ aM bf _ 2 3 0G aD Bb T 1 hr.mono 0d 1 ? 3 0r|aF _ _ aM gf _ 2 3 0G aD Q8 T 1 hr.mono 0d 1 ? 3 0r|aF _ _ aM gR _ 2 3 0G aD TY T 1 hr.mono 0d 1 ? 3 0r|p3_one ? 1 0r|aF _ _ aM dY _ 2 3 0G aD Cg T 1 hr.mono 0d 1 ? 3 0r|aF _ _ aM bW _ 2 3 0G aD vq T 1 hr.mono 0d 1 ? 3 0r|aF _ _ aM fJ _ 2 3 0G aD Iu T 1 hr.mono 0d 1 ? 3 0r|aF _ _ aM cL _ 2 3 0G aD wV T 1 hr.mono 0d 1 ? 3 0r|aF _ _ aM dN _ 2 3 0G aD GJ T 1 hr.mono 0d 1 ? 3 0r|aF _ _ aM dq _ 2 3 0G aD zm T 1 hr.mono 0d 1 ? 3 0r|aF _ _ aM jw _ 2 3 0G aD RT T 1 hr.mono 0d 1 ? 3 0r|aF _ _ aM bZ _ 2 3 0G aD uU T 1 hr.mono 0d 1 ? 3 0r|aF _ _ aM d7 _ 2 3 0G aD DQ T 1 hr.mono 0d 1 ? 3 0r|aF _ _ aM fW _ 2 3 0G aD Cz T 1 hr.mono 0d 1 ? 3 0r|aF _ _ aM bQ _ 2 3 0G aD pH T 1 hr.mono 0d 1 ? 3 0r|aF _ _ aM dZ _ 2 3 0G aD Ce T 1 hr.mono 0d 1 ? 3 0r|aF _ _ aM fX _ 2 3 0G aD Dw T 1 hr.mono 0d 1 ? 3 0r|aF _ _ aM fB _ 2 3 0G aD Ai T 1 hr.mono 0d 1 ? 3 0r|aF _ _ aM jr _ 2 3 0G aD Lj T 1 hr.mono 0d 1 ? 3 0r|aF _ _ aM dX _ 2 3 0G aD Eh T 1 hr.mono 0d 1 ? 3 0r|aF _ _ aM bh _ 2 3 0G aD lU T 1 hr.mono 0d 1 ? 3 0r|aF _ _ aM b8 _ 2 3 0G aD qP T 1 hr.mono 0d 1 ? 3 0r|aF _ _ aM dH _ 2 3 0G aD xF T 1 hr.mono 0d 1 ? 3 0r|aF _ _ aM lL _ 2 3 0G aD Uh T 1 hr.mono 0d 1 ? 3 0r|aF _ _ aM fY _ 2 3 0G aD CV T 1 hr.mono 0d 1 ? 3 0r|aF _ _ aM dF _ 2 3 0G aD xm T 1 hr.mono 0d 1 ? 3 0r|aF _ _ aM ig _ 2 3 0G aD GF T 1 hr.mono 0d 1 ? 3 0r|aF _ _ aM eZ _ 2 3 0G aD zW T 1 hr.mono 0d 1 ? 3 0r|aF _ _ aM fQ _ 2 3 0G aD Fe T 1 hr.mono 0d 1 ? 3 0r|aF _ _ aM ju _ 2 3 0G aD O2 T 1 hr.mono 0d 1 ? 3 0r|aF _ _ aM bY _ 2 3 0G aD qN T 1 hr.mono 0d 1 ? 3 0r|aF _ _ aM fZ _ 2 3 0G aD Fo T 1 hr.mono 0d 1 ? 3 0r|aF _ _ aM iB _ 2 3 0G aD Gd T 1 hr.mono 0d 1 ? 3 0r|aF _ _ aM gj _ 2 3 0G aD Fb T 1 hr.mono 0d 1 ? 3 0r|aF _ _ aM iz _ 2 3 0G aD Hd T 1 hr.mono 0d 1 ? 3 0r|aF _ _ aM jA _ 2 3 0G aD M7 T 1 hr.mono 0d 1 ? 3 0r|aF _ _ aM fc _ 2 3 0G aD zc T 1 hr.mono 0d 1 ? 3 0r|aF _ _ aM fu _ 2 3 0G aD zY T 1 hr.mono 0d 1 ? 3 0r|aF _ _ aM cW _ 2 3 0G aD uF T 1 hr.mono 0d 1 ? 3 0r|aF _ _ aM cI _ 2 3 0G aD tH T 1 hr.mono 0d 1 ? 3 0r|aF _ _ aM gU _ 2 3 0G aD GP T 1 hr.mono 0d 1 ? 3 0r|aF _ _ aM eE _ 2 3 0G aD zb T 1 hr.mono 0d 1 ? 3 0r~oA|fL ? ? 2 0r|rM 0e~oB|pN _ _ 0L _ 3 0G Sh ? 1 0r|@oB0|JM ? ? 2 0r|Sh ? 1 0r|aak 0e~oS|qg _ _ st3 _ oN _ _ _ _ _ _ 6 2 3 0G wG _ S.nd YJ S !co 2 rfl ? 0l 0l 7 0r|qg _ _ st3 _ oN _ _ _ _ _ _ 6 2 3 0G wG _ S.nd Aw rfl ? 0l 0l 7 0r|@oS0|@oS1|@oS2|qg _ _ Uv _ _ _ 3 3 0G Xh hr.units ? ? ? 4 0r|qg _ _ ra3 3 0G Sv 0e|qg _ _ as3 _ _ 2 3 0G aac ? ? 2 0r|qg _ _ sf3 _ _ _ _ 4 3 0G QX BJ ? ? 3 0r|qg _ _ sf3 _ _ _ _ 4 3 0G QX Jr ? ? 3 0r|qg _ _ au3 _ _ _ 3 3 0G aan S.nd RP ? 3 0r|qg _ _ st3 _ _ 2 3 0G abm _ S.nd ? 3 0r|@oS3|@oS4~oT|yc _ _ dU o3 eG _ _ 3 1 3 0G mL abH hr.units 1 ? ? 3 0r|@oT0|We ? 1 0r|yc _ _ dU o3 jf _ _ 3 1 3 0G mL Q7 hr.units 1 ? ? 3 0r|yc _ _ dU o3 dB true 1 _ _ 3 1 3 0G mL uR hr.units 1 ? ? 3 0r|yc _ _ dU o3 vJ _ _ 3 1 3 0G mL aag hr.aaC 1 ? ? 3 0r|yc _ _ dU o3 dB false 1 _ _ 3 1 3 0G mL Vt hr.units 1 ? ? 3 0r|yc _ _ dU o3 aaa _ _ 3 1 3 0G mL abh ? ? 3 0r|Yi ? 1 0r~oI|tM _ _ _ wH _ 1 4 0G U7 ? 1 0r|tM _ _ _ Uz _ 1 4 0G Xy Jv T 1 ? 2 0r|tM _ _ _ Vq _ 1 4 0G aa3 ? 1 0r|tM _ _ _ Zo _ _ 2 4 0G WT Jv T 1 ? ? 3 0r|tM _ _ _ irv _ 1 4 0G ZG Im T 1 ? 2 0r|tM _ _ _ iz3 _ 1 4 0G Vr ? 1 0r|tM _ _ _ io3 _ _ 2 4 0G abX ? ? 2 0r|tM _ _ _ izp _ _ 2 4 0G aaG Ro T 1 ? ? 3 0r|tM _ _ _ izt _ _ 2 4 0G Ou Ro T 1 ? ? 3 0r~oW|abG ? ? 2 0r|VH ? 1 0r|W3 ? ? 2 0r|R8 ? 1 0r~oG|VJ _ S.nd 2 0e|Wo _ _ rfl S.nd 4 0e|QM _ _ _ rfl S.nd 5 0e~oF|Qs 0e|PB ? 1 0r~oO|QG ? 1 0r|Qo 0e~o1|aF _ _ _ 3 0G @oE|FJ _ _ _ 3 0G @oA|pN _ _ _ 3 0G @oB|qg _ _ _ 3 0G @oS|yc _ _ _ 3 0G @oT|tM _ _ _ _ 4 0G @oI|Ys _ _ _ 3 0G @oW|PG3 _ _ _ 3 0G @oG|yP _ _ _ 3 0G @oF|PO3 _ _ _ 3 0G @oO" else ""
 if tb=="" then Lean.Macro.throwUnsupported
 let w(x:String):=Lean.mkIdent x.toName
 let f(e:List (String×Lean.TSyntax `tactic))(z:List Lean.Term×List (Lean.TSyntax `tactic))(x:String):Lean.MacroM (List Lean.Term×List (Lean.TSyntax `tactic)):=do
  let (a,b):=z
  let y:=String.ofList (x.toList.drop 1)
  match x,a with
  |"_",_=>return((<-`(_))::a,b)
  |"?",_=>return((<-`(?_))::a,b)
  |"0d",_=>return((<-`((by decide)))::a,b)
  |"0q",_=>return((<-`((by rfl)))::a,b)
  |"0l",_=>return((<-`((fun kL cl s1 H1 fp=>?_)))::a,b)
  |"0s",_=>return((<-`((by simp[kinds])))::a,b)
  |"0n",_=>return((<-`((fun _ _ _ _=>rfl)))::a,b)
  |"0A",_=>return((<-`(D9 _<=1000/\_))::a,b)
  |"0L",t::a=>return((<-`([$t]))::a,b)
  |"0M",t::u::a=>return((<-`([$u,$t]))::a,b)
  |"0m",t::a=>return((<-`((_,$t)::_))::a,b)
  |"0G",t::a=>return(a,(<-`(tactic| with_reducible show $t))::b)
  |"0f",t::a=>return(a,(<-`(tactic| fail_if_success (with_reducible show $t)))::b)
  |"0u",t::a=>return(a,(<-`(tactic| with_reducible refine $t ?_))::b)
  |"0r",t::a=>return(a,(<-`(tactic| refine $t))::b)
  |"0e",t::a=>return(a,(<-`(tactic| exact $t))::b)
  |"0t",_=>return(a,(<-`(tactic| try dsimp only[om,oo]))::b)
  |_,_=>match x.front with
   |'@'=>return(a,(<-match e.lookup y with |some t=>pure t |none=>`(tactic| walk_at $(Lean.quote y)))::b)
   |'!'=>return((<-`((by walk_at $(Lean.quote y))))::a,b)
   |'#'=>return(Lean.quote y.toNat!::a,b)
   |':'=>return(⟨.node .none ``Lean.Parser.Term.namedArgument #[.atom .none "(",w y,.atom .none ":=",a.head!,.atom .none ")"]⟩::a.tail!,b)
   |c=>if c.isDigit then let n:=c.toNat-48;return((Lean.Syntax.mkApp (a.getD n ⟨.missing⟩) (a.take n).reverse.toArray)::a.drop (n+1),b) else return(w x::a,b)
 let e<-(tb.splitOn "~").foldlM (fun e l=>do
  let p:=l.splitOn "|"
  let ts<-(p.drop 1).mapM fun x=>do
   if x.front=='%' then
    let us:=(<-((x.splitOn " ").drop 1).mapM fun x=>`(tactic| refine $(w x) ?_)).toArray
    return<-`(tactic| with_reducible first $[| $us:tactic]*)
   let (_,b)<-(x.splitOn " ").foldlM (f e) ([],[])
   b.tail!.foldlM (fun u v=>`(tactic| ($v;$u))) b.head!
  let ts:=ts.toArray
  return(p.head!,<-`(tactic| first $[| $ts:tactic]*))::e) []
 let t:=e.head!.2
 if n=="l3" then
  let u:=e.tail!.head!.2
  return<-`(tactic| repeat (first | (refine' (?f:Lnk _ _) (λq=>?d) ?_;(case d=>($u:tactic;(repeat $u:tactic);exact q));(case f=>exact λ_ x=>x)) | $t:tactic))
 if n=="o" then return<-`(tactic| repeat' $t:tactic)
 return t
abbrev Lt:=Fin 4
def cp(l:Lt):Nat:=match l with
 |0=>101
 |1=>110
 |2=>119
 |3=>115
def step(l:Lt):Pt:=match l with
 |0=>(1,0)
 |1=>(0,1)
 |2=>(-1,0)
 |3=>(0,-1)
def jG(l:Lt):Str:=⟨#[cp l]⟩
def aR(ls:List Lt):Str:=⟨(ls.map cp).toArray⟩
def GD(ls:List Lt):lets (aR ls)=ls.map λl=>D.str (jG l):=by
 unfold lets aR jG;rw[EZ,dP];rfl
def eQ(ls:List Lt):(aR ls).length=ls.length:=by
 show (ls.map cp).toArray.size=_;rw[c6,ae]
def aaW:∀ {a b:Lt},cp a=cp b->a=b:=by decide
def TV{as bs:List Lt}(h:aR as=aR bs):as=bs:=by
 have e:as.map cp=bs.map cp:=by
  have:=congrArg (λz:Str=>z.cps.toList) h
  simpa [aR] using this
 exact (List.map_inj_right λa b J=>aaW J).mp e
def HX(s p:Pt):Pt:=(p.1+s.1,p.2+s.2)
def fG(c:Pt)(ls:List Lt):Pt:=ls.foldl (λp l=>HX (step l) p) c
def path(c:Pt)(ls:List Lt):List Pt:=(bo (ls.length+1)).map λi=>fG c (ls.take i)
def yL(c:Pt)(ls:List Lt)(l:Lt):fG c (ls++[l])=HX (step l) (fG c ls):=by unfold fG;rw[HM];rfl
def ql(c:Pt)(ls:List Lt):(path c ls).length=ls.length+1:=by unfold path;simp
def Mm(c:Pt)(ls:List Lt)(l:Lt):path c (ls++[l])=path c ls++[HX (step l) (fG c ls)]:=by
 unfold path
 rw[ck,kG,pf (n:=ls.length+1),de]
 congr 1
 ·refine d6 λi hi=>?_
  rw[b6] at hi
  rw[List.take_append_of_le_length (by omega)]
 ·rw[AQ,fh (by simp),yL]
def pC(c:Pt)(ls:List Lt)(i:Nat):(path c ls)[i]?=if i<=ls.length then some (fG c (ls.take i)) else none:=by
 unfold path
 rw[ay]
 split
 ·rw[ly (by omega)];rfl
 ·rw[gv (by rw[eI];omega)];rfl
def MF(c:Pt)(ls:List Lt):jU ((path c ls).map aO) (-1)=some (.tup [.int (fG c ls).1,.int (fG c ls).2]):=by
 unfold jU Ov
 rw[ae,ql,if_neg (by omega),if_pos (by omega),i9,ay,show (-1+((ls.length+1:Nat):Int)).toNat=ls.length from by omega,pC,if_pos (a8 _),xC]
 rfl
def lq(as bs:List Lt):aR as++aR bs=aR (as++bs):=by
 show (⟨(as.map cp).toArray++(bs.map cp).toArray⟩:Str)=⟨_⟩
 congr 1
 rw[de];simp
variable{H:aA}{Q:bL}
def ZC{y z:Str}(hl:y.length+z.length<=cf)(q:Q (.str (y++z)) H):aH (.str y) (.str z) H Q:=⟨hl,q⟩
def Tf(l:Lt):cp l<0x110000:=by revert l;decide
def WW(ls:List Lt):wo (aR ls)=true:=by
 show (ls.map cp).toArray.all (· < 0x110000)=true
 rw[Kb,N4,kQ]
 intro l _
 exact decide_eq_true (Tf l)
def YL(H:aA)(ls:List Lt):Hf H (.str (aR ls))=some (.str (aR ls)):=by
 show (if wo (aR ls)=true then some (Mo (aR ls)) else none)=_
 rw[if_pos (WW ls)]
def Yl(as bs:List Lt):fg (.str (aR as)) (.str (aR bs))=decide (as=bs):=by
 simp only[fg]
 by_cases h:as=bs
 ·subst h;simp
 ·rw[decide_eq_false h]
  exact beq_eq_false_iff_ne.mpr λz=>h (TV z)
def adh{as bs:List Lt}(q:Q (.bl (decide (as=bs))) H):jf (.str (aR as)) (.str (aR bs)) H Q:=by
 simp only[jf,YL,Yl];exact q
def Pn{as bs:List Lt}(q:Q (.bl (!decide (as=bs))) H):eG (.str (aR as)) (.str (aR bs)) H Q:=by
 simp only[eG,YL,Yl];exact q
def Wq(l:Lt):Lt:=match l with
 |0=>2
 |1=>3
 |2=>0
 |3=>1
def bk(ls:List Lt):List Lt:=(ls.map Wq).reverse
def Td(ls:List Lt):(bk ls).length=ls.length:=by unfold bk;rw[uj,ae]
def ab1(l:Lt)(p:Pt):HX (step (Wq l)) (HX (step l) p)=p:=by
 obtain⟨x,y⟩:=p
 match l with
 |0=>exact aI (by show x+1 + -1=x;omega) (by show y+0+0=y;omega)
 |1=>exact aI (by show x+0+0=x;omega) (by show y+1 + -1=y;omega)
 |2=>exact aI (by show x + -1+1=x;omega) (by show y+0+0=y;omega)
 |3=>exact aI (by show x+0+0=x;omega) (by show y + -1+1=y;omega)
variable{a:aT}
def Rw{ls:List Lt}(ha:H a=some (.lst (ls.map λl=>D.str (jG l))))(hl:ls.length<=1000)(q:Q (.str (aR ls)) H):lO (.str (fE "")) [.ref a] H Q:=by
 have J:sI (fE "") (ls.map jG)=aR ls:=by
  have:=Iv (z:=fE "") rfl (ls.map cp)
  rw[dP] at this
  exact this
 refine aa4 (ys:=ls.map jG) (by rw[ha,dP];rfl) ?_ (by rw[J];exact q)
 rw[dP,ae]
 have:(ls.map ((λy:Str=>y.cps.size)∘jG)).sum=ls.length:=by
  rw[show ((λy:Str=>y.cps.size)∘jG)=λ_=>1 from rfl,LL,C2];omega
 rw[this,show (fE "").cps.size=0 from rfl]
 omega
def uz(ls:List Lt)(h:ls.length<=1000):(aR ls).length<=cf:=by rw[eQ,aW];omega
variable{α:Type}
def MJ{β:Type}(xs:List α)(f:α->β)(lo hi:Option Int):iG (xs.map f) lo hi=(iG xs lo hi).map f:=by
 unfold iG
 rw[ae,←BE,←xI]
def rot(q:Nat)(l:Lt):Lt:=match q with
 |0=>l
 |1=>l+1
 |2=>l+2
 |_=>l+3
def Ej(c:Pt)(ls:List Lt):fG c ls=HX (fG (0,0) ls) c:=by
 induction ls generalizing c with
 |nil=>exact aI (by show c.1=c.1+0;omega) (by show c.2=c.2+0;omega)
 |cons l ls ih=>
  show fG (HX (step l) c) ls=HX (fG (HX (step l) (0,0)) ls) c
  rw[ih,ih (HX (step l) (0,0))]
  exact aI (by show c.1+(step l).1+_=c.1+(0+(step l).1+_);omega) (by show c.2+(step l).2+_=c.2+(0+(step l).2+_);omega)
def qM{ls:List Lt}(hl:ls.length<=1000)(q:Q (.int ls.length) H):bj [.str (aR ls)] H Q:=⟨uz ls hl,by rw[eQ];exact q⟩
def abS(c:Pt)(ls:List Lt):jU ((path c ls).map aO) 0=some (.tup [.int c.1,.int c.2]):=by
 unfold jU Ov
 rw[ae,ql,if_pos (by omega),if_pos (by omega),i9,ay,pC,if_pos (by omega)]
 rfl
def stp:Nat->Pt
 |0=>(1,0)
 |1=>(0,1)
 |2=>(-1,0)
 |_=>(0,-1)
def bM(p:Pt):Nat->Pt
 |0=>(p.1,p.2)
 |1=>(p.1-1,p.2)
 |2=>(p.1-1,p.2-1)
 |_=>(p.1,p.2-1)
def eV(p:Pt):Nat->Pt
 |0=>(p.1,p.2-1)
 |1=>(p.1,p.2)
 |2=>(p.1-1,p.2)
 |_=>(p.1-1,p.2-1)
def kW(p:Pt)(d:Nat):Pt:=(p.1+(stp d).1,p.2+(stp d).2)
structure je(S:List Pt)(p:Pt)(d:Nat):Prop where
 lt:d<4
 l:bM p d∈S
 r:eV p d∉S
inductive jh(R:Pt->Pt->Prop)(p:Pt):Pt->Prop where
 |refl:jh R p p
 |step {q r:Pt}:jh R p q->R q r->jh R p r
variable{R:Pt->Pt->Prop}{p:Pt}{q:Pt}
def jh.trans{r:Pt}(h:jh R p q)(g:jh R q r):jh R p r:=by
 induction g with
 |refl=>exact h
 |step _ s ih=>exact .step ih s
def jh.one(h:R p q):jh R p q:=.step .refl h
def RS(S:List Pt)(p q:Pt):Prop:=∃d,je S p d/\q=kW p d
def bH(S:List Pt)(p:Pt):Prop:=∃d,je S p d
def swap{R':Pt->Pt->Prop}{C C' I:Pt->Prop}{a b:Pt}(h1:jh R' a b)(h2:∀p q,R p q->(R' p q/\¬I p/\¬I q)\/((p=a\/I p)/\(q=b\/I q)))(ha:¬I a)(hb:¬I b)
  (h4:∀q,C' q->¬I q/\(C q\/(jh R' a q/\jh R' q b))) (ca:C a) (cb:C b) (hS:∀p q,C p->C q->jh R p q):∀p q,C' p->C' q->jh R' p q:=by
 have A:∀p q,¬I p->jh R p q->(¬I q/\jh R' p q)\/(I q/\jh R' p a):=by
  intro p q hp h
  induction h with
  |refl=>exact .inl ⟨hp,.refl⟩
  |@step q r _ s ih=>
   rcases h2 q r s with ⟨O,U,s3⟩ | ⟨O,U⟩
   ·rcases ih with ⟨_,i⟩ | ⟨i,_⟩
    ·exact .inl ⟨s3,.step i O⟩
    ·exact absurd i U
   ·have pa:jh R' p a:=by
     rcases ih with ⟨i1,i2⟩ | ⟨_,i⟩
     ·rcases O with rfl | O
      ·exact i2
      ·exact absurd O i1
     ·exact i
    rcases U with rfl | U
    ·exact .inl ⟨hb,pa.trans h1⟩
    ·exact .inr ⟨U,pa⟩
 have B:∀p q,C p->C q->¬I p->¬I q->jh R' p q:=λp q cp cq J nq=>by
  rcases A p q J (hS p q cp cq) with z | z
  ·exact z.2
  ·exact absurd z.1 nq
 intro p q cp cq
 obtain⟨J,Y⟩:=h4 p cp
 obtain⟨nq,Z⟩:=h4 q cq
 have D:∀p,C p->¬I p->jh R' p q:=λp cp J=>by
  rcases Z with Z | Z
  ·exact B p q cp Z J nq
  ·exact (B p a cp ca J ha).trans Z.1
 rcases Y with Y | Y
 ·exact D p Y J
 ·exact Y.2.trans (D b cb hb)
def aN:Nat->Nat
 |0=>1
 |1=>2
 |2=>3
 |_=>0
def nb(c:Pt)(j:Nat):Pt:=(c.1+(stp j).1,c.2+(stp j).2)
def bB(c:Pt):Nat->Pt
 |0=>(c.1+1,c.2)
 |1=>(c.1+1,c.2+1)
 |2=>(c.1,c.2+1)
 |_=>(c.1,c.2)
def sZ(c:Pt):Nat->Pt
 |0=>(c.1+1,c.2+1)
 |1=>(c.1-1,c.2+1)
 |2=>(c.1-1,c.2-1)
 |_=>(c.1+1,c.2-1)
def aaw:stp 0=(1,0):=rfl
def aay:stp 1=(0,1):=rfl
def abD:stp 2=(-1,0):=rfl
def Yj:stp 3=(0,-1):=rfl
def adB:aN 0=1:=rfl
def ad4:aN 1=2:=rfl
def acX:aN 2=3:=rfl
def ada:aN 3=0:=rfl
def V7(p:Pt):bM p 0=(p.1,p.2):=rfl
def Vw(p:Pt):bM p 1=(p.1-1,p.2):=rfl
def UT(p:Pt):bM p 2=(p.1-1,p.2-1):=rfl
def Vo(p:Pt):bM p 3=(p.1,p.2-1):=rfl
def W2(p:Pt):eV p 0=(p.1,p.2-1):=rfl
def ac8(p:Pt):eV p 1=(p.1,p.2):=rfl
def acn(p:Pt):eV p 2=(p.1-1,p.2):=rfl
def ac3(p:Pt):eV p 3=(p.1-1,p.2-1):=rfl
def aaM(p:Pt):bB p 0=(p.1+1,p.2):=rfl
def Z4(p:Pt):bB p 1=(p.1+1,p.2+1):=rfl
def aaI(p:Pt):bB p 2=(p.1,p.2+1):=rfl
def aaO(p:Pt):bB p 3=(p.1,p.2):=rfl
def adN(p:Pt):sZ p 0=(p.1+1,p.2+1):=rfl
def acg(p:Pt):sZ p 1=(p.1-1,p.2+1):=rfl
def adk(p:Pt):sZ p 2=(p.1-1,p.2-1):=rfl
def adI(p:Pt):sZ p 3=(p.1+1,p.2-1):=rfl
local macro_rules | `(tactic| walk_at "pp")=>`(tactic| (refine aI ?_ ?_ <;> (simp only[aaw,aay,abD,Yj,adB,ad4,acX,ada,V7,Vw,UT,Vo,W2,ac8,acn,ac3,aaM,Z4,aaI,aaO,adN,acg,adk,adI,nb,kW];try omega)))
variable{j:Nat}
def c4(h:j<4):j=0\/j=1\/j=2\/j=3:=(by decide:∀j:Fin 4,j.val=0\/j.val=1\/j.val=2\/j.val=3) ⟨j,h⟩
section
variable{S T:List Pt}{c p:Pt}{d j:Nat}
def cR:aN j<4:=by unfold aN;split <;> omega
def ady(hd:d<4)(h:eV p d=c):∃j,j<4/\p=bB c (aN j)/\kW p d=bB c j/\bM p d=nb c j:=by
 subst h
 rcases c4 hd with rfl | rfl | rfl | rfl
 ·exact⟨1,by omega,by walk_at "pp",by walk_at "pp",by walk_at "pp"⟩
 ·exact⟨2,by omega,by walk_at "pp",by walk_at "pp",by walk_at "pp"⟩
 ·exact⟨3,by omega,by walk_at "pp",by walk_at "pp",by walk_at "pp"⟩
 ·exact⟨0,by omega,by walk_at "pp",by walk_at "pp",by walk_at "pp"⟩
def adZ(hd:d<4)(h:bM p d=c):∃j,j<4/\p=bB c j/\kW p d=bB c (aN j)/\eV p d=nb c j:=by
 subst h
 rcases c4 hd with rfl | rfl | rfl | rfl
 ·exact⟨3,by omega,by walk_at "pp",by walk_at "pp",by walk_at "pp"⟩
 ·exact⟨0,by omega,by walk_at "pp",by walk_at "pp",by walk_at "pp"⟩
 ·exact⟨1,by omega,by walk_at "pp",by walk_at "pp",by walk_at "pp"⟩
 ·exact⟨2,by omega,by walk_at "pp",by walk_at "pp",by walk_at "pp"⟩
def W5(hj:j<4):∃d,d<4/\bM (bB c j) d=c/\eV (bB c j) d=nb c j/\kW (bB c j) d=bB c (aN j):=by
 rcases c4 hj with rfl | rfl | rfl | rfl
 ·exact⟨1,by omega,by walk_at "pp",by walk_at "pp",by walk_at "pp"⟩
 ·exact⟨2,by omega,by walk_at "pp",by walk_at "pp",by walk_at "pp"⟩
 ·exact⟨3,by omega,by walk_at "pp",by walk_at "pp",by walk_at "pp"⟩
 ·exact⟨0,by omega,by walk_at "pp",by walk_at "pp",by walk_at "pp"⟩
def Rj(hj:j<4):∃d,d<4/\bM (bB c (aN j)) d=nb c j/\eV (bB c (aN j)) d=c/\kW (bB c (aN j)) d=bB c j:=by
 rcases c4 hj with rfl | rfl | rfl | rfl
 ·exact⟨3,by omega,by walk_at "pp",by walk_at "pp",by walk_at "pp"⟩
 ·exact⟨0,by omega,by walk_at "pp",by walk_at "pp",by walk_at "pp"⟩
 ·exact⟨1,by omega,by walk_at "pp",by walk_at "pp",by walk_at "pp"⟩
 ·exact⟨2,by omega,by walk_at "pp",by walk_at "pp",by walk_at "pp"⟩
def Meet(p q:Pt):Prop:=q=(p.1,p.2)\/q=(p.1-1,p.2)\/q=(p.1-1,p.2-1)\/q=(p.1,p.2-1)
def Fg(hd:d<4):Meet p (eV p d):=by
 rcases c4 hd with rfl | rfl | rfl | rfl
 ·exact .inr (.inr (.inr rfl))
 ·exact .inl rfl
 ·exact .inr (.inl rfl)
 ·exact .inr (.inr (.inl rfl))
def JF(hd:d<4):Meet (kW p d) (eV p d):=by
 rcases c4 hd with rfl | rfl | rfl | rfl
 ·exact .inr (.inr (.inl (by walk_at "pp")))
 ·exact .inr (.inr (.inr (by walk_at "pp")))
 ·exact .inl (by walk_at "pp")
 ·exact .inr (.inl (by walk_at "pp"))
def SJ(hj:j<4)(h:Meet (bB c (aN j)) q):q=c\/q=nb c j\/q=nb c (aN j)\/q=sZ c j:=by
 rcases c4 hj with rfl | rfl | rfl | rfl
 ·rcases h with rfl | rfl | rfl | rfl
  ·exact .inr (.inr (.inr (by walk_at "pp")))
  ·exact .inr (.inr (.inl (by walk_at "pp")))
  ·exact .inl (by walk_at "pp")
  ·exact .inr (.inl (by walk_at "pp"))
 ·rcases h with rfl | rfl | rfl | rfl
  ·exact .inr (.inl (by walk_at "pp"))
  ·exact .inr (.inr (.inr (by walk_at "pp")))
  ·exact .inr (.inr (.inl (by walk_at "pp")))
  ·exact .inl (by walk_at "pp")
 ·rcases h with rfl | rfl | rfl | rfl
  ·exact .inl (by walk_at "pp")
  ·exact .inr (.inl (by walk_at "pp"))
  ·exact .inr (.inr (.inr (by walk_at "pp")))
  ·exact .inr (.inr (.inl (by walk_at "pp")))
 ·rcases h with rfl | rfl | rfl | rfl
  ·exact .inr (.inr (.inl (by walk_at "pp")))
  ·exact .inl (by walk_at "pp")
  ·exact .inr (.inl (by walk_at "pp"))
  ·exact .inr (.inr (.inr (by walk_at "pp")))
def Kz{i:Nat}(hi:i<4)(hj:j<4)(h:bB c i=bB c j):i=j:=by
 have h1:=congrArg hV h
 have h2:=congrArg gE h
 rcases c4 hi with rfl | rfl | rfl | rfl <;> rcases c4 hj with rfl | rfl | rfl | rfl <;> simp only[aaM,Z4,aaI,aaO] at h1 h2 <;> omega
end
section
variable{S T:List Pt}{c p:Pt}{d j:Nat}
def jk{u v:Pt}(hu:Meet p u)(hv:Meet p v)(iu:u∈S)(iv:v∉S):bH S p:=by
 refine cn λh=>?_
 have e0:(p.1,p.2)∈S->(p.1,p.2-1)∈S:=λz=>cn λy=>h ⟨0,by omega,z,y⟩
 have J:(p.1-1,p.2)∈S->(p.1,p.2)∈S:=λz=>cn λy=>h ⟨1,by omega,z,y⟩
 have O:(p.1-1,p.2-1)∈S->(p.1-1,p.2)∈S:=λz=>cn λy=>h ⟨2,by omega,z,y⟩
 have U:(p.1,p.2-1)∈S->(p.1-1,p.2-1)∈S:=λz=>cn λy=>h ⟨3,by omega,z,y⟩
 have all:(p.1,p.2)∈S:=by
  rcases hu with rfl | rfl | rfl | rfl
  ·exact iu
  ·exact J iu
  ·exact J (O iu)
  ·exact J (O (U iu))
 rcases hv with rfl | rfl | rfl | rfl
 ·exact iv all
 ·exact iv (O (U (e0 all)))
 ·exact iv (U (e0 all))
 ·exact iv (e0 all)
def Dg(S:List Pt):Prop:=∀p:Pt,¬((p.1,p.2)∈S/\(p.1-1,p.2-1)∈S/\(p.1-1,p.2)∉S/\(p.1,p.2-1)∉S)/\¬((p.1-1,p.2)∈S/\(p.1,p.2-1)∈S/\(p.1,p.2)∉S/\(p.1-1,p.2-1)∉S)
def f9(h:Dg S){e:Nat}(a:je S p d)(b:je S p e):d=e:=by
 obtain⟨h1,h2⟩:=h p
 obtain⟨J,a1,a2⟩:=a
 obtain⟨b0,b1,b2⟩:=b
 rcases c4 J with rfl | rfl | rfl | rfl <;> rcases c4 b0 with rfl | rfl | rfl | rfl
 ·rfl
 ·exact absurd a1 b2
 ·exact absurd ⟨a1,b1,b2,a2⟩ h1
 ·exact absurd b1 a2
 ·exact absurd b1 a2
 ·rfl
 ·exact absurd a1 b2
 ·exact absurd ⟨a1,b1,a2,b2⟩ h2
 ·exact absurd ⟨b1,a1,a2,b2⟩ h1
 ·exact absurd b1 a2
 ·rfl
 ·exact absurd a1 b2
 ·exact absurd a1 b2
 ·exact absurd ⟨b1,a1,b2,a2⟩ h2
 ·exact absurd b1 a2
 ·rfl
def Bg(e:je S p d):bH S (kW p d):=by
 refine jk (u:=bM p d) (v:=eV p d) ?_ (JF e.lt) e.l e.r
 rcases c4 e.lt with rfl | rfl | rfl | rfl
 ·exact .inr (.inl (by walk_at "pp"))
 ·exact .inr (.inr (.inl (by walk_at "pp")))
 ·exact .inr (.inr (.inr (by walk_at "pp")))
 ·exact .inl (by walk_at "pp")
def Hl(hj:j<4):Meet (bB c j) c:=by
 rcases c4 hj with rfl | rfl | rfl | rfl
 ·exact .inr (.inl (by walk_at "pp"))
 ·exact .inr (.inr (.inl (by walk_at "pp")))
 ·exact .inr (.inr (.inr (by walk_at "pp")))
 ·exact .inl (by walk_at "pp")
def Ku(hj:j<4):Meet (bB c (aN j)) (nb c j):=by
 rcases c4 hj with rfl | rfl | rfl | rfl
 ·exact .inr (.inr (.inr (by walk_at "pp")))
 ·exact .inl (by walk_at "pp")
 ·exact .inr (.inl (by walk_at "pp"))
 ·exact .inr (.inr (.inl (by walk_at "pp")))
def Ti(hj:j<4):Meet (bB c (aN j)) (nb c (aN j)):=by
 rcases c4 hj with rfl | rfl | rfl | rfl
 ·exact .inr (.inl (by walk_at "pp"))
 ·exact .inr (.inr (.inl (by walk_at "pp")))
 ·exact .inr (.inr (.inr (by walk_at "pp")))
 ·exact .inl (by walk_at "pp")
def qC(h:Dg S)(hj:j<4)(h1:nb c j∈S)(h2:nb c (aN j)∈S)(hc:c∉S):sZ c j∈S:=by
 refine cn λz=>?_
 obtain⟨J,O⟩:=h (bB c (aN j))
 rcases c4 hj with rfl | rfl | rfl | rfl
 ·refine O ⟨?_,?_,?_,?_⟩
  ·rw[show ((bB c (aN 0)).1-1,(bB c (aN 0)).2)=nb c (aN 0) from by walk_at "pp"];exact h2
  ·rw[show ((bB c (aN 0)).1,(bB c (aN 0)).2-1)=nb c 0 from by walk_at "pp"];exact h1
  ·rw[show ((bB c (aN 0)).1,(bB c (aN 0)).2)=sZ c 0 from by walk_at "pp"];exact z
  ·rw[show ((bB c (aN 0)).1-1,(bB c (aN 0)).2-1)=c from by walk_at "pp"];exact hc
 ·refine J ⟨?_,?_,?_,?_⟩
  ·rw[show ((bB c (aN 1)).1,(bB c (aN 1)).2)=nb c 1 from by walk_at "pp"];exact h1
  ·rw[show ((bB c (aN 1)).1-1,(bB c (aN 1)).2-1)=nb c (aN 1) from by walk_at "pp"];exact h2
  ·rw[show ((bB c (aN 1)).1-1,(bB c (aN 1)).2)=sZ c 1 from by walk_at "pp"];exact z
  ·rw[show ((bB c (aN 1)).1,(bB c (aN 1)).2-1)=c from by walk_at "pp"];exact hc
 ·refine O ⟨?_,?_,?_,?_⟩
  ·rw[show ((bB c (aN 2)).1-1,(bB c (aN 2)).2)=nb c 2 from by walk_at "pp"];exact h1
  ·rw[show ((bB c (aN 2)).1,(bB c (aN 2)).2-1)=nb c (aN 2) from by walk_at "pp"];exact h2
  ·rw[show ((bB c (aN 2)).1,(bB c (aN 2)).2)=c from by walk_at "pp"];exact hc
  ·rw[show ((bB c (aN 2)).1-1,(bB c (aN 2)).2-1)=sZ c 2 from by walk_at "pp"];exact z
 ·refine J ⟨?_,?_,?_,?_⟩
  ·rw[show ((bB c (aN 3)).1,(bB c (aN 3)).2)=nb c (aN 3) from by walk_at "pp"];exact h2
  ·rw[show ((bB c (aN 3)).1-1,(bB c (aN 3)).2-1)=nb c 3 from by walk_at "pp"];exact h1
  ·rw[show ((bB c (aN 3)).1-1,(bB c (aN 3)).2)=c from by walk_at "pp"];exact hc
  ·rw[show ((bB c (aN 3)).1,(bB c (aN 3)).2-1)=sZ c 3 from by walk_at "pp"];exact z
def Jp{i:Nat}(hi:i<4)(hj:j<4)(h:aN i=aN j):i=j:=by
 rcases c4 hi with rfl | rfl | rfl | rfl <;> rcases c4 hj with rfl | rfl | rfl | rfl <;> first | rfl | cases h
def Yn(hj:j<4):aN (aN (aN (aN j)))=j:=by
 rcases c4 hj with rfl | rfl | rfl | rfl <;> rfl
end
variable{i:Nat}{v:Pt}
structure One(S:List Pt):Prop where
 dg:Dg S
 all:∀p q,bH S p->bH S q->jh (RS S) p q
section
variable{S T:List Pt}{c:Pt}{ja jb:Nat}
def Px(h:One S)(hT:∀x,x∈T↔x∈S\/x=c)(hc:c∉S)(hja:ja<4)(hjb:jb<4)(a1:nb c ja∈S)(a2:nb c (aN ja)∉S)(b1:nb c jb∉S)(b2:nb c (aN jb)∈S)
  (ua:∀j,j<4->nb c j∈S->nb c (aN j)∉S->j=ja) (ub:∀j,j<4->nb c j∉S->nb c (aN j)∈S->j=jb):∀p q,bH T p->bH T q->jh (RS T) p q:=by
 have O:∀j,j<4->∃i,i<4/\aN i=j:=λj J=>⟨aN (aN (aN j)),cR,Yn J⟩
 have cT:c∈T:=(hT c).mpr (.inr rfl)
 have U:∀j,j<4->nb c j∈S->nb c (aN j)∈S->∀q,Meet (bB c (aN j)) q->q∈T:=by
  intro j J h1 h2 q hq
  rcases SJ J hq with rfl | rfl | rfl | rfl
  ·exact cT
  ·exact (hT _).mpr (.inl h1)
  ·exact (hT _).mpr (.inl h2)
  ·exact (hT _).mpr (.inl (qC h.dg J h1 h2 hc))
 have al:∀j,j<4->nb c j≠c:=by
  intro j J e
  have e1:=congrArg hV e
  have e2:=congrArg gE e
  rcases c4 J with rfl | rfl | rfl | rfl <;> simp only[nb,aaw,aay,abD,Yj] at e1 e2 <;> omega
 have Y:∀j,j<4->nb c j∉S->RS T (bB c j) (bB c (aN j)):=by
  intro j J h1
  obtain⟨d,hd,e1,e2,e3⟩:=W5 (c:=c) J
  refine⟨d,⟨hd,by rw[e1];exact cT,?_⟩,e3.symm⟩
  rw[e2]
  intro z
  rcases (hT _).mp z with z | z
  ·exact h1 z
  ·exact al j J z
 have ac:∀j,j<4->nb c j∉S->jh (RS T) (bB c j) (bB c (aN jb)):=by
  intro j J h1
  have r1:=Y j J h1
  by_cases g1:nb c (aN j)∈S
  ·have:=ub j J h1 g1;subst this;exact .one r1
  have r2:=Y _ cR g1
  by_cases g2:nb c (aN (aN j))∈S
  ·have:=ub _ cR g1 g2;subst this;exact .step (.one r1) r2
  have r3:=Y _ cR g2
  by_cases g3:nb c (aN (aN (aN j)))∈S
  ·have:=ub _ cR g2 g3;subst this;exact .step (.step (.one r1) r2) r3
  exfalso
  have:ja=j\/ja=aN j\/ja=aN (aN j)\/ja=aN (aN (aN j)):=by
   rcases c4 J with rfl | rfl | rfl | rfl <;> rcases c4 hja with rfl | rfl | rfl | rfl <;> decide
  rcases this with z | z | z | z <;> rw[z] at a1
  ·exact h1 a1
  ·exact g1 a1
  ·exact g2 a1
  ·exact g3 a1
 have am:∀j,j<4->nb c j∉S->jh (RS T) (bB c (aN ja)) (bB c j):=by
  intro j J h1
  obtain⟨i1,l1,rfl⟩:=O j J
  by_cases g1:nb c i1∈S
  ·have:=ua i1 l1 g1 h1;subst this;exact .refl
  have r1:=Y i1 l1 g1
  obtain⟨i2,l2,rfl⟩:=O i1 l1
  by_cases g2:nb c i2∈S
  ·have:=ua i2 l2 g2 g1;subst this;exact .one r1
  have r2:=Y i2 l2 g2
  obtain⟨i3,l3,rfl⟩:=O i2 l2
  by_cases g3:nb c i3∈S
  ·have:=ua i3 l3 g3 g2;subst this;exact .step (.one r2) r1
  exfalso
  have:ja=i3\/ja=aN i3\/ja=aN (aN i3)\/ja=aN (aN (aN i3)):=by
   rcases c4 l3 with rfl | rfl | rfl | rfl <;> rcases c4 hja with rfl | rfl | rfl | rfl <;> decide
  rcases this with z | z | z | z <;> rw[z] at a1
  ·exact g3 a1
  ·exact g2 a1
  ·exact g1 a1
  ·exact h1 a1
 refine swap (R:=RS S) (C:=bH S) (I:=λq=>∃j,j<4/\q=bB c (aN j)/\nb c j∈S/\nb c (aN j)∈S) (a:=bB c (aN ja)) (b:=bB c (aN jb)) (ac _ cR a2) ?_ ?_ ?_ ?_ ?_ ?_ h.all
 ·rintro p q ⟨d,e,rfl⟩
  by_cases hr:eV p d=c
  ·refine .inr ?_
   obtain⟨j,J,h1,h2,h3⟩:=ady e.lt hr
   have Z:nb c j∈S:=by rw[←h3];exact e.l
   constructor
   ·by_cases g:nb c (aN j)∈S
    ·exact .inr ⟨j,J,h1,Z,g⟩
    ·have:=ua j J Z g;subst this;exact .inl h1
   ·obtain⟨i,hi,rfl⟩:=O j J
    by_cases g:nb c i∈S
    ·exact .inr ⟨i,hi,h2,g,Z⟩
    ·have:=ub i hi g Z;subst this;exact .inl h2
  ·have nT:eV p d∉T:=λz=>by
    rcases (hT _).mp z with z | z
    ·exact e.r z
    ·exact hr z
   refine .inl ⟨⟨d,⟨e.lt,(hT _).mpr (.inl e.l),nT⟩,rfl⟩,?_,?_⟩
   ·rintro⟨j,J,rfl,h1,h2⟩
    exact nT (U j J h1 h2 _ (Fg e.lt))
   ·rintro⟨j,J,e1,h1,h2⟩
    exact nT (U j J h1 h2 _ (by rw[←e1];exact JF e.lt))
 ·rintro⟨j,J,e,h1,h2⟩
  have:=Jp hja J (Kz cR cR e);subst this
  exact a2 h2
 ·rintro⟨j,J,e,h1,h2⟩
  have:=Jp hjb J (Kz cR cR e);subst this
  exact b1 h1
 ·rintro q ⟨d,e⟩
  refine⟨?_,?_⟩
  ·rintro⟨j,J,rfl,h1,h2⟩
   exact e.r (U j J h1 h2 _ (Fg e.lt))
  ·rcases (hT _).mp e.l with z | z
   ·exact .inl ⟨d,e.lt,z,λy=>e.r ((hT _).mpr (.inl y))⟩
   ·obtain⟨j,J,rfl,h2,h3⟩:=adZ e.lt z
    have g:nb c j∉S:=λy=>e.r (by rw[h3];exact (hT _).mpr (.inl y))
    exact .inr ⟨am j J g,ac j J g⟩
 ·exact jk (Ku hja) (Hl cR) a1 hc
 ·exact jk (Ti hjb) (Hl cR) b2 hc
end
section
variable{S T:List Pt}{p q:Pt}{d:Nat}
def je.congr(h:∀x,x∈S↔x∈T)(e:je S p d):je T p d:=⟨e.lt,(h _).mp e.l,λz=>e.r ((h _).mpr z)⟩
def jh.mono{R':Pt->Pt->Prop}(h:∀p q,R p q->R' p q)(r:jh R p q):jh R' p q:=by
 induction r with
 |refl=>exact .refl
 |step _ s ih=>exact .step ih (h _ _ s)
def One.congr(h:∀x,x∈S↔x∈T)(o:One S):One T:=by
 refine⟨λp=>?_,λp q ⟨d,e⟩ ⟨d',U⟩=>?_⟩
 ·obtain⟨J,O⟩:=o.dg p
  rw[h,h,h,h] at J O
  exact⟨J,O⟩
 ·exact (o.all p q ⟨d,e.congr λx=>(h x).symm⟩ ⟨d',U.congr λx=>(h x).symm⟩).mono λa b ⟨d,e,z⟩=>⟨d,e.congr h,z⟩
def Xl:One [((0,0):Pt)]:=by
 have e0:je [((0,0):Pt)] (0,0) 0:=⟨by omega,by simp[V7],by simp[W2]⟩
 have e1:je [((0,0):Pt)] (1,0) 1:=⟨by omega,by simp[Vw],by simp[ac8]⟩
 have e2:je [((0,0):Pt)] (1,1) 2:=⟨by omega,by simp[UT],by simp[acn]⟩
 have e3:je [((0,0):Pt)] (0,1) 3:=⟨by omega,by simp[Vo],by simp[ac3]⟩
 have s0:RS [((0,0):Pt)] (0,0) (1,0):=⟨0,e0,rfl⟩
 have U:RS [((0,0):Pt)] (1,0) (1,1):=⟨1,e1,rfl⟩
 have Y:RS [((0,0):Pt)] (1,1) (0,1):=⟨2,e2,rfl⟩
 have Z:RS [((0,0):Pt)] (0,1) (0,0):=⟨3,e3,rfl⟩
 have J:∀p,bH [((0,0):Pt)] p->jh (RS [((0,0):Pt)]) p (0,0)/\jh (RS [((0,0):Pt)]) (0,0) p:=by
  rintro p ⟨d,e⟩
  have O:=bX.mp e.l
  obtain⟨p1,p2⟩:=p
  rcases c4 e.lt with rfl | rfl | rfl | rfl
  ·simp only[V7,si] at O
   obtain⟨rfl,rfl⟩:=O
   exact⟨.refl,.refl⟩
  ·simp only[Vw,si] at O
   have:p1=1:=by omega
   subst this
   obtain⟨_,rfl⟩:=O
   exact⟨.step (.step (.one U) Y) Z,.one s0⟩
  ·simp only[UT,si] at O
   have a1:p1=1:=by omega
   have a2:p2=1:=by omega
   subst a1 a2
   exact⟨.step (.one Y) Z,.step (.one s0) U⟩
  ·simp only[Vo,si] at O
   have a2:p2=1:=by omega
   subst a2
   obtain⟨rfl,_⟩:=O
   exact⟨.one Z,.step (.step (.one s0) U) Y⟩
 refine⟨λp=>?_,λp q hp hq=>(J p hp).1.trans (J q hq).2⟩
 simp only[bX,si]
 constructor
 ·rintro⟨h1,h2,_⟩;omega
 ·rintro⟨h1,h2,_⟩;omega
def R9(s:Pt)(hd:d<4):bM (p.1+s.1,p.2+s.2) d=((bM p d).1+s.1,(bM p d).2+s.2):=by
 rcases c4 hd with rfl | rfl | rfl | rfl <;> walk_at "pp"
def RW(s:Pt)(hd:d<4):eV (p.1+s.1,p.2+s.2) d=((eV p d).1+s.1,(eV p d).2+s.2):=by
 rcases c4 hd with rfl | rfl | rfl | rfl <;> walk_at "pp"
def ac2(s:Pt):kW (p.1+s.1,p.2+s.2) d=((kW p d).1+s.1,(kW p d).2+s.2):=by
 refine aI ?_ ?_ <;> simp only[kW] <;> omega
def mF{s:Pt}{x:Pt}:(x.1+s.1,x.2+s.2)∈S.map (λq=>(q.1+s.1,q.2+s.2))↔x∈S:=by
 rw[b9]
 constructor
 ·rintro⟨y,J,e⟩
  have O:=congrArg hV e
  have U:=congrArg gE e
  have:y=x:=aI (by dsimp only at O;omega) (by dsimp only at U;omega)
  rw[←this];exact J
 ·exact λh=>⟨x,h,rfl⟩
def Ay(s:Pt):je (S.map (λq=>(q.1+s.1,q.2+s.2))) (p.1+s.1,p.2+s.2) d↔je S p d:=by
 constructor
 ·rintro⟨h1,h2,J⟩
  rw[R9 s h1,mF] at h2
  rw[RW s h1,mF] at J
  exact⟨h1,h2,J⟩
 ·rintro⟨h1,h2,J⟩
  refine⟨h1,?_,?_⟩
  ·rw[R9 s h1,mF];exact h2
  ·rw[RW s h1,mF];exact J
def One.mv(s:Pt)(o:One S):One (S.map (λq=>(q.1+s.1,q.2+s.2))):=by
 have bk:∀p:Pt,p=((p.1-s.1)+s.1,(p.2-s.2)+s.2):=λp=>aI (by dsimp only;omega) (by dsimp only;omega)
 refine⟨λp=>?_,λp q ⟨d,e⟩ ⟨d',O⟩=>?_⟩
 ·obtain⟨U,Y⟩:=o.dg (p.1-s.1,p.2-s.2)
  have m:∀a b:Int,(a,b)∈S.map (λq=>(q.1+s.1,q.2+s.2))↔(a-s.1,b-s.2)∈S:=λa b=>by rw[←mF (S:=S) (s:=s) (x:=(a-s.1,b-s.2)),show ((a-s.1,b-s.2).1+s.1,(a-s.1,b-s.2).2+s.2)=(a,b) from aI (by dsimp only;omega) (by dsimp only;omega)]
  rw[m,m,m,m]
  dsimp only at U Y
  rw[show p.1-1-s.1=p.1-s.1-1 from by omega,show p.2-1-s.2=p.2-s.2-1 from by omega]
  exact⟨U,Y⟩
 ·rw[bk p] at e ⊢
  rw[bk q] at O ⊢
  have r:=o.all _ _ ⟨d,(Ay s (p:=(p.1-s.1,p.2-s.2))).mp e⟩ ⟨d',(Ay s (p:=(q.1-s.1,q.2-s.2))).mp O⟩
  have J:∀a b,jh (RS S) a b->jh (RS (S.map (λq=>(q.1+s.1,q.2+s.2)))) (a.1+s.1,a.2+s.2) (b.1+s.1,b.2+s.2):=by
   intro a b h
   induction h with
   |refl=>exact .refl
   |step _ t ih=>
    obtain⟨d,e,rfl⟩:=t
    exact .step ih ⟨d,(Ay s).mpr e,(ac2 s).symm⟩
  exact J _ _ r
def outD(S:List Pt)(p:Pt):Nat:=if bM p 0∈S/\eV p 0∉S then 0 else if bM p 1∈S/\eV p 1∉S then 1 else if bM p 2∈S/\eV p 2∉S then 2 else 3
def aQ(h:bH S p):je S p (outD S p):=by
 obtain⟨d,e⟩:=h
 unfold outD
 by_cases h0:bM p 0∈S/\eV p 0∉S
 ·rw[if_pos h0];exact⟨by omega,h0.1,h0.2⟩
 rw[if_neg h0]
 by_cases h1:bM p 1∈S/\eV p 1∉S
 ·rw[if_pos h1];exact⟨by omega,h1.1,h1.2⟩
 rw[if_neg h1]
 by_cases h2:bM p 2∈S/\eV p 2∉S
 ·rw[if_pos h2];exact⟨by omega,h2.1,h2.2⟩
 rw[if_neg h2]
 rcases c4 e.lt with rfl | rfl | rfl | rfl
 ·exact absurd ⟨e.l,e.r⟩ h0
 ·exact absurd ⟨e.l,e.r⟩ h1
 ·exact absurd ⟨e.l,e.r⟩ h2
 ·exact e
def az(S:List Pt)(p:Pt):Nat->Pt
 |0=>p
 |n+1=>kW (az S p n) (outD S (az S p n))
theorem aP(h:bH S p):∀n,bH S (az S p n)
 |0=>h
 |n+1=>Bg (aQ (aP h n))
def K5(g:Dg S)(h:jh (RS S) p q):∃n,q=az S p n:=by
 induction h with
 |refl=>exact⟨0,rfl⟩
 |step _ t ih=>
  obtain⟨n,rfl⟩:=ih
  obtain⟨d,e,rfl⟩:=t
  refine⟨n+1,?_⟩
  show kW _ d=kW _ _
  rw[f9 g e (aQ ⟨d,e⟩)]
theorem bD(m:Nat):∀n,az S p (m+n)=az S (az S p m) n
 |0=>rfl
 |n+1=>by
  show kW (az S p (m+n)) (outD S (az S p (m+n)))=_
  rw[bD m n];rfl
def least{P:Nat->Prop}(h:∃n,P n):∃n,P n/\∀m,m<n->¬P m:=by
 obtain⟨n,Y⟩:=h
 have:∀k n,n<=k->P n->∃n,P n/\∀m,m<n->¬P m:=by
  intro k
  induction k with
  |zero=>intro n Z O;exact⟨n,O,λm U=>by omega⟩
  |succ k ih=>
   intro n Z O
   by_cases z:∃m,m<n/\P m
   ·obtain⟨m,U,J⟩:=z
    exact ih m (by omega) J
   ·exact⟨n,O,λm U J=>z ⟨m,U,J⟩⟩
 exact this n n (a8 _) Y
structure cQ(S:List Pt)(p:Pt)(t:Nat):Prop where
 pos:0<t
 back:az S p t=p
 not:∀m,0<m->m<t->az S p m≠p
 all:∀q,bH S q->∃m,m<t/\q=az S p m
 inj:∀i j,i<j->j<t->az S p i≠az S p j
def One.rnd(o:One S)(hp:bH S p):∃t,cQ S p t:=by
 have back:∃n,az S p (n+1)=p:=by
  obtain⟨n,O⟩:=K5 o.dg (o.all (az S p 1) p (aP hp 1) hp)
  exact⟨n,by rw[zk,bD];exact O.symm⟩
 obtain⟨n,O,U⟩:=least back
 have J:∀m,0<m->m<n+1->az S p m≠p:=λm Y h1 e=>U (m-1) (by omega) (by rw[Nat.sub_add_cancel Y];exact e)
 have per:∀k m,az S p (k*(n+1)+m)=az S p m:=by
  intro k
  induction k with
  |zero=>intro m;rw[N9,iP]
  |succ k ih=>
   intro m
   rw[show (k+1)*(n+1)+m=(n+1)+(k*(n+1)+m) from by rw[OX];omega,bD,O]
   exact ih m
 refine⟨n+1,by omega,O,J,λq Z=>?_,λi j ac hj e=>?_⟩
 ·obtain⟨m,rfl⟩:=K5 o.dg (o.all p q hp Z)
  refine⟨m%(n+1),rX _ (by omega),?_⟩
  have:=per (m / (n+1)) (m%(n+1))
  rw[C0,Nat.div_add_mod] at this
  exact this
 ·have h1:az S p (j+(n+1-j))=p:=by rw[show j+(n+1-j)=n+1 from by omega];exact O
  rw[bD,←e,←bD] at h1
  exact J (i+(n+1-j)) (by omega) (by omega) h1
theorem sub_len{α:Type}[DecidableEq α]:∀ {xs ys:List α},xs.Nodup->(∀x∈xs,x∈ys)->xs.length<=ys.length
 |[],_,_,_=>eD _
 |x::xs,ys,nd,h=>by
  have nd':=fo.mp nd
  have J:=h x eA
  have:=sub_len (xs:=xs) (ys:=ys.erase x) nd'.2 λy O=>(mB (λe:y=x=>nd'.1 (e▸O))).mpr (h y (cK _ O))
  rw[jv J] at this
  have U:=fF J
  show xs.length+1<=_
  omega
def cQ.len{t:Nat}(r:cQ S p t)(hp:bH S p){K:List Pt}(nd:K.Nodup)(hK:∀q,q∈K↔bH S q):K.length=t:=by
 have e:((bo t).map (az S p)).length=t:=by rw[ae,eI]
 have n2:((bo t).map (az S p)).Nodup:=by
  rw[List.Nodup,tT]
  intro i j hi U J
  rw[ae,eI] at hi U
  simp only[CA,AK]
  exact r.inj i j J U
 apply pb
 ·have:=sub_len nd (ys:=(bo t).map (az S p)) λq O=>by
   obtain⟨m,Y,rfl⟩:=r.all q ((hK q).mp O)
   exact b9.mpr ⟨m,b6.mpr Y,rfl⟩
  rw[e] at this;exact this
 ·have:=sub_len n2 (ys:=K) λq O=>by
   obtain⟨m,_,rfl⟩:=b9.mp O
   exact (hK _).mpr (aP hp m)
  rw[e] at this;exact this
end
variable{t:Nat}
def iK(p:Pt):List Pt:=[(p.1+1,p.2),(p.1,p.2+1),(p.1-1,p.2),(p.1,p.2-1)]
section
variable{S T:List Pt}{c:Pt}
theorem DP:∀ {S:List Pt},S≠[]->∃m∈S,∀q∈S,m.2<=q.2
 |[],h=>absurd rfl h
 |a::S,_=>by
  by_cases hS:S=[]
  ·subst hS;exact⟨a,eA,λq hq=>by rw[bX.mp hq];exact Bz _⟩
  ·obtain⟨m,hm,h⟩:=DP hS
   by_cases g:a.2<=m.2
   ·refine⟨a,eA,λq hq=>?_⟩
    rcases br.mp hq with rfl | hq
    ·exact Bz _
    ·exact Of g (h q hq)
   ·refine⟨m,cK _ hm,λq hq=>?_⟩
    rcases br.mp hq with rfl | hq
    ·omega
    ·exact h q hq
def Dm(h:One S)(hc:c∉S)(h0:nb c 0∈S)(h1:nb c 1∈S)(h2:nb c 2∈S)(h3:nb c 3∈S):False:=by
 have all:∀j,j<4->nb c j∈S:=λj J=>by rcases c4 J with rfl | rfl | rfl | rfl <;> assumption
 have U:∀q,jh (RS S) (bB c 3) q->∃j,j<4/\q=bB c j:=by
  intro q hq
  induction hq with
  |refl=>exact⟨3,by omega,rfl⟩
  |@step q r _ s ih=>
   obtain⟨j,J,rfl⟩:=ih
   obtain⟨d,e,rfl⟩:=s
   have Y:aN (aN (aN (aN j)))=j:=Yn J
   obtain⟨d',Z,e1,O,e3⟩:=Rj (c:=c) (j:=aN (aN (aN j))) cR
   rw[Y] at e1 O e3
   have:je S (bB c j) d':=⟨Z,by rw[e1];exact all _ cR,by rw[O];exact hc⟩
   have ed:=f9 h.dg e this
   subst ed
   exact⟨_,cR,e3⟩
 obtain⟨m,hm,hl⟩:=DP (List.ne_nil_of_mem h0)
 have em:je S (m.1,m.2) 0:=⟨by omega,hm,λz=>by have:=hl _ z;simp only[W2] at this;omega⟩
 have c3:bH S (bB c 3):=by
  have:=jk (S:=S) (p:=bB c (aN 2)) (Ku (c:=c) (j:=2) (by omega)) (Hl (c:=c) cR) h2 hc
  exact this
 obtain⟨j,J,e⟩:=U _ (h.all _ _ c3 ⟨0,em⟩)
 have O:=congrArg gE e
 have l3:=hl _ h3
 rcases c4 J with rfl | rfl | rfl | rfl <;> simp only[aaM,Z4,aaI,aaO,nb,Yj] at O l3 <;> omega
def Rz(h:One S)(hT:∀x,x∈T↔x∈S\/x=c)(hc:c∉S)(alt1:¬(nb c 0∈S/\nb c 2∈S/\nb c 1∉S/\nb c 3∉S))(alt2:¬(nb c 1∈S/\nb c 3∈S/\nb c 0∉S/\nb c 2∉S))(dge:∀j,j<4->nb c j∉S->nb c (aN j)∉S->sZ c j∉S)(hi:i<4)(ha:nb c i∈S):One T:=by
 have cT:c∈T:=(hT c).mpr (.inr rfl)
 have ac:∀q,q≠c->(q∈T↔q∈S):=λq hq=>by rw[hT];exact⟨λz=>z.resolve_right hq,.inl⟩
 have al:∀p,Meet p c->∃j,j<4/\p=bB c (aN j):=by
  intro p hp
  obtain⟨p1,p2⟩:=p
  rcases hp with e | e | e | e <;> subst e
  ·exact⟨2,by omega,by walk_at "pp"⟩
  ·exact⟨3,by omega,by walk_at "pp"⟩
  ·exact⟨0,by omega,by walk_at "pp"⟩
  ·exact⟨1,by omega,by walk_at "pp"⟩
 have am:∀j,j<4->nb c j≠c:=by
  intro j J e
  have e1:=congrArg hV e
  have e2:=congrArg gE e
  rcases c4 J with rfl | rfl | rfl | rfl <;> simp only[nb,aaw,aay,abD,Yj] at e1 e2 <;> omega
 have ap:∀j,j<4->sZ c j≠c:=by
  intro j J e
  have e1:=congrArg hV e
  rcases c4 J with rfl | rfl | rfl | rfl <;> simp only[adN,acg,adk,adI] at e1 <;> omega
 have a0:Dg T:=by
  intro p
  by_cases hp:Meet p c
  ·obtain⟨j,J,rfl⟩:=al p hp
   have k:=dge j J
   have n1:=ac _ (am j J)
   have n2:=ac _ (am (aN j) cR)
   have n3:=ac _ (ap j J)
   rw[←n1,←n2,←n3] at k
   rcases c4 J with rfl | rfl | rfl | rfl
   ·rw[show ((bB c (aN 0)).1,(bB c (aN 0)).2)=sZ c 0 from by walk_at "pp",show ((bB c (aN 0)).1-1,(bB c (aN 0)).2-1)=c from by walk_at "pp",show ((bB c (aN 0)).1-1,(bB c (aN 0)).2)=nb c (aN 0) from by walk_at "pp",show ((bB c (aN 0)).1,(bB c (aN 0)).2-1)=nb c 0 from by walk_at "pp"]
    exact⟨λ⟨Z,_,Y,z4⟩=>k z4 Y Z,λ⟨_,_,_,z4⟩=>z4 cT⟩
   ·rw[show ((bB c (aN 1)).1,(bB c (aN 1)).2)=nb c 1 from by walk_at "pp",show ((bB c (aN 1)).1-1,(bB c (aN 1)).2-1)=nb c (aN 1) from by walk_at "pp",show ((bB c (aN 1)).1-1,(bB c (aN 1)).2)=sZ c 1 from by walk_at "pp",show ((bB c (aN 1)).1,(bB c (aN 1)).2-1)=c from by walk_at "pp"]
    exact⟨λ⟨_,_,_,z4⟩=>z4 cT,λ⟨Z,_,Y,z4⟩=>k Y z4 Z⟩
   ·rw[show ((bB c (aN 2)).1,(bB c (aN 2)).2)=c from by walk_at "pp",show ((bB c (aN 2)).1-1,(bB c (aN 2)).2-1)=sZ c 2 from by walk_at "pp",show ((bB c (aN 2)).1-1,(bB c (aN 2)).2)=nb c 2 from by walk_at "pp",show ((bB c (aN 2)).1,(bB c (aN 2)).2-1)=nb c (aN 2) from by walk_at "pp"]
    exact⟨λ⟨_,z2,Y,z4⟩=>k Y z4 z2,λ⟨_,_,Y,_⟩=>Y cT⟩
   ·rw[show ((bB c (aN 3)).1,(bB c (aN 3)).2)=nb c (aN 3) from by walk_at "pp",show ((bB c (aN 3)).1-1,(bB c (aN 3)).2-1)=nb c 3 from by walk_at "pp",show ((bB c (aN 3)).1-1,(bB c (aN 3)).2)=c from by walk_at "pp",show ((bB c (aN 3)).1,(bB c (aN 3)).2-1)=sZ c 3 from by walk_at "pp"]
    exact⟨λ⟨_,_,Y,_⟩=>Y cT,λ⟨_,z2,Y,z4⟩=>k z4 Y z2⟩
  ·obtain⟨g1,g2⟩:=h.dg p
   have m:∀q,Meet p q->(q∈T↔q∈S):=λq hq=>ac q λe=>hp (e▸hq)
   rw[m (p.1,p.2) (.inl rfl),m (p.1-1,p.2) (.inr (.inl rfl)),m (p.1-1,p.2-1) (.inr (.inr (.inl rfl))),m (p.1,p.2-1) (.inr (.inr (.inr rfl)))]
   exact⟨g1,g2⟩
 refine⟨a0,?_⟩
 have nf:=Dm h hc
 have go:∀ja jb,ja<4->jb<4->nb c ja∈S->nb c (aN ja)∉S->nb c jb∉S->nb c (aN jb)∈S->(∀j,j<4->nb c j∈S->nb c (aN j)∉S->j=ja)->(∀j,j<4->nb c j∉S->nb c (aN j)∈S->j=jb)->∀p q,bH T p->bH T q->jh (RS T) p q :=
  λja jb a3 a4 a1 a2 b1 b2 ua ub=>Px h hT hc a3 a4 a1 a2 b1 b2 ua ub
 by_cases z0:nb c 0∈S <;> by_cases Z:nb c 1∈S <;> by_cases z2:nb c 2∈S <;> by_cases Y:nb c 3∈S
 ·exact (nf z0 Z z2 Y).elim
 ·exact go 2 3 (by omega) (by omega) z2 Y Y z0 (λj J O U=>by rcases c4 J with rfl | rfl | rfl | rfl <;> first | rfl | exact absurd O (by assumption) | exact absurd (by assumption) U) (λj J O U=>by rcases c4 J with rfl | rfl | rfl | rfl <;> first | rfl | exact absurd (by assumption) O | exact absurd U (by assumption))
 ·exact go 1 2 (by omega) (by omega) Z z2 z2 Y (λj J O U=>by rcases c4 J with rfl | rfl | rfl | rfl <;> first | rfl | exact absurd O (by assumption) | exact absurd (by assumption) U) (λj J O U=>by rcases c4 J with rfl | rfl | rfl | rfl <;> first | rfl | exact absurd (by assumption) O | exact absurd U (by assumption))
 ·exact go 1 3 (by omega) (by omega) Z z2 Y z0 (λj J O U=>by rcases c4 J with rfl | rfl | rfl | rfl <;> first | rfl | exact absurd O (by assumption) | exact absurd (by assumption) U) (λj J O U=>by rcases c4 J with rfl | rfl | rfl | rfl <;> first | rfl | exact absurd (by assumption) O | exact absurd U (by assumption))
 ·exact go 0 1 (by omega) (by omega) z0 Z Z z2 (λj J O U=>by rcases c4 J with rfl | rfl | rfl | rfl <;> first | rfl | exact absurd O (by assumption) | exact absurd (by assumption) U) (λj J O U=>by rcases c4 J with rfl | rfl | rfl | rfl <;> first | rfl | exact absurd (by assumption) O | exact absurd U (by assumption))
 ·exact (alt1 ⟨z0,z2,Z,Y⟩).elim
 ·exact go 0 2 (by omega) (by omega) z0 Z z2 Y (λj J O U=>by rcases c4 J with rfl | rfl | rfl | rfl <;> first | rfl | exact absurd O (by assumption) | exact absurd (by assumption) U) (λj J O U=>by rcases c4 J with rfl | rfl | rfl | rfl <;> first | rfl | exact absurd (by assumption) O | exact absurd U (by assumption))
 ·exact go 0 3 (by omega) (by omega) z0 Z Y z0 (λj J O U=>by rcases c4 J with rfl | rfl | rfl | rfl <;> first | rfl | exact absurd O (by assumption) | exact absurd (by assumption) U) (λj J O U=>by rcases c4 J with rfl | rfl | rfl | rfl <;> first | rfl | exact absurd (by assumption) O | exact absurd U (by assumption))
 ·exact go 3 0 (by omega) (by omega) Y z0 z0 Z (λj J O U=>by rcases c4 J with rfl | rfl | rfl | rfl <;> first | rfl | exact absurd O (by assumption) | exact absurd (by assumption) U) (λj J O U=>by rcases c4 J with rfl | rfl | rfl | rfl <;> first | rfl | exact absurd (by assumption) O | exact absurd U (by assumption))
 ·exact go 2 0 (by omega) (by omega) z2 Y z0 Z (λj J O U=>by rcases c4 J with rfl | rfl | rfl | rfl <;> first | rfl | exact absurd O (by assumption) | exact absurd (by assumption) U) (λj J O U=>by rcases c4 J with rfl | rfl | rfl | rfl <;> first | rfl | exact absurd (by assumption) O | exact absurd U (by assumption))
 ·exact (alt2 ⟨Z,Y,z0,z2⟩).elim
 ·exact go 1 0 (by omega) (by omega) Z z2 z0 Z (λj J O U=>by rcases c4 J with rfl | rfl | rfl | rfl <;> first | rfl | exact absurd O (by assumption) | exact absurd (by assumption) U) (λj J O U=>by rcases c4 J with rfl | rfl | rfl | rfl <;> first | rfl | exact absurd (by assumption) O | exact absurd U (by assumption))
 ·exact go 3 1 (by omega) (by omega) Y z0 Z z2 (λj J O U=>by rcases c4 J with rfl | rfl | rfl | rfl <;> first | rfl | exact absurd O (by assumption) | exact absurd (by assumption) U) (λj J O U=>by rcases c4 J with rfl | rfl | rfl | rfl <;> first | rfl | exact absurd (by assumption) O | exact absurd U (by assumption))
 ·exact go 2 1 (by omega) (by omega) z2 Y Z z2 (λj J O U=>by rcases c4 J with rfl | rfl | rfl | rfl <;> first | rfl | exact absurd O (by assumption) | exact absurd (by assumption) U) (λj J O U=>by rcases c4 J with rfl | rfl | rfl | rfl <;> first | rfl | exact absurd (by assumption) O | exact absurd U (by assumption))
 ·exact go 3 2 (by omega) (by omega) Y z0 z2 Y (λj J O U=>by rcases c4 J with rfl | rfl | rfl | rfl <;> first | rfl | exact absurd O (by assumption) | exact absurd (by assumption) U) (λj J O U=>by rcases c4 J with rfl | rfl | rfl | rfl <;> first | rfl | exact absurd (by assumption) O | exact absurd U (by assumption))
 ·exfalso
  rcases c4 hi with rfl | rfl | rfl | rfl <;> contradiction
end
def ltN(d:Nat):Lt:=match d with
 |0=>0
 |1=>1
 |2=>2
 |_=>3
variable{d:Nat}
def pW(h:d<4):step (ltN d)=stp d:=by
 rcases c4 h with rfl | rfl | rfl | rfl <;> rfl
def gO(c:Pt)(d:Nat):Pt:=match d with
 |0=>(c.1,c.2)
 |1=>(c.1+1,c.2)
 |2=>(c.1+1,c.2+1)
 |_=>(c.1,c.2+1)
def tW(c:Pt)(d:Nat):Pt:=match d with
 |0=>(c.1,c.2-1)
 |1=>(c.1+1,c.2)
 |2=>(c.1,c.2+1)
 |_=>(c.1-1,c.2)
variable{c:Pt}
def Fp(h:d<4):bM (gO c d) d=c:=by
 rcases c4 h with rfl | rfl | rfl | rfl
 ·rfl
 ·exact aI (by show c.1+1-1=c.1;omega) rfl
 ·exact aI (by show c.1+1-1=c.1;omega) (by show c.2+1-1=c.2;omega)
 ·exact aI rfl (by show c.2+1-1=c.2;omega)
def Le(h:d<4):eV (gO c d) d=tW c d:=by
 rcases c4 h with rfl | rfl | rfl | rfl
 ·rfl
 ·rfl
 ·exact aI (by show c.1+1-1=c.1;omega) rfl
 ·exact aI rfl (by show c.2+1-1=c.2;omega)
def ji(h:d<4):p=gO (bM p d) d:=by
 rcases c4 h with rfl | rfl | rfl | rfl
 ·rfl
 ·exact aI (by show p.1=p.1-1+1;omega) rfl
 ·exact aI (by show p.1=p.1-1+1;omega) (by show p.2=p.2-1+1;omega)
 ·exact aI rfl (by show p.2=p.2-1+1;omega)
structure Lb(S:List Pt)(val:Pt->Nat->D)(i k:Nat)(zp:List (Pt×D)):Prop where
 nd:(zp.map (·.1)).Nodup
 sub:∀q∈zp.map (·.1),bH S q
 has:∀(j d:Nat) (c:Pt),S[j]?=some c->d<4->(j<i\/(j=i/\d<k))->tW c d∉S->gO c d∈zp.map (·.1)
 look:∀q∈zp.map (·.1),eO zp q=some (val q (outD S q))
 len:zp.length<=4*i+k
section
variable{S:List Pt}{val:Pt->Nat->D}{i k:Nat}{zp:List (Pt×D)}{c:Pt}
def Lb.nil:Lb S val 0 0 []:=⟨by simp,by simp,λj d c _ _ h=>by omega,by simp,by simp⟩
def Lb.skip(h:Lb S val i k zp)(hc:S[i]?=some c)(hin:tW c k∈S):Lb S val i (k+1) zp :=
 ⟨h.nd,h.sub,λj d Y J hd O U=>by
  by_cases e:j=i/\d=k
  ·obtain⟨rfl,rfl⟩:=e
   rw[hc] at J;cases J
   exact absurd hin U
  ·exact h.has j d Y J hd (O.imp_right λ⟨a,b⟩=>⟨a,AL (yy.mp b) λz=>e ⟨a,z⟩⟩) U,h.look,Nat.le_succ_of_le h.len⟩
def Lb.put(g:Dg S)(h:Lb S val i k zp)(hc:S[i]?=some c)(hk:k<4)(hin:tW c k∉S):Lb S val i (k+1) (qO zp (gO c k) (val (gO c k) k)):=by
 have O:c∈S:=df hc
 have U:je S (gO c k) k:=⟨hk,by rw[Fp hk];exact O,by rw[Le hk];exact hin⟩
 have eo:outD S (gO c k)=k:=f9 g (aQ ⟨k,U⟩) U
 refine⟨Je h.nd,λq J=>?_,λj d c' Y hd Z ho=>?_,λq J=>?_,?_⟩
 ·rcases pI.mp J with J | rfl
  ·exact h.sub q J
  ·exact⟨k,U⟩
 ·by_cases e:j=i/\d=k
  ·obtain⟨rfl,rfl⟩:=e
   rw[hc] at Y;cases Y
   exact pI.mpr (.inr rfl)
  ·exact pI.mpr (.inl (h.has j d c' Y hd (Z.imp_right λ⟨a,b⟩=>⟨a,AL (yy.mp b) λz=>e ⟨a,z⟩⟩) ho))
 ·rw[LQ]
  by_cases e:q=gO c k
  ·subst e;rw[if_pos rfl,eo]
  ·rw[if_neg e]
   exact h.look q ((pI.mp J).resolve_right e)
 ·have hl:=h.len
  unfold qO
  split
  ·rw[ae];omega
  ·rw[ck,kG];omega
def Lb.next(h:Lb S val i 4 zp):Lb S val (i+1) 0 zp :=
 ⟨h.nd,h.sub,λj d c J hd O U=>h.has j d c J hd (by omega) U,h.look,by have:=h.len;omega⟩
def Lb.all(h:Lb S val S.length 0 zp)(q:Pt):q∈zp.map (·.1)↔bH S q:=by
 refine⟨h.sub q,λ⟨d,e⟩=>?_⟩
 obtain⟨j,J⟩:=List.mem_iff_getElem?.mp e.l
 have:=h.has j d _ J e.lt (.inl (cE.mp J).1) (by rw[←Le e.lt,←ji e.lt];exact e.r)
 rw[←ji e.lt] at this
 exact this
def Lb.at(h:Lb S val S.length 0 zp)(hq:bH S q):eO zp q=some (val q (outD S q)):=h.look q ((h.all q).mpr hq)
end
variable{S:List Pt}
def Cm{s:Pt}(h:S[0]?=some s):jU (S.map aO) 0=some (.tup [.int s.1,.int s.2]):=by
 have:=(cE.mp h).1
 unfold jU Ov
 rw[ae,if_pos (by omega),if_pos (by omega),i9,ay]
 show (S[0]?).map aO=_
 rw[h];rfl
def dw:outD S p<4:=by unfold outD;repeat (first | omega | split)
def wd(S:List Pt)(p:Pt)(t:Nat):List Lt:=(bo t).map λi=>ltN (outD S (az S p i))
def cG(S:List Pt)(p:Pt)(t:Nat):(wd S p t).length=t:=by unfold wd;rw[ae,eI]
def mG(S:List Pt)(p:Pt)(t:Nat):wd S p (t+1)=wd S p t++[ltN (outD S (az S p t))]:=by unfold wd;rw[pf,de];rfl
def JZ(S:List Pt)(p:Pt)(h:i<=t):(wd S p t).take i=wd S p i:=by unfold wd;rw[←xI,List.take_range,Ll h]
theorem qJ(S:List Pt)(p:Pt):∀t,fG p (wd S p t)=az S p t
 |0=>rfl
 |t+1=>by
  rw[mG,yL,qJ S p t,pW dw]
  exact aI rfl rfl
def zB(S cs:List Pt):Nat:=(cs.map λc=>((iK c).filter λq=>!decide (q∈S)).length).sum
def Ri(c:Pt):((bo 4).map (tW c)).Perm (iK c):=by
 show [(c.1,c.2-1),(c.1+1,c.2),(c.1,c.2+1),(c.1-1,c.2)].Perm [(c.1+1,c.2),(c.1,c.2+1),(c.1-1,c.2),(c.1,c.2-1)]
 exact List.perm_append_comm (l₁:=[(c.1,c.2-1)]) (l₂:=[(c.1+1,c.2),(c.1,c.2+1),(c.1-1,c.2)])
def jL(S cs:List Pt):List Pt:=(cs.map λc=>((bo 4).filter λd=>!decide (tW c d∈S)).map (gO c)).flatten
def PK(S:List Pt)(cs:List Pt):(jL S cs).length=zB S cs:=by
 unfold jL zB
 rw[E1,dP]
 congr 1
 refine d6 λc _=>?_
 show (((bo 4).filter λd=>!decide (tW c d∈S)).map (gO c)).length=_
 rw[ae,←((Ri c).filter _).length_eq,List.filter_map,ae]
 rfl
def qi{cs:List Pt}:q∈jL S cs↔∃c∈cs,∃d,d<4/\tW c d∉S/\q=gO c d:=by
 unfold jL
 simp only[rf,b9,dn,b6,IE,decide_eq_false_iff_not]
 constructor
 ·rintro⟨_,⟨c,J,rfl⟩,h⟩
  obtain⟨d,hd,rfl⟩:=b9.mp h
  have:=dn.mp hd
  exact⟨c,J,d,b6.mp this.1,by simpa using this.2,rfl⟩
 ·rintro⟨c,J,d,h1,h2,rfl⟩
  exact⟨_,⟨c,J,rfl⟩,b9.mpr ⟨d,dn.mpr ⟨b6.mpr h1,by simpa using h2⟩,rfl⟩⟩
def gM(hc:c∈S)(hd:d<4)(ho:tW c d∉S):je S (gO c d) d:=⟨hd,by rw[Fp hd];exact hc,by rw[Le hd];exact ho⟩
theorem uf{S:List Pt}(g:Dg S):∀ {cs:List Pt},cs.Nodup->(∀c∈cs,c∈S)->(jL S cs).Nodup
 |[],_,_=>by simp[jL]
 |c::cs,nd,sub=>by
  have h1:=fo.mp nd
  have e:jL S (c::cs)=((bo 4).filter λd=>!decide (tW c d∈S)).map (gO c)++jL S cs:=by simp[jL]
  have Y:=sub c (by simp)
  rw[e,kD]
  refine⟨?_,uf g h1.2 λx hx=>sub x (by simp[hx]),λa Z b hb z=>?_⟩
  ·rw[ax,dS]
   refine mw (λ{a b} Z hb ac z=>?_) (ax.mp (ml.filter _))
   have ka:=dn.mp Z
   have kb:=dn.mp hb
   have J:=gM Y (b6.mp ka.1) (by simpa using ka.2)
   have O:=gM Y (b6.mp kb.1) (by simpa using kb.2)
   rw[←z] at O
   exact ac (f9 g J O)
  ·subst z
   obtain⟨d,hd,rfl⟩:=b9.mp Z
   have kd:=dn.mp hd
   obtain⟨c',U,d',al,am,e'⟩:=qi.mp hb
   have J:=gM Y (b6.mp kd.1) (by simpa using kd.2)
   have O:=gM (sub c' (by simp[U])) al am
   have e2:=e'
   rw[←e'] at O
   have ed:=f9 g J O
   subst ed
   have:c=c':=by rw[←Fp (c:=c) J.lt,e',Fp J.lt]
   exact h1.1 (this▸U)
variable{s0:Pt}
def Kh(g:Dg S)(nd:S.Nodup)(hcr:bH S s0)(r:cQ S s0 t):zB S S=t:=by
 rw[←PK]
 refine r.len hcr (uf g nd λ_ h=>h) λq=>?_
 rw[qi]
 constructor
 ·rintro⟨c,J,d,h1,h2,rfl⟩;exact⟨d,gM J h1 h2⟩
 ·rintro⟨d,e⟩
  exact⟨_,e.l,d,e.lt,by rw[←Le e.lt,←ji e.lt];exact e.r,ji e.lt⟩
def ar(c:Pt):List Lt->Int
 |[]=>0
 |l::ls=>c.1*(step l).2+ar (HX (step l) c) ls
def abR(c:Pt)(as bs:List Lt):ar c (as++bs)=ar c as+ar (fG c as) bs:=by
 induction as generalizing c with
 |nil=>show ar c bs=0+ar c bs;omega
 |cons l as ih=>
  show c.1*(step l).2+ar (HX (step l) c) (as++bs)=c.1*(step l).2+ar (HX (step l) c) as+ar (fG (HX (step l) c) as) bs
  rw[ih];omega
def VR(c:Pt)(ls:List Lt)(l:Lt):ar c (ls++[l])=ar c ls+(fG c ls).1*(step l).2:=by
 rw[abR]
 show _+((fG c ls).1*(step l).2+0)=_
 omega
def ad2(ls:List Lt):asc (aR ls):=by
 show (ls.map cp).toArray.all (· < 128)=true
 rw[Kb,N4,kQ]
 intro l _
 have:∀l:Lt,cp l<128:=by decide
 exact decide_eq_true (this l)
def rgI(a b:Int):List Int:=(bo (b-a).toNat).map λi:Nat=>a+(i:Int)
def fill:List Int->List Int
 |a::b::r=>rgI a b++fill r
 |_=>[]
def IV{as bs:List Int}(h:as.Perm bs):as.sum=bs.sum:=by
 induction h with
 |nil=>rfl
 |cons x _ ih=>rw[e9,e9,ih]
 |swap x y l=>rw[e9,e9,e9,e9];omega
 |trans _ _ i1 i2=>exact i1.trans i2
theorem gV{α:Type}(p:α->Bool)(g:α->Int):∀l:List α,((l.filter p).map g).sum=(l.map λc=>if p c=true then g c else 0).sum
 |[]=>rfl
 |c::l=>by
  have ih:=gV p g l
  rw[aE,e9,←ih]
  by_cases h:p c=true
  ·rw[ke h,aE,e9,if_pos h]
  ·rw[kg h,if_neg h];omega
theorem sum_add{α:Type}(f g:α->Int):∀l:List α,(l.map λc=>f c+g c).sum=(l.map f).sum+(l.map g).sum
 |[]=>rfl
 |c::l=>by rw[aE,aE,aE,e9,e9,e9,sum_add f g l];omega
section
variable{S:List Pt}
def T7(nd:S.Nodup):(S.map λc=>if decide ((c.1+1,c.2)∈S)=true then c.1+1 else 0).sum=(S.map λc=>if decide ((c.1-1,c.2)∈S)=true then c.1 else 0).sum:=by
 rw[←gV (λc:Pt=>decide ((c.1+1,c.2)∈S)) (λc=>c.1+1),←gV (λc:Pt=>decide ((c.1-1,c.2)∈S)) (λc=>c.1)]
 have O:((S.filter λc=>decide ((c.1+1,c.2)∈S)).map λc=>(c.1+1,c.2)).Perm (S.filter λc=>decide ((c.1-1,c.2)∈S)):=by
  refine (eS ?_ (nd.filter _)).mpr λq=>?_
  ·rw[ax,dS]
   refine (ax.mp (nd.filter _)).imp λ{a b} J z=>J ?_
   have Y:a.1+1=b.1+1:=(Prod.mk.inj z).1
   exact aI (by omega) (Prod.mk.inj z).2
  ·rw[b9,dn,decide_eq_true_iff]
   constructor
   ·rintro⟨c,U,rfl⟩
    have:=dn.mp U
    refine⟨by simpa using this.2,?_⟩
    show (c.1+1-1,c.2)∈S
    rw[Int.add_sub_cancel];exact this.1
   ·rintro⟨h1,h2⟩
    refine⟨(q.1-1,q.2),dn.mpr ⟨h2,?_⟩,aI (by show q.1-1+1=q.1;omega) rfl⟩
    rw[decide_eq_true_iff]
    show (q.1-1+1,q.2)∈S
    rw[Int.sub_add_cancel];exact h1
 have:=IV (O.map hV)
 rw[dP] at this
 exact this
def gq(S:List Pt)(q:Pt):Int:=q.1*(stp (outD S q)).2
theorem Pb(q:Pt):∀n,ar q (wd S q n)=((bo n).map λi=>gq S (az S q i)).sum
 |0=>rfl
 |n+1=>by
  rw[mG,VR,Pb q n,qJ,pf,de,sf,pW dw]
  simp[gq]
def RM(g:Dg S)(hc:c∈S):((((bo 4).filter λd=>!decide (tW c d∈S)).map (gO c)).map (gq S)).sum=(if decide ((c.1+1,c.2)∈S)=true then 0 else c.1+1)+(if decide ((c.1-1,c.2)∈S)=true then 0 else -c.1):=by
 rw[dP]
 have e:(((bo 4).filter λd=>!decide (tW c d∈S)).map (gq S∘gO c))=(((bo 4).filter λd=>!decide (tW c d∈S)).map λd=>(gO c d).1*(stp d).2):=by
  refine d6 λd hd=>?_
  have k:=dn.mp hd
  have J:=gM hc (b6.mp k.1) (by simpa using k.2)
  show (gO c d).1*(stp (outD S (gO c d))).2=_
  rw[f9 g (aQ ⟨d,J⟩) J]
 rw[e,gV (λd=>!decide (tW c d∈S)) (λd=>(gO c d).1*(stp d).2)]
 show (if (!decide (tW c 0∈S))=true then (c.1*0:Int) else 0)+((if (!decide ((c.1+1,c.2)∈S))=true then ((c.1+1)*1:Int) else 0)+((if (!decide (tW c 2∈S))=true then ((c.1+1)*0:Int) else 0)+((if (!decide ((c.1-1,c.2)∈S))=true then (c.1 * -1:Int) else 0)+0)))=_
 rw[fw,fw,Kt]
 cases decide ((c.1+1,c.2)∈S) <;> cases decide ((c.1-1,c.2)∈S) <;> simp <;> omega
theorem BP(g:Dg S):∀ {cs:List Pt},(∀c∈cs,c∈S)->((jL S cs).map (gq S)).sum=(cs.map λc=>(if decide ((c.1+1,c.2)∈S)=true then 0 else c.1+1)+(if decide ((c.1-1,c.2)∈S)=true then 0 else -c.1)).sum
 |[],_=>rfl
 |c::cs,h=>by
  have e:jL S (c::cs)=((bo 4).filter λd=>!decide (tW c d∈S)).map (gO c)++jL S cs:=by simp[jL]
  rw[e,de,sf,RM g (h c (by simp)),BP g λx J=>h x (by simp[J]),aE,e9]
def Uu(g:Dg S)(nd:S.Nodup)(hq:bH S q)(r:cQ S q t):ar q (wd S q t)=S.length:=by
 have Y:((bo t).map (az S q)).Perm (jL S S):=by
  refine (eS ?_ (uf g nd λ_ h=>h)).mpr λp=>?_
  ·rw[ax,dS]
   refine mw (λ{a b} _ Z J=>r.inj a b J (b6.mp Z)) ll
  ·rw[qi,b9]
   constructor
   ·rintro⟨i,_,rfl⟩
    obtain⟨d,e⟩:=aP hq i
    exact⟨_,e.l,d,e.lt,by rw[←Le e.lt,←ji e.lt];exact e.r,ji e.lt⟩
   ·rintro⟨c,hc,d,h1,h2,rfl⟩
    obtain⟨m,hm,e⟩:=r.all _ ⟨d,gM hc h1 h2⟩
    exact⟨m,b6.mpr hm,e.symm⟩
 have O:=IV (Y.map (gq S))
 rw[dP] at O
 rw[Pb]
 show ((bo t).map (gq S∘az S q)).sum=_
 rw[O,BP g λ_ h=>h]
 have e2:=T7 nd
 have U:(S.map λc:Pt=>(if decide ((c.1+1,c.2)∈S)=true then 0 else c.1+1)+(if decide ((c.1-1,c.2)∈S)=true then 0 else -c.1)).sum+(S.map λc:Pt=>if decide ((c.1+1,c.2)∈S)=true then c.1+1 else 0).sum=(S.map λc:Pt=>(1:Int)+if decide ((c.1-1,c.2)∈S)=true then c.1 else 0).sum:=by
  rw[←sum_add]
  congr 1
  refine d6 λc _=>?_
  cases decide ((c.1+1,c.2)∈S) <;> cases decide ((c.1-1,c.2)∈S) <;> simp <;> omega
 rw[sum_add (λ_=>(1:Int)) (λc:Pt=>if decide ((c.1-1,c.2)∈S)=true then c.1 else 0),e2] at U
 have e4:∀l:List Pt,(l.map λ_=>(1:Int)).sum=l.length:=by
  intro l
  induction l with
  |nil=>rfl
  |cons c l ih=>rw[aE,e9,ih,bE];omega
 rw[e4] at U
 omega
end
section
variable{S T:List Pt}{p:Pt}
def WL(S:List Pt)(cs:List Pt):zB S cs<=4*cs.length:=by
 induction cs with
 |nil=>exact a8 _
 |cons c cs ih=>
  have e:zB S (c::cs)=((iK c).filter λq=>!decide (q∈S)).length+zB S cs:=rfl
  have:=D4 (λq=>!decide (q∈S)) (iK c)
  have J:(iK c).length=4:=rfl
  rw[e,bE];omega
def cQ.few(g:Dg S)(nd:S.Nodup)(hp:bH S p)(r:cQ S p t):t<=4*S.length:=by rw[←Kh g nd hp r];exact WL S S
def fO(v p:Pt):Pt:=(p.1+v.1,p.2+v.2)
variable{v:Pt}(h:∀c:Pt,fO v c∈T↔c∈S)
include h
end
def fH(a b d:Int):Prop:=0<a/\0<=b/\b<a/\0<d/\Bt 4000 a/\Bt 4000 d
variable{b:Int}
def fH.bb{a d:Int}(h:fH a b d):Bt 4000 b:=by
 obtain⟨h1,h2,O,U,J,Y⟩:=h
 exact J.of_le (by omega)
def I9(d y:Int):Int:=y / d
def Pa(a b d x y:Int):Int:=(x-y / d*b) / a
variable{x:Int}{y:Int}
def ZV{a d:Int}(hg:fH a b d)(hi:Bt 20000 x)(hj:Bt 20000 y):Bt 30000 (Pa a b d x y):=by
 have J:=hg.bb
 unfold Pa
 exact Bt.mono (Bt.div (Bt.sub hi (Bt.mul (Bt.div hj) J))) (by decide)
def aa9{d:Int}(hj:Bt 20000 y):Bt 20000 (I9 d y):=Bt.div hj
def rsX(a b d x y:Int):Int:=(x-y / d*b)%a
def Hi(d y:Int):Int:=y%d
def Gx(a b d x y:Int):x-(Pa a b d x y*a+I9 d y*b)=rsX a b d x y:=by
 unfold rsX Pa I9
 have:=sC (x-y / d*b) a
 rw[ia ((x-y / d*b) / a) a]
 omega
def yW(d y:Int):y-I9 d y*d=Hi d y:=by
 unfold Hi I9
 have:=sC y d
 rw[ia (y / d) d]
 omega
def afT{a d i j:Int}(hg:fH a b d):rsX a b d (i*a+j*b) (j*d)=0/\Hi d (j*d)=0/\Pa a b d (i*a+j*b) (j*d)=i/\I9 d (j*d)=j:=by
 obtain⟨h1,h2,U,Y,Z,h6⟩:=hg
 have J:j*d / d=j:=E2 j (by omega)
 have O:i*a+j*b-j*b=i*a:=by omega
 unfold rsX Hi Pa I9
 rw[J,O]
 exact⟨IF i a,IF j d,E2 i (by omega),rfl⟩
def adl{a d x' y':Int}(hg:fH a b d):(rsX a b d x y=rsX a b d x' y'/\Hi d y=Hi d y')↔∃i j,x'-x=i*a+j*b/\y'-y=j*d:=by
 constructor
 ·rintro⟨h1,h2⟩
  rw[←Gx,←Gx] at h1
  rw[←yW,←yW] at h2
  refine⟨Pa a b d x' y'-Pa a b d x y,I9 d y'-I9 d y,?_,?_⟩
  ·rw[sQ,sQ];omega
  ·rw[sQ];omega
 ·rintro⟨i,j,h1,h2⟩
  obtain⟨O,U,Y,Z,g5,g6⟩:=hg
  obtain rfl:x'=x+(i*a+j*b):=by omega
  obtain rfl:y'=y+j*d:=by omega
  unfold rsX Hi
  have J:(y+j*d) / d=y / d+j:=Int.add_mul_ediv_right y j (by omega)
  refine⟨?_,?_⟩
  ·rw[J,vS,show x+(i*a+j*b)-(y / d*b+j*b)=x-y / d*b+i*a from by omega,zl]
  ·rw[zl]
def aeb{a d:Int}(hg:fH a b d):0<=rsX a b d x y/\rsX a b d x y<a/\0<=Hi d y/\Hi d y<d:=by
 obtain⟨h1,h2,O,J,U,Y⟩:=hg
 exact⟨kl _ (by omega),iN _ h1,kl _ (by omega),iN _ J⟩
def bV(p q v:Pt):Prop:=∃i j:Int,v.1=i*p.1+j*q.1/\v.2=i*p.2+j*q.2
structure yR(G:Pt->Prop):Prop where
 zero:G (0,0)
 sub:∀p q,G p->G q->G (p.1-q.1,p.2-q.2)
section
variable{G:Pt->Prop}{p q u v w:Pt}{i j:Int}
def yR.neg(h:yR G)(hp:G p):G (-p.1,-p.2):=by
 have:=h.sub _ _ h.zero hp
 rw[IG,IG] at this;exact this
def yR.add(h:yR G)(hp:G p)(hq:G q):G (p.1+q.1,p.2+q.2):=by
 have:=h.sub _ _ hp (h.neg hq)
 rw[OY,OY] at this;exact this
theorem yR.aaf(h:yR G)(hp:G p):∀n:Nat,G ((n:Int)*p.1,(n:Int)*p.2)
 |0=>by
  have:(((0:Nat):Int)*p.1,((0:Nat):Int)*p.2)=((0:Int),(0:Int)):=by simp
  rw[this];exact h.zero
 |n+1=>by
  have:=h.add (h.aaf hp n) hp
  have e:(((n+1:Nat):Int)*p.1,((n+1:Nat):Int)*p.2)=((n:Int)*p.1+p.1,(n:Int)*p.2+p.2):=by
   rw[Int.natCast_add,vS,vS];simp
  rw[e];exact this
def yR.mul(h:yR G)(hp:G p)(i:Int):G (i*p.1,i*p.2):=by
 rcases Int.eq_nat_or_neg i with ⟨n,rfl | rfl⟩
 ·exact h.aaf hp n
 ·have:=h.neg (h.aaf hp n)
  rw[EJ,EJ];exact this
def yR.lin(h:yR G)(hp:G p)(hq:G q)(hv:bV p q v):G v:=by
 obtain⟨i,j,h1,h2⟩:=hv
 have:=h.add (h.mul hp i) (h.mul hq j)
 have e:v=(i*p.1+j*q.1,i*p.2+j*q.2):=aI h1 h2
 rw[e];exact this
def bV.grp(p q:Pt):yR (bV p q) where
 zero:=⟨0,0,by simp,by simp⟩
 sub:=by
  rintro u v ⟨i,j,h1,h2⟩ ⟨k,l,J,O⟩
  refine⟨i-k,j-l,?_,?_⟩
  ·show u.1-v.1=_;rw[h1,J,sQ,sQ];omega
  ·show u.2-v.2=_;rw[h2,O,sQ,sQ];omega
def bV.left(p q:Pt):bV p q p:=⟨1,0,by simp,by simp⟩
def bV.right(p q:Pt):bV p q q:=⟨0,1,by simp,by simp⟩
def bV.trans(hu:bV p q u)(hv:bV p q v)(h:bV u v w):bV p q w:=(bV.grp p q).lin hu hv h
end
def JS{a:Int}(hb:b≠0):(a.fmod b).natAbs<b.natAbs:=by
 rcases AR hb with h | h
 ·have e:=CB a b
  have h1:=lp (-a) (b:=-b) (by omega)
  have h2:=mm (-a) (b:=-b) (by omega)
  omega
 ·have h1:=lp a (b:=b) h
  have h2:=mm a (b:=b) h
  omega
def Reg(a b:Int):Prop:=(0<=b/\b<a)\/(b<=0/\a<b)
def Rm{a:Int}(hb:b≠0):Reg b (a.fmod b):=by
 rcases AR hb with h | h
 ·have e:=CB a b
  have h1:=lp (-a) (b:=-b) (by omega)
  have h2:=mm (-a) (b:=-b) (by omega)
  exact .inr ⟨by omega,by omega⟩
 ·exact .inl ⟨lp a h,mm a h⟩
def yw{a:Int}(h0:0<b)(h1:b<a):a.fmod b+b<=a:=by
 have e:=Int.mul_fdiv_add_fmod a b
 have h2:=mm a (b:=b) h0
 have J:1<=a.fdiv b:=by
  rcases Int.lt_or_le (a.fdiv b) 1 with z | z
  ·have:b*a.fdiv b<=b*0:=ri (by omega) (by omega)
   omega
  ·exact z
 have:b*1<=b*a.fdiv b:=ri J (by omega)
 omega
def Lz{a:Int}(hb:b≠0)(h:Reg a b):2*(a.fmod b).natAbs<=a.natAbs:=by
 rcases h with ⟨J,h1⟩ | ⟨J,h1⟩
 ·have:=yw (a:=a) (b:=b) (by omega) h1
  have h2:=mm a (b:=b) (by omega)
  have O:=lp a (b:=b) (by omega)
  omega
 ·have e:=CB a b
  have:=yw (a:=-a) (b:=-b) (by omega) (by omega)
  have h2:=mm (-a) (b:=-b) (by omega)
  have O:=lp (-a) (b:=-b) (by omega)
  omega
def Bt.fdiv{m:Nat}{i j:Int}(h:Bt m i):Bt m (i.fdiv j):=h.of_le (Int.natAbs_fdiv_le_natAbs i j)
def My(p q:Pt):Pt:=(p.1-p.2.fdiv q.2*q.1,p.2-p.2.fdiv q.2*q.2)
def W9(p q:Pt):(My p q).2=p.2.fmod q.2:=by
 have:=Oy p.2 q.2
 show p.2-p.2.fdiv q.2*q.2=_
 rw[this,ia]
def Ye{G:Pt->Prop}(g:yR G)(hp:G p)(hq:G q):G (My p q):=g.sub _ _ hp (g.mul hq _)
def Te(h:bV p q v):bV q (My p q) v:=by
 refine bV.trans ⟨p.2.fdiv q.2,1,?_,?_⟩ (bV.left _ _) h
 ·show p.1=p.2.fdiv q.2*q.1+1*(p.1-p.2.fdiv q.2*q.1);omega
 ·show p.2=p.2.fdiv q.2*q.2+1*(p.2-p.2.fdiv q.2*q.2);omega
structure Xd(N:Nat)(p0 q0 p q:Pt):Prop where
 grp:∀G,yR G->G p0->G q0->G p/\G q
 i1:bV p q p0
 i2:bV p q q0
 bp:Bt 400 p.2
 bq:Bt 400 q.2
 bits:(Bt N p.1/\Bt N q.1)\/(Reg p.2 q.2/\∃n,n<=800/\(p.2*q.2).natAbs<2 ^ n/\Bt (N+402*(802-n)) p.1/\Bt (N+402*(802-n)) q.1)
variable{N:Nat}
def Xd.start(bp:Bt 400 p.2)(bq:Bt 400 q.2)(h1:Bt N p.1)(h2:Bt N q.1):Xd N p q p q :=
 ⟨λ_ _ a b=>⟨a,b⟩,bV.left _ _,bV.right _ _,bp,bq,.inl ⟨h1,h2⟩⟩
theorem Xd.step{N:Nat}{p0 q0 p q:Pt}(h:Xd N p0 q0 p q)(hq:q.2≠0):Xd N p0 q0 q (My p q)/\(My p q).2.natAbs<q.2.natAbs:=by
 have hs:=W9 p q
 have O:=JS (a:=p.2) hq
 have bt:Bt 400 (p.2.fdiv q.2):=Bt.fdiv h.bp
 refine⟨⟨λG g a b=>⟨(h.grp G g a b).2,Ye g (h.grp G g a b).1 (h.grp G g a b).2⟩,Te h.i1,Te h.i2,h.bq,h.bq.of_le (by rw[hs];omega),.inr ⟨by rw[hs];exact Rm hq,?_⟩⟩,by rw[hs];exact O⟩
 rcases h.bits with ⟨b1,b2⟩ | ⟨hr,n,Y,J,b1,b2⟩
 ·refine⟨800,a8 _,?_,b2.mono (by grind),?_⟩
  ·have:=Bt.mul h.bq (h.bq.of_le (i:=(My p q).2) (by rw[hs];omega));exact this
  ·exact (Bt.sub b1 (Bt.mul bt b2)).mono (by grind)
 ·have hh:=Lz hq hr
  have Z:0<n:=by
   rcases vF n with rfl | z
   ·exfalso
    rw[AF] at J
    have h1:0<p.2.natAbs:=by rcases hr with ⟨_,_⟩ | ⟨_,_⟩ <;> grind
    have h2:0<q.2.natAbs:=by omega
    have:=Nat.mul_pos h1 h2
    simp only[N1] at J
    omega
   ·exact z
  refine⟨n-1,by omega,?_,b2.mono (by grind),?_⟩
  ·rw[AF] at J ⊢
   rw[hs]
   have e:2 ^ n=2*2 ^ (n-1):=by rw[←Nat.pow_succ'];congr 1;grind
   have U:q.2.natAbs*(2*(p.2.fmod q.2).natAbs)<=q.2.natAbs*p.2.natAbs:=Nat.mul_le_mul_left _ hh
   rw[C0 p.2.natAbs] at J
   rw[Nat.mul_left_comm] at U
   omega
  ·exact (Bt.sub b1 (Bt.mul bt b2)).mono (by grind)
def Xd.all{p0 q0:Pt}(h:Xd N p0 q0 p q):Bt (N+400000) p.1/\Bt (N+400000) q.1:=by
 rcases h.bits with ⟨b1,b2⟩ | ⟨hr,n,J,O,b1,b2⟩
 ·exact⟨b1.mono (by omega),b2.mono (by omega)⟩
 ·exact⟨b1.mono (by omega),b2.mono (by omega)⟩
def Tc{a d a' b' d':Int}(h1:0<a)(h2:0<=b)(h3:b<a)(h4:0<d)(g1:0<a')(g2:0<=b')(g3:b'<a')(g4:0<d')
  (p1:bV (a,0) (b,d) (a',0)) (p2:bV (a,0) (b,d) (b',d')) (q1:bV (a',0) (b',d') (a,0)) (q2:bV (a',0) (b',d') (b,d)):a=a'/\b=b'/\d=d':=by
 have zero:∀ {a b d a':Int},0<d->bV (a,0) (b,d) (a',0)->a ∣ a':=by
  rintro a b d a' hd ⟨i,j,O,J⟩
  simp only[fw,ko] at J
  have:j=0:=by
   rcases LM.mp J.symm with z | z
   ·exact z
   ·omega
  subst this
  simp only[xc,pE] at O
  exact⟨i,by rw[O,ia]⟩
 have Y:a=a':=CC (by omega) (by omega) (zero h4 p1) (zero g4 q1)
 subst Y
 obtain⟨i,j,O,J⟩:=p2
 obtain⟨k,l,Z,U⟩:=q2
 simp only[fw,ko] at O J Z U
 have ed:d=d':=CC (by omega) (by omega) ⟨j,by rw[J,ia]⟩ ⟨l,by rw[U,ia]⟩
 subst ed
 have hj:j=1:=by
  have:j*d=1*d:=by rw[←J,x9]
  exact AS (by omega) this
 subst hj
 refine⟨rfl,?_,rfl⟩
 rw[x9] at O
 have h0:i=0:=by
  rcases IH i 0 with z | z | z
  ·exfalso
   have:i*a<=-1*a:=ix (by omega) (by omega)
   omega
  ·exact z
  ·exfalso
   have:1*a<=i*a:=ix (by omega) (by omega)
   omega
 subst h0
 omega
def Fq(p q:Pt):Int:=p.1*q.2-p.2*q.1
def Jb{u:Pt}(hu:bV p q u)(hv:bV p q v):∃k,Fq u v=k*Fq p q:=by
 obtain⟨i,j,h1,h2⟩:=hu
 obtain⟨k,l,J,O⟩:=hv
 refine⟨i*l-j*k,?_⟩
 unfold Fq
 rw[h1,h2,J,O]
 simp only[vS,BA,sQ,KP]
 have U:i*p.1*(k*p.2)=i*p.2*(k*p.1):=by ac_rfl
 have Y:j*q.1*(l*q.2)=j*q.2*(l*q.1):=by ac_rfl
 have Z:i*p.1*(l*q.2)=i*l*(p.1*q.2):=by ac_rfl
 have e4:j*q.1*(k*p.2)=j*k*(p.2*q.1):=by ac_rfl
 have e5:i*p.2*(l*q.1)=i*l*(p.2*q.1):=by ac_rfl
 have e6:j*q.2*(k*p.1)=j*k*(p.1*q.2):=by ac_rfl
 rw[U,Y,Z,e4,e5,e6]
 omega
abbrev Tr:=Int×Int×Int
def d9(t:Tr):D:=.tup [.int t.1,.int t.2.1,.int t.2.2]
def oh(p:Pt):D:=.tup [.bl false,aO p]
def gh(ps:List Pt)(g:Tr):O3:=.ins "Laying" [("piece",.tup (ps.map aO)),("grid",d9 g)]
def rst(g:Tr)(p:Pt):Pt:=(rsX g.1 g.2.1 g.2.2 p.1 p.2,Hi g.2.2 p.2)
def mj(g:Tr)(ps:List Pt):Prop:=(ps.map (rst g)).Nodup
instance (g:Tr) (ps:List Pt):Decidable (mj g ps):=by unfold mj;exact inferInstance
def oK(g:Tr):Prop:=fH g.1 g.2.1 g.2.2
def Small(ps:List Pt):Prop:=∀p∈ps,Bt 20000 p.1/\Bt 20000 p.2
theorem yx:∀ {l m:List Pt},l.Nodup->(∀x∈l,x∈m)->l.length<=m.length
 |[],_,_,_=>eD _
 |x::l,m,hn,hs=>by
  rw[fo] at hn
  have hx:=hs x eA
  have:=yx (m:=m.erase x) hn.2 λy J=>(mB (λe=>hn.1 (by rw[←e];exact J))).mpr (hs y (cK _ J))
  rw[jv hx] at this
  have:=fF hx
  rw[bE];omega
def xn(a d:Nat):List Pt:=((bo a).map λx:Nat=>(bo d).map λy:Nat=>((x:Int),(y:Int))).flatten
def Tn(a d:Nat):(xn a d).length=a*d:=by
 unfold xn
 rw[E1,dP,show ((D9∘λx:Nat=>(bo d).map λy:Nat=>((x:Int),(y:Int))):Nat->Nat)=λ_=>d from by funext x;simp,LL,C2,eI]
variable{g:Tr}
def Ko(hg:oK g)(p:Pt):rst g p∈xn g.1.toNat g.2.2.toNat:=by
 obtain⟨h1,h2,J,O⟩:=aeb (x:=p.1) (y:=p.2) hg
 unfold xn
 refine rf.mpr ⟨_,b9.mpr ⟨(rst g p).1.toNat,b6.mpr (by show (rsX _ _ _ _ _).toNat<_;omega),rfl⟩,b9.mpr ⟨(rst g p).2.toNat,b6.mpr (by show (Hi _ _).toNat<_;omega),?_⟩⟩
 exact aI (qo h1) (qo J)
def JX(hg:oK g):(((xn g.1.toNat g.2.2.toNat).length:Nat):Int)=g.1*g.2.2:=by
 obtain⟨a1,_,_,J,_,_⟩:=hg
 rw[Tn,Int.natCast_mul,qo (by omega),qo (by omega)]
variable{ps:List Pt}
def Fd(hg:oK g)(hn:g.1*g.2.2=ps.length)(hd:mj g ps)(c:Pt):rst g c∈ps.map (rst g):=by
 apply cn
 intro z
 have:=yx (l:=rst g c::ps.map (rst g)) (m:=xn g.1.toNat g.2.2.toNat) (fo.mpr ⟨z,hd⟩) (by
  intro x J
  rcases br.mp J with rfl | J
  ·exact Ko hg c
  ·obtain⟨p,_,rfl⟩:=b9.mp J
   exact Ko hg p)
 rw[bE,ae] at this
 have e:=JX hg
 omega
def tY(h:mj g ps)(hp:p∈ps)(hq:q∈ps)(e:rst g p=rst g q):p=q:=by
 obtain⟨i,hi,rfl⟩:=hZ hp
 obtain⟨j,J,rfl⟩:=hZ hq
 unfold mj at h
 have O:i<(ps.map (rst g)).length:=by rw[ae];exact hi
 have U:j<(ps.map (rst g)).length:=by rw[ae];exact J
 have:(ps.map (rst g))[i]=(ps.map (rst g))[j]:=by rw[CA,CA];exact e
 have:=(xl h).mp this
 subst this;rfl
def sm(G:Nat->Int)(a:Nat):Nat->Int
 |0=>0
 |n+1=>sm G a n+G (a+n)
theorem dM(G:Nat->Int)(a m:Nat):∀n,sm G a (m+n)=sm G a m+sm G (a+m) n
 |0=>by show sm G a m=sm G a m+0;omega
 |n+1=>by
  show sm G a (m+n)+G (a+(m+n))=sm G a m+(sm G (a+m) n+G (a+m+n))
  rw[dM G a m n,BU a m n];omega
def BK(G:Nat->Int)(a n:Nat):sm G a (n+1)=G a+sm G (a+1) n:=by
 rw[zk n 1,dM]
 show 0+G (a+0)+_=_
 rw[nB];omega
theorem Tt{G:Nat->Int}{t:Nat}(h:∀i,G (i+t)=G i):∀a,sm G a t=sm G 0 t
 |0=>rfl
 |a+1=>by
  have e1:=BK G a t
  have J:sm G a (t+1)=sm G a t+G (a+t):=rfl
  rw[h] at J
  have:=Tt h a
  omega
theorem Q0(G:Nat->Int)(c e:Nat):∀n,n<=e->sm G c n+sm G (e-n) n=sm (λk=>G (c+k)+G (e-1-k)) 0 n
 |0,_=>rfl
 |n+1,h=>by
  have ih:=Q0 G c e n (by omega)
  rw[BK G (e-(n+1)) n]
  rw[show e-(n+1)+1=e-n from by grind]
  show sm G c n+G (c+n)+_=sm _ 0 n+(G (c+(0+n))+G (e-1-(0+n)))
  rw[←ih,iP,show e-(n+1)=e-1-n from by grind];grind
theorem Kd{G:Nat->Int}{a:Nat}:∀ {n:Nat},(∀k,k<n->G (a+k)=0)->sm G a n=0
 |0,_=>rfl
 |n+1,h=>by
  show sm G a n+G (a+n)=0
  rw[Kd λk hk=>h k (by omega),h n (by omega)];rfl
theorem uE{G K:Nat->Int}{a:Nat}:∀ {n:Nat},(∀k,k<n->G (a+k)=K (a+k))->sm G a n=sm K a n
 |0,_=>rfl
 |n+1,h=>by
  show sm G a n+G (a+n)=sm K a n+K (a+n)
  rw[uE λk hk=>h k (by omega),h n (by omega)]
theorem Rx(Y:Nat->Int)(v:Int)(a:Nat):∀n,sm (λk=>v*(Y (k+1)-Y k)) a n=v*(Y (a+n)-Y a)
 |0=>by show 0=v*(Y a-Y a);rw[Int.sub_self,fw]
 |n+1=>by
  show sm _ a n+v*(Y (a+n+1)-Y (a+n))=_
  rw[Rx Y v a n,←BA]
  congr 1
  rw[BU a n 1];omega
theorem Bf(G:Nat->Int):∀n,sm G 0 n=((bo n).map G).sum
 |0=>rfl
 |n+1=>by
  rw[pf,de,sf]
  show sm G 0 n+G (0+n)=_
  rw[Bf G n,iP];simp
def bz(a b:Pt):Pt:=(a.1-b.1,a.2-b.2)
def X7(a:Pt):Pt:=(-a.1,-a.2)
def od:Nat->Nat
 |0=>2
 |1=>3
 |2=>0
 |_=>1
def acG:od d<4:=by unfold od;split <;> omega
structure Wk(P:Nat->Pt)(D:Nat->Nat)(h:Nat):Prop where
 go:∀i,P (i+1)=kW (P i) (D i)
 lt:∀i,D i<4
 per:∀i,P (i+(h+h))=P i
 pd:∀i,D (i+(h+h))=D i
structure Sp(P:Nat->Pt)(D:Nat->Nat)(h c p:Nat)(v:Pt):Prop where
 lt:c<p
 le:p<=c+h
 pos:∀k,k<p-c->P (p+h-1-k)=bz (P (c+k+1)) v
 dir:∀k,k<p-c->D (p+h-1-k)=od (D (c+k))
section
variable{P:Nat->Pt}{D:Nat->Nat}{h:Nat}
def Sp.sum{c p:Nat}(s:Sp P D h c p v)(F:Pt->Nat->Int):sm (λi=>F (P i) (D i)) c (p-c)+sm (λi=>F (P i) (D i)) (c+h) (p-c)=sm (λi=>F (P i) (D i)+F (bz (P (i+1)) v) (od (D i))) c (p-c):=by
 have:=Q0 (λi=>F (P i) (D i)) c (p+h) (p-c) (by have:=s.le;omega)
 rw[show p+h-(p-c)=c+h from by have:=s.lt;omega] at this
 rw[this]
 have J:∀(G:Nat->Int) (n a:Nat),sm (λk=>G (a+k)) 0 n=sm G a n:=by
  intro G n a
  induction n with
  |zero=>rfl
  |succ n ih=>show sm _ 0 n+G (a+(0+n))=sm G a n+G (a+n);rw[ih,iP]
 rw[←J (λi=>F (P i) (D i)+F (bz (P (i+1)) v) (od (D i))) (p-c) c]
 refine uE λk O=>?_
 rw[iP]
 show F (P (c+k)) (D (c+k))+F (P (p+h-1-k)) (D (p+h-1-k))=_
 rw[s.pos k O,s.dir k O]
def Sp.zero(w:Wk P D h){c p:Nat}(s:Sp P D h c p v){F:Pt->Nat->Int}(hF:∀q d,d<4->F q d+F (bz (kW q d) v) (od d)=0):sm (λi=>F (P i) (D i)) c (p-c)+sm (λi=>F (P i) (D i)) (c+h) (p-c)=0:=by
 rw[s.sum F]
 refine Kd λk _=>?_
 rw[w.go]
 exact hF _ _ (w.lt _)
def Sp.Qd(w:Wk P D h){c p:Nat}(s:Sp P D h c p v):sm (λi=>(P i).1*(stp (D i)).2) c (p-c)+sm (λi=>(P i).1*(stp (D i)).2) (c+h) (p-c)=v.1*((P p).2-(P c).2):=by
 rw[s.sum (λq d=>q.1*(stp d).2)]
 have e:=Rx (λi=>(P i).2) v.1 c (p-c)
 rw[show c+(p-c)=p from by have:=s.lt;omega] at e
 rw[←e]
 refine uE λk _=>?_
 rw[w.go]
 have hd:=w.lt (c+k)
 generalize P (c+k)=q
 generalize D (c+k)=d at hd
 rcases c4 hd with rfl | rfl | rfl | rfl
 ·show q.1*0+(q.1+1-v.1)*0=v.1*(q.2+0-q.2);rw[fw,fw,show q.2+0-q.2=0 from by omega,fw];rfl
 ·show q.1*1+(q.1+0-v.1) * -1=v.1*(q.2+1-q.2);rw[show q.2+1-q.2=1 from by omega];omega
 ·show q.1*0+(q.1 + -1-v.1)*0=v.1*(q.2+0-q.2);rw[fw,fw,show q.2+0-q.2=0 from by omega,fw];rfl
 ·show q.1 * -1+(q.1+0-v.1)*1=v.1*(q.2 + -1-q.2);rw[show q.2 + -1-q.2 = -1 from by omega];omega
def Wk.sum(w:Wk P D h)(F:Pt->Nat->Int)(c:Nat):sm (λi=>F (P i) (D i)) 0 (h+h)=sm (λi=>F (P i) (D i)) c h+sm (λi=>F (P i) (D i)) (c+h) h:=by
 rw[←Tt (G:=λi=>F (P i) (D i)) (t:=h+h) (λi=>by show F (P (i+(h+h))) (D (i+(h+h)))=_;rw[w.per,w.pd]) c,dM]
theorem Sp.ends(w:Wk P D h){c p:Nat}(s:Sp P D h c p v):P (c+h)=bz (P p) v/\P (p+h)=bz (P c) v:=by
 have U:=s.lt
 have O:=s.le
 constructor
 ·have:=s.pos (p-c-1) (by omega)
  rw[show p+h-1-(p-c-1)=c+h from by omega,show c+(p-c-1)+1=p from by omega] at this
  exact this
 ·have J:=s.pos 0 (by omega)
  have d0:=s.dir 0 (by omega)
  rw[tN,nB] at J d0
  have e:=w.go (p+h-1)
  rw[show p+h-1+1=p+h from by omega,J,d0,w.go c] at e
  rw[e]
  have hd:=w.lt c
  generalize P c=q
  generalize D c=d at hd
  rcases c4 hd with rfl | rfl | rfl | rfl
  ·exact aI (by show q.1+1-v.1 + -1=q.1-v.1;grind) (by show q.2+0-v.2+0=q.2-v.2;omega)
  ·exact aI (by show q.1+0-v.1+0=q.1-v.1;omega) (by show q.2+1-v.2 + -1=q.2-v.2;grind)
  ·exact aI (by show q.1 + -1-v.1+1=q.1-v.1;grind) (by show q.2+0-v.2+0=q.2-v.2;omega)
  ·exact aI (by show q.1+0-v.1+0=q.1-v.1;omega) (by show q.2 + -1-v.2+1=q.2-v.2;grind)
def RQ(w:Wk P D h){a b:Nat}{u:Pt}(s1:Sp P D h a b u)(s2:Sp P D h b (a+h) v){F:Pt->Nat->Int}(h1:∀q d,d<4->F q d+F (bz (kW q d) u) (od d)=0)(h2:∀q d,d<4->F q d+F (bz (kW q d) v) (od d)=0):sm (λi=>F (P i) (D i)) 0 (h+h)=0:=by
 rw[w.sum F a]
 have U:=s1.zero w h1
 have Y:=s2.zero w h2
 have Z:=s1.lt
 have l2:=s2.lt
 have J:=dM (λi=>F (P i) (D i)) a (b-a) (a+h-b)
 have O:=dM (λi=>F (P i) (D i)) (a+h) (b-a) (a+h-b)
 rw[show b-a+(a+h-b)=h from by omega] at J O
 rw[show a+(b-a)=b from by omega] at J
 rw[show a+h+(b-a)=b+h from by omega] at O
 omega
theorem Gr(w:Wk P D h){a b c:Nat}{u x:Pt}(s1:Sp P D h a b u)(s2:Sp P D h b c v)(s3:Sp P D h c (a+h) x){F:Pt->Nat->Int}(h1:∀q d,d<4->F q d+F (bz (kW q d) u) (od d)=0)(h2:∀q d,d<4->F q d+F (bz (kW q d) v) (od d)=0)(h3:∀q d,d<4->F q d+F (bz (kW q d) x) (od d)=0):sm (λi=>F (P i) (D i)) 0 (h+h)=0:=by
 rw[w.sum F a]
 have Z:=s1.zero w h1
 have z2:=s2.zero w h2
 have z3:=s3.zero w h3
 have l1:=s1.lt
 have l2:=s2.lt
 have l3:=s3.lt
 have J:=dM (λi=>F (P i) (D i)) a (b-a) (a+h-b)
 have O:=dM (λi=>F (P i) (D i)) (a+h) (b-a) (a+h-b)
 have U:=dM (λi=>F (P i) (D i)) b (c-b) (a+h-c)
 have Y:=dM (λi=>F (P i) (D i)) (b+h) (c-b) (a+h-c)
 rw[show b-a+(a+h-b)=h from by grind] at J O
 rw[show c-b+(a+h-c)=a+h-b from by grind] at U Y
 rw[show a+(b-a)=b from by grind] at J
 rw[show a+h+(b-a)=b+h from by grind] at O
 rw[show b+(c-b)=c from by omega] at U
 rw[show b+h+(c-b)=c+h from by omega] at Y
 omega
theorem Bw(w:Wk P D h){a b:Nat}{u:Pt}(s1:Sp P D h a b u)(s2:Sp P D h b (a+h) v):sm (λi=>(P i).1*(stp (D i)).2) 0 (h+h)=Fq u v:=by
 rw[w.sum (λq d=>q.1*(stp d).2) a]
 have Z:=s1.Qd w
 have J:=s2.Qd w
 have l1:=s1.lt
 have l2:=s2.lt
 have O:=dM (λi=>(P i).1*(stp (D i)).2) a (b-a) (a+h-b)
 have U:=dM (λi=>(P i).1*(stp (D i)).2) (a+h) (b-a) (a+h-b)
 rw[show b-a+(a+h-b)=h from by grind] at O U
 rw[show a+(b-a)=b from by grind] at O
 rw[show a+h+(b-a)=b+h from by grind] at U
 obtain⟨p1,p2⟩:=s1.ends w
 obtain⟨p3,Y⟩:=s2.ends w
 rw[show a+h+h=a+(h+h) from by grind,w.per] at Y
 have y1:(P (a+h)).2=(P b).2-u.2:=congrArg gE p1
 have y4:(P a).2=(P b).2-v.2:=congrArg gE Y
 rw[show (P b).2-(P a).2=v.2 from by omega] at Z
 rw[show (P (a+h)).2-(P b).2 = -u.2 from by grind] at J
 unfold Fq
 rw[OZ,ia v.1 u.2] at J
 omega
theorem wD(w:Wk P D h){a b c:Nat}{u x:Pt}(s1:Sp P D h a b u)(s2:Sp P D h b c v)(s3:Sp P D h c (a+h) x):v=(u.1+x.1,u.2+x.2)/\sm (λi=>(P i).1*(stp (D i)).2) 0 (h+h)=Fq u x:=by
 rw[w.sum (λq d=>q.1*(stp d).2) a]
 have z1:=s1.Qd w
 have z2:=s2.Qd w
 have z3:=s3.Qd w
 have l1:=s1.lt
 have l2:=s2.lt
 have l3:=s3.lt
 have O:=dM (λi=>(P i).1*(stp (D i)).2) a (b-a) (a+h-b)
 have U:=dM (λi=>(P i).1*(stp (D i)).2) (a+h) (b-a) (a+h-b)
 have Y:=dM (λi=>(P i).1*(stp (D i)).2) b (c-b) (a+h-c)
 have Z:=dM (λi=>(P i).1*(stp (D i)).2) (b+h) (c-b) (a+h-c)
 rw[show b-a+(a+h-b)=h from by grind] at O U
 rw[show c-b+(a+h-c)=a+h-b from by grind] at Y Z
 rw[show a+(b-a)=b from by grind] at O
 rw[show a+h+(b-a)=b+h from by grind] at U
 rw[show b+(c-b)=c from by omega] at Y
 rw[show b+h+(c-b)=c+h from by grind] at Z
 obtain⟨p1,p2⟩:=s1.ends w
 obtain⟨p3,p4⟩:=s2.ends w
 obtain⟨p5,J⟩:=s3.ends w
 rw[show a+h+h=a+(h+h) from by grind,w.per] at J
 have x1:(P (a+h)).1=(P b).1-u.1:=congrArg hV p1
 have x2:(P (b+h)).1=(P a).1-u.1:=congrArg hV p2
 have x3:(P (b+h)).1=(P c).1-v.1:=congrArg hV p3
 have x6:(P a).1=(P c).1-x.1:=congrArg hV J
 have y1:(P (a+h)).2=(P b).2-u.2:=congrArg gE p1
 have y2:(P (b+h)).2=(P a).2-u.2:=congrArg gE p2
 have y3:(P (b+h)).2=(P c).2-v.2:=congrArg gE p3
 have y6:(P a).2=(P c).2-x.2:=congrArg gE J
 have ev:v.1=u.1+x.1:=by grind
 refine⟨aI ev (by show v.2=u.2+x.2;grind),?_⟩
 rw[ev,vS] at z2
 have k1:u.1*((P b).2-(P a).2)+u.1*((P c).2-(P b).2)=u.1*x.2:=by rw[←BA];congr 1;grind
 have k2:x.1*((P c).2-(P b).2)+x.1*((P (a+h)).2-(P c).2) = -(u.2*x.1):=by rw[←BA,ia u.2 x.1,←OZ];congr 1;grind
 unfold Fq
 omega
end
section
variable{S:List Pt}
def T5(g:Dg S)(nd:S.Nodup)(hq:bH S q)(r:cQ S q t):((bo t).map (az S q)).Perm (jL S S):=by
 refine (eS ?_ (uf g nd λ_ h=>h)).mpr λp=>?_
 ·rw[ax,dS]
  refine mw (λ{a b} _ O J=>r.inj a b J (b6.mp O)) ll
 ·rw[qi,b9]
  constructor
  ·rintro⟨i,_,rfl⟩
   obtain⟨d,e⟩:=aP hq i
   exact⟨_,e.l,d,e.lt,by rw[←Le e.lt,←ji e.lt];exact e.r,ji e.lt⟩
  ·rintro⟨c,U,d,h1,h2,rfl⟩
   obtain⟨m,Y,e⟩:=r.all _ ⟨d,gM U h1 h2⟩
   exact⟨m,b6.mpr Y,e.symm⟩
def uh(S:List Pt)(F:Pt->Nat->Int)(c:Pt)(d:Nat):Int:=if (!decide (tW c d∈S))=true then F (gO c d) d else 0
def Nr(g:Dg S)(F:Pt->Nat->Int)(hc:c∈S):((((bo 4).filter λd=>!decide (tW c d∈S)).map (gO c)).map λp=>F p (outD S p)).sum=uh S F c 0+(uh S F c 1+(uh S F c 2+(uh S F c 3+0))):=by
 rw[dP]
 have e:(((bo 4).filter λd=>!decide (tW c d∈S)).map ((λp=>F p (outD S p))∘gO c))=(((bo 4).filter λd=>!decide (tW c d∈S)).map λd=>F (gO c d) d):=by
  refine d6 λd hd=>?_
  have k:=dn.mp hd
  have J:=gM hc (b6.mp k.1) (by simpa using k.2)
  show F (gO c d) (outD S (gO c d))=_
  rw[f9 g (aQ ⟨d,J⟩) J]
 rw[e,gV (λd=>!decide (tW c d∈S)) (λd=>F (gO c d) d)]
 rfl
theorem Km(g:Dg S)(F:Pt->Nat->Int):∀ {cs:List Pt},(∀c∈cs,c∈S)->((jL S cs).map λp=>F p (outD S p)).sum=(cs.map λc=>uh S F c 0+(uh S F c 1+(uh S F c 2+(uh S F c 3+0)))).sum
 |[],_=>rfl
 |c::cs,h=>by
  have e:jL S (c::cs)=((bo 4).filter λd=>!decide (tW c d∈S)).map (gO c)++jL S cs:=by simp[jL]
  rw[e,de,sf,Nr g F (h c (by simp)),Km g F λx J=>h x (by simp[J]),aE,e9]
def Fw(g:Dg S)(nd:S.Nodup)(hq:bH S q)(r:cQ S q t)(F:Pt->Nat->Int):sm (λi=>F (az S q i) (outD S (az S q i))) 0 t=(S.map λc=>uh S F c 0+(uh S F c 1+(uh S F c 2+(uh S F c 3+0)))).sum:=by
 have J:=IV ((T5 g nd hq r).map λp=>F p (outD S p))
 rw[dP] at J
 rw[Bf,←Km g F λ_ h=>h,←J]
 rfl
def Rb(nd:S.Nodup)(e:Pt)(φ:Pt->Int):(S.map λc=>if decide (fO e c∈S)=true then φ (fO e c) else 0).sum=(S.map λc=>if decide (bz c e∈S)=true then φ c else 0).sum:=by
 rw[←gV (λc:Pt=>decide (fO e c∈S)) (λc=>φ (fO e c)),←gV (λc:Pt=>decide (bz c e∈S)) φ]
 have back:∀c,bz (fO e c) e=c:=λc=>aI (by show c.1+e.1-e.1=c.1;omega) (by show c.2+e.2-e.2=c.2;omega)
 have J:∀c,fO e (bz c e)=c:=λc=>aI (by show c.1-e.1+e.1=c.1;omega) (by show c.2-e.2+e.2=c.2;omega)
 have U:((S.filter λc=>decide (fO e c∈S)).map (fO e)).Perm (S.filter λc=>decide (bz c e∈S)):=by
  refine (eS ?_ (nd.filter _)).mpr λq=>?_
  ·rw[ax,dS]
   exact (ax.mp (nd.filter _)).imp λ{a b} O z=>O (by rw[←back a,z,back])
  ·rw[b9,dn,decide_eq_true_iff]
   constructor
   ·rintro⟨c,Y,rfl⟩
    have:=dn.mp Y
    exact⟨by simpa using this.2,by rw[back];exact this.1⟩
   ·rintro⟨h1,h2⟩
    exact⟨bz q e,dn.mpr ⟨h2,by rw[decide_eq_true_iff,J];exact h1⟩,J q⟩
 have:=IV (U.map φ)
 rw[dP] at this
 exact this
def xP(nd:S.Nodup)(e:Pt)(φ:Pt->Int):(S.map λc=>(if decide (fO e c∈S)=true then 0 else φ (fO e c))+(if decide (bz c e∈S)=true then 0 else -φ c)).sum=(S.map λc=>φ (fO e c)).sum-(S.map φ).sum:=by
 have O:=Rb nd e φ
 have J:(S.map λc=>((if decide (fO e c∈S)=true then 0 else φ (fO e c))+(if decide (bz c e∈S)=true then 0 else -φ c))+((if decide (fO e c∈S)=true then φ (fO e c) else 0)+φ c)).sum=(S.map λc=>φ (fO e c)+(if decide (bz c e∈S)=true then φ c else 0)).sum:=by
  congr 1
  refine d6 λc _=>?_
  cases decide (fO e c∈S) <;> cases decide (bz c e∈S) <;> simp <;> omega
 rw[sum_add,sum_add (λc:Pt=>if decide (fO e c∈S)=true then φ (fO e c) else 0) φ,sum_add (λc:Pt=>φ (fO e c)) λc=>if decide (bz c e∈S)=true then φ c else 0] at J
 omega
def FU(φ:Pt->Int)(p:Pt)(d:Nat):Int:=if d=1 then φ (p.1,p.2) else if d=3 then -φ (p.1,p.2-1) else 0
def FV(φ:Pt->Int)(p:Pt)(d:Nat):Int:=if d=2 then φ (p.1-1,p.2) else if d=0 then -φ (p.1,p.2) else 0
def abL(g:Dg S)(nd:S.Nodup)(hq:bH S q)(r:cQ S q t)(φ:Pt->Int):sm (λi=>FU φ (az S q i) (outD S (az S q i))) 0 t=(S.map λc=>φ (fO (1,0) c)).sum-(S.map φ).sum:=by
 rw[Fw g nd hq r,←xP nd (1,0) φ]
 congr 1
 refine d6 λc _=>?_
 have J:fO (1,0) c=(c.1+1,c.2):=aI rfl (by show c.2+0=c.2;omega)
 have O:bz c (1,0)=(c.1-1,c.2):=aI rfl (by show c.2-0=c.2;omega)
 rw[J,O]
 have U:uh S (FU φ) c 0=0:=by unfold uh;rw[show FU φ (gO c 0) 0=0 from rfl];split <;> rfl
 have f2:uh S (FU φ) c 2=0:=by unfold uh;rw[show FU φ (gO c 2) 2=0 from rfl];split <;> rfl
 have f1:uh S (FU φ) c 1=if (!decide ((c.1+1,c.2)∈S))=true then φ (c.1+1,c.2) else 0:=rfl
 have Y:uh S (FU φ) c 3=if (!decide ((c.1-1,c.2)∈S))=true then -φ (c.1,c.2+1-1) else 0:=rfl
 rw[U,f1,f2,Y,show c.2+1-1=c.2 from by omega]
 cases decide ((c.1+1,c.2)∈S) <;> cases decide ((c.1-1,c.2)∈S) <;> simp <;> omega
def Z2(g:Dg S)(nd:S.Nodup)(hq:bH S q)(r:cQ S q t)(φ:Pt->Int):sm (λi=>FV φ (az S q i) (outD S (az S q i))) 0 t=(S.map λc=>φ (fO (0,1) c)).sum-(S.map φ).sum:=by
 rw[Fw g nd hq r,←xP nd (0,1) φ]
 congr 1
 refine d6 λc _=>?_
 have J:fO (0,1) c=(c.1,c.2+1):=aI (by show c.1+0=c.1;omega) rfl
 have O:bz c (0,1)=(c.1,c.2-1):=aI (by show c.1-0=c.1;omega) rfl
 rw[J,O]
 have f1:uh S (FV φ) c 1=0:=by unfold uh;rw[show FV φ (gO c 1) 1=0 from rfl];split <;> rfl
 have U:uh S (FV φ) c 3=0:=by unfold uh;rw[show FV φ (gO c 3) 3=0 from rfl];split <;> rfl
 have f2:uh S (FV φ) c 2=if (!decide ((c.1,c.2+1)∈S))=true then φ (c.1+1-1,c.2+1) else 0:=rfl
 have Y:uh S (FV φ) c 0=if (!decide ((c.1,c.2-1)∈S))=true then -φ c else 0:=rfl
 rw[Y,f1,f2,U,show c.1+1-1=c.1 from by omega]
 cases decide ((c.1,c.2+1)∈S) <;> cases decide ((c.1,c.2-1)∈S) <;> simp <;> omega
def VD{φ:Pt->Int}(h:∀c,φ (bz c v)=φ c)(q:Pt)(d:Nat)(hd:d<4):FU φ q d+FU φ (bz (kW q d) v) (od d)=0:=by
 rcases c4 hd with rfl | rfl | rfl | rfl
 ·rfl
 ·show φ (q.1,q.2) + -φ (q.1+0-v.1,q.2+1-v.2-1)=0
  have:=h (q.1,q.2)
  rw[show bz (q.1,q.2) v=(q.1+0-v.1,q.2+1-v.2-1) from aI (by show q.1-v.1=_;omega) (by show q.2-v.2=_;omega)] at this
  omega
 ·rfl
 ·show -φ (q.1,q.2-1)+φ (q.1+0-v.1,q.2 + -1-v.2)=0
  have:=h (q.1,q.2-1)
  rw[show bz (q.1,q.2-1) v=(q.1+0-v.1,q.2 + -1-v.2) from aI (by show q.1-v.1=_;omega) (by show q.2-1-v.2=_;omega)] at this
  omega
def Xg{φ:Pt->Int}(h:∀c,φ (bz c v)=φ c)(q:Pt)(d:Nat)(hd:d<4):FV φ q d+FV φ (bz (kW q d) v) (od d)=0:=by
 rcases c4 hd with rfl | rfl | rfl | rfl
 ·show -φ (q.1,q.2)+φ (q.1+1-v.1-1,q.2+0-v.2)=0
  have:=h (q.1,q.2)
  rw[show bz (q.1,q.2) v=(q.1+1-v.1-1,q.2+0-v.2) from aI (by show q.1-v.1=_;omega) (by show q.2-v.2=_;omega)] at this
  omega
 ·rfl
 ·show φ (q.1-1,q.2) + -φ (q.1 + -1-v.1,q.2+0-v.2)=0
  have:=h (q.1-1,q.2)
  rw[show bz (q.1-1,q.2) v=(q.1 + -1-v.1,q.2+0-v.2) from aI (by show q.1-1-v.1=_;omega) (by show q.2-v.2=_;omega)] at this
  omega
 ·rfl
end
def Ba(hg:oK g):rst g p=rst g q↔bV (g.1,0) (g.2.1,g.2.2) (bz q p):=by
 have k:=adl (x:=p.1) (y:=p.2) (x':=q.1) (y':=q.2) hg
 constructor
 ·intro e
  obtain⟨i,j,h1,h2⟩:=k.mp ⟨congrArg hV e,congrArg gE e⟩
  exact⟨i,j,h1,by show q.2-p.2=i*0+j*g.2.2;rw[fw,ko];exact h2⟩
 ·rintro⟨i,j,h1,h2⟩
  have J:q.2-p.2=i*0+j*g.2.2:=h2
  rw[fw,ko] at J
  obtain⟨O,U⟩:=k.mpr ⟨i,j,h1,J⟩
  exact aI O U
def qZ(hg:oK g)(hv:bV (g.1,0) (g.2.1,g.2.2) v)(c:Pt):rst g (bz c v)=rst g c:=by
 rw[Ba hg,show bz c (bz c v)=v from aI (by show c.1-(c.1-v.1)=v.1;omega) (by show c.2-(c.2-v.2)=v.2;omega)]
 exact hv
def qF(g:Tr)(z c:Pt):Int:=if rst g c=rst g z then 1 else 0
def ZP(hg:oK g)(e z c:Pt):qF g (fO e z) (fO e c)=qF g z c:=by
 unfold qF
 have:(rst g (fO e c)=rst g (fO e z))↔(rst g c=rst g z):=by
  rw[Ba hg,Ba hg,show bz (fO e z) (fO e c)=bz z c from aI (by show z.1+e.1-(c.1+e.1)=z.1-c.1;omega) (by show z.2+e.2-(c.2+e.2)=z.2-c.2;omega)]
 by_cases h:rst g c=rst g z
 ·rw[if_pos h,if_pos (this.mpr h)]
 ·rw[if_neg h,if_neg (λz=>h (this.mp z))]
theorem Sy:∀l:List Pt,(l.map λ_=>(0:Int)).sum=0
 |[]=>rfl
 |_::l=>by rw[aE,e9,Sy l];rfl
theorem T6(g:Tr)(z:Pt):∀l:List Pt,0<=(l.map (qF g z)).sum/\((l.map (qF g z)).sum=0->∀c∈l,rst g c≠rst g z)
 |[]=>⟨Bz _,λ_ c hc=>by simp at hc⟩
 |c::l=>by
  obtain⟨h1,h2⟩:=T6 g z l
  rw[aE,e9]
  by_cases h:rst g c=rst g z
  ·have e:qF g z c=1:=by unfold qF;rw[if_pos h]
   rw[e]
   exact⟨by omega,λk=>by omega⟩
  ·have e:qF g z c=0:=by unfold qF;rw[if_neg h]
   rw[e]
   refine⟨by omega,λk x J=>?_⟩
   rcases br.mp J with rfl | J
   ·exact h
   ·exact h2 (by omega) x J
section
variable{S:List Pt}{q:Pt}{t:Nat}{g:Tr}
def Bal(S:List Pt)(q:Pt)(t:Nat)(g:Tr):Prop:=∀F:Pt->Nat->Int,(∀v,bV (g.1,0) (g.2.1,g.2.2) v->∀p d,d<4->F p d+F (bz (kW p d) v) (od d)=0)->sm (λi=>F (az S q i) (outD S (az S q i))) 0 t=0
def xY(dg:Dg S)(nd:S.Nodup)(hq:bH S q)(r:cQ S q t)(hg:oK g)(b:Bal S q t g)(z:Pt):(S.map (qF g (fO (1,0) z))).sum=(S.map (qF g z)).sum/\(S.map (qF g (fO (0,1) z))).sum=(S.map (qF g z)).sum:=by
 have per:∀w v,bV (g.1,0) (g.2.1,g.2.2) v->∀c,qF g w (bz c v)=qF g w c:=λw v J c=>by unfold qF;rw[qZ hg J]
 have O:=abL dg nd hq r (qF g (fO (1,0) z))
 rw[b _ λv J=>VD (per _ v J)] at O
 have U:=Z2 dg nd hq r (qF g (fO (0,1) z))
 rw[b _ λv J=>Xg (per _ v J)] at U
 simp only[ZP hg] at O U
 exact⟨by show _=(S.map λc=>qF g z c).sum;omega,by show _=(S.map λc=>qF g z c).sum;omega⟩
theorem mK(dg:Dg S)(nd:S.Nodup)(hq:bH S q)(r:cQ S q t)(hg:oK g)(b:Bal S q t g):∀(m n:Nat) (z:Pt),(S.map (qF g (z.1+m,z.2+n))).sum=(S.map (qF g z)).sum
 |0,0,z=>by rw[show (z.1+((0:Nat):Int),z.2+((0:Nat):Int))=z from aI (by show z.1+0=z.1;omega) (by show z.2+0=z.2;omega)]
 |0,n+1,z=>by
  rw[←mK dg nd hq r hg b 0 n z,←(xY dg nd hq r hg b (z.1+((0:Nat):Int),z.2+(n:Int))).2]
  rw[show fO (0,1) (z.1+((0:Nat):Int),z.2+(n:Int))=(z.1+((0:Nat):Int),z.2+((n+1:Nat):Int)) from aI (by show z.1+((0:Nat):Int)+0=z.1+((0:Nat):Int);omega) (by show z.2+(n:Int)+1=z.2+((n+1:Nat):Int);omega)]
 |m+1,n,z=>by
  rw[←mK dg nd hq r hg b m n z,←(xY dg nd hq r hg b (z.1+(m:Int),z.2+(n:Int))).1]
  rw[show fO (1,0) (z.1+(m:Int),z.2+(n:Int))=(z.1+((m+1:Nat):Int),z.2+(n:Int)) from aI (by show z.1+(m:Int)+1=z.1+((m+1:Nat):Int);omega) (by show z.2+(n:Int)+0=z.2+(n:Int);omega)]
theorem SM(dg:Dg S)(nd:S.Nodup)(hq:bH S q)(r:cQ S q t)(hg:oK g)(b:Bal S q t g)(z:Pt):rst g z∈S.map (rst g):=by
 obtain⟨d,e⟩:=hq
 have Y:=e.l
 generalize bM q d=c at Y
 have U:∀w:Pt,(S.map (qF g w)).sum=(S.map (qF g (min w.1 c.1,min w.2 c.2))).sum:=by
  intro w
  have:=mK dg nd ⟨d,e⟩ r hg b (w.1-min w.1 c.1).toNat (w.2-min w.2 c.2).toNat (min w.1 c.1,min w.2 c.2)
  rw[←this]
  congr 3
  exact aI (by show w.1=min w.1 c.1+_;grind) (by show w.2=min w.2 c.2+_;grind)
 have J:(S.map (qF g c)).sum=(S.map (qF g (min z.1 c.1,min z.2 c.2))).sum:=by
  have:=mK dg nd ⟨d,e⟩ r hg b (c.1-min z.1 c.1).toNat (c.2-min z.2 c.2).toNat (min z.1 c.1,min z.2 c.2)
  rw[←this]
  congr 3
  exact aI (by show c.1=min z.1 c.1+_;grind) (by show c.2=min z.2 c.2+_;grind)
 have O:=(U z).trans J.symm
 apply cn
 intro Z
 have z0:(S.map (qF g z)).sum=0:=by
  have:S.map (qF g z)=S.map λ_=>(0:Int):=d6 λx hx=>by
   unfold qF
   rw[if_neg λe=>Z (by rw[←e];exact List.mem_map_of_mem hx)]
  rw[this]
  exact Sy S
 exact (T6 g c S).2 (by rw[←O];exact z0) c Y rfl
end
theorem Bu{α:Type}[DecidableEq α]:∀ {l m:List α},m.Nodup->(∀x∈m,x∈l)->l.length<=m.length->l.Nodup
 |[],_,_,_,_=>oa
 |x::l,m,nd,hs,hl=>by
  have hx:x∉l:=λhx=>by
   have:=sub_len (xs:=m) (ys:=l) nd λy J=>by
    rcases br.mp (hs y J) with rfl | h
    ·exact hx
    ·exact h
   rw[bE] at hl;omega
  refine fo.mpr ⟨hx,Bu (m:=m.erase x) (nd.erase x) (λy J=>?_) ?_⟩
  ·have h2:=(nd.mem_erase_iff).mp J
   rcases br.mp (hs y h2.2) with h | h
   ·exact absurd h h2.1
   ·exact h
  ·rw[bE] at hl
   by_cases h:x∈m
   ·rw[jv h];omega
   ·rw[List.erase_of_not_mem h];omega
def Xp(a d:Nat):(xn a d).Nodup:=by
 unfold xn
 rw[ax,D5]
 refine⟨λl O=>?_,?_⟩
 ·obtain⟨x,_,rfl⟩:=b9.mp O
  rw[dS]
  exact (ax.mp ml).imp λ{i j} J z=>J (by have:=(Prod.mk.inj z).2;omega)
 ·rw[dS]
  refine (ax.mp ml).imp λ{i j} J u U v Y z=>J ?_
  obtain⟨_,_,rfl⟩:=b9.mp U
  obtain⟨_,_,rfl⟩:=b9.mp Y
  have:=(Prod.mk.inj z).1
  omega
def SX{a d:Int}(hg:fH a b d)(hp:p∈xn a.toNat d.toNat):rst (a,b,d) p=p:=by
 unfold xn at hp
 obtain⟨l,J,O⟩:=rf.mp hp
 obtain⟨x,U,rfl⟩:=b9.mp J
 obtain⟨y,Y,rfl⟩:=b9.mp O
 rw[b6] at U Y
 have e:((y:Nat):Int) / d=0:=Int.ediv_eq_zero_of_lt (by omega) (by omega)
 unfold rst rsX Hi
 dsimp only
 rw[e,xc,zo,II (by omega) (by omega),II (by omega) (by omega)]
def TJ(hg:oK g)(hn:g.1*g.2.2=S.length)(h:∀z,rst g z∈S.map (rst g)):mj g S:=by
 obtain⟨a,b,d⟩:=g
 have e:=JX hg
 refine Bu (Xp a.toNat d.toNat) (λp J=>?_) (by rw[ae];dsimp only at e hn;omega)
 have:=h p
 rw[SX hg J] at this
 exact this
structure jg(ps:List Pt)(e b d:Int):Prop where
 e0:0<e
 b0:0<=b
 b1:b<e
 d0:0<d
 grp:∀G,yR G->(∀p∈ps,G p)->G (e,0)/\G (b,d)
 ins:∀p∈ps,bV (e,0) (b,d) p
def Wide(ps:List Pt):Prop:=∃p∈ps,∃q∈ps,Fq p q≠0
def jg.det{e d n:Int}{u x:Pt}(G:jg ps e b d)(hu:u∈ps)(hx:x∈ps)(hall:∀p∈ps,bV u x p)(hc:Fq u x=n)(hn:0<n):e*d=n:=by
 obtain⟨U,Y⟩:=G.grp (bV u x) (bV.grp u x) hall
 obtain⟨k,J⟩:=Jb U Y
 obtain⟨l,O⟩:=Jb (G.ins u hu) (G.ins x hx)
 have Z:Fq (e,0) (b,d)=e*d:=by show e*d-0*b=e*d;rw[xc,zo]
 rw[Z] at J O
 rw[hc] at J O
 have:=KU G.e0 G.d0
 exact CC (by omega) (by omega) ⟨l,by rw[O,ia]⟩ ⟨k,by rw[J,ia]⟩
inductive tV(P:Nat->Pt)(D:Nat->Nat)(h:Nat):List Nat->List Pt->Prop
 |two {a b:Nat} {u v:Pt} (hb:b<h) (s1:Sp P D h a b u) (s2:Sp P D h b (a+h) v):tV P D h [a,b] [u,v]
 |thr {a b c:Nat} {u v x:Pt} (hc:c<h) (s1:Sp P D h a b u) (s2:Sp P D h b c v) (s3:Sp P D h c (a+h) x):tV P D h [a,b,c] [u,v,x]
section
variable{P:Nat->Pt}{D:Nat->Nat}{h:Nat}{cs:List Nat}{vs:List Pt}
def tV.zero(w:Wk P D h)(p:tV P D h cs vs){F:Pt->Nat->Int}(hF:∀v∈vs,∀q d,d<4->F q d+F (bz (kW q d) v) (od d)=0):sm (λi=>F (P i) (D i)) 0 (h+h)=0:=by
 cases p with
 |two hb s1 s2=>exact RQ w s1 s2 (hF _ (by simp)) (hF _ (by simp))
 |thr hc s1 s2 s3=>exact Gr w s1 s2 s3 (hF _ (by simp)) (hF _ (by simp)) (hF _ (by simp))
def tV.base(w:Wk P D h)(p:tV P D h cs vs):∃u∈vs,∃x∈vs,(∀v∈vs,bV u x v)/\Fq u x=sm (λi=>(P i).1*(stp (D i)).2) 0 (h+h):=by
 cases p with
 |@two a b u v hb s1 s2=>
  refine⟨u,by simp,v,by simp,λy J=>?_,(Bw w s1 s2).symm⟩
  simp only[br,dc,or_false] at J
  rcases J with rfl | rfl
  ·exact bV.left _ _
  ·exact bV.right _ _
 |@thr a b c u v x hc s1 s2 s3=>
  obtain⟨O,e⟩:=wD w s1 s2 s3
  refine⟨u,by simp,x,by simp,λy J=>?_,e.symm⟩
  simp only[br,dc,or_false] at J
  rcases J with rfl | rfl | rfl
  ·exact bV.left _ _
  ·exact⟨1,1,by rw[O];show u.1+x.1=_;omega,by rw[O];show u.2+x.2=_;omega⟩
  ·exact bV.right _ _
end
def iW{h:Nat}(r:cQ S q (h+h)):Wk (az S q) (λi=>outD S (az S q i)) h:=by
 have per:∀i,az S q (i+(h+h))=az S q i:=λi=>by rw[zk,bD,r.back]
 exact⟨λ_=>rfl,λ_=>dw,per,λi=>congrArg (outD S) (per i)⟩
section
variable{S:List Pt}{q:Pt}{h:Nat}{cs:List Nat}{vs:List Pt}{e b d:Int}
def qp(r:cQ S q (h+h))(dg:Dg S)(nd:S.Nodup)(hq:bH S q):sm (λi=>(az S q i).1*(stp (outD S (az S q i))).2) 0 (h+h)=S.length:=by
 rw[←Uu dg nd hq r,Pb,Bf];rfl
def tV.lays(dg:Dg S)(nd:S.Nodup)(hq:bH S q)(r:cQ S q (h+h))(hl:S.length<=1000)(p:tV (az S q) (λi=>outD S (az S q i)) h cs vs)(G:jg vs e b d):e*d=S.length/\fH e b d/\mj (e,b,d) S/\∀z,rst (e,b,d) z∈S.map (rst (e,b,d)):=by
 have w:=iW r
 have O:(0:Int)<S.length:=by
  obtain⟨k,Z⟩:=hq
  have:=fF Z.l
  omega
 obtain⟨u,hu,x,hx,U,hc⟩:=p.base w
 have Y:e*d=S.length:=by
  refine G.det hu hx U (hc.trans (qp r dg nd hq)) O
 have e0:=G.e0
 have d0:=G.d0
 have h1:e*1<=e*d:=ri (by omega) (by omega)
 have h2:1*d<=e*d:=ix (by omega) (by omega)
 have J:∀n:Int,0<n->n<=1000->Bt 4000 n:=λn h0 Y=>Bt.mono (m:=10) (by unfold Bt;show n.natAbs<2 ^ 10;omega) (by decide)
 have hg:fH e b d:=⟨e0,G.b0,G.b1,d0,J e e0 (by omega),J d d0 (by omega)⟩
 have all:=SM dg nd hq r (g:=(e,b,d)) hg λF hF=>p.zero w λv hv=>hF v (G.ins v hv)
 exact⟨Y,hg,TJ (g:=(e,b,d)) hg Y all,all⟩
def tV.wide(dg:Dg S)(nd:S.Nodup)(hq:bH S q)(r:cQ S q (h+h))(p:tV (az S q) (λi=>outD S (az S q i)) h cs vs):Wide vs:=by
 obtain⟨u,J,x,O,_,U⟩:=p.base (iW r)
 refine⟨u,J,x,O,?_⟩
 rw[U,qp r dg nd hq]
 obtain⟨k,Y⟩:=hq
 have:=fF Y.l
 omega
end
def Ii(hd:d<4):bM (bz (kW p d) v) (od d)=bz (eV p d) v/\eV (bz (kW p d) v) (od d)=bz (bM p d) v:=by
 rcases c4 hd with rfl | rfl | rfl | rfl
 ·exact⟨aI (by show p.1+1-v.1-1=p.1-v.1;omega) (by show p.2+0-v.2-1=p.2-1-v.2;omega),aI (by show p.1+1-v.1-1=p.1-v.1;omega) (by show p.2+0-v.2=p.2-v.2;omega)⟩
 ·exact⟨aI (by show p.1+0-v.1=p.1-v.1;omega) (by show p.2+1-v.2-1=p.2-v.2;omega),aI (by show p.1+0-v.1-1=p.1-1-v.1;omega) (by show p.2+1-v.2-1=p.2-v.2;omega)⟩
 ·exact⟨aI (by show p.1 + -1-v.1=p.1-1-v.1;omega) (by show p.2+0-v.2=p.2-v.2;omega),aI (by show p.1 + -1-v.1=p.1-1-v.1;omega) (by show p.2+0-v.2-1=p.2-1-v.2;omega)⟩
 ·exact⟨aI (by show p.1+0-v.1-1=p.1-1-v.1;omega) (by show p.2 + -1-v.2=p.2-1-v.2;omega),aI (by show p.1+0-v.1=p.1-v.1;omega) (by show p.2 + -1-v.2=p.2-1-v.2;omega)⟩
def Bq(S:List Pt)(q:Pt)(g:Tr)(i:Nat)(v:Pt):Prop:=bz (eV (az S q i) (outD S (az S q i))) v∈S/\bV (g.1,0) (g.2.1,g.2.2) v
section
variable{S:List Pt}{q:Pt}{h:Nat}{g:Tr}
def Bq.uniq(hg:oK g)(hd:mj g S){w:Pt}(a:Bq S q g i v)(b:Bq S q g i w):v=w:=by
 have:=tY hd a.1 b.1 (by rw[qZ hg a.2,qZ hg b.2])
 generalize eV (az S q i) (outD S (az S q i))=z at this
 have J:z.1-v.1=z.1-w.1:=congrArg hV this
 have O:z.2-v.2=z.2-w.2:=congrArg gE this
 exact aI (by omega) (by omega)
def Bq.per(r:cQ S q (h+h)):Bq S q g (i+(h+h)) v↔Bq S q g i v:=by unfold Bq;rw[(iW r).per]
theorem Sp.nbr(hq:bH S q){c p:Nat}(s:Sp (az S q) (λi=>outD S (az S q i)) h c p v)(hv:bV (g.1,0) (g.2.1,g.2.2) v):(∀i,c<=i->i<p->Bq S q g i v)/\∀i,c+h<=i->i<p+h->Bq S q g i (X7 v):=by
 have J:∀k,k<p-c->bM (az S q (p+h-1-k)) (outD S (az S q (p+h-1-k)))=bz (eV (az S q (c+k)) (outD S (az S q (c+k)))) v/\eV (az S q (p+h-1-k)) (outD S (az S q (p+h-1-k)))=bz (bM (az S q (c+k)) (outD S (az S q (c+k)))) v:=λk O=>by
  have h1:=s.pos k O
  have h2:=s.dir k O
  rw[h2,h1]
  exact Ii dw
 have U:=s.lt
 refine⟨λi h1 h2=>⟨?_,hv⟩,λi h1 h2=>⟨?_,?_⟩⟩
 ·have:=(J (i-c) (by omega)).1
  rw[show c+(i-c)=i from by omega] at this
  rw[←this]
  exact (aQ (aP hq _)).l
 ·have:=(J (p+h-1-i) (by omega)).2
  rw[show p+h-1-(p+h-1-i)=i from by omega] at this
  rw[this]
  have e:=(aQ (aP hq (c+(p+h-1-i)))).l
  generalize bM (az S q (c+(p+h-1-i))) _=z at e
  rw[show bz (bz z v) (X7 v)=z from aI (by show z.1-v.1 - -v.1=z.1;grind) (by show z.2-v.2 - -v.2=z.2;grind)]
  exact e
 ·have:=(bV.grp (g.1,0) (g.2.1,g.2.2)).neg hv
  exact this
def Chg(S:List Pt)(q:Pt)(g:Tr)(h i:Nat):Prop:=¬ ∃v,Bq S q g i v/\Bq S q g (i+(h+h)-1) v
def Tj(u:Pt):Fq u u=0:=by show u.1*u.2-u.2*u.1=0;rw[ia];omega
def Ky(u:Pt):Fq (X7 u) u=0:=by show -u.1*u.2 - -u.2*u.1=0;rw[EJ,EJ,ia];omega
theorem tV.cuts(hq:bH S q)(r:cQ S q (h+h))(hg:oK g)(hd:mj g S)(hn:sm (λi=>(az S q i).1*(stp (outD S (az S q i))).2) 0 (h+h)≠0){cs:List Nat}{vs:List Pt}(p:tV (az S q) (λi=>outD S (az S q i)) h cs vs)(hv:∀v∈vs,bV (g.1,0) (g.2.1,g.2.2) v):∀i,i∈cs↔i<h/\Chg S q g h i:=by
 have w:=iW r
 have per:∀ {i:Nat} {v:Pt},1<=i->Bq S q g (i-1) v->Bq S q g (i+(h+h)-1) v:=λ{i v} hi a=>by
  rw[show i+(h+h)-1=i-1+(h+h) from by grind];exact (Bq.per r).mpr a
 cases p with
 |@two a b u v hb s1 s2=>
  obtain⟨n1,Z⟩:=s1.nbr (g:=g) hq (hv u (by simp))
  obtain⟨n2,n4⟩:=s2.nbr (g:=g) hq (hv v (by simp))
  have hc:=Bw w s1 s2
  rw[hc] at hn
  have l1:=s1.lt
  intro i
  simp only[br,dc,or_false]
  constructor
  ·rintro (rfl | rfl)
   ·refine⟨by omega,λ⟨y,Y,J⟩=>hn ?_⟩
    have O:=Y.uniq hg hd (n1 _ (a8 _) l1)
    have U:=J.uniq hg hd (n4 _ (by omega) (by omega))
    rw[←O,U];exact Ky v
   ·refine⟨hb,λ⟨y,Y,J⟩=>hn ?_⟩
    have O:=Y.uniq hg hd (n2 _ (a8 _) s2.lt)
    have U:=J.uniq hg hd (per (by grind) (n1 _ (by omega) (by omega)))
    rw[←O,←U];exact Tj y
  ·rintro⟨hi,ch⟩
   apply cn
   intro z
   rcases ky i a with y | y
   ·exact ch ⟨X7 v,(Bq.per r).mp (n4 _ (by grind) (by grind)),n4 _ (by omega) (by omega)⟩
   ·rcases ky i b with x | x
    ·exact ch ⟨u,n1 _ y x,per (by grind) (n1 _ (by grind) (by omega))⟩
    ·exact ch ⟨v,n2 _ x (by grind),per (by grind) (n2 _ (by omega) (by omega))⟩
 |@thr a b c u v x hc s1 s2 s3=>
  obtain⟨n1,n4⟩:=s1.nbr (g:=g) hq (hv u (by simp))
  obtain⟨n2,n5⟩:=s2.nbr (g:=g) hq (hv v (by simp))
  obtain⟨Z,n6⟩:=s3.nbr (g:=g) hq (hv x (by simp))
  obtain⟨ev,ac⟩:=wD w s1 s2 s3
  rw[ac] at hn
  have l1:=s1.lt
  have l2:=s2.lt
  have al:v.1=u.1+x.1:=congrArg hV ev
  have am:v.2=u.2+x.2:=congrArg gE ev
  intro i
  simp only[br,dc,or_false]
  constructor
  ·rintro (rfl | rfl | rfl)
   ·refine⟨by grind,λ⟨y,Y,J⟩=>hn ?_⟩
    have O:=Y.uniq hg hd (n1 _ (a8 _) l1)
    have U:=J.uniq hg hd (n6 _ (by omega) (by omega))
    rw[←O,U];exact Ky x
   ·refine⟨by omega,λ⟨y,Y,J⟩=>hn ?_⟩
    have O:=Y.uniq hg hd (n2 _ (a8 _) l2)
    have U:=J.uniq hg hd (per (by grind) (n1 _ (by omega) (by omega)))
    have q1:=congrArg hV (O.symm.trans U)
    have q2:=congrArg gE (O.symm.trans U)
    have z1:x.1=0:=by grind
    have z2:x.2=0:=by grind
    show u.1*x.2-u.2*x.1=0
    rw[z1,z2];grind
   ·refine⟨hc,λ⟨y,Y,J⟩=>hn ?_⟩
    have O:=Y.uniq hg hd (Z _ (a8 _) s3.lt)
    have U:=J.uniq hg hd (per (by grind) (n2 _ (by omega) (by omega)))
    have q1:=congrArg hV (O.symm.trans U)
    have q2:=congrArg gE (O.symm.trans U)
    have z1:u.1=0:=by grind
    have z2:u.2=0:=by grind
    show u.1*x.2-u.2*x.1=0
    rw[z1,z2];grind
  ·rintro⟨hi,ch⟩
   apply cn
   intro z
   rcases ky i a with y | y
   ·exact ch ⟨X7 x,(Bq.per r).mp (n6 _ (by grind) (by grind)),n6 _ (by omega) (by omega)⟩
   ·rcases ky i b with J | J
    ·exact ch ⟨u,n1 _ y J,per (by grind) (n1 _ (by grind) (by omega))⟩
    ·rcases ky i c with y3 | y3
     ·exact ch ⟨v,n2 _ J y3,per (by grind) (n2 _ (by grind) (by omega))⟩
     ·exact ch ⟨x,Z _ y3 (by grind),per (by grind) (Z _ (by omega) (by omega))⟩
def tV.Oe{P:Nat->Pt}{D:Nat->Nat}{cs:List Nat}{vs:List Pt}(p:tV P D h cs vs):cs.Pairwise (· < ·):=by
 cases p with
 |two hb s1 s2=>simpa using s1.lt
 |thr hc s1 s2 s3=>have:=s1.lt;have:=s2.lt;simp;omega
def tV.same(dg:Dg S)(nd:S.Nodup)(hq:bH S q)(r:cQ S q (h+h))(hl:S.length<=1000){cs cs':List Nat}{vs vs':List Pt}{e d:Int}(p:tV (az S q) (λi=>outD S (az S q i)) h cs vs)(p':tV (az S q) (λi=>outD S (az S q i)) h cs' vs')(G:jg vs e b d)(G':jg vs' e b d):cs=cs':=by
 obtain⟨J,hg,hd,_⟩:=p.lays dg nd hq r hl G
 have ne:sm (λi=>(az S q i).1*(stp (outD S (az S q i))).2) 0 (h+h)≠0:=by
  rw[qp r dg nd hq,←J]
  have:=KU G.e0 G.d0
  omega
 have O:=p.cuts (g:=(e,b,d)) hq r hg hd ne G.ins
 have U:=p'.cuts (g:=(e,b,d)) hq r hg hd ne G'.ins
 have Y:cs.Perm cs':=(eS (p.Oe.imp λh=>cx h) (p'.Oe.imp λh=>cx h)).mpr λi=>(O i).trans (U i).symm
 exact Y.eq_of_pairwise (le:=(·<=·)) (λa b _ _ h1 h2=>pb h1 h2) (p.Oe.imp λh=>kn h) (p'.Oe.imp λh=>kn h)
end
variable{vs:List Pt}
def Dq(g:Tr)(S:List Pt)(c:Pt):Pt:=(S.find? λp=>decide (rst g p=rst g c)).getD (0,0)
def NT(h:rst g c∈S.map (rst g)):S.find? (λp=>decide (rst g p=rst g c))=some (Dq g S c):=by
 unfold Dq
 cases hf:S.find? λp=>decide (rst g p=rst g c) with
 |some o=>rfl
 |none=>
  obtain⟨q,J,e⟩:=b9.mp h
  have:=rV.mp hf q J
  simp[e] at this
def Bx(h:rst g c∈S.map (rst g)):Dq g S c∈S/\rst g (Dq g S c)=rst g c:=by
 have J:=NT h
 refine⟨oz J,?_⟩
 have:=yv J
 simpa using this
def UW{own:Pt}(h:rst g c∈S.map (rst g))(hd:mj g S)(ho:own∈S)(e:rst g own=rst g c):own=Dq g S c:=by
 obtain⟨h1,h2⟩:=Bx h
 exact tY hd ho h1 (e.trans h2.symm)
def shf(g:Tr)(S:List Pt)(c:Pt):Pt:=(c.1-(Dq g S c).1,c.2-(Dq g S c).2)
structure Fl(S:List Pt)(g:Tr):Prop where
 dg:Dg S
 nd:S.Nodup
 hg:oK g
 dst:mj g S
 sur:∀z,rst g z∈S.map (rst g)
def cY(g:Tr)(S:List Pt)(p:Pt):Pt:=shf g S (eV p (outD S p))
def nxt(S:List Pt)(p:Pt):Pt:=kW p (outD S p)
def Rr(g:Tr)(S:List Pt)(p:Pt):Pt:=bz p (cY g S p)
def Zz(g:Tr)(S:List Pt)(p:Pt):Pt:=bz (nxt S p) (cY g S p)
def adR(hd:d<4):kW (bz (kW p d) v) (od d)=bz p v:=by
 rcases c4 hd with rfl | rfl | rfl | rfl
 ·exact aI (by show p.1+1-v.1 + -1=p.1-v.1;omega) (by show p.2+0-v.2+0=p.2-v.2;omega)
 ·exact aI (by show p.1+0-v.1+0=p.1-v.1;omega) (by show p.2+1-v.2 + -1=p.2-v.2;omega)
 ·exact aI (by show p.1 + -1-v.1+1=p.1-v.1;omega) (by show p.2+0-v.2+0=p.2-v.2;omega)
 ·exact aI (by show p.1+0-v.1+0=p.1-v.1;omega) (by show p.2 + -1-v.2+1=p.2-v.2;omega)
def uw(hd:d<4):bM (bz p v) d=bz (bM p d) v:=by
 rcases c4 hd with rfl | rfl | rfl | rfl
 ·rfl
 ·exact aI (by show p.1-v.1-1=p.1-1-v.1;omega) rfl
 ·exact aI (by show p.1-v.1-1=p.1-1-v.1;omega) (by show p.2-v.2-1=p.2-1-v.2;omega)
 ·exact aI rfl (by show p.2-v.2-1=p.2-1-v.2;omega)
def JH{u:Pt}(h:bz p u=bz p v):u=v:=by
 have J:p.1-u.1=p.1-v.1:=congrArg hV h
 have O:p.2-u.2=p.2-v.2:=congrArg gE h
 exact aI (by omega) (by omega)
def YQ(h:bz p v=p):v=(0,0):=by
 have J:p.1-v.1=p.1:=congrArg hV h
 have O:p.2-v.2=p.2:=congrArg gE h
 exact aI (by show v.1=0;omega) (by show v.2=0;omega)
section
variable{S:List Pt}{g:Tr}{p:Pt}
def Fl.own(F:Fl S g)(r:Pt):bz r (shf g S r)∈S/\bV (g.1,0) (g.2.1,g.2.2) (shf g S r):=by
 obtain⟨h1,h2⟩:=Bx (F.sur r)
 have e:bz r (shf g S r)=Dq g S r:=aI (by show r.1-(r.1-_)=_;omega) (by show r.2-(r.2-_)=_;omega)
 refine⟨by rw[e];exact h1,?_⟩
 exact (Ba F.hg).mp h2
def Fl.alike(F:Fl S g){z:Pt}(h1:z∈S)(h2:bz z v∈S)(hv:bV (g.1,0) (g.2.1,g.2.2) v):v=(0,0) :=
 YQ (tY F.dst h2 h1 (qZ F.hg hv z))
def Fl.Ss(F:Fl S g){z:Pt}(h:bz z v∈S)(hv:bV (g.1,0) (g.2.1,g.2.2) v):shf g S z=v:=by
 obtain⟨h1,h2⟩:=F.own z
 exact JH (tY F.dst h1 h (by rw[qZ F.hg h2,qZ F.hg hv]))
def Fl.lat(F:Fl S g):bV (g.1,0) (g.2.1,g.2.2) (cY g S p):=(F.own _).2
def Fl.ne0(F:Fl S g)(hp:bH S p):cY g S p≠(0,0):=λz=>by
 have h:=(F.own (eV p (outD S p))).1
 have e:shf g S (eV p (outD S p))=(0,0):=z
 rw[e] at h
 refine (aQ hp).r ?_
 rw[show bz (eV p (outD S p)) (0,0)=eV p (outD S p) from aI (by show _-0=_;omega) (by show _-0=_;omega)] at h
 exact h
def Fl.Yu(F:Fl S g)(hp:bH S p):je S (Zz g S p) (od (outD S p)):=by
 have e:=aQ hp
 have k:=Ii (p:=p) (v:=cY g S p) e.lt
 refine⟨acG,?_,λz=>F.ne0 hp ?_⟩
 ·show bM (bz (kW p (outD S p)) (cY g S p)) _∈S
  rw[k.1];exact (F.own _).1
 ·have J:eV (bz (kW p (outD S p)) (cY g S p)) (od (outD S p))∈S:=z
  rw[k.2] at J
  exact F.alike e.l J F.lat
def Fl.zE(F:Fl S g)(hp:bH S p):bH S (Zz g S p):=⟨_,F.Yu hp⟩
def Fl.ZS(F:Fl S g)(hp:bH S p):outD S (Zz g S p)=od (outD S p):=f9 F.dg (aQ (F.zE hp)) (F.Yu hp)
def Fl.NP(F:Fl S g)(hp:bH S p):nxt S (Zz g S p)=Rr g S p:=by
 unfold nxt
 rw[F.ZS hp]
 exact adR (aQ hp).lt
def Fl.GR(F:Fl S g)(hp:bH S p):bH S (Rr g S p):=by
 rw[←F.NP hp]
 exact Bg (aQ (F.zE hp))
def Fl.svZ(F:Fl S g)(hp:bH S p):cY g S (Zz g S p)=X7 (cY g S p):=by
 have e:=aQ hp
 have k:=Ii (p:=p) (v:=cY g S p) e.lt
 unfold cY
 rw[F.ZS hp]
 refine F.Ss ?_ ((bV.grp (g.1,0) (g.2.1,g.2.2)).neg F.lat)
 rw[show eV (Zz g S p) (od (outD S p))=bz (bM p (outD S p)) (cY g S p) from k.2]
 have J:∀z v:Pt,bz (bz z v) (X7 v)=z:=λz v=>aI (by show z.1-v.1 - -v.1=z.1;omega) (by show z.2-v.2 - -v.2=z.2;omega)
 have:=J (bM p (outD S p)) (cY g S p)
 show bz (bz (bM p (outD S p)) (cY g S p)) (X7 (cY g S p))∈S
 rw[this];exact e.l
def Fl.RZ(F:Fl S g)(hp:bH S p):Rr g S (Zz g S p)=nxt S p:=by
 show bz (Zz g S p) (cY g S (Zz g S p))=_
 rw[F.svZ hp]
 exact aI (by show (nxt S p).1-(cY g S p).1 - -(cY g S p).1=_;omega) (by show (nxt S p).2-(cY g S p).2 - -(cY g S p).2=_;omega)
def Fl.ZZ(F:Fl S g)(hp:bH S p):Zz g S (Zz g S p)=p:=by
 show bz (nxt S (Zz g S p)) (cY g S (Zz g S p))=p
 rw[F.svZ hp,F.NP hp]
 exact aI (by show p.1-(cY g S p).1 - -(cY g S p).1=p.1;omega) (by show p.2-(cY g S p).2 - -(cY g S p).2=p.2;omega)
def Fl.Rne(F:Fl S g)(hp:bH S p):Rr g S p≠p:=λz=>F.ne0 hp (YQ z)
def b1(b:Bool):Int:=if b=true then 1 else 0
def Kp(S:List Pt)(p:Pt):Int:=b1 (decide (bM p 0∈S))+b1 (decide (bM p 1∈S))+b1 (decide (bM p 2∈S))+b1 (decide (bM p 3∈S))
def ae7{a b c:Bool}(h1:a=true->b=true->False)(h2:a=true->c=true->False)(h3:b=true->c=true->False):b1 a+b1 b+b1 c<=1:=by
 revert h1 h2 h3
 cases a <;> cases b <;> cases c <;> simp[b1]
def Fl.three(F:Fl S g)(hp:bH S p)(h:Rr g S (Rr g S p)≠p):Kp S p+Kp S (Rr g S p)+Kp S (Rr g S (Rr g S p))<=4:=by
 have hr:=F.GR hp
 have k:∀d,d<4->b1 (decide (bM p d∈S))+b1 (decide (bM (Rr g S p) d∈S))+b1 (decide (bM (Rr g S (Rr g S p)) d∈S))<=1:=λd hd=>by
  have O:bM (Rr g S p) d=bz (bM p d) (cY g S p):=uw hd
  have U:bM (Rr g S (Rr g S p)) d=bz (bM (Rr g S p) d) (cY g S (Rr g S p)):=uw hd
  refine ae7 (λa b=>?_) (λa c=>?_) (λb c=>?_)
  ·rw[decide_eq_true_iff] at a b
   rw[O] at b
   exact F.ne0 hp (F.alike a b F.lat)
  ·rw[decide_eq_true_iff] at a c
   rw[U,O] at c
   have J:=(bV.grp (g.1,0) (g.2.1,g.2.2)).add (F.lat (p:=p)) (F.lat (p:=Rr g S p))
   have e:∀z u v:Pt,bz (bz z u) v=bz z (u.1+v.1,u.2+v.2):=λz u v=>aI (by show z.1-u.1-v.1=z.1-(u.1+v.1);omega) (by show z.2-u.2-v.2=z.2-(u.2+v.2);omega)
   rw[e] at c
   have z:=F.alike a c J
   refine h ?_
   show bz (bz p (cY g S p)) (cY g S (Rr g S p))=p
   rw[e,z]
   exact aI (by show p.1-0=p.1;omega) (by show p.2-0=p.2;omega)
  ·rw[decide_eq_true_iff] at b c
   rw[U] at c
   exact F.ne0 hr (F.alike b c F.lat)
 unfold Kp
 have Y:=k 0 (by omega)
 have Z:=k 1 (by omega)
 have k2:=k 2 (by omega)
 have k3:=k 3 (by omega)
 omega
def afz{a b:Bool}(h1:a=true->b=true->False)(h2:a=true\/b=true):b1 a+b1 b=1:=by
 revert h1 h2
 cases a <;> cases b <;> simp[b1]
def YK(hd:d<4):eV p d=bM p ((d+3)%4):=by
 rcases c4 hd with rfl | rfl | rfl | rfl <;> rfl
def afE(hd:d<4):bM p d=bM (kW p d) ((d+1)%4)/\eV p d=bM (kW p d) ((d+2)%4):=by
 rcases c4 hd with rfl | rfl | rfl | rfl
 ·exact⟨aI (by show p.1=p.1+1-1;omega) (by show p.2=p.2+0;omega),aI (by show p.1=p.1+1-1;omega) (by show p.2-1=p.2+0-1;omega)⟩
 ·exact⟨aI (by show p.1-1=p.1+0-1;omega) (by show p.2=p.2+1-1;omega),aI (by show p.1=p.1+0;omega) (by show p.2=p.2+1-1;omega)⟩
 ·exact⟨aI (by show p.1-1=p.1 + -1;omega) (by show p.2-1=p.2+0-1;omega),aI (by show p.1-1=p.1 + -1;omega) (by show p.2=p.2+0;omega)⟩
 ·exact⟨aI (by show p.1=p.1+0;omega) (by show p.2-1=p.2 + -1;omega),aI (by show p.1-1=p.1+0-1;omega) (by show p.2-1=p.2 + -1;omega)⟩
theorem cover{A B:Nat->Prop}{d0 d1:Nat}(h0:d0<4)(h1:d1<4)(a1:A d1)(b1:B ((d1+3)%4))(na1:¬A ((d1+3)%4))(nb1:¬B d1)(a0:A ((d0+1)%4))(b0:B ((d0+2)%4))(na0:¬A ((d0+2)%4))(nb0:¬B ((d0+1)%4))
  (gA:¬(A 0/\A 2/\¬A 1/\¬A 3)/\¬(A 1/\A 3/\¬A 0/\¬A 2)) (gB:¬(B 0/\B 2/\¬B 1/\¬B 3)/\¬(B 1/\B 3/\¬B 0/\¬B 2)):(A 0\/B 0)/\(A 1\/B 1)/\(A 2\/B 2)/\(A 3\/B 3):=by
 rcases c4 h0 with rfl | rfl | rfl | rfl <;> rcases c4 h1 with rfl | rfl | rfl | rfl <;> simp only[BS,Nat.reduceMod] at * <;> grind
def Fl.two(F:Fl S g)(hp:bH S p)(h:cY g S (nxt S p)=cY g S p):Kp S (nxt S p)+Kp S (Rr g S (nxt S p))=4:=by
 have e0:=aQ hp
 have hn:bH S (nxt S p):=Bg e0
 have J:=aQ hn
 have a2:bz (eV (nxt S p) (outD S (nxt S p))) (cY g S p)∈S:=by rw[←h];exact (F.own _).1
 have nb:∀ {z:Pt},z∈S->bz z (cY g S p)∈S->False:=λz1 z2=>F.ne0 hp (F.alike z1 z2 F.lat)
 have er:Rr g S (nxt S p)=bz (nxt S p) (cY g S p):=by show bz _ (cY g S (nxt S p))=_;rw[h]
 have a1:bz (eV p (outD S p)) (cY g S p)∈S:=(F.own (eV p (outD S p))).1
 have i1:=afE (p:=p) e0.lt
 have i2:=YK (p:=nxt S p) J.lt
 have O:¬bz (bM p (outD S p)) (cY g S p)∈S:=λz=>nb e0.l z
 have t2:¬bz (bM (nxt S p) (outD S (nxt S p))) (cY g S p)∈S:=λz=>nb J.l z
 have U:=e0.r
 have Y:=e0.l
 have Z:=J.r
 rw[i1.2] at a1 U
 rw[i1.1] at O Y
 rw[i2] at a2 Z
 have c:=cover (A:=λd=>bM (nxt S p) d∈S) (B:=λd=>bz (bM (nxt S p) d) (cY g S p)∈S) e0.lt J.lt J.l a2 Z t2 Y a1 U O (F.dg (nxt S p)) (by
  have:=F.dg (bz (nxt S p) (cY g S p))
  have l:∀d,d<4->bz (bM (nxt S p) d) (cY g S p)=bM (bz (nxt S p) (cY g S p)) d:=λd hd=>(uw hd).symm
  rw[l 0 (by omega),l 1 (by omega),l 2 (by omega),l 3 (by omega)]
  exact this)
 have k:∀d,d<4->(bM (nxt S p) d∈S\/bz (bM (nxt S p) d) (cY g S p)∈S)->b1 (decide (bM (nxt S p) d∈S))+b1 (decide (bM (Rr g S (nxt S p)) d∈S))=1:=λd hd o=>by
  rw[er,uw hd]
  refine afz (λa b=>?_) ?_
  ·rw[decide_eq_true_iff] at a b
   exact nb a b
  ·rw[decide_eq_true_iff,decide_eq_true_iff];exact o
 unfold Kp
 have k0:=k 0 (by omega) c.1
 have k1:=k 1 (by omega) c.2.1
 have k2:=k 2 (by omega) c.2.2.1
 have k3:=k 3 (by omega) c.2.2.2
 omega
end
theorem Ua{α:Type}{f h:α->Int}:∀ {l:List α},(∀x∈l,f x<=h x)->(l.map f).sum<=(l.map h).sum
 |[],_=>Bz _
 |a::l,k=>by
  rw[aE,aE,e9,e9]
  have h1:=k a (by simp)
  have h2:=Ua (l:=l) λx J=>k x (by simp[J])
  omega
def Ni[DecidableEq α]{l:List α}{f:α->α}(nd:l.Nodup)(h1:∀x∈l,f x∈l)(h2:∀x∈l,∀y∈l,f x=f y->x=y):(l.map f).Perm l:=by
 have n2:(l.map f).Nodup:=by
  rw[ax,dS]
  exact mw (λ{a b} Y Z O z=>O (h2 a Y b Z z)) (ax.mp nd)
 refine (eS n2 nd).mpr λx=>⟨λU=>?_,λU=>?_⟩
 ·obtain⟨y,J,rfl⟩:=b9.mp U
  exact h1 y J
 ·apply cn
  intro z
  have:=sub_len (xs:=x::l.map f) (ys:=l) (fo.mpr ⟨z,n2⟩) λy J=>by
   rcases br.mp J with rfl | J
   ·exact U
   ·obtain⟨w,hw,rfl⟩:=b9.mp J
    exact h1 w hw
  rw[bE,ae] at this
  omega
section
variable{S:List Pt}{g:Tr}{q:Pt}{t:Nat}
def cls(S:List Pt)(q:Pt)(t:Nat):List Pt:=(bo t).map (az S q)
def Tu(r:cQ S q t):(cls S q t).Nodup:=by
 unfold cls
 rw[ax,dS]
 exact mw (λ{a b} _ O J=>r.inj a b J (b6.mp O)) ll
def iI(hq:bH S q)(r:cQ S q t):p∈cls S q t↔bH S p:=by
 unfold cls
 rw[b9]
 constructor
 ·rintro⟨i,_,rfl⟩;exact aP hq i
 ·intro J
  obtain⟨m,O,e⟩:=r.all p J
  exact⟨m,b6.mpr O,e.symm⟩
def cQ.eq(r:cQ S q t)(hi:i<=t)(hj:j<=t)(h0:0<i)(h1:0<j)(e:az S q i=az S q j):i=j:=by
 rcases gX i j with z | z | z
 ·exfalso
  rcases ky j t with y | y
  ·exact r.inj i j z y e
  ·obtain rfl:j=t:=by omega
   rw[r.back] at e
   exact r.not i h0 z e
 ·exact z
 ·exfalso
  rcases ky i t with y | y
  ·exact r.inj j i z y e.symm
  ·obtain rfl:i=t:=by omega
   rw[r.back] at e
   exact r.not j h1 z e.symm
def XD(r:cQ S q t){a b:Pt}(ha:bH S a)(hb:bH S b)(e:nxt S a=nxt S b):a=b:=by
 obtain⟨i,hi,rfl⟩:=r.all a ha
 obtain⟨j,J,rfl⟩:=r.all b hb
 have:az S q (i+1)=az S q (j+1):=e
 have:=r.eq (i:=i+1) (j:=j+1) (by omega) (by omega) (by omega) (by omega) this
 rw[show i=j from by omega]
def prev(hq:bH S q)(r:cQ S q t)(hp:bH S p):∃a,bH S a/\nxt S a=p:=by
 obtain⟨i,hi,rfl⟩:=r.all p hp
 have J:=r.pos
 cases i with
 |zero=>
  refine⟨az S q (t-1),aP hq _,?_⟩
  show az S q (t-1+1)=az S q 0
  rw[show t-1+1=t from by omega];exact r.back
 |succ i=>exact⟨az S q i,aP hq _,rfl⟩
def Fl.aaS(F:Fl S g)(r:cQ S q t){a b:Pt}(ha:bH S a)(hb:bH S b)(e:Rr g S a=Rr g S b):a=b:=by
 rw[←F.NP ha,←F.NP hb] at e
 have:=XD r (F.zE ha) (F.zE hb) e
 rw[←F.ZZ ha,this,F.ZZ hb]
def Fl.still(F:Fl S g)(r:cQ S q t)(hp:bH S p):Rr g S (Rr g S (nxt S p))=nxt S p↔cY g S (nxt S p)=cY g S p:=by
 have O:bH S (nxt S p):=Bg (aQ hp)
 rw[←F.RZ hp]
 constructor
 ·intro e
  have J:=F.aaS r (F.GR (F.GR (F.zE hp))) (F.zE hp) e
  rw[F.RZ hp] at J ⊢
  exact JH J
 ·intro e
  congr 1
  rw[F.RZ hp] at e ⊢
  show bz _ _=bz _ _
  rw[e]
def chg(g:Tr)(S:List Pt)(p:Pt):Bool:=!decide (Rr g S (Rr g S p)=p)
def Fl.LR(F:Fl S g)(r:cQ S q t)(hp:bH S p):chg g S (Rr g S p)=chg g S p:=by
 unfold chg
 congr 1
 refine decide_eq_decide.mpr ⟨λe=>F.aaS r (F.GR (F.GR hp)) hp e,λe=>by rw[e]⟩
def Fl.Vx(F:Fl S g)(hq:bH S q)(r:cQ S q t)(f:Pt->Int):((cls S q t).map λp=>f (Rr g S p)).sum=((cls S q t).map f).sum:=by
 have J:=Ni (l:=cls S q t) (f:=Rr g S) (Tu r) (λp J=>(iI hq r).mpr (F.GR ((iI hq r).mp J))) λa O b U e=>F.aaS r ((iI hq r).mp O) ((iI hq r).mp U) e
 have:=IV (J.map f)
 rw[dP] at this
 exact this
def Fl.few(F:Fl S g)(hq:bH S q)(r:cQ S q t)(th:((cls S q t).map λp=>2-Kp S p).sum=4):((cls S q t).map λp=>b1 (chg g S p)).sum<=6:=by
 have two:∀p,bH S p->chg g S p=false->Kp S p+Kp S (Rr g S p)=4:=λp U O=>by
  obtain⟨a,Z,rfl⟩:=prev hq r U
  unfold chg at O
  have:Rr g S (Rr g S (nxt S a))=nxt S a:=by simpa using O
  exact F.two Z ((F.still r Z).mp this)
 have Y:∀p,bH S p->chg g S p=true->Kp S p+Kp S (Rr g S p)+Kp S (Rr g S (Rr g S p))<=4:=λp U O=>by
  unfold chg at O
  exact F.three U (by simpa using O)
 have z1:((cls S q t).map λp=>(if chg g S p=true then 0 else 2-Kp S p)+(if chg g S (Rr g S p)=true then 0 else 2-Kp S (Rr g S p))).sum=0:=by
  have:(cls S q t).map (λp=>(if chg g S p=true then 0 else 2-Kp S p)+(if chg g S (Rr g S p)=true then 0 else 2-Kp S (Rr g S p)))=(cls S q t).map λ_=>(0:Int):=d6 λp U=>by
   have J:=(iI hq r).mp U
   rw[F.LR r J]
   cases O:chg g S p with
   |true=>rfl
   |false=>
    have:=two p J O
    simp only[c9,if_false]
    omega
  rw[this];exact Sy _
 rw[sum_add (λp=>if chg g S p=true then 0 else 2-Kp S p) (λp=>if chg g S (Rr g S p)=true then 0 else 2-Kp S (Rr g S p)),F.Vx hq r (λp=>if chg g S p=true then 0 else 2-Kp S p)] at z1
 have z2:((cls S q t).map λp=>2-Kp S p).sum=((cls S q t).map λp=>if chg g S p=true then 0 else 2-Kp S p).sum+(((cls S q t).map λp=>b1 (chg g S p)+b1 (chg g S p)).sum-((cls S q t).map λp=>if chg g S p=true then Kp S p else 0).sum):=by
  have:(cls S q t).map (λp=>(2-Kp S p)+(if chg g S p=true then Kp S p else 0))=(cls S q t).map λp=>(if chg g S p=true then 0 else 2-Kp S p)+(b1 (chg g S p)+b1 (chg g S p)):=d6 λp _=>by
   cases chg g S p <;> simp[b1] <;> omega
  have e:=congrArg List.sum this
  rw[sum_add (λp=>2-Kp S p) (λp=>if chg g S p=true then Kp S p else 0),sum_add (λp=>if chg g S p=true then 0 else 2-Kp S p) (λp=>b1 (chg g S p)+b1 (chg g S p))] at e
  omega
 rw[sum_add (λp=>b1 (chg g S p)) λp=>b1 (chg g S p)] at z2
 have z3:((cls S q t).map λp=>(if chg g S p=true then Kp S p else 0)+((if chg g S (Rr g S p)=true then Kp S (Rr g S p) else 0)+(if chg g S (Rr g S (Rr g S p))=true then Kp S (Rr g S (Rr g S p)) else 0))).sum<=((cls S q t).map λp=>(b1 (chg g S p)+b1 (chg g S p))+(b1 (chg g S p)+b1 (chg g S p))).sum:=Ua λp U=>by
  have J:=(iI hq r).mp U
  rw[F.LR r (F.GR J),F.LR r J]
  cases O:chg g S p with
  |false=>simp[b1]
  |true=>
   have:=Y p J O
   simp only[if_true,b1]
   omega
 rw[sum_add (λp=>if chg g S p=true then Kp S p else 0) (λp=>(if chg g S (Rr g S p)=true then Kp S (Rr g S p) else 0)+(if chg g S (Rr g S (Rr g S p))=true then Kp S (Rr g S (Rr g S p)) else 0)),sum_add (λp=>if chg g S (Rr g S p)=true then Kp S (Rr g S p) else 0) (λp=>if chg g S (Rr g S (Rr g S p))=true then Kp S (Rr g S (Rr g S p)) else 0),F.Vx hq r (λp=>if chg g S p=true then Kp S p else 0),F.Vx hq r (λp=>if chg g S (Rr g S p)=true then Kp S (Rr g S p) else 0),F.Vx hq r (λp=>if chg g S p=true then Kp S p else 0),sum_add (λp=>b1 (chg g S p)+b1 (chg g S p)) (λp=>b1 (chg g S p)+b1 (chg g S p)),sum_add (λp=>b1 (chg g S p)) λp=>b1 (chg g S p)] at z3
 omega
end
def opts(m k:Nat):List Nat:=(bo m).filter λv=>v != k&&(v+1)%m != k
def gen(m:Nat):Nat->List (List Nat)
 |0=>[[]]
 |n+1=>(gen m n).flatMap λl=>(opts m n).map λv=>l++[v]
theorem Jy{m:Nat}{f:Nat->Nat}:∀ {n:Nat},(∀k,k<n->f k∈opts m k)->(bo n).map f∈gen m n
 |0,_=>by simp[gen]
 |n+1,h=>by
  unfold gen
  rw[List.mem_flatMap]
  refine⟨(bo n).map f,Jy λk hk=>h k (by omega),b9.mpr ⟨f n,h n (by omega),?_⟩⟩
  rw[pf,de];rfl
def good(m:Nat)(l:List Nat):Bool:=(bo m).all λk=>l.getD (l.getD k 0) 0==k&&(l.getD ((l.getD k 0+1)%m) 0+1)%m != k
def aet:(gen 1 1).all (λl=>!good 1 l)=true:=by decide +kernel
def afN:(gen 2 2).all (λl=>!good 2 l)=true:=by decide +kernel
def aeS:(gen 3 3).all (λl=>!good 3 l)=true:=by decide +kernel
def afI:(gen 4 4).all (λl=>!good 4 l||l==[2,3,0,1])=true:=by decide +kernel
def aei:(gen 5 5).all (λl=>!good 5 l)=true:=by decide +kernel
def aeL:(gen 6 6).all (λl=>!good 6 l||l==[3,4,5,0,1,2])=true:=by decide +kernel
def comb{m:Nat}{f:Nat->Nat}(h0:0<m)(h6:m<=6)(h1:∀k,k<m->f k<m)(h2:∀k,k<m->f (f k)=k)(h3:∀k,k<m->f k≠k)(h4:∀k,k<m->(f k+1)%m≠k)(h5:∀k,k<m->(f ((f k+1)%m)+1)%m≠k) :
  (m=4/\f 0=2/\f 1=3)\/(m=6/\f 0=3/\f 1=4/\f 2=5):=by
 have mg:(bo m).map f∈gen m m:=Jy λk O=>by
  unfold opts
  rw[dn,b6]
  exact⟨h1 k O,by simp[h3 k O,h4 k O]⟩
 have U:∀k,k<m->((bo m).map f).getD k 0=f k:=λk O=>by
  rw[bP,ay,ly O];rfl
 have hg:good m ((bo m).map f)=true:=by
  unfold good
  rw[kQ]
  intro k O
  rw[b6] at O
  rw[U k O,U _ (h1 k O),U _ (rX _ h0),h2 k O]
  simp[h5 k O]
 have use:∀(P:List Nat->Bool),(gen m m).all (λl=>!good m l||P l)=true->P ((bo m).map f)=true:=λP Y=>by
  have:=kQ.mp Y _ mg
  rw[hg] at this
  simpa using this
 have J:(gen m m).all (λl=>!good m l)=true->False:=λY=>by
  have:=kQ.mp Y _ mg
  rw[hg] at this
  cases this
 rcases (by omega:m=1\/m=2\/m=3\/m=4\/m=5\/m=6) with rfl | rfl | rfl | rfl | rfl | rfl
 ·exact (J aet).elim
 ·exact (J afN).elim
 ·exact (J aeS).elim
 ·have e:(bo 4).map f=[2,3,0,1]:=eq_of_beq (use (λl=>l==[2,3,0,1]) afI)
  refine .inl ⟨rfl,?_,?_⟩
  ·rw[←U 0 (by omega),e];rfl
  ·rw[←U 1 (by omega),e];rfl
 ·exact (J aei).elim
 ·have e:(bo 6).map f=[3,4,5,0,1,2]:=eq_of_beq (use (λl=>l==[3,4,5,0,1,2]) aeL)
  refine .inr ⟨rfl,?_,?_,?_⟩
  ·rw[←U 0 (by omega),e];rfl
  ·rw[←U 1 (by omega),e];rfl
  ·rw[←U 2 (by omega),e];rfl
section
variable{S:List Pt}{g:Tr}{q:Pt}{t:Nat}
def Ch(g:Tr)(S:List Pt)(q:Pt)(i:Nat):Prop:=chg g S (az S q i)=true
def Ch.per(r:cQ S q t):Ch g S q (i+t)↔Ch g S q i:=by unfold Ch;rw[zk,bD,r.back]
def Fl.JL(F:Fl S g)(hq:bH S q)(r:cQ S q t):¬Ch g S q (i+1)↔cY g S (az S q (i+1))=cY g S (az S q i):=by
 have k:=F.still r (aP hq i)
 unfold Ch chg
 have e:az S q (i+1)=nxt S (az S q i):=rfl
 rw[e,←k]
 simp
structure Run(g:Tr)(S:List Pt)(q:Pt)(a b:Nat):Prop where
 lt:a<b
 ca:Ch g S q a
 cb:Ch g S q b
 no:∀i,a<i->i<b->¬Ch g S q i
theorem Fl.Av(F:Fl S g)(hq:bH S q)(r:cQ S q t){a b:Nat}(no:∀i,a<i->i<b->¬Ch g S q i):∀x,a+x<b->cY g S (az S q (a+x))=cY g S (az S q a)
 |0,_=>rfl
 |x+1,h=>by
  rw[←F.Av hq r no x (by omega)]
  exact (F.JL hq r).mp (no (a+x+1) (by omega) h)
theorem Fl.fellow(F:Fl S g)(hq:bH S q)(r:cQ S q t){a b:Nat}(u:Run g S q a b):∃c,c<t/\Run g S q c (c+(b-a))/\(∀x,x<b-a->az S q (c+x)=Zz g S (az S q (b-1-x)))/\az S q (c+(b-a))=Rr g S (az S q a):=by
 have hl:=u.lt
 obtain⟨c,hc,e⟩:=r.all _ (F.zE (aP hq (b-1)))
 have step:∀x,x<b-a->az S q (c+x)=Zz g S (az S q (b-1-x)):=by
  intro x
  induction x with
  |zero=>intro _;exact e.symm
  |succ x ih=>
   intro Y
   have e1:=ih (by omega)
   have O:=aP hq (S:=S) (p:=q) (b-1-x)
   have:az S q (c+(x+1))=nxt S (az S q (c+x)):=rfl
   rw[this,e1,F.NP O]
   have U:b-1-x=b-1-(x+1)+1:=by grind
   have sv1:=(F.JL hq r (i:=b-1-(x+1))).mp (by rw[←U];exact u.no _ (by omega) (by omega))
   rw[←U] at sv1
   show bz (az S q (b-1-x)) (cY g S (az S q (b-1-x)))=bz (nxt S (az S q (b-1-(x+1)))) (cY g S (az S q (b-1-(x+1))))
   rw[sv1,show nxt S (az S q (b-1-(x+1)))=az S q (b-1-(x+1)+1) from rfl,←U]
 have nx:∀x,x<b-a->az S q (c+x+1)=Rr g S (az S q (b-1-x)):=λx Y=>by
  have:az S q (c+x+1)=nxt S (az S q (c+x)):=rfl
  rw[this,step x Y,F.NP (aP hq _)]
 have J:az S q (c+(b-a))=Rr g S (az S q a):=by
  have:=nx (b-a-1) (by omega)
  rw[show c+(b-a-1)+1=c+(b-a) from by grind,show b-1-(b-a-1)=a from by omega] at this
  exact this
 refine⟨c,hc,⟨by omega,?_,?_,λi h1 h2=>?_⟩,step,J⟩
 ·have Z:=u.cb
  unfold Ch at Z ⊢
  have e0:=step 0 (by omega)
  rw[nB,tN] at e0
  have cz:=F.LR r (F.zE (aP hq (S:=S) (p:=q) (b-1)))
  rw[F.RZ (aP hq (b-1)),show nxt S (az S q (b-1))=az S q (b-1+1) from rfl,show b-1+1=b from by omega] at cz
  rw[e0,←cz];exact Z
 ·have ha:=u.ca
  unfold Ch at ha ⊢
  rw[J,F.LR r (aP hq a)];exact ha
 ·have:=nx (i-c-1) (by omega)
  rw[show c+(i-c-1)+1=i from by omega] at this
  have no:=u.no (b-1-(i-c-1)) (by omega) (by omega)
  unfold Ch at no ⊢
  rw[this,F.LR r (aP hq _)];exact no
def Run.uniq{a b b':Nat}(u:Run g S q a b)(u':Run g S q a b'):b=b':=by
 rcases gX b b' with z | z | z
 ·exact absurd u.cb (u'.no b u.lt z)
 ·exact z
 ·exact absurd u'.cb (u.no b' u'.lt z)
def lB(g:Tr)(S:List Pt)(q:Pt)(t:Nat):List Nat:=(bo t).filter λi=>chg g S (az S q i)
def X5(th:((cls S q t).map λp=>b1 (chg g S p)).sum<=6):(lB g S q t).length<=6:=by
 have e:∀l:List Nat,((l.map (az S q)).map λp=>b1 (chg g S p)).sum=((l.filter λi=>chg g S (az S q i)).length:Int):=by
  intro l
  induction l with
  |nil=>rfl
  |cons a l ih=>
   rw[aE,aE,e9,ih]
   cases hc:chg g S (az S q a) with
   |true=>rw[ke (by exact hc),bE];show 1+_=_;omega
   |false=>rw[kg (by simp[hc])];show 0+_=_;omega
 have:=e (bo t)
 unfold cls at th
 unfold lB
 omega
def bG(g:Tr)(S:List Pt)(q:Pt)(t k:Nat):Nat:=if k<(lB g S q t).length then (lB g S q t).getD k 0 else (lB g S q t).getD 0 0+t
def VB:(lB g S q t).Pairwise (· < ·):=ll.filter _
def dJ:i∈lB g S q t↔i<t/\Ch g S q i:=by
 unfold lB;rw[dn,b6];exact Iff.rfl
def jV{k:Nat}(h:k<(lB g S q t).length):bG g S q t k∈lB g S q t:=by
 unfold bG
 rw[if_pos h,bP,aS h]
 exact nV h
def nY{k:Nat}(hj:j<k)(h:k<(lB g S q t).length):bG g S q t j<bG g S q t k:=by
 have J:j<(lB g S q t).length:=by omega
 unfold bG
 rw[if_pos h,if_pos J,bP,bP,aS h,aS J]
 exact (tT.mp VB) j k J h hj
def uq(h:i∈lB g S q t):∃k,k<(lB g S q t).length/\bG g S q t k=i:=by
 obtain⟨k,J,e⟩:=hZ h
 refine⟨k,J,?_⟩
 unfold bG
 rw[if_pos J,bP,aS J];exact e
def vP(r:cQ S q t):bG g S q t (lB g S q t).length=bG g S q t 0+t\/(lB g S q t).length=0:=by
 by_cases z:(lB g S q t).length=0
 ·exact .inr z
 ·refine .inl ?_
  unfold bG
  rw[if_neg (by omega),if_pos (by omega)]
theorem mz(r:cQ S q t){k:Nat}(h:k<(lB g S q t).length):Run g S q (bG g S q t k) (bG g S q t (k+1)):=by
 have Y:=dJ.mp (jV h)
 have Z:=dJ.mp (jV (g:=g) (S:=S) (q:=q) (t:=t) (k:=0) (by omega))
 by_cases z:k+1<(lB g S q t).length
 ·refine⟨nY (by omega) z,Y.2,(dJ.mp (jV z)).2,λi h1 h2 J=>?_⟩
  obtain⟨j,O,rfl⟩:=uq (dJ.mpr ⟨HG h2 (dJ.mp (jV z)).1,J⟩)
  rcases gX j k with y | y | y
  ·have:=nY y h;omega
  ·subst y;omega
  ·rcases gX j (k+1) with w | w | w
   ·omega
   ·subst w;omega
   ·have:=nY w O;omega
 ·have ek:k+1=(lB g S q t).length:=by grind
  have el:bG g S q t (k+1)=bG g S q t 0+t:=by
   rcases vP (g:=g) r with w | w
   ·rw[ek];exact w
   ·omega
  rw[el]
  refine⟨by grind,Y.2,(Ch.per r).mpr Z.2,λi h1 h2 J=>?_⟩
  rcases ky i t with y | y
  ·obtain⟨j,O,rfl⟩:=uq (dJ.mpr ⟨y,J⟩)
   rcases gX j k with y | y | y
   ·have:=nY y h;omega
   ·subst y;omega
   ·omega
  ·have U:Ch g S q (i-t):=(Ch.per r).mp (by rw[show i-t+t=i from by grind];exact J)
   obtain⟨j,O,e⟩:=uq (dJ.mpr ⟨(by grind:i-t<t),U⟩)
   rcases vF j with w | w
   ·subst w;grind
   ·have:=nY w O;grind
def Fl.some(F:Fl S g)(hq:bH S q)(r:cQ S q t):0<(lB g S q t).length:=by
 apply cn
 intro z
 have Z:∀i,¬Ch g S q i:=by
  have base:∀i,i<t->¬Ch g S q i:=λi hi O=>by
   have:=fF (dJ.mpr ⟨hi,O⟩)
   omega
  intro i
  induction i using DE with
  |ind i ih=>
   rcases ky i t with y | y
   ·exact base i y
   ·have hp:=r.pos
    have:=ih (i-t) (by omega)
    intro O
    exact this ((Ch.per r).mp (by rw[show i-t+t=i from by omega];exact O))
 obtain⟨j,hj,e⟩:=r.all _ (F.zE hq)
 have U:=F.Av hq r (a:=0) (b:=j+1) (λi _ _=>Z i) j (by omega)
 rw[iP] at U
 have Y:=F.svZ hq
 rw[e,U] at Y
 have J:cY g S q=X7 (cY g S q):=Y
 refine F.ne0 hq ?_
 have x1:(cY g S q).1 = -(cY g S q).1:=congrArg hV J
 have x2:(cY g S q).2 = -(cY g S q).2:=congrArg gE J
 exact aI (by show _=(0:Int);omega) (by show _=(0:Int);omega)
def Fl.sp(F:Fl S g)(hq:bH S q)(r:cQ S q t){a b c h:Nat}(u:Run g S q a b)(hs:∀x,x<b-a->az S q (c+x)=Zz g S (az S q (b-1-x)))(hc:c=a+h)(hle:b<=a+h):Sp (az S q) (λi=>outD S (az S q i)) h a b (cY g S (az S q a)):=by
 have O:=u.lt
 have k:∀x,x<b-a->az S q (b+h-1-x)=Zz g S (az S q (a+x)):=λx J=>by
  have:=hs (b-a-1-x) (by omega)
  rw[show c+(b-a-1-x)=b+h-1-x from by omega,show b-1-(b-a-1-x)=a+x from by omega] at this
  exact this
 refine⟨O,hle,λx J=>?_,λx J=>?_⟩
 ·rw[k x J]
  show bz (nxt S (az S q (a+x))) (cY g S (az S q (a+x)))=_
  rw[F.Av hq r u.no x (by omega)];rfl
 ·show outD S (az S q (b+h-1-x))=_
  rw[k x J,F.ZS (aP hq _)]
theorem Fl.parted(F:Fl S g)(hq:bH S q)(r:cQ S q t)(th:((cls S q t).map λp=>2-Kp S p).sum=4):∃h cs vs,t=h+h/\tV (az S q) (λi=>outD S (az S q i)) h cs vs/\∀v∈vs,bV (g.1,0) (g.2.1,g.2.2) v:=by
 have h6:=X5 (F.few hq r th)
 have h0:=F.some hq r
 have am:∀k,∃k',k<(lB g S q t).length->k'<(lB g S q t).length/\bG g S q t (k'+1)=bG g S q t k'+(bG g S q t (k+1)-bG g S q t k)/\(∀x,x<bG g S q t (k+1)-bG g S q t k->az S q (bG g S q t k'+x)=Zz g S (az S q (bG g S q t (k+1)-1-x)))/\az S q (bG g S q t (k'+1))=Rr g S (az S q (bG g S q t k)):=by
  intro k
  by_cases J:k<(lB g S q t).length
  ·obtain⟨c,hc,u,s,e⟩:=F.fellow hq r (mz r J)
   obtain⟨k',al,rfl⟩:=uq (dJ.mpr ⟨hc,u.ca⟩)
   have eb:=(mz r al).uniq u
   exact⟨k',λ_=>⟨al,eb,s,by rw[eb];exact e⟩⟩
  ·exact⟨0,λz=>absurd z J⟩
 obtain⟨f,O⟩:=Classical.axiomOfChoice am
 have ac:∀j,j<=(lB g S q t).length->az S q (bG g S q t j)=az S q (bG g S q t (j%(lB g S q t).length)):=λj hj=>by
  rcases ky j (lB g S q t).length with z | z
  ·rw[xD z]
  ·obtain rfl:j=(lB g S q t).length:=by grind
   rw[Nat.mod_self]
   rcases vP (g:=g) r with w | w
   ·rw[w,zk,bD,r.back]
   ·grind
 have inj:∀j k,j<(lB g S q t).length->k<(lB g S q t).length->az S q (bG g S q t j)=az S q (bG g S q t k)->j=k:=λj k hj J e=>by
  have l1:=(dJ.mp (jV hj)).1
  have l2:=(dJ.mp (jV J)).1
  rcases gX j k with z | z | z
  ·exact absurd e (r.inj _ _ (nY z J) l2)
  ·exact z
  ·exact absurd e.symm (r.inj _ _ (nY z hj) l1)
 have cm:=comb (m:=(lB g S q t).length) (f:=f) h0 h6 (λk J=>(O k J).1) (λk J=>by
   obtain⟨h1,h2,h3,h4⟩:=O k J
   obtain⟨g1,g2,g3,g4⟩:=O (f k) h1
   have hl:=(mz (g:=g) r J).lt
   refine inj _ _ g1 J ?_
   have e:=g3 0 (by omega)
   rw[nB,tN] at e
   rw[e]
   have e2:=h3 (bG g S q t (k+1)-bG g S q t k-1) (by grind)
   rw[show bG g S q t (f k)+(bG g S q t (k+1)-bG g S q t k-1)=bG g S q t (f k+1)-1 from by grind,show bG g S q t (k+1)-1-(bG g S q t (k+1)-bG g S q t k-1)=bG g S q t k from by omega] at e2
   rw[e2,F.ZZ (aP hq _)])
  (λk J z => by
   obtain⟨h1,h2,h3,h4⟩:=O k J
   have u:=mz (g:=g) r J
   have hl:=u.lt
   have e:=h3 0 (by grind)
   rw[nB,tN,z] at e
   have s:=F.svZ (aP hq (S:=S) (p:=q) (bG g S q t (k+1)-1))
   rw[←e] at s
   have Z:=F.Av hq r u.no (bG g S q t (k+1)-1-bG g S q t k) (by omega)
   rw[show bG g S q t k+(bG g S q t (k+1)-1-bG g S q t k)=bG g S q t (k+1)-1 from by grind] at Z
   rw[Z] at s
   refine F.ne0 (aP hq (bG g S q t k)) ?_
   generalize cY g S (az S q (bG g S q t k))=w at s
   have x1:w.1 = -w.1:=congrArg hV s
   have x2:w.2 = -w.2:=congrArg gE s
   exact aI (by show _=(0:Int);grind) (by show _=(0:Int);grind))
  (λk J z => by
   obtain⟨h1,h2,h3,h4⟩:=O k J
   rw[ac _ (by omega),z] at h4
   exact F.Rne (aP hq _) h4.symm)
  (λk J z => by
   obtain⟨h1,h2,h3,h4⟩:=O k J
   have hm:(f k+1)%(lB g S q t).length<(lB g S q t).length:=rX _ h0
   obtain⟨g1,g2,g3,g4⟩:=O _ hm
   rw[ac _ (by grind),z,←ac _ (by omega),h4] at g4
   have hc:=(mz (g:=g) r J).ca
   unfold Ch chg at hc
   rw[←g4] at hc
   simp at hc)
 have Y:∀k,k<(lB g S q t).length->Run g S q (bG g S q t k) (bG g S q t (k+1)):=λk J=>mz r J
 have U:=vP (g:=g) r
 have top:∀k,k<(lB g S q t).length->bG g S q t k<t:=λk J=>(dJ.mp (jV J)).1
 rcases cm with ⟨m4,f0,f1⟩ | ⟨m6,f0,f1,f2⟩
 ·rw[m4] at O Y U top
  have a0:=O 0 (by omega)
  have a1:=O 1 (by omega)
  rw[f0] at a0
  rw[f1] at a1
  have r0:=Y 0 (by omega)
  have r1:=Y 1 (by omega)
  have r2:=Y 2 (by omega)
  have r3:=Y 3 (by omega)
  have l0:=r0.lt
  have l1:=r1.lt
  have l2:=r2.lt
  have l3:=r3.lt
  have e0:=a0.2.1
  have e1:=a1.2.1
  have t3:=top 3 (by omega)
  simp only[BS] at *
  have ap:bG g S q t 4=bG g S q t 0+t:=by rcases U with w | w <;> omega
  refine⟨bG g S q t 2-bG g S q t 0,[bG g S q t 0,bG g S q t 1],[cY g S (az S q (bG g S q t 0)),cY g S (az S q (bG g S q t 1))],by grind,?_,?_⟩
  ·have s1:=F.sp (h:=bG g S q t 2-bG g S q t 0) hq r r0 a0.2.2.1 (by omega) (by grind)
   have Z:=F.sp (h:=bG g S q t 2-bG g S q t 0) hq r r1 a1.2.2.1 (by grind) (by grind)
   rw[show bG g S q t 2=bG g S q t 0+(bG g S q t 2-bG g S q t 0) from by omega] at Z
   refine .two (by grind) s1 ?_
   rw[show bG g S q t 0+(bG g S q t 2-bG g S q t 0)-bG g S q t 0=bG g S q t 2-bG g S q t 0 from by grind] at Z
   exact Z
  ·intro v hv
   simp only[br,dc,or_false] at hv
   rcases hv with rfl | rfl <;> exact F.lat
 ·rw[m6] at O Y U top
  have a0:=O 0 (by omega)
  have a1:=O 1 (by omega)
  have a2:=O 2 (by omega)
  rw[f0] at a0
  rw[f1] at a1
  rw[f2] at a2
  have r0:=Y 0 (by omega)
  have r1:=Y 1 (by omega)
  have r2:=Y 2 (by omega)
  have r3:=Y 3 (by grind)
  have r4:=Y 4 (by grind)
  have r5:=Y 5 (by omega)
  have l0:=r0.lt
  have l1:=r1.lt
  have l2:=r2.lt
  have l3:=r3.lt
  have l4:=r4.lt
  have l5:=r5.lt
  have e0:=a0.2.1
  have e1:=a1.2.1
  have e2:=a2.2.1
  have t5:=top 5 (by omega)
  simp only[BS] at *
  have a3:bG g S q t 6=bG g S q t 0+t:=by rcases U with w | w <;> omega
  refine⟨bG g S q t 3-bG g S q t 0,[bG g S q t 0,bG g S q t 1,bG g S q t 2],[cY g S (az S q (bG g S q t 0)),cY g S (az S q (bG g S q t 1)),cY g S (az S q (bG g S q t 2))],by grind,?_,?_⟩
  ·have s1:=F.sp (h:=bG g S q t 3-bG g S q t 0) hq r r0 a0.2.2.1 (by omega) (by grind)
   have Z:=F.sp (h:=bG g S q t 3-bG g S q t 0) hq r r1 a1.2.2.1 (by grind) (by grind)
   have s3:=F.sp (h:=bG g S q t 3-bG g S q t 0) hq r r2 a2.2.2.1 (by grind) (by grind)
   rw[show bG g S q t 3=bG g S q t 0+(bG g S q t 3-bG g S q t 0) from by omega] at s3
   refine .thr (by grind) s1 Z ?_
   rw[show bG g S q t 0+(bG g S q t 3-bG g S q t 0)-bG g S q t 0=bG g S q t 3-bG g S q t 0 from by grind] at s3
   exact s3
  ·intro v hv
   simp only[br,dc,or_false] at hv
   rcases hv with rfl | rfl | rfl <;> exact F.lat
end
def cH(S:List Pt)(p:Pt):Bool:=decide (bM p 0∈S)&&decide (bM p 1∈S)&&decide (bM p 2∈S)&&decide (bM p 3∈S)
def inI(S:List Pt):Int:=(S.map λc=>b1 (cH S c)).sum
def wU(S:List Pt)(c:Pt):Int:=b1 (!decide ((c.1+1,c.2)∈S))+b1 (!decide ((c.1,c.2+1)∈S))+b1 (!decide ((c.1-1,c.2)∈S))+b1 (!decide ((c.1,c.2-1)∈S))
def FZ(S:List Pt):Prop:=2*inI S+(S.map (wU S)).sum=2*S.length+2
def V4:FZ [((0,0):Pt)]:=by unfold FZ;decide
theorem zN{α:Type}(f:α->Bool):∀l:List α,(l.map λx=>b1 (f x)).sum=((l.filter f).length:Int)
 |[]=>rfl
 |a::l=>by
  rw[aE,e9,zN f l]
  cases h:f a with
  |true=>rw[ke h,bE];show 1+_=_;omega
  |false=>rw[kg (by simp[h])];show 0+_=_;omega
theorem JW(S:List Pt):∀cs:List Pt,((zB S cs:Nat):Int)=(cs.map (wU S)).sum
 |[]=>rfl
 |c::cs=>by
  have e:zB S (c::cs)=((iK c).filter λq=>!decide (q∈S)).length+zB S cs:=rfl
  rw[e,aE,e9,←JW S cs]
  have h:=zN (λq=>!decide (q∈S)) (iK c)
  have h2:((iK c).map λq=>b1 (!decide (q∈S))).sum=b1 (!decide ((c.1+1,c.2)∈S))+(b1 (!decide ((c.1,c.2+1)∈S))+(b1 (!decide ((c.1-1,c.2)∈S))+(b1 (!decide ((c.1,c.2-1)∈S))+0))):=rfl
  unfold wU
  omega
theorem lD{k:Int}{a:Pt}:∀ {S:List Pt},S.Nodup->(S.map λx=>if x=a then k else 0).sum=if a∈S then k else 0
 |[],_=>by simp
 |x::S,nd=>by
  have nd':=fo.mp nd
  rw[aE,e9,lD nd'.2]
  by_cases h:x=a
  ·subst h
   rw[if_pos rfl,if_neg nd'.1,if_pos eA];omega
  ·rw[if_neg h]
   by_cases h2:a∈S
   ·rw[if_pos h2,if_pos (cK _ h2)];omega
   ·rw[if_neg h2,if_neg (λz=>by rcases br.mp z with z | z;exact h z.symm;exact h2 z)];rfl
section
variable{S:List Pt}{c:Pt}
def Ag{x:Pt}:x∈S++[c]↔x∈S\/x=c:=by rw[ib,bX]
def vf{x:Pt}(h:x≠c):decide (x∈S++[c])=decide (x∈S):=decide_eq_decide.mpr ⟨λz=>(Ag.mp z).resolve_right h,λz=>Ag.mpr (.inl z)⟩
def En:decide (c∈S++[c])=true:=decide_eq_true (Ag.mpr (.inr rfl))
theorem Xo{x:Pt}(hc:c∉S):wU S x=wU (S++[c]) x+((if x=(c.1+1,c.2) then 1 else 0)+((if x=(c.1,c.2+1) then 1 else 0)+((if x=(c.1-1,c.2) then 1 else 0)+(if x=(c.1,c.2-1) then 1 else 0)))):=by
 have ne:∀ {a b:Int},¬(x.1+a=c.1/\x.2+b=c.2)->decide ((x.1+a,x.2+b)∈S++[c])=decide ((x.1+a,x.2+b)∈S):=λh=>vf λe=>h ⟨congrArg hV e,congrArg gE e⟩
 have J:∀ {y:Pt},y.1=c.1->y.2=c.2->decide (y∈S++[c])=true/\decide (y∈S)=false:=λh1 h2=>by
  have:_=c:=aI h1 h2
  subst this
  exact⟨En,decide_eq_false hc⟩
 have O:∀ {y:Pt},¬(y.1=c.1/\y.2=c.2)->decide (y∈S++[c])=decide (y∈S):=λh=>vf λe=>h ⟨congrArg hV e,congrArg gE e⟩
 have sp:∀(y:Pt),b1 (!decide (y∈S))=b1 (!decide (y∈S++[c]))+if y.1=c.1/\y.2=c.2 then 1 else 0:=λy=>by
  by_cases h:y.1=c.1/\y.2=c.2
  ·obtain⟨U,Y⟩:=J h.1 h.2
   rw[U,Y,if_pos h];rfl
  ·rw[O h,if_neg h];grind
 have pt:∀ {a b:Int},(x=(a,b))↔(x.1=a/\x.2=b):=Prod.ext_iff
 unfold wU
 rw[sp (x.1+1,x.2),sp (x.1,x.2+1),sp (x.1-1,x.2),sp (x.1,x.2-1)]
 simp only[pt]
 have Z:((x.1+1=c.1/\x.2=c.2)↔(x.1=c.1-1/\x.2=c.2)):=by grind
 have k2:((x.1=c.1/\x.2+1=c.2)↔(x.1=c.1/\x.2=c.2-1)):=by grind
 have k3:((x.1-1=c.1/\x.2=c.2)↔(x.1=c.1+1/\x.2=c.2)):=by grind
 have k4:((x.1=c.1/\x.2-1=c.2)↔(x.1=c.1/\x.2=c.2+1)):=by grind
 simp only[Z,k2,k3,k4]
 grind
def Ww(hc:c∉S):wU (S++[c]) c=wU S c:=by
 have J:∀ {y:Pt},¬(y.1=c.1/\y.2=c.2)->decide (y∈S++[c])=decide (y∈S):=λh=>vf λe=>h ⟨congrArg hV e,congrArg gE e⟩
 unfold wU
 rw[J (y:=(c.1+1,c.2)) (by dsimp only;omega),J (y:=(c.1,c.2+1)) (by dsimp only;omega),J (y:=(c.1-1,c.2)) (by dsimp only;omega),J (y:=(c.1,c.2-1)) (by dsimp only;omega)]
def Wz(nd:S.Nodup)(hc:c∉S):((S++[c]).map (wU (S++[c]))).sum=(S.map (wU S)).sum+wU S c-((if (c.1+1,c.2)∈S then 1 else 0)+((if (c.1,c.2+1)∈S then 1 else 0)+((if (c.1-1,c.2)∈S then 1 else 0)+(if (c.1,c.2-1)∈S then 1 else 0)))):=by
 rw[de,sf,AQ,GL,Ww hc]
 have e:S.map (wU S)=S.map λx=>wU (S++[c]) x+((if x=(c.1+1,c.2) then 1 else 0)+((if x=(c.1,c.2+1) then 1 else 0)+((if x=(c.1-1,c.2) then 1 else 0)+(if x=(c.1,c.2-1) then 1 else 0)))):=d6 λx _=>Xo hc
 rw[e,sum_add (wU (S++[c])),sum_add (λx=>if x=(c.1+1,c.2) then 1 else 0),sum_add (λx=>if x=(c.1,c.2+1) then 1 else 0),sum_add (λx=>if x=(c.1-1,c.2) then 1 else 0),lD nd,lD nd,lD nd,lD nd]
 omega
theorem PN{x:Pt}(hx:x∈S)(hc:c∉S):b1 (cH (S++[c]) x)=b1 (cH S x)+((if x=(c.1+1,c.2) then b1 (decide ((c.1,c.2-1)∈S)&&decide ((c.1+1,c.2-1)∈S)) else 0)+((if x=(c.1,c.2+1) then b1 (decide ((c.1-1,c.2)∈S)&&decide ((c.1-1,c.2+1)∈S)) else 0)+(if x=(c.1+1,c.2+1) then b1 (decide ((c.1,c.2+1)∈S)&&decide ((c.1+1,c.2)∈S)) else 0))):=by
 have Z:∀ {y:Pt},¬(y.1=c.1/\y.2=c.2)->decide (y∈S++[c])=decide (y∈S):=λh=>vf λe=>h ⟨congrArg hV e,congrArg gE e⟩
 have hn:decide (c∈S)=false:=decide_eq_false hc
 have ac:decide (x∈S)=true:=decide_eq_true hx
 have al:decide (x∈S++[c])=true:=decide_eq_true (Ag.mpr (.inl hx))
 have f:∀U:List Pt,cH U x=(decide (x∈U)&&decide ((x.1-1,x.2)∈U)&&decide ((x.1-1,x.2-1)∈U)&&decide ((x.1,x.2-1)∈U)):=λ_=>rfl
 rw[f,f,ac,al]
 obtain⟨Y,x2⟩:=x
 obtain⟨O,J⟩:=c
 dsimp only at *
 by_cases a1:Y=O+1/\x2=J
 ·obtain⟨rfl,rfl⟩:=a1
  rw[if_pos rfl,if_neg (λe=>by have:=(Prod.mk.inj e).1;omega),if_neg (λe=>by have:=(Prod.mk.inj e).2;omega),show O+1-1=O from by omega,hn,En,Z (y:=(O,x2-1)) (by dsimp only;omega),Z (y:=(O+1,x2-1)) (by dsimp only;omega)]
  simp[b1]
 ·by_cases a2:Y=O/\x2=J+1
  ·obtain⟨rfl,rfl⟩:=a2
   rw[if_neg (λe=>by have:=(Prod.mk.inj e).2;omega),if_pos rfl,if_neg (λe=>by have:=(Prod.mk.inj e).1;omega),show J+1-1=J from by omega,hn,En,Z (y:=(Y-1,J+1)) (by dsimp only;omega),Z (y:=(Y-1,J)) (by dsimp only;omega)]
   cases decide ((Y-1,J+1)∈S) <;> cases decide ((Y-1,J)∈S) <;> rfl
  ·by_cases a3:Y=O+1/\x2=J+1
   ·obtain⟨rfl,rfl⟩:=a3
    rw[if_neg (λe=>by have:=(Prod.mk.inj e).2;omega),if_neg (λe=>by have:=(Prod.mk.inj e).1;omega),if_pos rfl,show O+1-1=O from by omega,show J+1-1=J from by omega,hn,En,Z (y:=(O,J+1)) (by dsimp only;omega),Z (y:=(O+1,J)) (by dsimp only;omega)]
    cases decide ((O,J+1)∈S) <;> cases decide ((O+1,J)∈S) <;> rfl
   ·rw[if_neg (λe=>a1 ⟨(Prod.mk.inj e).1,(Prod.mk.inj e).2⟩),if_neg (λe=>a2 ⟨(Prod.mk.inj e).1,(Prod.mk.inj e).2⟩),if_neg (λe=>a3 ⟨(Prod.mk.inj e).1,(Prod.mk.inj e).2⟩),Z (y:=(Y-1,x2)) (by dsimp only;grind),Z (y:=(Y-1,x2-1)) (by dsimp only;grind),Z (y:=(Y,x2-1)) (by dsimp only;grind)]
    omega
def Qf(hc:c∉S):b1 (cH (S++[c]) c)=b1 (decide ((c.1-1,c.2)∈S)&&decide ((c.1-1,c.2-1)∈S)&&decide ((c.1,c.2-1)∈S)):=by
 have J:∀ {y:Pt},¬(y.1=c.1/\y.2=c.2)->decide (y∈S++[c])=decide (y∈S):=λh=>vf λe=>h ⟨congrArg hV e,congrArg gE e⟩
 have f:cH (S++[c]) c=(decide (c∈S++[c])&&decide ((c.1-1,c.2)∈S++[c])&&decide ((c.1-1,c.2-1)∈S++[c])&&decide ((c.1,c.2-1)∈S++[c])):=rfl
 rw[f,En,J (y:=(c.1-1,c.2)) (by dsimp only;omega),J (y:=(c.1-1,c.2-1)) (by dsimp only;omega),J (y:=(c.1,c.2-1)) (by dsimp only;omega),FH]
def Vl(nd:S.Nodup)(hc:c∉S):inI (S++[c])=inI S+((if (c.1+1,c.2)∈S then b1 (decide ((c.1,c.2-1)∈S)&&decide ((c.1+1,c.2-1)∈S)) else 0)+((if (c.1,c.2+1)∈S then b1 (decide ((c.1-1,c.2)∈S)&&decide ((c.1-1,c.2+1)∈S)) else 0)+(if (c.1+1,c.2+1)∈S then b1 (decide ((c.1,c.2+1)∈S)&&decide ((c.1+1,c.2)∈S)) else 0)))+b1 (decide ((c.1-1,c.2)∈S)&&decide ((c.1-1,c.2-1)∈S)&&decide ((c.1,c.2-1)∈S)):=by
 unfold inI
 rw[de,sf,AQ,GL,Qf hc,d6 (λx J=>PN J hc),sum_add (λx=>b1 (cH S x)),sum_add (λx=>if x=(c.1+1,c.2) then b1 (decide ((c.1,c.2-1)∈S)&&decide ((c.1+1,c.2-1)∈S)) else 0),sum_add (λx=>if x=(c.1,c.2+1) then b1 (decide ((c.1-1,c.2)∈S)&&decide ((c.1-1,c.2+1)∈S)) else 0),lD nd,lD nd,lD nd]
def PX:∀e0 e1 e2 e3 f0 f1 f2 f3:Bool,(e0&&e1&&e2&&e3)=false->(e0||e1||e2||e3)=true->(e0&&e2 && !e1 && !e3)=false->(e1&&e3 && !e0 && !e2)=false->(e0&&e1 && !f0)=false->(e1&&e2 && !f1)=false->(e2&&e3 && !f2)=false->(e3&&e0 && !f3)=false ->
  2*((if e0=true then b1 (e3&&f3) else 0)+((if e1=true then b1 (e2&&f1) else 0)+(if f0=true then b1 (e1&&e0) else 0))+b1 (e2&&f2&&e3))+((b1 (!e0)+b1 (!e1)+b1 (!e2)+b1 (!e3))-(b1 e0+(b1 e1+(b1 e2+b1 e3))))=2:=by decide
def XC(nd:S.Nodup)(hc:c∉S)(dg:Dg S)(h4:¬(nb c 0∈S/\nb c 1∈S/\nb c 2∈S/\nb c 3∈S))(h1:nb c 0∈S\/nb c 1∈S\/nb c 2∈S\/nb c 3∈S)(alt1:¬(nb c 0∈S/\nb c 2∈S/\nb c 1∉S/\nb c 3∉S))(alt2:¬(nb c 1∈S/\nb c 3∈S/\nb c 0∉S/\nb c 2∉S))(E:FZ S):FZ (S++[c]):=by
 have Z:nb c 0=(c.1+1,c.2):=aI rfl (pE _)
 have q1:nb c 1=(c.1,c.2+1):=aI (pE _) rfl
 have q2:nb c 2=(c.1-1,c.2):=aI rfl (pE _)
 have q3:nb c 3=(c.1,c.2-1):=aI (pE _) rfl
 have d0:nb c 0∈S->nb c 1∈S->(c.1+1,c.2+1)∈S:=λa b=>qC dg (j:=0) (by omega) a b hc
 have O:nb c 1∈S->nb c 2∈S->(c.1-1,c.2+1)∈S:=λa b=>qC dg (j:=1) (by omega) a b hc
 have U:nb c 2∈S->nb c 3∈S->(c.1-1,c.2-1)∈S:=λa b=>qC dg (j:=2) (by omega) a b hc
 have Y:nb c 3∈S->nb c 0∈S->(c.1+1,c.2-1)∈S:=λa b=>qC dg (j:=3) (by omega) a b hc
 simp only[Z,q1,q2,q3] at h4 h1 alt1 alt2 d0 O U Y
 have k:=PX (decide ((c.1+1,c.2)∈S)) (decide ((c.1,c.2+1)∈S)) (decide ((c.1-1,c.2)∈S)) (decide ((c.1,c.2-1)∈S)) (decide ((c.1+1,c.2+1)∈S)) (decide ((c.1-1,c.2+1)∈S)) (decide ((c.1-1,c.2-1)∈S)) (decide ((c.1+1,c.2-1)∈S)) (by simpa using h4) (by simpa [or_assoc] using h1) (by simpa using alt1) (by simpa using alt2) (by simpa using d0) (by simpa using O) (by simpa using U) (by simpa using Y)
 have J:∀ {P:Prop} [Decidable P],(if P then (1:Int) else 0)=b1 (decide P):=λ{P} _=>by
  by_cases h:P
  ·rw[if_pos h,decide_eq_true h];rfl
  ·rw[if_neg h,decide_eq_false h];rfl
 unfold FZ at E ⊢
 rw[Vl nd hc,Wz nd hc,ck,kG,J,J,J,J]
 simp only[decide_eq_true_eq] at k
 unfold wU at *
 omega
end
section
variable{S:List Pt}{q:Pt}{t:Nat}
def qe:cH S p=true↔∀d,d<4->bM p d∈S:=by
 unfold cH
 simp only[tm,decide_eq_true_eq]
 constructor
 ·rintro⟨⟨⟨J,h1⟩,h2⟩,O⟩ d hd
  rcases c4 hd with rfl | rfl | rfl | rfl <;> assumption
 ·intro h
  exact⟨⟨⟨h 0 (by omega),h 1 (by omega)⟩,h 2 (by omega)⟩,h 3 (by omega)⟩
def Dk(hd:d<4):Meet p (bM p d):=by
 rcases c4 hd with rfl | rfl | rfl | rfl
 ·exact .inl rfl
 ·exact .inr (.inl rfl)
 ·exact .inr (.inr (.inl rfl))
 ·exact .inr (.inr (.inr rfl))
def BL(hd:d<4)(hc:bM p d∈S):bH S p↔cH S p=false:=by
 constructor
 ·rintro⟨e,O⟩
  rw[Iy]
  intro z
  refine O.r ?_
  rw[YK O.lt]
  exact qe.mp z _ (rX _ (by omega))
 ·intro z
  have:∃e,e<4/\bM p e∉S:=by
   apply cn
   intro n
   have:cH S p=true:=qe.mpr λe J=>cn λy=>n ⟨e,J,y⟩
   rw[z] at this;cases this
  obtain⟨e,J,U⟩:=this
  exact jk (Dk hd) (Dk J) hc U
def Hg(nd:S.Nodup)(hd:d<4):(S.filter λc=>cH S (gO c d)).length=(S.filter λc=>cH S c).length:=by
 have U:((S.filter λc=>cH S (gO c d)).map λc=>gO c d).Perm (S.filter λc=>cH S c):=by
  refine (eS ?_ (nd.filter _)).mpr λp=>?_
  ·rw[ax,dS]
   exact (ax.mp (nd.filter _)).imp λ{a b} J z=>J (by rw[←Fp (c:=a) hd,z,Fp hd])
  ·rw[b9,dn]
   constructor
   ·rintro⟨c,Y,rfl⟩
    have:=(dn.mp Y).2
    exact⟨qe.mp this 0 (by omega),this⟩
   ·rintro⟨_,O⟩
    refine⟨bM p d,dn.mpr ⟨qe.mp O d hd,?_⟩,(ji hd).symm⟩
    rw[←ji hd];exact O
 have:=U.length_eq
 rw[ae] at this
 exact this
def qD(nd:S.Nodup)(hq:bH S q)(r:cQ S q t)(hd:d<4):((cls S q t).map λp=>b1 (decide (bM p d∈S))).sum=S.length-inI S:=by
 rw[zN (λp=>decide (bM p d∈S))]
 unfold inI
 rw[zN (λc=>cH S c),←Hg nd hd]
 have J:(((cls S q t).filter λp=>decide (bM p d∈S)).map λp=>bM p d).Perm (S.filter λc=>!cH S (gO c d)):=by
  refine (eS ?_ (nd.filter _)).mpr λc=>?_
  ·rw[ax,dS]
   exact (ax.mp ((Tu r).filter _)).imp λ{a b} O z=>O (by rw[ji (p:=a) hd,z,←ji hd])
  ·rw[b9,dn]
   constructor
   ·rintro⟨p,J,rfl⟩
    obtain⟨h1,h2⟩:=dn.mp J
    rw[decide_eq_true_iff] at h2
    refine⟨h2,?_⟩
    rw[←ji hd,(BL hd h2).mp ((iI hq r).mp h1)];rfl
   ·rintro⟨h1,h2⟩
    have U:bM (gO c d) d∈S:=by rw[Fp hd];exact h1
    refine⟨gO c d,dn.mpr ⟨(iI hq r).mpr ((BL hd U).mpr (by simpa using h2)),decide_eq_true U⟩,Fp hd⟩
 have e:=J.length_eq
 rw[ae] at e
 rw[e]
 have:∀l:List Pt,(l.filter λc=>!cH S (gO c d)).length+(l.filter λc=>cH S (gO c d)).length=l.length:=by
  intro l
  induction l with
  |nil=>rfl
  |cons a l ih=>
   cases h:cH S (gO a d) with
   |true=>rw[kg (by simp[h]),ke (by exact h),bE,bE];omega
   |false=>rw[ke (by simp[h]),kg (by simp[h]),bE,bE];omega
 have:=this S
 omega
def Y0(dg:Dg S)(nd:S.Nodup)(hq:bH S q)(r:cQ S q t)(E:FZ S):((cls S q t).map λp=>2-Kp S p).sum=4:=by
 have U:=qD nd hq r (d:=0) (by omega)
 have Y:=qD nd hq r (d:=1) (by omega)
 have Z:=qD nd hq r (d:=2) (by omega)
 have k3:=qD nd hq r (d:=3) (by omega)
 have ht:=Kh dg nd hq r
 have hs:=JW S S
 unfold FZ at E
 have e:((cls S q t).map λp=>(2-Kp S p)+(b1 (decide (bM p 0∈S))+(b1 (decide (bM p 1∈S))+(b1 (decide (bM p 2∈S))+b1 (decide (bM p 3∈S)))))).sum=((cls S q t).map λ_=>(1:Int)+1).sum:=by
  congr 1
  refine d6 λp _=>?_
  unfold Kp
  omega
 rw[sum_add (λp=>2-Kp S p),sum_add (λp=>b1 (decide (bM p 0∈S))),sum_add (λp=>b1 (decide (bM p 1∈S))),sum_add (λp=>b1 (decide (bM p 2∈S))),sum_add (λ_=>(1:Int)) λ_=>1] at e
 have J:∀l:List Pt,(l.map λ_=>(1:Int)).sum=l.length:=by
  intro l
  induction l with
  |nil=>rfl
  |cons c l ih=>rw[aE,e9,ih,bE];omega
 rw[J] at e
 have O:(cls S q t).length=t:=by unfold cls;rw[ae,eI]
 rw[O] at e
 omega
end
def YS(S:List Pt)(p:Pt)(t:Nat):List Pt:=(bo t).map λi=>eV (az S p i) (outD S (az S p i))
def Nx(S:List Pt)(g:Tr)(s0:Pt)(t:Nat):List Pt:=(YS S s0 t).map (shf g S)
def Ju(S:List Pt)(g:Tr)(s0:Pt)(t:Nat):(Nx S g s0 t).length=t:=by unfold Nx YS;rw[ae,ae,eI]
def V6(S:List Pt):Prop:=∀p∈S,Bt 10000 p.1/\Bt 10000 p.2
def V6.sm(h:V6 S):Small S:=λp J=>⟨(h p J).1.mono (by decide),(h p J).2.mono (by decide)⟩
def Jg:Bt 4 1:=by unfold Bt;decide
def abA(h:V6 S)(e:je S p d):Bt 20000 (eV p d).1/\Bt 20000 (eV p d).2:=by
 obtain⟨b1,b2⟩:=h _ e.l
 have J:=b1.mono (show 10000<=20000 by decide)
 have O:=b2.mono (show 10000<=20000 by decide)
 rcases c4 e.lt with rfl | rfl | rfl | rfl
 ·refine⟨J,?_⟩
  exact Bt.mono (Bt.sub b2 Jg) (by decide)
 ·refine⟨?_,O⟩
  have:(eV p 1).1=(bM p 1).1+1:=by show p.1=p.1-1+1;omega
  rw[this];exact Bt.mono (Bt.add b1 Jg) (by decide)
 ·refine⟨J,?_⟩
  have:(eV p 2).2=(bM p 2).2+1:=by show p.2=p.2-1+1;omega
  rw[this];exact Bt.mono (Bt.add b2 Jg) (by decide)
 ·refine⟨?_,O⟩
  have:(eV p 3).1=(bM p 3).1-1:=by show p.1-1=p.1-1;omega
  rw[this];exact Bt.mono (Bt.sub b1 Jg) (by decide)
def Z0(h:V6 S)(hc:bH S s0):∀q∈YS S s0 t,Bt 20000 q.1/\Bt 20000 q.2:=by
 intro q J
 obtain⟨i,_,rfl⟩:=b9.mp J
 exact abA h (aQ (aP hc i))
def chB(L:List Pt)(k:Nat):Bool:=!decide (L.getD k (0,0)=L.getD (if k=0 then L.length-1 else k-1) (0,0))
def ph(L:List Pt):List Nat:=(bo (L.length / 2)).filter (chB L)
def Yp{L:List Pt}{k:Nat}(h:k<L.length):jU (L.map aO) (0+(k:Int))=some (.tup [.int (L.getD k (0,0)).1,.int (L.getD k (0,0)).2]):=by
 rw[jK (by omega) (by omega)]
 congr 1
 rw[←sT (h:=h) (0,0)]
 show aO L[((0:Int)+(k:Int)).toNat]=aO L[k]
 congr 2
 omega
def acd{L:List Pt}{k:Nat}(h:k<L.length):jU (L.map aO) (0+(k:Int)-1)=some (.tup [.int (L.getD (if k=0 then L.length-1 else k-1) (0,0)).1,.int (L.getD (if k=0 then L.length-1 else k-1) (0,0)).2]):=by
 cases k with
 |zero=>
  rw[if_pos rfl]
  unfold jU Ov
  rw[ae,if_neg (by omega),if_pos (by omega),i9,ay,show (0+((0:Nat):Int)-1+(L.length:Int)).toNat=L.length-1 from by omega,aS (by omega),←sT (h:=(by omega:L.length-1<L.length)) (0,0)]
  rfl
 |succ k=>
  rw[if_neg (by omega),show (0+((k+1:Nat):Int)-1)=0+(k:Int) from by omega]
  exact Yp (by omega)
def Cp.acp{cA:tG}{te:bK}{g:um}{keep:aA->Prop}{σ0:cD}{as:List α}{E:α->D}(F:α->D)(T:α->Bool)(hk:∀H2:aA,aq H H2->keep H2)(hl:as.length<=10000)
  (hel:∀(i:Nat) a,as[i]?=some a->∀(R1:bL) (R0:aA->Prop) (H2:aA),aq H H2->(T a=true->∀H6,aq H2 H6->R1 (F a) H6)->(T a=false->∀H6,aq H2 H6->R0 H6)->g (E a) σ0 H2 λσ2 H4=>cA σ2 H4 λb H5=>if b=true then te σ2 H5 R1 else R0 H5)
  (fin:∀p,H p=none->Q (.ref p) (au H p (.lst ((as.filter T).map F)))):Cp g cA te σ0 (as.map E) keep H Q:=by
 refine⟨hk,by rw[ae];exact hl,as.map (λa=>if T a=true then some (F a) else none),by simp,λi d hd H2 hs=>?_,λp Y=>?_⟩
 ·rw[ay] at hd
  cases e:as[i]? with
  |none=>rw[e] at hd;cases hd
  |some a=>
   rw[e] at hd
   cases hd
   have U:(as.map λa=>if T a=true then some (F a) else none)[i]?=some (if T a=true then some (F a) else none):=by rw[ay,e];rfl
   exact hel i a e _ _ H2 hs (λJ H6 O=>⟨O,by rw[U,if_pos J]⟩) λJ H6 O=>⟨O,by rw[U,if_neg (by rw[J];exact ff)]⟩
 ·have e:∀as:List α,(as.map λa=>if T a=true then some (F a) else none).filterMap id=(as.filter T).map F:=by
   intro as
   induction as with
   |nil=>rfl
   |cons a as ih=>
    rw[aE,lx]
    cases h:T a with
    |true=>rw[ke h,aE,←ih];rfl
    |false=>rw[kg (by simp[h]),←ih];rfl
  rw[e]
  exact fin p Y
def cutD(cs:List Int):D:=.tup (cs.map D.int)
def wN(h:Int)(a:Nat)(n:Nat):List Pt:=(bo n).map λi:Nat=>((a:Int),(a:Int)+1+(i:Int))
def uN(h:Int):Nat->List Pt
 |0=>[]
 |n+1=>uN h n++wN h n (h-((n:Int)+1)).toNat
def jq(h:Int):List Pt:=uN h h.toNat
def wg(h:Int)(p:Pt):List (Int×Int×Int):=(bo (h-(p.2+1)).toNat).map λi:Nat=>(p.1,p.2,p.2+1+(i:Int))
def jx(h:Int)(ps:List Pt):List (Int×Int×Int):=(ps.map (wg h)).flatten
def U3(q:Int×Int×Int):D:=.tup [.int q.1,.int q.2.1,.int q.2.2]
def wZ(h:Int):List (List Int):=(jq h).map (λp=>[p.1,p.2])++(jx h (jq h)).map (λq=>[q.1,q.2.1,q.2.2])
def aa6(h:Int):(jq h).map aO++(jx h (jq h)).map U3=(wZ h).map cutD:=by
 unfold wZ
 rw[de,dP,dP]
 rfl
def Ly(h:Int)(ps:List Pt)(p:Pt):jx h (ps++[p])=jx h ps++wg h p:=by unfold jx;simp
variable{h:Int}{n:Nat}
def By{a:Nat}:p∈wN h a n↔p.1=a/\(a:Int)<p.2/\p.2<(a:Int)+1+n:=by
 unfold wN
 rw[b9]
 constructor
 ·rintro⟨i,hi,rfl⟩
  have:=b6.mp hi
  exact⟨rfl,by dsimp only;omega,by dsimp only;omega⟩
 ·rintro⟨h1,h2,J⟩
  exact⟨(p.2-(a:Int)-1).toNat,b6.mpr (by omega),aI h1.symm (by dsimp only;omega)⟩
theorem iC{h:Int}{p:Pt}:∀ {n:Nat},p∈uN h n↔0<=p.1/\p.1<n/\p.1<p.2/\p.2<h
 |0=>by
  constructor
  ·intro z;cases z
  ·intro z;omega
 |n+1=>by
  rw[uN,ib,iC,By]
  omega
theorem wB(h:Int)(hh:h<=21):∀n:Nat,(uN h n).length<=n*21
 |0=>by simp[uN]
 |n+1=>by
  rw[uN,ck,OA]
  have:=wB h hh n
  have e:(wN h n (h-((n:Int)+1)).toNat).length=(h-((n:Int)+1)).toNat:=by simp[wN]
  omega
theorem vX{h:Int}(hh:h<=21):∀ {ps:List Pt},(∀p∈ps,0<=p.2)->(jx h ps).length<=ps.length*20
 |[],_=>by simp[jx]
 |p::ps,hp=>by
  have ih:=vX hh (ps:=ps) λq J=>hp q (by simp[J])
  have e:jx h (p::ps)=wg h p++jx h ps:=by simp[jx]
  have O:(wg h p).length=(h-(p.2+1)).toNat:=by simp[wg]
  have:=hp p (by simp)
  rw[e,ck,bE,OA]
  omega
def pQ(h0:0<=h)(hh:h<=21):(jq h).length<=441:=by
 have:=wB h hh h.toNat
 have:h.toNat*21<=21*21:=EK _ (by omega)
 unfold jq
 omega
def two_pos:∀p∈jq h,0<=p.2:=λp J=>by have:=iC.mp J;omega
def KR(h0:0<=h)(hh:h<=21):(jx h (jq h)).length<=8820:=by
 have:=vX hh (two_pos (h:=h))
 have:=pQ h0 hh
 omega
def T4(h0:0<=h)(hh:h<=21):(wZ h).length<=10000:=by
 unfold wZ
 rw[ck,ae,ae]
 have:=pQ h0 hh
 have:=KR h0 hh
 omega
def Di{q:Int×Int×Int}:q∈jx h ps↔∃p∈ps,q.1=p.1/\q.2.1=p.2/\p.2<q.2.2/\q.2.2<h:=by
 unfold jx wg
 simp only[rf,b9]
 constructor
 ·rintro⟨_,⟨p,J,rfl⟩,O⟩
  obtain⟨i,hi,rfl⟩:=b9.mp O
  have:=b6.mp hi
  exact⟨p,J,rfl,rfl,by dsimp only;omega,by dsimp only;omega⟩
 ·rintro⟨p,J,h1,h2,U,Y⟩
  exact⟨_,⟨p,J,rfl⟩,b9.mpr ⟨(q.2.2-p.2-1).toNat,b6.mpr (by omega),aI h1.symm (aI h2.symm (by dsimp only;omega))⟩⟩
def sO(h:n<=10000):n<cf:=by rw[aW];omega
def pw(W:List Lt)(i:Nat):Pt:=fG (0,0) (W.take (i%W.length))
variable{W:List Lt}
def ack(h:i<W.length):pw W i=fG (0,0) (W.take i):=by
 unfold pw;rw[xD h]
def sh(W:List Lt)(L:Int)(s:Int×Int):Pt:=bz (pw W s.1.toNat) (pw W (s.2+L).toNat)
def pJ(c a:Nat):List Tr:=if c%a=0 then (bo a).map λb:Nat=>((a:Int),(b:Int),((c / a:Nat):Int)) else []
def dC(c n:Nat):List Tr:=((bo n).map λi=>pJ c (i+1)).flatten
def dW(c n:Nat):dC c (n+1)=dC c n++pJ c (n+1):=by
 unfold dC
 rw[pf,de,List.flatten_append];simp
def Ci(c a:Nat):(pJ c a).length<=a:=by
 unfold pJ;split <;> simp
theorem uP(c:Nat):∀n,n<=200->(dC c n).length<=200*n
 |0,_=>by simp[dC]
 |n+1,h=>by
  have:=uP c n (by omega)
  have:=Ci c (n+1)
  rw[dW,ck];omega
def fQ:du:=λds H Q=>∃c,ds=[.int c]/\((1<=c/\c<=200)/\∀p,H p=none->Q (.ref p) (au H p (.lst ((dC c.toNat c.toNat).map d9))))
def HF{c:Int}(h1:1<=c)(h2:c<=200)(h:∀p,H p=none->Q (.ref p) (au H p (.lst ((dC c.toNat c.toNat).map d9)))):fQ [.int c] H Q:=⟨_,rfl,⟨⟨h1,h2⟩,h⟩⟩
def Dy(c a:Nat):((bo a).map λb:Nat=>D.tup [.int (a:Int),.int (b:Int),.int ((c / a:Nat):Int)])=((bo a).map λb:Nat=>((a:Int),(b:Int),((c / a:Nat):Int))).map d9:=by rw[dP];rfl
def nG:bC:=xf (Zo (c3 (.int 1)) (o3 aH (v3 0) (c3 (.int 1)))) (jB 2) (nZ (dU (o3 jf (o3 dG (v3 0) (v3 2)) (c3 (.int 0)))) (O8 (m3 qt (v3 1) (aa (oN (Uz (v3 2)) (jB 0) jd (cO (aa (v3 1) (aa (v3 0) (aa (o3 cF (v3 2) (v3 1)) ak)))) ["b"] [(2, "a"),(0, "count")]) ak))) nU)
def v9:bC:=(aV (st3 1 (wL ak))
  (aV nG
  (dD (v3 1))))
def Ez:Rd ["count", "grids", "a"] fQ v9:=by
 rintro ds H Q ⟨c,rfl,h⟩
 obtain⟨⟨h1,h2⟩,h⟩:=h
 obtain⟨n,rfl⟩:=fT (show 0<=c by omega)
 rw[eP] at h
 (unfold v9;walk_at "l3t")
 walk_at "l3"
 intro p Y
 walk_at "l3"
 unfold nG
 walk_at "l3"
 rw[show ((n:Int)+1-1).toNat=n from by omega]
 refine Lp.jZ (λi σ H2=>aq H H2/\H2 p=some (.lst ((dC n i).map d9))/\∃y,σ=[some (.int n),some (.ref p),y]) ⟨aq.fresh Y,aj,_,rfl⟩ ?_ ?_
 ·rintro i σ H2 hi ⟨hs,O,y,rfl⟩
  rw[show (1:Int)+(i:Int)=((i+1:Nat):Int) from by omega]
  have Z:(0:Int)<((i+1:Nat):Int):=by omega
  have U:Dc (n:Int) ((i+1:Nat):Int):=⟨Z,by
   have:((i+1:Nat):Int).natAbs<2 ^ 10:=by rw[GN];omega
   exact Bt.mono this (by decide)⟩
  walk_at "l3"
  have e0:((n:Int)%((i+1:Nat):Int)=0)↔n%(i+1)=0:=by rw[←CD];omega
  have e1:(n:Int) / ((i+1:Nat):Int)=((n / (i+1):Nat):Int):=(Ki n (i+1)).symm
  refine zA (λhz=>?_) λhz=>?_
  ·walk_at "l3"
   rw[eP]
   refine Cp.jZ (λb:Nat=>D.tup [.int ((i+1:Nat):Int),.int (b:Int),.int ((n / (i+1):Nat):Int)]) (by omega) ?_ ?_
   ·intro b hb R H3 ac hR
    rw[ko]
    walk_at "l3"
    refine IK U ?_
    rw[e1]
    walk_at "l3"
    exact hR H3 aq.refl
   intro p2 J
   walk_at "l3"
   have al:p≠p2:=ne3 O J
   refine Kf (ao O J) aj (by rw[aW,ae,ae,eI];have:=uP n i (by omega);omega) ?_
   walk_at "l3"
   refine⟨?_,?_,_,rfl⟩
   ·intro a o ha
    have n1:a≠p:=ne3 ha Y
    rw[aG n1]
    exact ao (hs a o ha) J
   ·rw[aj,dW,Dy,de]
    unfold pJ
    rw[if_pos (e0.mp hz)]
  ·walk_at "l3"
   refine⟨hs,?_,_,rfl⟩
   rw[dW]
   unfold pJ
   rw[if_neg (λz=>hz (e0.mpr z)),i4]
   exact O
 ·rintro σ H2 ⟨hs,O,y,rfl⟩
  walk_at "l3"
  exact aJ (h p Y) (dj hs O)
def gf:du:=λds H Q=>∃a b c d x,ds=[.tup [.int a,.int b],x]/\(x=.tup [.int c,.int d]\/x=.ktup [.int c,.int d])/\Q (.tup [.int (a+c),.int (b+d)]) H
def Qj{a c d:Int}(h:Q (.tup [.int (a+c),.int (b+d)]) H):gf [.tup [.int a,.int b],.ktup [.int c,.int d]] H Q:=⟨a,b,c,d,_,rfl,.inr rfl,h⟩
local macro_rules | `(tactic| walk_at "l3c")=>`(tactic| first | (with_reducible refine u_added ?_) | (with_reducible refine Qj ?_))
def Nk:Ln gf ["one", "other"]:=by
 intro ds H Q h
 obtain⟨_,_,_,_,_,rfl,_⟩:=h
 rfl
def zj:bC:=(dD (cO (aa (o3 aH (o3 aB (v3 0) (c3 (.int 0))) (o3 aB (v3 1) (c3 (.int 0)))) (aa (o3 aH (o3 aB (v3 0) (c3 (.int 1))) (o3 aB (v3 1) (c3 (.int 1)))) ak))))
def Ry:Rd ["one", "other"] gf zj:=by
 rintro ds H Q ⟨a,b,c,d,x,rfl,J,h⟩
 rcases J with rfl | rfl
 ·(unfold zj;walk_at "l3t")
  walk_at "l3"
  exact aJ h aq.refl
 ·(unfold zj;walk_at "l3t")
  walk_at "l3"
  exact aJ h aq.refl
def gR:du:=λds H Q=>∃a b c d,ds=[.tup [.int a,.int b],.tup [.int c,.int d]]/\(Q (.tup [.int (a-c),.int (b-d)]) H)
def Vg{a c d:Int}(h:Q (.tup [.int (a-c),.int (b-d)]) H):gR [.tup [.int a,.int b],.tup [.int c,.int d]] H Q:=⟨_,_,_,_,rfl,h⟩
local macro_rules | `(tactic| walk_at "l3c")=>`(tactic| (with_reducible refine Vg ?_))
def JC:bC:=(dD (cO (aa (o3 bF (o3 aB (v3 0) (c3 (.int 0))) (o3 aB (v3 1) (c3 (.int 0)))) (aa (o3 bF (o3 aB (v3 0) (c3 (.int 1))) (o3 aB (v3 1) (c3 (.int 1)))) ak))))
def Qk:Rd ["one", "other"] gR JC:=by
 rintro ds H Q ⟨_,_,_,_,rfl,h⟩
 (unfold JC;walk_at "l3t")
 walk_at "l3"
 exact aJ h aq.refl
def dZ:du:=λds H Q=>∃a b d,ds=[.tup [.int a,.int b,.int d]]/\(fH a b d/\Q (.int (a*d)) H)
def Gb{a d:Int}(hg:fH a b d)(h:Q (.int (a*d)) H):dZ [.tup [.int a,.int b,.int d]] H Q:=⟨_,_,_,rfl,⟨hg,h⟩⟩
local macro_rules | `(tactic| walk_at "l3c")=>`(tactic| ((with_reducible show dZ _ _ _);refine Gb (by assumption) ?_))
def vZ:bC:=(dD (o3 b7 (o3 aB (v3 0) (c3 (.int 0))) (o3 aB (v3 0) (c3 (.int 2)))))
def DN:Rd ["grid"] dZ vZ:=by
 rintro ds H Q ⟨_,_,_,rfl,h⟩
 obtain⟨⟨h1,h2,J,O,U,Y⟩,h⟩:=h
 (unfold vZ;walk_at "l3t")
 walk_at "l3"
 exact aJ h aq.refl
def d7:du:=λds H Q=>∃a b d i j,ds=[.tup [.int a,.int b,.int d],.int i,.int j]/\((fH a b d/\Bt 50000 i/\Bt 50000 j)/\Q (.tup [.int (i*a+j*b),.int (j*d)]) H)
def Ja{a d i j:Int}(hg:fH a b d)(hi:Bt 50000 i)(hj:Bt 50000 j)(h:Q (.tup [.int (i*a+j*b),.int (j*d)]) H):d7 [.tup [.int a,.int b,.int d],.int i,.int j] H Q:=⟨_,_,_,_,_,rfl,⟨⟨hg,hi,hj⟩,h⟩⟩
local macro_rules | `(tactic| walk_at "l3c")=>`(tactic| ((with_reducible show d7 _ _ _);refine Ja (by assumption) (Bt.mono (by walk_at "l3b") (by decide)) (Bt.mono (by walk_at "l3b") (by decide)) ?_))
def wC:bC:=(dD (cO (aa (o3 aH (o3 b7 (v3 1) (o3 aB (v3 0) (c3 (.int 0)))) (o3 b7 (v3 2) (o3 aB (v3 0) (c3 (.int 1))))) (aa (o3 b7 (v3 2) (o3 aB (v3 0) (c3 (.int 2)))) ak))))
def DW:Rd ["grid", "i", "j"] d7 wC:=by
 rintro ds H Q ⟨_,_,_,_,_,rfl,h⟩
 obtain⟨⟨hg,hi,J⟩,h⟩:=h
 have O:=hg.bb
 obtain⟨h1,h2,U,Y,Z,h6⟩:=hg
 (unfold wC;walk_at "l3t")
 walk_at "l3"
 exact aJ h aq.refl
def bZ:du:=λds H Q=>∃a b d x y,ds=[.tup [.int a,.int b,.int d],.tup [.int x,.int y]]/\((fH a b d/\Bt 20000 x/\Bt 20000 y)/\Q (.tup [.int (Pa a b d x y),.int (I9 d y)]) H)
def wO{a d:Int}(hg:fH a b d)(hi:Bt 20000 x)(hj:Bt 20000 y)(h:Q (.tup [.int (Pa a b d x y),.int (I9 d y)]) H):bZ [.tup [.int a,.int b,.int d],.tup [.int x,.int y]] H Q:=⟨_,_,_,_,_,rfl,⟨⟨hg,hi,hj⟩,h⟩⟩
local macro_rules | `(tactic| walk_at "l3c")=>`(tactic| ((with_reducible show bZ _ _ _);refine wO (by assumption) (Bt.mono (by walk_at "l3b") (by decide)) (Bt.mono (by walk_at "l3b") (by decide)) ?_))
def nH:bC:=(aV (st3 2 (o3 cF (o3 aB (v3 1) (c3 (.int 1))) (o3 aB (v3 0) (c3 (.int 2)))))
  (aV (st3 3 (o3 cF (o3 bF (o3 aB (v3 1) (c3 (.int 0))) (o3 b7 (v3 2) (o3 aB (v3 0) (c3 (.int 1))))) (o3 aB (v3 0) (c3 (.int 0)))))
  (dD (cO (aa (v3 3) (aa (v3 2) ak))))))
def uO:Rd ["grid", "pair", "j", "i"] bZ nH:=by
 rintro ds H Q ⟨_,_,_,_,_,rfl,h⟩
 obtain⟨⟨hg,hi,J⟩,h⟩:=h
 have O:=hg.bb
 obtain⟨h1,h2,U,Y,Z,h6⟩:=hg
 (unfold nH;walk_at "l3t")
 walk_at "l3"
 exact aJ h aq.refl
structure Ms(x y g:Int):Prop where
 nn:0<=g
 grp:∀G,yR G->G (x,0)->G (y,0)->G (g,0)
 i1:∃i,x=i*g
 i2:∃j,y=j*g
def Ms.bt{g:Int}{m:Nat}(h:Ms x y g)(hx:Bt m x)(hy:Bt n y):Bt (max m n) g:=by
 have le:∀ {z:Int},z≠0->(∃i,z=i*g)->g.natAbs<=z.natAbs:=by
  rintro z J ⟨i,rfl⟩
  rw[AF]
  refine Nat.le_mul_of_pos_left _ ?_
  rcases vF i.natAbs with z | z
  ·rw[Int.natAbs_eq_zero.mp z] at J;simp at J
  ·exact z
 by_cases h1:x=0
 ·by_cases h2:y=0
  ·subst h1 h2
   have g0:yR λp:Pt=>p=(0,0):=⟨rfl,by rintro p q rfl rfl;rfl⟩
   have:=h.grp _ g0 rfl rfl
   have e:g=0:=congrArg hV this
   subst e
   exact yT _
  ·exact (hy.of_le (le h2 h.i2)).mono (IZ _ _)
 ·exact (hx.of_le (le h1 h.i1)).mono (Lu _ _)
structure Msi(x0 y0 x y:Int):Prop where
 grp:∀G,yR G->G (x0,0)->G (y0,0)->G (x,0)/\G (y,0)
 i1:∃i j,x0=i*x+j*y
 i2:∃i j,y0=i*x+j*y
def Msi.step{x0 y0 x y:Int}(h:Msi x0 y0 x y):Msi x0 y0 y (x.fmod y):=by
 have e:=Oy x y
 refine⟨λG g a b=>⟨(h.grp G g a b).2,?_⟩,?_,?_⟩
 ·have:=g.sub _ _ (h.grp G g a b).1 (g.mul (h.grp G g a b).2 (x.fdiv y))
  simp only[fw,zo] at this
  rw[e,ia];exact this
 ·obtain⟨i,j,z⟩:=h.i1
  refine⟨i*x.fdiv y+j,i,?_⟩
  rw[z,e,vS,KP]
  have:i*x.fdiv y*y=i*(y*x.fdiv y):=by ac_rfl
  omega
 ·obtain⟨i,j,z⟩:=h.i2
  refine⟨i*x.fdiv y+j,i,?_⟩
  rw[z,e,vS,KP]
  have:i*x.fdiv y*y=i*(y*x.fdiv y):=by ac_rfl
  omega
def Msi.fin{x0 y0:Int}(h:Msi x0 y0 x 0):Ms x0 y0 (if x<0 then -x else x):=by
 obtain⟨i,j,z⟩:=h.i1
 obtain⟨k,l,J⟩:=h.i2
 simp only[fw,pE] at z J
 split
 ·refine⟨by omega,λG g a b=>?_,⟨-i,by rw[z,LN]⟩,⟨-k,by rw[J,LN]⟩⟩
  have:=g.neg (h.grp G g a b).1
  simpa using this
 ·exact⟨by omega,λG g a b=>(h.grp G g a b).1,⟨i,z⟩,⟨k,J⟩⟩
def bQ:du:=λds H Q=>∃x y,ds=[.int x,.int y]/\(∀g,Ms x y g->Q (.int g) H)
def rC(h:∀g,Ms x y g->Q (.int g) H):bQ [.int x,.int y] H Q:=⟨_,_,rfl,h⟩
def gr:bC:=wh3 (dU (o3 eG (v3 1) (c3 (.int 0)))) (aV (st3 2 (o3 Ae (v3 0) (v3 1)))
  (aV (st3 0 (v3 1))
  (st3 1 (v3 2))))
def jD:bC:=(aV gr
  (dD (aM Kr (aa (v3 0) ak))))
def pq:Rd ["one", "other", "rest"] bQ jD:=by
 rintro ds H Q ⟨O,U,rfl,h⟩
 (unfold jD;walk_at "l3t")
 walk_at "l3"
 unfold gr
 refine WN (λσ H2=>H2=H/\∃x y z,Msi O U x y/\σ=[some (.int x),some (.int y),z]) (λσ _=>match σ with | [_,some (.int y),_]=>y.natAbs | _=>0) ⟨rfl,O,U,none,⟨λ_ _ a b=>⟨a,b⟩,⟨1,0,by omega⟩,⟨0,1,by omega⟩⟩,rfl⟩ ?_
 rintro σ H2 ⟨rfl,x,y,z,hi,rfl⟩
 walk_at "l3"
 refine Pz (λJ=>?_) λJ=>?_
 ·walk_at "l3"
  refine aam J ?_
  walk_at "l3"
  exact⟨⟨rfl,y,x.fmod y,_,hi.step,rfl⟩,JS J⟩
 ·subst J
  walk_at "l3"
  refine acM ?_
  exact aJ (h _ hi.fin) aq.refl
structure Lvl(N:Nat)(p0 q0 u:Pt)(w:Int):Prop where
 grp:∀G,yR G->G p0->G q0->G u/\G (w,0)
 i1:bV u (w,0) p0
 i2:bV u (w,0) q0
 bu:Bt 400 u.2
 b1:Bt (N+400000) u.1
 bw:Bt (N+400000) w
def fW:du:=λds H Q=>∃x1 y1 x2 y2,ds=[.tup [.int x1,.int y1],.tup [.int x2,.int y2]]/\(∃N:Nat,(N<=60000000/\Bt N x1/\Bt N x2/\Bt 400 y1/\Bt 400 y2)/\∀u:Pt,∀w:Int,Lvl N (x1,y1) (x2,y2) u w->Q (.tup [.tup [.int u.1,.int u.2],.tup [.int w,.int 0]]) H)
def GC{x1 y1 x2 y2:Int}(N:Nat)(hN:N<=60000000)(h1:Bt N x1)(h2:Bt N x2)(h3:Bt 400 y1)(h4:Bt 400 y2)(h:∀u:Pt,∀w:Int,Lvl N (x1,y1) (x2,y2) u w->Q (.tup [.tup [.int u.1,.int u.2],.tup [.int w,.int 0]]) H):fW [.tup [.int x1,.int y1],.tup [.int x2,.int y2]] H Q:=⟨_,_,_,_,rfl,⟨N,⟨hN,h1,h2,h3,h4⟩,h⟩⟩
def nA:bC:=wh3 (dU (o3 eG (o3 aB (v3 1) (c3 (.int 1))) (c3 (.int 0)))) (aV (st3 2 (o3 Aq (o3 aB (v3 0) (c3 (.int 1))) (o3 aB (v3 1) (c3 (.int 1)))))
  (aV (st3 3 (cO (aa (o3 bF (o3 aB (v3 0) (c3 (.int 0))) (o3 b7 (v3 2) (o3 aB (v3 1) (c3 (.int 0))))) (aa (o3 bF (o3 aB (v3 0) (c3 (.int 1))) (o3 b7 (v3 2) (o3 aB (v3 1) (c3 (.int 1))))) ak))))
  (aV (st3 0 (v3 1))
  (st3 1 (v3 3)))))
def vA:bC:=(aV nA
  (dD (cO (aa (v3 0) (aa (v3 1) ak)))))
def Dr:Rd ["one", "other", "times", "rest"] fW vA:=by
 rintro ds H Q ⟨Y,Z,x2,y2,rfl,h⟩
 obtain⟨N,⟨hN,b1,b2,b3,b4⟩,h⟩:=h
 (unfold vA;walk_at "l3t")
 walk_at "l3"
 unfold nA
 refine WN (λσ H2=>H2=H/\∃p q:Pt,∃y z,Xd N (Y,Z) (x2,y2) p q/\σ=[some (.tup [.int p.1,.int p.2]),some (.tup [.int q.1,.int q.2]),y,z]) (λσ _=>match σ with | [_,some (.tup [_,.int y]),_,_]=>y.natAbs | _=>0) ⟨rfl,(Y,Z),(x2,y2),none,none,Xd.start b3 b4 b1 b2,rfl⟩ ?_
 rintro σ H2 ⟨rfl,p,q,y,z,hi,rfl⟩
 obtain⟨c1,O⟩:=hi.all
 have c3:=hi.bp
 have c4:=hi.bq
 have hs:=hi.step
 obtain⟨p1,p2⟩:=p
 obtain⟨U,q2⟩:=q
 dsimp only at c1 O c3 c4
 have c5:Bt 400 (p2.fdiv q2):=Bt.fdiv c3
 walk_at "l3"
 refine Pz (λJ=>?_) λJ=>?_
 ·walk_at "l3"
  refine abQ ⟨J,Bt.mono c4 (by decide)⟩ ?_
  walk_at "l3"
  refine Ql (.inr ⟨400,N+400000,c5,O,by omega⟩) ?_
  walk_at "l3"
  exact⟨⟨rfl,(U,q2),My (p1,p2) (U,q2),_,_,(hs J).1,rfl⟩,(hs J).2⟩
 ·subst J
  walk_at "l3"
  exact aJ (h (p1,p2) U ⟨hi.grp,hi.i1,hi.i2,c3,c1,O⟩) aq.refl
def bJ:du:=λds H Q=>∃a,ds=[.ref a]/\(∃ps g,(H a=some (gh ps g)/\ps.length<=100)/\∀p,H p=none->Q (.ref p) (au H p (.lst (ps.map oh))))
def iV(ha:H a=some (gh ps g))(hl:ps.length<=100)(h:∀p,H p=none->Q (.ref p) (au H p (.lst (ps.map oh)))):bJ [.ref a] H Q:=⟨_,rfl,⟨ps,g,⟨ha,hl⟩,h⟩⟩
def nF:bC:=(dD (oN (Vq (Z7 ["Laying"] "piece" (v3 0))) (jB 0) jd (cO (aa (c3 (.bl false)) (aa (v3 0) ak))) ["own"] []))
def vQ:Rd ["self"] bJ nF:=by
 rintro ds H Q ⟨a,rfl,h⟩
 obtain⟨ps,g,⟨J,Y⟩,h⟩:=h
 unfold gh at J
 (unfold nF;walk_at "l3t")
 walk_at "l3"
 refine Cp.map (E:=aO) (as:=ps) oh (λ_ _=>trivial) (by omega) ?_ ?_
 ·intro i c Z R H2 hs O
  unfold aO
  walk_at "l3"
  exact O H2 aq.refl
 intro p U
 exact aJ (h p U) aq.refl
def cj:du:=λds H Q=>∃w0_ w1_ d,ds=[.ref w0_,w1_,d]/\(Q d H)
def xx{b d:D}(h:Q d H):cj [.ref a,b,d] H Q:=⟨_,_,_,rfl,h⟩
local macro_rules | `(tactic| walk_at "l3c")=>`(tactic| (with_reducible refine xx ?_))
def nu:bC:=(dD (v3 2))
def vU:Rd ["self", "half", "own"] cj nu:=by
 rintro ds H Q ⟨_,_,_,rfl,h⟩
 (unfold nu;walk_at "l3t")
 walk_at "l3"
 exact aJ h aq.refl
def fB:du:=λds H Q=>∃z,ds=[.str z]/\(∃ls:List Lt,(z=aR ls/\ls.length<=500)/\Q (.str (aR (bk ls))) H)
def Em(ls:List Lt)(hl:ls.length<=500)(h:Q (.str (aR (bk ls))) H):fB [.str (aR ls)] H Q:=⟨_,rfl,⟨ls,⟨rfl,hl⟩,h⟩⟩
def aaJ(l:Lt):lX.lookup (jG l)=some (.str (jG (Wq l))):=by
 match l with
 |0=>rfl
 |1=>rfl
 |2=>rfl
 |3=>rfl
def rO:bC:=(dD (mz3 lO (c3 (.str "")) (aa (oN (irv (v3 0)) (jB 0) jd (UL lX (v3 0)) ["letter"] []) ak)))
def Bh:Rd ["word"] fB rO:=by
 rintro ds H Q ⟨z,rfl,h⟩
 obtain⟨ls,⟨rfl,Y⟩,h⟩:=h
 (unfold rO;walk_at "l3t")
 walk_at "l3"
 refine adw (uz _ (by omega)) ?_
 rw[GD,←Kj]
 refine Cp.map (λl=>.str (jG (Wq l))) (λ_ _=>trivial) (by rw[uj];omega) ?_ ?_
 ·intro i l J R H2 hs O
  walk_at "l3"
  refine CK (aaJ l) ?_
  exact O H2 aq.refl
 intro p U
 walk_at "l3"
 refine Rw (ls:=bk ls) (by rw[aj];unfold bk;rw[←Kj,dP];rfl) (by rw[Td];omega) ?_
 exact aJ h (aq.fresh U)
def sdD(c:Pt)(d:Nat):D:=.tup [aO (gO c d),.str (jG (ltN d)),aO (tW c d)]
def fX:du:=λds H Q=>∃x y,ds=[.tup [.int x,.int y]]/\(∀p,H p=none->Q (.ref p) (au H p (.lst ((bo 4).map (sdD (x,y))))))
def HH(h:∀p,H p=none->Q (.ref p) (au H p (.lst ((bo 4).map (sdD (x,y)))))):fX [.tup [.int x,.int y]] H Q:=⟨_,_,rfl,h⟩
def vo:bC:=(aV (st3 1 (o3 aB (v3 0) (c3 (.int 0))))
  (aV (st3 2 (o3 aB (v3 0) (c3 (.int 1))))
  (dD (wL (aa (cO (aa (cO (aa (v3 1) (aa (v3 2) ak))) (aa (c3 (.str "e")) (aa (cO (aa (v3 1) (aa (o3 bF (v3 2) (c3 (.int 1))) ak))) ak)))) (aa (cO (aa (cO (aa (o3 aH (v3 1) (c3 (.int 1))) (aa (v3 2) ak))) (aa (c3 (.str "n")) (aa (cO (aa (o3 aH (v3 1) (c3 (.int 1))) (aa (v3 2) ak))) ak)))) (aa (cO (aa (cO (aa (o3 aH (v3 1) (c3 (.int 1))) (aa (o3 aH (v3 2) (c3 (.int 1))) ak))) (aa (c3 (.str "w")) (aa (cO (aa (v3 1) (aa (o3 aH (v3 2) (c3 (.int 1))) ak))) ak)))) (aa (cO (aa (cO (aa (v3 1) (aa (o3 aH (v3 2) (c3 (.int 1))) ak))) (aa (c3 (.str "s")) (aa (cO (aa (o3 bF (v3 1) (c3 (.int 1))) (aa (v3 2) ak))) ak)))) ak))))))))
def Ed:Rd ["cell", "x", "y"] fX vo:=by
 rintro ds H Q ⟨x,y,rfl,h⟩
 (unfold vo;walk_at "l3t")
 walk_at "l3"
 intro p J
 exact aJ (h p J) aq.refl
def sub(l:List Lt)(c p:Int):List Lt:=(l.drop c.toNat).take (p-c).toNat
variable{l:List Lt}
def lA{c p:Int}(h0:0<=c)(h1:c<=p)(h2:p<=l.length):(sub l c p).length=(p-c).toNat:=by
 unfold sub
 rw[fm,i6];omega
def Kc(l:List Lt){c p:Int}(h0:0<=c)(h1:c<=p)(h2:p<=l.length):Dv (aR l) (some c) (some p)=aR (sub l c p):=by
 unfold Dv aR
 rw[EZ,MJ]
 congr 2
 unfold iG HT.c7 sub
 simp only[]
 rw[if_neg (by omega),if_neg (by omega),show min c.toNat l.length=c.toNat from by omega,show min p.toNat l.length=p.toNat from by omega,show p.toNat-c.toNat=(p-c).toNat from by omega]
def ends(cs:List Int)(L:Int):List Int:=cs.drop 1++[cs.headD 0+L]
def jY(cs:List Int)(L:Int):List (Int×Int):=cs.zip (ends cs L)
variable{cs:List Int}
def PQ{L:Int}(h:cs≠[]):(ends cs L).length=cs.length:=by
 unfold ends
 rw[ck,i6,kG]
 have:=u7.mpr h
 omega
def yX{L:Int}(h:cs≠[]):(jY cs L).length=cs.length:=by
 unfold jY
 rw[List.length_zip,PQ h,Nat.min_self]
def Yy(h:cs≠[]):jU (cs.map D.int) 0=some (.int (cs.headD 0)):=by
 cases cs with
 |nil=>exact absurd rfl h
 |cons c cs=>
  unfold jU Ov
  rw[ae,bE,if_pos (by omega),if_pos (by omega),i9]
  rfl
def Qc(xs:List α)(h:xs≠[]):iG xs (some 1) none=xs.drop 1:=by
 unfold iG HT.c7
 simp only[]
 have:=u7.mpr h
 rw[if_neg (by omega),show min (tP 1) xs.length=1 from by omega,fh (by rw[i6];omega)]
structure Bc(cs:List Int)(h:Int):Prop where
 len:cs.length=2\/cs.length=3
 Oe:cs.Pairwise (· < ·)
 jZ:∀c∈cs,0<=c/\c<h
def Bc.ne(c:Bc cs h):cs≠[]:=by intro z;have:=c.len;rw[z] at this;simp at this
def Bc.jY(c:Bc cs h):∀s∈jY cs h,0<=s.1/\s.1<s.2/\s.2<h+h/\s.1<h:=by
 obtain⟨Y,hs,hr⟩:=c
 intro s U
 rcases cs with _ | ⟨a,_ | ⟨b,_ | ⟨d,_ | _⟩⟩⟩ <;> simp at Y
 ·have J:=hr a (by simp)
  have O:=hr b (by simp)
  simp only[iL,br,dc,or_false,forall_eq] at hs
  simp only[Law.jY,ends,kB,la,ku,lT,nh,g7,ki,br,dc,or_false] at U
  rcases U with rfl | rfl
  ·exact⟨J.1,hs.1,by omega,J.2⟩
  ·exact⟨O.1,by dsimp only;omega,by dsimp only;omega,O.2⟩
 ·have J:=hr a (by simp)
  have O:=hr b (by simp)
  have hd:=hr d (by simp)
  simp only[iL,br,dc,or_false,forall_eq_or_imp,forall_eq] at hs
  simp only[Law.jY,ends,kB,la,ku,lT,nh,g7,ki,br,dc,or_false] at U
  rcases U with rfl | rfl | rfl
  ·exact⟨J.1,hs.1.1,by dsimp only;omega,J.2⟩
  ·exact⟨O.1,hs.2.1,by dsimp only;omega,O.2⟩
  ·exact⟨hd.1,by dsimp only;omega,by dsimp only;omega,hd.2⟩
def dY:du:=λds H Q=>∃z xs,ds=[.str z,.tup xs]/\(∃(W:List Lt) (cs:List Int),(z=aR W/\xs=cs.map D.int/\W.length<=500/\cs≠[]/\cs.length<=10)/\∀p,H p=none->Q (.ref p) (au H p (.lst ((jY cs ((W.length:Int) / 2)).map aO))))
def vM(hl:W.length<=500)(hn:cs≠[])(hc:cs.length<=10)(h:∀p,H p=none->Q (.ref p) (au H p (.lst ((jY cs ((W.length:Int) / 2)).map aO)))):dY [.str (aR W),.tup (cs.map D.int)] H Q:=⟨_,_,rfl,⟨W,cs,⟨rfl,rfl,hl,hn,hc⟩,h⟩⟩
def vd:bC:=(aV (st3 2 (o3 aH (aM jW (aa (Ub yS (v3 1) (UG (c3 (.int 1))) Wl) ak)) (wL (aa (o3 aH (o3 aB (v3 1) (c3 (.int 0))) (o3 cF (aM bj (aa (v3 0) ak)) (c3 (.int 2)))) ak))))
  (dD (lz3 (v3 1) (v3 2))))
def El:Rd ["word", "cuts", "ends"] dY vd:=by
 rintro ds H Q ⟨_,_,rfl,h⟩
 obtain⟨W,cs,⟨rfl,rfl,hl,O,hc⟩,h⟩:=h
 have hp:=u7.mpr O
 (unfold vd;walk_at "l3t")
 walk_at "l3"
 refine Yw (by rw[ae];unfold HT.c7;simp only[];rw[if_neg (by omega)];intro z;have:=z.1;omega) ?_
 rw[CN,Qc _ O]
 walk_at "l3"
 intro p1 U
 walk_at "l3"
 refine Ek (Yy O) ?_
 walk_at "l3"
 refine qM (by omega) ?_
 walk_at "l3"
 intro p2 J
 walk_at "l3"
 have ee:(cs.drop 1).map D.int++[D.int (cs.headD 0+(W.length:Int) / 2)]=(ends cs ((W.length:Int) / 2)).map D.int:=by unfold ends;rw[de];rfl
 refine JR (ao aj J) aj (by rw[ae,i6,aW];show _+1<=_;omega) λp3 Y=>?_
 rw[ee]
 walk_at "l3"
 refine adL aj (by rw[ae];omega) λp4 Z=>?_
 have s2:=(aq.fresh (o:=.lst ((cs.drop 1).map D.int)) U).trans (aq.fresh (o:=.lst [D.int (cs.headD 0+(W.length:Int) / 2)]) J)
 have s3:=s2.trans (aq.fresh (o:=.lst ((ends cs ((W.length:Int) / 2)).map D.int)) Y)
 have h0:H p4=none:=fU s3 Z
 rw[uJ]
 exact aJ (h p4 h0) (dj (s3.upd h0) aj)
def bW:du:=λds H Q=>∃h,ds=[.int h]/\((0<=h/\h<=21)/\∀p,H p=none->Q (.ref p) (au H p (.lst ((jq h).map aO))))
def m5(h0:0<=h)(h1:h<=21)(q:∀p,H p=none->Q (.ref p) (au H p (.lst ((jq h).map aO)))):bW [.int h] H Q:=⟨_,rfl,⟨⟨h0,h1⟩,q⟩⟩
def jl:bC:=xf (Uz (v3 0)) (jB 2) (O8 (m3 qt (v3 1) (aa (oN (Zo (o3 aH (v3 2) (c3 (.int 1))) (v3 0)) (jB 0) jd (cO (aa (v3 1) (aa (v3 0) ak))) ["two"] [(2, "one")]) ak)))
def m7:bC:=(aV (st3 1 (wL ak))
  (aV jl
  (dD (v3 1))))
def uX:Rd ["half", "cuts", "one"] bW m7:=by
 rintro ds H Q ⟨n,rfl,h⟩
 obtain⟨⟨h0,h1⟩,h⟩:=h
 (unfold m7;walk_at "l3t")
 walk_at "l3"
 intro p O
 walk_at "l3"
 unfold jl
 walk_at "l3"
 refine Lp.jZ (λi σ H2=>aq H H2/\H2 p=some (.lst ((uN n i).map aO))/\∃x,σ=[some (.int n),some (.ref p),x]) ⟨aq.fresh O,aj,_,rfl⟩ ?_ ?_
 ·rintro i σ H2 hi ⟨hs,U,x,rfl⟩
  rw[ko]
  have ac:=wB n h1 i
  have Y:i*21<=21*21:=EK _ (by omega)
  walk_at "l3"
  refine Cp.jZ (λj=>aO ((i:Int),(i:Int)+1+(j:Int))) (by omega) ?_ ?_
  ·intro j hj R H4 al hR
   walk_at "l3"
   exact hR H4 aq.refl
  intro p2 J
  have e:((bo (n-((i:Int)+1)).toNat).map λj:Nat=>aO ((i:Int),(i:Int)+1+(j:Int)))=(wN n i (n-((i:Int)+1)).toNat).map aO:=by unfold wN;rw[dP];rfl
  rw[e]
  walk_at "l3"
  refine Kf (ao U J) aj (kn (sO (by rw[ae,ae];have:(wN n i (n-((i:Int)+1)).toNat).length=(n-((i:Int)+1)).toNat:=(by simp[wN]);omega))) ?_
  walk_at "l3"
  refine⟨λb o Z=>?_,?_,_,rfl⟩
  ·rw[aG (ne3 Z O)];exact (hs.trans (aq.fresh J)) b o Z
  ·rw[aj,uN,de]
 ·rintro σ H2 ⟨hs,U,x,rfl⟩
  walk_at "l3"
  exact aJ (h p O) (dj hs U)
def bf:du:=λds H Q=>∃xs k,ds=[.fl xs,.int k]/\((match intsOf xs with
  |some ns=>0<=k/\Q (.int (ns.getD k.toNat 0)) H
  |none=>False))
variable{ns:List Int}
def Eg{k:Int}(hk:0<=k)(h:Q (.int (ns.getD k.toNat 0)) H):bf [.fl (ns.map D.int),.int k] H Q:=by
 refine⟨_,_,rfl,?_⟩
 simp only[gW];exact⟨hk,h⟩
local macro_rules | `(tactic| walk_at "l3c")=>`(tactic| ((with_reducible show bf _ _ _);refine Eg (by walk_at "l3a") ?_))
def tD:bC:=(aV (nZ (dU (o3 vJ (v3 1) (aM bj (aa (v3 0) ak)))) (dD (o3 aB (v3 0) (v3 1))) nU)
  (dD (c3 (.int 0))))
def Ak:Rd ["_law_script", "_law_k"] bf tD:=by
 rintro ds H Q ⟨xs,k,rfl,h⟩
 split at h
 case h_2=>exact h.elim
 rename_i ns e
 have U:=dR e
 subst U
 obtain⟨Y,h⟩:=h
 (unfold tD;walk_at "l3t")
 walk_at "l3"
 refine zA (λJ=>?_) λJ=>?_
 ·have O:k.toNat<ns.length:=by rw[ae] at J;omega
  have Z:jU (ns.map D.int) k=some (.int (ns.getD k.toNat 0)):=by
   unfold jU Ov
   rw[if_pos Y,if_pos J,i9,ay,aS O,bP,aS O]
   rfl
  walk_at "l3"
  refine adg Z ?_
  walk_at "l3"
  exact aJ h aq.refl
 ·walk_at "l3"
  have O:¬k.toNat<ns.length:=by rw[ae] at J;omega
  rw[bP,gv (by omega)] at h
  exact aJ h aq.refl
def fJ:du:=λds H Q=>∃w0_,ds=[.int w0_]/\(Q (.bl true) H)
def Ls{i:Int}(h:Q (.bl true) H):fJ [.int i] H Q:=⟨_,rfl,h⟩
local macro_rules | `(tactic| walk_at "l3c")=>`(tactic| (with_reducible refine Ls ?_))
def yj:bC:=(dD (av3 (aM iT (aa (v3 0) (aa (c3 (.ty "int")) ak))) (nv3 (aM iT (aa (v3 0) (aa (c3 (.ty "bool")) ak))))))
def FN:Rd ["_law_found"] fJ yj:=by
 rintro ds H Q ⟨_,rfl,h⟩
 (unfold yj;walk_at "l3t")
 walk_at "l3"
 refine ifY rfl ?_
 walk_at "l3"
 exact aJ h aq.refl
def fZ:du:=λds H Q=>∃a,ds=[.ref a]/\((match H a with
  | some (.lst xs) => (match sW xs with
   |some ps=>ps.length<=500/\∀p,H p=none->Q (.ref p) (au H p (.lst ((bT ps).map aO)))
   |none=>False)
  |_=>False))
def GX(ha:H a=some (.lst (ps.map aO)))(hl:ps.length<=500)(h:∀p,H p=none->Q (.ref p) (au H p (.lst ((bT ps).map aO)))):fZ [.ref a] H Q:=by
 refine⟨_,rfl,?_⟩
 simp only[ha,rH];exact⟨hl,h⟩
def meas(n i:Nat)(σ:cD):Nat:=match σ[i]? with
 |some (some (.int k))=>n-k.toNat
 |_=>0
def m9:bC:=wh3 (an3 (dU (o3 vJ (v3 3) (aM bj (aa (v3 1) ak)))) (dU (o3 vJ (cO (aa (o3 aB (o3 aB (v3 1) (v3 3)) (c3 (.int 1))) (aa (o3 aB (o3 aB (v3 1) (v3 3)) (c3 (.int 0))) ak))) (cO (aa (o3 aB (v3 2) (c3 (.int 1))) (aa (o3 aB (v3 2) (c3 (.int 0))) ak)))))) (st3 3 (o3 aH (v3 3) (c3 (.int 1))))
def m8:bC:=xf (wH (v3 0)) (jB 2) (aV (st3 3 (c3 (.int 0)))
  (aV m9
  (O8 (m3 yE (v3 1) (aa (v3 3) (aa (v3 2) ak))))))
def uM:bC:=(aV (st3 1 (wL ak))
  (aV m8
  (dD (v3 1))))
def DK:Rd ["_law_cells", "_law_row", "_law_cell", "_law_at"] fZ uM:=by
 rintro ds H Q ⟨a,rfl,h⟩
 split at h
 case h_2=>exact h.elim
 rename_i xs ha
 split at h
 case h_2=>exact h.elim
 rename_i ps e
 have e':=yI e
 subst e'
 obtain⟨hl,h⟩:=h
 (unfold uM;walk_at "l3t")
 walk_at "l3"
 intro p hp
 walk_at "l3"
 unfold m8
 walk_at "l3"
 refine Lp.by (λi σ H2=>H2=au H p (.lst ((bT (ps.take i)).map aO))/\∃c t,σ=[some (.ref a),some (.ref p),c,t]) ⟨rfl,_,_,rfl⟩ (λi σ H2 _ z=>by rw[z.1];exact ao ha hp) ?_ ?_
 ·rintro i d σ H2 hd ⟨rfl,c0,t0,rfl⟩
  rw[ay] at hd
  obtain⟨c,hc,rfl⟩:=cv.mp hd
  have hi:i<ps.length:=(cE.mp hc).1
  rw[Ia hc]
  have ac:(bT (ps.take i)).length<=500:=by rw[my,fm];omega
  generalize bT (ps.take i)=row at ac
  walk_at "l3"
  unfold m9
  refine WN (λσ H2=>H2=au H p (.lst (row.map aO))/\∃k:Nat,k<=row.length/\(∀r∈row.take k,wK c r=true)/\σ=[some (.ref a),some (.ref p),some (aO c),some (.int k)]) (λσ _=>meas row.length 3 σ) ⟨rfl,0,eD _,by simp,rfl⟩ ?_
  rintro σ H2 ⟨rfl,k,hk,J,rfl⟩
  walk_at "l3"
  refine zA (λU=>?_) λU=>?_
  ·have O:k<row.length:=by rw[ae] at U;omega
   have Y:((k:Int)).toNat<row.length:=by omega
   walk_at "l3"
   refine fV aj (jK (by omega) Y) ?_
   unfold aO
   walk_at "l3"
   refine fV aj (jK (by omega) Y) ?_
   walk_at "l3"
   refine ifB (λZ=>?_) λZ=>?_
   ·walk_at "l3"
    refine⟨⟨rfl,k+1,O,?_,rfl⟩,?_⟩
    ·intro r hr
     rw[gS,ib] at hr
     rcases hr with hr | hr
     ·exact J r hr
     ·rw[aS O] at hr
      simp at hr
      subst hr
      exact Z
    ·show row.length-((k:Int)+1).toNat<row.length-(k:Int).toNat
     omega
   ·walk_at "l3"
    refine YX aj ⟨by omega,by rw[ae];omega⟩ (by rw[ae];omega) ?_
    walk_at "l3"
    rw[cN]
    refine⟨?_,_,_,rfl⟩
    obtain⟨e1,e2⟩:=iY hk J (λ_=>Z)
    unfold xq
    rw[e1,e2,de,aE,xI,BE]
    rfl
  ·have Y:k=row.length:=by rw[ae] at U;omega
   refine xu rfl ?_
   walk_at "l3"
   unfold aO
   walk_at "l3"
   refine YX aj ⟨by omega,by rw[ae];omega⟩ (by rw[ae];omega) ?_
   walk_at "l3"
   rw[cN]
   refine⟨?_,_,_,rfl⟩
   obtain⟨e1,e2⟩:=iY hk J (λh=>by omega)
   unfold xq
   rw[e1,e2,de,aE,xI,BE]
   rfl
 ·rintro σ H2 ⟨rfl,c,t,rfl⟩
  walk_at "l3"
  rw[ae,xC]
  exact aJ (h p hp) aq.refl
def beside(p:Pt):List Pt:=[(p.1+1,p.2),(p.1,p.2+1),(p.1-1,p.2),(p.1,p.2-1)]
def fY:du:=λds H Q=>∃x y,ds=[.tup [.int x,.int y]]/\(∀p,H p=none->Q (.ref p) (au H p (.lst ((beside (x,y)).map aO))))
def Gk(h:∀p,H p=none->Q (.ref p) (au H p (.lst ((beside (x,y)).map aO)))):fY [.tup [.int x,.int y]] H Q:=⟨_,_,rfl,h⟩
def vB:bC:=(dD (wL (aa (cO (aa (o3 aH (o3 aB (v3 0) (c3 (.int 0))) (c3 (.int 1))) (aa (o3 aB (v3 0) (c3 (.int 1))) ak))) (aa (cO (aa (o3 aB (v3 0) (c3 (.int 0))) (aa (o3 aH (o3 aB (v3 0) (c3 (.int 1))) (c3 (.int 1))) ak))) (aa (cO (aa (o3 bF (o3 aB (v3 0) (c3 (.int 0))) (c3 (.int 1))) (aa (o3 aB (v3 0) (c3 (.int 1))) ak))) (aa (cO (aa (o3 aB (v3 0) (c3 (.int 0))) (aa (o3 bF (o3 aB (v3 0) (c3 (.int 1))) (c3 (.int 1))) ak))) ak))))))
def Er:Rd ["_law_cell"] fY vB:=by
 rintro ds H Q ⟨x,y,rfl,h⟩
 (unfold vB;walk_at "l3t")
 walk_at "l3"
 exact λp J=>aJ (h p J) aq.refl
def ring(c:Pt):List Pt:=[(c.1+1,c.2),(c.1+1,c.2+1),(c.1,c.2+1),(c.1-1,c.2+1),(c.1-1,c.2),(c.1-1,c.2-1),(c.1,c.2-1),(c.1+1,c.2-1)]
def rE(ps:List Pt)(c:Pt)(i j:Nat):Bool:=!decide ((ring c).getD ((2*i+8-j)%8) (0,0)∈ps)
def rn(ps:List Pt)(c:Pt):Nat->Int
 |0=>0
 |i+1=>rn ps c i+if (rE ps c i 0 && !(rE ps c i 1&&rE ps c i 2))=true then 1 else 0
def shuts(ps:List Pt)(c:Pt):Bool:=decide (1<rn ps c 4)
def dF:du:=λds H Q=>∃a x y,ds=[.ref a,.tup [.int x,.int y]]/\((match H a with
  | some (.lst xs) => (match sW xs with
   |some ps=>Q (.bl (shuts ps (x,y))) H
   |none=>False)
  |_=>False))
def Ar(ha:H a=some (.lst (ps.map aO)))(h:Q (.bl (shuts ps (x,y))) H):dF [.ref a,.tup [.int x,.int y]] H Q:=by
 refine⟨_,_,_,rfl,?_⟩
 simp only[ha,rH];exact h
def XJ(hi:i<4):[D.int 0,.int 2,.int 4,.int 6][i]?=some (.int (2*i))/\jU ((ring c).map λq=>D.bl (!decide (q∈ps))) (2*(i:Int))=some (.bl (rE ps c i 0)) /\
  jU ((ring c).map λq=>D.bl (!decide (q∈ps))) (2*(i:Int)-1)=some (.bl (rE ps c i 1))/\jU ((ring c).map λq=>D.bl (!decide (q∈ps))) (2*(i:Int)-2)=some (.bl (rE ps c i 2)):=by
 match i,hi with
 |0,_=>exact⟨rfl,rfl,rfl,rfl⟩
 |1,_=>exact⟨rfl,rfl,rfl,rfl⟩
 |2,_=>exact⟨rfl,rfl,rfl,rfl⟩
 |3,_=>exact⟨rfl,rfl,rfl,rfl⟩
def kJ:bC:=xf (wH (wL (aa (c3 (.int 0)) (aa (c3 (.int 2)) (aa (c3 (.int 4)) (aa (c3 (.int 6)) ak)))))) (jB 7) (nZ (an3 (dU (o3 aB (v3 5) (v3 7))) (QJ (an3 (dU (o3 aB (v3 5) (o3 bF (v3 7) (c3 (.int 1))))) (dU (o3 aB (v3 5) (o3 bF (v3 7) (c3 (.int 2)))))))) (st3 6 (o3 aH (v3 6) (c3 (.int 1)))) nU)
def pD:bC:=(aV (as3 (v3 1) (Fy 2 3))
  (aV (st3 4 (wL (aa (cO (aa (o3 aH (v3 2) (c3 (.int 1))) (aa (v3 3) ak))) (aa (cO (aa (o3 aH (v3 2) (c3 (.int 1))) (aa (o3 aH (v3 3) (c3 (.int 1))) ak))) (aa (cO (aa (v3 2) (aa (o3 aH (v3 3) (c3 (.int 1))) ak))) (aa (cO (aa (o3 bF (v3 2) (c3 (.int 1))) (aa (o3 aH (v3 3) (c3 (.int 1))) ak))) ak))))))
  (aV (st3 4 (o3 aH (v3 4) (wL (aa (cO (aa (o3 bF (v3 2) (c3 (.int 1))) (aa (v3 3) ak))) (aa (cO (aa (o3 bF (v3 2) (c3 (.int 1))) (aa (o3 bF (v3 3) (c3 (.int 1))) ak))) (aa (cO (aa (v3 2) (aa (o3 bF (v3 3) (c3 (.int 1))) ak))) (aa (cO (aa (o3 aH (v3 2) (c3 (.int 1))) (aa (o3 bF (v3 3) (c3 (.int 1))) ak))) ak)))))))
  (aV (st3 5 (oN (wH (v3 4)) (jB 0) jd (o3 (dB true) (v3 0) (v3 1)) ["_law_cell"] [(0, "_law_cells")]))
  (aV (st3 6 (c3 (.int 0)))
  (aV kJ
  (dD (o3 Zm (v3 6) (c3 (.int 1))))))))))
def wW:Rd ["_law_cells", "_law_spot", "_law_x", "_law_y", "_law_ring", "_law_empty", "_law_runs", "_law_k"] dF pD:=by
 rintro ds H Q ⟨a,x,y,rfl,h⟩
 split at h
 case h_2=>exact h.elim
 rename_i xs ha
 split at h
 case h_2=>exact h.elim
 rename_i ps e
 have e':=yI e
 subst e'
 (unfold pD;walk_at "l3t")
 walk_at "l3"
 intro p1 U
 walk_at "l3"
 intro p2 J
 walk_at "l3"
 refine JR (ao aj J) aj (by rw[aW];simp) ?_
 intro p3 Y
 walk_at "l3"
 refine Cp.map (as:=ring (x,y)) (E:=aO) (λq=>D.bl (!decide (q∈ps))) (λH2 hs=>hs _ _ aj) (by show 8<=1000;decide) ?_ ?_
 ·intro i q hq R H2 hs hR
  unfold aO
  walk_at "l3"
  refine Ad (JQ (hs _ _ (ao (ao (ao ha U) J) Y))) ?_
  exact hR H2 aq.refl
 intro p4 ac
 walk_at "l3"
 unfold kJ
 walk_at "l3"
 intro p5 Z
 walk_at "l3"
 refine Lp.heap (λH5=>H5 p4=some (.lst ((ring (x,y)).map λq=>D.bl (!decide (q∈ps))))/\aq H H5/\H5 p5=some (.lst [D.int 0,.int 2,.int 4,.int 6]))
  ⟨ao aj Z,((((aq.fresh U).trans (aq.fresh J)).trans (aq.fresh Y)).trans (aq.fresh ac)).trans (aq.fresh Z),aj⟩ ?_
 rintro H5 ⟨hE,hs,h5⟩
 refine Lp.by (λi σ H2=>H2=H5/\∃k,σ=[some (.ref a),some (.tup [.int x,.int y]),some (.int x),some (.int y),some (.ref p3),some (.ref p4),some (.int (rn ps (x,y) i)),k]) ⟨rfl,_,rfl⟩ (λi σ H2 _ z=>by rw[z.1];exact h5) ?_ ?_
 ·rintro i d σ H2 hd ⟨rfl,k,rfl⟩
  have hi:i<4:=(cE.mp hd).1
  obtain⟨r0,r1,r2,r3⟩:=XJ (ps:=ps) (c:=(x,y)) hi
  rw[r0] at hd
  cases hd
  walk_at "l3"
  refine fV hE r1 ?_
  walk_at "l3"
  refine ifB (λe1=>?_) λe1=>?_
  ·walk_at "l3"
   refine fV hE r2 ?_
   walk_at "l3"
   refine ifB (λe2=>?_) λe2=>?_
   ·walk_at "l3"
    refine fV hE r3 ?_
    walk_at "l3"
    refine ifB (λe3=>?_) λe3=>?_
    ·walk_at "l3"
     refine⟨rfl,some (.int (2*(i:Int))),?_⟩
     have O:rE ps (x,y) i 2=false:=by simpa using e3
     simp only[rn,e1,e2,O,wm,AO,xE,if_true]
    ·walk_at "l3"
     refine⟨rfl,some (.int (2*(i:Int))),?_⟩
     have O:rE ps (x,y) i 2=true:=by simpa using e3
     simp only[rn,e1,e2,O,xE,pV,wm,c9,if_false,pE]
   ·walk_at "l3"
    refine ifY rfl ?_
    walk_at "l3"
    refine⟨rfl,some (.int (2*(i:Int))),?_⟩
    simp only[rn,e1,e2,zw,AO,xE,if_true]
  ·walk_at "l3"
   refine xu rfl ?_
   walk_at "l3"
   refine⟨rfl,some (.int (2*(i:Int))),?_⟩
   simp only[rn,e1,zw,c9,if_false,pE]
 ·rintro σ H2 ⟨rfl,k,rfl⟩
  walk_at "l3"
  exact aJ h hs
def far(c:Int):Int:=if c%3=0 then c / 3%19-9 else c / 3*7919%(2*10 ^ 40+1)-10 ^ 40
def jw:du:=λds H Q=>∃c,ds=[.int c]/\(Q (.int (far c)) H)
def Xq{c:Int}(h:Q (.int (far c)) H):jw [.int c] H Q:=⟨_,rfl,h⟩
local macro_rules | `(tactic| walk_at "l3c")=>`(tactic| (with_reducible refine Xq ?_))
def Ke:bC:=(aV (nZ (dU (o3 jf (o3 dG (v3 0) (c3 (.int 3))) (c3 (.int 0)))) (dD (o3 bF (o3 dG (o3 cF (v3 0) (c3 (.int 3))) (c3 (.int 19))) (c3 (.int 9)))) nU)
  (dD (o3 bF (o3 dG (o3 b7 (o3 cF (v3 0) (c3 (.int 3))) (c3 (.int 7919))) (o3 aH (o3 b7 (c3 (.int 2)) (o3 Eo (c3 (.int 10)) (c3 (.int 40)))) (c3 (.int 1)))) (o3 Eo (c3 (.int 10)) (c3 (.int 40))))))
def QF:Rd ["_law_cell"] jw Ke:=by
 rintro ds H Q ⟨c,rfl,h⟩
 (unfold Ke;walk_at "l3t")
 unfold far at h
 walk_at "l3"
 refine zA (λJ=>?_) λJ=>?_
 ·rw[if_pos J] at h
  walk_at "l3"
  exact aJ h aq.refl
 ·rw[if_neg J] at h
  walk_at "l3"
  exact aJ h aq.refl
def sv(q:Pt)(d:Nat):D:=.tup [.str (jG (ltN d)),aO (kW q d),aO (eV q d)]
def ug{z:Str}{a c d a' b' c' d':Int}(h1:a=a')(h2:b=b')(h3:c=c')(h4:d=d'):D.tup [.str z,.tup [.int a,.int b],.tup [.int c,.int d]]=D.tup [.str z,.tup [.int a',.int b'],.tup [.int c',.int d']]:=by rw[h1,h2,h3,h4]
def sv0(x y:Int):sv (gO (x,y) 0) 0=.tup [.str (fE "e"),.tup [.int (x+1),.int y],.tup [.int x,.int (y-1)]] :=
 ug (z:=jG 0) (by show x+1=x+1;rfl) (by show y+0=y;omega) rfl rfl
def sv1(x y:Int):sv (gO (x,y) 1) 1=.tup [.str (fE "n"),.tup [.int (x+1),.int (y+1)],.tup [.int (x+1),.int y]] :=
 ug (z:=jG 1) (by show x+1+0=x+1;omega) (by show y+1=y+1;rfl) rfl rfl
def sv2(x y:Int):sv (gO (x,y) 2) 2=.tup [.str (fE "w"),.tup [.int x,.int (y+1)],.tup [.int x,.int (y+1)]] :=
 ug (z:=jG 2) (by show x+1 + -1=x;omega) (by show y+1+0=y+1;omega) (by show x+1-1=x;omega) rfl
def sv3(x y:Int):sv (gO (x,y) 3) 3=.tup [.str (fE "s"),.tup [.int x,.int y],.tup [.int (x-1),.int y]] :=
 ug (z:=jG 3) (by show x+0=x;omega) (by show y+1 + -1=y;omega) rfl (by show y+1-1=y;omega)
def uB{val:Pt->Nat->D}{k:Nat}{p:aT}{tk ka va:bK}{E:cX}{σ:cD}{v:D}{ox oy:Int}(g:Dg S)(hc:S[i]?=some c)(hk:k<4)(hi:i<=20)(h:∃zp,Lb S val i k zp/\H p=some (.dic (cu zp)))
  (s0:σ[0]?=some (some (.tup (S.map aO)))) (s1:σ[1]?=some (some (.ref p))) (e1:∀(H:aA) (Q:bL),Q (.tup [.int ox,.int oy]) H->tk σ H Q) (e2:∀(H:aA) (Q:bL),Q (.tup [.int x,.int y]) H->ka σ H Q) (e3:∀(H:aA) (Q:bL),Q v H->va σ H Q)
  (ev:v=val (gO c k) k) (ex:(x,y)=gO c k) (eo:(ox,oy)=tW c k) (h1:∀H':aA,(∀q,q≠p->H' q=H q)->(∃zp,Lb S val i (k+1) zp/\H' p=some (.dic (cu zp)))->E.nx σ H') :
  nZ (dU (o3 (dB true) tk (v3 0))) (Uv (v3 1) ka va) nU E σ H:=by
 obtain⟨zp,J,O⟩:=h
 refine acE (adP (abV (e1 H _ (SQ s0 (Ad (ps:=S) rfl (aci ?_))))))
 rw[eo]
 refine Pz (λz=>?_) λz=>?_
 ·refine acs (e3 _ _ (SQ s1 (e2 _ _ (Rq O (by have:=J.len;omega) (h1 _ (λq U=>aG U) ⟨_,?_,aj⟩)))))
  rw[ev,ex];exact J.put g hc hk z
 ·exact h1 H (λ_ _=>rfl) ⟨zp,J.skip hc z,O⟩
def gj:du:=λds H Q=>∃xs,ds=[.tup xs]/\(∃S s0,(xs=S.map aO/\S[0]?=some s0/\S.length<=20/\One S/\bH S s0)/\∀t p,cQ S s0 t->t<=80->H p=none->Q (.ref p) (au H p (.lst ((bo t).map λi=>D.tup [.str (jG (ltN (outD S (az S s0 i)))),aO (az S s0 i),aO (eV (az S s0 i) (outD S (az S s0 i)))]))))
def Ge(h0:S[0]?=some s0)(hl:S.length<=20)(g:One S)(hcr:bH S s0)(h:∀t p,cQ S s0 t->t<=80->H p=none->Q (.ref p) (au H p (.lst ((bo t).map λi=>D.tup [.str (jG (ltN (outD S (az S s0 i)))),aO (az S s0 i),aO (eV (az S s0 i) (outD S (az S s0 i)))])))):gj [.tup (S.map aO)] H Q:=⟨_,rfl,⟨S,s0,⟨rfl,h0,hl,g,hcr⟩,h⟩⟩
def mZ:bC:=xf (Vq (v3 0)) (Fy 2 3) (aV (nZ (dU (o3 (dB true) (cO (aa (v3 2) (aa (o3 bF (v3 3) (c3 (.int 1))) ak))) (v3 0))) (Uv (v3 1) (cO (aa (v3 2) (aa (v3 3) ak))) (cO (aa (c3 (.str "e")) (aa (cO (aa (o3 aH (v3 2) (c3 (.int 1))) (aa (v3 3) ak))) (aa (cO (aa (v3 2) (aa (o3 bF (v3 3) (c3 (.int 1))) ak))) ak))))) nU)
  (aV (nZ (dU (o3 (dB true) (cO (aa (o3 aH (v3 2) (c3 (.int 1))) (aa (v3 3) ak))) (v3 0))) (Uv (v3 1) (cO (aa (o3 aH (v3 2) (c3 (.int 1))) (aa (v3 3) ak))) (cO (aa (c3 (.str "n")) (aa (cO (aa (o3 aH (v3 2) (c3 (.int 1))) (aa (o3 aH (v3 3) (c3 (.int 1))) ak))) (aa (cO (aa (o3 aH (v3 2) (c3 (.int 1))) (aa (v3 3) ak))) ak))))) nU)
  (aV (nZ (dU (o3 (dB true) (cO (aa (v3 2) (aa (o3 aH (v3 3) (c3 (.int 1))) ak))) (v3 0))) (Uv (v3 1) (cO (aa (o3 aH (v3 2) (c3 (.int 1))) (aa (o3 aH (v3 3) (c3 (.int 1))) ak))) (cO (aa (c3 (.str "w")) (aa (cO (aa (v3 2) (aa (o3 aH (v3 3) (c3 (.int 1))) ak))) (aa (cO (aa (v3 2) (aa (o3 aH (v3 3) (c3 (.int 1))) ak))) ak))))) nU)
  (nZ (dU (o3 (dB true) (cO (aa (o3 bF (v3 2) (c3 (.int 1))) (aa (v3 3) ak))) (v3 0))) (Uv (v3 1) (cO (aa (v3 2) (aa (o3 aH (v3 3) (c3 (.int 1))) ak))) (cO (aa (c3 (.str "s")) (aa (cO (aa (v3 2) (aa (v3 3) ak))) (aa (cO (aa (o3 bF (v3 2) (c3 (.int 1))) (aa (v3 3) ak))) ak))))) nU))))
def mY:bC:=xf (Uz (aM rN (aa (v3 1) ak))) (jB 6) (aV (O8 (m3 nO (v3 4) (aa (cO (aa (o3 aB (Ve (v3 1) (v3 5)) (c3 (.int 0))) (aa (v3 5) (aa (o3 aB (Ve (v3 1) (v3 5)) (c3 (.int 2))) ak)))) ak)))
  (st3 5 (o3 aB (Ve (v3 1) (v3 5)) (c3 (.int 1)))))
def vL:bC:=(aV (st3 1 dn3)
  (aV mZ
  (aV (st3 4 (wL ak))
  (aV (st3 5 (o3 aB (v3 0) (c3 (.int 0))))
  (aV mY
  (dD (v3 4)))))))
def Ck:Rd ["_law_piece", "_law_letters", "_law_x", "_law_y", "_law_sides", "_law_corner", "_law_k"] gj vL:=by
 rintro ds H Q ⟨_,rfl,h⟩
 obtain⟨S,s0,⟨rfl,h0,hl,g,Z⟩,h⟩:=h
 (unfold vL;walk_at "l3t")
 walk_at "l3"
 intro p hp
 walk_at "l3"
 unfold mZ
 walk_at "l3"
 refine Lp.by (λi σ H2=>aq H H2/\(∃zp:List (Pt×D),Lb S sv i 0 zp/\H2 p=some (.dic (cu zp)))/\∃x y,σ=[some (.tup (S.map aO)),some (.ref p),x,y,none,none,none]) ⟨aq.fresh hp,⟨[],Lb.nil,aj⟩,_,_,rfl⟩ (λ_ _ _ _ _=>trivial) ?_ ?_
 ·rintro i d σ H2 hd ⟨sb,a0,x0,y0,rfl⟩
  rw[ay,cv] at hd
  obtain⟨c,hc,rfl⟩:=hd
  have hi:=(cE.mp hc).1
  obtain⟨x,y⟩:=c
  unfold aO
  refine acy ?_
  dsimp only[om,oo]
  have fr:∀ {Ha Hb:aA},(∀q,q≠p->Hb q=Ha q)->aq H Ha->aq H Hb:=λk sb q o hq=>by rw[k q (λe=>by rw[e,hp] at hq;cases hq)];exact sb q o hq
  refine Yg (uB g.dg hc (k:=0) (by omega) (by omega) a0 rfl rfl (λH3 O J=>by walk_at "l3";exact J) (λH3 O J=>by walk_at "l3";exact J) (λH3 O J=>by walk_at "l3";exact J) (sv0 x y).symm rfl rfl λH3 k3 a1=>?_)
  refine GZ ?_
  refine Yg (uB g.dg hc (k:=1) (by omega) (by omega) a1 rfl rfl (λH3 O J=>by walk_at "l3";exact J) (λH3 O J=>by walk_at "l3";exact J) (λH3 O J=>by walk_at "l3";exact J) (sv1 x y).symm rfl rfl λH4 k4 a2=>?_)
  refine GZ ?_
  refine Yg (uB g.dg hc (k:=2) (by omega) (by omega) a2 rfl rfl (λH3 O J=>by walk_at "l3";exact J) (λH3 O J=>by walk_at "l3";exact J) (λH3 O J=>by walk_at "l3";exact J) (sv2 x y).symm rfl rfl λH5 k5 a3=>?_)
  refine GZ ?_
  refine uB g.dg hc (k:=3) (by omega) (by omega) a3 rfl rfl (λH3 O J=>by walk_at "l3";exact J) (λH3 O J=>by walk_at "l3";exact J) (λH3 O J=>by walk_at "l3";exact J) (sv3 x y).symm rfl rfl λH6 k6 a4=>?_
  obtain⟨zp,hb,hH⟩:=a4
  exact⟨fr k6 (fr k5 (fr k4 (fr k3 sb))),⟨zp,hb.next,hH⟩,_,_,rfl⟩
 ·rintro σ H2 ⟨sb,⟨zp,hb,hH⟩,x0,y0,rfl⟩
  rw[ae] at hb
  obtain⟨t,r⟩:=g.rnd Z
  have ht:zp.length=t:=by have:=r.len Z hb.nd hb.all;rw[ae] at this;exact this
  have ap:t<=80:=by have:=hb.len;omega
  walk_at "l3"
  intro p2 Y
  have n2:p≠p2:=ne3 hH Y
  have ac:H p2=none:=fU sb Y
  walk_at "l3"
  refine Ek (Cm h0) ?_
  walk_at "l3"
  unfold mY
  walk_at "l3"
  refine abg (ao hH Y) ?_
  walk_at "l3"
  rw[BR,ht,eP]
  refine Lp.jZ (λi σ H3=>H3 p=some (.dic (cu zp))/\aq H H3/\H3 p2=some (.lst ((bo i).map λi=>D.tup [.str (jG (ltN (outD S (az S s0 i)))),aO (az S s0 i),aO (eV (az S s0 i) (outD S (az S s0 i)))]))/\∃k,σ=[some (.tup (S.map aO)),some (.ref p),x0,y0,some (.ref p2),some (.tup [.int (az S s0 i).1,.int (az S s0 i).2]),k]) ⟨ao hH Y,sb.upd ac,aj,_,rfl⟩ ?_ ?_
  ·rintro i σ H3 hi ⟨U,al,h2,k,rfl⟩
   have am:=hb.at (aP Z i)
   walk_at "l3"
   refine uV U am ?_
   unfold sv aO
   walk_at "l3"
   refine uV U am ?_
   unfold sv aO
   walk_at "l3"
   refine Eb h2 (jM (by rw[ae,eI];omega)) ?_
   walk_at "l3"
   refine uV (by rw[aG n2];exact U) am ?_
   unfold sv aO
   walk_at "l3"
   refine⟨by rw[aG n2];exact U,λq o hq=>by rw[aG (λe=>by rw[e,ac] at hq;cases hq)];exact al q o hq,?_,_,rfl⟩
   rw[aj,pf,de];rfl
  ·rintro σ H3 ⟨U,al,h2,k,rfl⟩
   walk_at "l3"
   exact aJ (h t p2 r ap ac) (dj al h2)
def jr:du:=λds H Q=>∃a b d x y,ds=[.tup [.int a,.int b,.int d],.tup [.int x,.int y]]/\((fH a b d/\Bt 20000 x/\Bt 20000 y)/\Q (.tup [.int (rst (a,b,d) (x,y)).1,.int (rst (a,b,d) (x,y)).2]) H)
def Es{a d:Int}(hg:fH a b d)(hx:Bt 20000 x)(hy:Bt 20000 y)(h:Q (.tup [.int (rst (a,b,d) (x,y)).1,.int (rst (a,b,d) (x,y)).2]) H):jr [.tup [.int a,.int b,.int d],.tup [.int x,.int y]] H Q:=⟨_,_,_,_,_,rfl,⟨⟨hg,hx,hy⟩,h⟩⟩
def Ft:bC:=(aV (as3 (v3 0) (Zu 2 3 4))
  (aV (st3 5 (o3 cF (o3 aB (v3 1) (c3 (.int 1))) (v3 4)))
  (dD (cO (aa (o3 dG (o3 bF (o3 aB (v3 1) (c3 (.int 0))) (o3 b7 (v3 5) (v3 3))) (v3 2)) (aa (o3 bF (o3 aB (v3 1) (c3 (.int 1))) (o3 b7 (v3 5) (v3 4))) ak))))))
def Mt:Rd ["_law_grid", "_law_cell", "_law_a", "_law_b", "_law_d", "_law_j"] jr Ft:=by
 rintro ds H Q ⟨a,b,d,x,y,rfl,h⟩
 obtain⟨⟨hg,J,O⟩,h⟩:=h
 obtain⟨U,Y,Z,g4,g5,g6⟩:=id hg
 have gb:=hg.bb
 (unfold Ft;walk_at "l3t")
 walk_at "l3"
 rw[show y-y / d*d=Hi d y from yW d y]
 exact aJ h aq.refl
def Ul{c:Nat}:g∈dC c n->∃a b:Nat,1<=a/\a<=n/\c%a=0/\b<a/\g=((a:Int),(b:Int),((c / a:Nat):Int)):=by
 intro h
 unfold dC at h
 obtain⟨l,O,hg⟩:=rf.mp h
 obtain⟨i,hi,rfl⟩:=b9.mp O
 rw[b6] at hi
 unfold pJ at hg
 split at hg
 ·rename_i z
  obtain⟨b,J,rfl⟩:=b9.mp hg
  rw[b6] at J
  exact⟨i+1,b,by omega,by omega,z,J,rfl⟩
 ·exact absurd hg (by simp)
def WM{c:Nat}(h0:1<=c)(h1:c<=200)(h:g∈dC c c):oK g/\g.1*g.2.2=c:=by
 obtain⟨a,b,Z,O,U,hb,rfl⟩:=Ul h
 have hd:0<c / a:=O0 O (by omega)
 have Y:c / a<=c:=LO c a
 have J:∀n:Nat,n<=200->Bt 4000 (n:Int):=λn hn=>Bt.mono (m:=8) (by unfold Bt;show n<2 ^ 8;omega) (by decide)
 refine⟨⟨by show (0:Int)<(a:Int);omega,by show (0:Int)<=(b:Int);omega,by show (b:Int)<(a:Int);omega,by show (0:Int)<((c / a:Nat):Int);omega,J a (by omega),J (c / a) (by omega)⟩,?_⟩
 show (a:Int)*((c / a:Nat):Int)=(c:Int)
 have:a*(c / a)=c:=E3 (C3 U)
 exact_mod_cast this
def iz:du:=λds H Q=>∃c,ds=[.int c]/\((1<=c/\c<=200)/\∀p,H p=none->Q (.ref p) (au H p (.lst ((dC c.toNat c.toNat).map d9))))
def Mg{c:Int}(h1:1<=c)(h2:c<=200)(h:∀p,H p=none->Q (.ref p) (au H p (.lst ((dC c.toNat c.toNat).map d9)))):iz [.int c] H Q:=⟨_,rfl,⟨⟨h1,h2⟩,h⟩⟩
def qj:bC:=xf (Zo (c3 (.int 1)) (o3 aH (v3 0) (c3 (.int 1)))) (jB 2) (nZ (dU (o3 jf (o3 dG (v3 0) (v3 2)) (c3 (.int 0)))) (O8 (m3 qt (v3 1) (aa (oN (Uz (v3 2)) (jB 0) jd (cO (aa (v3 1) (aa (v3 0) (aa (o3 cF (v3 2) (v3 1)) ak)))) ["_law_b"] [(2, "_law_a"),(0, "_law_count")]) ak))) nU)
def yo:bC:=(aV (st3 1 (wL ak))
  (aV qj
  (dD (v3 1))))
def IW:Rd ["_law_count", "_law_grids_here", "_law_a"] iz yo:=by
 rintro ds H Q ⟨c,rfl,h⟩
 obtain⟨⟨h1,h2⟩,h⟩:=h
 obtain⟨n,rfl⟩:=fT (show 0<=c by omega)
 rw[eP] at h
 (unfold yo;walk_at "l3t")
 walk_at "l3"
 intro p Y
 walk_at "l3"
 unfold qj
 walk_at "l3"
 rw[show ((n:Int)+1-1).toNat=n from by omega]
 refine Lp.jZ (λi σ H2=>aq H H2/\H2 p=some (.lst ((dC n i).map d9))/\∃y,σ=[some (.int n),some (.ref p),y]) ⟨aq.fresh Y,aj,_,rfl⟩ ?_ ?_
 ·rintro i σ H2 hi ⟨hs,O,y,rfl⟩
  rw[show (1:Int)+(i:Int)=((i+1:Nat):Int) from by omega]
  have Z:(0:Int)<((i+1:Nat):Int):=by omega
  have U:Dc (n:Int) ((i+1:Nat):Int):=⟨Z,by
   have:((i+1:Nat):Int).natAbs<2 ^ 10:=by rw[GN];omega
   exact Bt.mono this (by decide)⟩
  walk_at "l3"
  have e0:((n:Int)%((i+1:Nat):Int)=0)↔n%(i+1)=0:=by rw[←CD];omega
  have e1:(n:Int) / ((i+1:Nat):Int)=((n / (i+1):Nat):Int):=(Ki n (i+1)).symm
  refine zA (λhz=>?_) λhz=>?_
  ·walk_at "l3"
   rw[eP]
   refine Cp.jZ (λb:Nat=>D.tup [.int ((i+1:Nat):Int),.int (b:Int),.int ((n / (i+1):Nat):Int)]) (by omega) ?_ ?_
   ·intro b hb R H3 ac hR
    rw[ko]
    walk_at "l3"
    refine IK U ?_
    rw[e1]
    walk_at "l3"
    exact hR H3 aq.refl
   intro p2 J
   walk_at "l3"
   have al:p≠p2:=ne3 O J
   refine Kf (ao O J) aj (by rw[aW,ae,ae,eI];have:=uP n i (by omega);omega) ?_
   walk_at "l3"
   refine⟨?_,?_,_,rfl⟩
   ·intro a o ha
    have n1:a≠p:=ne3 ha Y
    rw[aG n1]
    exact ao (hs a o ha) J
   ·rw[aj,dW,Dy,de]
    unfold pJ
    rw[if_pos (e0.mp hz)]
  ·walk_at "l3"
   refine⟨hs,?_,_,rfl⟩
   rw[dW]
   unfold pJ
   rw[if_neg (λz=>hz (e0.mpr z)),i4]
   exact O
 ·rintro σ H2 ⟨hs,O,y,rfl⟩
  walk_at "l3"
  exact aJ (h p Y) (dj hs O)
def dX:du:=λds H Q=>∃a b d x y,ds=[.tup [.int a,.int b,.int d],.tup [.int x,.int y]]/\((fH a b d/\Bt 20000 x/\Bt 20000 y)/\Q (.tup [.int (Pa a b d x y*a+I9 d y*b),.int (I9 d y*d)]) H)
def Hr{a d:Int}(hg:fH a b d)(hi:Bt 20000 x)(hj:Bt 20000 y)(h:Q (.tup [.int (Pa a b d x y*a+I9 d y*b),.int (I9 d y*d)]) H):dX [.tup [.int a,.int b,.int d],.tup [.int x,.int y]] H Q:=⟨_,_,_,_,_,rfl,⟨⟨hg,hi,hj⟩,h⟩⟩
local macro_rules | `(tactic| walk_at "l3c")=>`(tactic| ((with_reducible show dX _ _ _);refine Hr (by assumption) (Bt.mono (by walk_at "l3b") (by decide)) (Bt.mono (by walk_at "l3b") (by decide)) ?_))
def uI:bC:=(aV (st3 2 (aM bZ (aa (v3 0) (aa (v3 1) ak))))
  (dD (aM d7 (aa (v3 0) (aa (o3 aB (v3 2) (c3 (.int 0))) (aa (o3 aB (v3 2) (c3 (.int 1))) ak))))))
def Dn:Rd ["grid", "cell", "steps"] dX uI:=by
 rintro ds H Q ⟨a,b,d,x,y,rfl,h⟩
 obtain⟨⟨hg,hi,J⟩,h⟩:=h
 have O:=ZV hg hi J
 have U:=aa9 (d:=d) J
 (unfold uI;walk_at "l3t")
 walk_at "l3"
 exact aJ h aq.refl
structure MT(ps:List Pt)(N:Nat)(E:Int)(n:Pt):Prop where
 nn:0<=E
 grp:∀G,yR G->(∀p∈ps,G p)->G (E,0)/\G n
 ins:∀p∈ps,bV (E,0) n p
 b1:Bt N n.1
 b2:Bt 400 n.2
 be:Bt N E
def MT.step{ps:List Pt}{N:Nat}{E:Int}{n s u:Pt}{w g:Int}(h:MT ps N E n)(l:Lvl N n s u w)(m:Ms E w g):MT (ps++[s]) (N+400000) g u/\(g≠0->MT (ps++[s]) (N+400000) g (u.1%g,u.2)):=by
 have Y:Bt (N+400000) g:=(m.bt h.be l.bw).mono (by omega)
 obtain⟨i,hi⟩:=m.i1
 obtain⟨j,hj⟩:=m.i2
 have iE:∀v,bV (g,0) v (E,0):=λv=>⟨i,0,by show E=i*g+0*v.1;omega,by show (0:Int)=i*0+0*v.2;omega⟩
 have Z:∀v,bV (g,0) v (w,0):=λv=>⟨j,0,by show w=j*g+0*v.1;omega,by show (0:Int)=j*0+0*v.2;omega⟩
 have ins:∀p∈ps++[s],bV (g,0) u p:=by
  intro p J
  rcases ib.mp J with J | J
  ·exact bV.trans (iE _) (bV.trans (bV.right _ _) (Z _) l.i1) (h.ins p J)
  ·rw[bX.mp J]
   exact bV.trans (bV.right _ _) (Z _) l.i2
 have grp:∀G,yR G->(∀p∈ps++[s],G p)->G (g,0)/\G u:=by
  intro G O U
  have h1:=h.grp G O λp J=>U p (xS _ J)
  have h2:=l.grp G O h1.2 (U s (fx _ (bX.mpr rfl)))
  exact⟨m.grp G O h1.1 h2.2,h2.1⟩
 refine⟨⟨m.nn,grp,ins,l.b1,l.bu,Y⟩,λhg=>?_⟩
 have J:0<g:=by have:=m.nn;omega
 have e:=sC u.1 g
 refine⟨m.nn,λG O U=>⟨(grp G O U).1,?_⟩,λp J=>?_,Bt.mod Y J,l.bu,Y⟩
 ·have:=O.sub _ _ (grp G O U).2 (O.mul (grp G O U).1 (u.1 / g))
  simp only[fw,zo] at this
  rw[show u.1%g=u.1-u.1 / g*g from by rw[ia];omega]
  exact this
 ·refine bV.trans (bV.left _ _) ⟨u.1 / g,1,?_,?_⟩ (ins p J)
  ·show u.1=u.1 / g*g+1*(u.1%g);rw[ia (u.1 / g)];omega
  ·show u.2=u.1 / g*0+1*u.2;omega
def MT.wide{E:Int}{n:Pt}(h:MT ps N E n)(w:Wide ps):E≠0/\n.2≠0:=by
 obtain⟨p,J,q,O,U⟩:=w
 obtain⟨k,e⟩:=Jb (h.ins p J) (h.ins q O)
 have:Fq (E,0) n≠0:=by intro z;rw[z,fw] at e;exact U e
 unfold Fq at this
 constructor
 ·intro z;rw[z] at this;simp at this
 ·intro z;rw[z] at this;simp at this
def MT.empty:MT [] 401 0 (0,0):=⟨by omega,λG g _=>⟨g.zero,g.zero⟩,by simp,by unfold Bt;exact yT _,by unfold Bt;exact yT _,by unfold Bt;exact yT _⟩
def MT.mod{E:Int}{n:Pt}(h:MT ps N E n)(hE:0<E)(g:Int)(hg:g=1\/g = -1):∀x:Int,x=g*n.1->MT ps N E (x%E,g*n.2):=by
 intro x U
 have e:=sC x E
 have Y:g*g=1:=by rcases hg with rfl | rfl <;> rfl
 refine⟨h.nn,λG J O=>⟨(h.grp G J O).1,?_⟩,λp Z=>?_,Bt.mod h.be hE,h.b2.of_le (by rcases hg with rfl | rfl <;> omega),h.be⟩
 ·have:=J.sub _ _ (J.mul (h.grp G J O).2 g) (J.mul (h.grp G J O).1 (x / E))
  simp only[fw,zo] at this
  rw[show x%E=g*n.1-x / E*E from by rw[ia (x / E),←U];omega]
  exact this
 ·refine bV.trans (bV.left _ _) ⟨g*(x / E),g,?_,?_⟩ (h.ins p Z)
  ·show n.1=g*(x / E)*E+g*(x%E)
   rw[FI,←BA,show x / E*E+x%E=x from by rw[ia (x / E)];omega,U,←FI,Y,x9]
  ·show n.2=g*(x / E)*0+g*(g*n.2)
   rw[←FI,Y,fw];omega
def ig:du:=λds H Q=>∃a,ds=[.ref a]/\(∃ps:List Pt,(H a=some (.lst (ps.map aO))/\ps.length<=100/\(∀p∈ps,Bt 400 p.1/\Bt 400 p.2)/\Wide ps)/\∀e b d,jg ps e b d->Q (.tup [.int e,.int b,.int d]) H)
def NQ(ps:List Pt)(ha:H a=some (.lst (ps.map aO)))(hl:ps.length<=100)(hb:∀p∈ps,Bt 400 p.1/\Bt 400 p.2)(hw:Wide ps)(h:∀e b d,jg ps e b d->Q (.tup [.int e,.int b,.int d]) H):ig [.ref a] H Q:=⟨_,rfl,⟨ps,⟨ha,hl,hb,hw⟩,h⟩⟩
def pZ:bC:=xf (wH (v3 0)) (jB 3) (aV (st3 4 (aM fW (aa (v3 2) (aa (v3 3) ak))))
  (aV (st3 2 (o3 aB (v3 4) (c3 (.int 0))))
  (aV (st3 1 (aM bQ (aa (v3 1) (aa (o3 aB (o3 aB (v3 4) (c3 (.int 1))) (c3 (.int 0))) ak))))
  (nZ (dU (o3 eG (v3 1) (c3 (.int 0)))) (st3 2 (cO (aa (o3 dG (o3 aB (v3 2) (c3 (.int 0))) (v3 1)) (aa (o3 aB (v3 2) (c3 (.int 1))) ak)))) nU))))
def yf:bC:=(aV (st3 1 (c3 (.int 0)))
  (aV (st3 2 (cO (aa (c3 (.int 0)) (aa (c3 (.int 0)) ak))))
  (aV pZ
  (aV (nZ (or3 (dU (o3 jf (v3 1) (c3 (.int 0)))) (dU (o3 jf (o3 aB (v3 2) (c3 (.int 1))) (c3 (.int 0))))) ra3 nU)
  (aV (nZ (dU (o3 vJ (o3 aB (v3 2) (c3 (.int 1))) (c3 (.int 0)))) (st3 2 (cO (aa (o3 dG (u3 nM (o3 aB (v3 2) (c3 (.int 0)))) (v3 1)) (aa (u3 nM (o3 aB (v3 2) (c3 (.int 1)))) ak)))) nU)
  (dD (cO (aa (v3 1) (aa (o3 aB (v3 2) (c3 (.int 0))) (aa (o3 aB (v3 2) (c3 (.int 1))) ak))))))))))
def Iz:Rd ["shifts", "east", "north", "shift", "pair"] ig yf:=by
 rintro ds H Q ⟨a,rfl,h⟩
 obtain⟨ps,⟨ha,hl,hb,hw⟩,h⟩:=h
 (unfold yf;walk_at "l3t")
 walk_at "l3"
 unfold pZ
 walk_at "l3"
 refine Lp.by (λi σ H2=>H2=H/\∃E:Int,∃n:Pt,∃y z,MT (ps.take i) (401+i*400000) E n/\(E≠0->0<=n.1/\n.1<E)/\σ=[some (.ref a),some (.int E),some (.tup [.int n.1,.int n.2]),y,z]) ⟨rfl,0,(0,0),none,none,MT.empty,λz=>absurd rfl z,rfl⟩ (λi σ H2 _ z=>by rw[z.1];exact ha) ?_ ?_
 ·rintro i dd σ H2 hd ⟨rfl,E,n,y,z,hi,O,rfl⟩
  rw[ay,cv] at hd
  obtain⟨s,hs,rfl⟩:=hd
  have hm:=df hs
  have am:=(cE.mp hs).1
  have ac:ps.take (i+1)=ps.take i++[s]:=by rw[gS,hs];rfl
  have eN:401+(i+1)*400000=401+i*400000+400000:=by omega
  obtain⟨n1,n2⟩:=n
  obtain⟨s1,s2⟩:=s
  have bs:=hb _ hm
  unfold aO
  walk_at "l3"
  refine GC (401+i*400000) (by omega) hi.b1 (bs.1.mono (by omega)) hi.b2 bs.2 λu w al=>?_
  walk_at "l3"
  refine rC λg Y=>?_
  have U:=hi.step al Y
  rw[←ac,←eN] at U
  walk_at "l3"
  refine Pz (λhg=>?_) λhg=>?_
  ·walk_at "l3"
   have h0:0<g:=by have:=Y.nn;omega
   refine Y5 h0 ?_
   walk_at "l3"
   exact⟨rfl,g,(u.1%g,u.2),_,_,U.2 hg,λ_=>⟨kl _ hg,iN _ h0⟩,rfl⟩
  ·walk_at "l3"
   exact⟨rfl,g,u,_,_,U.1,λz=>absurd hg z,rfl⟩
 ·rintro σ H2 ⟨rfl,E,n,y,z,hi,O,rfl⟩
  rw[ae,fh (a8 _)] at hi
  obtain⟨w1,w2⟩:=hi.wide hw
  have Z:0<E:=by have:=hi.nn;omega
  have m0:∀x:Int,0<=x%E:=λx=>kl _ (by omega)
  have m1:∀x:Int,x%E<E:=λx=>iN _ Z
  obtain⟨n1,n2⟩:=n
  dsimp only at w2
  walk_at "l3"
  refine zA (λz=>absurd z w1) λ_=>?_
  walk_at "l3"
  refine zA (λz=>absurd z w2) λ_=>?_
  walk_at "l3"
  refine zA (λhn=>?_) λhn=>?_
  ·walk_at "l3"
   have J:=hi.mod Z (-1) (.inr rfl) (-n1) (by omega)
   have e2:(-1)*n2 = -n2:=by omega
   dsimp only at J
   rw[e2] at J
   exact aJ (h _ _ _ ⟨Z,m0 _,m1 _,by omega,J.grp,J.ins⟩) aq.refl
  ·walk_at "l3"
   exact aJ (h _ _ _ ⟨Z,(O w1).1,(O w1).2,by omega,hi.grp,hi.ins⟩) aq.refl
def cU:du:=λds H Q=>∃a xs y,ds=[.ref a,.tup xs,y]/\(∃(ps:List Pt) (g:Tr),(H a=some (.ins "Laying" [])/\xs=ps.map aO/\y=d9 g/\ps.length<=100/\oK g/\g.1*g.2.2=ps.length)/\Q .non (au H a (gh ps g)))
def nj(ha:H a=some (.ins "Laying" []))(hl:ps.length<=100)(hg:oK g)(hn:g.1*g.2.2=ps.length)(h:Q .non (au H a (gh ps g))):cU [.ref a,.tup (ps.map aO),d9 g] H Q:=⟨_,_,_,rfl,⟨ps,g,⟨ha,rfl,rfl,hl,hg,hn⟩,h⟩⟩
def nC:bC:=(aV (sf3 ["Laying"] "piece" (v3 0) (v3 1))
  (aV (sf3 ["Laying"] "grid" (v3 0) (v3 2))
  (nZ (dU (o3 eG (aM dZ (aa (v3 2) ak)) (aM bj (aa (ym [("Laying",bJ)] "laid" (v3 0) ak) ak)))) ra3 nU)))
def uK:Rd ["self", "piece", "grid"] cU nC:=by
 rintro ds H Q ⟨a,xs,y,rfl,h⟩
 obtain⟨ps,g,⟨ha,rfl,rfl,Z,hg,Y⟩,h⟩:=h
 obtain⟨J,O,U⟩:=g
 have ac:fH J O U:=hg
 dsimp only at Y
 unfold d9
 (unfold nC;walk_at "l3t")
 walk_at "l3"
 refine adu aj (by decide) (by show 1<1000;decide) ?_
 rw[cN]
 walk_at "l3"
 have hc:au H a (.ins "Laying" (sY "grid" (.tup [.int J,.int O,.int U]) (sY "piece" (.tup (ps.map aO)) []))) a=some (gh ps (J,O,U)):=by
  rw[aj];rfl
 refine iV hc Z λp hp=>?_
 walk_at "l3"
 rw[ae]
 refine Pz (λz=>absurd Y z) λ_=>?_
 walk_at "l3"
 exact aJ h (aq.fresh hp)
def cL:du:=λds H Q=>∃x y z,ds=[.tup [.int x,.int y],.str z]/\(∃ls:List Lt,(z=aR ls/\ls.length<=500)/\∀p,H p=none->Q (.ref p) (au H p (.lst ((path (x,y) ls).map aO))))
def pB(ls:List Lt)(hl:ls.length<=500)(h:∀p,H p=none->Q (.ref p) (au H p (.lst ((path (x,y) ls).map aO)))):cL [.tup [.int x,.int y],.str (aR ls)] H Q:=⟨_,_,_,rfl,⟨ls,⟨rfl,hl⟩,h⟩⟩
def vK(l:Lt):uA.lookup (jG l)=some (.ktup [.int (step l).1,.int (step l).2]):=by
 revert l;intro l;match l with
 |0=>rfl
 |1=>rfl
 |2=>rfl
 |3=>rfl
def km:bC:=xf (iz3 (v3 1)) (jB 3) (O8 (m3 nO (v3 2) (aa (aM gf (aa (o3 aB (v3 2) (u3 nM (c3 (.int 1)))) (aa (UL uA (v3 3)) ak))) ak)))
def pR:bC:=(aV (st3 2 (wL (aa (v3 0) ak)))
  (aV km
  (dD (v3 2))))
def xJ:Rd ["corner", "word", "corners", "letter"] cL pR:=by
 rintro ds H Q ⟨x,y,z,rfl,h⟩
 obtain⟨ls,⟨rfl,Y⟩,h⟩:=h
 (unfold pR;walk_at "l3t")
 walk_at "l3"
 intro p O
 walk_at "l3"
 unfold km
 walk_at "l3"
 rw[GD]
 refine Lp.by (λi σ H2=>H2=au H p (.lst ((path (x,y) (ls.take i)).map aO))/\∃c,σ=[some (.tup [.int x,.int y]),some (.str (aR ls)),some (.ref p),c]) ⟨by rw[MR];rfl,_,rfl⟩ (λ_ _ _ _ _=>trivial) ?_ ?_
 ·rintro i d σ H2 hd ⟨rfl,c,rfl⟩
  rw[ay,cv] at hd
  obtain⟨l,J,rfl⟩:=hd
  walk_at "l3"
  refine fV aj (MF _ _) ?_
  walk_at "l3"
  refine CK (vK l) ?_
  walk_at "l3"
  refine Eb aj (jM (by rw[ae,ql,fm];omega)) ?_
  rw[cN]
  walk_at "l3"
  have U:ls.take (i+1)=ls.take i++[l]:=by rw[gS,J];rfl
  refine⟨?_,_,rfl⟩
  rw[U,Mm,de]
  rfl
 ·rintro σ H2 ⟨rfl,c,rfl⟩
  rw[ae,fh (a8 _)]
  walk_at "l3"
  exact aJ (h p O) aq.refl
def ltD(_:Pt)(d:Nat):D:=.str (jG (ltN d))
def bh:du:=λds H Q=>∃xs,ds=[.tup xs]/\(∃S:List Pt,(xs=S.map aO/\S.length<=20/\Dg S)/\∀p zp,H p=none->Lb S ltD S.length 0 zp->Q (.ref p) (au H p (.dic (cu zp))))
def mQ(hl:S.length<=20)(g:Dg S)(h:∀p zp,H p=none->Lb S ltD S.length 0 zp->Q (.ref p) (au H p (.dic (cu zp)))):bh [.tup (S.map aO)] H Q:=⟨_,rfl,⟨S,⟨rfl,hl,g⟩,h⟩⟩
def eF:bC:=xf (wH (aM fX (aa (v3 2) ak))) (jB 3) (nZ (dU (o3 (dB true) (o3 aB (v3 3) (c3 (.int 2))) (v3 0))) (Uv (v3 1) (o3 aB (v3 3) (c3 (.int 0))) (o3 aB (v3 3) (c3 (.int 1)))) nU)
def fj:bC:=xf (Vq (v3 0)) (jB 2) eF
def gC:bC:=(aV (st3 1 dn3)
  (aV fj
  (dD (v3 1))))
def lW:Rd ["piece", "letters", "cell", "side"] bh gC:=by
 rintro ds H Q ⟨_,rfl,h⟩
 obtain⟨S,⟨rfl,hl,g⟩,h⟩:=h
 (unfold gC;walk_at "l3t")
 walk_at "l3"
 intro p Z
 walk_at "l3"
 unfold fj
 walk_at "l3"
 refine Lp.by (λi σ H2=>aq H H2/\∃zp:List (Pt×D),∃x y,Lb S ltD i 0 zp/\H2 p=some (.dic (cu zp))/\σ=[some (.tup (S.map aO)),some (.ref p),x,y]) ⟨aq.fresh Z,[],_,_,Lb.nil,aj,rfl⟩ (λ_ _ _ _ _=>trivial) ?_ ?_
 ·rintro i d σ H2 hd ⟨sb,zp,x,y,J,O,rfl⟩
  rw[ay,cv] at hd
  obtain⟨c,hc,rfl⟩:=hd
  have hi:=(cE.mp hc).1
  obtain⟨c1,c2⟩:=c
  unfold aO
  walk_at "l3"
  unfold eF
  walk_at "l3"
  refine HH λp2 Y=>?_
  walk_at "l3"
  have n2:p≠p2:=ne3 O Y
  refine Lp.by (λk σ H3=>aq H H3/\H3 p2=some (.lst ((bo 4).map (sdD (c1,c2))))/\∃zp:List (Pt×D),∃y,Lb S ltD i k zp/\H3 p=some (.dic (cu zp))/\σ=[some (.tup (S.map aO)),some (.ref p),some (.tup [.int c1,.int c2]),y]) ⟨sb.trans (aq.fresh Y),aj,zp,_,J,ao O Y,rfl⟩ (λk σ H3 _ z=>z.2.1) ?_ ?_
  ·rintro k d σ H3 hd ⟨U,h2,zp,y,J,O,rfl⟩
   have hk:k<4:=by have:=(cE.mp hd).1;simpa using this
   rw[ay,ly hk,oQ] at hd
   cases hd
   unfold sdD
   walk_at "l3"
   unfold aO
   refine Ad (ps:=S) rfl ?_
   refine Pz (λz=>?_) λz=>?_
   ·walk_at "l3"
    refine Rq O (by have:=J.len;omega) ?_
    walk_at "l3"
    refine⟨λq o hq=>by rw[aG (λe=>by rw[e,Z] at hq;cases hq)];exact U q o hq,by rw[aG n2.symm];exact h2,_,_,J.put g hc hk z,aj,rfl⟩
   ·walk_at "l3"
    exact⟨U,h2,zp,_,J.skip hc z,O,rfl⟩
  ·rintro σ H3 ⟨U,h2,zp,y,J,O,rfl⟩
   walk_at "l3"
   exact⟨U,zp,_,_,J.next,O,rfl⟩
 ·rintro σ H2 ⟨sb,zp,x,y,J,O,rfl⟩
  rw[ae] at J
  walk_at "l3"
  exact aJ (h p zp Z J) (dj sb O)
def uT(W:List Lt)(s:Int×Int):Bool:=decide (sub (W++W) (s.1+(W.length:Int) / 2) (s.2+(W.length:Int) / 2)=bk (sub (W++W) s.1 s.2))
def KC(W:List Lt)(cs:List Int):Bool:=(jY cs ((W.length:Int) / 2)).all (uT W)
def dH:du:=λds H Q=>∃z xs,ds=[.str z,.tup xs]/\(∃(W:List Lt) (cs:List Int),(z=aR W/\xs=cs.map D.int/\W.length<=100/\Bc cs ((W.length:Int) / 2))/\Q (.bl (KC W cs)) H)
def Bk(hl:W.length<=100)(hc:Bc cs ((W.length:Int) / 2))(h:Q (.bl (KC W cs)) H):dH [.str (aR W),.tup (cs.map D.int)] H Q:=⟨_,_,rfl,⟨W,cs,⟨rfl,rfl,hl,hc⟩,h⟩⟩
def j8:bC:=xf (wH (aM dY (aa (v3 0) (aa (v3 1) ak)))) (jB 4) (aV (st3 5 (Ub Cd (v3 3) (UG (o3 aB (v3 4) (c3 (.int 0)))) (UG (o3 aB (v3 4) (c3 (.int 1))))))
  (aV (st3 6 (Ub Cd (v3 3) (UG (o3 aH (o3 aB (v3 4) (c3 (.int 0))) (v3 2))) (UG (o3 aH (o3 aB (v3 4) (c3 (.int 1))) (v3 2)))))
  (nZ (dU (o3 eG (v3 6) (aM fB (aa (v3 5) ak)))) (dD (c3 (.bl false))) nU)))
def oY:bC:=(aV (st3 2 (o3 cF (aM bj (aa (v3 0) ak)) (c3 (.int 2))))
  (aV (st3 3 (o3 aH (v3 0) (v3 0)))
  (aV j8
  (dD (c3 (.bl true))))))
def wM:Rd ["word", "cuts", "half", "twice", "span", "stretch", "fellow"] dH oY:=by
 rintro ds H Q ⟨_,_,rfl,h⟩
 obtain⟨W,cs,⟨rfl,rfl,hl,U⟩,h⟩:=h
 have ac:=U.len
 have al:=yX (L:=(W.length:Int) / 2) U.ne
 (unfold oY;walk_at "l3t")
 walk_at "l3"
 refine qM (by omega) ?_
 walk_at "l3"
 refine ZC (by rw[eQ,aW];omega) ?_
 rw[lq]
 walk_at "l3"
 unfold j8
 walk_at "l3"
 refine vM (by omega) U.ne (by omega) λp1 O=>?_
 walk_at "l3"
 refine Lp.by (λi σ H2=>H2=au H p1 (.lst ((jY cs ((W.length:Int) / 2)).map aO))/\((jY cs ((W.length:Int) / 2)).take i).all (uT W)=true/\∃x y z,σ=[some (.str (aR W)),some (.tup (cs.map D.int)),some (.int ((W.length:Int) / 2)),some (.str (aR (W++W))),x,y,z]) ⟨rfl,rfl,_,_,_,rfl⟩ (λi σ H2 _ z=>by rw[z.1];exact aj) ?_ ?_
 ·rintro i d σ H2 hd ⟨rfl,J,x,y,z,rfl⟩
  rw[ay] at hd
  obtain⟨s,hs,rfl⟩:=cv.mp hd
  obtain⟨b1,b2,b3,b4⟩:=U.jY s (df hs)
  unfold aO
  walk_at "l3"
  refine YG (uz _ (by rw[ck];omega)) ?_
  rw[Kc _ b1 (by omega) (by rw[ck];omega)]
  walk_at "l3"
  refine YG (uz _ (by rw[ck];omega)) ?_
  rw[Kc _ (by omega) (by omega) (by rw[ck];omega)]
  walk_at "l3"
  refine Em _ (by rw[lA b1 (by omega) (by rw[ck];omega)];omega) ?_
  walk_at "l3"
  refine Pn ?_
  walk_at "l3"
  refine Pz (λY=>?_) λZ=>?_
  ·walk_at "l3"
   have hf:KC W cs=false:=by
    unfold KC
    rw[List.all_eq_false]
    exact⟨s,df hs,by unfold uT;simpa using Y⟩
   rw[hf] at h
   exact aJ h (aq.fresh O)
  ·walk_at "l3"
   refine⟨rfl,?_,_,_,_,rfl⟩
   rw[gS,hs,List.all_append,J]
   show (true&&(uT W s&&true))=true
   unfold uT
   rw[decide_eq_true Z];rfl
 ·rintro σ H2 ⟨rfl,J,x,y,z,rfl⟩
  rw[ae,xC] at J
  walk_at "l3"
  rw[show KC W cs=true from J] at h
  exact aJ h (aq.fresh O)
def b8:du:=λds H Q=>∃h,ds=[.int h]/\((0<=h/\h<=21)/\∀p,H p=none->Q (.ref p) (au H p (.lst ((jx h (jq h)).map U3))))
def tL(h0:0<=h)(h1:h<=21)(q:∀p,H p=none->Q (.ref p) (au H p (.lst ((jx h (jq h)).map U3)))):b8 [.int h] H Q:=⟨_,rfl,⟨⟨h0,h1⟩,q⟩⟩
def iD:bC:=xf (wH (aM bW (aa (v3 0) ak))) (jB 2) (O8 (m3 qt (v3 1) (aa (oN (Zo (o3 aH (o3 aB (v3 2) (c3 (.int 1))) (c3 (.int 1))) (v3 0)) (jB 0) jd (cO (aa (o3 aB (v3 1) (c3 (.int 0))) (aa (o3 aB (v3 1) (c3 (.int 1))) (aa (v3 0) ak)))) ["three"] [(2, "pair")]) ak)))
def kO:bC:=(aV (st3 1 (wL ak))
  (aV iD
  (dD (v3 1))))
def qK:Rd ["half", "cuts", "pair"] b8 kO:=by
 rintro ds H Q ⟨n,rfl,h⟩
 obtain⟨⟨h0,h1⟩,h⟩:=h
 have al:=pQ h0 h1
 (unfold kO;walk_at "l3t")
 walk_at "l3"
 intro p Y
 walk_at "l3"
 unfold iD
 walk_at "l3"
 refine m5 h0 h1 λp1 J=>?_
 walk_at "l3"
 have n1:p≠p1:=ne3 aj J
 have am:H p1=none:=fU (aq.fresh Y) J
 refine Lp.by (λi σ H2=>aq H H2/\H2 p1=some (.lst ((jq n).map aO))/\H2 p=some (.lst ((jx n ((jq n).take i)).map U3))/\∃x,σ=[some (.int n),some (.ref p),x]) ⟨(aq.fresh Y).trans (aq.fresh J),aj,ao aj J,_,rfl⟩ (λi σ H2 _ z=>z.2.1) ?_ ?_
 ·rintro i d σ H2 hd ⟨hs,U,Z,x,rfl⟩
  rw[ay] at hd
  obtain⟨c,hc,rfl⟩:=cv.mp hd
  have ac:=df hc
  have ap:=two_pos c ac
  have a0:=vX h1 (ps:=(jq n).take i) λq hq=>two_pos q (List.mem_of_mem_take hq)
  have a1:((jq n).take i).length<=441:=by rw[fm];omega
  unfold aO
  walk_at "l3"
  refine Cp.jZ (λj=>U3 (c.1,c.2,c.2+1+(j:Int))) (by omega) ?_ ?_
  ·intro j hj R H4 a2 hR
   walk_at "l3"
   exact hR H4 aq.refl
  intro p2 O
  have e:((bo (n-(c.2+1)).toNat).map λj:Nat=>U3 (c.1,c.2,c.2+1+(j:Int)))=(wg n c).map U3:=by unfold wg;rw[dP];rfl
  rw[e]
  have e2:(wg n c).length=(n-(c.2+1)).toNat:=by simp[wg]
  have n2:p1≠p2:=ne3 U O
  walk_at "l3"
  refine Kf (ao Z O) aj (kn (sO (by rw[ae,ae];omega))) ?_
  walk_at "l3"
  refine⟨λb o hb=>?_,?_,?_,_,rfl⟩
  ·rw[aG (ne3 hb Y)];exact (hs.trans (aq.fresh O)) b o hb
  ·rw[aG (mI n1)];exact ao U O
  ·rw[aj,gS,hc]
   show _=some (O3.lst ((jx n ((jq n).take i++[c])).map U3))
   rw[Ly,de]
 ·rintro σ H2 ⟨hs,U,Z,x,rfl⟩
  rw[ae,xC] at Z
  walk_at "l3"
  exact aJ (h p Y) (dj hs Z)
def lL:du:=λds H Q=>∃xs k,ds=[.fl xs,.int k]/\((match intsOf xs with
  |some ns=>(0<=k/\k<=1000)/\∀m,Q (.int m) H
  |none=>False))
def Wb{k:Int}(hk:0<=k)(h1:k<=1000)(h:∀m,Q (.int m) H):lL [.fl (ns.map D.int),.int k] H Q:=by
 refine⟨_,_,rfl,?_⟩
 simp only[gW];exact⟨⟨hk,h1⟩,h⟩
def J3:bC:=(aV (st3 2 (aM bf (aa (v3 0) (aa (v3 1) ak))))
  (aV (nZ (dU (o3 jf (o3 dG (aM bf (aa (v3 0) (aa (c3 (.int 0)) ak))) (c3 (.int 2))) (c3 (.int 1)))) (dD (v3 2)) nU)
  (dD (o3 dG (o3 b7 (o3 dG (o3 b7 (o3 aH (o3 aH (v3 2) (o3 b7 (o3 b7 (c3 (.int 7)) (v3 1)) (v3 1))) (c3 (.int 11))) (c3 (.int 48271))) (c3 (.int 2147483647))) (c3 (.int 69621))) (c3 (.int 1000000007))))))
def Rn:Rd ["_law_script", "_law_k", "_law_cell"] lL J3:=by
 rintro ds H Q ⟨xs,k,rfl,h⟩
 split at h
 case h_2=>exact h.elim
 rename_i ns e
 have J:=dR e
 subst J
 obtain⟨⟨U,O⟩,h⟩:=h
 (unfold J3;walk_at "l3t")
 walk_at "l3"
 refine zA (λ_=>?_) λ_=>?_
 ·walk_at "l3"
  exact aJ (h _) aq.refl
 ·walk_at "l3"
  exact aJ (h _) aq.refl
def jA:du:=λds H Q=>∃d a b c,ds=[d,.tup [.int a,.int b,.int c]]/\(∃ps:List Pt,((d=.tup (ps.map aO)\/∃p,d=.ref p/\H p=some (.lst (ps.map aO)))/\fH a b c/\Small ps/\ps.length<=60)/\Q (.bl (decide (mj (a,b,c) ps))) H)
def Lx{a c:Int}(hg:fH a b c)(hs:Small ps)(hl:ps.length<=60)(h:Q (.bl (decide (mj (a,b,c) ps))) H):jA [.tup (ps.map aO),.tup [.int a,.int b,.int c]] H Q:=⟨_,_,_,_,rfl,⟨ps,⟨.inl rfl,hg,hs,hl⟩,h⟩⟩
def vg:bC:=(dD (o3 jf (aM pU (aa (oN (io3 (wH (v3 0)) (Vq (v3 0))) (jB 0) jd (aM jr (aa (v3 1) (aa (v3 0) ak))) ["_law_cell"] [(1, "_law_grid")]) ak)) (aM bj (aa (v3 0) ak))))
def O1:Rd ["_law_piece", "_law_grid"] jA vg:=by
 rintro ds H Q ⟨d,a,b,c,rfl,h⟩
 obtain⟨ps,⟨hd,hg,hs,hl⟩,h⟩:=h
 rcases hd with rfl | ⟨q,rfl,hq⟩
 ·(unfold vg;walk_at "l3t")
  walk_at "l3"
  refine abU ?_
  walk_at "l3"
  refine Cp.map (E:=aO) (as:=ps) (λq=>aO (rst (a,b,c) q)) (λ_ _=>trivial) (by omega) ?_ ?_
  ·intro i x Y R H3 Z hR
   have U:=hs x (df Y)
   unfold aO
   walk_at "l3"
   refine Es hg U.1 U.2 ?_
   exact hR H3 aq.refl
  intro p2 O
  walk_at "l3"
  refine Ea (ps:=ps.map (rst (a,b,c))) (by rw[aj,dP];rfl) (by rw[ae];omega) λn J _=>?_
  rw[ae] at J
  walk_at "l3"
  rw[ae,show (decide ((n:Int)=(ps.length:Int)))=decide (mj (a,b,c) ps) from decide_eq_decide.mpr (by unfold mj;rw[←J];omega)]
  exact aJ h (aq.fresh O)
 ·(unfold vg;walk_at "l3t")
  walk_at "l3"
  refine acq ?_
  walk_at "l3"
  refine Cp.map (E:=aO) (as:=ps) (λq=>aO (rst (a,b,c) q)) (λH2 ac=>ac _ _ hq) (by omega) ?_ ?_
  ·intro i x Y R H3 Z hR
   have U:=hs x (df Y)
   unfold aO
   walk_at "l3"
   refine Es hg U.1 U.2 ?_
   exact hR H3 aq.refl
  intro p2 O
  walk_at "l3"
  refine Ea (ps:=ps.map (rst (a,b,c))) (by rw[aj,dP];rfl) (by rw[ae];omega) λn J _=>?_
  rw[ae] at J
  walk_at "l3"
  rw[ae,show (decide ((n:Int)=(ps.length:Int)))=decide (mj (a,b,c) ps) from decide_eq_decide.mpr (by unfold mj;rw[←J];omega)]
  exact aJ h (aq.fresh O)
def w6(l:Lt):D:=.str (jG l)
def ZJ(l:Lt):nJ (tabS [("e", "w"),("n", "s"),("w", "e"),("s", "n")]) (.inr (jG l))=some (.str (jG (Wq l))):=by
 revert l;intro l;match l with
 |0=>rfl
 |1=>rfl
 |2=>rfl
 |3=>rfl
def aat(W:List Lt)(hh:Nat)(s:Int×Int):Prop:=∀k:Nat,(k:Int)<s.2-s.1->W.getD ((s.2+hh-1-k)%((hh+hh:Nat):Int)).toNat 0=Wq (W.getD ((s.1+k)%((hh+hh:Nat):Int)).toNat 0)
def VG{n:Int}(hn:n=2\/n=3)(q:Q (.bl false) H):dB true (.int n) (.tup [.int 2,.int 3]) H Q:=by
 refine .inl ?_
 have e:tK H (.tup [.int 2,.int 3])=some [D.int 2,.int 3]:=rfl
 have J:(some [D.int 2,.int 3]).bind (gk (mO 4))=some [.int 2,.int 3]:=rfl
 have O:mO 4 (.int n)=some (.int n):=rfl
 have U:([sP 2,.int 3].any λq=>fg q (.int n))=true:=by rcases hn with rfl | rfl <;> simp[fg]
 (delta wQ;simp only[e,J,O,U])
 exact q
theorem K1:∀ns:List Int,gk (mO 4) (ns.map D.int)=some (ns.map sP)
 |[]=>rfl
 |n::ns=>by
  have e:mO 4 (.int n)=some (.int n):=rfl
  rw[aE]
  unfold gk
  rw[e,K1 ns];rfl
theorem yD:∀ns:List Int,g9 (ns.map sP) (ns.map sP)=true
 |[]=>by simp[g9]
 |n::ns=>by simp[g9,fg,yD ns]
def Pq{b:aT}(ha:H a=some (.lst (ns.map D.int)))(hb:H b=some (.lst (ns.map D.int)))(q:Q (.bl false) H):eG (.ref a) (.ref b) H Q:=by
 (delta eG Hf;simp only[ha,hb,K1,oQ,fg,yD]);exact q
def ace{l:Lt}(q:Q (.bl false) H):eG (.str (jG l)) (.str (jG l)) H Q:=Pn (as:=[l]) (bs:=[l]) (by rw[decide_eq_true rfl];exact q)
def cI:du:=λds H Q=>∃a xs,ds=[.ref a,.tup xs]/\(∃(W:List Lt) (cs:List Int) (hh:Nat),(H a=some (.lst (W.map w6))/\xs=cs.map D.int/\W.length=hh+hh/\hh<=20/\Bc cs hh/\∀s∈jY cs hh,aat W hh s)/\Q (.bl true) H)
def vm{hh:Nat}(ha:H a=some (.lst (W.map w6)))(hl:W.length=hh+hh)(h20:hh<=20)(hc:Bc cs hh)(ho:∀s∈jY cs hh,aat W hh s)(h:Q (.bl true) H):cI [.ref a,.tup (cs.map D.int)] H Q:=⟨_,_,rfl,⟨W,cs,hh,⟨ha,rfl,hl,h20,hc,ho⟩,h⟩⟩
def iQ:bC:=xf (Uz (o3 bF (v3 6) (v3 5))) (jB 7) (aV (st3 8 (o3 aB (v3 0) (o3 dG (o3 aH (v3 5) (v3 7)) (aM bj (aa (v3 0) ak)))))
  (nZ (dU (o3 eG (o3 aB (v3 0) (o3 dG (o3 bF (o3 bF (o3 aH (v3 6) (v3 3)) (c3 (.int 1))) (v3 7)) (aM bj (aa (v3 0) ak)))) (gs3 (v3 2) (v3 8)))) (dD (c3 (.bl false))) nU))
def cP:bC:=xf (izp (aM jW (aa (v3 1) ak)) (v3 4)) (Fy 5 6) iQ
def lg:bC:=(aV (st3 2 (dcS [("e", "w"),("n", "s"),("w", "e"),("s", "n")]))
  (aV (st3 3 (o3 cF (aM bj (aa (v3 0) ak)) (c3 (.int 2))))
  (aV (nZ (or3 (QJ (dU (aM iT (aa (v3 1) (aa (c3 (.ty "tuple")) ak))))) (or3 (dU (o3 (dB true) (aM bj (aa (v3 1) ak)) (cO (aa (c3 (.int 2)) (aa (c3 (.int 3)) ak))))) (QJ (dU (aM Eu (aa (oN (Vq (v3 1)) (jB 0) jd (aM fJ (aa (v3 0) ak)) ["_law_cut"] []) ak)))))) (dD (c3 (.bl false))) nU)
  (aV (nZ (or3 (dU (o3 vJ (o3 aB (v3 1) (c3 (.int 0))) (c3 (.int 0)))) (or3 (dU (o3 aaa (o3 aB (v3 1) (o3 bF (aM bj (aa (v3 1) ak)) (c3 (.int 1)))) (v3 3))) (dU (o3 eG (aM Bm (aa (v3 1) ak)) (aM jW (aa (v3 1) ak)))))) (dD (c3 (.bl false))) nU)
  (aV (st3 4 (o3 aH (aM jW (aa (Ub yS (v3 1) (UG (c3 (.int 1))) Wl) ak)) (wL (aa (o3 aH (o3 aB (v3 1) (c3 (.int 0))) (v3 3)) ak))))
  (aV cP
  (dD (c3 (.bl true)))))))))
def tR:Rd ["_law_letters", "_law_cuts", "_law_other", "_law_half", "_law_ends", "_law_begin", "_law_end", "_law_k", "_law_letter"] cI lg:=by
 rintro ds H Q ⟨a,xs,rfl,h⟩
 obtain⟨W,cs,hh,⟨ha,rfl,hl,bw,J,ho⟩,h⟩:=h
 have a3:(((W.map w6).length:Nat):Int) / 2=hh:=by rw[ae,hl];omega
 have bv:1<=hh:=by
  obtain⟨c,bg⟩:=List.exists_mem_of_ne_nil _ J.ne
  have:=J.jZ c bg
  omega
 (unfold lg;walk_at "l3t")
 have bi:∀(H1:aA) (p2 p4:aT) (es:List D),aq H H1->H1 p2=some (.dik (tabS [("e", "w"),("n", "s"),("w", "e"),("s", "n")]))->H1 p4=some (.lst es)->fC (cs.map D.int) es=(jY cs hh).map (λs=>D.tup [.int s.1,.int s.2]) ->
   (aV cP (dD (c3 (.bl true)))) (Ec Q) [some (.ref a),some (.tup (cs.map D.int)),some (.ref p2),some (.int hh),some (.ref p4),none,none,none,none] H1:=by
  intro H1 p2 p4 es bm k2 k4 hz
  unfold cP
  walk_at "l3"
  intro p5 am
  walk_at "l3"
  refine acf aj (ao k4 am) ?_
  rw[hz]
  have O:=bm.trans (aq.fresh (o:=.lst (cs.map D.int)) am)
  have a4:=ao (u:=.lst (cs.map D.int)) k2 am
  have a5:=ao (u:=.lst (cs.map D.int)) k4 am
  have k5:au H1 p5 (.lst (cs.map D.int)) p5=some (.lst (cs.map D.int)):=aj
  generalize au H1 p5 (.lst (cs.map D.int))=H2 at O a4 a5 k5
  refine Lp.by (λi σ H3=>H3=H2/\∃u1 u2 u3 u4,σ=[some (.ref a),some (.tup (cs.map D.int)),some (.ref p2),some (.int hh),some (.ref p4),u1,u2,u3,u4]) ⟨rfl,_,_,_,_,rfl⟩ (λi σ H3 _ z=>by rw[z.1];exact⟨k5,a5⟩) ?_ ?_
  ·rintro i d σ H3 hd ⟨rfl,u1,u2,u3,u4,rfl⟩
   rw[ay,cv] at hd
   obtain⟨s,hs,rfl⟩:=hd
   have a6:=df hs
   have bn:=ho s a6
   obtain⟨b1,b2,b3,b4⟩:=J.jY s a6
   have ka:=O _ _ ha
   unfold iQ
   walk_at "l3"
   refine Lp.jZ (λi σ H4=>H4=H3/\∃u3 u4,σ=[some (.ref a),some (.tup (cs.map D.int)),some (.ref p2),some (.int hh),some (.ref p4),some (.int s.1),some (.int s.2),u3,u4]) ⟨rfl,_,_,rfl⟩ ?_ ?_
   ·rintro k σ H4 hk ⟨rfl,u5,u6,rfl⟩
    have bp:(k:Int)<s.2-s.1:=by omega
    have e:=bn k bp
    have a7:∀x:Int,jU (W.map w6) (x%((hh+hh:Nat):Int))=some (w6 (W.getD (x%((hh+hh:Nat):Int)).toNat 0)):=λx=>by
     have z1:=kl x (b:=((hh+hh:Nat):Int)) (by omega)
     have z2:=iN x (b:=((hh+hh:Nat):Int)) (by omega)
     rw[jK z1 (by omega),←sT (h:=(by omega:(x%((hh+hh:Nat):Int)).toNat<W.length)) 0]
    walk_at "l3"
    rw[ae,hl,ko]
    refine fV ka (a7 _) ?_
    walk_at "l3"
    rw[ae,hl]
    refine fV ka (a7 _) ?_
    walk_at "l3"
    refine acI a4 (ZJ _) ?_
    rw[e]
    walk_at "l3"
    unfold w6
    refine ace ?_
    walk_at "l3"
    refine xu rfl ?_
    exact⟨rfl,_,_,rfl⟩
   ·rintro σ H4 ⟨rfl,u5,u6,rfl⟩
    exact⟨rfl,_,_,_,_,rfl⟩
  ·rintro σ H3 ⟨rfl,u1,u2,u3,u4,rfl⟩
   walk_at "l3"
   exact aJ h O
 have ap:=J.ne
 have tl:∀(p2:aT) (H7:aA),H7 p2=some (.dik (tabS [("e", "w"),("n", "s"),("w", "e"),("s", "n")]))->aq H H7->(aV (st3 4 (o3 aH (aM jW (aa (Ub yS (v3 1) (UG (c3 (.int 1))) Wl) ak)) (wL (aa (o3 aH (o3 aB (v3 1) (c3 (.int 0))) (v3 3)) ak))))
   (aV cP (dD (c3 (.bl true))))) (Ec Q) [some (.ref a),some (.tup (cs.map D.int)),some (.ref p2),some (.int hh),none,none,none,none,none] H7:=by
  intro p2 H7 k7 ac
  walk_at "l3"
  refine Yw (by rw[ae];unfold HT.c7;simp only[];rw[if_neg (by omega)];intro z;have:=z.1;have:=u7.mpr ap;omega) ?_
  rw[CN,Qc _ ap]
  walk_at "l3"
  intro p1 bd
  walk_at "l3"
  refine Ek (Yy ap) ?_
  walk_at "l3"
  intro p3 a0
  walk_at "l3"
  have ee:(cs.drop 1).map D.int++[D.int (cs.headD 0+(hh:Int))]=(ends cs (hh:Int)).map D.int:=by unfold ends;rw[de];rfl
  refine JR (ao aj a0) aj (by rw[ae,i6,aW];have:=J.len;show _+1<=_;omega) λp4 be=>?_
  rw[ee]
  refine GZ ?_
  exact bi _ p2 p4 _ (ac.trans ((aq.fresh bd).trans ((aq.fresh a0).trans (aq.fresh be)))) (ao (ao (ao k7 bd) a0) be) aj (uJ _ _)
 walk_at "l3"
 intro p2 bq
 have k2:au H p2 (.dik (tabS [("e", "w"),("n", "s"),("w", "e"),("s", "n")])) p2=some (.dik (tabS [("e", "w"),("n", "s"),("w", "e"),("s", "n")])):=aj
 have O:=aq.fresh (o:=.dik (tabS [("e", "w"),("n", "s"),("w", "e"),("s", "n")])) bq
 have bu:=O _ _ ha
 generalize au H p2 (.dik (tabS [("e", "w"),("n", "s"),("w", "e"),("s", "n")]))=H2 at k2 O bu
 walk_at "l3"
 rw[a3]
 walk_at "l3"
 refine xu rfl ?_
 walk_at "l3"
 refine VG (by rw[ae];have:=J.len;omega) ?_
 walk_at "l3"
 refine xu rfl ?_
 walk_at "l3"
 refine Cp.map (E:=D.int) (as:=cs) (λ_=>D.bl true) (λ_ _=>trivial) (by have:=J.len;omega) ?_ ?_
 ·intro i c J R H3 bx hR
  walk_at "l3"
  exact hR H3 aq.refl
 intro p hp
 walk_at "l3"
 refine abI (bs:=cs.map λ_=>true) (by rw[aj,dP];rfl) ?_
 rw[show (cs.map λ_=>true).all id=true from by simp]
 walk_at "l3"
 refine xu rfl ?_
 have k3:=ao (u:=.lst (cs.map λ_=>D.bl true)) k2 hp
 have a1:=O.trans (aq.fresh (o:=.lst (cs.map λ_=>D.bl true)) hp)
 generalize au H2 p (.lst (cs.map λ_=>D.bl true))=H3 at k3 a1
 have a2:=J.len
 rcases cs with _ | ⟨Y,_ | ⟨Z,_ | ⟨c2,_ | ⟨c3,cs⟩⟩⟩⟩
 ·simp at a2
 ·simp at a2
 ·have r0:=J.jZ Y (by simp)
  have r1:=J.jZ Z (by simp)
  walk_at "l3"
  refine zA (λz=>absurd z (by omega)) λ_=>?_
  walk_at "l3"
  refine zA (λz=>absurd z (by omega)) λ_=>?_
  walk_at "l3"
  refine Qi (ns:=[Y,Z]) (by simp) J.Oe λp6 al=>?_
  walk_at "l3"
  intro p7 U
  walk_at "l3"
  refine Pq (ns:=[Y,Z]) (ao aj U) aj ?_
  walk_at "l3"
  refine xu rfl ?_
  have k7:=ao (u:=.lst ([Y,Z].map D.int)) (ao (u:=.lst ([Y,Z].map D.int)) k3 al) U
  have ac:=a1.trans ((aq.fresh (o:=.lst ([Y,Z].map D.int)) al).trans (aq.fresh (o:=.lst ([Y,Z].map D.int)) U))
  refine GZ ?_
  exact tl _ _ k7 ac
 ·have r0:=J.jZ Y (by simp)
  have r1:=J.jZ Z (by simp)
  have r2:=J.jZ c2 (by simp)
  walk_at "l3"
  refine zA (λz=>absurd z (by omega)) λ_=>?_
  walk_at "l3"
  refine zA (λz=>absurd z (by omega)) λ_=>?_
  walk_at "l3"
  refine Qi (ns:=[Y,Z,c2]) (by simp) J.Oe λp6 al=>?_
  walk_at "l3"
  intro p7 U
  walk_at "l3"
  refine Pq (ns:=[Y,Z,c2]) (ao aj U) aj ?_
  walk_at "l3"
  refine xu rfl ?_
  have k7:=ao (u:=.lst ([Y,Z,c2].map D.int)) (ao (u:=.lst ([Y,Z,c2].map D.int)) k3 al) U
  have ac:=a1.trans ((aq.fresh (o:=.lst ([Y,Z,c2].map D.int)) al).trans (aq.fresh (o:=.lst ([Y,Z,c2].map D.int)) U))
  refine GZ ?_
  exact tl _ _ k7 ac
 ·simp at a2
def fu:du:=λds H Q=>∃a b d,ds=[.tup [.int a,.int b,.int d]]/\(Q (.bl true) H)
def Dl{a d:Int}(h:Q (.bl true) H):fu [.tup [.int a,.int b,.int d]] H Q:=⟨_,_,_,rfl,h⟩
def rT:bC:=(dD (av3 (aM iT (aa (v3 0) (aa (c3 (.ty "tuple")) ak))) (av3 (o3 jf (aM bj (aa (v3 0) ak)) (c3 (.int 3))) (aM Eu (aa (oN (Vq (v3 0)) (jB 0) jd (aM fJ (aa (v3 0) ak)) ["_law_number"] []) ak)))))
def Al:Rd ["_law_found"] fu rT:=by
 rintro ds H Q ⟨a,b,d,rfl,h⟩
 (unfold rT;walk_at "l3t")
 walk_at "l3"
 refine ifY rfl ?_
 walk_at "l3"
 refine ifY rfl ?_
 walk_at "l3"
 refine Cp.map (E:=D.int) (as:=[a,b,d]) (λ_=>D.bl true) (λ_ _=>trivial) (by simp) ?_ ?_
 ·intro i c Y R H3 J O
  walk_at "l3"
  exact O H3 aq.refl
 intro p U
 walk_at "l3"
 refine abI (bs:=[true,true,true]) aj ?_
 exact aJ h (aq.fresh U)
def dN:du:=λds H Q=>∃a b d x y,ds=[.tup [.int a,.int b,.int d],.tup [.int x,.int y]]/\((fH a b d/\Bt 20000 x/\Bt 20000 y)/\Q (.tup [.int (rsX a b d x y),.int (Hi d y)]) H)
def Lw{a d:Int}(hg:fH a b d)(hi:Bt 20000 x)(hj:Bt 20000 y)(h:Q (.tup [.int (rsX a b d x y),.int (Hi d y)]) H):dN [.tup [.int a,.int b,.int d],.tup [.int x,.int y]] H Q:=⟨_,_,_,_,_,rfl,⟨⟨hg,hi,hj⟩,h⟩⟩
local macro_rules | `(tactic| walk_at "l3c")=>`(tactic| ((with_reducible show dN _ _ _);refine Lw (by assumption) (Bt.mono (by walk_at "l3b") (by decide)) (Bt.mono (by walk_at "l3b") (by decide)) ?_))
def yq:bC:=(dD (aM gR (aa (v3 1) (aa (aM dX (aa (v3 0) (aa (v3 1) ak))) ak))))
def HY:Rd ["grid", "cell"] dN yq:=by
 rintro ds H Q ⟨a,b,d,x,y,rfl,h⟩
 obtain⟨⟨hg,hi,J⟩,h⟩:=h
 (unfold yq;walk_at "l3t")
 walk_at "l3"
 rw[Gx,yW]
 exact aJ h aq.refl
def dq:du:=λds H Q=>∃xs,ds=[.tup xs]/\(∃S s0,(xs=S.map aO/\S[0]?=some s0/\S.length<=20/\One S/\bH S s0)/\∀t,cQ S s0 t->t<=80->Q (.tup [.tup [.int s0.1,.int s0.2],.str (aR (wd S s0 t))]) H)
def rW(h0:S[0]?=some s0)(hl:S.length<=20)(g:One S)(hcr:bH S s0)(h:∀t,cQ S s0 t->t<=80->Q (.tup [.tup [.int s0.1,.int s0.2],.str (aR (wd S s0 t))]) H):dq [.tup (S.map aO)] H Q:=⟨_,rfl,⟨S,s0,⟨rfl,h0,hl,g,hcr⟩,h⟩⟩
def lr:bC:=wh3 (or3 (dU (o3 jf (v3 3) (c3 (.str "")))) (dU (o3 eG (v3 4) (v3 2)))) (aV (st3 5 (Ve (v3 1) (v3 4)))
  (aV (au3 3 zH (v3 5))
  (st3 4 (aM gf (aa (v3 4) (aa (UL uA (v3 5)) ak))))))
def rP:bC:=(aV (st3 1 (aM bh (aa (v3 0) ak)))
  (aV (st3 2 (o3 aB (v3 0) (c3 (.int 0))))
  (aV (st3 3 (c3 (.str "")))
  (aV (st3 4 (v3 2))
  (aV lr
  (dD (cO (aa (v3 2) (aa (v3 3) ak)))))))))
def yZ:Rd ["piece", "letters", "start", "word", "corner", "letter"] dq rP:=by
 rintro ds H Q ⟨_,rfl,h⟩
 obtain⟨S,s0,⟨rfl,Z,hl,g,J⟩,h⟩:=h
 (unfold rP;walk_at "l3t")
 walk_at "l3"
 refine mQ hl g.dg λp zp hp U=>?_
 obtain⟨t,r⟩:=g.rnd J
 have ht:zp.length=t:=by have:=r.len J U.nd U.all;rw[ae] at this;exact this
 have Y:t<=80:=by have:=U.len;omega
 have h:=h t r Y
 walk_at "l3"
 refine Ek (Cm Z) ?_
 walk_at "l3"
 unfold lr
 refine WN (λσ H2=>H2=au H p (.dic (cu zp))/\∃i,i<=t/\∃l,σ=[some (.tup (S.map aO)),some (.ref p),some (.tup [.int s0.1,.int s0.2]),some (.str (aR (wd S s0 i))),some (.tup [.int (az S s0 i).1,.int (az S s0 i).2]),l]) (λσ _=>match σ with | [_,_,_,some (.str z),_,_]=>t-z.length | _=>0) ⟨rfl,0,by omega,_,rfl⟩ ?_
 rintro σ H2 ⟨rfl,i,hi,l,rfl⟩
 walk_at "l3"
 refine adh (bs:=[]) ?_
 walk_at "l3"
 by_cases i0:i=0
 ·refine zA (λ_=>?_) λz=>absurd (by subst i0;rfl) z
  have O:i<t:=by have:=r.pos;omega
  walk_at "l3"
  refine uV aj (U.at (aP J i)) ?_
  unfold ltD
  walk_at "l3"
  refine Jt (by rw[eQ,cG,aW];show i+1<=_;omega) ?_
  walk_at "l3"
  refine CK (vK _) ?_
  walk_at "l3"
  refine⟨⟨rfl,i+1,by omega,some (.str (jG (ltN (outD S (az S s0 i))))),?_⟩,?_⟩
  ·rw[show aR (wd S s0 i)++jG (ltN (outD S (az S s0 i)))=aR (wd S s0 (i+1)) from by rw[mG,←lq];rfl,pW dw]
   rfl
  ·show t-(aR (wd S s0 i)++jG (ltN (outD S (az S s0 i)))).length<t-(aR (wd S s0 i)).length
   rw[show aR (wd S s0 i)++jG (ltN (outD S (az S s0 i)))=aR (wd S s0 (i+1)) from by rw[mG,←lq];rfl,eQ,eQ,cG,cG]
   omega
 ·refine zA (λz=>absurd (congrArg D9 z) (by rw[cG];exact i0)) λ_=>?_
  walk_at "l3"
  refine Pz (λz=>?_) λz=>?_
  ·have O:i<t:=by
    rcases ky i t with y | y
    ·exact y
    ·exact absurd (by rw[show i=t from by omega];exact r.back) z
   walk_at "l3"
   refine uV aj (U.at (aP J i)) ?_
   unfold ltD
   walk_at "l3"
   refine Jt (by rw[eQ,cG,aW];show i+1<=_;omega) ?_
   walk_at "l3"
   refine CK (vK _) ?_
   walk_at "l3"
   refine⟨⟨rfl,i+1,by omega,some (.str (jG (ltN (outD S (az S s0 i))))),?_⟩,?_⟩
   ·rw[show aR (wd S s0 i)++jG (ltN (outD S (az S s0 i)))=aR (wd S s0 (i+1)) from by rw[mG,←lq];rfl,pW dw]
    rfl
   ·show t-(aR (wd S s0 i)++jG (ltN (outD S (az S s0 i)))).length<t-(aR (wd S s0 i)).length
    rw[show aR (wd S s0 i)++jG (ltN (outD S (az S s0 i)))=aR (wd S s0 (i+1)) from by rw[mG,←lq];rfl,eQ,eQ,cG,cG]
    omega
  ·have O:i=t:=by
    rcases ky i t with y | y
    ·exact absurd z (r.not i (by omega) y)
    ·omega
   subst O
   walk_at "l3"
   exact aJ h (aq.fresh hp)
def qX(W:List Lt):List (List Int):=if W.length%2=1 then [] else (wZ ((W.length:Int) / 2)).filter (KC W)
def uZ:cs∈wZ h↔Bc cs h:=by
 unfold wZ
 rw[ib,b9,b9]
 constructor
 ·rintro (⟨p,J,rfl⟩ | ⟨q,O,rfl⟩)
  ·have:=iC.mp J
   exact⟨.inl rfl,by simp;omega,by simp;omega⟩
  ·obtain⟨p,J,k1,k2,k3,k4⟩:=Di.mp O
   have:=iC.mp J
   exact⟨.inr rfl,by simp;omega,by simp;omega⟩
 ·intro c
  obtain⟨U,hs,hr⟩:=c
  rcases cs with _ | ⟨a,_ | ⟨b,_ | ⟨d,_ | _⟩⟩⟩ <;> simp at U
  ·have Y:=hr a (by simp)
   have Z:=hr b (by simp)
   simp only[iL,br,dc,or_false,forall_eq] at hs
   exact .inl ⟨(a,b),iC.mpr (by dsimp only;omega),rfl⟩
  ·have Y:=hr a (by simp)
   have Z:=hr b (by simp)
   have hd:=hr d (by simp)
   simp only[iL,br,dc,or_false,forall_eq_or_imp,forall_eq] at hs
   exact .inr ⟨(a,b,d),Di.mpr ⟨(a,b),iC.mpr (by dsimp only;omega),rfl,rfl,by dsimp only;omega,by dsimp only;omega⟩,rfl⟩
def cW:du:=λds H Q=>∃z,ds=[.str z]/\(∃W:List Lt,(z=aR W/\W.length<=42)/\∀p,H p=none->Q (.ref p) (au H p (.lst ((qX W).map cutD))))
def xH(hl:W.length<=42)(h:∀p,H p=none->Q (.ref p) (au H p (.lst ((qX W).map cutD)))):cW [.str (aR W)] H Q:=⟨_,rfl,⟨W,⟨rfl,hl⟩,h⟩⟩
def ni:bC:=(aV (nZ (dU (o3 jf (o3 dG (aM bj (aa (v3 0) ak)) (c3 (.int 2))) (c3 (.int 1)))) (dD (wL ak)) nU)
  (aV (st3 1 (o3 cF (aM bj (aa (v3 0) ak)) (c3 (.int 2))))
  (dD (oN (wH (o3 aH (aM bW (aa (v3 1) ak)) (aM b8 (aa (v3 1) ak)))) (jB 0) (dU (aM dH (aa (v3 1) (aa (v3 0) ak)))) (v3 0) ["cuts"] [(0, "word")]))))
def uW:Rd ["word", "half"] cW ni:=by
 rintro ds H Q ⟨_,rfl,h⟩
 obtain⟨W,⟨rfl,hl⟩,h⟩:=h
 (unfold ni;walk_at "l3t")
 walk_at "l3"
 refine qM (by omega) ?_
 walk_at "l3"
 unfold qX at h
 refine zA (λz=>?_) λz=>?_
 ·rw[if_pos (by omega)] at h
  walk_at "l3"
  intro p hp
  exact aJ (h p hp) aq.refl
 ·rw[if_neg (by omega)] at h
  walk_at "l3"
  refine qM (by omega) ?_
  walk_at "l3"
  have J:0<=(W.length:Int) / 2:=by omega
  have h1:(W.length:Int) / 2<=21:=by omega
  refine m5 J h1 λp1 U=>?_
  walk_at "l3"
  refine tL J h1 λp2 O=>?_
  walk_at "l3"
  refine JR (ao aj O) aj (by rw[ae,ae,aW];have:=pQ J h1;have:=KR J h1;omega) λp3 Y=>?_
  rw[aa6]
  walk_at "l3"
  refine Cp.acp (E:=cutD) cutD (KC W) (λH3 hs=>hs _ _ aj) (T4 J h1) ?_ ?_
  ·intro i cs hi R1 R0 H3 hs hy Z
   unfold cutD
   walk_at "l3"
   refine Bk (by omega) (uZ.mp (df hi)) ?_
   walk_at "l3"
   refine ifB (λz=>?_) λz=>?_
   ·walk_at "l3"
    exact hy z H3 aq.refl
   ·exact Z z H3 aq.refl
  ·intro p4 ac
   have hs:=((aq.fresh (o:=.lst ((jq ((W.length:Int) / 2)).map aO)) U).trans (aq.fresh (o:=.lst ((jx ((W.length:Int) / 2) (jq ((W.length:Int) / 2))).map U3)) O)).trans (aq.fresh (o:=.lst ((wZ ((W.length:Int) / 2)).map cutD)) Y)
   have h4:H p4=none:=fU hs ac
   exact aJ (h p4 h4) (dj (hs.upd h4) aj)
def U9{o:O3}(h:H a=some o):au H a o=H:=by
 funext q
 by_cases z:q=a
 ·rw[z,aj,h]
 ·rw[aG z]
def KZ{i:Int}(hW:fG (0,0) W=(0,0))(i0:0<=i)(h:i<W.length):jU ((path (0,0) W).map aO) i=some (.tup [.int (pw W i.toNat).1,.int (pw W i.toNat).2]):=by
 have J:=ql (0,0) W
 rw[jK i0 (by rw[J];omega)]
 have:=pC (0,0) W i.toNat
 rw[if_pos (by omega),aS (by rw[J];omega)] at this
 rw[Option.some.inj this,ack (by omega)];rfl
def eZ:du:=λds H Q=>∃z xs,ds=[.str z,.tup xs]/\(∃(W:List Lt) (cs:List Int),(z=aR W/\xs=cs.map D.int/\4<=W.length/\W.length<=240/\Bc cs ((W.length:Int) / 2)/\fG (0,0) W=(0,0))/\∀p,H p=none->Q (.ref p) (au H p (.lst ((jY cs ((W.length:Int) / 2)).map λs=>aO (sh W ((W.length:Int) / 2) s)))))
def Ei(h4:4<=W.length)(hl:W.length<=240)(hc:Bc cs ((W.length:Int) / 2))(hW:fG (0,0) W=(0,0))(h:∀p,H p=none->Q (.ref p) (au H p (.lst ((jY cs ((W.length:Int) / 2)).map λs=>aO (sh W ((W.length:Int) / 2) s))))):eZ [.str (aR W),.tup (cs.map D.int)] H Q:=⟨_,_,rfl,⟨W,cs,⟨rfl,rfl,h4,hl,hc,hW⟩,h⟩⟩
def lF:bC:=xf (wH (aM dY (aa (v3 0) (aa (v3 1) ak)))) (jB 5) (aV (st3 6 (o3 dG (o3 aH (o3 aB (v3 5) (c3 (.int 1))) (v3 3)) (aM bj (aa (v3 0) ak))))
  (O8 (m3 nO (v3 4) (aa (aM gR (aa (o3 aB (v3 2) (o3 aB (v3 5) (c3 (.int 0)))) (aa (o3 aB (v3 2) (v3 6)) ak))) ak))))
def su:bC:=(aV (st3 2 (aM cL (aa (cO (aa (c3 (.int 0)) (aa (c3 (.int 0)) ak))) (aa (v3 0) ak))))
  (aV (st3 3 (o3 cF (aM bj (aa (v3 0) ak)) (c3 (.int 2))))
  (aV (st3 4 (wL ak))
  (aV lF
  (dD (v3 4))))))
def An:Rd ["word", "cuts", "corners", "half", "shifts", "span", "fellow_end"] eZ su:=by
 rintro ds H Q ⟨_,_,rfl,h⟩
 obtain⟨W,cs,⟨rfl,rfl,h4,hl,U,Z⟩,h⟩:=h
 have ac:=U.len
 (unfold su;walk_at "l3t")
 walk_at "l3"
 refine pB W (by omega) λp hp=>?_
 walk_at "l3"
 refine qM (by omega) ?_
 walk_at "l3"
 intro p1 J
 walk_at "l3"
 unfold lF
 walk_at "l3"
 refine vM (by omega) U.ne (by omega) λp2 O=>?_
 generalize hL:(W.length:Int) / 2=L at *
 walk_at "l3"
 have Y:p≠p1:=ne3 aj J
 have q2:p≠p2:=ne3 (ao aj J) O
 have q3:p1≠p2:=ne3 aj O
 refine Lp.by (λi σ H2=>H2=au (au (au (au H p (.lst ((path (0,0) W).map aO))) p1 (.lst [])) p2 (.lst ((jY cs L).map aO))) p1 (.lst (((jY cs L).take i).map λs=>aO (sh W L s)))/\∃x y,σ=[some (.str (aR W)),some (.tup (cs.map D.int)),some (.ref p),some (.int L),some (.ref p1),x,y]) ⟨by rw[MR];exact (U9 (by rw[aG q3];exact aj)).symm,_,_,rfl⟩ (λi σ H2 _ z=>by rw[z.1,aG q3.symm];exact aj) ?_ ?_
 ·rintro i d σ H2 hd ⟨rfl,x,y,rfl⟩
  rw[ay,cv] at hd
  obtain⟨s,hs,rfl⟩:=hd
  obtain⟨b1,b2,b3,b4⟩:=U.jY s (df hs)
  unfold aO
  walk_at "l3"
  refine qM (by omega) ?_
  walk_at "l3"
  have m0:=kl (s.2+L) (b:=(W.length:Int)) (by omega)
  have m1:=iN (s.2+L) (b:=(W.length:Int)) (by omega)
  refine fV (by rw[aG Y,aG q2,aG Y];exact aj) (KZ Z b1 (by omega)) ?_
  walk_at "l3"
  refine fV (by rw[aG Y,aG q2,aG Y];exact aj) (KZ Z m0 m1) ?_
  walk_at "l3"
  refine Eb aj (jM (by rw[ae,fm,yX U.ne];omega)) ?_
  rw[cN]
  walk_at "l3"
  refine⟨?_,_,_,rfl⟩
  rw[gS,hs,de]
  have e:pw W ((s.2+L)%(W.length:Int)).toNat=pw W (s.2+L).toNat:=by
   have t:((s.2+L)%(W.length:Int)).toNat=(s.2+L).toNat%W.length:=by
    obtain⟨n,hn⟩:=fT (show 0<=s.2+L by omega)
    rw[hn];rfl
   unfold pw
   rw[t,Nat.mod_mod]
  rw[e];rfl
 ·rintro σ H2 ⟨rfl,x,y,rfl⟩
  rw[ae,fh (a8 _)]
  walk_at "l3"
  have h1:H p1=none:=fU (aq.fresh hp) J
  refine aJ (h p1 h1) (dj (λq o hq=>?_) aj)
  have z:q≠p1:=ne3 hq h1
  rw[aG z]
  exact ao (ao (ao hq hp) J) O
def Qg:∀e0 e1 e2 e3 e4 e5 e6 e7:Bool,
  ((if (e0 && !(e7&&e6))=true then 1 else 0)+(if (e2 && !(e1&&e0))=true then 1 else 0)+(if (e4 && !(e3&&e2))=true then 1 else 0)+(if (e6 && !(e5&&e4))=true then 1 else 0):Nat)<=1->(e0&&e2&&e4&&e6)=false ->
  ((!e0&&e2 && !e4&&e6)=false/\(e0 && !e2&&e4 && !e6)=false)/\((e0&&e2 && !e1)=false/\(e2&&e4 && !e3)=false/\(e4&&e6 && !e5)=false/\(e6&&e0 && !e7)=false):=by
 intro e0 e1 e2 e3 e4 e5 e6 e7
 cases e0 <;> cases e2 <;> cases e4 <;> cases e6 <;> cases e1 <;> cases e3 <;> cases e5 <;> cases e7 <;> decide
section
variable{S T:List Pt}{c:Pt}
def emp(S:List Pt)(q:Pt):Bool:=!decide (q∈S)
def kh(h:q∉S):emp S q=true:=by unfold emp;simpa using h
def pP(h:q∈S):emp S q=false:=by unfold emp;simpa using h
def abE(S:List Pt)(c:Pt):rn S c 4=(((if (emp S (nb c 0) && !(emp S (sZ c 3)&&emp S (nb c 3)))=true then 1 else 0)+(if (emp S (nb c 1) && !(emp S (sZ c 0)&&emp S (nb c 0)))=true then 1 else 0)+(if (emp S (nb c 2) && !(emp S (sZ c 1)&&emp S (nb c 1)))=true then 1 else 0)+(if (emp S (nb c 3) && !(emp S (sZ c 2)&&emp S (nb c 2)))=true then 1 else 0):Nat):Int):=by
 have J:nb c 0=(c.1+1,c.2):=by walk_at "pp"
 have O:nb c 1=(c.1,c.2+1):=by walk_at "pp"
 have q2:nb c 2=(c.1-1,c.2):=by walk_at "pp"
 have U:nb c 3=(c.1,c.2-1):=by walk_at "pp"
 have e:rn S c 4=0+(if (emp S (c.1+1,c.2) && !(emp S (sZ c 3)&&emp S (c.1,c.2-1)))=true then 1 else 0)+(if (emp S (c.1,c.2+1) && !(emp S (sZ c 0)&&emp S (c.1+1,c.2)))=true then 1 else 0)+(if (emp S (c.1-1,c.2) && !(emp S (sZ c 1)&&emp S (c.1,c.2+1)))=true then 1 else 0)+(if (emp S (c.1,c.2-1) && !(emp S (sZ c 2)&&emp S (c.1-1,c.2)))=true then 1 else 0):=rfl
 rw[e,J,O,q2,U,ko]
 split <;> split <;> split <;> split <;> rfl
def G9(hs:shuts S c=false)(hi:i<4)(ha:nb c i∈S):(¬(nb c 0∈S/\nb c 2∈S/\nb c 1∉S/\nb c 3∉S))/\(¬(nb c 1∈S/\nb c 3∈S/\nb c 0∉S/\nb c 2∉S))/\∀j,j<4->nb c j∉S->nb c (aN j)∉S->sZ c j∉S:=by
 have hr:rn S c 4<=1:=by unfold shuts at hs;simpa using hs
 rw[abE] at hr
 have ac:(emp S (nb c 0)&&emp S (nb c 1)&&emp S (nb c 2)&&emp S (nb c 3))=false:=by
  have:=pP ha
  rcases c4 hi with rfl | rfl | rfl | rfl <;> simp[this]
 obtain⟨⟨k1,k2⟩,d0,d1,d2,d3⟩:=Qg _ _ _ _ _ _ _ _ (by exact_mod_cast hr) ac
 have Y:¬(nb c 0∈S/\nb c 2∈S/\nb c 1∉S/\nb c 3∉S):=λ⟨z0,J,O,U⟩=>by rw[pP z0,pP J,kh O,kh U] at k1;cases k1
 have Z:¬(nb c 1∈S/\nb c 3∈S/\nb c 0∉S/\nb c 2∉S):=λ⟨O,U,z0,J⟩=>by rw[pP O,pP U,kh z0,kh J] at k2;cases k2
 have al:∀j,j<4->nb c j∉S->nb c (aN j)∉S->sZ c j∉S:=by
  intro j hj O J U
  rcases c4 hj with rfl | rfl | rfl | rfl <;> simp only[adB,ad4,acX,ada] at J
  ·rw[kh O,kh J,pP U] at d0;cases d0
  ·rw[kh O,kh J,pP U] at d1;cases d1
  ·rw[kh O,kh J,pP U] at d2;cases d2
  ·rw[kh O,kh J,pP U] at d3;cases d3
 exact⟨Y,Z,al⟩
end
def Oh{d:Pt}(hj:j<4)(h:c=(beside d).getD j (0,0)):∃i,i<4/\nb c i=d:=by
 subst h
 rcases c4 hj with rfl | rfl | rfl | rfl
 ·exact⟨2,by omega,by refine aI ?_ ?_ <;> simp[nb,stp,beside] <;> omega⟩
 ·exact⟨3,by omega,by refine aI ?_ ?_ <;> simp[nb,stp,beside] <;> omega⟩
 ·exact⟨0,by omega,by refine aI ?_ ?_ <;> simp[nb,stp,beside] <;> omega⟩
 ·exact⟨1,by omega,by refine aI ?_ ?_ <;> simp[nb,stp,beside] <;> omega⟩
structure Gn(ps:List Pt):Prop where
 one:One ps
 eul:FZ ps
 nd:ps.Nodup
 pos:1<=ps.length
def Gn.add{d:Pt}(h:Gn ps)(hd:d∈ps)(hj:j<4)(hc:c=(beside d).getD j (0,0))(hn:c∉ps)(hs:shuts ps c=false):Gn (ps++[c]):=by
 obtain⟨i,hi,e⟩:=Oh hj hc
 have U:nb c i∈ps:=by rw[e];exact hd
 obtain⟨J,O,Y⟩:=G9 hs hi U
 refine⟨Rz h.one (λx=>by rw[ib,bX]) hn J O Y hi U,XC h.nd hn h.one.dg (λz=>Dm h.one hn z.1 z.2.1 z.2.2.1 z.2.2.2) ?_ J O h.eul,?_,by rw[ck];have:=h.pos;omega⟩
 ·rcases c4 hi with rfl | rfl | rfl | rfl
  ·exact .inl U
  ·exact .inr (.inl U)
  ·exact .inr (.inr (.inl U))
  ·exact .inr (.inr (.inr U))
 ·rw[kD]
  exact⟨h.nd,by simp,λa Z b hb z=>by rw[bX.mp hb] at z;exact hn (z▸Z)⟩
def Ds{d:Pt}{k:Nat}(h:d.1.natAbs<=k/\d.2.natAbs<=k)(hj:j<4):((beside d).getD j (0,0)).1.natAbs<=k+1/\((beside d).getD j (0,0)).2.natAbs<=k+1:=by
 rcases c4 hj with rfl | rfl | rfl | rfl <;> (simp only[beside,List.getD_cons_zero,List.getD_cons_succ];omega)
def iB:du:=λds H Q=>∃xs at0 many,ds=[.fl xs,.int at0,.int many]/\((match intsOf xs with
  |some ns=>((0<=at0/\at0<=500)/\1<=many/\many<=20)/\∀ps p,H p=none->Gn ps->(ps.length:Int)<=many->(∀c∈ps,c.1.natAbs<=60/\c.2.natAbs<=60)->Q (.ref p) (au H p (.lst (ps.map aO)))
  |none=>False))
def Ol{at0 many:Int}(h1:0<=at0/\at0<=500)(h2:1<=many/\many<=20)(h:∀ps p,H p=none->Gn ps->(ps.length:Int)<=many->(∀c∈ps,c.1.natAbs<=60/\c.2.natAbs<=60)->Q (.ref p) (au H p (.lst (ps.map aO)))):iB [.fl (ns.map D.int),.int at0,.int many] H Q:=by
 refine⟨_,_,_,rfl,?_⟩
 simp only[gW];exact⟨⟨h1,h2⟩,h⟩
def pO:bC:=xf (Uz (o3 b7 (c3 (.int 3)) (v3 2))) (jB 4) (aV (st3 5 (aM lL (aa (v3 0) (aa (o3 aH (v3 1) (v3 4)) ak))))
  (aV (st3 6 (o3 aB (aM fY (aa (o3 aB (v3 3) (o3 dG (o3 cF (v3 5) (c3 (.int 4))) (aM bj (aa (v3 3) ak)))) ak)) (o3 dG (v3 5) (c3 (.int 4)))))
  (nZ (an3 (dU (o3 vJ (aM bj (aa (v3 3) ak)) (v3 2))) (an3 (dU (o3 (dB true) (v3 6) (v3 3))) (QJ (dU (aM dF (aa (v3 3) (aa (v3 6) ak))))))) (O8 (m3 nO (v3 3) (aa (v3 6) ak))) nU)))
def yK:bC:=(aV (st3 3 (wL (aa (cO (aa (c3 (.int 0)) (aa (c3 (.int 0)) ak))) ak)))
  (aV pO
  (dD (v3 3))))
def Gw:Rd ["_law_script", "_law_at", "_law_many", "_law_cells", "_law_k", "_law_cell", "_law_side"] iB yK:=by
 rintro ds H Q ⟨xs,a3,ac,rfl,h⟩
 split at h
 case h_2=>exact h.elim
 rename_i ns e
 have e':=dR e
 subst e'
 obtain⟨⟨⟨a0,a1⟩,m0,m1⟩,h⟩:=h
 (unfold yK;walk_at "l3t")
 walk_at "l3"
 intro p hp
 walk_at "l3"
 unfold pO
 walk_at "l3"
 refine Lp.jZ (λi σ H2=>aq H H2/\∃ps:List Pt,H2 p=some (.lst (ps.map aO))/\Gn ps/\(ps.length:Int)<=ac/\(∀c∈ps,c.1.natAbs<=i/\c.2.natAbs<=i)/\∃k c s,σ=[some (.fl (ns.map D.int)),some (.int a3),some (.int ac),some (.ref p),k,c,s]) ⟨aq.fresh hp,[(0,0)],aj,⟨Xl,V4,by simp,a8 _⟩,by show (1:Int)<=_;omega,by simp,_,_,_,rfl⟩ ?_ ?_
 ·rintro i σ H2 hi ⟨hs,ps,hH,gn,O,U,k,c,s,rfl⟩
  have a4:=gn.pos
  have a6:(i:Int)<3*ac:=by omega
  have J:∀c∈ps,c.1.natAbs<=i+1/\c.2.natAbs<=i+1:=λc hc=>by have:=U c hc;omega
  walk_at "l3"
  refine Wb (by omega) (by omega) λm=>?_
  have ap:(0:Int)<ps.length:=by omega
  have a5:(0:Int)<((ps.map aO).length:Int):=by rw[ae];exact ap
  have n0:0<=m / 4%(ps.length:Int):=kl _ (by omega)
  have n1:(m / 4%(ps.length:Int)).toNat<ps.length:=by have:=iN (m / 4) ap;omega
  walk_at "l3"
  rw[ae]
  refine fV hH (jK n0 n1) ?_
  have al:=nV n1
  generalize ps[(m / 4%(ps.length:Int)).toNat]=d at al
  obtain⟨dx,dy⟩:=d
  rw[show aO (dx,dy)=.tup [.int dx,.int dy] from rfl]
  walk_at "l3"
  refine Gk λp2 a2=>?_
  walk_at "l3"
  have q0:0<=m%4:=by omega
  have q1:(m%4).toNat<4:=by omega
  refine fV aj (jK (f:=aO) (xs:=beside (dx,dy)) q0 (by show _<4;exact q1)) ?_
  have ec:(beside (dx,dy))[(m%4).toNat]'(by show _<4;exact q1)=(beside (dx,dy)).getD (m%4).toNat (0,0):=sT (0,0)
  have am:=Ds (U _ al) q1
  rw[←ec] at am
  generalize (beside (dx,dy))[(m%4).toNat]'(by show _<4;exact q1)=side at ec am
  have Z:=hs.trans (aq.fresh (o:=.lst ((beside (dx,dy)).map aO)) a2)
  have Y:=ao (u:=.lst ((beside (dx,dy)).map aO)) hH a2
  revert Z Y
  generalize au H2 p2 _=H3
  intro Z Y
  obtain⟨sx,sy⟩:=side
  rw[show aO (sx,sy)=.tup [.int sx,.int sy] from rfl]
  walk_at "l3"
  refine zA (λc1=>?_) λc1=>?_
  ·walk_at "l3"
   refine Ad (JQ Y) ?_
   walk_at "l3"
   refine Pz (λc2=>?_) λc2=>?_
   ·walk_at "l3"
    refine Ar Y ?_
    walk_at "l3"
    refine ifB (λc3=>?_) λc3=>?_
    ·walk_at "l3"
     refine Eb Y (jM (by rw[ae];omega)) ?_
     walk_at "l3"
     refine⟨λb o hb=>?_,ps++[(sx,sy)],?_,gn.add al q1 ec c2 (by simpa using c3),by rw[ck];rw[ae] at c1;simp;omega,λx hx=>?_,_,_,_,rfl⟩
     ·rw[aG (ne3 hb hp)];exact Z b o hb
     ·rw[aj,de];rfl
     ·rcases ib.mp hx with hx | hx
      ·exact J x hx
      ·rw[bX.mp hx];exact am
    ·walk_at "l3"
     exact⟨Z,ps,Y,gn,O,J,_,_,_,rfl⟩
   ·refine xu rfl ?_
    walk_at "l3"
    exact⟨Z,ps,Y,gn,O,J,_,_,_,rfl⟩
  ·refine xu rfl ?_
   walk_at "l3"
   exact⟨Z,ps,Y,gn,O,J,_,_,_,rfl⟩
 ·rintro σ H2 ⟨hs,ps,hH,gn,O,U,k,c,s,rfl⟩
  walk_at "l3"
  exact aJ (h ps p hp gn O λc hc=>by have:=U c hc;omega) (dj hs hH)
def aU:du:=λds H Q=>∃a w1_ x y,ds=[.ref a,.tup [.bl w1_,.tup [.int x,.int y]]]/\(∃ps g,(H a=some (gh ps g)/\oK g/\Bt 20000 x/\Bt 20000 y)/\Q (.tup [.int (rst g (x,y)).1,.int (rst g (x,y)).2]) H)
def gw{b:Bool}(ha:H a=some (gh ps g))(hg:oK g)(hx:Bt 20000 x)(hy:Bt 20000 y)(h:Q (.tup [.int (rst g (x,y)).1,.int (rst g (x,y)).2]) H):aU [.ref a,.tup [.bl b,.tup [.int x,.int y]]] H Q:=⟨_,_,_,_,rfl,⟨ps,g,⟨ha,hg,hx,hy⟩,h⟩⟩
def gD:bC:=(dD (aM dN (aa (Z7 ["Laying"] "grid" (v3 0)) (aa (ym [("Laying",cj)] "spot" (v3 0) (aa (o3 aB (v3 1) (c3 (.int 0))) (aa (o3 aB (v3 1) (c3 (.int 1))) ak))) ak))))
def lV:Rd ["self", "thing"] aU gD:=by
 rintro ds H Q ⟨a,b,x,y,rfl,h⟩
 obtain⟨ps,g,⟨J,hg,hx,hy⟩,h⟩:=h
 obtain⟨O,U,Y⟩:=g
 have Z:fH O U Y:=hg
 unfold gh d9 at J
 (unfold gD;walk_at "l3t")
 walk_at "l3"
 exact aJ h aq.refl
def rh(d:Nat):Pt:=match d with
 |0=>(0,-1)
 |1=>(0,0)
 |2=>(-1,0)
 |_=>(-1,-1)
def ab0(h:d<4):jP.lookup (jG (ltN d))=some (.ktup [.int (rh d).1,.int (rh d).2]):=by
 rcases c4 h with rfl | rfl | rfl | rfl <;> rfl
def aar(h:d<4):(p.1+(rh d).1,p.2+(rh d).2)=eV p d:=by
 rcases c4 h with rfl | rfl | rfl | rfl
 ·exact aI (by show p.1+0=p.1;omega) (by show p.2 + -1=p.2-1;omega)
 ·exact aI (by show p.1+0=p.1;omega) (by show p.2+0=p.2;omega)
 ·exact aI (by show p.1 + -1=p.1-1;omega) (by show p.2+0=p.2;omega)
 ·exact aI (by show p.1 + -1=p.1-1;omega) (by show p.2 + -1=p.2-1;omega)
def Z6(S:List Pt)(p:Pt)(t:Nat):fC ((path p (wd S p t)).map aO) ((wd S p t).map λl=>D.str (jG l))=(bo t).map λi=>D.tup [aO (az S p i),.str (jG (ltN (outD S (az S p i))))]:=by
 unfold fC
 refine w8 λi=>?_
 rw[sj,ay,ay,pC,cG,ay]
 by_cases h:i<t
 ·rw[if_pos (by omega),JZ S p (by omega),qJ]
  unfold wd
  rw[ay,ly h]
  rfl
 ·rw[show (bo t)[i]?=none from gv (by rw[eI];omega)]
  rw[show (wd S p t)[i]?=none from gv (by rw[cG];omega)]
  cases (if i<=t then some (fG p ((wd S p t).take i)) else none) <;> rfl
def ju:du:=λds H Q=>∃xs,ds=[.tup xs]/\(∃S s0,(xs=S.map aO/\S[0]?=some s0/\S.length<=20/\One S/\bH S s0)/\∀t p,cQ S s0 t->t<=80->H p=none->Q (.ref p) (au H p (.lst ((YS S s0 t).map aO))))
def Py(h0:S[0]?=some s0)(hl:S.length<=20)(g:One S)(hcr:bH S s0)(h:∀t p,cQ S s0 t->t<=80->H p=none->Q (.ref p) (au H p (.lst ((YS S s0 t).map aO)))):ju [.tup (S.map aO)] H Q:=⟨_,rfl,⟨S,s0,⟨rfl,h0,hl,g,hcr⟩,h⟩⟩
def Ef:bC:=(aV (st3 1 (aM dq (aa (v3 0) ak)))
  (aV (st3 2 (aM cL (aa (o3 aB (v3 1) (c3 (.int 0))) (aa (o3 aB (v3 1) (c3 (.int 1))) ak))))
  (dD (oN (izt (v3 2) (o3 aB (v3 1) (c3 (.int 1)))) (Fy 0 1) jd (aM gf (aa (v3 0) (aa (UL jP (v3 1)) ak))) ["corner", "letter"] []))))
def Nj:Rd ["piece", "border", "corners"] ju Ef:=by
 rintro ds H Q ⟨_,rfl,h⟩
 obtain⟨S,s0,⟨rfl,Z,hl,g,O⟩,h⟩:=h
 (unfold Ef;walk_at "l3t")
 walk_at "l3"
 refine rW Z hl g O λt r ht=>?_
 walk_at "l3"
 refine pB _ (by rw[cG];omega) λp Y=>?_
 walk_at "l3"
 refine adz aj (ad2 _) ?_
 rw[GD,Z6]
 refine Cp.pA (λi=>eV (az S s0 i) (outD S (az S s0 i))) (λH2 hs=>hs _ _ aj) (by rw[eI];omega) ?_ ?_
 ·intro i a ha R H2 hs hR
  unfold aO
  walk_at "l3"
  refine CK (ab0 dw) ?_
  walk_at "l3"
  have e:=aar (p:=az S s0 a) (d:=outD S (az S s0 a)) dw
  rw[show (az S s0 a).1+(rh (outD S (az S s0 a))).1=(eV (az S s0 a) (outD S (az S s0 a))).1 from congrArg hV e,show (az S s0 a).2+(rh (outD S (az S s0 a))).2=(eV (az S s0 a) (outD S (az S s0 a))).2 from congrArg gE e]
  exact hR H2 aq.refl
 intro p2 U
 have J:H p2=none:=fU (aq.fresh Y) U
 exact aJ (h t p2 r ht J) (dj ((aq.fresh Y).upd J) aj)
def gU:du:=λds H Q=>∃z xs,ds=[.str z,.tup xs]/\(∃(W:List Lt) (cs:List Int),(z=aR W/\xs=cs.map D.int/\4<=W.length/\W.length<=240/\Bc cs ((W.length:Int) / 2)/\fG (0,0) W=(0,0)/\(∀p∈(jY cs ((W.length:Int) / 2)).map (sh W ((W.length:Int) / 2)),Bt 400 p.1/\Bt 400 p.2)/\Wide ((jY cs ((W.length:Int) / 2)).map (sh W ((W.length:Int) / 2))))/\∀e b d,jg ((jY cs ((W.length:Int) / 2)).map (sh W ((W.length:Int) / 2))) e b d->Q (.tup [.int e,.int b,.int d]) H)
def Oj(h4:4<=W.length)(hl:W.length<=240)(hc:Bc cs ((W.length:Int) / 2))(hW:fG (0,0) W=(0,0))(hb:∀p∈(jY cs ((W.length:Int) / 2)).map (sh W ((W.length:Int) / 2)),Bt 400 p.1/\Bt 400 p.2)(hw:Wide ((jY cs ((W.length:Int) / 2)).map (sh W ((W.length:Int) / 2))))(h:∀e b d,jg ((jY cs ((W.length:Int) / 2)).map (sh W ((W.length:Int) / 2))) e b d->Q (.tup [.int e,.int b,.int d]) H):gU [.str (aR W),.tup (cs.map D.int)] H Q:=⟨_,_,rfl,⟨W,cs,⟨rfl,rfl,h4,hl,hc,hW,hb,hw⟩,h⟩⟩
def yd:bC:=(dD (aM ig (aa (aM eZ (aa (v3 0) (aa (v3 1) ak))) ak)))
def GK:Rd ["word", "cuts"] gU yd:=by
 rintro ds H Q ⟨_,_,rfl,h⟩
 obtain⟨W,cs,⟨rfl,rfl,U,Y,J,Z,hb,hw⟩,h⟩:=h
 have O:((jY cs ((W.length:Int) / 2)).map (sh W ((W.length:Int) / 2))).length<=100:=by rw[ae,yX J.ne];have:=J.len;omega
 (unfold yd;walk_at "l3t")
 walk_at "l3"
 refine Ei U Y J Z λp hp=>?_
 walk_at "l3"
 refine NQ ((jY cs ((W.length:Int) / 2)).map (sh W ((W.length:Int) / 2))) (by rw[aj,dP];rfl) O hb hw λe b d G=>?_
 walk_at "l3"
 exact aJ (h e b d G) (aq.fresh hp)
def acK{zp:List (Pt×D)}{p1 p2:Int}(h:H a=some (.dic (cu zp)))(q:Q (.bl (eO zp (p1,p2)).isSome) H):dB false (.tup [.int p1,.int p2]) (.ref a) H Q:=by
 refine .inr ?_
 have e:keysOf [D.int p1,.int p2]=some (kP (p1,p2)):=rfl
 (delta KD;simp only[e,h,zK])
 exact q
def restV(g:Tr)(ps:List Pt):List (Pt×D):=ps.map λp=>(rst g p,oh p)
theorem jQ(g:Tr)(c:Pt):∀ps:List Pt,eO (restV g ps) c=(ps.find? λp=>decide (rst g p=c)).map oh
 |[]=>rfl
 |p::ps=>by
  have ih:=jQ g c ps
  unfold restV eO at ih ⊢
  rw[aE,mS,mS]
  by_cases z:rst g p=c
  ·simp[z]
  ·simp only[z,decide_false];exact ih
def yC(h:rst g p∉ps.map (rst g)):qO (restV g ps) (rst g p) (oh p)=restV g (ps++[p]):=by
 unfold qO
 have:((restV g ps).any λJ=>decide (J.1=rst g p))=false:=by
  rw[A1]
  intro J O
  obtain⟨q,U,rfl⟩:=b9.mp O
  simp only[decide_eq_true_eq]
  intro e
  exact h (b9.mpr ⟨q,U,e⟩)
 rw[this,if_neg (by simp)]
 unfold restV
 rw[de];rfl
def cJ:du:=λds H Q=>∃a,ds=[.ref a]/\(∃ps g,(H a=some (gh ps g)/\ps.length<=100/\oK g/\Small ps)/\(mj g ps->Q .non H)/\(∀(i j:Nat) (p q:Pt),i<j->ps[i]?=some p->ps[j]?=some q->rst g p=rst g q->Q (.tup [oh p,oh q]) H))
def wz(ha:H a=some (gh ps g))(hl:ps.length<=100)(hg:oK g)(hs:Small ps)(h1:mj g ps->Q .non H)(h2:∀(i j:Nat) (p q:Pt),i<j->ps[i]?=some p->ps[j]?=some q->rst g p=rst g q->Q (.tup [oh p,oh q]) H):cJ [.ref a] H Q:=⟨_,rfl,⟨ps,g,⟨ha,hl,hg,hs⟩,h1,h2⟩⟩
def iU:bC:=xf (wH (ym [("Laying",bJ)] "laid" (v3 0) ak)) (jB 2) (aV (st3 3 (ym [("Laying",aU)] "rest_under" (v3 0) (aa (v3 2) ak)))
  (aV (nZ (dU (o3 (dB false) (v3 3) (v3 1))) (dD (cO (aa (Ve (v3 1) (v3 3)) (aa (v3 2) ak)))) nU)
  (Uv (v3 1) (v3 3) (v3 2))))
def lK:bC:=(aV (st3 1 dn3)
  (aV iU
  (dD (c3 .non))))
def tU:Rd ["self", "things", "thing", "rest"] cJ lK:=by
 rintro ds H Q ⟨a,rfl,h⟩
 obtain⟨ps,g,⟨ha,hl,hg,hs⟩,h1,h2⟩:=h
 (unfold lK;walk_at "l3t")
 walk_at "l3"
 intro p U
 walk_at "l3"
 unfold iU
 walk_at "l3"
 refine iV (ao ha U) hl λp2 O=>?_
 walk_at "l3"
 have n2:p≠p2:=ne3 aj O
 have na:a≠p:=ne3 ha U
 have ac:a≠p2:=ne3 (ao ha U) O
 refine Lp.by (λi σ H2=>H2=au (au (au H p (.dic [])) p2 (.lst (ps.map oh))) p (.dic (cu (restV g (ps.take i))))/\((ps.take i).map (rst g)).Nodup/\∃x y,σ=[some (.ref a),some (.ref p),x,y]) ⟨?_,by simp,_,_,rfl⟩ (λi σ H2 _ z=>by rw[z.1,aG n2.symm];exact aj) ?_ ?_
 ·funext q
  by_cases z:q=p
  ·rw[z,aj,aG n2,aj];rfl
  ·rw[aG z]
 ·rintro i d σ H2 hd ⟨rfl,nd,x,y,rfl⟩
  rw[ay,cv] at hd
  obtain⟨c,hc,rfl⟩:=hd
  have hi:=(cE.mp hc).1
  have hb:=hs c (df hc)
  have hH:au (au (au H p (.dic [])) p2 (.lst (ps.map oh))) p (.dic (cu (restV g (ps.take i)))) a=some (gh ps g):=by
   rw[aG na,aG ac,aG na];exact ha
  unfold oh aO
  walk_at "l3"
  refine gw hH hg hb.1 hb.2 ?_
  walk_at "l3"
  refine acK aj ?_
  walk_at "l3"
  rw[show ((rst g (c.1,c.2)).1,(rst g (c.1,c.2)).2)=rst g c from rfl,jQ]
  have ht:ps.take (i+1)=ps.take i++[c]:=by rw[gS,hc];rfl
  cases hf:(ps.take i).find? λq=>decide (rst g q=rst g c) with
  |some q0=>
   refine ifY rfl ?_
   have hq:=yv hf
   simp only[decide_eq_true_eq] at hq
   have hm:=oz hf
   obtain⟨j,hj,Y⟩:=hZ hm
   rw[fm] at hj
   walk_at "l3"
   refine uV (zp:=restV g (ps.take i)) (d:=oh q0) aj (by rw[show ((rst g (c.1,c.2)).1,(rst g (c.1,c.2)).2)=rst g c from rfl,jQ,hf];rfl) ?_
   walk_at "l3"
   refine aJ (h2 j i q0 c (by omega) ?_ hc hq) ?_
   ·rw[List.getElem_take] at Y
    rw[aS (by omega),Y]
   ·exact λb o J=>by
     have nb:b≠p:=ne3 J U
     rw[aG nb]
     exact ao (ao J U) O
  |none=>
   refine xu rfl ?_
   have Z:rst g c∉(ps.take i).map (rst g):=by
    intro z
    obtain⟨q,hq,e⟩:=b9.mp z
    have:=rV.mp hf q hq
    simp[e] at this
   walk_at "l3"
   refine Rq (zp:=restV g (ps.take i)) (d:=oh c) aj (by unfold restV;rw[ae,fm];omega) ?_
   rw[cN,show ((rst g (c.1,c.2)).1,(rst g (c.1,c.2)).2)=rst g c from rfl,yC Z]
   walk_at "l3"
   refine⟨by rw[ht],?_,_,_,rfl⟩
   rw[ht,de,kD]
   refine⟨nd,by simp,?_⟩
   intro x hx y hy e
   simp only[aE,ny,bX] at hy
   exact Z (by rw[←hy,←e];exact hx)
 ·rintro σ H2 ⟨rfl,nd,x,y,rfl⟩
  rw[ae,fh (a8 _)] at nd
  walk_at "l3"
  refine aJ (h1 nd) ?_
  exact λb o J=>by
   have nb:b≠p:=ne3 J U
   rw[aG nb]
   exact ao (ao J U) O
def bc:du:=λds H Q=>∃a,ds=[.ref a]/\(∃ps g,(H a=some (gh ps g)/\ps.length<=100/\oK g/\Small ps)/\Q (.bl (decide (mj g ps))) H)
def iJ(ha:H a=some (gh ps g))(hl:ps.length<=100)(hg:oK g)(hs:Small ps)(h:Q (.bl (decide (mj g ps))) H):bc [.ref a] H Q:=⟨_,rfl,⟨ps,g,⟨ha,hl,hg,hs⟩,h⟩⟩
def Wa(hij:i<j)(hp:ps[i]?=some p)(hq:ps[j]?=some q)(e:rst g p=rst g q):¬mj g ps:=by
 intro h
 unfold mj at h
 have h1:(ps.map (rst g))[i]?=some (rst g p):=by rw[ay,hp];rfl
 have h2:(ps.map (rst g))[j]?=some (rst g p):=by rw[ay,hq,e];rfl
 obtain⟨U,J⟩:=cE.mp h1
 obtain⟨Y,O⟩:=cE.mp h2
 have:=(xl h).mp (J.trans O.symm)
 omega
def iR:bC:=(dD (o3 K3 (ym [("Laying",cJ)] "meets" (v3 0) ak) (c3 .non)))
def nP:Rd ["self"] bc iR:=by
 rintro ds H Q ⟨a,rfl,h⟩
 obtain⟨ps,g,⟨O,U,hg,hs⟩,h⟩:=h
 (unfold iR;walk_at "l3t")
 walk_at "l3"
 refine wz O U hg hs (λhd=>?_) λi j p q J Y Z e=>?_
 ·walk_at "l3"
  rw[decide_eq_true hd] at h
  exact aJ h aq.refl
 ·walk_at "l3"
  rw[decide_eq_false (Wa J Y Z e)] at h
  exact aJ h aq.refl
theorem vW{g:Tr}:∀(rs qs:List Pt),((qs++rs).map (rst g)).Nodup->dfold (cu (restV g qs)) (cu (restV g rs))=cu (restV g (qs++rs))
 |[],qs,_=>by rw[i4];rfl
 |r::rs,qs,h=>by
  have hn:rst g r∉qs.map (rst g):=by
   intro z
   rw[de,kD] at h
   exact h.2.2 _ z _ (by simp) rfl
  have J:=vW rs (qs++[r]) (by rw[Bn];exact h)
  rw[Bn] at J
  have e:dput (cu (restV g qs)) (kP (rst g r)) (oh r)=cu (restV g (qs++[r])):=by rw[Qa,yC hn]
  unfold dfold at J ⊢
  show (cu (restV g rs)).foldl _ (dput (cu (restV g qs)) (kP (rst g r)) (oh r))=_
  rw[e];exact J
theorem Dz(g:Tr):∀ps:List Pt,uG (ps.map λp=>D.tup [.tup [.int (rst g p).1,.int (rst g p).2],oh p])=some (cu (restV g ps))
 |[]=>rfl
 |p::ps=>by
  have e:keysOf [D.int (rst g p).1,.int (rst g p).2]=some (kP (rst g p)):=rfl
  rw[aE]
  simp only[uG,e,Dz g ps];rfl
def W7(ha:H a=some (.lst (ps.map λp=>D.tup [.tup [.int (rst g p).1,.int (rst g p).2],oh p])))(hl:ps.length<=1000)(hd:mj g ps)(q:∀p,H p=none->Q (.ref p) (au H p (.dic (cu (restV g ps))))):qT [.ref a] H Q:=by
 have e:dfold [] (cu (restV g ps))=cu (restV g ps):=vW ps [] hd
 (delta qT;simp only[ha,Dz,e])
 exact⟨by rw[ae];exact hl,q⟩
def bI:du:=λds H Q=>∃a x y,ds=[.ref a,.tup [.int x,.int y]]/\(∃ps g,(H a=some (gh ps g)/\ps.length<=100/\oK g/\Small ps/\mj g ps/\Bt 20000 x/\Bt 20000 y/\rst g (x,y)∈ps.map (rst g))/\∀own∈ps,rst g own=rst g (x,y)->Q (.tup [.bl false,aO own,.tup [.int (x-own.1),.int (y-own.2)]]) H)
def qd(ha:H a=some (gh ps g))(hl:ps.length<=100)(hg:oK g)(hs:Small ps)(hd:mj g ps)(hx:Bt 20000 x)(hy:Bt 20000 y)(hm:rst g (x,y)∈ps.map (rst g))(h:∀own∈ps,rst g own=rst g (x,y)->Q (.tup [.bl false,aO own,.tup [.int (x-own.1),.int (y-own.2)]]) H):bI [.ref a,.tup [.int x,.int y]] H Q:=⟨_,_,_,rfl,⟨ps,g,⟨ha,hl,hg,hs,hd,hx,hy,hm⟩,h⟩⟩
def iM:bC:=(aV (nZ (QJ (dU (ym [("Laying",bc)] "is_floor" (v3 0) ak))) ra3 nU)
  (aV (st3 2 (aM qT (aa (oN (wH (ym [("Laying",bJ)] "laid" (v3 0) ak)) (jB 0) jd (cO (aa (ym [("Laying",aU)] "rest_under" (v3 1) (aa (v3 0) ak)) (aa (v3 0) ak))) ["thing"] [(0, "self")]) ak)))
  (aV (st3 3 (Ve (v3 2) (aM dN (aa (Z7 ["Laying"] "grid" (v3 0)) (aa (v3 1) ak)))))
  (dD (cO (aa (o3 aB (v3 3) (c3 (.int 0))) (aa (o3 aB (v3 3) (c3 (.int 1))) (aa (aM gR (aa (v3 1) (aa (ym [("Laying",cj)] "spot" (v3 0) (aa (o3 aB (v3 3) (c3 (.int 0))) (aa (o3 aB (v3 3) (c3 (.int 1))) ak))) ak))) ak))))))))
def nW:Rd ["self", "cell", "things", "thing"] bI iM:=by
 rintro ds H Q ⟨a,x,y,rfl,h⟩
 obtain⟨ps,g,⟨Z,hl,hg,hs,hd,hx,hy,hm⟩,h⟩:=h
 (unfold iM;walk_at "l3t")
 walk_at "l3"
 refine iJ Z hl hg hs ?_
 walk_at "l3"
 rw[decide_eq_true hd]
 refine xu rfl ?_
 walk_at "l3"
 refine iV Z hl λp hp=>?_
 walk_at "l3"
 refine Cp.map (E:=oh) (as:=ps) (λq=>D.tup [.tup [.int (rst g q).1,.int (rst g q).2],oh q]) (λH2 O=>O _ _ aj) (by omega) ?_ ?_
 ·intro i c hc R H2 O hR
  have hb:=hs c (df hc)
  have ac:H2 a=some (gh ps g):=O _ _ (ao Z hp)
  unfold oh aO
  walk_at "l3"
  refine gw ac hg hb.1 hb.2 ?_
  walk_at "l3"
  exact hR H2 aq.refl
 intro p2 al
 walk_at "l3"
 refine W7 aj (by omega) hd λp3 am=>?_
 have s3:aq H (au (au (au H p (.lst (ps.map oh))) p2 (.lst (ps.map λq=>D.tup [.tup [.int (rst g q).1,.int (rst g q).2],oh q]))) p3 (.dic (cu (restV g ps)))):=(aq.fresh hp).trans ((aq.fresh al).trans (aq.fresh am))
 have h3:(au (au (au H p (.lst (ps.map oh))) p2 (.lst (ps.map λq=>D.tup [.tup [.int (rst g q).1,.int (rst g q).2],oh q]))) p3 (.dic (cu (restV g ps)))) p3=some (.dic (cu (restV g ps))):=aj
 generalize au (au (au H p (.lst (ps.map oh))) p2 (.lst (ps.map λq=>D.tup [.tup [.int (rst g q).1,.int (rst g q).2],oh q]))) p3 (.dic (cu (restV g ps)))=H3 at s3 h3 ⊢
 have ap:=s3 _ _ Z
 obtain⟨own,J⟩:∃own,ps.find? (λq=>decide (rst g q=rst g (x,y)))=some own:=by
  obtain⟨q,hq,e⟩:=b9.mp hm
  cases hf:ps.find? (λq=>decide (rst g q=rst g (x,y))) with
  |some o=>exact⟨o,rfl⟩
  |none=>
   have:=rV.mp hf q hq
   simp[e] at this
 have U:=yv J
 simp only[decide_eq_true_eq] at U
 have a0:=oz J
 have Y:=h own a0 U
 have a1:eO (restV g ps) (rst g (x,y))=some (oh own):=by rw[jQ,J];rfl
 obtain⟨ga,gb,gd⟩:=g
 have a3:fH ga gb gd:=hg
 have a2:=ap
 unfold gh d9 at a2
 walk_at "l3"
 refine uV h3 (d:=oh own) a1 ?_
 unfold oh aO
 walk_at "l3"
 exact aJ Y s3
def nQ(ps:List Pt):List Tr:=(dC ps.length ps.length).filter λg=>decide (mj g ps)
def fc:du:=λds H Q=>∃xs,ds=[.tup xs]/\(∃ps:List Pt,(xs=ps.map aO/\1<=ps.length/\ps.length<=30/\Small ps)/\∀p,H p=none->Q (.ref p) (au H p (.lst ((nQ ps).map d9))))
def Dj(h1:1<=ps.length)(h2:ps.length<=30)(hs:Small ps)(h:∀p,H p=none->Q (.ref p) (au H p (.lst ((nQ ps).map d9)))):fc [.tup (ps.map aO)] H Q:=⟨_,rfl,⟨ps,⟨rfl,h1,h2,hs⟩,h⟩⟩
def QH{c:Nat}:g∈dC c n->∃a b:Nat,1<=a/\a<=n/\c%a=0/\b<a/\g=((a:Int),(b:Int),((c / a:Nat):Int)):=by
 intro h
 unfold dC at h
 obtain⟨l,O,hg⟩:=rf.mp h
 obtain⟨i,hi,rfl⟩:=b9.mp O
 rw[b6] at hi
 unfold pJ at hg
 split at hg
 ·rename_i z
  obtain⟨b,J,rfl⟩:=b9.mp hg
  rw[b6] at J
  exact⟨i+1,b,by omega,by omega,z,J,rfl⟩
 ·exact absurd hg (by simp)
def K8{c:Nat}(h0:1<=c)(h1:c<=200)(h:g∈dC c c):oK g/\g.1*g.2.2=c:=by
 obtain⟨a,b,Z,O,U,hb,rfl⟩:=QH h
 have hd:0<c / a:=O0 O (by omega)
 have Y:c / a<=c:=LO c a
 have J:∀n:Nat,n<=200->Bt 4000 (n:Int):=λn hn=>Bt.mono (m:=8) (by unfold Bt;show n<2 ^ 8;omega) (by decide)
 refine⟨⟨by show (0:Int)<(a:Int);omega,by show (0:Int)<=(b:Int);omega,by show (b:Int)<(a:Int);omega,by show (0:Int)<((c / a:Nat):Int);omega,J a (by omega),J (c / a) (by omega)⟩,?_⟩
 show (a:Int)*((c / a:Nat):Int)=(c:Int)
 have:a*(c / a)=c:=E3 (C3 U)
 exact_mod_cast this
def zx{c:Nat}(h:c<=30):(dC c c).length<=1000:=by
 have J:∀n,n<=30->(dC c n).length<=31*n:=by
  intro n
  induction n with
  |zero=>intro _;simp[dC]
  |succ n ih=>
   intro O
   have:=ih (by omega)
   have:=Ci c (n+1)
   rw[dW,ck];omega
 have:=J c h
 omega
def sS:bC:=(dD (oN (wH (aM fQ (aa (aM bj (aa (v3 0) ak)) ak))) (jB 0) (dU (ym [("Laying",bc)] "is_floor" (mk3 "Laying" cU (aa (v3 1) (aa (v3 0) ak))) ak)) (v3 0) ["grid"] [(0, "piece")]))
def zV:Rd ["piece"] fc sS:=by
 rintro ds H Q ⟨_,rfl,h⟩
 obtain⟨ps,⟨rfl,h1,h2,hs⟩,h⟩:=h
 (unfold sS;walk_at "l3t")
 walk_at "l3"
 rw[ae]
 refine HF (by omega) (by omega) λp1 U=>?_
 rw[eP]
 walk_at "l3"
 have Y:(dC ps.length ps.length).length<=1000:=zx (by omega)
 refine Cp.abK (E:=d9) (as:=dC ps.length ps.length) d9 (λg=>decide (mj g ps)) (λH2 Z=>Z _ _ aj) Y ?_ ?_
 ·intro i g hg R1 R0 H2 Z hy ac
  obtain⟨gg,gn⟩:=K8 h1 (by omega) (df hg)
  walk_at "l3"
  intro x hx
  refine nj aj (by omega) gg gn ⟨rfl,?_⟩
  rw[cN]
  have J:au H2 x (gh ps g) x=some (gh ps g):=aj
  have O:aq H2 (au H2 x (gh ps g)):=aq.fresh hx
  generalize au H2 x (gh ps g)=H5 at J O ⊢
  refine Qe J rfl rfl ?_
  walk_at "l3"
  refine iJ J (by omega) gg hs ?_
  walk_at "l3"
  refine zA (λz=>?_) λz=>?_
  ·refine SQ rfl ?_
   exact hy (decide_eq_true z) _ O
  ·exact ac (decide_eq_false z) _ O
 ·intro p2 al
  have h3:H p2=none:=fU (aq.fresh U) al
  exact aJ (h p2 h3) (dj ((aq.fresh U).upd h3) aj)
def bY:du:=λds H Q=>∃xs y,ds=[.tup xs,y]/\(∃(S:List Pt) (g:Tr) (s0:Pt),(xs=S.map aO/\y=d9 g/\S[0]?=some s0/\S.length<=20/\One S/\bH S s0/\oK g/\V6 S/\g.1*g.2.2=S.length/\mj g S)/\∀t p,cQ S s0 t->t<=80->H p=none->Q (.ref p) (au H p (.lst ((Nx S g s0 t).map aO))))
def tQ(h0:S[0]?=some s0)(hl:S.length<=20)(ho:One S)(hc:bH S s0)(hg:oK g)(hs:V6 S)(hn:g.1*g.2.2=S.length)(hd:mj g S)(h:∀t p,cQ S s0 t->t<=80->H p=none->Q (.ref p) (au H p (.lst ((Nx S g s0 t).map aO)))):bY [.tup (S.map aO),d9 g] H Q:=⟨_,_,rfl,⟨S,g,s0,⟨rfl,rfl,h0,hl,ho,hc,hg,hs,hn,hd⟩,h⟩⟩
def kI:bC:=(aV (st3 2 (mk3 "Laying" cU (aa (v3 0) (aa (v3 1) ak))))
  (dD (oN (wH (aM ju (aa (v3 0) ak))) (jB 0) jd (o3 aB (ym [("Laying",bI)] "place_of" (v3 1) (aa (v3 0) ak)) (c3 (.int 2))) ["cell"] [(2, "laying")])))
def qW:Rd ["piece", "grid", "laying"] bY kI:=by
 rintro ds H Q ⟨xs,y,rfl,h⟩
 obtain⟨S,g,s0,⟨rfl,rfl,h0,hl,ho,hc,hg,hs,hn,hd⟩,h⟩:=h
 (unfold kI;walk_at "l3t")
 walk_at "l3"
 intro x hx
 refine nj aj (by omega) hg hn ⟨rfl,?_⟩
 rw[cN]
 have kx:au H x (gh S g) x=some (gh S g):=aj
 have Z:aq H (au H x (gh S g)):=aq.fresh hx
 generalize au H x (gh S g)=H2 at kx Z
 walk_at "l3"
 refine Py h0 hl ho hc λt p r ht hp=>?_
 have ac:=Z0 (t:=t) hs hc
 have al:(YS S s0 t).length<=1000:=by unfold YS;rw[ae,eI];omega
 walk_at "l3"
 refine Cp.pA (E:=aO) (shf g S) (λH3 O=>O _ _ aj) al ?_ ?_
 ·intro i q hq R H3 O hR
  have hb:=ac q (df hq)
  have J:=Fd hg hn hd q
  obtain⟨q1,q2⟩:=q
  have am:=O _ _ (ao kx hp)
  rw[show aO (q1,q2)=.tup [.int q1,.int q2] from rfl]
  walk_at "l3"
  refine qd am (by omega) hg hs.sm hd hb.1 hb.2 J λown U he=>?_
  have eo:=UW J hd U he
  subst eo
  walk_at "l3"
  exact hR H3 aq.refl
 intro p2 ap
 have Y:H p2=none:=fU (Z.trans (aq.fresh hp)) ap
 exact aJ (h t p2 r ht Y) (dj ((Z.trans (aq.fresh hp)).upd Y) aj)
def eE:du:=λds H Q=>∃xs y,ds=[.tup xs,y]/\(∃(S:List Pt) (g:Tr) (s0:Pt),(xs=S.map aO/\y=d9 g/\S[0]?=some s0/\S.length<=20/\One S/\bH S s0/\oK g/\V6 S/\g.1*g.2.2=S.length/\mj g S)/\∀t,cQ S s0 t->t<=80->Q (.tup ((ph (Nx S g s0 t)).map λk:Nat=>D.int (0+(k:Int)))) H)
def CQ(h0:S[0]?=some s0)(hl:S.length<=20)(ho:One S)(hc:bH S s0)(hg:oK g)(hs:V6 S)(hn:g.1*g.2.2=S.length)(hd:mj g S)(h:∀t,cQ S s0 t->t<=80->Q (.tup ((ph (Nx S g s0 t)).map λk:Nat=>D.int (0+(k:Int)))) H):eE [.tup (S.map aO),d9 g] H Q:=⟨_,_,rfl,⟨S,g,s0,⟨rfl,rfl,h0,hl,ho,hc,hg,hs,hn,hd⟩,h⟩⟩
def sX:bC:=(aV (st3 2 (aM bY (aa (v3 0) (aa (v3 1) ak))))
  (dD (aM gK (aa (oN (Uz (o3 cF (aM bj (aa (v3 2) ak)) (c3 (.int 2)))) (jB 0) (dU (o3 eG (o3 aB (v3 1) (v3 0)) (o3 aB (v3 1) (o3 bF (v3 0) (c3 (.int 1)))))) (v3 0) ["place"] [(2, "shifts")]) ak))))
def Bl:Rd ["piece", "grid", "shifts"] eE sX:=by
 rintro ds H Q ⟨xs,y,rfl,h⟩
 obtain⟨S,g,s0,⟨rfl,rfl,h0,hl,ho,hc,hg,hs,hn,hd⟩,h⟩:=h
 (unfold sX;walk_at "l3t")
 walk_at "l3"
 refine tQ h0 hl ho hc hg hs hn hd λt p r ht hp=>?_
 have J:=Ju S g s0 t
 generalize hL:Nx S g s0 t=L at J
 walk_at "l3"
 rw[ae,show ((L.length:Int) / 2).toNat=L.length / 2 from by omega]
 refine Cp.abK (as:=bo (L.length / 2)) (E:=λi:Nat=>D.int (0+(i:Int))) (λi:Nat=>D.int (0+(i:Int))) (chB L) (λ_ _=>trivial) (by rw[eI];omega) ?_ ?_
 ·intro i x hx R1 R0 H2 O hy U
  have ac:x<L.length / 2:=b6.mp (df hx)
  have Z:=O _ _ (aj (H:=H) (a:=p) (o:=.lst (L.map aO)))
  walk_at "l3"
  refine fV Z (Yp (by omega)) ?_
  walk_at "l3"
  refine fV Z (acd (by omega)) ?_
  walk_at "l3"
  refine Pz (λz=>?_) λz=>?_
  ·walk_at "l3"
   exact hy (by unfold chB;rw[decide_eq_false λe=>z (by rw[e])];rfl) H2 aq.refl
  ·exact U (by unfold chB;rw[decide_eq_true (aI (congrArg hV z) (congrArg gE z))];rfl) H2 aq.refl
 intro p2 Y
 walk_at "l3"
 exact aJ (by have:=h t r ht;rw[hL] at this;exact this) ((aq.fresh hp).trans (aq.fresh Y))
def zG:du:=λds H Q=>∃xs,ds=[.fl xs]/\((match intsOf xs with
  |some ns=>ns.length<=63/\∀H':aA,Q (.bl true) H'
  |none=>False))
def Ox(h:ns.length<=63):zG [.fl (ns.map D.int)] (λ_=>none) (λd _=>d=.bl true):=by
 refine⟨_,rfl,?_⟩
 simp only[gW]
 exact⟨h,λ_=>trivial⟩
def wdD(S:List Pt)(q:Pt)(i:Nat):D:=w6 (ltN (outD S (az S q i)))
def Aj(h:i<t):(Nx S g q t).getD i (0,0)=cY g S (az S q i):=by
 unfold Nx YS
 rw[bP,ay,ay,ly h];rfl
def Fl.nbr(F:Fl S g)(h:Bq S q g i v):cY g S (az S q i)=v:=F.Ss h.1 h.2
def Y9(h:d<4):ltN (od d)=Wq (ltN d):=by rcases c4 h with rfl | rfl | rfl | rfl <;> rfl
def Va(r:cQ S q t)(h:i<t+t):az S q (i%t)=az S q i:=by
 rcases ky i t with z | z
 ·rw[xD z]
 ·rw[Nat.mod_eq_sub_mod z,xD (by omega)]
  have:=bD (S:=S) (p:=q) t (i-t)
  rw[r.back,show t+(i-t)=i from by omega] at this
  exact this.symm
def cQ.uniq{u:Nat}(r:cQ S p t)(r':cQ S p u):u=t:=by
 rcases gX t u with z | z | z
 ·exact absurd r.back (r'.not t r.pos z)
 ·exact z.symm
 ·exact absurd r'.back (r.not u r'.pos z)
def N8{gs:List Pt}(s:Pt)(g:One gs)(hn:1<=gs.length):∃s0,((bT gs).map λq=>(q.1+s.1,q.2+s.2))[0]?=some s0/\One ((bT gs).map λq=>(q.1+s.1,q.2+s.2))/\bH ((bT gs).map λq=>(q.1+s.1,q.2+s.2)) s0:=by
 have o:=(g.congr λx=>((dO gs).mem_iff (a:=x)).symm).mv s
 have hs:=zR gs
 have O:=my gs
 cases h:bT gs with
 |nil=>rw[h] at O;simp at O;omega
 |cons m r=>
  rw[h] at o hs
  refine⟨(m.1+s.1,m.2+s.2),rfl,o,0,by omega,eA,λz=>?_⟩
  rw[b9] at z
  obtain⟨q,J,e⟩:=z
  have U:=congrArg gE e
  simp only[W2] at U
  have le:m.2<=q.2:=by
   rcases br.mp J with rfl | J
   ·exact Bz _
   ·have:=(iL.mp hs).1 q J
    unfold Kq at this
    rw[rA] at this
    omega
  omega
def S6(c:Int):Bt 200 (far c):=by
 have O:(10:Int) ^ 40=10000000000000000000000000000000000000000:=by decide
 have J:(2:Nat) ^ 200=1606938044258990275541962092341162602522202993782792835301376:=by decide
 unfold far
 split
 ·unfold Bt;rw[J];omega
 ·rw[O];unfold Bt;rw[J];omega
def FZ.moved{T:List Pt}(E:FZ S)(hp:(S.map (fO v)).Perm T)(hm:∀c:Pt,fO v c∈T↔c∈S):FZ T:=by
 have J:∀ {x c:Pt},x.1=c.1+v.1->x.2=c.2+v.2->decide (x∈T)=decide (c∈S):=λ{x c} h1 h2=>by
  have:x=fO v c:=aI h1 h2
  rw[this];exact decide_eq_decide.mpr (hm c)
 have U:(T.map λc=>b1 (cH T c)).sum=(S.map λc=>b1 (cH S c)).sum:=by
  rw[←IV (hp.map λc=>b1 (cH T c)),dP]
  congr 1
  refine d6 λc _=>?_
  show b1 (cH T (fO v c))=_
  unfold cH
  rw[J (x:=bM (fO v c) 0) (c:=bM c 0) rfl rfl,J (x:=bM (fO v c) 1) (c:=bM c 1) (by show c.1+v.1-1=c.1-1+v.1;omega) rfl,J (x:=bM (fO v c) 2) (c:=bM c 2) (by show c.1+v.1-1=c.1-1+v.1;omega) (by show c.2+v.2-1=c.2-1+v.2;omega),J (x:=bM (fO v c) 3) (c:=bM c 3) rfl (by show c.2+v.2-1=c.2-1+v.2;omega)]
 have Y:(T.map (wU T)).sum=(S.map (wU S)).sum:=by
  rw[←IV (hp.map (wU T)),dP]
  congr 1
  refine d6 λc _=>?_
  show wU T (fO v c)=_
  unfold wU
  rw[J (x:=((fO v c).1+1,(fO v c).2)) (c:=(c.1+1,c.2)) (by show c.1+v.1+1=c.1+1+v.1;omega) rfl,J (x:=((fO v c).1,(fO v c).2+1)) (c:=(c.1,c.2+1)) rfl (by show c.2+v.2+1=c.2+1+v.2;omega),J (x:=((fO v c).1-1,(fO v c).2)) (c:=(c.1-1,c.2)) (by show c.1+v.1-1=c.1-1+v.1;omega) rfl,J (x:=((fO v c).1,(fO v c).2-1)) (c:=(c.1,c.2-1)) rfl (by show c.2+v.2-1=c.2-1+v.2;omega)]
 have O:=hp.length_eq
 rw[ae] at O
 unfold FZ inI at *
 omega
def Fl.ph(S:List Pt){h:Nat}{cs:List Nat}(F:Fl S g)(hq:bH S q)(r:cQ S q (h+h))(p:tV (az S q) (λi=>outD S (az S q i)) h cs vs)(hv:∀v∈vs,bV (g.1,0) (g.2.1,g.2.2) v):Law.ph (Nx S g q (h+h))=cs:=by
 have ne:sm (λi=>(az S q i).1*(stp (outD S (az S q i))).2) 0 (h+h)≠0:=by
  rw[qp r F.dg F.nd hq]
  obtain⟨k,Z⟩:=hq
  have:=fF Z.l
  omega
 have c1:=p.cuts hq r F.hg F.dst ne hv
 have J:=Ju S g q (h+h)
 have Oe:(Law.ph (Nx S g q (h+h))).Pairwise (· < ·):=ll.filter _
 have nb:∀i v,Bq S q g i v↔v=cY g S (az S q i):=λi v=>⟨λz=>(F.nbr z).symm,λz=>by rw[z];exact F.own _⟩
 have hm:∀i,i∈Law.ph (Nx S g q (h+h))↔i∈cs:=λi=>by
  rw[c1]
  unfold Law.ph
  rw[dn,b6,J,show (h+h) / 2=h from by omega]
  constructor
  ·rintro⟨hi,O⟩
   refine⟨hi,λ⟨v,Y,U⟩=>?_⟩
   rw[nb] at Y U
   unfold chB at O
   rw[J,Aj (by omega),Aj (by split <;> omega)] at O
   have:az S q (i+(h+h)-1)=az S q (if i=0 then h+h-1 else i-1):=by
    split
    ·rename_i z;subst z;rw[iP]
    ·rw[show i+(h+h)-1=(i-1)+(h+h) from by omega,(iW r).per]
   rw[this] at U
   rw[←Y,←U] at O
   simp at O
  ·rintro⟨hi,O⟩
   refine⟨hi,?_⟩
   unfold chB
   rw[J,Aj (by omega),Aj (by split <;> omega),IE,decide_eq_false_iff_not]
   intro z
   refine O ⟨cY g S (az S q i),(nb _ _).mpr rfl,(nb _ _).mpr ?_⟩
   have:az S q (i+(h+h)-1)=az S q (if i=0 then h+h-1 else i-1):=by
    split
    ·rename_i z;subst z;rw[iP]
    ·rw[show i+(h+h)-1=(i-1)+(h+h) from by omega,(iW r).per]
   rw[this];exact z
 have hp:(Law.ph (Nx S g q (h+h))).Perm cs:=(eS (Oe.imp λh=>cx h) (p.Oe.imp λh=>cx h)).mpr hm
 exact hp.eq_of_pairwise (le:=(·<=·)) (λa b _ _ h1 h2=>pb h1 h2) (Oe.imp λh=>kn h) (p.Oe.imp λh=>kn h)
def TX(h:j<l.length):(bk l)[j]?=(l[l.length-1-j]?).map Wq:=by
 unfold bk
 rw[DJ (by rw[ae];exact h),ae,ay]
def rK{c p:Int}(h:(j:Int)<p-c):(sub l c p)[j]?=l[c.toNat+j]?:=by
 unfold sub
 rw[GB,if_pos (by omega),AM]
section
variable{S:List Pt}{q:Pt}{h:Nat}
def Qv(hi:i<t):(wd S q t)[i]?=some (ltN (outD S (az S q i))):=by
 unfold wd
 rw[ay,ly hi];rfl
def yg(hb:az S q t=q)(hi:i<t+t):(wd S q t++wd S q t)[i]?=some (ltN (outD S (az S q i))):=by
 have J:=cG S q t
 by_cases z:i<t
 ·rw[gI (by omega),Qv z]
 ·rw[fI (by omega),J,Qv (by omega)]
  have:=bD (S:=S) (p:=q) t (i-t)
  rw[hb,show t+(i-t)=i from by omega] at this
  rw[this]
def Vy{e:Nat}(hd:d<4)(he:e<4)(k:ltN e=Wq (ltN d)):e=od d:=by
 rcases c4 hd with rfl | rfl | rfl | rfl <;> rcases c4 he with rfl | rfl | rfl | rfl <;> first | rfl | (exact absurd k (by decide))
def Yt(r:cQ S q (h+h))(i:Nat):pw (wd S q (h+h)) i=bz (az S q i) q:=by
 have U:=r.pos
 have Y:=cG S q (h+h)
 have Z:=rX i U
 have J:=qJ S q (i%(h+h))
 rw[Ej] at J
 have per:∀k m,az S q (m+k*(h+h))=az S q m:=by
  intro k
  induction k with
  |zero=>intro m;rw[N9];rfl
  |succ k ih=>intro m;rw[show m+(k+1)*(h+h)=m+k*(h+h)+(h+h) from by rw[OX];omega,(iW r).per,ih]
 have O:=per (i / (h+h)) (i%(h+h))
 rw[show i%(h+h)+i / (h+h)*(h+h)=i from by rw[C0];exact Nat.mod_add_div i (h+h)] at O
 unfold pw
 rw[Y,JZ S q (kn Z),O,←J]
 unfold bz HX
 exact aI (by dsimp only;omega) (by dsimp only;omega)
def Pj(r:cQ S q (h+h))(c p:Int):sh (wd S q (h+h)) (h:Int) (c,p)=bz (az S q c.toNat) (az S q (p+h).toNat):=by
 unfold sh
 dsimp only
 rw[Yt r,Yt r]
 unfold bz
 exact aI (by dsimp only;omega) (by dsimp only;omega)
def dh:((wd S q (h+h)).length:Int) / 2=h:=by rw[cG];omega
theorem Br(r:cQ S q (h+h)){c p:Int}(c0:0<=c)(hcp:c<p)(hle:p<=c+h)(hlt:c<h)(hb:uT (wd S q (h+h)) (c,p)=true):Sp (az S q) (λi=>outD S (az S q i)) h c.toNat p.toNat (sh (wd S q (h+h)) (h:Int) (c,p)):=by
 obtain⟨c,rfl⟩:=fT c0
 obtain⟨m,rfl⟩:∃m:Nat,p=((c+m:Nat):Int):=⟨(p-c).toNat,by clear hb;omega⟩
 replace hcp:0<m:=by omega
 replace hle:m<=h:=by omega
 replace hlt:c<h:=by omega
 rw[eP,eP]
 have hl:=cG S q (h+h)
 unfold uT at hb
 rw[decide_eq_true_iff,dh] at hb
 dsimp only at hb
 have dir:∀k,k<c+m-c->outD S (az S q (c+m+h-1-k))=od (outD S (az S q (c+k))):=by
  intro k hk
  obtain⟨j,rfl⟩:∃j,m=k+1+j:=⟨m-k-1,by clear hb;omega⟩
  have l1:(sub (wd S q (h+h)++wd S q (h+h)) c ((c+(k+1+j):Nat):Int)).length=k+1+j:=by rw[lA c0 (by omega) (by rw[ck,hl];omega)];omega
  have e:=congrArg (λl:List Lt=>l[j]?) hb
  rw[TX (by rw[l1];omega),l1,show k+1+j-1-j=k by omega,rK (by omega),rK (by omega),show ((c:Int)+(h:Int)).toNat=c+h from rfl,eP,yg r.back (by omega),yg r.back (by omega),oQ] at e
  have e':=Option.some.inj e
  rw[show c+(k+1+j)+h-1-k=c+h+j from by clear hb e e';omega]
  exact Vy dw dw e'
 clear hb
 have w:=iW r
 have pos:∀k,k<=m->az S q (c+m+h-k)=bz (az S q (c+k)) (sh (wd S q (h+h)) (h:Int) ((c:Int),((c+m:Nat):Int))):=by
  intro k
  induction k with
  |zero=>
   intro _
   rw[Pj r,show (((c+m:Nat):Int)+(h:Int)).toNat=c+m+h from rfl,eP,tN,nB]
   unfold bz
   exact aI (by dsimp only;grind) (by dsimp only;grind)
  |succ k ih=>
   intro hk
   have e1:=ih (by omega)
   have U:=w.go (c+m+h-(k+1))
   have e3:=w.go (c+k)
   rw[show c+m+h-(k+1)+1=c+m+h-k from by omega,e1,show c+m+h-(k+1)=c+m+h-1-k from by omega,dir k (by omega)] at U
   rw[show c+m+h-(k+1)=c+m+h-1-k from by omega,←BU,e3]
   have hd:=dw (S:=S) (p:=az S q (c+k))
   generalize sh (wd S q (h+h)) (h:Int) ((c:Int),((c+m:Nat):Int))=v at *
   generalize outD S (az S q (c+k))=d at *
   generalize az S q (c+k)=A at *
   generalize az S q (c+m+h-1-k)=B at *
   have J:=congrArg hV U
   have O:=congrArg gE U
   rcases c4 hd with rfl | rfl | rfl | rfl
   ·have Y:A.1-v.1=B.1 + -1:=J
    have Z:A.2-v.2=B.2+0:=O
    exact aI (by show B.1=A.1+1-v.1;grind) (by show B.2=A.2+0-v.2;omega)
   ·have Y:A.1-v.1=B.1+0:=J
    have Z:A.2-v.2=B.2 + -1:=O
    exact aI (by show B.1=A.1+0-v.1;omega) (by show B.2=A.2+1-v.2;grind)
   ·have Y:A.1-v.1=B.1+1:=J
    have Z:A.2-v.2=B.2+0:=O
    exact aI (by show B.1=A.1 + -1-v.1;grind) (by show B.2=A.2+0-v.2;omega)
   ·have Y:A.1-v.1=B.1+0:=J
    have Z:A.2-v.2=B.2+1:=O
    exact aI (by show B.1=A.1+0-v.1;omega) (by show B.2=A.2 + -1-v.2;grind)
 refine⟨by omega,by omega,λk hk=>?_,dir⟩
 have:=pos (k+1) (by omega)
 rw[show c+m+h-(k+1)=c+m+h-1-k from by omega,←BU] at this
 exact this
theorem abb(r:cQ S q (h+h))(hc:Bc cs h)(hp:KC (wd S q (h+h)) cs=true):tV (az S q) (λi=>outD S (az S q i)) h (cs.map tP) ((jY cs h).map (sh (wd S q (h+h)) h)):=by
 obtain⟨hl,hs,hr⟩:=hc
 unfold KC at hp
 rw[dh,kQ] at hp
 rcases cs with _ | ⟨a,_ | ⟨b,_ | ⟨d,_ | _⟩⟩⟩ <;> simp at hl
 ·have J:=hr a (by simp)
  have O:=hr b (by simp)
  simp only[iL,br,dc,or_false,forall_eq] at hs
  simp only[jY,ends,kB,la,ku,lT,nh,g7,ki,br,dc,or_false,forall_eq_or_imp,forall_eq,aE,ny] at hp ⊢
  have Y:=Br r J.1 hs.1 (by omega) J.2 hp.1
  have U:=Br r O.1 (by omega) (by omega) O.2 hp.2
  rw[show (a+(h:Int)).toNat=a.toNat+h from by grind] at U
  exact .two (by omega) Y U
 ·have J:=hr a (by simp)
  have O:=hr b (by simp)
  have hd:=hr d (by simp)
  simp only[iL,br,dc,or_false,forall_eq_or_imp,forall_eq] at hs
  simp only[jY,ends,kB,la,ku,lT,nh,g7,ki,br,dc,or_false,forall_eq_or_imp,forall_eq,aE,ny] at hp ⊢
  have Y:=Br r J.1 hs.1.1 (by omega) J.2 hp.1
  have U:=Br r O.1 hs.2.1 (by omega) O.2 hp.2.1
  have Z:=Br r hd.1 (by omega) (by omega) hd.2 hp.2.2
  rw[show (a+(h:Int)).toNat=a.toNat+h from by omega] at Z
  exact .thr (by omega) Y U Z
end
theorem Jh(h:Int):∀n:Nat,(uN h n).Nodup
 |0=>oa
 |n+1=>by
  unfold uN
  rw[kD]
  refine⟨Jh h n,?_,λp hp p' hq z=>?_⟩
  ·unfold wN
   rw[ax,dS]
   exact (ax.mp ml).imp λ{i j} hne z=>hne (by have:=(Prod.mk.inj z).2;omega)
  ·have h1:=iC.mp hp
   have h2:=By.mp hq
   rw[z] at h1
   omega
def WX(h:Int)(hp:ps.Nodup):(jx h ps).Nodup:=by
 unfold jx
 rw[ax,D5]
 refine⟨λl O=>?_,?_⟩
 ·obtain⟨p,_,rfl⟩:=b9.mp O
  unfold wg
  rw[dS]
  exact (ax.mp ml).imp λ{i j} J z=>J (by have:=(Prod.mk.inj (Prod.mk.inj z).2).2;omega)
 ·rw[dS]
  refine (ax.mp hp).imp λ{p Z} J u U v Y z=>J ?_
  obtain⟨_,_,rfl⟩:=b9.mp U
  obtain⟨_,_,rfl⟩:=b9.mp Y
  exact aI (Prod.mk.inj z).1 (Prod.mk.inj (Prod.mk.inj z).2).1
def U5(h:Int):(wZ h).Nodup:=by
 unfold wZ
 rw[kD]
 have n2:(jq h).Nodup:=Jh h _
 refine⟨?_,?_,λa O b U z=>?_⟩
 ·rw[ax,dS]
  exact (ax.mp n2).imp λ{p Y} J z=>J (by simp at z;exact aI z.1 z.2)
 ·rw[ax,dS]
  exact (ax.mp (WX h n2)).imp λ{p Y} J z=>J (by simp at z;exact aI z.1 (aI z.2.1 z.2.2))
 ·obtain⟨_,_,rfl⟩:=b9.mp O
  obtain⟨_,_,rfl⟩:=b9.mp U
  simp at z
def Sw(W:List Lt):(qX W).Nodup:=by
 unfold qX
 split
 ·exact oa
 ·exact (U5 _).filter _
def K7(h:cs∈qX W):W.length%2=0/\Bc cs ((W.length:Int) / 2)/\KC W cs=true:=by
 unfold qX at h
 split at h
 ·simp at h
 ·have:=dn.mp h
  exact⟨by omega,uZ.mp this.1,this.2⟩
theorem zQ:∀gs:List Tr,gk (mO 4) (gs.map d9)=some (gs.map λg=>kr [.int g.1,.int g.2.1,.int g.2.2])
 |[]=>rfl
 |g::gs=>by
  have e:mO 4 (d9 g)=some (.tuple [.int g.1,.int g.2.1,.int g.2.2]):=rfl
  simp only[aE,gk,e,zQ gs]
variable{gs:List Tr}
def abP{l:aT}{a d:Int}(hl:H l=some (.lst (gs.map d9)))(hm:(a,b,d)∉gs)(q:Q (.bl false) H):dB false (.tup [.int a,.int b,.int d]) (.ref l) H Q:=by
 refine .inl ?_
 have e:tK H (.ref l)=some (gs.map d9):=by (delta tK;simp only[hl])
 have J:mO 4 (.tup [.int a,.int b,.int d])=some (.tuple [.int a,.int b,.int d]):=rfl
 have O:((gs.map λg=>kr [.int g.1,.int g.2.1,.int g.2.2]).any λq=>fg q (.tuple [.int a,.int b,.int d]))=false:=by
  rw[HU,A1]
  rintro⟨Y,Z,d'⟩ U z
  simp[fg,g9] at z
  exact hm (by rw[←z.1,←z.2.1,←z.2.2];exact U)
 (delta wQ;simp only[e,i9,zQ,J,O])
 exact q
def T9{a:Int}(h:a≠0):∃s:Int,s*s=1/\0<s*a:=by
 rcases AR h with z | z
 ·exact⟨-1,by decide,by omega⟩
 ·exact⟨1,by decide,by omega⟩
theorem Wy:∀(n:Nat) (u x:Pt),x.2.natAbs<=n->Fq u x≠0->∃e b d:Int,(0<e/\0<=b/\b<e/\0<d)/\(bV u x (e,0)/\bV u x (b,d))/\bV (e,0) (b,d) u/\bV (e,0) (b,d) x:=by
 intro n
 induction n with
 |zero=>
  intro u x hx Y
  have O:x.2=0:=by omega
  have U:u.1*x.2-u.2*x.1≠0:=Y
  rw[O,fw,IG] at U
  have hu:u.2≠0:=λz=>U (by rw[z,xc];rfl)
  have Z:x.1≠0:=λz=>U (by rw[z,fw];rfl)
  obtain⟨s,s1,s2⟩:=T9 hu
  obtain⟨t,t1,t2⟩:=T9 Z
  have J:=OB (s*u.1) (t*x.1)
  generalize (s*u.1) / (t*x.1)=q at J
  refine⟨t*x.1,(s*u.1)%(t*x.1),s*u.2,⟨t2,kl _ (by omega),iN _ t2,s2⟩,⟨⟨0,t,?_,?_⟩,⟨s,-(t*q),?_,?_⟩⟩,⟨s*q,s,?_,?_⟩,⟨t,0,?_,?_⟩⟩
  ·show t*x.1=0*u.1+t*x.1;grind
  ·show (0:Int)=0*u.2+t*x.2;rw[O];grind
  ·show (s*u.1)%(t*x.1)=s*u.1 + -(t*q)*x.1;rw[J];grind
  ·show s*u.2=s*u.2 + -(t*q)*x.2;rw[O];grind
  ·show u.1=s*q*(t*x.1)+s*((s*u.1)%(t*x.1));rw[J];grind
  ·show u.2=s*q*0+s*(s*u.2);grind
  ·show x.1=t*(t*x.1)+0*_;grind
  ·show x.2=t*0+0*_;rw[O];grind
 |succ n ih=>
  intro u x hx Y
  by_cases O:x.2=0
  ·exact ih u x (by grind) Y
  ·have h1:=kl u.2 O
   have h2:=Int.emod_lt u.2 O
   have J:=OB u.2 x.2
   generalize u.2 / x.2=q at J
   obtain⟨e,b,d,hp,⟨i1,i2⟩,j1,j2⟩:=ih x (u.1-q*x.1,u.2%x.2) (by show (u.2%x.2).natAbs<=n;grind) (by
    show x.1*(u.2%x.2)-x.2*(u.1-q*x.1)≠0
    intro z
    apply Y
    show u.1*x.2-u.2*x.1=0
    rw[J] at z
    grind)
   have k2:bV u x (u.1-q*x.1,u.2%x.2):=⟨1,-q,by show u.1-q*x.1=1*u.1 + -q*x.1;grind,by show u.2%x.2=1*u.2 + -q*x.2;rw[J];grind⟩
   refine⟨e,b,d,hp,⟨bV.trans (bV.right u x) k2 i1,bV.trans (bV.right u x) k2 i2⟩,bV.trans j1 j2 ⟨q,1,?_,?_⟩,j1⟩
   ·show u.1=q*x.1+1*(u.1-q*x.1);grind
   ·show u.2=q*x.2+1*(u.2%x.2);rw[J];grind
def Nv{a d e f k:Int}(a0:0<a)(b0:0<=b)(b1:b<a)(d0:0<d)(e0:0<e)(f0:0<=f)(f1:f<e)(p1:bV (a,0) (b,d) (e,0))(p2:bV (a,0) (b,d) (f,k))(hn:e*k=a*d):(e,f,k)=(a,b,d):=by
 obtain⟨i,j,Y,Z⟩:=p1
 obtain⟨m,l,g3,g4⟩:=p2
 have h1:e=i*a+j*b:=Y
 have h2:0=i*0+j*d:=Z
 have O:f=m*a+l*b:=g3
 have J:k=m*0+l*d:=g4
 clear Y Z g3 g4
 have j0:j=0:=by
  rw[fw,ko] at h2
  rcases LM.mp h2.symm with z | z
  ·exact z
  ·omega
 subst j0
 rw[xc,pE] at h1
 rw[fw,ko] at J
 have U:i*l=1:=by
  have:(i*l)*(a*d)=1*(a*d):=by rw[h1,J] at hn;rw[x9];refine OQ ?_ hn;ac_rfl
  exact AS (NW (KU a0 d0)) this
 have i0:0<=i:=by
  apply cn
  intro z
  have:i*a<=0*a:=ix (by omega) (by omega)
  omega
 have i1:i=1:=Int.eq_one_of_mul_eq_one_right i0 U
 subst i1
 rw[x9] at U h1
 subst U
 rw[x9] at O J
 subst h1
 subst J
 have m0:m=0:=by
  rcases IH m 0 with z | z | z
  ·exfalso
   have:m*e<=-1*e:=ix (by omega) (by omega)
   omega
  ·exact z
  ·exfalso
   have:1*e<=m*e:=ix (by omega) (by omega)
   omega
 subst m0
 rw[xc,ko] at O
 rw[O]
def jg.one{a d e f k:Int}(G:jg ps a b d)(G':jg ps e f k):(a,b,d)=(e,f,k):=by
 obtain⟨p1,p2⟩:=G.grp _ (bV.grp (e,0) (f,k)) G'.ins
 obtain⟨J,q2⟩:=G'.grp _ (bV.grp (a,0) (b,d)) G.ins
 obtain⟨h1,h2,O⟩:=Tc G.e0 G.b0 G.b1 G.d0 G'.e0 G'.b0 G'.b1 G'.d0 J q2 p1 p2
 rw[h1,h2,O]
theorem zX{α β:Type}[DecidableEq β]{R:α->β->Prop}:∀ {l:List α} {m:List β},l.Nodup->(∀x∈l,∃y∈m,R x y)->(∀x∈l,∀x'∈l,∀y,R x y->R x' y->x=x')->l.length<=m.length
 |[],_,_,_,_=>eD _
 |x::l,m,hn,ex,inj=>by
  obtain⟨hx,hn⟩:=fo.mp hn
  obtain⟨y,Y,Z⟩:=ex x (by simp)
  have:=zX (m:=m.erase y) hn (λx' J=>by
   obtain⟨y',U,O⟩:=ex x' (by simp[J])
   refine⟨y',(mB λe=>hx ?_).mpr U,O⟩
   rw[e] at O
   rw[inj x (by simp) x' (by simp[J]) y Z O];exact J) λa ha b hb=>inj a (by simp[ha]) b (by simp[hb])
  rw[jv Y] at this
  have:=fF Y
  rw[bE];omega
def vY{c a:Nat}{t:Tr}:t∈pJ c a↔c%a=0/\∃b:Nat,b<a/\t=((a:Int),(b:Int),((c / a:Nat):Int)):=by
 unfold pJ
 split
 ·rename_i h
  rw[b9]
  constructor
  ·rintro⟨b,J,rfl⟩;exact⟨h,b,b6.mp J,rfl⟩
  ·rintro⟨_,b,J,rfl⟩;exact⟨b,b6.mpr J,rfl⟩
 ·rename_i h
  exact⟨λz=>by simp at z,λz=>absurd z.1 h⟩
theorem vN{c:Nat}{t:Tr}:∀ {n:Nat},t∈dC c n↔∃a,1<=a/\a<=n/\t∈pJ c a
 |0=>by
  constructor
  ·intro h;simp[dC] at h
  ·rintro⟨a,h1,h2,_⟩;omega
 |n+1=>by
  rw[dW,ib,vN (n:=n)]
  constructor
  ·rintro (⟨a,h1,h2,h3⟩ | h)
   ·exact⟨a,h1,by omega,h3⟩
   ·exact⟨n+1,by omega,a8 _,h⟩
  ·rintro⟨a,h1,h2,h3⟩
   by_cases z:a=n+1
   ·exact .inr (z▸h3)
   ·exact .inl ⟨a,h1,by omega,h3⟩
theorem vC{c:Nat}:∀n:Nat,(dC c n).Nodup
 |0=>by simp[dC]
 |n+1=>by
  rw[dW,kD]
  refine⟨vC n,?_,?_⟩
  ·unfold pJ
   split
   ·rw[ax,dS]
    have:=ml (n:=n+1)
    rw[ax] at this
    exact this.imp λh z=>h (by
     have:=congrArg (λt:Tr=>t.2.1) z
     exact Int.ofNat_inj.mp this)
   ·exact oa
  ·intro t O u U e
   subst e
   obtain⟨a,_,Z,h1⟩:=vN.mp O
   obtain⟨_,b,_,Y⟩:=vY.mp h1
   obtain⟨_,b',_,J⟩:=vY.mp U
   rw[Y] at J
   have:=congrArg (λt:Tr=>t.1) J
   have:(a:Int)=((n+1:Nat):Int):=this
   omega
def Q4{e d:Int}(e0:0<e)(b0:0<=b)(b1:b<e)(d0:0<d)(hn:e*d=n):(e,b,d)∈dC n n:=by
 obtain⟨a,rfl⟩:=fT (zh e0)
 obtain⟨b,rfl⟩:=fT b0
 obtain⟨d,rfl⟩:=fT (zh d0)
 have J:a*d=n:=by exact_mod_cast hn
 have a1:1<=a:=by omega
 have O:1<=d:=by omega
 subst J
 exact vN.mpr ⟨a,a1,Nat.le_mul_of_pos_right a O,vY.mpr ⟨Nat.mul_mod_right a d,b,by omega,by rw[Nat.mul_div_cancel_left d (by omega)]⟩⟩
section
variable{S:List Pt}{q:Pt}{h:Nat}
theorem o8(r:cQ S q (h+h)){c p:Nat}(hc:c<h)(s:Sp (az S q) (λi=>outD S (az S q i)) h c p v):uT (wd S q (h+h)) ((c:Int),(p:Int))=true/\sh (wd S q (h+h)) (h:Int) ((c:Int),(p:Int))=v:=by
 have Y:=cG S q (h+h)
 have s1:=s.lt
 have s2:=s.le
 have w:=iW r
 constructor
 ·unfold uT
  rw[decide_eq_true_iff,dh]
  dsimp only
  have J:(sub (wd S q (h+h)++wd S q (h+h)) (c:Int) (p:Int)).length=((p:Int)-c).toNat:=lA (by grind) (by omega) (by rw[ck,Y];omega)
  have l2:(sub (wd S q (h+h)++wd S q (h+h)) ((c:Int)+h) ((p:Int)+h)).length=((p:Int)+h-(c+h)).toNat:=lA (by grind) (by omega) (by rw[ck,Y];grind)
  refine w8 λj=>?_
  by_cases hj:j<p-c
  ·rw[TX (by rw[J];grind),J,rK (by omega),rK (by grind),yg r.back (by grind),yg r.back (by grind),oQ]
   have:=s.dir (p-c-1-j) (by omega)
   rw[show ((c:Int)+(h:Int)).toNat+j=p+h-1-(p-c-1-j) from by grind,this,Y9 dw,show (c:Int).toNat+(((p:Int)-c).toNat-1-j)=c+(p-c-1-j) from by grind]
  ·rw[gv (by rw[l2];grind),gv (by rw[Td,J];grind)]
 ·rw[Pj r,show ((c:Int)).toNat=c from by grind,show ((p:Int)+(h:Int)).toNat=p+h from by grind]
  have O:=s.pos 0 (by omega)
  have U:=s.dir 0 (by omega)
  have Z:=w.go (p+h-1)
  have e4:=w.go c
  rw[tN] at O U
  rw[nB] at O U
  rw[show p+h-1+1=p+h from by omega,U,O,e4] at Z
  have hd:=dw (S:=S) (p:=az S q c)
  generalize outD S (az S q c)=d at *
  generalize az S q c=A at *
  generalize az S q (p+h)=B at *
  subst Z
  rcases c4 hd with rfl | rfl | rfl | rfl
  ·exact aI (by show A.1-(A.1+1-v.1 + -1)=v.1;grind) (by show A.2-(A.2+0-v.2+0)=v.2;omega)
  ·exact aI (by show A.1-(A.1+0-v.1+0)=v.1;omega) (by show A.2-(A.2+1-v.2 + -1)=v.2;grind)
  ·exact aI (by show A.1-(A.1 + -1-v.1+1)=v.1;grind) (by show A.2-(A.2+0-v.2+0)=v.2;omega)
  ·exact aI (by show A.1-(A.1+0-v.1+0)=v.1;omega) (by show A.2-(A.2 + -1-v.2+1)=v.2;grind)
def shs(S:List Pt)(q:Pt)(h:Nat)(cs:List Int):List Pt:=(jY cs h).map (sh (wd S q (h+h)) h)
theorem tV.back(r:cQ S q (h+h)){cs:List Nat}(p:tV (az S q) (λi=>outD S (az S q i)) h cs vs):∃cz:List Int,cz∈qX (wd S q (h+h))/\vs=shs S q h cz:=by
 have Z:=cG S q (h+h)
 have mem:∀cz:List Int,Bc cz h->KC (wd S q (h+h)) cz=true->cz∈qX (wd S q (h+h)):=λcz c1 c2=>by
  unfold qX
  rw[if_neg (by rw[Z];omega),dn,dh]
  exact⟨uZ.mpr c1,c2⟩
 have per:∀ {c:Nat},((c:Int)+(h:Int))=((c+h:Nat):Int):=λ{c}=>by grind
 cases p with
 |@two a b u v hb s1 s2=>
  have l1:=s1.lt
  obtain⟨J,O⟩:=o8 r (by omega) s1
  obtain⟨U,Y⟩:=o8 r hb s2
  refine⟨[(a:Int),(b:Int)],mem _ ⟨.inl rfl,by simp;omega,by simp;omega⟩ ?_,?_⟩
  ·unfold KC
   rw[dh]
   simp only[jY,ends,kB,la,ku,lT,nh,g7,ki,Nd,OC,per,J,U];rfl
  ·simp only[shs,jY,ends,kB,la,ku,lT,nh,g7,ki,aE,ny,per,O,Y]
 |@thr a b c u v x hc s1 s2 s3=>
  have l1:=s1.lt
  have l2:=s2.lt
  obtain⟨J,O⟩:=o8 r (by omega) s1
  obtain⟨U,Y⟩:=o8 r (by omega) s2
  obtain⟨k5,k6⟩:=o8 r hc s3
  refine⟨[(a:Int),(b:Int),(c:Int)],mem _ ⟨.inr rfl,by simp;omega,by simp;grind⟩ ?_,?_⟩
  ·unfold KC
   rw[dh]
   simp only[jY,ends,kB,la,ku,lT,nh,g7,ki,Nd,OC,per,J,U,k5];rfl
  ·simp only[shs,jY,ends,kB,la,ku,lT,nh,g7,ki,aE,ny,per,O,Y,k6]
def tV.ad9(dg:Dg S)(nd:S.Nodup)(hq:bH S q)(r:cQ S q (h+h)){cs:List Nat}(p:tV (az S q) (λi=>outD S (az S q i)) h cs vs):∃e b d,jg vs e b d:=by
 obtain⟨u,Y,x,Z,J,hc⟩:=p.base (iW r)
 have U:Fq u x≠0:=by
  rw[hc,qp r dg nd hq]
  obtain⟨k,ed⟩:=hq
  have:=fF ed.l
  omega
 obtain⟨e,b,d,⟨e0,b0,b1,d0⟩,⟨i1,i2⟩,j1,j2⟩:=Wy _ u x (a8 _) U
 exact⟨e,b,d,e0,b0,b1,d0,λG g O=>⟨g.lin (O u Y) (O x Z) i1,g.lin (O u Y) (O x Z) i2⟩,λp hp=>bV.trans j1 j2 (J p hp)⟩
def qH(r:cQ S q (h+h))(hm:cs∈qX (wd S q (h+h))):Bc cs h/\tV (az S q) (λi=>outD S (az S q i)) h (cs.map tP) (shs S q h cs):=by
 obtain⟨_,J,O⟩:=K7 hm
 rw[dh] at J
 exact⟨J,abb r J O⟩
theorem Et:∀ {as bs:List Int},(∀a∈as,0<=a)->(∀b∈bs,0<=b)->as.map tP=bs.map tP->as=bs
 |[],bs,_,_,z=>by simp at z;exact z.symm
 |a::as,[],_,_,z=>by simp at z
 |a::as,b::bs,ha,hb,z=>by
  rw[aE,aE] at z
  have z1:=(List.cons.inj z).1
  have O:=ha a (by simp)
  have U:=hb b (by simp)
  rw[show a=b from by omega,Et (λx J=>ha x (by simp[J])) (λx J=>hb x (by simp[J])) (List.cons.inj z).2]
def Kw(dg:Dg S)(nd:S.Nodup)(hq:bH S q)(r:cQ S q (h+h))(hl:S.length<=1000){cs':List Int}(h1:cs∈qX (wd S q (h+h)))(h2:cs'∈qX (wd S q (h+h))){e d:Int}(G:jg (shs S q h cs) e b d)(G':jg (shs S q h cs') e b d):cs=cs':=by
 obtain⟨O,p1⟩:=qH r h1
 obtain⟨U,p2⟩:=qH r h2
 exact Et (λa J=>(O.jZ a J).1) (λa J=>(U.jZ a J).1) (p1.same dg nd hq r hl p2 G G')
def J2(dg:Dg S)(nd:S.Nodup)(hq:bH S q)(r:cQ S q (h+h))(hl:S.length<=1000)(h1:cs∈qX (wd S q (h+h))){e d:Int}(G:jg (shs S q h cs) e b d):(e,b,d)∈nQ S:=by
 obtain⟨O,p1⟩:=qH r h1
 obtain⟨J,hg,hd,_⟩:=p1.lays dg nd hq r hl G
 unfold nQ
 rw[dn]
 exact⟨Q4 G.e0 G.b0 G.b1 G.d0 J,decide_eq_true hd⟩
def Ih(h1:1<=S.length)(h2:S.length<=200)(hm:g∈nQ S):oK g/\g.1*g.2.2=S.length/\mj g S:=by
 unfold nQ at hm
 rw[dn] at hm
 obtain⟨a,b⟩:=K8 h1 h2 hm.1
 exact⟨a,b,of_decide_eq_true hm.2⟩
def Hj(dg:Dg S)(nd:S.Nodup)(h1:1<=S.length)(h2:S.length<=200)(hm:g∈nQ S):Fl S g:=by
 obtain⟨a,b,c⟩:=Ih h1 h2 hm
 exact⟨dg,nd,a,c,Fd a b c⟩
def Vs(dg:Dg S)(nd:S.Nodup)(hq:bH S q)(r:cQ S q (h+h))(h1:1<=S.length)(h2:S.length<=200)(E:FZ S)(hm:g∈nQ S):∃cs∈qX (wd S q (h+h)),jg (shs S q h cs) g.1 g.2.1 g.2.2:=by
 have F:=Hj dg nd h1 h2 hm
 obtain⟨k,cs,vs,hk,par,J⟩:=F.parted hq r (Y0 dg nd hq r E)
 obtain rfl:k=h:=by omega
 obtain⟨U,Y,rfl⟩:=par.back r
 obtain⟨e,b,d,G⟩:=par.ad9 dg nd hq r
 obtain⟨Z,_⟩:=par.lays dg nd hq r (by omega) G
 obtain⟨_,O,_⟩:=Ih h1 h2 hm
 obtain⟨a0,b0,b1,d0,_⟩:=F.hg
 obtain⟨p1,p2⟩:=G.grp _ (bV.grp (g.1,0) (g.2.1,g.2.2)) J
 have e:=Nv a0 b0 b1 d0 G.e0 G.b0 G.b1 p1 p2 (by rw[Z,O])
 refine⟨U,Y,?_⟩
 rw[←congrArg (λt:Tr=>t.1) e,←congrArg (λt:Tr=>t.2.1) e,←congrArg (λt:Tr=>t.2.2) e]
 exact G
end
def aa2(S:List Pt):(nQ S).Nodup:=(vC _).filter _
def Wf(dg:Dg S)(nd:S.Nodup)(hq:bH S q)(r:cQ S q t)(h1:1<=S.length)(h2:S.length<=200)(E:FZ S):(qX (wd S q t)).length=(nQ S).length:=by
 by_cases ht:t%2=1
 ·have Y:qX (wd S q t)=[]:=by unfold qX;rw[cG,if_pos ht]
  have Z:nQ S=[]:=by
   apply List.eq_nil_iff_forall_not_mem.mpr
   intro g hg
   obtain⟨k,_,_,hk,_⟩:=(Hj dg nd h1 h2 hg).parted hq r (Y0 dg nd hq r E)
   omega
  rw[Y,Z];rfl
 ·obtain⟨h,rfl⟩:∃h,t=h+h:=⟨t / 2,by omega⟩
  refine pb ?_ ?_
  ·refine zX (R:=λcs (g:Tr)=>jg (shs S q h cs) g.1 g.2.1 g.2.2) (Sw _) (λcs J=>?_) λcs J ac O g G U=>Kw dg nd hq r (by omega) J O G U
   obtain⟨e,b,d,G⟩:=(qH r J).2.ad9 dg nd hq r
   exact⟨(e,b,d),J2 dg nd hq r (by omega) J G,G⟩
  ·refine zX (R:=λ(g:Tr) cs=>jg (shs S q h cs) g.1 g.2.1 g.2.2) (aa2 S) (λg hg=>Vs dg nd hq r h1 h2 E hg) λg _ g' _ cs G U=>?_
   exact G.one U
def Rv{t:aT}{ds:List D}(ht:H t=some (.lst ds))(q:Q (.bl true) H):iT [.ref t,.ty "list"] H Q:=by
 have e:tyH H (.ref t)=some "list":=by (delta tyH;simp only[ht])
 refine Yv e (by decide) ?_
 exact q
def aaB{h:Nat}(r:cQ S q (h+h)){s:Int×Int}(c0:0<=s.1)(hcp:s.1<s.2)(hlt:s.2<(h:Int)+h)(hch:s.1<h)(hb:uT (wd S q (h+h)) s=true):aat (wd S q (h+h)) h s:=by
 obtain⟨c,p⟩:=s
 dsimp only at c0 hcp hlt hch
 obtain⟨c,rfl⟩:=fT c0
 obtain⟨p,rfl⟩:=fT (Of c0 (zh hcp))
 replace hcp:c<p:=by omega
 replace hlt:p<h+h:=by omega
 replace hch:c<h:=by omega
 have Y:=cG S q (h+h)
 unfold uT at hb
 rw[decide_eq_true_iff,dh] at hb
 dsimp only at hb
 intro k O
 dsimp only at O ⊢
 obtain⟨j,rfl⟩:∃j,p=c+k+1+j:=⟨p-c-1-k,by clear hb;omega⟩
 clear O hcp
 have g:∀i:Nat,i<h+h+(h+h)->(wd S q (h+h)).getD ((i:Int)%((h+h:Nat):Int)).toNat 0=ltN (outD S (az S q i)):=λi hi=>by
  have J:=r.pos
  have Z:=rX i J
  rw[show ((i:Int)%((h+h:Nat):Int)).toNat=i%(h+h) from by rw[←CD,eP],bP,Qv Z,Va r hi];rfl
 have U:(sub (wd S q (h+h)++wd S q (h+h)) c ((c+k+1+j:Nat):Int)).length=k+1+j:=by rw[lA c0 (by omega) (by rw[ck,Y];omega)];omega
 have e:=congrArg (λl:List Lt=>l[j]?) hb
 rw[TX (by rw[U];omega),U,show k+1+j-1-j=k by omega,rK (by omega),rK (by omega),show ((c:Int)+(h:Int)).toNat=c+h from rfl,eP,yg r.back (by omega),yg r.back (by omega),oQ] at e
 have e':=Option.some.inj e
 rw[show ((c+k+1+j:Nat):Int)+(h:Int)-1-(k:Int)=((c+h+j:Nat):Int) from by omega,show (c:Int)+(k:Int)=((c+k:Nat):Int) from rfl,g _ (by omega),g _ (by omega)]
 exact e'
theorem Yz:∀gs:List Tr,g9 (gs.map λg=>kr [.int g.1,.int g.2.1,.int g.2.2]) (gs.map λg=>kr [.int g.1,.int g.2.1,.int g.2.2])=true
 |[]=>by simp[g9]
 |g::gs=>by simp[g9,fg,Yz gs]
def aaT{b:aT}(ha:H a=some (.lst (gs.map d9)))(hb:H b=some (.lst (gs.map d9)))(q:Q (.bl false) H):eG (.ref a) (.ref b) H Q:=by
 (delta eG Hf;simp only[ha,hb,zQ,oQ,fg,Yz]);exact q
def aba{l:aT}{a d:Int}(hl:H l=some (.lst (gs.map d9)))(hm:(a,b,d)∈gs)(q:Q (.bl false) H):dB true (.tup [.int a,.int b,.int d]) (.ref l) H Q:=by
 refine .inl ?_
 have e:tK H (.ref l)=some (gs.map d9):=by (delta tK;simp only[hl])
 have J:mO 4 (.tup [.int a,.int b,.int d])=some (.tuple [.int a,.int b,.int d]):=rfl
 have O:((gs.map λg=>kr [.int g.1,.int g.2.1,.int g.2.2]).any λq=>fg q (.tuple [.int a,.int b,.int d]))=true:=by
  rw[HU,Cc]
  exact⟨_,hm,by simp[fg,g9]⟩
 (delta wQ;simp only[e,i9,zQ,J,O])
 exact q
def zy(ds:List D)(d:D):jU (ds++[d]) (-1)=some d:=by
 unfold jU Ov
 rw[if_neg (by omega),ck,kG,if_pos (by omega),i9,show (-1+((ds.length+1:Nat):Int)).toNat=ds.length from by omega,fI (a8 _),IC];rfl
def RN(ds:List D)(d:D):iG (ds++[d]) none (some (-1))=ds:=by
 unfold iG HT.c7
 simp only[]
 rw[if_pos (by omega),ck,kG,la,tN,show (-1+((ds.length+1:Nat):Int)).toNat=ds.length from by omega]
 simp
def adA{h:Nat}(hq:bH S q)(r:cQ S q (h+h))(hb:∀c∈S,(x-60<=c.1/\c.1<=x+60)/\y-60<=c.2/\c.2<=y+60):∀v∈shs S q h cs,Bt 400 v.1/\Bt 400 v.2:=by
 intro v U
 have O:∀i,(x-60<=(az S q i).1/\(az S q i).1<=x+61)/\y-60<=(az S q i).2/\(az S q i).2<=y+61:=λi=>by
  have e:=aQ (aP hq i)
  have J:=hb _ e.l
  have hd:=e.lt
  generalize az S q i=p at J hd
  generalize outD S p=d at J hd
  rcases c4 hd with rfl | rfl | rfl | rfl
  ·rw[V7] at J;dsimp only at J;omega
  ·rw[Vw] at J;dsimp only at J;omega
  ·rw[UT] at J;dsimp only at J;omega
  ·rw[Vo] at J;dsimp only at J;omega
 unfold shs at U
 obtain⟨⟨Y,Z⟩,_,rfl⟩:=b9.mp U
 rw[Pj r]
 have b1:=O Y.toNat
 have b2:=O (Z+h).toNat
 generalize az S q Y.toNat=A at b1
 generalize az S q (Z+(h:Int)).toNat=B at b2
 exact⟨Bt.mono (m:=10) (by unfold Bt;show (A.1-B.1).natAbs<2 ^ 10;omega) (by decide),Bt.mono (m:=10) (by unfold Bt;show (A.2-B.2).natAbs<2 ^ 10;omega) (by decide)⟩
def Lh(r:cQ S q t):fG (0,0) (wd S q t)=(0,0):=by
 have J:=qJ S q t
 rw[r.back,Ej] at J
 have O:q.1+(fG (0,0) (wd S q t)).1=q.1:=congrArg hV J
 have U:q.2+(fG (0,0) (wd S q t)).2=q.2:=congrArg gE J
 exact aI (by show _=(0:Int);omega) (by show _=(0:Int);omega)
def Bc.two{cs:List Int}{h:Nat}(hc:Bc cs h):2<=h:=by
 have hs:=hc.Oe
 have hr:=hc.jZ
 have J:=hc.len
 rcases cs with _ | ⟨a,_ | ⟨b,cs⟩⟩
 ·simp at J
 ·simp at J
 ·have:=(iL.mp hs).1 b (by simp)
  have:=hr a (by simp)
  have:=hr b (by simp)
  omega
def Ey:bC:=xf (wH (v3 9)) (jB 11) (aV (nZ (QJ (dU (aM cI (aa (v3 5) (aa (v3 11) ak))))) (dD (c3 (.bl false))) nU)
  (aV (O8 (m3 nO (v3 10) (aa (aM gU (aa (v3 8) (aa (v3 11) ak))) ak)))
  (nZ (or3 (dU (o3 (dB true) (o3 aB (v3 10) (u3 nM (c3 (.int 1)))) (v3 6))) (or3 (dU (o3 (dB false) (o3 aB (v3 10) (u3 nM (c3 (.int 1)))) (Ub Fi (v3 10) Wl (UG (u3 nM (c3 (.int 1))))))) (dU (o3 eG (aM eE (aa (v3 4) (aa (o3 aB (v3 10) (u3 nM (c3 (.int 1)))) ak))) (v3 11))))) (dD (c3 (.bl false))) nU)))
def YF:bC:=(aV (st3 1 (aM jw (aa (aM bf (aa (v3 0) (aa (c3 (.int 1)) ak))) ak)))
  (aV (st3 2 (aM jw (aa (aM bf (aa (v3 0) (aa (c3 (.int 2)) ak))) ak)))
  (aV (st3 3 (aM fZ (aa (aM iB (aa (v3 0) (aa (c3 (.int 5)) (aa (o3 aH (c3 (.int 1)) (o3 dG (o3 cF (aM bf (aa (v3 0) (aa (c3 (.int 0)) ak))) (c3 (.int 2))) (c3 (.int 10)))) ak)))) ak)))
  (aV (st3 4 (aM gK (aa (oN (wH (v3 3)) (jB 0) jd (cO (aa (o3 aH (o3 aB (v3 0) (c3 (.int 0))) (v3 1)) (aa (o3 aH (o3 aB (v3 0) (c3 (.int 1))) (v3 2)) ak))) ["_law_cell"] [(1, "_law_x"),(2, "_law_y")]) ak)))
  (aV (st3 5 (oN (wH (aM gj (aa (v3 4) ak))) (jB 0) jd (o3 aB (v3 0) (c3 (.int 0))) ["_law_side"] []))
  (aV (st3 6 (oN (wH (aM iz (aa (aM bj (aa (v3 4) ak)) ak))) (jB 0) (dU (aM jA (aa (v3 1) (aa (v3 0) ak)))) (v3 0) ["_law_grid"] [(4, "_law_piece")]))
  (aV (st3 7 (aM fc (aa (v3 4) ak)))
  (aV (nZ (or3 (QJ (dU (aM iT (aa (v3 7) (aa (c3 (.ty "list")) ak))))) (or3 (dU (o3 eG (v3 7) (v3 6))) (QJ (dU (aM Eu (aa (oN (wH (v3 7)) (jB 0) jd (aM fu (aa (v3 0) ak)) ["_law_grid"] []) ak)))))) (dD (c3 (.bl false))) nU)
  (aV (st3 8 (o3 aB (aM dq (aa (v3 4) ak)) (c3 (.int 1))))
  (aV (nZ (dU (o3 eG (v3 8) (mz3 lO (c3 (.str "")) (aa (v3 5) ak)))) (dD (c3 (.bl false))) nU)
  (aV (st3 9 (aM cW (aa (v3 8) ak)))
  (aV (nZ (or3 (QJ (dU (aM iT (aa (v3 9) (aa (c3 (.ty "list")) ak))))) (dU (o3 eG (aM bj (aa (v3 9) ak)) (aM bj (aa (v3 6) ak))))) (dD (c3 (.bl false))) nU)
  (aV (st3 10 (wL ak))
  (aV Ey
  (dD (o3 jf (aM bj (aa (v3 10) ak)) (aM bj (aa (v3 6) ak))))))))))))))))))
def aaE:Rd ["_law_script", "_law_x", "_law_y", "_law_grown_here", "_law_piece", "_law_letters", "_law_good", "_law_found", "_law_word", "_law_partings", "_law_grids_here", "_law_cuts"] zG YF:=by
 rintro ds H Q ⟨xs,rfl,h⟩
 split at h
 case h_2=>exact h.elim
 rename_i ns e
 have e':=dR e
 subst e'
 obtain⟨hl,h⟩:=h
 (unfold YF;walk_at "l3t")
 walk_at "l3"
 refine Ol ⟨by decide,by decide⟩ ⟨by omega,by omega⟩ λgs p1 d4 gn d5 am=>?_
 walk_at "l3"
 refine GX aj (by omega) λp2 ea=>?_
 have bx:=S6 (ns.getD (tP 1) 0)
 have cb:=S6 (ns.getD (tP 2) 0)
 generalize far (ns.getD (tP 1) 0)=x at bx
 generalize far (ns.getD (tP 2) 0)=y at cb
 have c8:∀c∈bT gs,Bt 20 c.1/\Bt 20 c.2:=λc hc=>by
  have:=am c (((dO gs).mem_iff (a:=c)).mp hc)
  have e:(2:Nat) ^ 20=1048576:=by decide
  unfold Bt;rw[e];omega
 have db:(bT gs).Nodup:=((dO gs).nodup_iff).mpr gn.nd
 have di:(bT gs).length<=10:=by rw[my];omega
 obtain⟨s0,a4,hO,O⟩:=N8 (x,y) gn.one gn.pos
 dsimp only at a4 hO O
 have eb:((bT gs).map λq=>(q.1+x,q.2+y)).length<=10:=by rw[ae];exact di
 have ap:1<=((bT gs).map λq=>(q.1+x,q.2+y)).length:=by rw[ae,my];exact gn.pos
 have bm:V6 ((bT gs).map λq=>(q.1+x,q.2+y)):=λc hc=>by
  obtain⟨q,hq,rfl⟩:=b9.mp hc
  have:=c8 q hq
  exact⟨Bt.mono (Bt.add this.1 bx) (by decide),Bt.mono (Bt.add this.2 cb) (by decide)⟩
 have dk:∀c∈(bT gs).map λq=>(q.1+x,q.2+y),(x-60<=c.1/\c.1<=x+60)/\y-60<=c.2/\c.2<=y+60:=λc hc=>by
  obtain⟨q,hq,rfl⟩:=b9.mp hc
  have:=am q (((dO gs).mem_iff (a:=q)).mp hq)
  dsimp only
  omega
 have hE:FZ ((bT gs).map λq=>(q.1+x,q.2+y)):=gn.eul.moved (v:=(x,y)) ((dO gs).symm.map _) λc=>by
  have:=mF (s:=(x,y)) (x:=c) (S:=bT gs)
  rw[(dO gs).mem_iff] at this
  exact this
 have al:((bT gs).map λq=>(q.1+x,q.2+y)).Nodup:=by
  rw[ax,dS]
  refine (ax.mp db).imp λ{p q} dl z=>dl ?_
  have z1:p.1+x=q.1+x:=(Prod.mk.inj z).1
  have z2:p.2+y=q.2+y:=(Prod.mk.inj z).2
  exact aI (by omega) (by omega)
 walk_at "l3"
 refine Cp.pA (λq=>(q.1+x,q.2+y)) (λH2 hs=>hs _ _ aj) (by omega) ?_ ?_
 ·intro i q hq R H2 hs hR
  unfold aO
  walk_at "l3"
  exact hR H2 aq.refl
 intro p3 ec
 generalize ((bT gs).map λq=>(q.1+x,q.2+y))=S at *
 have k3:au (au (au H p1 (.lst (gs.map aO))) p2 (.lst ((bT gs).map aO))) p3 (.lst (S.map aO)) p3=some (.lst (S.map aO)):=aj
 generalize au (au (au H p1 (.lst (gs.map aO))) p2 (.lst ((bT gs).map aO))) p3 (.lst (S.map aO))=H0 at k3
 obtain⟨t,r⟩:=hO.rnd O
 have d3:t<=40:=by have:=r.few hO.dg al O;omega
 have cc:=cG S s0 t
 walk_at "l3"
 refine Ge a4 (by omega) hO O λt2 p4 r2 _ ed=>?_
 have et:=(r.uniq r2).symm
 subst et
 walk_at "l3"
 refine Cp.map (as:=bo t) (E:=λi=>D.tup [.str (jG (ltN (outD S (az S s0 i)))),aO (az S s0 i),aO (eV (az S s0 i) (outD S (az S s0 i)))]) (wdD S s0) (λH2 hs=>hs _ _ aj) (by rw[eI];omega) ?_ ?_
 ·intro i q hq R H2 hs hR
  walk_at "l3"
  exact hR H2 aq.refl
 intro p5 ee
 have k5:au (au H0 p4 (.lst ((bo t).map λi=>D.tup [.str (jG (ltN (outD S (az S s0 i)))),aO (az S s0 i),aO (eV (az S s0 i) (outD S (az S s0 i)))]))) p5 (.lst ((bo t).map (wdD S s0))) p5=some (.lst ((wd S s0 t).map w6)):=by rw[aj];unfold wd;rw[dP];rfl
 generalize au (au H0 p4 (.lst ((bo t).map λi=>D.tup [.str (jG (ltN (outD S (az S s0 i)))),aO (az S s0 i),aO (eV (az S s0 i) (outD S (az S s0 i)))]))) p5 (.lst ((bo t).map (wdD S s0)))=H5 at k5
 walk_at "l3"
 rw[ae]
 refine Mg (by omega) (by omega) λp6 dp=>?_
 rw[eP]
 walk_at "l3"
 refine Cp.abK (E:=d9) (as:=dC S.length S.length) d9 (λg=>decide (mj g S)) (λH3 bn=>bn _ _ aj) (zx (by omega)) ?_ ?_
 ·intro i g hg R1 R0 H3 bn hy hn
  have dr:=(WM ap (by omega) (df hg)).1
  obtain⟨xa,xb,xd⟩:=g
  rw[show d9 (xa,xb,xd)=.tup [.int xa,.int xb,.int xd] from rfl]
  walk_at "l3"
  refine Lx dr bm.sm (by omega) ?_
  walk_at "l3"
  refine zA (λz=>?_) λz=>?_
  ·walk_at "l3"
   exact hy (by simp[z]) H3 aq.refl
  ·exact hn (by simp[z]) H3 aq.refl
 intro p7 dt
 have ef:(dC S.length S.length).filter (λg=>decide (mj g S))=nQ S:=rfl
 rw[ef]
 clear ef
 have cd:=ao (u:=.lst ((nQ S).map d9)) (ao (u:=.lst ((dC S.length S.length).map d9)) k5 dp) dt
 have k7:au (au H5 p6 (.lst ((dC S.length S.length).map d9))) p7 (.lst ((nQ S).map d9)) p7=some (.lst ((nQ S).map d9)):=aj
 generalize au (au H5 p6 (.lst ((dC S.length S.length).map d9))) p7 (.lst ((nQ S).map d9))=H7 at cd k7
 have dv:(nQ S).length<=1000:=ft (D4 _ _) (zx (by omega))
 walk_at "l3"
 refine Dj ap (by omega) bm.sm λp8 ce=>?_
 have ci:=ao (u:=.lst ((nQ S).map d9)) cd ce
 have bp:=ao (u:=.lst ((nQ S).map d9)) k7 ce
 have k8:au H7 p8 (.lst ((nQ S).map d9)) p8=some (.lst ((nQ S).map d9)):=aj
 generalize au H7 p8 (.lst ((nQ S).map d9))=H8 at ci bp k8
 walk_at "l3"
 refine Rv k8 ?_
 walk_at "l3"
 refine xu rfl ?_
 walk_at "l3"
 refine aaT k8 bp ?_
 walk_at "l3"
 refine xu rfl ?_
 walk_at "l3"
 refine Cp.map (E:=d9) (as:=nQ S) (λ_=>D.bl true) (λH2 hs=>hs _ _ k8) (by omega) ?_ ?_
 ·intro i g hg R H3 bn hR
  obtain⟨xa,xb,xd⟩:=g
  rw[show d9 (xa,xb,xd)=.tup [.int xa,.int xb,.int xd] from rfl]
  walk_at "l3"
  exact Dl (hR H3 aq.refl)
 intro p9 bq
 walk_at "l3"
 refine abI (bs:=(nQ S).map λ_=>true) (by rw[aj,dP];rfl) ?_
 rw[show ((nQ S).map λ_=>true).all id=true from by simp]
 walk_at "l3"
 refine xu rfl ?_
 have bu:=ao (u:=.lst ((nQ S).map λ_=>D.bl true)) ci bq
 have cm:=ao (u:=.lst ((nQ S).map λ_=>D.bl true)) bp bq
 have dz:=ao (u:=.lst ((nQ S).map λ_=>D.bl true)) k8 bq
 generalize au H8 p9 (.lst ((nQ S).map λ_=>D.bl true))=H9 at bu cm dz
 walk_at "l3"
 refine rW a4 (by omega) hO O λt3 r3 _=>?_
 have et:=(r.uniq r3).symm
 subst et
 walk_at "l3"
 refine Rw (ls:=wd S s0 t) bu (by omega) ?_
 refine Pn ?_
 rw[decide_eq_true rfl]
 walk_at "l3"
 refine xu rfl ?_
 walk_at "l3"
 refine xH (by omega) λZ be=>?_
 have bv:=ao (u:=.lst ((qX (wd S s0 t)).map cutD)) bu be
 have bw:=ao (u:=.lst ((qX (wd S s0 t)).map cutD)) cm be
 have a5:au H9 Z (.lst ((qX (wd S s0 t)).map cutD)) Z=some (.lst ((qX (wd S s0 t)).map cutD)):=aj
 generalize au H9 Z (.lst ((qX (wd S s0 t)).map cutD))=H10 at bv bw a5
 have a0:=Wf hO.dg al O r ap (by omega) hE
 walk_at "l3"
 refine Rv a5 ?_
 walk_at "l3"
 refine xu rfl ?_
 walk_at "l3"
 refine Pz (λz=>absurd (by rw[ae,ae,a0]) z) λ_=>?_
 walk_at "l3"
 intro J U
 have co:=ao (u:=.lst []) bv U
 have cq:=ao (u:=.lst []) bw U
 have bg:=ao (u:=.lst []) a5 U
 have cr:au H10 J (.lst []) J=some (.lst []):=aj
 generalize au H10 J (.lst [])=H11 at co cq bg cr
 have n5:p5≠J:=ne3 bv U
 have n7:p7≠J:=ne3 bw U
 have d0:Z≠J:=ne3 a5 U
 walk_at "l3"
 unfold Ey
 walk_at "l3"
 refine Lp.by (λi σ H2=>(H2 Z=some (.lst ((qX (wd S s0 t)).map cutD))/\H2 p5=some (.lst ((wd S s0 t).map w6))/\H2 p7=some (.lst ((nQ S).map d9)))/\(∃Y:List Tr,H2 J=some (.lst (Y.map d9))/\Y.length=i/\∀g∈Y,∃(j:Nat) (cs:List Int),j<i/\(qX (wd S s0 t))[j]?=some cs/\jg (shs S s0 (t / 2) cs) g.1 g.2.1 g.2.2)/\∃u,σ=[some (.fl (ns.map D.int)),some (.int x),some (.int y),some (.ref p2),some (.tup (S.map aO)),some (.ref p5),some (.ref p7),some (.ref p8),some (.str (aR (wd S s0 t))),some (.ref Z),some (.ref J),u]) ⟨⟨bg,co,cq⟩,⟨[],cr,rfl,by simp⟩,_,rfl⟩ (λi σ H2 _ z=>z.1.1) ?_ ?_
 ·rintro i dd σ H2 hd ⟨⟨cz,q5,q7⟩,⟨Y,c0,b0,a6⟩,u,rfl⟩
  rw[ay,cv] at hd
  obtain⟨cs,a7,rfl⟩:=hd
  have hm:=df a7
  obtain⟨ev,_,hP⟩:=K7 hm
  obtain⟨hh,rfl⟩:∃hh,t=hh+hh:=⟨t / 2,by rw[cc] at ev;omega⟩
  rw[show (hh+hh) / 2=hh from by omega] at a6 ⊢
  have hi:=(cE.mp a7).1
  obtain⟨hc,par⟩:=qH r hm
  have eg:(qX (wd S s0 (hh+hh))).length<=1000:=by rw[a0];exact dv
  have h2:=hc.two
  unfold cutD
  walk_at "l3"
  refine vm (hh:=hh) q5 cc (by omega) hc (λs hs=>?_) ?_
  ·obtain⟨b1,b2,b3,b4⟩:=hc.jY s hs
   refine aaB r b1 b2 b3 b4 ?_
   unfold KC at hP
   rw[dh,kQ] at hP
   exact hP s hs
  walk_at "l3"
  refine xu rfl ?_
  walk_at "l3"
  refine Oj (by omega) (by omega) (by rw[dh];exact hc) (Lh r) (by rw[dh];exact adA O r dk) (by rw[dh];exact par.wide hO.dg al O r) λge gb gd G=>?_
  rw[dh] at G
  have G:jg (shs S s0 hh cs) ge gb gd:=G
  have a3:=J2 hO.dg al O r (by omega) hm G
  have F:=Hj hO.dg al ap (by omega) a3
  obtain⟨o1,o2,o4⟩:=Ih ap (by omega) a3
  walk_at "l3"
  refine Eb c0 (by rw[aW,ae];omega) ?_
  have c1:au H2 J (.lst (Y.map d9++[.tup [.int ge,.int gb,.int gd]])) Z=some (.lst ((qX (wd S s0 (hh+hh))).map cutD)):=by rw[aG d0];exact cz
  have j5:au H2 J (.lst (Y.map d9++[.tup [.int ge,.int gb,.int gd]])) p5=some (.lst ((wd S s0 (hh+hh)).map w6)):=by rw[aG n5];exact q5
  have j7:au H2 J (.lst (Y.map d9++[.tup [.int ge,.int gb,.int gd]])) p7=some (.lst ((nQ S).map d9)):=by rw[aG n7];exact q7
  have bd:au H2 J (.lst (Y.map d9++[.tup [.int ge,.int gb,.int gd]])) J=some (.lst (Y.map d9++[.tup [.int ge,.int gb,.int gd]])):=aj
  generalize au H2 J (.lst (Y.map d9++[.tup [.int ge,.int gb,.int gd]]))=H3 at c1 j5 j7 bd
  walk_at "l3"
  refine fV bd (zy _ _) ?_
  walk_at "l3"
  refine aba j7 a3 ?_
  walk_at "l3"
  refine xu rfl ?_
  walk_at "l3"
  refine fV bd (zy _ _) ?_
  walk_at "l3"
  intro d1 ac
  rw[RN]
  refine abP (gs:=Y) aj (λz=>?_) ?_
  ·obtain⟨j,c2,hj,bi,G'⟩:=a6 _ z
   have es:=Kw hO.dg al O r (by omega) hm (df bi) G G'
   subst es
   have l1:=(cE.mp a7)
   have l2:=(cE.mp bi)
   have:=(xl (Sw _)).mp (l1.2.trans l2.2.symm)
   omega
  have c5:=ao (u:=.lst (Y.map d9)) c1 ac
  have i5:=ao (u:=.lst (Y.map d9)) j5 ac
  have i7:=ao (u:=.lst (Y.map d9)) j7 ac
  have ca:=ao (u:=.lst (Y.map d9)) bd ac
  generalize au H3 d1 (.lst (Y.map d9))=H4 at c5 i5 i7 ca
  walk_at "l3"
  refine xu rfl ?_
  walk_at "l3"
  refine fV ca (zy _ _) ?_
  walk_at "l3"
  refine CQ (g:=(ge,gb,gd)) a4 (by omega) hO O o1 bm o2 o4 λt4 r4 _=>?_
  have et:=(r.uniq r4).symm
  subst et
  rw[F.ph S O r par G.ins,show ((cs.map tP).map λk:Nat=>D.int (0+(k:Int)))=cs.map D.int from by
   rw[dP]
   refine d6 λc d2=>?_
   have:=(hc.jZ c d2).1
   show D.int (0+((c.toNat:Nat):Int))=D.int c
   rw[ko,qo this]]
  refine SQ rfl (ZR (ms:=cs) (ns:=cs) ?_)
  rw[decide_eq_true rfl]
  walk_at "l3"
  refine xu rfl ?_
  refine⟨⟨c5,i5,i7⟩,⟨Y++[(ge,gb,gd)],by rw[ca,de];rfl,by rw[ck,b0];rfl,λg hg=>?_⟩,_,rfl⟩
  rcases ib.mp hg with z | z
  ·obtain⟨j,c2,hj,a1,a2⟩:=a6 g z
   exact⟨j,c2,by omega,a1,a2⟩
  ·rw[bX.mp z]
   exact⟨i,cs,by omega,a7,G⟩
 ·rintro σ H2 ⟨⟨cz,q5,q7⟩,⟨Y,c0,b0,a6⟩,u,rfl⟩
  walk_at "l3"
  rw[ae,ae,b0,ae,a0,decide_eq_true rfl]
  exact aJ (h _) aq.refl
set_option hygiene false
abbrev F0(P:cw)(w:da)(mg:Str->Option af)(base:fA):=Fn P w (K0 w.params) mg base
abbrev Tx(h:fA)(mg:Str->Option af)(w:da):Prop:=(K0 w.params).In h/\h.Ns eK mg
def kf:(dE,K0)=(dE,K0):=by k_fill;rfl
local macro_rules | `(tactic| walk_at "en")=>`(tactic| repeat' first | exact .nil | refine .cons ?_ ?_ | refine .cons _ _ ?_ | exact .str _ _ | exact .int _ _ | exact tp2)
local macro_rules | `(tactic| walk_at "tx")=>`(tactic| repeat' first | exact .nil | refine afs ?_)
section
variable{P:cw}{w:da}{mg:Str->Option af}{base h:fA}
def Jr:lG (K0 w.params) ["Laying"] "grid":=by walk_at "tx"
def BJ:lG (K0 w.params) ["Laying"] "piece":=by walk_at "tx"
variable(T:Tx h mg w)
include T
def Dh:∃a,mg "OPPOSITES" = some (.ref a)/\DC (K0 w.params) w a lX:=dc3 T
def zO:∃a,mg "RIGHT_HAND" = some (.ref a)/\DC (K0 w.params) w a jP:=dc3 T
def U0:∃a,mg "STEPS" = some (.ref a)/\DC (K0 w.params) w a uA:=dc3 T
def acv:mg "abs" = none:=oU T
def aco:mg "all" = none:=oU T
def abi:mg "bool" = none:=oU T
def abF:mg "dict" = none:=oU T
def acQ:mg "int" = none:=oU T
def zF:mg "isinstance" = none:=oU T
def Su:mg "len" = none:=oU T
def Hm:mg "list" = none:=oU T
def Jv:mg "range" = none:=oU T
def Im:mg "reversed" = none:=oU T
def YC:mg "set" = none:=oU T
def Tq:mg "sorted" = none:=oU T
def La:mg "tuple" = none:=oU T
def Ro:mg "zip" = none:=oU T
local macro_rules | `(tactic| walk_at "co")=>`(tactic| exact⟨rfl,by decide +kernel,by decide +kernel,by decide +kernel,rfl,by decide +kernel,by decide +kernel⟩)
local macro_rules | `(tactic| walk_at "ok")=>`(tactic| intro S f cdv A outer s H E hr;walk_at "o")
local macro_rules | `(tactic| walk_at "ln")=>`(tactic| first | (intro ds _ _ h;(repeat (first | refine Pc h λ_ h=>?_ | refine And.elim (λ_ h=>?_) h));subst_vars;rfl) | (intro ds _ _ _ h;(repeat (first | refine Pc h λ_ h=>?_ | refine And.elim (λ_ h=>?_) h));subst_vars;rfl))
def Fe:F0 P w mg base 1 "grids_of" ["count"] fQ:=cg T Ez
def Q8:F0 P w mg base 1 "added" ["one", "other"] gf:=cg T Ry (len:=Nk)
def TY:F0 P w mg base 1 "taken" ["one", "other"] gR:=cg T Qk
def Ce:F0 P w mg base 1 "rests_in" ["grid"] dZ:=cg T DN
def DQ:F0 P w mg base 1 "shift_of" ["grid", "i", "j"] d7:=cg T DW
def uU:F0 P w mg base 1 "whole_steps" ["grid", "pair"] bZ:=cg T uO
def pH:F0 P w mg base 1 "common_measure" ["one", "other"] bQ:=cg T pq
def Cz:F0 P w mg base 1 "levelled" ["one", "other"] fW:=cg T Dr
def jH:pL P w (K0 w.params) mg base 1 "Laying" "laid" ["self"] bJ:=yQ T vQ
def jT:pL P w (K0 w.params) mg base 1 "Laying" "spot" ["self", "half", "own"] cj:=yQ T vU
def Ai:F0 P w mg base 1 "backwards" ["word"] fB:=cg T Bh
def Dw:F0 P w mg base 1 "sides_of" ["cell"] fX:=cg T Ed
def Cg:F0 P w mg base 1 "spans_of" ["word", "cuts"] dY:=cg T El
def vq:F0 P w mg base 1 "cuts_of_two" ["half"] bW:=cg T uX
def Bb:F0 P w mg base 1 "_law_cell_at" ["_law_script", "_law_k"] bf:=cg T Ak
def Iu:F0 P w mg base 1 "_law_whole" ["_law_found"] fJ:=cg T FN
def Fo:F0 P w mg base 1 "_law_sorted" ["_law_cells"] fZ:=cg T DK
def CV:F0 P w mg base 1 "_law_beside" ["_law_cell"] fY:=cg T Er
def xm:F0 P w mg base 1 "_law_shuts_in" ["_law_cells", "_law_spot"] dF:=cg T wW
def RT:F0 P w mg base 1 "_law_far" ["_law_cell"] jw:=cg T QF
def Fb:F0 P w mg base 1 "_law_border" ["_law_piece"] gj:=cg T Ck
def Lj:F0 P w mg base 1 "_law_rest" ["_law_grid", "_law_cell"] jr:=cg T Mt
def Hd:F0 P w mg base 1 "_law_grids" ["_law_count"] iz:=cg T IW
def Eh:F0 P w mg base 2 "leads_to" ["grid", "cell"] dX:=cg T Dn
def GF:F0 P w mg base 2 "grid_of" ["shifts"] ig:=cg T Iz
def GQ:Z1 P w (K0 w.params) mg base 2 "Laying" ["self", "piece", "grid"] cU:=aeG T uK
def wV:F0 P w mg base 2 "corners_of" ["corner", "word"] cL:=cg T xJ
def lU:F0 P w mg base 2 "letters_by_corner" ["piece"] bh:=cg T lW
def xF:F0 P w mg base 2 "is_parting" ["word", "cuts"] dH:=cg T wM
def qP:F0 P w mg base 2 "cuts_of_three" ["half"] b8:=cg T qK
def Uh:F0 P w mg base 2 "_law_mix" ["_law_script", "_law_k"] lL:=cg T Rn
def M7:F0 P w mg base 2 "_law_lays" ["_law_piece", "_law_grid"] jA:=cg T O1
def tH:F0 P w mg base 2 "_law_is_parting" ["_law_letters", "_law_cuts"] cI:=cg T tR
def zY:F0 P w mg base 2 "_law_is_grid" ["_law_found"] fu:=cg T Al
def GJ:F0 P w mg base 3 "rest_of" ["grid", "cell"] dN:=cg T HY
def zm:F0 P w mg base 3 "border_of" ["piece"] dq:=cg T yZ
def uF:F0 P w mg base 3 "partings_of" ["word"] cW:=cg T uW
def zW:F0 P w mg base 3 "shifts_by" ["word", "cuts"] eZ:=cg T An
def Gd:F0 P w mg base 3 "_law_grown" ["_law_script", "_law_at", "_law_many"] iB:=cg T Gw
def gm:pL P w (K0 w.params) mg base 4 "Laying" "rest_under" ["self", "thing"] aU:=yQ T lV
def O2:F0 P w mg base 4 "across" ["piece"] ju:=cg T Nj
def GP:F0 P w mg base 4 "grid_by" ["word", "cuts"] gU:=cg T GK
def jj:pL P w (K0 w.params) mg base 5 "Laying" "meets" ["self"] cJ:=yQ T tU
def ik:pL P w (K0 w.params) mg base 6 "Laying" "is_floor" ["self"] bc:=yQ T nP
def iy:pL P w (K0 w.params) mg base 7 "Laying" "place_of" ["self", "cell"] bI:=yQ T nW
def zc:F0 P w mg base 7 "floors_of" ["piece"] fc:=cg T zV
def qN:F0 P w mg base 8 "neighbours_of" ["piece", "grid"] bY:=cg T qW
def zb:F0 P w mg base 9 "parted_by" ["piece", "grid"] eE:=cg T Bl
def Z3{l:C8}{fa:aT}(e:mg "law" = some (.ref fa)):∃fd:nr,(∀(s:aw) (v:af),ER s fd ⟨[v],[]⟩ [("_law_script",v)])/\∀base:fA,(K0 w.params).In base->base.Ns eK mg->jE l.prog w (K0 w.params) mg base Gh 10 fa fd ["_law_script"] (j9 (K0 w.params) zG):=ab4 T e aaE
end
end Law
open PySem PySem.W PyProof.Rows
set_option maxRecDepth 100000 in
set_option maxHeartbeats 0 in
theorem PySem.Challenge.cw_borderfloor_k70_whole_partings_are_floor_holds : PySem.Challenge.rw_borderfloor_k70_whole_partings_are_floor.Holds := by
 w_on;refine holds_law Law.ws λO=>?_
 refine holds_open (r:=OpenLaw.row dE) (q:=Law.vw) (loose:=Law.lo) (Xt:=Law.xT) (XP:=XL Law.vw []) (YP:=(sg Law.K0 Law.kA Law.kE).says)
  (N:=20100) Law.ld (Hook.of _) (Hook.keeps _) (λs z=>xl_of s (EL.mp z).1) XL.keeps (by rfl) (by rfl) (by rfl) (λs z=>recFacts_of (EL.mp z).2) (by rfl) (by assumption)
  (by decide +kernel) ⟨rfl,rfl,rfl,rfl,rfl,by decide +kernel⟩ ?hw ?hc
 case hw=>w_witness2
 refine L2.T8 (l:=dE) (n:=63) (k:=10) (x := "_law_script") (CX:=L2.Gh) (sp:=λK=>L3.j9 K Law.zG) rfl (by decide) rfl ⟨rfl,by decide,by decide⟩ (λw h Y=>PySem.W.kIn_of Y) ?F ?S (λ_ _ _ _ z=>z)
 case F=>exact λw mg fa h U G J=>Law.Z3 ⟨U,G⟩ J
 case S=>exact λK H a ns Z hO hS=>L3.Mp hO hS (Law.Ox Z)
end
