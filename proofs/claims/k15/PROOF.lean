import PyProof.Rows.All
import Wide.All
import OpenK.AllK
import Wide.FinOn
import Lean
import PyProof.EqAt
import PyProof.EqKinds
import PyProof.TupleCall
import PySem.Challenge.RW_borderfloor_k15_words_that_go_round_noth
set_option bootstrap.genMatcherCode false
set_option compiler.extract_closed false
set_option Elab.async false
set_option linter.all false
set_option maxRecDepth 100000
open Array renaming length_toList->d3,getElem?_eq_some_iff->fS,getElem?_toList->i8,eq_empty_of_size_eq_zero->jv,mem_toList_iff->AW,toArray_toList->A9,ext'->CU,mk->C2,toList->II
open Array.Perm renaming toList->DM,refl->FA
open Bool renaming false_ne_true->ip,false_eq_true->js,and_eq_true->rq,and_eq_true_iff->sC,not_eq_true'->xh,and_true->xo,eq_iff_iff->Fm,decide_and->Fu,false_and->F8,and_false->GO,false_or->HP
open Classical renaming byContradiction->cm
open Eq renaming trans->Kb
open False renaming elim->e6
open ForInStep renaming yield->mS
open Function renaming comp_def->D8
open Int renaming toNat_natCast->fe,le_refl->fy,add_zero->fz,emod_lt_of_pos->gi,eq_ofNat_of_zero_le->gL,emod_nonneg->gX,add_sub_cancel->ix,mul_zero->i0,le_of_lt->lh,sub_self->lx,zero_add->mv,le_trans->oq,emod_eq_emod_iff_emod_sub_eq_zero->oy,toNat->pT,max_eq_right->ri,mul_le_mul_of_nonneg_right->ro,mul_one->sj,min_eq_left->sM,sub_add_cancel->vk,sub_eq_add_neg->vt,min_eq_right->x9,le_total->zk,add_left_cancel->BS,toNat_of_nonneg->BU,natCast_nonneg->CI,sub_zero->DZ,mul_comm->D6,add_sub_assoc->D9,min_le_right->EG,le_max_right->EH,add_mul->E2,mul_sub->E4,mul_add->E5,min_le_left->E9,le_max_left->Fc,max_eq_left->Fh,le_antisymm->Fs,not_lt->GI,add_assoc->Iq,ofNat_le->IM,zero_mul->IU,one_mul->Ki
open List renaming length_map->aw,mem_singleton->ay,getElem?_map->aS,getElem?_eq_some_iff->bb,length_append->bo,mem_cons->bE,map_cons->ck,mem_map->cn,size_toArray->cw,nodup_iff_pairwise_ne->cK,range->dc,getElem?_eq_getElem->dA,mem_append->dE,mem_cons_of_mem->dQ,map_append->d0,length_take->d2,mem_range->d6,mem_cons_self->eg,take_of_length_le->ez,map_map->eA,mem_append_right->eD,getElem?_append_left->eL,length_replicate->eM,find?_cons_of_neg->eP,find?_cons_of_pos->e7,length_cons->e8,take_add_one->ff,getElem?_append_right->fg,getD_eq_getElem?_getD->fh,toArray->fi,mem_append_left->fo,getElem?_eq_none->fx,append_nil->fA,mem_filter->fE,replicate->fF,length_drop->fI,lookup_cons->fR,length_range->fT,pairwise_map->f7,any_cons->gv,not_mem_nil->gx,map_congr_left->gz,length_singleton->gE,getElem?_set_ne->gN,sum_cons->gT,nodup_append->hV,mem_of_getElem?->iA,getElem?_set_self->iP,nodup_cons->kg,filterMap_cons->ko,getElem?_range->kq,pairwise_cons->kL,foldl_cons->kR,pairwise_append->ll,toList_toArray->lT,take_length->mh,find?_eq_none->mw,set_cons_zero->mB,set_cons_succ->mE,find?_cons->mP,forIn_cons->mT,getElem?_zipWith->nv,perm_ext_iff_of_nodup->oj,all_toArray->ow,replicate_succ->oC,of_mem_zip->pb,length_nil->pe,range_succ->pj,flatten_cons->qv,all_map->qE,length_pos_of_mem->qS,pairwise_lt_range->qV,takeWhile_append_dropWhile->rf,getElem_mem->rp,mem_flatten->rS,nodup_range->rV,eq_nil_of_length_eq_zero->sD,length_zipWith->tF,mem_filterMap->t5,zip_cons_cons->uj,forIn_nil->u4,ne_nil_of_mem->vv,getElem?_zip_eq_some->vT,mem_of_find?_eq_some->wa,ext_getElem?->xb,append_assoc->xi,length_filterMap_le->xl,map_take->xp,find?_range_eq_some->xy,getElem?_replicate->x8,all_eq_true->yv,any_eq_true->yB,map_nil->y8,sum_replicate_nat->zt,dropLast_eq_take->AK,filterMap_append->AN,getElem?_toArray->AO,mem_iff_getElem?->AS,length->AZ,drop_zero->A4,take_zero->Bn,map_replicate->C0,find?_append->DU,foldl_append->D4,perm_middle->EI,cons_append->EJ,zipIdx_cons->ER,prefix_refl->EW,zipIdx_nil->FD,take_range->FK,length_zip->FL,sum_append->FO,all_append->FR,find?_some->FU,map_drop->HV,all_cons->Ic,any_nil->IY
open List.Pairwise renaming imp_of_mem->oS,nil->qq
open Nat renaming le_refl->aT,lt_of_lt_of_le->b9,ne_of_lt->df,zero_le->ef,le_trans->eh,ne_of_gt->g9,le_of_lt->ij,zero_add->kC,min_eq_left->mM,lt_irrefl->nk,lt_of_le_of_lt->pz,lt_succ_of_lt->qr,mod_eq_of_lt->rX,le_antisymm->sN,not_lt_zero->tm,lt_of_le_of_ne->vn,le_succ->xc,lt_succ_iff_lt_or_eq->xB,min_eq_right->ya,le_of_not_lt->yi,le_add_right->yY,mod_lt->zC,min_le_left->As,lt_succ_iff->AF,mod_add_div->AG,le_of_ble_eq_true->AH,mul_le_mul->A6,add_le_add_right->Bz,add_le_add_left->BN,pos_of_ne_zero->CS,lt_trichotomy->DO,le_succ_of_le->D5,add_mod_right->D7,zero_lt_one->E8,sub_zero->IT,sub_self->IX,ble->KO
open Ne renaming symm->fm
open Option renaming map_eq_some_iff->b6,bind_some->gy,bind_eq_some_iff->jS,map_some->ng,isSome_map->wx,map_eq_none_iff->zw
open Option.some renaming injEq->w4
open Or renaming inl->nN,inr->nV
open Prod renaming ext->de,fst->mi,snd->nh
open Prod.mk renaming injEq->HU
open PyProof.Rows renaming callWith_type1->fw,seqObj->gu,callWith_builtin1->ja,IntsAre->lb,envOfC->nt,AllBare->tI,listUpdate_at->xw,subscriptTail_builtinR->y9,get?_update_seq->Au,subscriptTail->Cf,Subscript_->GB,boot_range->GU,size_push'->G0,sorted_ints->HZ,Call_->JY,lt_int->Kn
open PySem renaming Value->af,wpAny_bind->ag,Shared->ah,Addr->aE,starEach->aI,mainGlobals->ba,wpAny_pure->bg,wpAny->bq,sizeLine->bS,Program->b5,model->cf,World->cE,Expr->cS,Around->dS,wpAny_mono->eB,Heap->eJ,eval->eR,compareOp->eW,OsState->ft,FuncData->gc,Stmt->gg,wpAny_Call_Name_kw->gS,sizeLine_eq->hG,bootBuiltins->ib,sysModules->iO,backTo->i3,foldedSetIterable->jI,rawInt->ky,behindInMarks->kD,wpAny_holding->kF,wpAny_field->kG,wpAny_setField_rec->kM,wpAny_passesOwn->kN,wpAny_truthy_bool->kU,binaryOp->kX,keywordEach->la,valueAt->lj,codeAny_call_builtin->lp,attributeBase->ly,Scope->lP,mem_of_lookup->lS,cLine->md,wpAny_getItem_str_slice->mf,wpAny_execs_nil->mI,wpAny_loadPart_at->nB,wpAny_call->nI,wpAny_newFunctionEnv_cells->nL,IsPair->nX,wpAny_seqItems->n4,swapsWith->om,codeAny_mono->oo,wpAny_attempt->oQ,tupleKind_room_in1->pE,wpAny_callSpecial?_slot->pS,backToKw->qh,assignEach->rg,inplaceOp->rh,PyData->rj,wpAny_pyIter_zip->rL,wpAny_standAt->sd,wpAny_updateSeq_pair->sv,letOwnedTupleGo->sL,post_val_or_str->sP,getAttrByItsOwn->sT,Keyword->tJ,Builtin->tN,Arguments->tS,NameKind->ui,typeLookup->uk,IsLongIter->uu,wpAny_pyIter_ascii->u7,isInstance->va,wpAny_letOwnedTupleGo_zip->vF,IsRangeIter->wm,wpAny_pyIter_list->wo,codeAny->wt,wpAny_newObj_type->w8,wpAny_letGo->xa,fenceModules?->xk,wpAny_onRaise->xA,treeTable->xC,wpAny_eqBool_int->xI,tupleKind->xS,wpAny_execs_cons->x5,IsZip->yy,wpAny_call_entry->yA,wpAny_pyNext_range_end->y4,wpAny_pyIter_rangeiter->y6,wpAny_pyNext_long_item->zd,wpAny_pyIter_longrange->ze,closureFor->zh,importedModules->zS,codeAny_builtin->AA,wpAny_isTrue_Compare1->AI,codeAny_call_function->AJ,wpAny_pyNext_long_end->AL,wpAny_pyIter_longiter->AM,wpAny_nextOf_list_end->AQ,wpAny_loadName_local->AU,recursionLimit->AY,subscripted->A0,wpAny_loadPart->A7,boundAndCalled->A8,DictEntry->BB,cellsFrom->BD,getItem->BE,callerA->BF,noteFrame->BG,wpAny_loadName_cell->BH,wpAny_isSubtype_exc->BQ,CmpOp->Cc,wpAny_newList->Cn,builtinsNs->CD,assign->CF,typeOf->CL,wpAny_pyIter_range->CM,Model->C5,Operator->C6,wpAny_assign_Name->C7,wpAny_Assign_Name->C8,BindsTo->DD,bindArgs->DE,wpAny_pyIter_enum->DV,PassesOwn->EB,pyNext->EC,wpAny_getItem_of->EE,wpAny_Dict_empty->EF,checkBuiltinCall->EU,sliceBounds->EZ,atKey->E1,wpAny_loadPart'->E6,standAt->FY,leaving->F0,GenState->F3,Params->F5,isTrue->F6,wpAny_Name->F7,bindL->F9,bindC->GA,typeIs_str->GH,sliceRange_one->GL,call_meets->GN,wpAny_notIn_of->GS,Reads->GV,numAt->GW,numAt_eq->GY,wpAny_newTuple->G1,wpAny_rule->G2,intBits_le_iff->HA,wpAny_setField->HC,defaultsOf->HE,storeName->IB,Fin->IC,Within->IF,spliced->IG,rule->IH,pyIter->IJ,unaryOp->IL,relabel->IP,ItemsOf->IS,Result->Kt,call->KI,Flow->K2
open PySem.Around renaming under_plainId->Bi,under->Dx
open PySem.Builtin.Dict renaming pendingCount->HL
open PySem.Builtin.List renaming listTooLong->oP,listExtendWith->F2
open PySem.Builtin.Range renaming rangeSize->me,small->BI
open PySem.Builtin.SmallTypes renaming ownedTupleIsFree->hX,nextOf->i4,ownedTupleHandOut->oB
open PySem.Builtin.Str renaming strSliceIndices->F1,subAt->KU
open PySem.Builtin.Tuple renaming tupleCompareSizes->EA
open PySem.Calls renaming spliced_cons->i9,Name_function_global->nE,callWith_builtin->qo,evalArgs_plain->sk,call_function_entry->vS,loadGlobal_global->x4,spliced_nil->DB
open PySem.CmpOp renaming NotIn->JU,In->Lo
open PySem.Code renaming quiet_builtin->vi,isFrame->DA
open PySem.Data renaming fields->AV
open PySem.Draws renaming strAscii->n9,list->CY
open PySem.EntryCells renaming newEntry->BM
open PySem.F renaming slot_list_append->hZ,type_list_append->ia,excBase_ValueError->og,attr_ValueError->qB,slot_zip_next->sQ,slot_dict_setdefault->tj,slot_dict_getitem->vE,plainAttrs_list->yk,plain_list_iadd->yT,slot_str_index->zD,type_str_index->zI,args_object_init_3->A5,args_zip_next_1->DS,entry_zip_next->EO,typeCall_zip_2->ES,newCall_zip_2->FE,entry_zip_new->FF,entry_bexc_ga->FG,slot_dict_len->FH,called_zip->IQ
open PySem.Heap renaming get?_push_of_some->av,lt_size->bp,get?_push_size->bP,get?_update_other->eo,get?_update_self->nz,get?_none_of_le->si,get?_update_ne->tw,size_push->vc,SameBut->y3,get?_push_ne->DJ,size_update->EM,IsList->Kj
open PySem.Heap.DictOf renaming new->Lm
open PySem.Heap.IsList renaming push->Ll
open PySem.Heap.IsSliceOf renaming new->KG
open PySem.Heap.SameBut renaming update->oz
open PySem.IsRange renaming new->A3
open PySem.Obj renaming mapSeq->iq,mapFields->iF,isFreed_of_fields->AR
open PySem.PassesOwn renaming never->eI,leaving->Ee
open PySem.PyData renaming eqv->fN,strOk->iX,tuple->kB,keyHash->p9,eqvAll->sf,str->uS,canLayAll0->DF,depth->DH
open PySem.SeqAt renaming notIn_listAt->CO,in_listAt->E7,EqAt->Kx
open PySem.SeqAt.Reads renaming unique->KL
open PySem.Str renaming ofString->eS,length->GG
open PySem.Txt renaming slice_le->zl,slice->ID
open PySem.Value renaming ref->eK,none->iN,int->tT,bool->t4,str->BC,type->CC,isInt_shape->C4,float->EX,isStrOf->HM,isInt->JJ,bytes->JO
open PySem.W renaming Frag->ae,kitOne->ax,nsIn->br,findIn->bX,behindTheImports->dk,mroIn->dP,kia_one->e9,mg_none_of->fq,keepIn->gp,specialIn->gI,looks_findIn->iE,mg_of->iL,hasDictIn->iS,looks_mroIn->ku,fnOf->kz,Looks->kH,boot_heap->kK,takesIn->kQ,kmHook->ma,cellsFrom_some->mn,tabIn->nr,tabObj->oi,fnOf->oI,callWith_K->pw,topFrame->pV,codeIn->qk,typeIn->qA,clsIn->sh,kas_rev->tP,lookIn->t9,kitx_tuple->ub,tail_of_in->vj,methodObj->wc,kitx_list->wq,handedIn->x6,instObj->Ap,kla_obj->AB,readsIn->AD,findCls->AE,InstAt->AX,CodeHd->A1,SharedT->BA,looks_clsIn->BO,excIn->Co,codeRec_of->CH,openGood->C3,kitx_dict->C9,kas_desc->DI,plainGet->ED,kas_tail3->EK,kas_place->EL,kat_cons->EN,kla_eval->EV,kat_yes->FC,OpenLaw->FI,topStub->FX,namesBound->F4,kat_no->He,kla_fn->HG,KdlSrc->HI,tailIn->HK,plainProg->Iy,staticsOk->IA,openSeen->IZ,gensDone->Jn,laidKept->JA,openEnds->JE
open PySem.W.Fast renaming tw14364793385576792824->BY,te14364793385576792824->B0,tw15667345088766844465->B1,te15667345088766844465->B2,tw14374325043358763698->B3,te14374325043358763698->B4,tw10110043849684766642->B5,te10110043849684766642->B6,tw14082659384304107361->B7,te14082659384304107361->B8,tw11892475500146522536->B9,te11892475500146522536->Cb,tw5923862056798008813->Cs,te5923862056798008813->Ct,tw4187177175401517315->CA,te4187177175401517315->CB
open PySem.W.Hook renaming obs->xD,val->xE
open PySem.W.KF renaming slot_gs->C1
open PySem.W.KasT renaming kasWp_bind->pf
open PySem.W.Looks renaming here->mx,ld->ET,now->KP,tag->KW
open PySem.W.OpenLaw renaming row->Kk
open PySem.W.OpenRow renaming toRowW->IE
open PySem.W.RowW renaming records->JI
open PySem.W.WData renaming int->Lc
open Sum renaming inl->mm,inr->wb
open True renaming intro->lI
noncomputable section
namespace L2
open PySem PySem.Spec PyProof.Rows
def inClass(s:gg)(j:Nat):gg:=match s with
 |.ClassDef _ _ _ body _ _ _ _ _ _ _=>body.getD j (.Pass ⟨0,0,0,0⟩)
 |_=>.Pass ⟨0,0,0,0⟩
def bh(s:gg):tS:=match s with
 |.FunctionDef _ a _ _ _ _ _ _ _ _=>a
 |_=>{ posonlyargs:=[],args:=[],vararg:=none,kwonlyargs:=[],kw_defaults:=[],kwarg:=none,defaults:=[] }
def aQ(s:gg):List gg:=match s with
 |.FunctionDef _ _ b _ _ _ _ _ _ _=>b
 |_=>[]
def az(s:gg):lP:=match s with
 |.FunctionDef _ _ _ _ _ _ sc _ _ _=>sc
 |_=>{ kind:=.function,names:=[],isGenerator:=false,isCoroutine:=false }
end L2
namespace L3
open PySem PySem.W PySem.Spec PyProof.Rows
abbrev Hh:=@BY
theorem Aa:xC=Hh:=B0
abbrev goF:=@B1
theorem Wl:@topGo=@goF:=B2
abbrev sgF:=@B3
theorem Xd:@segRun=@sgF:=B4
abbrev stF:=@B5
theorem W0:@segRunT=@stF:=B6
abbrev trF:=@B7
theorem WN:@topRun=@trF:=B8
abbrev dnF:=@B9
theorem YB:@denote=@dnF:=Cb
abbrev Y0:=@Cs
theorem Xz:@zS=@Y0:=Ct
abbrev osF:=@CA
theorem WX:@IZ=@osF:=CB
def Ez(d:BA):Option (K2×BA×Code×Pos)->BA
 |some (_,s,_,_)=>s
 |none=>d
def acO(d:ah):Option (ah×Thread)->ah
 |some (s,_)=>s
 |none=>d
def abY(d:ah):Option ah->ah
 |some s=>s
 |none=>d
def S0(w:cE)(os:ft):ah:=⟨kK w.params,C2 [],boot_drawn,boot_toks,os⟩
theorem MK(w:cE):((kK w.params).isNs ba&&(C2 []:Array F3).size==0)=true/\(kK w.params).objs.size=11/\(kK w.params).nsMap ba "__annotations__" = some (.ref 6) :=
 ⟨by kernel_rfl,by kernel_rfl,by kernel_rfl⟩
def acb:Obj:={ cls:=.type "tuple",data:=.seq #[] }
def adu:Obj:={ cls:=.none,data:=.fields #[] }
def acY:Obj:={ cls:=.type "code",data:=.fields #[.str "<module>" 182,.str "<module>" 183,.str "/claim/cut.py" 184,.int 1 0,.int 0 0,.int 0 0,.int 0 0,.int 0 0,.ref 11,.bool false,.int 181 0,.ref 12,.none,.none,.none,.none,.int 185 0,.int 1 0,.str "/claim/cut.py" 186] }
def abR:Obj:={ cls:=.type "frame",slots:=#[some (.ref 13),some (.ref 3),some (.ref 3),none,some (.str "__main__" 164),none,some (.ref 0)] }
def Sb(w:cE)(os:ft):BA :=
 ⟨.node (boot_o_0 w.params) (.node (boot_o_1 w.params) (.node (boot_o_3 w.params) (.node (boot_o_7 w.params) .nil .nil) (.node acb .nil .nil)) (.node (boot_o_5 w.params) (.node (boot_o_9 w.params) .nil .nil) (.node acY .nil .nil)))
  (.node (boot_o_2 w.params) (.node (boot_o_4 w.params) (.node (boot_o_8 w.params) .nil .nil) (.node adu .nil .nil)) (.node (boot_o_6 w.params) (.node (boot_o_10 w.params) .nil .nil) (.node abR .nil .nil))),15,{},C2 [],⟨0,0,0,0⟩,187,os⟩
def Ho(p:b5):Env:={ scope:=p.main.scope,locals:=mainNs,globals:=mainNs,cells:=[],code:=.ref 13,frame:=some 14 }
def sA(p:b5)(w:cE)(os:ft):ah:=acO (S0 w os) (goF Hh p w 11 (some (.ref 6)) 12 (S0 w os) (FX p))
def sR(p:b5)(w:cE)(os:ft):Option (K2×BA×Code×Pos):=stF Hh p w 11 (some (.ref 6)) 1 20000 (Sb w os) (piecesOf (dk p) (Ho p) (.body (dk p) (Ho p)) ⟨0,0,0,0⟩ [pV ⟨0,0,0,0⟩])
def Uy:Option (K2×BA×Code×Pos)->Pos
 |some (_,_,_,q)=>q
 |none=>⟨0,0,0,0⟩
def sE(p:b5)(w:cE)(os:ft):Option ah:=trF Hh p w 11 (some (.ref 6)) 2 (Ez (Sb w os) (sR p w os)).abs ⟨doneF .next,.body (dk p) (Ho p),Uy (sR p w os),[pV ⟨0,0,0,0⟩]⟩
def sF(p:b5)(w:cE)(os:ft):ah:=abY (S0 w os) (sE p w os)
theorem Tt{p q:b5}{loose:List Str}{Xt:ah->Bool}{α:Type}{Yf:ah->α}{Ya:cE->α}{N:Nat}{g0:Bool}{w:cE}{ev:Env}{p0 p1 qf:Pos}{p2:ft->Pos}{m a b n k:Nat}{ann:Option af}
  {Sa F:ft->ah} {Sb G:ft->BA}
  (h1:opening p=Iy p.main.scope.names) (h2:KO 600 N=true) (h3:∀s,xk p s=some s)
  (sz:((kK w.params).isNs ba&&(C2 []:Array F3).size==0)=true/\(kK w.params).objs.size=m/\(kK w.params).nsMap ba "__annotations__" = ann)
  (pre:∀os,goF Hh p w m ann a (S0 w os) (FX p)=some (Sa os,⟨dnF Hh (.body (dk p) ev),.body (dk p) ev,p0,[pV qf]⟩))
  (blk:∀os,sgF Hh p w m ann 1 b (Sa os) (blockOf (dk p) ev (.body (dk p) ev) p0 [pV qf])=some (.next,(Sb os).abs,.body (dk p) ev,p1))
  (seg:∀os,stF Hh p w m ann 1 n (Sb os) (piecesOf (dk p) ev (.body (dk p) ev) p1 [pV qf])=some (.next,G os,.body (dk p) ev,p2 os))
  (fin:∀os,trF Hh p w m ann k (G os).abs ⟨doneF .next,.body (dk p) ev,p2 os,[pV qf]⟩=some (F os))
  (le:KO (a+(b+(n+k))) N=true)
  (looks:∀os,((IA (Y0 p.main.body) (kK w.params) (F os).heap&&F4 p (F os).heap&&Jn (F os)&&JA (kK w.params) (F os).heap),osF q loose (Y0 p.main.body) Xt g0 (F os),Yf (F os))=(true,C3 q loose,Ya w)) :
  (JE xC p w N).map (fun s=>(IZ q loose (zS p.main.body) Xt g0 s,Yf s))=some (C3 q loose,Ya w):=by
 obtain⟨⟨hp,gs,dr,tk,os⟩,e,e'⟩:=b6.mp (boot_open h1 h2 h3 w)
 obtain⟨rfl,e'⟩:=Prod.mk.inj e'
 obtain⟨rfl,e'⟩:=Prod.mk.inj e'
 obtain⟨rfl,rfl⟩:=Prod.mk.inj e'
 obtain⟨z1,z2,z3⟩:=sz
 have l:=looks os
 rw[←Xz,←WX] at l
 obtain⟨l1,l⟩:=Prod.mk.inj l
 obtain⟨l2,l3⟩:=Prod.mk.inj l
 have r1:=pre os
 rw[←Wl,←YB,←Aa] at r1
 have r2:=blk os
 rw[←Xd,←Aa] at r2
 have r3:=seg os
 rw[←W0,←Aa] at r3
 have r4:=fin os
 rw[←WN,←Aa] at r4
 have r5:=piece_app (rest:=[]) (segRun_of r3) (piece_nil r4)
 rw[fA] at r5
 have r:=topRun_mono (N-(a+(b+(n+k)))) _ _ _ _ (go_top r1 (piece_block r2 r5))
 rw[Nat.add_sub_cancel' (AH le)] at r
 have t:topFrom xC p w N (S0 w os)=some (F os):=by
  unfold topFrom
  show (match _ with | true=>_ | false=>_)=_
  dsimp only[S0]
  rw[z1,z2,z3]
  dsimp only
  rw[show topRun xC p w m ann N ⟨kK w.params,C2 [],boot_drawn,boot_toks,os⟩ (FX p)=some (F os) from r]
  show (match _ with | true=>_ | false=>_)=_
  rw[l1]
 unfold JE
 rw[e]
 show (topFrom xC p w N (S0 w os)).map _=_
 rw[t]
 exact congrArg some (de l2 l3)
theorem QH(row:String){p q:b5}{loose:List Str}{Xt:ah->Bool}{α:Type}{Yf:ah->α}{Ya:cE->α}{g0:Bool}
  (h1:opening p=Iy p.main.scope.names) (h3:∀s,xk p s=some s)
  (pre:∀(b:Bool) (w:cE) (os:ft),goF Hh p (w.withFollow row b) 11 (some (.ref 6)) 12 (S0 (w.withFollow row b) os) (FX p)=some (sA p (w.withFollow row b) os,⟨dnF Hh (.body (dk p) (Ho p)),.body (dk p) (Ho p),⟨0,0,0,0⟩,[pV ⟨0,0,0,0⟩]⟩))
  (blk:∀(b:Bool) (w:cE) (os:ft),sgF Hh p (w.withFollow row b) 11 (some (.ref 6)) 1 1 (sA p (w.withFollow row b) os) (blockOf (dk p) (Ho p) (.body (dk p) (Ho p)) ⟨0,0,0,0⟩ [pV ⟨0,0,0,0⟩])=some (.next,(Sb (w.withFollow row b) os).abs,.body (dk p) (Ho p),⟨0,0,0,0⟩))
  (seg:∀(b:Bool) (w:cE) (os:ft),sR p (w.withFollow row b) os=some (.next,Ez (Sb (w.withFollow row b) os) (sR p (w.withFollow row b) os),.body (dk p) (Ho p),Uy (sR p (w.withFollow row b) os)))
  (fin:∀(b:Bool) (w:cE) (os:ft),sE p (w.withFollow row b) os=some (sF p (w.withFollow row b) os))
  (looks:∀(b:Bool) (w:cE) (os:ft),((IA (Y0 p.main.body) (kK (w.withFollow row b).params) (sF p (w.withFollow row b) os).heap&&F4 p (sF p (w.withFollow row b) os).heap&&Jn (sF p (w.withFollow row b) os)&&JA (kK (w.withFollow row b).params) (sF p (w.withFollow row b) os).heap),osF q loose (Y0 p.main.body) Xt g0 (sF p (w.withFollow row b) os),Yf (sF p (w.withFollow row b) os))=(true,C3 q loose,Ya (w.withFollow row b))) :
  LeftO p q loose Xt Yf Ya 20100 g0:=by
 have z:∀(b:Bool) (w:cE),(JE xC p (w.withFollow row b) 20100).map (fun s=>(IZ q loose (zS p.main.body) Xt g0 s,Yf s))=some (C3 q loose,Ya (w.withFollow row b)):=fun b w=>
  Tt (n:=20000) (k:=2) (Sa:=sA p (w.withFollow row b)) (Sb:=Sb (w.withFollow row b)) (G:=fun os=>Ez (Sb (w.withFollow row b) os) (sR p (w.withFollow row b) os)) (F:=sF p (w.withFollow row b)) (p2:=fun os=>Uy (sR p (w.withFollow row b) os)) h1 (by decide) h3 (MK _) (pre b w) (blk b w) (seg b w) (fin b w) (by decide) (looks b w)
 exact byRow2 row (z false) (z true)
abbrev Xw(p:b5)(w:cE)(os:ft):Prop:=goF Hh p w 11 (some (.ref 6)) 12 (S0 w os) (FX p)=some (sA p w os,⟨dnF Hh (.body (dk p) (Ho p)),.body (dk p) (Ho p),⟨0,0,0,0⟩,[pV ⟨0,0,0,0⟩]⟩)
abbrev Yx(p:b5)(w:cE)(os:ft):Prop:=sgF Hh p w 11 (some (.ref 6)) 1 1 (sA p w os) (blockOf (dk p) (Ho p) (.body (dk p) (Ho p)) ⟨0,0,0,0⟩ [pV ⟨0,0,0,0⟩])=some (.next,(Sb w os).abs,.body (dk p) (Ho p),⟨0,0,0,0⟩)
abbrev YK(p:b5)(w:cE)(os:ft):Prop:=sR p w os=some (.next,Ez (Sb w os) (sR p w os),.body (dk p) (Ho p),Uy (sR p w os))
abbrev WK(p:b5)(w:cE)(os:ft):Prop:=sE p w os=some (sF p w os)
abbrev LkA(p:b5)(w:cE)(os:ft):Prop:=(IA (Y0 p.main.body) (kK w.params) (sF p w os).heap&&F4 p (sF p w os).heap&&Jn (sF p w os)&&JA (kK w.params) (sF p w os).heap)=true
abbrev LkB(p q:b5)(loose:List Str)(Xt:ah->Bool)(g0:Bool)(w:cE)(os:ft):Prop:=osF q loose (Y0 p.main.body) Xt g0 (sF p w os)=C3 q loose
abbrev LkC(p:b5){α:Type}(Yf:ah->α)(Ya:cE->α)(w:cE)(os:ft):Prop:=Yf (sF p w os)=Ya w
theorem M4{p q:b5}{loose:List Str}{Xt:ah->Bool}{α:Type}{Yf:ah->α}{Ya:cE->α}{g0:Bool}(row:String)(h1:opening p=Iy p.main.scope.names)(h3:∀s,xk p s=some s)
  (pre:∀b (w:cE) os,Xw p (w.withFollow row b) os) (blk:∀b (w:cE) os,Yx p (w.withFollow row b) os) (seg:∀b (w:cE) os,YK p (w.withFollow row b) os) (fin:∀b (w:cE) os,WK p (w.withFollow row b) os)
  (a:∀b (w:cE) os,LkA p (w.withFollow row b) os) (b:∀b (w:cE) os,LkB p q loose Xt g0 (w.withFollow row b) os) (c:∀b (w:cE) os,LkC p Yf Ya (w.withFollow row b) os):LeftO p q loose Xt Yf Ya 20100 g0 :=
 QH row h1 h3 pre blk seg fin fun i w os=>de (a i w os) (de (b i w os) (c i w os))
end L3
namespace Law
open PySem PySem.Spec PyProof.Rows L2 L3
def top(i:Nat):gg:=PySem.Challenge.pw_borderfloor_k15_words_that_go_round_noth.main.body.getD i (.Pass ⟨0,0,0,0⟩)
abbrev en(P:F5)(k:Str)(t:Tok)(v:af):BB:=⟨p9 P k,.str k t,v⟩
open PySem.W in
def K0(P:F5):Frag:=(nat_lit 2,⟨.none,none,.dict #[] 0,#[]⟩) ::
 (nat_lit 3,⟨.type "dict",none,.dict #[en P "__name__" 165 (.str "law_borderfloor_k15_words_that_go_round_noth" 585),en P "__doc__" 166 .none,en P "__package__" 167 .none,en P "__loader__" 168 (.builtin "__main__.__loader__#opaque"),en P "__spec__" 169 .none,en P "__annotations__" 170 (.ref 6),en P "__builtins__" 171 (.ref 4),en P "__file__" 173 (.str "/claim/cut.py" 172),en P "__cached__" 174 .none,en P "added" 196 (.ref 21),en P "FloorError" 216 (.ref 31),en P "NoPiece" 232 (.ref 44),en P "TooMany" 248 (.ref 56),en P "NoDrawing" 264 (.ref 68),en P "Backward" 280 (.ref 80),en P "NoGrid" 296 (.ref 92),en P "NotAsMany" 312 (.ref 104),en P "NoFloor" 328 (.ref 116),en P "NoLine" 344 (.ref 128),en P "Nothing" 360 (.ref 140),en P "Apart" 385 (.ref 159),en P "Hole" 410 (.ref 178),en P "NoWord" 435 (.ref 197),en P "Crossed" 460 (.ref 216),en P "Open" 485 (.ref 235),en P "MOST_CELLS" 487 (.int 10 486),en P "STEPS" 508 (.ref 238),en P "corners_of" 518 (.ref 249),en P "way_of" 525 (.ref 256),en P "area_of" 535 (.ref 263),en P "check_letters" 546 (.ref 270),en P "check_crossings" 557 (.ref 277),en P "upright_sides" 568 (.ref 284),en P "cells_within" 574 (.ref 289),en P "inside_of" 584 (.ref 296),en P "_law_cell_at" 594 (.ref 303),en P "_law_corner" 602 (.ref 310),en P "_law_step" 609 (.ref 317),en P "_law_whole" 616 (.ref 324),en P "_law_pair" 624 (.ref 331),en P "_law_path" 635 (.ref 338),en P "_law_back" 644 (.ref 345),en P "_law_word" 650 (.ref 350),en P "_law_holed" 656 (.ref 355),en P "_law_grown" 673 (.ref 362),en P "_law_piece" 679 (.ref 367),en P "_law_round" 695 (.ref 374),en P "_law_rectangle" 704 (.ref 381),en P "_law_drawn" 714 (.ref 388),en P "_law_changed" 723 (.ref 395),en P "_law_area" 734 (.ref 402),en P "_law_due" 745 (.ref 409),en P "_law_alone" 753 (.ref 416),en P "_law_refusal" 760 (.ref 423),en P "_law_told" 771 (.ref 430),en P "law" 781 (.ref 437)] 56,#[]⟩) ::
 (nat_lit 15,⟨.type "tuple",none,.seq #[] 0,#[]⟩) ::
 (nat_lit 17,⟨.type "tuple",none,.seq #[.str "one" 192,.str "other" 193] 0,#[]⟩) ::
 (nat_lit 18,⟨.type "tuple",none,.seq #[] 0,#[]⟩) ::
 (nat_lit 20,⟨.type "code",none,.fields #[.str "added" 189,.str "added" 190,.str "/claim/cut.py" 191,.int 2 0,.int 2 0,.int 0 0,.int 0 0,.int 3 0,.ref 15,.bool true,.int 181 0,.ref 16,.none,.ref 17,.ref 18,.ref 19,.int 194 0,.int 2 0,.str "/claim/cut.py" 195],#[]⟩) ::
 (nat_lit 21,⟨.type "function",none,.func (oI "added" "added" (bh (top 1)) (aQ (top 1)) (az (top 1)) .none .none .none (.str "borderfloor.cells" 187) none (.ref 20) .none),#[]⟩) ::
 (nat_lit 22,⟨.type "tuple",none,.seq #[.type "ValueError"] 0,#[]⟩) ::
 (nat_lit 29,⟨.type "tuple",none,.seq #[] 0,#[]⟩) ::
 (nat_lit 30,⟨.type "dict",none,.dict #[en P "__module__" 206 (.str "borderfloor.errors" 197),en P "__firstlineno__" 210 (.int 5 209),en P "__static_attributes__" 211 (.ref 29),en P "__weakref__" 213 (.ref 32),en P "__doc__" 214 .none] 3,#[]⟩) ::
 (nat_lit 31,⟨.type "type",none,.cls ⟨"FloorError",[.type "ValueError"],[.ref 31,.type "ValueError",.type "Exception",.type "BaseException",.type "object"],30, "FloorError",true,[],[.ref 44,.ref 56,.ref 68,.ref 80,.ref 92,.ref 104,.ref 116,.ref 128,.ref 140,.ref 159,.ref 178,.ref 197,.ref 216,.ref 235],false,none,false⟩,#[some (.ref 22),none,some (.str "FloorError" 199),some (.str "FloorError" 207),some (.builtin "ValueError.__new__"),some (.bool true)]⟩) ::
 (nat_lit 32,⟨.type "getset_descriptor",none,.fields #[.str "__weakref__" 212,.ref 31,.builtin "ExceptionGroup.__weakref__",.none],#[]⟩) ::
 (nat_lit 35,⟨.type "tuple",none,.seq #[.ref 31] 0,#[]⟩) ::
 (nat_lit 42,⟨.type "tuple",none,.seq #[] 0,#[]⟩) ::
 (nat_lit 43,⟨.type "dict",none,.dict #[en P "__module__" 224 (.str "borderfloor.errors" 197),en P "__firstlineno__" 228 (.int 7 227),en P "__static_attributes__" 229 (.ref 42),en P "__doc__" 230 .none] 2,#[]⟩) ::
 (nat_lit 44,⟨.type "type",none,.cls ⟨"NoPiece",[.ref 31],[.ref 44,.ref 31,.type "ValueError",.type "Exception",.type "BaseException",.type "object"],43, "NoPiece",true,[],[],false,none,false⟩,#[some (.ref 35),none,some (.str "NoPiece" 217),some (.str "NoPiece" 225),some (.builtin "ValueError.__new__"),some (.bool true)]⟩) ::
 (nat_lit 47,⟨.type "tuple",none,.seq #[.ref 31] 0,#[]⟩) ::
 (nat_lit 54,⟨.type "tuple",none,.seq #[] 0,#[]⟩) ::
 (nat_lit 55,⟨.type "dict",none,.dict #[en P "__module__" 240 (.str "borderfloor.errors" 197),en P "__firstlineno__" 244 (.int 9 243),en P "__static_attributes__" 245 (.ref 54),en P "__doc__" 246 .none] 2,#[]⟩) ::
 (nat_lit 56,⟨.type "type",none,.cls ⟨"TooMany",[.ref 31],[.ref 56,.ref 31,.type "ValueError",.type "Exception",.type "BaseException",.type "object"],55, "TooMany",true,[],[],false,none,false⟩,#[some (.ref 47),none,some (.str "TooMany" 233),some (.str "TooMany" 241),some (.builtin "ValueError.__new__"),some (.bool true)]⟩) ::
 (nat_lit 59,⟨.type "tuple",none,.seq #[.ref 31] 0,#[]⟩) ::
 (nat_lit 66,⟨.type "tuple",none,.seq #[] 0,#[]⟩) ::
 (nat_lit 67,⟨.type "dict",none,.dict #[en P "__module__" 256 (.str "borderfloor.errors" 197),en P "__firstlineno__" 260 (.int 11 259),en P "__static_attributes__" 261 (.ref 66),en P "__doc__" 262 .none] 2,#[]⟩) ::
 (nat_lit 68,⟨.type "type",none,.cls ⟨"NoDrawing",[.ref 31],[.ref 68,.ref 31,.type "ValueError",.type "Exception",.type "BaseException",.type "object"],67, "NoDrawing",true,[],[],false,none,false⟩,#[some (.ref 59),none,some (.str "NoDrawing" 249),some (.str "NoDrawing" 257),some (.builtin "ValueError.__new__"),some (.bool true)]⟩) ::
 (nat_lit 71,⟨.type "tuple",none,.seq #[.ref 31] 0,#[]⟩) ::
 (nat_lit 78,⟨.type "tuple",none,.seq #[] 0,#[]⟩) ::
 (nat_lit 79,⟨.type "dict",none,.dict #[en P "__module__" 272 (.str "borderfloor.errors" 197),en P "__firstlineno__" 276 (.int 13 275),en P "__static_attributes__" 277 (.ref 78),en P "__doc__" 278 .none] 2,#[]⟩) ::
 (nat_lit 80,⟨.type "type",none,.cls ⟨"Backward",[.ref 31],[.ref 80,.ref 31,.type "ValueError",.type "Exception",.type "BaseException",.type "object"],79, "Backward",true,[],[],false,none,false⟩,#[some (.ref 71),none,some (.str "Backward" 265),some (.str "Backward" 273),some (.builtin "ValueError.__new__"),some (.bool true)]⟩) ::
 (nat_lit 83,⟨.type "tuple",none,.seq #[.ref 31] 0,#[]⟩) ::
 (nat_lit 90,⟨.type "tuple",none,.seq #[] 0,#[]⟩) ::
 (nat_lit 91,⟨.type "dict",none,.dict #[en P "__module__" 288 (.str "borderfloor.errors" 197),en P "__firstlineno__" 292 (.int 15 291),en P "__static_attributes__" 293 (.ref 90),en P "__doc__" 294 .none] 2,#[]⟩) ::
 (nat_lit 92,⟨.type "type",none,.cls ⟨"NoGrid",[.ref 31],[.ref 92,.ref 31,.type "ValueError",.type "Exception",.type "BaseException",.type "object"],91, "NoGrid",true,[],[],false,none,false⟩,#[some (.ref 83),none,some (.str "NoGrid" 281),some (.str "NoGrid" 289),some (.builtin "ValueError.__new__"),some (.bool true)]⟩) ::
 (nat_lit 95,⟨.type "tuple",none,.seq #[.ref 31] 0,#[]⟩) ::
 (nat_lit 102,⟨.type "tuple",none,.seq #[] 0,#[]⟩) ::
 (nat_lit 103,⟨.type "dict",none,.dict #[en P "__module__" 304 (.str "borderfloor.errors" 197),en P "__firstlineno__" 308 (.int 17 307),en P "__static_attributes__" 309 (.ref 102),en P "__doc__" 310 .none] 2,#[]⟩) ::
 (nat_lit 104,⟨.type "type",none,.cls ⟨"NotAsMany",[.ref 31],[.ref 104,.ref 31,.type "ValueError",.type "Exception",.type "BaseException",.type "object"],103, "NotAsMany",true,[],[],false,none,false⟩,#[some (.ref 95),none,some (.str "NotAsMany" 297),some (.str "NotAsMany" 305),some (.builtin "ValueError.__new__"),some (.bool true)]⟩) ::
 (nat_lit 107,⟨.type "tuple",none,.seq #[.ref 31] 0,#[]⟩) ::
 (nat_lit 114,⟨.type "tuple",none,.seq #[] 0,#[]⟩) ::
 (nat_lit 115,⟨.type "dict",none,.dict #[en P "__module__" 320 (.str "borderfloor.errors" 197),en P "__firstlineno__" 324 (.int 19 323),en P "__static_attributes__" 325 (.ref 114),en P "__doc__" 326 .none] 2,#[]⟩) ::
 (nat_lit 116,⟨.type "type",none,.cls ⟨"NoFloor",[.ref 31],[.ref 116,.ref 31,.type "ValueError",.type "Exception",.type "BaseException",.type "object"],115, "NoFloor",true,[],[],false,none,false⟩,#[some (.ref 107),none,some (.str "NoFloor" 313),some (.str "NoFloor" 321),some (.builtin "ValueError.__new__"),some (.bool true)]⟩) ::
 (nat_lit 119,⟨.type "tuple",none,.seq #[.ref 31] 0,#[]⟩) ::
 (nat_lit 126,⟨.type "tuple",none,.seq #[] 0,#[]⟩) ::
 (nat_lit 127,⟨.type "dict",none,.dict #[en P "__module__" 336 (.str "borderfloor.errors" 197),en P "__firstlineno__" 340 (.int 21 339),en P "__static_attributes__" 341 (.ref 126),en P "__doc__" 342 .none] 2,#[]⟩) ::
 (nat_lit 128,⟨.type "type",none,.cls ⟨"NoLine",[.ref 31],[.ref 128,.ref 31,.type "ValueError",.type "Exception",.type "BaseException",.type "object"],127, "NoLine",true,[],[],false,none,false⟩,#[some (.ref 119),none,some (.str "NoLine" 329),some (.str "NoLine" 337),some (.builtin "ValueError.__new__"),some (.bool true)]⟩) ::
 (nat_lit 131,⟨.type "tuple",none,.seq #[.ref 31] 0,#[]⟩) ::
 (nat_lit 138,⟨.type "tuple",none,.seq #[] 0,#[]⟩) ::
 (nat_lit 139,⟨.type "dict",none,.dict #[en P "__module__" 352 (.str "borderfloor.errors" 197),en P "__firstlineno__" 356 (.int 23 355),en P "__static_attributes__" 357 (.ref 138),en P "__doc__" 358 .none] 2,#[]⟩) ::
 (nat_lit 140,⟨.type "type",none,.cls ⟨"Nothing",[.ref 31],[.ref 140,.ref 31,.type "ValueError",.type "Exception",.type "BaseException",.type "object"],139, "Nothing",true,[],[],false,none,false⟩,#[some (.ref 131),none,some (.str "Nothing" 345),some (.str "Nothing" 353),some (.builtin "ValueError.__new__"),some (.bool true)]⟩) ::
 (nat_lit 143,⟨.type "tuple",none,.seq #[.ref 31] 0,#[]⟩) ::
 (nat_lit 150,⟨.type "tuple",none,.seq #[] 0,#[]⟩) ::
 (nat_lit 152,⟨.type "tuple",none,.seq #[.str "self" 376,.str "cell" 377] 0,#[]⟩) ::
 (nat_lit 153,⟨.type "tuple",none,.seq #[] 0,#[]⟩) ::
 (nat_lit 155,⟨.type "code",none,.fields #[.str "__init__" 373,.str "Apart.__init__" 374,.str "/claim/cut.py" 375,.int 27 0,.int 2 0,.int 0 0,.int 0 0,.int 3 0,.ref 150,.bool true,.int 181 0,.ref 151,.none,.ref 152,.ref 153,.ref 154,.int 378 0,.int 27 0,.str "/claim/cut.py" 379],#[]⟩) ::
 (nat_lit 156,⟨.type "function",none,.func (oI "__init__" "Apart.__init__" (bh (inClass (top 13) 0)) (aQ (inClass (top 13) 0)) (az (inClass (top 13) 0)) .none .none .none (.str "borderfloor.errors" 197) none (.ref 155) .none),#[]⟩) ::
 (nat_lit 157,⟨.type "tuple",none,.seq #[.str "cell" 381] 0,#[]⟩) ::
 (nat_lit 158,⟨.type "dict",none,.dict #[en P "__module__" 368 (.str "borderfloor.errors" 197),en P "__firstlineno__" 372 (.int 25 371),en P "__init__" 380 (.ref 156),en P "__static_attributes__" 382 (.ref 157),en P "__doc__" 383 .none] 2,#[]⟩) ::
 (nat_lit 159,⟨.type "type",none,.cls ⟨"Apart",[.ref 31],[.ref 159,.ref 31,.type "ValueError",.type "Exception",.type "BaseException",.type "object"],158, "Apart",true,[],[],false,none,false⟩,#[some (.ref 143),none,some (.str "Apart" 361),some (.str "Apart" 369),some (.builtin "ValueError.__new__"),some (.bool true)]⟩) ::
 (nat_lit 162,⟨.type "tuple",none,.seq #[.ref 31] 0,#[]⟩) ::
 (nat_lit 169,⟨.type "tuple",none,.seq #[] 0,#[]⟩) ::
 (nat_lit 171,⟨.type "tuple",none,.seq #[.str "self" 401,.str "cell" 402] 0,#[]⟩) ::
 (nat_lit 172,⟨.type "tuple",none,.seq #[] 0,#[]⟩) ::
 (nat_lit 174,⟨.type "code",none,.fields #[.str "__init__" 398,.str "Hole.__init__" 399,.str "/claim/cut.py" 400,.int 32 0,.int 2 0,.int 0 0,.int 0 0,.int 3 0,.ref 169,.bool true,.int 181 0,.ref 170,.none,.ref 171,.ref 172,.ref 173,.int 403 0,.int 32 0,.str "/claim/cut.py" 404],#[]⟩) ::
 (nat_lit 175,⟨.type "function",none,.func (oI "__init__" "Hole.__init__" (bh (inClass (top 14) 0)) (aQ (inClass (top 14) 0)) (az (inClass (top 14) 0)) .none .none .none (.str "borderfloor.errors" 197) none (.ref 174) .none),#[]⟩) ::
 (nat_lit 176,⟨.type "tuple",none,.seq #[.str "cell" 406] 0,#[]⟩) ::
 (nat_lit 177,⟨.type "dict",none,.dict #[en P "__module__" 393 (.str "borderfloor.errors" 197),en P "__firstlineno__" 397 (.int 30 396),en P "__init__" 405 (.ref 175),en P "__static_attributes__" 407 (.ref 176),en P "__doc__" 408 .none] 2,#[]⟩) ::
 (nat_lit 178,⟨.type "type",none,.cls ⟨"Hole",[.ref 31],[.ref 178,.ref 31,.type "ValueError",.type "Exception",.type "BaseException",.type "object"],177, "Hole",true,[],[],false,none,false⟩,#[some (.ref 162),none,some (.str "Hole" 386),some (.str "Hole" 394),some (.builtin "ValueError.__new__"),some (.bool true)]⟩) ::
 (nat_lit 181,⟨.type "tuple",none,.seq #[.ref 31] 0,#[]⟩) ::
 (nat_lit 188,⟨.type "tuple",none,.seq #[] 0,#[]⟩) ::
 (nat_lit 190,⟨.type "tuple",none,.seq #[.str "self" 426,.str "place" 427] 0,#[]⟩) ::
 (nat_lit 191,⟨.type "tuple",none,.seq #[] 0,#[]⟩) ::
 (nat_lit 193,⟨.type "code",none,.fields #[.str "__init__" 423,.str "NoWord.__init__" 424,.str "/claim/cut.py" 425,.int 37 0,.int 2 0,.int 0 0,.int 0 0,.int 3 0,.ref 188,.bool true,.int 181 0,.ref 189,.none,.ref 190,.ref 191,.ref 192,.int 428 0,.int 37 0,.str "/claim/cut.py" 429],#[]⟩) ::
 (nat_lit 194,⟨.type "function",none,.func (oI "__init__" "NoWord.__init__" (bh (inClass (top 15) 0)) (aQ (inClass (top 15) 0)) (az (inClass (top 15) 0)) .none .none .none (.str "borderfloor.errors" 197) none (.ref 193) .none),#[]⟩) ::
 (nat_lit 195,⟨.type "tuple",none,.seq #[.str "place" 431] 0,#[]⟩) ::
 (nat_lit 196,⟨.type "dict",none,.dict #[en P "__module__" 418 (.str "borderfloor.errors" 197),en P "__firstlineno__" 422 (.int 35 421),en P "__init__" 430 (.ref 194),en P "__static_attributes__" 432 (.ref 195),en P "__doc__" 433 .none] 2,#[]⟩) ::
 (nat_lit 197,⟨.type "type",none,.cls ⟨"NoWord",[.ref 31],[.ref 197,.ref 31,.type "ValueError",.type "Exception",.type "BaseException",.type "object"],196, "NoWord",true,[],[],false,none,false⟩,#[some (.ref 181),none,some (.str "NoWord" 411),some (.str "NoWord" 419),some (.builtin "ValueError.__new__"),some (.bool true)]⟩) ::
 (nat_lit 200,⟨.type "tuple",none,.seq #[.ref 31] 0,#[]⟩) ::
 (nat_lit 207,⟨.type "tuple",none,.seq #[] 0,#[]⟩) ::
 (nat_lit 209,⟨.type "tuple",none,.seq #[.str "self" 451,.str "place" 452] 0,#[]⟩) ::
 (nat_lit 210,⟨.type "tuple",none,.seq #[] 0,#[]⟩) ::
 (nat_lit 212,⟨.type "code",none,.fields #[.str "__init__" 448,.str "Crossed.__init__" 449,.str "/claim/cut.py" 450,.int 42 0,.int 2 0,.int 0 0,.int 0 0,.int 3 0,.ref 207,.bool true,.int 181 0,.ref 208,.none,.ref 209,.ref 210,.ref 211,.int 453 0,.int 42 0,.str "/claim/cut.py" 454],#[]⟩) ::
 (nat_lit 213,⟨.type "function",none,.func (oI "__init__" "Crossed.__init__" (bh (inClass (top 16) 0)) (aQ (inClass (top 16) 0)) (az (inClass (top 16) 0)) .none .none .none (.str "borderfloor.errors" 197) none (.ref 212) .none),#[]⟩) ::
 (nat_lit 214,⟨.type "tuple",none,.seq #[.str "place" 456] 0,#[]⟩) ::
 (nat_lit 215,⟨.type "dict",none,.dict #[en P "__module__" 443 (.str "borderfloor.errors" 197),en P "__firstlineno__" 447 (.int 40 446),en P "__init__" 455 (.ref 213),en P "__static_attributes__" 457 (.ref 214),en P "__doc__" 458 .none] 2,#[]⟩) ::
 (nat_lit 216,⟨.type "type",none,.cls ⟨"Crossed",[.ref 31],[.ref 216,.ref 31,.type "ValueError",.type "Exception",.type "BaseException",.type "object"],215, "Crossed",true,[],[],false,none,false⟩,#[some (.ref 200),none,some (.str "Crossed" 436),some (.str "Crossed" 444),some (.builtin "ValueError.__new__"),some (.bool true)]⟩) ::
 (nat_lit 219,⟨.type "tuple",none,.seq #[.ref 31] 0,#[]⟩) ::
 (nat_lit 226,⟨.type "tuple",none,.seq #[] 0,#[]⟩) ::
 (nat_lit 228,⟨.type "tuple",none,.seq #[.str "self" 476,.str "way" 477] 0,#[]⟩) ::
 (nat_lit 229,⟨.type "tuple",none,.seq #[] 0,#[]⟩) ::
 (nat_lit 231,⟨.type "code",none,.fields #[.str "__init__" 473,.str "Open.__init__" 474,.str "/claim/cut.py" 475,.int 47 0,.int 2 0,.int 0 0,.int 0 0,.int 3 0,.ref 226,.bool true,.int 181 0,.ref 227,.none,.ref 228,.ref 229,.ref 230,.int 478 0,.int 47 0,.str "/claim/cut.py" 479],#[]⟩) ::
 (nat_lit 232,⟨.type "function",none,.func (oI "__init__" "Open.__init__" (bh (inClass (top 17) 0)) (aQ (inClass (top 17) 0)) (az (inClass (top 17) 0)) .none .none .none (.str "borderfloor.errors" 197) none (.ref 231) .none),#[]⟩) ::
 (nat_lit 233,⟨.type "tuple",none,.seq #[.str "way" 481] 0,#[]⟩) ::
 (nat_lit 234,⟨.type "dict",none,.dict #[en P "__module__" 468 (.str "borderfloor.errors" 197),en P "__firstlineno__" 472 (.int 45 471),en P "__init__" 480 (.ref 232),en P "__static_attributes__" 482 (.ref 233),en P "__doc__" 483 .none] 2,#[]⟩) ::
 (nat_lit 235,⟨.type "type",none,.cls ⟨"Open",[.ref 31],[.ref 235,.ref 31,.type "ValueError",.type "Exception",.type "BaseException",.type "object"],234, "Open",true,[],[],false,none,false⟩,#[some (.ref 219),none,some (.str "Open" 461),some (.str "Open" 469),some (.builtin "ValueError.__new__"),some (.bool true)]⟩) ::
 (nat_lit 238,⟨.type "dict",none,.dict #[en P "e" 490 (.ref 239),en P "n" 493 (.ref 240),en P "w" 496 (.ref 241),en P "s" 500 (.ref 242)] 4,#[]⟩) ::
 (nat_lit 239,⟨.type "tuple",none,.seq #[.int 1 491,.int 0 492] 0,#[]⟩) ::
 (nat_lit 240,⟨.type "tuple",none,.seq #[.int 0 494,.int 1 495] 0,#[]⟩) ::
 (nat_lit 241,⟨.type "tuple",none,.seq #[.int (-1) 498,.int 0 499] 0,#[]⟩) ::
 (nat_lit 242,⟨.type "tuple",none,.seq #[.int 0 501,.int (-1) 503] 0,#[]⟩) ::
 (nat_lit 243,⟨.type "tuple",none,.seq #[] 0,#[]⟩) ::
 (nat_lit 245,⟨.type "tuple",none,.seq #[.str "corner" 512,.str "word" 513,.str "corners" 514,.str "letter" 515] 0,#[]⟩) ::
 (nat_lit 246,⟨.type "tuple",none,.seq #[] 0,#[]⟩) ::
 (nat_lit 248,⟨.type "code",none,.fields #[.str "corners_of" 509,.str "corners_of" 510,.str "/claim/cut.py" 511,.int 53 0,.int 2 0,.int 0 0,.int 0 0,.int 3 0,.ref 243,.bool true,.int 181 0,.ref 244,.none,.ref 245,.ref 246,.ref 247,.int 516 0,.int 53 0,.str "/claim/cut.py" 517],#[]⟩) ::
 (nat_lit 249,⟨.type "function",none,.func (oI "corners_of" "corners_of" (bh (top 21)) (aQ (top 21)) (az (top 21)) .none .none .none (.str "borderfloor.words" 488) none (.ref 248) .none),#[]⟩) ::
 (nat_lit 250,⟨.type "tuple",none,.seq #[] 0,#[]⟩) ::
 (nat_lit 252,⟨.type "tuple",none,.seq #[.str "word" 522] 0,#[]⟩) ::
 (nat_lit 253,⟨.type "tuple",none,.seq #[] 0,#[]⟩) ::
 (nat_lit 255,⟨.type "code",none,.fields #[.str "way_of" 519,.str "way_of" 520,.str "/claim/cut.py" 521,.int 58 0,.int 1 0,.int 0 0,.int 0 0,.int 3 0,.ref 250,.bool true,.int 181 0,.ref 251,.none,.ref 252,.ref 253,.ref 254,.int 523 0,.int 58 0,.str "/claim/cut.py" 524],#[]⟩) ::
 (nat_lit 256,⟨.type "function",none,.func (oI "way_of" "way_of" (bh (top 22)) (aQ (top 22)) (az (top 22)) .none .none .none (.str "borderfloor.words" 488) none (.ref 255) .none),#[]⟩) ::
 (nat_lit 257,⟨.type "tuple",none,.seq #[] 0,#[]⟩) ::
 (nat_lit 259,⟨.type "tuple",none,.seq #[.str "word" 529,.str "area" 530,.str "corner" 531,.str "letter" 532] 0,#[]⟩) ::
 (nat_lit 260,⟨.type "tuple",none,.seq #[] 0,#[]⟩) ::
 (nat_lit 262,⟨.type "code",none,.fields #[.str "area_of" 526,.str "area_of" 527,.str "/claim/cut.py" 528,.int 60 0,.int 1 0,.int 0 0,.int 0 0,.int 3 0,.ref 257,.bool true,.int 181 0,.ref 258,.none,.ref 259,.ref 260,.ref 261,.int 533 0,.int 60 0,.str "/claim/cut.py" 534],#[]⟩) ::
 (nat_lit 263,⟨.type "function",none,.func (oI "area_of" "area_of" (bh (top 23)) (aQ (top 23)) (az (top 23)) .none .none .none (.str "borderfloor.words" 488) none (.ref 262) .none),#[]⟩) ::
 (nat_lit 264,⟨.type "tuple",none,.seq #[] 0,#[]⟩) ::
 (nat_lit 266,⟨.type "tuple",none,.seq #[.str "word" 541,.str "place" 542,.str "letter" 543] 0,#[]⟩) ::
 (nat_lit 267,⟨.type "tuple",none,.seq #[] 0,#[]⟩) ::
 (nat_lit 269,⟨.type "code",none,.fields #[.str "check_letters" 538,.str "check_letters" 539,.str "/claim/cut.py" 540,.int 69 0,.int 1 0,.int 0 0,.int 0 0,.int 3 0,.ref 264,.bool true,.int 181 0,.ref 265,.none,.ref 266,.ref 267,.ref 268,.int 544 0,.int 69 0,.str "/claim/cut.py" 545],#[]⟩) ::
 (nat_lit 270,⟨.type "function",none,.func (oI "check_letters" "check_letters" (bh (top 25)) (aQ (top 25)) (az (top 25)) .none .none .none (.str "borderfloor.borders" 536) none (.ref 269) .none),#[]⟩) ::
 (nat_lit 271,⟨.type "tuple",none,.seq #[] 0,#[]⟩) ::
 (nat_lit 273,⟨.type "tuple",none,.seq #[.str "word" 550,.str "corners" 551,.str "seen" 552,.str "place" 553,.str "corner" 554] 0,#[]⟩) ::
 (nat_lit 274,⟨.type "tuple",none,.seq #[] 0,#[]⟩) ::
 (nat_lit 276,⟨.type "code",none,.fields #[.str "check_crossings" 547,.str "check_crossings" 548,.str "/claim/cut.py" 549,.int 75 0,.int 1 0,.int 0 0,.int 0 0,.int 3 0,.ref 271,.bool true,.int 181 0,.ref 272,.none,.ref 273,.ref 274,.ref 275,.int 555 0,.int 75 0,.str "/claim/cut.py" 556],#[]⟩) ::
 (nat_lit 277,⟨.type "function",none,.func (oI "check_crossings" "check_crossings" (bh (top 26)) (aQ (top 26)) (az (top 26)) .none .none .none (.str "borderfloor.borders" 536) none (.ref 276) .none),#[]⟩) ::
 (nat_lit 278,⟨.type "tuple",none,.seq #[] 0,#[]⟩) ::
 (nat_lit 280,⟨.type "tuple",none,.seq #[.str "corner" 561,.str "word" 562,.str "rows" 563,.str "here" 564,.str "letter" 565] 0,#[]⟩) ::
 (nat_lit 281,⟨.type "tuple",none,.seq #[] 0,#[]⟩) ::
 (nat_lit 283,⟨.type "code",none,.fields #[.str "upright_sides" 558,.str "upright_sides" 559,.str "/claim/cut.py" 560,.int 83 0,.int 2 0,.int 0 0,.int 0 0,.int 3 0,.ref 278,.bool true,.int 181 0,.ref 279,.none,.ref 280,.ref 281,.ref 282,.int 566 0,.int 83 0,.str "/claim/cut.py" 567],#[]⟩) ::
 (nat_lit 284,⟨.type "function",none,.func (oI "upright_sides" "upright_sides" (bh (top 27)) (aQ (top 27)) (az (top 27)) .none .none .none (.str "borderfloor.borders" 536) none (.ref 283) .none),#[]⟩) ::
 (nat_lit 285,⟨.type "tuple",none,.seq #[] 0,#[]⟩) ::
 (nat_lit 288,⟨.type "code",none,.fields #[.str "cells_within" 569,.str "cells_within" 570,.str "/claim/cut.py" 571,.int 91 0,.int 2 0,.int 0 0,.int 0 0,.int 3 0,.ref 285,.bool true,.int 181 0,.ref 286,.none,.none,.none,.ref 287,.int 572 0,.int 91 0,.str "/claim/cut.py" 573],#[]⟩) ::
 (nat_lit 289,⟨.type "function",none,.func (oI "cells_within" "cells_within" (bh (top 28)) (aQ (top 28)) (az (top 28)) .none .none .none (.str "borderfloor.borders" 536) none (.ref 288) .none),#[]⟩) ::
 (nat_lit 290,⟨.type "tuple",none,.seq #[] 0,#[]⟩) ::
 (nat_lit 292,⟨.type "tuple",none,.seq #[.str "corner" 578,.str "word" 579,.str "way" 580,.str "area" 581] 0,#[]⟩) ::
 (nat_lit 293,⟨.type "tuple",none,.seq #[] 0,#[]⟩) ::
 (nat_lit 295,⟨.type "code",none,.fields #[.str "inside_of" 575,.str "inside_of" 576,.str "/claim/cut.py" 577,.int 99 0,.int 2 0,.int 0 0,.int 0 0,.int 3 0,.ref 290,.bool true,.int 181 0,.ref 291,.none,.ref 292,.ref 293,.ref 294,.int 582 0,.int 99 0,.str "/claim/cut.py" 583],#[]⟩) ::
 (nat_lit 296,⟨.type "function",none,.func (oI "inside_of" "inside_of" (bh (top 29)) (aQ (top 29)) (az (top 29)) .none .none .none (.str "borderfloor.borders" 536) none (.ref 295) .none),#[]⟩) ::
 (nat_lit 297,⟨.type "tuple",none,.seq #[] 0,#[]⟩) ::
 (nat_lit 299,⟨.type "tuple",none,.seq #[.str "_law_script" 590,.str "_law_k" 591] 0,#[]⟩) ::
 (nat_lit 300,⟨.type "tuple",none,.seq #[] 0,#[]⟩) ::
 (nat_lit 302,⟨.type "code",none,.fields #[.str "_law_cell_at" 587,.str "_law_cell_at" 588,.str "/claim/cut.py" 589,.int 112 0,.int 2 0,.int 0 0,.int 0 0,.int 3 0,.ref 297,.bool true,.int 181 0,.ref 298,.none,.ref 299,.ref 300,.ref 301,.int 592 0,.int 112 0,.str "/claim/cut.py" 593],#[]⟩) ::
 (nat_lit 303,⟨.type "function",none,.func (oI "_law_cell_at" "_law_cell_at" (bh (top 31)) (aQ (top 31)) (az (top 31)) .none .none .none (.str "law_borderfloor_k15_words_that_go_round_noth" 585) none (.ref 302) .none),#[]⟩) ::
 (nat_lit 304,⟨.type "tuple",none,.seq #[] 0,#[]⟩) ::
 (nat_lit 306,⟨.type "tuple",none,.seq #[.str "_law_cell" 598,.str "_law_other" 599] 0,#[]⟩) ::
 (nat_lit 307,⟨.type "tuple",none,.seq #[] 0,#[]⟩) ::
 (nat_lit 309,⟨.type "code",none,.fields #[.str "_law_corner" 595,.str "_law_corner" 596,.str "/claim/cut.py" 597,.int 118 0,.int 2 0,.int 0 0,.int 0 0,.int 3 0,.ref 304,.bool true,.int 181 0,.ref 305,.none,.ref 306,.ref 307,.ref 308,.int 600 0,.int 118 0,.str "/claim/cut.py" 601],#[]⟩) ::
 (nat_lit 310,⟨.type "function",none,.func (oI "_law_corner" "_law_corner" (bh (top 32)) (aQ (top 32)) (az (top 32)) .none .none .none (.str "law_borderfloor_k15_words_that_go_round_noth" 585) none (.ref 309) .none),#[]⟩) ::
 (nat_lit 311,⟨.type "tuple",none,.seq #[] 0,#[]⟩) ::
 (nat_lit 313,⟨.type "tuple",none,.seq #[.str "_law_letter" 606] 0,#[]⟩) ::
 (nat_lit 314,⟨.type "tuple",none,.seq #[] 0,#[]⟩) ::
 (nat_lit 316,⟨.type "code",none,.fields #[.str "_law_step" 603,.str "_law_step" 604,.str "/claim/cut.py" 605,.int 122 0,.int 1 0,.int 0 0,.int 0 0,.int 3 0,.ref 311,.bool true,.int 181 0,.ref 312,.none,.ref 313,.ref 314,.ref 315,.int 607 0,.int 122 0,.str "/claim/cut.py" 608],#[]⟩) ::
 (nat_lit 317,⟨.type "function",none,.func (oI "_law_step" "_law_step" (bh (top 33)) (aQ (top 33)) (az (top 33)) .none .none .none (.str "law_borderfloor_k15_words_that_go_round_noth" 585) none (.ref 316) .none),#[]⟩) ::
 (nat_lit 332,⟨.type "tuple",none,.seq #[] 0,#[]⟩) ::
 (nat_lit 334,⟨.type "tuple",none,.seq #[.str "_law_corner_here" 628,.str "_law_word_here" 629,.str "_law_path_here" 630,.str "_law_letter" 631,.str "_law_step_here" 632] 0,#[]⟩) ::
 (nat_lit 335,⟨.type "tuple",none,.seq #[] 0,#[]⟩) ::
 (nat_lit 337,⟨.type "code",none,.fields #[.str "_law_path" 625,.str "_law_path" 626,.str "/claim/cut.py" 627,.int 130 0,.int 2 0,.int 0 0,.int 0 0,.int 3 0,.ref 332,.bool true,.int 181 0,.ref 333,.none,.ref 334,.ref 335,.ref 336,.int 633 0,.int 130 0,.str "/claim/cut.py" 634],#[]⟩) ::
 (nat_lit 338,⟨.type "function",none,.func (oI "_law_path" "_law_path" (bh (top 36)) (aQ (top 36)) (az (top 36)) .none .none .none (.str "law_borderfloor_k15_words_that_go_round_noth" 585) none (.ref 337) .none),#[]⟩) ::
 (nat_lit 339,⟨.type "tuple",none,.seq #[] 0,#[]⟩) ::
 (nat_lit 341,⟨.type "tuple",none,.seq #[.str "_law_word_here" 639,.str "_law_made" 640,.str "_law_letter" 641] 0,#[]⟩) ::
 (nat_lit 342,⟨.type "tuple",none,.seq #[] 0,#[]⟩) ::
 (nat_lit 344,⟨.type "code",none,.fields #[.str "_law_back" 636,.str "_law_back" 637,.str "/claim/cut.py" 638,.int 136 0,.int 1 0,.int 0 0,.int 0 0,.int 3 0,.ref 339,.bool true,.int 181 0,.ref 340,.none,.ref 341,.ref 342,.ref 343,.int 642 0,.int 136 0,.str "/claim/cut.py" 643],#[]⟩) ::
 (nat_lit 345,⟨.type "function",none,.func (oI "_law_back" "_law_back" (bh (top 37)) (aQ (top 37)) (az (top 37)) .none .none .none (.str "law_borderfloor_k15_words_that_go_round_noth" 585) none (.ref 344) .none),#[]⟩) ::
 (nat_lit 346,⟨.type "tuple",none,.seq #[] 0,#[]⟩) ::
 (nat_lit 349,⟨.type "code",none,.fields #[.str "_law_word" 645,.str "_law_word" 646,.str "/claim/cut.py" 647,.int 141 0,.int 3 0,.int 0 0,.int 0 0,.int 3 0,.ref 346,.bool true,.int 181 0,.ref 347,.none,.none,.none,.ref 348,.int 648 0,.int 141 0,.str "/claim/cut.py" 649],#[]⟩) ::
 (nat_lit 350,⟨.type "function",none,.func (oI "_law_word" "_law_word" (bh (top 38)) (aQ (top 38)) (az (top 38)) .none .none .none (.str "law_borderfloor_k15_words_that_go_round_noth" 585) none (.ref 349) .none),#[]⟩) ::
 (nat_lit 351,⟨.type "tuple",none,.seq #[] 0,#[]⟩) ::
 (nat_lit 354,⟨.type "code",none,.fields #[.str "_law_holed" 651,.str "_law_holed" 652,.str "/claim/cut.py" 653,.int 143 0,.int 1 0,.int 0 0,.int 0 0,.int 3 0,.ref 351,.bool true,.int 181 0,.ref 352,.none,.none,.none,.ref 353,.int 654 0,.int 143 0,.str "/claim/cut.py" 655],#[]⟩) ::
 (nat_lit 355,⟨.type "function",none,.func (oI "_law_holed" "_law_holed" (bh (top 39)) (aQ (top 39)) (az (top 39)) .none .none .none (.str "law_borderfloor_k15_words_that_go_round_noth" 585) none (.ref 354) .none),#[]⟩) ::
 (nat_lit 356,⟨.type "tuple",none,.seq #[] 0,#[]⟩) ::
 (nat_lit 358,⟨.type "tuple",none,.seq #[.str "_law_script" 660,.str "_law_at" 661,.str "_law_many" 662,.str "_law_cells" 663,.str "_law_k" 664,.str "_law_cell" 665,.str "_law_x" 666,.str "_law_y" 667,.str "_law_turn" 668,.str "_law_step_here" 669,.str "_law_new" 670] 0,#[]⟩) ::
 (nat_lit 359,⟨.type "tuple",none,.seq #[] 0,#[]⟩) ::
 (nat_lit 361,⟨.type "code",none,.fields #[.str "_law_grown" 657,.str "_law_grown" 658,.str "/claim/cut.py" 659,.int 161 0,.int 3 0,.int 0 0,.int 0 0,.int 3 0,.ref 356,.bool true,.int 181 0,.ref 357,.none,.ref 358,.ref 359,.ref 360,.int 671 0,.int 161 0,.str "/claim/cut.py" 672],#[]⟩) ::
 (nat_lit 362,⟨.type "function",none,.func (oI "_law_grown" "_law_grown" (bh (top 40)) (aQ (top 40)) (az (top 40)) .none .none .none (.str "law_borderfloor_k15_words_that_go_round_noth" 585) none (.ref 361) .none),#[]⟩) ::
 (nat_lit 363,⟨.type "tuple",none,.seq #[] 0,#[]⟩) ::
 (nat_lit 366,⟨.type "code",none,.fields #[.str "_law_piece" 674,.str "_law_piece" 675,.str "/claim/cut.py" 676,.int 175 0,.int 2 0,.int 0 0,.int 0 0,.int 3 0,.ref 363,.bool true,.int 181 0,.ref 364,.none,.none,.none,.ref 365,.int 677 0,.int 175 0,.str "/claim/cut.py" 678],#[]⟩) ::
 (nat_lit 367,⟨.type "function",none,.func (oI "_law_piece" "_law_piece" (bh (top 41)) (aQ (top 41)) (az (top 41)) .none .none .none (.str "law_borderfloor_k15_words_that_go_round_noth" 585) none (.ref 366) .none),#[]⟩) ::
 (nat_lit 368,⟨.type "tuple",none,.seq #[] 0,#[]⟩) ::
 (nat_lit 370,⟨.type "tuple",none,.seq #[.str "_law_piece_here" 683,.str "_law_sides" 684,.str "_law_x" 685,.str "_law_y" 686,.str "_law_letter" 687,.str "_law_corner_here" 688,.str "_law_other" 689,.str "_law_word_here" 690,.str "_law_k" 691,.str "_law_step_here" 692] 0,#[]⟩) ::
 (nat_lit 371,⟨.type "tuple",none,.seq #[] 0,#[]⟩) ::
 (nat_lit 373,⟨.type "code",none,.fields #[.str "_law_round" 680,.str "_law_round" 681,.str "/claim/cut.py" 682,.int 178 0,.int 1 0,.int 0 0,.int 0 0,.int 3 0,.ref 368,.bool true,.int 181 0,.ref 369,.none,.ref 370,.ref 371,.ref 372,.int 693 0,.int 178 0,.str "/claim/cut.py" 694],#[]⟩) ::
 (nat_lit 374,⟨.type "function",none,.func (oI "_law_round" "_law_round" (bh (top 42)) (aQ (top 42)) (az (top 42)) .none .none .none (.str "law_borderfloor_k15_words_that_go_round_noth" 585) none (.ref 373) .none),#[]⟩) ::
 (nat_lit 375,⟨.type "tuple",none,.seq #[] 0,#[]⟩) ::
 (nat_lit 377,⟨.type "tuple",none,.seq #[.str "_law_cell" 699,.str "_law_wide" 700,.str "_law_high" 701] 0,#[]⟩) ::
 (nat_lit 378,⟨.type "tuple",none,.seq #[] 0,#[]⟩) ::
 (nat_lit 380,⟨.type "code",none,.fields #[.str "_law_rectangle" 696,.str "_law_rectangle" 697,.str "/claim/cut.py" 698,.int 191 0,.int 1 0,.int 0 0,.int 0 0,.int 3 0,.ref 375,.bool true,.int 181 0,.ref 376,.none,.ref 377,.ref 378,.ref 379,.int 702 0,.int 191 0,.str "/claim/cut.py" 703],#[]⟩) ::
 (nat_lit 381,⟨.type "function",none,.func (oI "_law_rectangle" "_law_rectangle" (bh (top 43)) (aQ (top 43)) (az (top 43)) .none .none .none (.str "law_borderfloor_k15_words_that_go_round_noth" 585) none (.ref 380) .none),#[]⟩) ::
 (nat_lit 382,⟨.type "tuple",none,.seq #[] 0,#[]⟩) ::
 (nat_lit 384,⟨.type "tuple",none,.seq #[.str "_law_script" 708,.str "_law_cell" 709,.str "_law_word_here" 710,.str "_law_at" 711] 0,#[]⟩) ::
 (nat_lit 385,⟨.type "tuple",none,.seq #[] 0,#[]⟩) ::
 (nat_lit 387,⟨.type "code",none,.fields #[.str "_law_drawn" 705,.str "_law_drawn" 706,.str "/claim/cut.py" 707,.int 195 0,.int 1 0,.int 0 0,.int 0 0,.int 3 0,.ref 382,.bool true,.int 181 0,.ref 383,.none,.ref 384,.ref 385,.ref 386,.int 712 0,.int 195 0,.str "/claim/cut.py" 713],#[]⟩) ::
 (nat_lit 388,⟨.type "function",none,.func (oI "_law_drawn" "_law_drawn" (bh (top 44)) (aQ (top 44)) (az (top 44)) .none .none .none (.str "law_borderfloor_k15_words_that_go_round_noth" 585) none (.ref 387) .none),#[]⟩) ::
 (nat_lit 389,⟨.type "tuple",none,.seq #[] 0,#[]⟩) ::
 (nat_lit 391,⟨.type "tuple",none,.seq #[.str "_law_word_here" 718,.str "_law_cell" 719,.str "_law_at" 720] 0,#[]⟩) ::
 (nat_lit 392,⟨.type "tuple",none,.seq #[] 0,#[]⟩) ::
 (nat_lit 394,⟨.type "code",none,.fields #[.str "_law_changed" 715,.str "_law_changed" 716,.str "/claim/cut.py" 717,.int 207 0,.int 2 0,.int 0 0,.int 0 0,.int 3 0,.ref 389,.bool true,.int 181 0,.ref 390,.none,.ref 391,.ref 392,.ref 393,.int 721 0,.int 207 0,.str "/claim/cut.py" 722],#[]⟩) ::
 (nat_lit 395,⟨.type "function",none,.func (oI "_law_changed" "_law_changed" (bh (top 45)) (aQ (top 45)) (az (top 45)) .none .none .none (.str "law_borderfloor_k15_words_that_go_round_noth" 585) none (.ref 394) .none),#[]⟩) ::
 (nat_lit 396,⟨.type "tuple",none,.seq #[] 0,#[]⟩) ::
 (nat_lit 398,⟨.type "tuple",none,.seq #[.str "_law_word_here" 727,.str "_law_path_here" 728,.str "_law_area_here" 729,.str "_law_letter" 730,.str "_law_corner_here" 731] 0,#[]⟩) ::
 (nat_lit 399,⟨.type "tuple",none,.seq #[] 0,#[]⟩) ::
 (nat_lit 401,⟨.type "code",none,.fields #[.str "_law_area" 724,.str "_law_area" 725,.str "/claim/cut.py" 726,.int 218 0,.int 2 0,.int 0 0,.int 0 0,.int 3 0,.ref 396,.bool true,.int 181 0,.ref 397,.none,.ref 398,.ref 399,.ref 400,.int 732 0,.int 218 0,.str "/claim/cut.py" 733],#[]⟩) ::
 (nat_lit 402,⟨.type "function",none,.func (oI "_law_area" "_law_area" (bh (top 46)) (aQ (top 46)) (az (top 46)) .none .none .none (.str "law_borderfloor_k15_words_that_go_round_noth" 585) none (.ref 401) .none),#[]⟩) ::
 (nat_lit 403,⟨.type "tuple",none,.seq #[] 0,#[]⟩) ::
 (nat_lit 405,⟨.type "tuple",none,.seq #[.str "_law_word_here" 738,.str "_law_place" 739,.str "_law_letter" 740,.str "_law_path_here" 741,.str "_law_area_here" 742] 0,#[]⟩) ::
 (nat_lit 406,⟨.type "tuple",none,.seq #[] 0,#[]⟩) ::
 (nat_lit 408,⟨.type "code",none,.fields #[.str "_law_due" 735,.str "_law_due" 736,.str "/claim/cut.py" 737,.int 223 0,.int 1 0,.int 0 0,.int 0 0,.int 3 0,.ref 403,.bool true,.int 181 0,.ref 404,.none,.ref 405,.ref 406,.ref 407,.int 743 0,.int 223 0,.str "/claim/cut.py" 744],#[]⟩) ::
 (nat_lit 409,⟨.type "function",none,.func (oI "_law_due" "_law_due" (bh (top 47)) (aQ (top 47)) (az (top 47)) .none .none .none (.str "law_borderfloor_k15_words_that_go_round_noth" 585) none (.ref 408) .none),#[]⟩) ::
 (nat_lit 410,⟨.type "tuple",none,.seq #[] 0,#[]⟩) ::
 (nat_lit 412,⟨.type "tuple",none,.seq #[.str "_law_e" 749,.str "_law_kinds" 750] 0,#[]⟩) ::
 (nat_lit 413,⟨.type "tuple",none,.seq #[] 0,#[]⟩) ::
 (nat_lit 415,⟨.type "code",none,.fields #[.str "_law_alone" 746,.str "_law_alone" 747,.str "/claim/cut.py" 748,.int 241 0,.int 1 0,.int 0 0,.int 0 0,.int 3 0,.ref 410,.bool true,.int 181 0,.ref 411,.none,.ref 412,.ref 413,.ref 414,.int 751 0,.int 241 0,.str "/claim/cut.py" 752],#[]⟩) ::
 (nat_lit 416,⟨.type "function",none,.func (oI "_law_alone" "_law_alone" (bh (top 48)) (aQ (top 48)) (az (top 48)) .none .none .none (.str "law_borderfloor_k15_words_that_go_round_noth" 585) none (.ref 415) .none),#[]⟩) ::
 (nat_lit 417,⟨.type "tuple",none,.seq #[] 0,#[]⟩) ::
 (nat_lit 419,⟨.type "tuple",none,.seq #[.str "_law_e" 757] 0,#[]⟩) ::
 (nat_lit 420,⟨.type "tuple",none,.seq #[] 0,#[]⟩) ::
 (nat_lit 422,⟨.type "code",none,.fields #[.str "_law_refusal" 754,.str "_law_refusal" 755,.str "/claim/cut.py" 756,.int 248 0,.int 1 0,.int 0 0,.int 0 0,.int 3 0,.ref 417,.bool true,.int 181 0,.ref 418,.none,.ref 419,.ref 420,.ref 421,.int 758 0,.int 248 0,.str "/claim/cut.py" 759],#[]⟩) ::
 (nat_lit 423,⟨.type "function",none,.func (oI "_law_refusal" "_law_refusal" (bh (top 49)) (aQ (top 49)) (az (top 49)) .none .none .none (.str "law_borderfloor_k15_words_that_go_round_noth" 585) none (.ref 422) .none),#[]⟩) ::
 (nat_lit 424,⟨.type "tuple",none,.seq #[] 0,#[]⟩) ::
 (nat_lit 426,⟨.type "tuple",none,.seq #[.str "_law_corner_here" 764,.str "_law_word_here" 765,.str "_law_found" 766,.str "_law_told_here" 767,.str "_law_e" 768] 0,#[]⟩) ::
 (nat_lit 427,⟨.type "tuple",none,.seq #[] 0,#[]⟩) ::
 (nat_lit 429,⟨.type "code",none,.fields #[.str "_law_told" 761,.str "_law_told" 762,.str "/claim/cut.py" 763,.int 262 0,.int 2 0,.int 0 0,.int 0 0,.int 3 0,.ref 424,.bool true,.int 181 0,.ref 425,.none,.ref 426,.ref 427,.ref 428,.int 769 0,.int 262 0,.str "/claim/cut.py" 770],#[]⟩) ::
 (nat_lit 430,⟨.type "function",none,.func (oI "_law_told" "_law_told" (bh (top 50)) (aQ (top 50)) (az (top 50)) .none .none .none (.str "law_borderfloor_k15_words_that_go_round_noth" 585) none (.ref 429) .none),#[]⟩) ::
 (nat_lit 431,⟨.type "tuple",none,.seq #[] 0,#[]⟩) ::
 (nat_lit 433,⟨.type "tuple",none,.seq #[.str "_law_script" 775,.str "_law_corner_here" 776,.str "_law_word_here" 777,.str "_law_due_here" 778] 0,#[]⟩) ::
 (nat_lit 434,⟨.type "tuple",none,.seq #[] 0,#[]⟩) ::
 (nat_lit 436,⟨.type "code",none,.fields #[.str "law" 772,.str "law" 773,.str "/claim/cut.py" 774,.int 274 0,.int 1 0,.int 0 0,.int 0 0,.int 3 0,.ref 431,.bool true,.int 181 0,.ref 432,.none,.ref 433,.ref 434,.ref 435,.int 779 0,.int 274 0,.str "/claim/cut.py" 780],#[]⟩) ::
 (nat_lit 437,⟨.type "function",none,.func (oI "law" "law" (bh (top 51)) (aQ (top 51)) (az (top 51)) .none .none .none (.str "law_borderfloor_k15_words_that_go_round_noth" 585) none (.ref 436) .none),#[]⟩)::[]
def kA:List aE:=[2,3,15,17,18,20,21,22,29,30,31,32,35,42,43,44,47,54,55,56,59,66,67,68,71,78,79,80,83,90,91,92,95,102,103,104,107,114,115,116,119,126,127,128,131,138,139,140,143,150,152,153,155,156,157,158,159,162,169,171,172,174,175,176,177,178,181,188,190,191,193,194,195,196,197,200,207,209,210,212,213,214,215,216,219,226,228,229,231,232,233,234,235,238,239,240,241,242,243,245,246,248,249,250,252,253,255,256,257,259,260,262,263,264,266,267,269,270,271,273,274,276,277,278,280,281,283,284,285,288,289,290,292,293,295,296,297,299,300,302,303,304,306,307,309,310,311,313,314,316,317,332,334,335,337,338,339,341,342,344,345,346,349,350,351,354,355,356,358,359,361,362,363,366,367,368,370,371,373,374,375,377,378,380,381,382,384,385,387,388,389,391,392,394,395,396,398,399,401,402,403,405,406,408,409,410,412,413,415,416,417,419,420,422,423,424,426,427,429,430,431,433,434,436,437]
theorem kE(P:F5):kA=(K0 P).map (·.1):=by kernel_rfl
def vw:b5:={ PySem.Challenge.pw_borderfloor_k15_words_that_go_round_noth with main:={ (PySem.Challenge.pw_borderfloor_k15_words_that_go_round_noth).main with body:=[top 1,top 3,top 4,top 5,top 6,top 7,top 8,top 9,top 10,top 11,top 12,top 13,top 14,top 15,top 16,top 17,top 18,top 20,top 21,top 22,top 23,top 25,top 26,top 27,top 28,top 29,top 31,top 32,top 33,top 34,top 35,top 36,top 37,top 38,top 39,top 40,top 41,top 42,top 43,top 44,top 45,top 46,top 47,top 48,top 49,top 50,top 51] } }
def lo:List Str:=["STEPS"]
abbrev xT(s:ah):Bool:=PySem.W.xlAt vw [] s&&PySem.W.recOk (JI (IE (Kk PySem.Challenge.rw_borderfloor_k15_words_that_go_round_noth))) s
theorem ld1:PySem.W.opening PySem.Challenge.pw_borderfloor_k15_words_that_go_round_noth=PySem.W.plainProg (PySem.Challenge.pw_borderfloor_k15_words_that_go_round_noth).main.scope.names:=by kernel_rfl
theorem ld3(s:ah):xk PySem.Challenge.pw_borderfloor_k15_words_that_go_round_noth s=some s:=by kernel_rfl
theorem acV(w:cE)(os:ft):Xw PySem.Challenge.pw_borderfloor_k15_words_that_go_round_noth (w.withFollow "special-get-raises" false) os:=by kernel_rfl
theorem acQ(w:cE)(os:ft):Xw PySem.Challenge.pw_borderfloor_k15_words_that_go_round_noth (w.withFollow "special-get-raises" true) os:=by kernel_rfl
theorem adk(w:cE)(os:ft):Yx PySem.Challenge.pw_borderfloor_k15_words_that_go_round_noth (w.withFollow "special-get-raises" false) os:=by kernel_rfl
theorem acA(w:cE)(os:ft):Yx PySem.Challenge.pw_borderfloor_k15_words_that_go_round_noth (w.withFollow "special-get-raises" true) os:=by kernel_rfl
theorem acd(w:cE)(os:ft):YK PySem.Challenge.pw_borderfloor_k15_words_that_go_round_noth (w.withFollow "special-get-raises" false) os:=by kernel_rfl
theorem acT(w:cE)(os:ft):YK PySem.Challenge.pw_borderfloor_k15_words_that_go_round_noth (w.withFollow "special-get-raises" true) os:=by kernel_rfl
theorem ab0(w:cE)(os:ft):WK PySem.Challenge.pw_borderfloor_k15_words_that_go_round_noth (w.withFollow "special-get-raises" false) os:=by kernel_rfl
theorem adf(w:cE)(os:ft):WK PySem.Challenge.pw_borderfloor_k15_words_that_go_round_noth (w.withFollow "special-get-raises" true) os:=by kernel_rfl
theorem acg(w:cE)(os:ft):LkA PySem.Challenge.pw_borderfloor_k15_words_that_go_round_noth (w.withFollow "special-get-raises" false) os:=by kernel_rfl
theorem acD(w:cE)(os:ft):LkA PySem.Challenge.pw_borderfloor_k15_words_that_go_round_noth (w.withFollow "special-get-raises" true) os:=by kernel_rfl
theorem adn(w:cE)(os:ft):LkB PySem.Challenge.pw_borderfloor_k15_words_that_go_round_noth vw lo xT true (w.withFollow "special-get-raises" false) os:=by kernel_rfl
theorem adE(w:cE)(os:ft):LkB PySem.Challenge.pw_borderfloor_k15_words_that_go_round_noth vw lo xT true (w.withFollow "special-get-raises" true) os:=by kernel_rfl
theorem acG(w:cE)(os:ft):LkC PySem.Challenge.pw_borderfloor_k15_words_that_go_round_noth (xD (ma K0 kA kE [364])) (xE (ma K0 kA kE [364])) (w.withFollow "special-get-raises" false) os:=by kernel_rfl
theorem adz(w:cE)(os:ft):LkC PySem.Challenge.pw_borderfloor_k15_words_that_go_round_noth (xD (ma K0 kA kE [364])) (xE (ma K0 kA kE [364])) (w.withFollow "special-get-raises" true) os:=by kernel_rfl
theorem ld:PySem.W.LeftO PySem.Challenge.pw_borderfloor_k15_words_that_go_round_noth vw lo xT (xD (ma K0 kA kE [364])) (xE (ma K0 kA kE [364])) 20100 :=
 M4 "special-get-raises" ld1 ld3 (fun b=>by cases b;exact acV;exact acQ) (fun b=>by cases b;exact adk;exact acA) (fun b=>by cases b;exact acd;exact acT) (fun b=>by cases b;exact ab0;exact adf) (fun b=>by cases b;exact acg;exact acD) (fun b=>by cases b;exact adn;exact adE) (fun b=>by cases b;exact acG;exact adz)
end Law
namespace L2
open PySem PySem.Spec PyProof.Rows
abbrev Key:=Sum Int Str
def zb:Key->af->Bool
 |.inl k,v=>JJ k v
 |.inr x,v=>HM x v
def acU(w:cE):Key->Int
 |.inl k=>hashInt k
 |.inr x=>hashStr w x
theorem cO:∀ {k:Key} {v:af},zb k v=true->(∃i t,k=mm i/\v=tT i t)\/(∃x t,k=wb x/\v=BC x t)
 |.inl i,v,h=>by
  obtain⟨t,e⟩:=C4 (k:=i) (v:=v) h
  exact .inl ⟨i,t,rfl,e⟩
 |.inr x,v,h=>by
  obtain⟨t,e⟩:=Value.isStrOf_shape (x:=x) (v:=v) h
  exact .inr ⟨x,t,rfl,e⟩
theorem Nm(i:Int)(t:Tok):zb (.inl i) (.int i t)=true:=by simp[zb,JJ]
theorem Kg(x:Str)(t:Tok):zb (.inr x) (.str x t)=true:=by simp[zb,HM]
theorem YF(a b:Int):decide ((mm a:Key)=mm b)=(a==b):=by
 by_cases e:a=b
 ·subst e;simp
 ·have h:¬(mm a:Key)=mm b:=fun q=>e (Sum.inl.inj q)
  rw[decide_eq_false h]
  exact (beq_eq_false_iff_ne.mpr e).symm
theorem Wk(a b:Str):decide ((wb a:Key)=wb b)=decide (a=b):=by
 by_cases e:a=b
 ·subst e;simp
 ·have h:¬(wb a:Key)=wb b:=fun q=>e (Sum.inr.inj q)
  rw[decide_eq_false h,decide_eq_false e]
theorem YS(a:Int)(b:Str):decide ((mm a:Key)=wb b)=false:=decide_eq_false (fun q=>nomatch q)
theorem YH(a:Str)(b:Int):decide ((wb a:Key)=mm b)=false:=decide_eq_false (fun q=>nomatch q)
def bO(prog:b5)(w:cE):PySem.KeyKind prog w Key where
 is:=zb
 hash:=acU w
 inj:=fun v a b ha hb=>by
  rcases cO ha with ⟨i,t,rfl,rfl⟩ | ⟨x,t,rfl,rfl⟩
  ·rcases cO hb with ⟨j,u,rfl,e⟩ | ⟨y,u,rfl,e⟩
   ·injection e with e1 _;rw[e1]
   ·exact nomatch e
  ·rcases cO hb with ⟨j,u,rfl,e⟩ | ⟨y,u,rfl,e⟩
   ·exact nomatch e
   ·injection e with e1 _;rw[e1]
 byValue:=fun k v h=>by
  rcases cO h with ⟨i,t,rfl,rfl⟩ | ⟨x,t,rfl,rfl⟩ <;> rfl
 pyHash:=fun hv h=>by
  rcases cO hv with ⟨i,t,rfl,rfl⟩ | ⟨x,t,rfl,rfl⟩
  ·exact wpAny_pyHash_int h
  ·exact wpAny_pyHash_str h
 eqBool:=fun hu hv h=>by
  rcases cO hu with ⟨i,t,rfl,rfl⟩ | ⟨x,t,rfl,rfl⟩
  ·rcases cO hv with ⟨j,u,rfl,rfl⟩ | ⟨y,u,rfl,rfl⟩
   ·rw[YF] at h;exact xI h
   ·rw[YS] at h;exact SeqAt.EqAt.int_str i t y u _ _ _ _ h
  ·rcases cO hv with ⟨j,u,rfl,rfl⟩ | ⟨y,u,rfl,rfl⟩
   ·rw[YH] at h;exact SeqAt.EqAt.str_int x t j u _ _ _ _ h
   ·rw[Wk] at h;exact wpAny_eqBool_str h
 «strs»:=fun k x t v h=>by
  rcases cO h with ⟨i,u,rfl,e⟩ | ⟨y,u,rfl,e⟩
  ·exact nomatch e
  ·injection e with e1 _
   subst e1
   cases v <;> rfl
theorem Dz(prog:b5)(w:cE)(i:Int)(t:Tok):(bO prog w).is (.inl i) (.int i t)=true:=Nm i t
theorem nR(prog:b5)(w:cE)(x:Str)(t:Tok):(bO prog w).is (.inr x) (.str x t)=true:=Kg x t
inductive V where
 |non | bl (b:Bool) | int (i:Int) | str (x:Str) | byt (b:Array UInt8) | flt (b:UInt64) | ref (a:aE) | ty (n:String)
 deriving DecidableEq
def RelV:V->af->Prop
 |.non,u=>u=iN
 |.bl b,u=>u=t4 b
 |.int i,u=>∃t,u=tT i t
 |.str x,u=>∃t,u=BC x t
 |.byt b,u=>∃t,u=JO b t
 |.flt b,u=>∃t,u=EX b t
 |.ref a,u=>u=eK a
 |.ty n,u=>u=CC n
abbrev Vals:List V->List af->Prop:=Paired RelV
theorem Vals.length{xs:List V}{us:List af}(r:Vals xs us):xs.length=us.length:=Paired.length r
theorem Vals.get:∀ {xs:List V} {us:List af} {i:Nat} {x:V},Vals xs us->xs[i]?=some x->∃u,us[i]?=some u/\RelV x u
 |_,_,_,_,.nil,e=>by simp at e
 |_,_,0,_,.cons r _,e=>by simp at e;subst e;exact⟨_,rfl,r⟩
 |_,_,i+1,x,.cons _ t,e=>by
  obtain⟨u,h1,h2⟩:=Vals.get (i:=i) (x:=x) t (by simpa using e)
  exact⟨u,by simpa using h1,h2⟩
theorem Vals.append:∀ {xs ys:List V} {us ws:List af},Vals xs us->Vals ys ws->Vals (xs++ys) (us++ws)
 |_,_,_,_,.nil,s=>s
 |_,_,_,_,.cons r t,s=>.cons r (Vals.append t s)
theorem Vals.take:∀ {xs:List V} {us:List af} (n:Nat),Vals xs us->Vals (xs.take n) (us.take n)
 |_,_,0,_=>.nil
 |_,_,_+1,.nil=>.nil
 |_,_,n+1,.cons r t=>.cons r (Vals.take n t)
theorem Vals.drop:∀ {xs:List V} {us:List af} (n:Nat),Vals xs us->Vals (xs.drop n) (us.drop n)
 |_,_,0,r=>r
 |_,_,_+1,.nil=>.nil
 |_,_,n+1,.cons _ t=>Vals.drop n t
def nY:Option V->Option af->Prop
 |some v,some u=>RelV v u
 |none,none=>True
 |_,_=>False
def KV{κ:Type}:List (κ×V)->List (κ×af)->Prop:=Paired fun (p:κ×V) (q:κ×af)=>p.1=q.1/\RelV p.2 q.2
def kV:Key->V
 |.inl i=>.int i
 |.inr x=>.str x
inductive HO where
 |lst (xs:List V)
 |tup (xs:List V)
 |dK (kvs:List (Key×V)) | dT (kvs:List (List Key×V))
 |set (S:Int->Bool) (n:Nat)
 |ins (C dx:aE) (fs:List (Str×V))
 |own (x:aE)
 |xd (fs:List (Str×V))
 |met (f x:aE)
 |pN (lo hi:Int)
 |frz (o:Obj) (u:HO)
 |tbl (ps:Array af)
 |ext (φ:eJ->Prop)
abbrev Hp:=aE->Option HO
def upd(H:Hp)(a:aE)(o:HO):Hp:=fun b=>if b=a then some o else H b
theorem aO{H:Hp}{a:aE}{o:HO}:upd H a o a=some o:=by unfold upd;rw[if_pos rfl]
theorem aC{H:Hp}{a b:aE}{o:HO}(h:b≠a):upd H a o b=H b:=by unfold upd;rw[if_neg h]
theorem SM{H:Hp}{a:aE}{o u:HO}:upd (upd H a o) a u=upd H a u:=by
 funext b;unfold upd;split <;> rfl
theorem pR{H:Hp}{a b:aE}{o u:HO}(h:H a=some o)(h':H b=some u)(d:o≠u):a≠b:=by
 intro e;subst e;rw[h] at h';exact d (Option.some.inj h')
theorem aW{H:Hp}{a b:aE}{o:HO}(h:H a=some o)(h':H b=none):a≠b:=by
 intro e;subst e;rw[h] at h';cases h'
def Cu(h:eJ)(a:aE)(items:Array af):Prop:=∃o,h.get? a=some o/\o.cls=.type "tuple"/\∃n,o.data=.seq items n/\o.dict=none
theorem Cu.tup{h:eJ}{a:aE}{items:Array af}(x:Cu h a items):IsTup h a items:=by
 obtain⟨o,e,c,n,d,_⟩:=x
 exact⟨o,e,c,n,d⟩
theorem Cu.lt{h:eJ}{a:aE}{items:Array af}(x:Cu h a items):a<h.objs.size:=x.tup.lt
theorem Cu.new(h:eJ)(items:Array af):Cu (h.push { cls:=.type "tuple",data:=.seq items }) h.objs.size items:=⟨_,bP _ rfl,rfl,_,rfl,rfl⟩
section
variable(P:b5)(w:cE)
def cH(H:Hp)(h:eJ)(a:aE):HO->Prop
 |.lst xs=>xs.length<=bS/\∃(its:List af) (n:Nat),Vals xs its/\h.get? a=some { cls:=.type "list",data:=.seq its.toArray n }
 |.tup xs=>xs.length<=bS/\∃its:List af,Vals xs its/\Cu h a its.toArray
 |.dK kvs=>kvs.length<=bS/\(a==iO)=false/\∃vs,KV kvs vs/\h.DictOf (bO P w) a vs
 |.dT kvs=>kvs.length<=bS/\(a==iO)=false/\∃xs:List (List Key×aE×af),
   Paired (fun (p:List Key×V) (q:List Key×aE×af)=>p.1=q.1/\H q.2.1=some (.tup (p.1.map kV))/\RelV p.2 q.2.2) kvs xs /\
   ∃o es ep,h.get? a=some o/\o.ExactDict/\o.data=.dict es ep/\es.toList=xs.map (entryOfKey (xS (bO P w)))/\(xs.map (·.1)).Nodup
 |.set S n=>h.SetOf (intKind P w) a S n
 |.ins C dx fs=>H dx=some (.own a)/\fs.length<=1000/\dx≠a/\h.get? a=some (Ap C dx) /\
   ∃mA,h.Ns1 dx mA/\(∀f,nY (fs.lookup f) (mA f))/\IF mA (fs.map (·.1))
 |.own _=>∃o,h.get? a=some o
 |.xd fs=>∃mA,h.Ns1 a mA/\∀f,nY (fs.lookup f) (mA f)
 |.pN lo hi=>∃t u v,h.get? a=some { cls:=.type "range",data:=.fields #[.int lo t,.int hi u,.int 1 v] }
 |.frz o u=>h.get? a=some o/\cH H h a u
 |.tbl ps=>h.get? a=some { cls:=.none,data:=.fields ps }
 |.met f x=>h.get? a=some (wc (.ref f) (.ref x))
 |.ext φ=>φ h/\(∃o,h.get? a=some o)/\∀h1 h2:eJ,φ h1->(∀o,h1.get? a=some o->h2.get? a=some o)->φ h2
def mV(H:Hp)(h:eJ):Prop:=∀a o,H a=some o->cH P w H h a o
end
section
variable{P:b5}{w:cE}{H H':Hp}{h h':eJ}{a:aE}{o:HO}
theorem cH.lt(x:cH P w H h a o):a<h.objs.size:=by
 cases o with
 |lst xs=>obtain⟨_,_,_,_,e⟩:=x;exact bp e
 |tup xs=>obtain⟨_,_,_,p⟩:=x;exact p.lt
 |dK kvs=>obtain⟨_,_,_,_,o,_,_,e,_⟩:=x;exact bp e
 |dT kvs=>obtain⟨_,_,_,_,o,_,_,e,_⟩:=x;exact bp e
 |set S n=>obtain⟨o,_,_,_,e,_⟩:=x;exact bp e
 |ins C dx fs=>obtain⟨_,_,_,e,_⟩:=x;exact bp e
 |own y=>obtain⟨_,e⟩:=x;exact bp e
 |xd fs=>obtain⟨_,⟨_,_,_,e,_⟩,_⟩:=x;exact bp e
 |pN lo hi=>obtain⟨_,_,_,e⟩:=x;exact bp e
 |frz ob u=>obtain⟨e,_⟩:=x;exact bp e
 |tbl ps=>exact bp (show h.get? a=some _ from x)
 |met f y=>exact bp (show h.get? a=some _ from x)
 |ext φ=>obtain⟨_,⟨_,e⟩,_⟩:=x;exact bp e
theorem Paired.xX{α β:Type}{F G:α->β->Prop}:∀ {l₁:List α} {l₂:List β},Paired F l₁ l₂->(∀a b,F a b->G a b)->Paired G l₁ l₂
 |_,_,.nil,_=>.nil
 |_,_,.cons r t,f=>.cons (f _ _ r) (Paired.xX t f)
theorem cH.stay(x:cH P w H h a o)(k:∀b u,(b=a\/H b=some (.own a))->h.get? b=some u->h'.get? b=some u)
  (ho:∀b,H b=some (.own a)->H' b=some (.own a)) (ht:∀b xs,H b=some (.tup xs)->H' b=some (.tup xs)):cH P w H' h' a o:=by
 induction o with
 |lst xs=>obtain⟨z,its,n,r,e⟩:=x;exact⟨z,its,n,r,k _ _ (.inl rfl) e⟩
 |tup xs=>obtain⟨z,its,r,ob,e,c⟩:=x;exact⟨z,its,r,ob,k _ _ (.inl rfl) e,c⟩
 |dK kvs=>obtain⟨z,y,vs,r,ob,es,ep,e,c⟩:=x;exact⟨z,y,vs,r,ob,es,ep,k _ _ (.inl rfl) e,c⟩
 |dT kvs=>
  obtain⟨z,y,xs,r,ob,es,ep,e,c⟩:=x
  exact⟨z,y,xs,Paired.xX r fun p q z=>⟨z.1,ht _ _ z.2.1,z.2.2⟩,ob,es,ep,k _ _ (.inl rfl) e,c⟩
 |set S n=>obtain⟨ob,es,ep,t,e,c⟩:=x;exact⟨ob,es,ep,t,k _ _ (.inl rfl) e,c⟩
 |ins C dx fs=>
  obtain⟨d,z,ne,e,mA,⟨od,es,ep,e2,c⟩,r⟩:=x
  exact⟨ho _ d,z,ne,k _ _ (.inl rfl) e,mA,⟨od,es,ep,k _ _ (.inr d) e2,c⟩,r⟩
 |own y=>obtain⟨ob,e⟩:=x;exact⟨ob,k _ _ (.inl rfl) e⟩
 |xd fs=>obtain⟨mA,⟨od,es,ep,e,c⟩,r⟩:=x;exact⟨mA,⟨od,es,ep,k _ _ (.inl rfl) e,c⟩,r⟩
 |pN lo hi=>obtain⟨t,u,v,e⟩:=x;exact⟨t,u,v,k _ _ (.inl rfl) e⟩
 |frz ob u ih=>obtain⟨e,q⟩:=x;exact⟨k _ _ (.inl rfl) e,ih q⟩
 |tbl ps=>
  have e:h.get? a=some { cls:=.none,data:=.fields ps }:=x
  show h'.get? a=some { cls:=.none,data:=.fields ps }
  exact k a _ (.inl rfl) e
 |met f y=>
  have e:h.get? a=some (wc (.ref f) (.ref y)):=x
  show h'.get? a=some (wc (.ref f) (.ref y))
  exact k a _ (.inl rfl) e
 |ext φ=>obtain⟨p,⟨o,e⟩,st⟩:=x;exact⟨st _ _ p fun o q=>k _ _ (.inl rfl) q,⟨o,k _ _ (.inl rfl) e⟩,st⟩
theorem mV.lt(x:mV P w H h)(e:H a=some o):a<h.objs.size:=(x a o e).lt
theorem mV.fresh(x:mV P w H h)(e:h.objs.size<=a):H a=none:=by
 cases q:H a with
 |none=>rfl
 |some u=>exact absurd (b9 (x.lt q) e) (nk _)
theorem mV.kept(x:mV P w H h)(k:∀b u,h.get? b=some u->h'.get? b=some u):mV P w H h':=fun a o e=>
 (x a o e).stay (fun b u _ q=>k b u q) (fun _ q=>q) fun _ _ q=>q
theorem mV.laid(x:mV P w H h)(k:∀b u,h.get? b=some u->h'.get? b=some u)(hp:h.objs.size<=a)(new:cH P w (upd H a o) h' a o):mV P w (upd H a o) h':=fun b u e=>by
 have hn:=x.fresh hp
 by_cases hb:b=a
 ·subst hb;rw[aO] at e;cases e;exact new
 ·rw[aC hb] at e
  exact (x b u e).stay (fun c v _ q=>k c v q) (fun c q=>by rw[aC (aW q hn)];exact q) fun c xs q=>by rw[aC (aW q hn)];exact q
end
def Rd(H:Hp)(a:aE)(u:HO):Prop:=H a=some u\/∃o,H a=some (.frz o u)
theorem Rd.ok{P:b5}{w:cE}{H:Hp}{h:eJ}{a:aE}{u:HO}(r:Rd H a u)(x:mV P w H h):cH P w H h a u:=by
 rcases r with r | ⟨o,r⟩
 ·exact x a u r
 ·obtain⟨_,q⟩:=x a _ r
  exact q
def Mut:Option HO->Prop
 |some (.lst _)=>True
 |some (.dK _)=>True
 |some (.dT _)=>True
 |some (.set _ _)=>True
 |some (.ins _ _ _)=>True
 |some (.ext _)=>True
 |_=>False
section
variable{P:b5}{w:cE}{H:Hp}{h h':eJ}{x e:aE}{o':HO}
theorem mV.write(ok:mV P w H h)(mu:Mut (H x))(he:e=x\/H e=some (.own x))(k:∀b u,b≠e->h.get? b=some u->h'.get? b=some u)(heo:∃u,h'.get? e=some u)
  (new:cH P w (upd H x o') h' x o'):mV P w (upd H x o') h':=fun b u q=>by
 have nown:∀c y,H c=some (.own y)->c≠x:=fun c y r z=>by subst z;rw[r] at mu;exact mu
 have ntup:∀c xs,H c=some (.tup xs)->c≠x:=fun c xs r z=>by subst z;rw[r] at mu;exact mu
 by_cases hb:b=x
 ·subst hb;rw[aO] at q;cases q;exact new
 ·rw[aC hb] at q
  by_cases hbe:b=e
  ·have q':H b=some (.own x):=by
    rcases he with z | z
    ·exact absurd (hbe.trans z) hb
    ·rw[hbe];exact z
   rw[q] at q';cases q'
   obtain⟨v,hv⟩:=heo
   exact⟨v,by rw[hbe];exact hv⟩
  ·refine (ok b u q).stay (fun c v hc r=>k c v ?_ r) (fun c r=>by rw[aC (nown c b r)];exact r) fun c xs r=>by rw[aC (ntup c xs r)];exact r
   rcases hc with rfl | hc
   ·exact hbe
   ·rintro rfl
    rcases he with z | z
    ·exact nown c b hc z
    ·rw[hc] at z;cases z;exact hb rfl
end
structure Un(fs ex:List aE)(H H':Hp)(h h':eJ):Prop where
 keep:∀b o,h.get? b=some o->H b=none->b∉fs->b∉ex->h'.get? b=some o
 slot:∀b o,h.get? b=some o->H b=none->b∈fs->b∉ex->∃sl,h'.get? b=some { o with slots:=sl }
 free:∀b o,h.get? b=some o->H b=none->b∉ex->H' b=none
 there:∀b o,h.get? b=some o->b∉ex->∃o',h'.get? b=some o'
 tups:∀b xs,H b=some (.tup xs)->H' b=some (.tup xs)
 frzs:∀b o u,H b=some (.frz o u)->H' b=some (.frz o u)
 tbls:∀b ps,H b=some (.tbl ps)->∃more,H' b=some (.tbl (ps++more))
section
variable{fs fs' ex ex':List aE}{H H1 H2:Hp}{h h1 h2 h':eJ}{a x e:aE}{o:HO}
theorem Un.any(u:Un fs ex H H1 h h1){b:aE}{ob:Obj}(q:h.get? b=some ob)(n:H b=none)(hx:b∉ex):∃sl,h1.get? b=some { ob with slots:=sl }:=by
 by_cases hb:b∈fs
 ·exact u.slot b ob q n hb hx
 ·exact⟨ob.slots,u.keep b ob q n hb hx⟩
theorem Un.kept(k:∀b u,h.get? b=some u->h'.get? b=some u):Un fs ex H H h h' :=
 ⟨fun b ob q _ _ _=>k b ob q,fun b ob q _ _ _=>⟨ob.slots,k b ob q⟩,fun _ _ _ n _=>n,fun b ob q _=>⟨ob,k b ob q⟩,fun _ _ q=>q,fun _ _ _ q=>q,fun _ ps q=>⟨#[],by rw[q];simp⟩⟩
theorem Un.refl:Un fs ex H H h h:=Un.kept fun _ _ q=>q
theorem Un.laid(k:∀b u,h.get? b=some u->h'.get? b=some u)(hp:h.objs.size<=a)(hn:H a=none):Un fs ex H (upd H a o) h h' where
 keep:=fun b u q _ _ _=>k b u q
 slot:=fun b u q _ _ _=>⟨u.slots,k b u q⟩
 free:=fun b u q n _=>by rw[aC (df (b9 (bp q) hp))];exact n
 there:=fun b u q _=>⟨u,k b u q⟩
 tups:=fun b xs q=>by rw[aC (aW q hn)];exact q
 frzs:=fun b u xs q=>by rw[aC (aW q hn)];exact q
 tbls:=fun b ps q=>⟨#[],by rw[aC (aW q hn),q];simp⟩
theorem Un.write(mu:Mut (H x))(he:e=x\/H e=some (.own x))(k:∀b u,b≠e->h.get? b=some u->h'.get? b=some u)(heo:∃u,h'.get? e=some u):Un fs ex H (upd H x o) h h':=by
 have hx:∀b,H b=none->b≠x:=fun b n z=>by subst z;rw[n] at mu;exact mu
 have hb:∀b,H b=none->b≠e:=fun b n z=>by
  subst z
  rcases he with r | r
  ·exact hx b n r
  ·rw[n] at r;cases r
 have hm:∀b u,H b=some u->¬Mut (some u)->b≠x:=fun b u q nm z=>by subst z;rw[q] at mu;exact nm mu
 refine⟨fun b u q n _ _=>k b u (hb b n) q,fun b u q n _ _=>⟨u.slots,k b u (hb b n) q⟩,fun b u q n _=>by rw[aC (hx b n)];exact n,fun b u q _=>?_,
  fun b xs q=>by rw[aC (hm b _ q fun z=>z)];exact q,fun b u xs q=>by rw[aC (hm b _ q fun z=>z)];exact q,fun b ps q=>⟨#[],by rw[aC (hm b _ q fun z=>z),q];simp⟩⟩
 by_cases hbe:b=e
 ·subst hbe;exact heo
 ·exact⟨u,k b u hbe q⟩
end
def trk(h:eJ)(H:Hp):List aE:=(dc h.objs.size).filter fun a=>(H a).isSome
def Av(h:eJ)(H:Hp):eJ:=PySem.W.hideAll h (trk h H)
theorem MF(h:eJ)(H:Hp):(Av h H).objs.size=h.objs.size:=PySem.W.hideAll_size _ _
theorem RZ{h:eJ}{H:Hp}{b:aE}{o:Obj}(e:h.get? b=some o)(n:H b=none):(Av h H).get? b=some o :=
 PySem.W.hideAll_get _ e fun hm=>by
  have q:(H b).isSome=true:=(fE.mp hm).2
  rw[n] at q;simp at q
theorem U4{h:eJ}{H:Hp}{b:aE}{o:Obj}(e:(Av h H).get? b=some o):h.get? b=some o/\H b=none:=by
 have e':h.get? b=some o:=PySem.W.of_hideAll (trk h H) e
 refine⟨e',?_⟩
 cases q:H b with
 |none=>rfl
 |some x=>
  have hm:b∈trk h H:=fE.mpr ⟨d6.mpr (bp e'),by simp[q]⟩
  have z:(Av h H).get? b=none:=PySem.W.hideAll_none (trk h H) hm
  rw[z] at e;cases e
def Ue(g h:eJ)(L:aE):List (aE×Obj):=(dc h.objs.size).filterMap fun a=>if a=L\/(g.get? a).isSome=true then none else (h.get? a).map fun o=>(a,o)
def rest(g h:eJ)(L d:aE):List (aE×Obj):=(Ue g h L).filter fun p=>decide (p.1≠d)
structure Mod(K:ae)(mg:Str->Option af)(base:eJ):Prop where
 kin:K.In base
 glob:base.Ns ba mg
 blt:∃mb,base.Ns CD mb/\∀x:Str,x ≠ "__name__"->mb x=ib x
 nolimit:base.NoLimit
structure Cx where
 prog:b5
 w:cE
 K:ae
 mg:Str->Option af
 base:eJ
 A:dS
 N:List Str
 s₀:ah
 H₀:Hp
 env:Env
 outer:List Env
 stack:List Env
 ex:List aE
 fn:Str->Bool
 calm:Bool
 pn:List (aE×Obj)
 xe:af->ah->Prop
def frs(l:List Env):List aE:=l.filterMap (·.frame)
abbrev Cx.fs(X:Cx):List aE:=frs X.outer
def Vis(sc:lP)(x:Str):Prop:=sc.names.lookup x=some .local\/sc.names.lookup x=some .cell\/sc.names.lookup x=some .free
def Loc(sc:lP)(x:Str):Prop:=sc.names.lookup x=some .local\/sc.names.lookup x=some .cell
def Look(env:Env)(h:eJ)(m:Str->Option af)(x:Str)(u:af):Prop :=
 (env.kindOf x=some .local/\m x=some u)\/((env.kindOf x=some .cell\/env.kindOf x=some .free)/\∃c,env.cells.lookup x=some c/\h.IsCell c (some u))
structure Cx.Ok(X:Cx):Prop where
 mod:Mod X.K X.mg X.base
 kind:X.env.scope.kind=.function
 glob:X.env.globals=ba
 blt:X.env.builtins=CD
 above:X.s₀.heap.objs.size<=X.env.locals
 inj:∀x y c,X.env.cells.lookup x=some c->X.env.cells.lookup y=some c->x=y
 has:∀x,(X.env.kindOf x=some .cell\/X.env.kindOf x=some .free)->∃c,X.env.cells.lookup x=some c
 cab:∀x c,X.fn x=true->X.env.cells.lookup x=some c->X.s₀.heap.objs.size<=c
 hd:X.calm=true->X.A.handled=none
 frames:X.A.frames=some X.stack
 stk:X.stack=X.outer\/(X.stack=X.env::X.outer/\X.env.frame=some X.env.locals)
 exf:∀b∈X.ex,b≠X.env.locals/\∀x c,X.env.cells.lookup x=some c->c≠b
 bs:∀b o,X.base.get? b=some o->X.s₀.heap.get? b=some o/\X.H₀ b=none
 bsz:X.base.objs.size<=X.s₀.heap.objs.size
 noex:∀b o,X.base.get? b=some o->b∉X.ex
 exfs:∀b∈X.ex,b∉X.fs
 pL:X.s₀.heap.FunFrames X.base X.outer
 frf:∀b∈X.fs,X.H₀ b=none
structure Inv(X:Cx)(pins:List (aE×Obj))(σ:List (Option V))(H:Hp)(s:ah):Prop where
 ok:X.Ok
 os:s.os=X.s₀.os
 bare:tI s.gens
 base:Un X.fs X.ex X.H₀ H X.s₀.heap s.heap
 loc:∃m,s.heap.Ns X.env.locals m/\∀(i:Nat) (x:Str) (v:V),X.N[i]?=some x->σ[i]?=some (some v)->Vis X.env.scope x->∃u,RelV v u/\Look X.env s.heap m x u
 cell:∀x c,X.env.cells.lookup x=some c->∃v,s.heap.IsCell c v
 free:H X.env.locals=none
 freeC:∀x c,X.env.cells.lookup x=some c->H c=none
 pin:∀p∈X.pn++pins,s.heap.get? p.1=some p.2/\H p.1=none/\p.1≠X.env.locals/\p.1∉X.fs/\∀v,p.2.data≠.cell v
 hok:mV X.prog X.w H s.heap
 len:σ.length=X.N.length
section
variable{X:Cx}{pins:List (aE×Obj)}{σ:List (Option V)}{H H':Hp}{s:ah}{h':eJ}
theorem Cx.Ok.ac3(ok:X.Ok){b:aE}{o:Obj}(e:X.base.get? b=some o):b∉X.fs:=fun hb=>by
 have:=(ok.pL.mem hb).1
 rw[e] at this;cases this
theorem Inv.bs(I:Inv X pins σ H s):∀b o,X.base.get? b=some o->s.heap.get? b=some o/\H b=none:=fun b o e=>
 ⟨I.base.keep b o (I.ok.bs b o e).1 (I.ok.bs b o e).2 (I.ok.ac3 e) (I.ok.noex b o e),I.base.free b o (I.ok.bs b o e).1 (I.ok.bs b o e).2 (I.ok.noex b o e)⟩
theorem Inv.bk(I:Inv X pins σ H s):∀b o,X.base.get? b=some o->s.heap.get? b=some o:=fun b o e=>(I.bs b o e).1
theorem Inv.mod(I:Inv X pins σ H s):Mod X.K X.mg X.base:=I.ok.mod
theorem Inv.lR(I:Inv X pins σ H s):X.K.In s.heap:=I.ok.mod.kin.keeps I.bk
theorem Inv.nolimit(I:Inv X pins σ H s):s.heap.NoLimit:=I.ok.mod.nolimit.keeps I.bk
theorem Inv.fr(I:Inv X pins σ H s):∃m,Fr X.base X.env.locals s.heap m :=
 let ⟨m,hn,_⟩:=I.loc
 ⟨m,hn,I.bk,eh I.ok.bsz I.ok.above⟩
theorem Inv.lt(I:Inv X pins σ H s):X.env.locals<s.heap.objs.size:=let ⟨_,hn,_⟩:=I.loc;hn.lt
theorem Inv.sz(I:Inv X pins σ H s):X.s₀.heap.objs.size<=s.heap.objs.size:=eh I.ok.above (ij I.lt)
theorem Inv.adA(I:Inv X pins σ H s){a:aE}(h:s.heap.objs.size<=a):a∉X.fs:=fun hb=>by
 obtain⟨_,o,ho,_⟩:=I.ok.pL.mem hb
 exact absurd (b9 (bp ho) (eh I.sz h)) (nk _)
theorem Inv.RV(I:Inv X pins σ H s):∀x c,X.env.cells.lookup x=some c->c≠X.env.locals:=fun x c e z=>by
 obtain⟨v,o,ho,hd⟩:=I.cell x c e
 obtain⟨m,⟨o',es,ep,ho',hd',_⟩,_⟩:=I.loc
 rw[z,ho'] at ho;cases ho;rw[hd'] at hd;cases hd
theorem Inv.pL(I:Inv X pins σ H s):s.heap.FunFrames X.base X.outer:=by
 have all:∀(l:List Env),(∀b∈frs l,b∈X.fs)->X.s₀.heap.FunFrames X.base l->s.heap.FunFrames X.base l:=by
  intro l
  induction l with
  |nil=>intro _ _;trivial
  |cons env r ih=>
   intro hs hl
   obtain⟨hk,⟨L,o,hf,hn,ho,hd⟩,hr⟩:=hl
   have hL:L∈X.fs:=hs L (by unfold frs;rw[ko,hf];exact eg)
   obtain⟨sl,e⟩:=I.base.slot L o ho (I.ok.frf L hL) hL fun z=>I.ok.exfs L z hL
   exact⟨hk,⟨L,_,hf,hn,e,hd⟩,ih (fun b hb=>hs b (by unfold frs;rw[ko,hf];exact dQ _ hb)) hr⟩
 exact all X.outer (fun _ hb=>hb) I.ok.pL
theorem Inv.stack(I:Inv X pins σ H s):s.heap.FunFrames X.base X.stack:=by
 rcases I.ok.stk with e | ⟨e,hf⟩
 ·rw[e];exact I.pL
 ·rw[e]
  obtain⟨m,hn,_⟩:=I.loc
  refine .cons (by rw[I.ok.kind];decide) hf hn ?_ I.pL
  exact si (eh I.ok.bsz I.ok.above)
theorem Inv.wI(I:Inv X pins σ H s):∀b∈frs X.stack,b∈X.env.locals::X.fs:=fun b hb=>by
 rcases I.ok.stk with e | ⟨e,hf⟩
 ·rw[e] at hb;exact dQ _ hb
 ·rw[e] at hb
  unfold frs at hb
  rw[ko,hf] at hb
  exact hb
theorem Inv.vA(I:Inv X pins σ H s):∀b∈frs X.stack,H b=none:=fun b hb=>by
 rcases bE.mp (I.wI b hb) with e | hb
 ·rw[e];exact I.free
 ·obtain⟨_,o,ho,_⟩:=I.ok.pL.mem hb
  exact I.base.free b o ho (I.ok.frf b hb) fun z=>I.ok.exfs b z hb
theorem Inv.step{g':Array F3}{t':Nat}{d':Drawn}{ch:List aE}(I:Inv X pins σ H s)
  (hch:∀b∈ch,(b∈X.ex\/X.s₀.heap.objs.size<=b)/\b≠X.env.locals/\(∀x c,X.env.cells.lookup x=some c->c≠b)/\∀p∈X.pn++pins,p.1≠b)
  (keep:∀b o,b≠X.env.locals->b∉X.fs->b∉ch->s.heap.get? b=some o->H b=none->h'.get? b=some o)
  (slot:∀b o,b≠X.env.locals->b∈X.fs->b∉ch->s.heap.get? b=some o->H b=none->∃sl,h'.get? b=some { o with slots:=sl }) (free:∀b o,b∉ch->s.heap.get? b=some o->H b=none->H' b=none)
  (there:∀b o,b∉ch->s.heap.get? b=some o->∃o',h'.get? b=some o')
  (tups:∀b xs,H b=some (.tup xs)->H' b=some (.tup xs)) (frzs:∀b o u,H b=some (.frz o u)->H' b=some (.frz o u)) (tbls:∀b ps,H b=some (.tbl ps)->∃more,H' b=some (.tbl (ps++more)))
  (ns:∀m,s.heap.Ns X.env.locals m->h'.Ns X.env.locals m) (hok:mV X.prog X.w H' h') (hg:tI g') :
  Inv X pins σ H' { s with heap:=h',gens:=g',drawn:=d',toks:=t' }:=by
 have neL:∀b o,X.s₀.heap.get? b=some o->b≠X.env.locals:=fun b o e=>df (b9 (bp e) I.ok.above)
 have neC:∀b o,X.s₀.heap.get? b=some o->b∉X.ex->b∉ch:=fun b o e hx hb=>by
  rcases (hch b hb).1 with z | z
  ·exact hx z
  ·exact absurd (b9 (bp e) z) (nk _)
 have cellK:∀x c,X.env.cells.lookup x=some c->∀v,s.heap.IsCell c v->h'.IsCell c v:=fun x c e v ⟨o,ho,hd⟩=>by
  have nch:c∉ch:=fun z=>(hch c z).2.2.1 x c e rfl
  by_cases hc:c∈X.fs
  ·obtain⟨sl,q⟩:=slot c o (I.RV x c e) hc nch ho (I.freeC x c e)
   exact⟨_,q,hd⟩
  ·exact⟨o,keep c o (I.RV x c e) hc nch ho (I.freeC x c e),hd⟩
 refine⟨I.ok,I.os,hg,⟨fun b o e n hb hx=>?_,fun b o e n hb hx=>?_,fun b o e n hx=>?_,fun b o e hx=>?_,fun b xs e=>tups b xs (I.base.tups b xs e),fun b o xs e=>frzs b o xs (I.base.frzs b o xs e),fun b ps e=>?_⟩,?_,fun x c e=>?_,?_,fun x c e=>?_,fun p hp=>?_,hok,I.len⟩
 ·exact keep b o (neL b o e) hb (neC b o e hx) (I.base.keep b o e n hb hx) (I.base.free b o e n hx)
 ·obtain⟨sl,e1⟩:=I.base.slot b o e n hb hx
  obtain⟨sl',e2⟩:=slot b _ (neL b o e) hb (neC b o e hx) e1 (I.base.free b o e n hx)
  exact⟨sl',e2⟩
 ·obtain⟨o',e1⟩:=I.base.there b o e hx
  exact free b o' (neC b o e hx) e1 (I.base.free b o e n hx)
 ·obtain⟨o',e1⟩:=I.base.there b o e hx
  exact there b o' (neC b o e hx) e1
 ·obtain⟨m1,e1⟩:=I.base.tbls b ps e
  obtain⟨m2,e2⟩:=tbls b _ e1
  exact⟨m1++m2,by rw[e2,Array.append_assoc]⟩
 ·obtain⟨m,hn,hl⟩:=I.loc
  refine⟨m,ns m hn,fun i x v e1 e2 e3=>?_⟩
  obtain⟨u,r,l⟩:=hl i x v e1 e2 e3
  refine⟨u,r,?_⟩
  rcases l with l | ⟨k,c,e,z⟩
  ·exact .inl l
  ·exact .inr ⟨k,c,e,cellK x c e _ z⟩
 ·obtain⟨v,z⟩:=I.cell x c e
  exact⟨v,cellK x c e v z⟩
 ·obtain⟨m,⟨o,_,_,ho,_⟩,_⟩:=I.loc
  exact free _ o (fun z=>(hch _ z).2.1 rfl) ho I.free
 ·obtain⟨v,o,ho,hd⟩:=I.cell x c e
  exact free c o (fun z=>(hch c z).2.2.1 x c e rfl) ho (I.freeC x c e)
 ·obtain⟨e,n,ne,nf,d⟩:=I.pin p hp
  have nch:p.1∉ch:=fun z=>(hch p.1 z).2.2.2 p hp rfl
  exact⟨keep p.1 p.2 ne nf nch e n,free p.1 p.2 nch e n,ne,nf,d⟩
theorem Inv.un{t':Nat}(I:Inv X pins σ H s)(u:Un X.fs [] H H' s.heap h')(hok:mV X.prog X.w H' h'):Inv X pins σ H' { s with heap:=h',toks:=t' }:=by
 obtain⟨m,⟨o,es,ep,ho,r⟩,_⟩:=id I.loc
 obtain⟨sl,hL⟩:=u.any ho I.free (by simp)
 exact I.step (g':=s.gens) (d':=s.drawn) (ch:=[]) (fun _ z=>nomatch z) (fun b o _ hb _ e n=>u.keep b o e n hb (by simp)) (fun b o _ hb _ e n=>u.slot b o e n hb (by simp)) (fun b o _ e n=>u.free b o e n (by simp)) (fun b o _ e=>u.there b o e (by simp)) u.tups u.frzs u.tbls (fun m' hm=>by
  obtain⟨o',es',ep',ho',r'⟩:=hm
  rw[ho] at ho';cases ho'
  exact⟨_,es',ep',hL,r'⟩) hok I.bare
theorem Inv.call{g':Array F3}{t':Nat}{d':Drawn}{ch:List aE}(I:Inv X pins σ H s)(u:Un (frs X.stack) ch H H' s.heap h')(hok:mV X.prog X.w H' h')(hg:tI g')
  (hch:∀b∈ch,(b∈X.ex\/X.s₀.heap.objs.size<=b)/\b≠X.env.locals/\(∀x c,X.env.cells.lookup x=some c->c≠b)/\∀p∈X.pn++pins,p.1≠b) :
  Inv X pins σ H' { s with heap:=h',gens:=g',drawn:=d',toks:=t' }:=by
 obtain⟨m,⟨o,es,ep,ho,r⟩,_⟩:=id I.loc
 obtain⟨sl,hL⟩:=u.any ho I.free fun z=>(hch _ z).2.1 rfl
 exact I.step (ch:=ch) hch (fun b o hL hb hc e n=>u.keep b o e n (fun z=>(bE.mp (I.wI b z)).elim hL hb) hc) (fun b o _ _ hc e n=>u.any e n hc) (fun b o hc e n=>u.free b o e n hc) (fun b o hc e=>u.there b o e hc) u.tups u.frzs u.tbls (fun m' hm=>by
  obtain⟨o',es',ep',ho',r'⟩:=hm
  rw[ho] at ho';cases ho'
  exact⟨_,es',ep',hL,r'⟩) hok hg
theorem Inv.turned{t':Nat}{it:aE}(I:Inv X pins σ H s)(k:∀b o,b≠it->s.heap.get? b=some o->h'.get? b=some o)(hn:H it=none)(hL:it≠X.env.locals)
  (h1:it∈X.ex\/X.s₀.heap.objs.size<=it) (h2:∀x c,X.env.cells.lookup x=some c->c≠it) (h3:∀p∈X.pn++pins,p.1≠it):Inv X pins σ H { s with heap:=h',toks:=t' }:=by
 have nit:∀b u,H b=some u->b≠it:=fun b u e z=>by rw[z,hn] at e;cases e
 refine I.step (g':=s.gens) (d':=s.drawn) (ch:=[it]) (fun b hb=>?_) (fun b o _ _ hc e _=>k b o (fun z=>hc (by simp[z])) e) (fun b o _ _ hc e _=>⟨o.slots,k b o (fun z=>hc (by simp[z])) e⟩) (fun _ _ _ _ n=>n)
  (fun b o hc e=>⟨o,k b o (fun z=>hc (by simp[z])) e⟩) (fun _ _ e=>e) (fun _ _ _ e=>e) (fun b ps e=>⟨#[],by rw[e];simp⟩) (fun m hm=>?_) (fun b u e=>?_) I.bare
 ·have e:b=it:=by simpa using hb
  subst e
  exact⟨h1,hL,h2,h3⟩
 ·obtain⟨o,es,ep,ho,r⟩:=hm
  exact⟨o,es,ep,k _ o (fm hL) ho,r⟩
 ·refine (I.hok b u e).stay (fun c v hc q=>k c v ?_ q) (fun _ q=>q) fun _ _ q=>q
  rcases hc with z | z
  ·rw[z];exact nit b u e
  ·exact nit c _ z
theorem Inv.tok(I:Inv X pins σ H s)(t:Nat):Inv X pins σ H { s with toks:=t }:=I.un (h':=s.heap) (t':=t) Un.refl I.hok
theorem Inv.kept{t':Nat}(I:Inv X pins σ H s)(k:∀b u,s.heap.get? b=some u->h'.get? b=some u):Inv X pins σ H { s with heap:=h',toks:=t' }:=I.un (Un.kept k) (I.hok.kept k)
theorem Inv.laid{a:aE}{o:HO}{t':Nat}(I:Inv X pins σ H s)(k:∀b u,s.heap.get? b=some u->h'.get? b=some u)(hp:s.heap.objs.size<=a)(new:cH X.prog X.w (upd H a o) h' a o) :
  Inv X pins σ (upd H a o) { s with heap:=h',toks:=t' }:=I.un (Un.laid k hp (I.hok.fresh hp)) (I.hok.laid k hp new)
theorem Inv.write{x e:aE}{o:HO}{t':Nat}(I:Inv X pins σ H s)(mu:Mut (H x))(he:e=x\/H e=some (.own x))(k:∀b u,b≠e->s.heap.get? b=some u->h'.get? b=some u)(heo:∃u,h'.get? e=some u)
  (new:cH X.prog X.w (upd H x o) h' x o):Inv X pins σ (upd H x o) { s with heap:=h',toks:=t' }:=I.un (Un.write mu he k heo) (I.hok.write mu he k heo new)
theorem Inv.weak{σ':List (Option V)}(I:Inv X pins σ H s)(hl:σ'.length=σ.length)(w:∀(i:Nat) v,σ'[i]?=some (some v)->σ[i]?=some (some v)):Inv X pins σ' H s :=
 ⟨I.ok,I.os,I.bare,I.base,let ⟨m,hn,hl'⟩:=I.loc;⟨m,hn,fun i x v e1 e2 e3=>hl' i x v e1 (w i v e2) e3⟩,I.cell,I.free,I.freeC,I.pin,I.hok,hl.trans I.len⟩
theorem Inv.oO{pins':List (aE×Obj)}(I:Inv X pins σ H s)(h:∀p∈pins',s.heap.get? p.1=some p.2/\H p.1=none/\p.1≠X.env.locals/\p.1∉X.fs/\∀v,p.2.data≠.cell v):Inv X pins' σ H s :=
 ⟨I.ok,I.os,I.bare,I.base,I.loc,I.cell,I.free,I.freeC,fun p hp=>(dE.mp hp).elim (fun z=>I.pin p (fo _ z)) (h p),I.hok,I.len⟩
theorem wu{N:List Str}(hN:N.Nodup){i j:Nat}{x:Str}(a:N[i]?=some x)(b:N[j]?=some x):i=j:=by
 obtain⟨h1,e1⟩:=bb.mp a
 obtain⟨h2,e2⟩:=bb.mp b
 exact (List.getElem_inj hN).mp (e1.trans e2.symm)
theorem zu{M:C5}{A:dS}{E:af->ah->Prop}{i:Nat}{x:Str}{v:V}{u:af}{Q:Unit->ah->Prop}(I:Inv X pins σ H s)(hN:X.N.Nodup)(hi:X.N[i]?=some x)(hx:Loc X.env.scope x)(r:RelV v u)
  (h:∀s',Inv X pins (σ.set i (some v)) H s'->(∃a,y3 a s.heap s'.heap/\(a=X.env.locals\/X.env.cells.lookup x=some a))->Q () s') (hf:X.fn x=true\/X.env.scope.names.lookup x=some .local:=by first | exact .inl rfl | exact .inr rfl | assumption):bq M A (IB X.env x u) Q E s:=by
 obtain⟨m,hn,hl⟩:=id I.loc
 have hcls:(X.env.scope.kind == .class||(X.env.scope.kind == .module&&X.env.locals != X.env.globals))=false:=by rw[I.ok.kind];rfl
 have hiσ:i<σ.length:=by rw[I.len];exact (bb.mp hi).1
 have RV:=I.RV
 have tracked:∀ {a:aE} {h':eJ},(∃o,s.heap.get? a=some o/\H a=none)->y3 a s.heap h'->mV X.prog X.w H h':=fun {a h'} ha hs b ob e=>by
  obtain⟨_,_,hfree⟩:=ha
  refine (I.hok b ob e).stay (fun c w' hc q=>(hs.2 c ?_).trans q) (fun _ q=>q) fun _ _ q=>q
  rintro rfl
  rcases hc with rfl | hc
  ·rw[hfree] at e;cases e
  ·rw[hfree] at hc;cases hc
 rcases hx with hk | hk
 ·refine wpAny_storeName_local hk hn (fun h' hn' hs=>?_) hcls
  obtain⟨oL,_,_,hoL,_⟩:=id hn
  refine h _ ⟨I.ok,I.os,I.bare,⟨fun b o e n hb hx=>?_,fun b o e n hb hx=>?_,I.base.free,fun b o e hx=>?_,I.base.tups,I.base.frzs,I.base.tbls⟩,⟨_,hn',fun j y v' e1 e2 e3=>?_⟩,fun y c e=>?_,I.free,I.freeC,fun p hp=>?_,tracked ⟨oL,hoL,I.free⟩ hs,by simpa using I.len⟩ ⟨_,hs,.inl rfl⟩
  ·exact (hs.2 b (df (b9 (bp e) I.ok.above))).trans (I.base.keep b o e n hb hx)
  ·obtain⟨sl,e1⟩:=I.base.slot b o e n hb hx
   exact⟨sl,(hs.2 b (df (b9 (bp e) I.ok.above))).trans e1⟩
  ·obtain⟨o',e1⟩:=I.base.there b o e hx
   exact⟨o',(hs.2 b (df (b9 (bp e) I.ok.above))).trans e1⟩
  ·by_cases hj:j=i
   ·subst hj
    rw[hi] at e1;cases e1
    rw[iP hiσ] at e2
    cases e2
    exact⟨u,r,.inl ⟨hk,by simp⟩⟩
   ·rw[gN (fm hj)] at e2
    obtain⟨u',r',q⟩:=hl j y v' e1 e2 e3
    refine⟨u',r',?_⟩
    rcases q with ⟨k,e⟩ | ⟨k,c,e,z⟩
    ·refine .inl ⟨k,?_⟩
     have:y≠x:=fun e=>hj (wu hN e1 (e▸hi))
     simp[this,e]
    ·exact .inr ⟨k,c,e,z.sameBut hs (RV y c e)⟩
  ·obtain⟨w',z⟩:=I.cell y c e
   exact⟨w',z.sameBut hs (RV y c e)⟩
  ·obtain⟨e,n,ne,nf,d⟩:=I.pin p hp
   exact⟨(hs.2 p.1 ne).trans e,n,ne,nf,d⟩
 ·have hfn:X.fn x=true:=by
   rcases hf with z | z
   ·exact z
   ·rw[z] at hk;cases hk
  obtain⟨c,hc⟩:=I.ok.has x (.inl hk)
  obtain⟨w',z⟩:=I.cell x c hc
  refine wpAny_storeName_cell I.ok.kind hk hc z (fun h' hc' hs=>?_)
  obtain⟨oc,hoc,hocd⟩:=id z
  refine h { s with heap:=h' } ⟨I.ok,I.os,I.bare,⟨fun b o e n hb hx=>?_,fun b o e n hb hx=>?_,I.base.free,fun b o e hx=>?_,I.base.tups,I.base.frzs,I.base.tbls⟩,⟨m,hn.sameBut hs (fm (RV x c hc)),fun j y v' e1 e2 e3=>?_⟩,fun y c' e=>?_,I.free,I.freeC,fun p hp=>?_,tracked ⟨oc,hoc,I.freeC x c hc⟩ hs,by simpa using I.len⟩ ⟨c,hs,.inr hc⟩
  ·exact (hs.2 b (df (b9 (bp e) (I.ok.cab x c hfn hc)))).trans (I.base.keep b o e n hb hx)
  ·obtain⟨sl,e1⟩:=I.base.slot b o e n hb hx
   exact⟨sl,(hs.2 b (df (b9 (bp e) (I.ok.cab x c hfn hc)))).trans e1⟩
  ·obtain⟨o',e1⟩:=I.base.there b o e hx
   exact⟨o',(hs.2 b (df (b9 (bp e) (I.ok.cab x c hfn hc)))).trans e1⟩
  ·by_cases hj:j=i
   ·subst hj
    rw[hi] at e1;cases e1
    rw[iP hiσ] at e2
    cases e2
    exact⟨u,r,.inr ⟨.inl hk,c,hc,hc'⟩⟩
   ·rw[gN (fm hj)] at e2
    obtain⟨u',r',q⟩:=hl j y v' e1 e2 e3
    refine⟨u',r',?_⟩
    rcases q with q | ⟨k,c',e,z'⟩
    ·exact .inl q
    ·refine .inr ⟨k,c',e,z'.sameBut hs ?_⟩
     rintro rfl
     exact hj (wu hN e1 (I.ok.inj _ _ _ e hc▸hi))
  ·by_cases hcc:c'=c
   ·subst hcc;exact⟨_,hc'⟩
   ·obtain⟨w2,z2⟩:=I.cell y c' e
    exact⟨w2,z2.sameBut hs hcc⟩
  ·obtain⟨e,n,ne,nf,d⟩:=I.pin p hp
   refine⟨(hs.2 p.1 ?_).trans e,n,ne,nf,d⟩
   intro q
   rw[q,hoc] at e
   have q':oc=p.2:=Option.some.inj e
   exact d w' (by rw[←q'];exact hocd)
theorem nO{M:C5}{A:dS}{E:af->ah->Prop}{i:Nat}{x:Str}{v:V}{u:af}{Q:Unit->ah->Prop}(I:Inv X pins σ H s)(hN:X.N.Nodup)(hi:X.N[i]?=some x)(hx:Loc X.env.scope x)(r:RelV v u)
  (h:∀s',Inv X pins (σ.set i (some v)) H s'->Q () s') (hf:X.fn x=true\/X.env.scope.names.lookup x=some .local:=by first | exact .inl rfl | exact .inr rfl | assumption):bq M A (IB X.env x u) Q E s :=
 zu I hN hi hx r (fun s' I' _=>h s' I') hf
theorem Inv.call'{s':ah}{ch:List aE}(I:Inv X pins σ H s)(ho:s'.os=s.os)(u:Un (frs X.stack) ch H H' s.heap s'.heap)(hok:mV X.prog X.w H' s'.heap)(hg:tI s'.gens)
  (hch:∀b∈ch,(b∈X.ex\/X.s₀.heap.objs.size<=b)/\b≠X.env.locals/\(∀x c,X.env.cells.lookup x=some c->c≠b)/\∀p∈X.pn++pins,p.1≠b):Inv X pins σ H' s':=by
 obtain⟨h',g',d',t',o'⟩:=s'
 have e:o'=s.os:=ho
 subst e
 exact I.call (g':=g') (t':=t') (d':=d') u hok hg hch
end
abbrev XK:=af->Option aE->Hp->Prop
abbrev St:=List (Option V)
abbrev VK:=V->Hp->Prop
abbrev TE:=St->Hp->VK->Prop
abbrev TT:=St->Hp->(Bool->Hp->Prop)->Prop
abbrev TA:=St->Hp->(List V->Hp->Prop)->Prop
structure Ends where
 nx:St->Hp->Prop
 rt:VK
 bk:St->Hp->Prop:=fun _ _=>False
 ct:St->Hp->Prop:=fun _ _=>False
abbrev TS:=Ends->St->Hp->Prop
def EP(X:Cx)(pins:List (aE×Obj))(σ:St)(Q:VK)(u:af)(s':ah):Prop:=∃v H',Inv X pins σ H' s'/\RelV v u/\Q v H'
def TP(X:Cx)(pins:List (aE×Obj))(σ:St)(Q:Bool->Hp->Prop)(b:Bool)(s':ah):Prop:=∃H',Inv X pins σ H' s'/\Q b H'
def AP(X:Cx)(pins:List (aE×Obj))(σ:St)(Q:List V->Hp->Prop)(us:List af)(s':ah):Prop:=∃vs H',Inv X pins σ H' s'/\Vals vs us/\Q vs H'
def SP(X:Cx)(pins:List (aE×Obj))(D:Ends)(f:K2)(s':ah):Prop :=
 match f with
 |.next=>∃σ' H',Inv X pins σ' H' s'/\D.nx σ' H'
 |.brk=>∃σ' H',Inv X pins σ' H' s'/\D.bk σ' H'
 |.cont=>∃σ' H',Inv X pins σ' H' s'/\D.ct σ' H'
 |.ret u=>∃v σ' H',Inv X pins σ' H' s'/\RelV v u/\D.rt v H'
def PE(X:Cx)(e:cS)(t:TE):Prop :=
 ∀(pins:List (aE×Obj)) (s:ah) (σ:St) (H:Hp) (Q:VK),Inv X pins σ H s->t σ H Q->bq (cf X.prog X.w) X.A (eR e X.env) (EP X pins σ Q) X.xe s
def PT(X:Cx)(e:cS)(t:TT):Prop :=
 ∀(pins:List (aE×Obj)) (s:ah) (σ:St) (H:Hp) (Q:Bool->Hp->Prop),Inv X pins σ H s->t σ H Q->bq (cf X.prog X.w) X.A (F6 e X.env (eR e X.env)) (TP X pins σ Q) X.xe s
def PW(X:Cx)(e:cS)(t:TT):Prop :=
 ∀(whole:Sem af) (pins:List (aE×Obj)) (s:ah) (σ:St) (H:Hp) (Q:Bool->Hp->Prop),Inv X pins σ H s->t σ H Q->bq (cf X.prog X.w) X.A (F6 e X.env whole) (TP X pins σ Q) X.xe s
theorem PW.pt{X:Cx}{e:cS}{t:TT}(h:PW X e t):PT X e t:=h _
def PA(X:Cx)(es:List cS)(t:TA):Prop :=
 ∀(pos:Pos) (pins:List (aE×Obj)) (s:ah) (σ:St) (H:Hp) (Q:List V->Hp->Prop),Inv X pins σ H s->t σ H Q->bq (cf X.prog X.w) X.A (IG (i3 pos (aI es X.env))) (AP X pins σ Q) X.xe s
def PS(X:Cx)(st:gg)(t:TS):Prop :=
 ∀(pins:List (aE×Obj)) (s:ah) (σ:St) (H:Hp) (D:Ends),Inv X pins σ H s->t D σ H->bq (cf X.prog X.w) X.A (exec st X.env) (SP X pins D) X.xe s
def zR(X:Cx)(st:List gg)(t:TS):Prop :=
 ∀(pins:List (aE×Obj)) (s:ah) (σ:St) (H:Hp) (D:Ends),Inv X pins σ H s->t D σ H->bq (cf X.prog X.w) X.A (execs st X.env) (SP X pins D) X.xe s
theorem cC{α:Type}{t:Sem α}{Q Q':α->ah->Prop}{M:C5}{A:dS}{E:af->ah->Prop}{s:ah}(h:bq M A t Q E s)(hQ:∀a s,Q a s->Q' a s):bq M A t Q' E s:=eB h hQ fun _ _ x=>x
section
variable{X:Cx}
theorem bin{a b:cS}{ta tb:TE}(ha:PE X a ta)(hb:PE X b tb){pins:List (aE×Obj)}{s:ah}{σ:St}{H:Hp}{R:V->V->Hp->Prop}(I:Inv X pins σ H s)(h:ta σ H fun x H1=>tb σ H1 fun y H2=>R x y H2)
  {α:Type} {Q:α->ah->Prop} {f:af->af->Sem α}
  (hf:∀v u s2 x y H2,Inv X pins σ H2 s2->RelV x v->RelV y u->R x y H2->bq (cf X.prog X.w) X.A (f v u) Q X.xe s2) :
  bq (cf X.prog X.w) X.A (eR a X.env) (fun v s₁=>bq (cf X.prog X.w) X.A (eR b X.env) (fun u s₂=>bq (cf X.prog X.w) X.A (f v u) Q X.xe s₂) X.xe s₁) X.xe s:=by
 refine cC (ha pins s σ H _ I h) fun v s1 zz=>?_
 obtain⟨x,H1,I1,r1,q1⟩:=zz
 refine cC (hb pins s1 σ H1 _ I1 q1) fun u s2 zz=>?_
 obtain⟨y,H2,I2,r2,q2⟩:=zz
 exact hf v u s2 x y H2 I2 r1 r2 q2
def Cz(i:Nat):TE:=fun σ H Q=>∃v,σ[i]?=some (some v)/\Q v H
def tC(v:V):TE:=fun _ H Q=>Q v H
theorem Xa{i:Nat}{x:Str}{pos:Pos}(hN:X.N[i]?=some x)(hv:Vis X.env.scope x)(hd:(x==("__debug__" : Str))=false:=by decide)(hcd:(x==("__classdict__" : Str))=false:=by decide):PE X (.Name x pos) (Cz i):=by
 intro pins s σ H Q I h
 obtain⟨v,e,h⟩:=h
 obtain⟨m,hn,hl⟩:=I.loc
 obtain⟨u,r,l⟩:=hl i x v hN e hv
 have fin:EP X pins σ Q u s:=⟨v,H,I,r,h⟩
 rcases l with ⟨hk,hm⟩ | ⟨hk,c,hc,hcell⟩
 ·exact F7 (AU I.ok.kind hk hn hm fin) hd
 ·rcases hk with hk | hk
  ·exact F7 (BH I.ok.kind hk hc hcell fin) hd
  ·exact F7 (wpAny_loadName_free I.ok.kind hk hc hcell fin hcd) hd
theorem Wo{i j pos}:PE X (.Constant (.int i) j pos) (tC (.int i)):=fun _ _ _ H _ I h=>wpAny_Constant_int ⟨.int i,H,I.tok _,⟨_,rfl⟩,h⟩
theorem aaZ{b j pos}:PE X (.Constant (.bool b) j pos) (tC (.bl b)):=fun _ _ _ H _ I h=>Constant_bool ⟨.bl b,H,I,rfl,h⟩
theorem Ye{j pos}:PE X (.Constant .none j pos) (tC .non):=fun _ _ _ H _ I h=>Constant_none ⟨.non,H,I,rfl,h⟩
theorem zZ{x j pos}:PE X (.Constant (.str x) j pos) (tC (.str x)):=fun _ _ _ H _ I h=>Calls.Constant_str ⟨.str x,H,I.tok _,⟨_,rfl⟩,h⟩
def Gl(X:Cx)(x:Str):Prop:=X.env.kindOf x=some .globalImplicit
theorem gC{E:af->ah->Prop}{pins:List (aE×Obj)}{s:ah}{σ:St}{H:Hp}{x:Str}{u:af}{pos:Pos}{Q:af->ah->Prop}(I:Inv X pins σ H s)(hg:Gl X x)(hm:X.mg x=some u)(h:Q u s)
  (hd:(x==("__debug__" : Str))=false:=by decide):bq (cf X.prog X.w) X.A (eR (.Name x pos) X.env) Q E s :=
 nE I.ok.kind hg (x4 (by rw[I.ok.glob];exact I.mod.glob.keeps I.bk) hm h) hd
theorem gf{E:af->ah->Prop}{pins:List (aE×Obj)}{s:ah}{σ:St}{H:Hp}{x:Str}{u:af}{pos:Pos}{Q:af->ah->Prop}(I:Inv X pins σ H s)(hg:Gl X x)(hm:X.mg x=none)(hv:ib x=some u)(h:Q u s)
  (hn:x ≠ "__name__":=by decide) (hd:(x==("__debug__" : Str))=false:=by decide):bq (cf X.prog X.w) X.A (eR (.Name x pos) X.env) Q E s:=by
 obtain⟨mb,h1,h2⟩:=I.mod.blt
 exact nE I.ok.kind hg (Calls.loadGlobal_builtin (by rw[I.ok.glob];exact I.mod.glob.keeps I.bk) hm (by rw[I.ok.blt];exact h1.keeps I.bk) ((h2 x hn).trans hv) h) hd
theorem Uh{x:Str}{v:V}{u:af}{pos:Pos}(hg:Gl X x)(hm:X.mg x=some u)(r:RelV v u)(hd:(x==("__debug__" : Str))=false:=by decide):PE X (.Name x pos) (tC v) :=
 fun _ _ _ H _ I h=>gC I hg hm ⟨v,H,I,r,h⟩ hd
theorem Uj{x:Str}{v:V}{u:af}{pos:Pos}(hg:Gl X x)(hm:X.mg x=none)(hv:ib x=some u)(r:RelV v u)(hn:x ≠ "__name__":=by decide)(hd:(x==("__debug__" : Str))=false:=by decide):PE X (.Name x pos) (tC v) :=
 fun _ _ _ H _ I h=>gf I hg hm hv ⟨v,H,I,r,h⟩ hn hd
def t2I(ta tb:TE)(k:Int->Int->Hp->Prop):St->Hp->Prop:=fun σ H=>ta σ H fun x H1=>tb σ H1 fun y H2=>∃i j,x=.int i/\y=.int j/\k i j H2
variable{a b:cS}{ta tb:TE}{pos:Pos}
def PC(X:Cx)(op:Cc)(a b:cS)(t:TE):Prop :=
 ∀(pins:List (aE×Obj)) (s:ah) (σ:St) (H:Hp) (Q:VK),Inv X pins σ H s->t σ H Q ->
  bq (cf X.prog X.w) X.A (eR a X.env) (fun v s₁=>bq (cf X.prog X.w) X.A (eR b X.env) (fun u s₂=>bq (cf X.prog X.w) X.A (eW op v u) (EP X pins σ Q) X.xe s₂) X.xe s₁) X.xe s
theorem Pb(b:cS){op:Cc}(h:op≠.In)(h2:op≠.NotIn):kD op b=false:=by
 have e1:(op==Lo)=false:=by cases op <;> first | rfl | exact absurd rfl h
 have e2:(op==JU)=false:=by cases op <;> first | rfl | exact absurd rfl h2
 cases b <;> simp[kD,e1,e2]
def abe(p:Int->Int->Bool)(ta tb:TE):TE:=fun σ H Q=>t2I ta tb (fun i j H2=>Q (.bl (p i j)) H2) σ H
abbrev tLt:TE->TE->TE:=abe fun i j=>decide (i<j)
theorem XJ{op:Cc}{p:Int->Int->Bool}(ha:PE X a ta)(hb:PE X b tb)
  (IH:∀(i j:Int) (t u:Tok) (Q:af->ah->Prop) (s:ah),Q (.bool (p i j)) s->bq (cf X.prog X.w) X.A (eW op (.int i t) (.int j u)) Q X.xe s):PC X op a b (abe p ta tb):=by
 intro pins s σ H Q I h
 refine bin ha hb I h fun v u s2 x y H2 I2 rx ry q=>?_
 obtain⟨i,j,rfl,rfl,q⟩:=q
 obtain⟨t,rfl⟩:=rx
 obtain⟨t',rfl⟩:=ry
 exact IH i j t t' _ s2 ⟨.bl _,H2,I2,rfl,q⟩
theorem CQ(ha:PE X a ta)(hb:PE X b tb):PC X .Lt a b (tLt ta tb):=XJ ha hb fun _ _ _ _ _ _ h=>lt_int h
def tB(t:TE):TT:=fun σ H Q=>t σ H fun x H1=>∃c,x=.bl c/\Q c H1
theorem WL{op:Cc}{t:TE}(h:PC X op a b t)(h1:kD op b=false:=by first | exact Pb _ (by decide) (by decide) | rfl):PT X (.Compare a [op] [b] pos) (tB t):=by
 intro pins s σ H Q I hw
 refine AI (cC (h pins s σ H _ I hw) fun v s1 h1=>cC h1 fun u s2 h2=>cC h2 fun c s3 zz=>?_) h1
 obtain⟨x,H1,I1,r1,q1⟩:=zz
 obtain⟨d,rfl,q⟩:=q1
 cases r1
 exact kU ⟨H1,I1,q⟩
theorem Xl{e:cS}{t:TE}(h:PE X e t)(he:∀whole,F6 e X.env whole=(do let v ←whole;FY e.pos;holding [v] (truthy v)):=by intro _;rfl):PT X e (tB t):=by
 intro pins s σ H Q I hw
 refine isTrue_plain (cC (h pins s σ H _ I hw) fun v s1 zz=>?_) (he _)
 obtain⟨x,H1,I1,r1,q1⟩:=zz
 obtain⟨d,rfl,q⟩:=q1
 cases r1
 exact kU ⟨H1,I1,q⟩
variable{tA tB':TT}{rest:List cS}
def acu(t u:TT):TT:=fun σ H Q=>t σ H fun c H1=>if c=true then u σ H1 Q else Q false H1
def acs(t:TT):TT:=fun σ H Q=>t σ H fun c H1=>Q (!c) H1
theorem Ux(ha:PT X a tA):PW X (.BoolOp .And [a] pos) tA:=by
 intro wh pins s σ H Q I h
 refine isTrue_and (cC (ha pins s σ H Q I h) fun c s1 e=>?_)
 cases c with
 |true=>exact isTrue_and_nil e
 |false=>exact e
theorem YC(ha:PT X a tA)(hb:PW X (.BoolOp .And (b::rest) pos) tB'):PW X (.BoolOp .And (a::b::rest) pos) (acu tA tB'):=by
 intro wh pins s σ H Q I h
 refine isTrue_and (cC (ha pins s σ H _ I h) fun c s1 zz=>?_)
 obtain⟨H1,I1,q1⟩:=zz
 cases c with
 |true=>exact hb wh pins s1 σ H1 Q I1 q1
 |false=>exact⟨H1,I1,q1⟩
theorem Zk(ha:PT X a tA):PT X (.UnaryOp .Not a pos) (acs tA):=by
 intro pins s σ H Q I h
 exact isTrue_not (ha pins s σ H (fun c H1=>Q (!c) H1) I h)
def abw(ta tb:TE):TE:=fun σ H Q=>ta σ H fun x H1=>∃c,x=.bl c/\if c=true then tb σ H1 Q else Q (.bl false) H1
theorem Xr{op}{t:TE}(h:PE X a t):PE X (.BoolOp op [a] pos) t:=fun pins s σ H Q I hw=>BoolOp_one (h pins s σ H Q I hw)
theorem YQ(ha:PE X a ta)(hb:PE X (.BoolOp .And (b::rest) pos) tb):PE X (.BoolOp .And (a::b::rest) pos) (abw ta tb):=by
 intro pins s σ H Q I h
 refine BoolOp_and (cC (ha pins s σ H _ I h) fun v s1 zz=>?_)
 obtain⟨x,H1,I1,r1,q1⟩:=zz
 obtain⟨c,rfl,q1⟩:=q1
 cases r1
 refine kU ?_
 cases c with
 |true=>exact hb pins s1 σ H1 Q I1 q1
 |false=>exact⟨.bl false,H1,I1,rfl,q1⟩
end
def gB(K:ae)(H:Hp)(a:aE)(xs:List V):Prop :=
 Rd H a (.lst xs) \/
  ∃(o:Obj) (its:Array af) (n:Nat),K.lookup a=some o/\o.cls=.type "list"/\o.dict=none/\o.data=.seq its n/\its.size<=bS/\Vals xs its.toList
def mO(K:ae)(H:Hp)(a:aE)(xs:List V):Prop :=
 Rd H a (.tup xs) \/
  ∃(o:Obj) (its:Array af) (n:Nat),K.lookup a=some o/\o.cls=.type "tuple"/\o.data=.seq its n/\its.size<=bS/\Vals xs its.toList
def acr:af->Option V
 |.none=>some .non
 |.bool b=>some (.bl b)
 |.int i _=>some (.int i)
 |.str x _=>some (.str x)
 |.bytes b _=>some (.byt b)
 |.float b _=>some (.flt b)
 |.ref a=>some (.ref a)
 |.type n=>some (.ty n)
 |_=>none
theorem RelV.abs{x:V}{u:af}(r:RelV x u):acr u=some x:=by
 cases x with
 |non=>cases r;rfl
 |bl _=>cases r;rfl
 |int _=>obtain⟨t,rfl⟩:=r;rfl
 |str _=>obtain⟨t,rfl⟩:=r;rfl
 |byt _=>obtain⟨t,rfl⟩:=r;rfl
 |flt _=>obtain⟨t,rfl⟩:=r;rfl
 |ref _=>cases r;rfl
 |ty _=>cases r;rfl
theorem RelV.inj{x y:V}{u:af}(r:RelV x u)(q:RelV y u):x=y:=Option.some.inj (r.abs.symm.trans q.abs)
theorem Vals.inj:∀ {xs ys:List V} {us:List af},Vals xs us->Vals ys us->xs=ys
 |_,_,_,.nil,.nil=>rfl
 |_,_,_,.cons r t,.cons r' t'=>by rw[r.inj r',Vals.inj t t']
section
variable{X:Cx}{pins:List (aE×Obj)}{σ:St}{H:Hp}{s:ah}{a:aE}{xs ys:List V}
theorem gB.of{K:ae}(h:H a=some (.lst xs)):gB K H a xs:=.inl (.inl h)
theorem mO.of{K:ae}(h:H a=some (.tup xs)):mO K H a xs:=.inl (.inl h)
theorem Inv.list(I:Inv X pins σ H s)(h:gB X.K H a xs):∃its:List af,Vals xs its/\PlainL s.heap a its.toArray/\xs.length<=bS:=by
 rcases h with h | ⟨o,its,n,hk,hc,hd,hs,hz,r⟩
 ·obtain⟨z,its,n,r,e⟩:=h.ok I.hok
  exact⟨its,r,⟨_,n,e,rfl,rfl,rfl⟩,z⟩
 ·refine⟨its.toList,r,⟨o,n,I.lR a o hk,hc,hd,by simpa using hs⟩,?_⟩
  have e:=r.length
  simp only[d3] at e
  omega
theorem Inv.tuple(I:Inv X pins σ H s)(h:mO X.K H a xs):∃its:List af,Vals xs its/\IsTup s.heap a its.toArray/\xs.length<=bS:=by
 rcases h with h | ⟨o,its,n,hk,hc,hs,hz,r⟩
 ·obtain⟨z,its,r,p⟩:=h.ok I.hok
  exact⟨its,r,p.tup,z⟩
 ·refine⟨its.toList,r,⟨o,I.lR a o hk,hc,n,by simpa using hs⟩,?_⟩
  have e:=r.length
  simp only[d3] at e
  omega
theorem Inv.vX(I:Inv X pins σ H s)(h:gB X.K H a xs)(h':gB X.K H a ys):xs=ys:=by
 obtain⟨its,r,⟨o,n,e,_,_,d⟩,_⟩:=I.list h
 obtain⟨its',r',⟨o',n',e',_,_,d'⟩,_⟩:=I.list h'
 rw[e] at e';cases e'
 rw[d] at d'
 injection d' with d1 _
 have:its=its':=by simpa using congrArg II d1
 subst this
 exact r.inj r'
theorem Inv.Kv(I:Inv X pins σ H s)(h:mO X.K H a xs)(h':mO X.K H a ys):xs=ys:=by
 obtain⟨its,r,⟨o,e,_,n,d⟩,_⟩:=I.tuple h
 obtain⟨its',r',⟨o',e',_,n',d'⟩,_⟩:=I.tuple h'
 rw[e] at e';cases e'
 rw[d] at d'
 injection d' with d1 _
 have:its=its':=by simpa using congrArg II d1
 subst this
 exact r.inj r'
end
abbrev Cx.wish(X:Cx)(E:af->ah->Prop):Cx:={ X with xe:=E }
abbrev Cx.yK(X:Cx):Cx:=X.wish fun _ _=>False
theorem Cx.Ok.wish{X:Cx}(ok:X.Ok)(E:af->ah->Prop):(X.wish E).Ok :=
 ⟨ok.mod,ok.kind,ok.glob,ok.blt,ok.above,ok.inj,ok.has,ok.cab,ok.hd,ok.frames,ok.stk,ok.exf,ok.bs,ok.bsz,ok.noex,ok.exfs,ok.pL,ok.frf⟩
theorem Cx.Ok.gP{X:Cx}{E:af->ah->Prop}(ok:(X.wish E).Ok):X.Ok :=
 ⟨ok.mod,ok.kind,ok.glob,ok.blt,ok.above,ok.inj,ok.has,ok.cab,ok.hd,ok.frames,ok.stk,ok.exf,ok.bs,ok.bsz,ok.noex,ok.exfs,ok.pL,ok.frf⟩
section
variable{X:Cx}{pins:List (aE×Obj)}{σ:St}{H:Hp}{s:ah}{E:af->ah->Prop}
theorem Inv.wish(I:Inv X pins σ H s)(E:af->ah->Prop):Inv (X.wish E) pins σ H s:=⟨I.ok.wish E,I.os,I.bare,I.base,I.loc,I.cell,I.free,I.freeC,I.pin,I.hok,I.len⟩
theorem Inv.gP(I:Inv (X.wish E) pins σ H s):Inv X pins σ H s:=⟨I.ok.gP,I.os,I.bare,I.base,I.loc,I.cell,I.free,I.freeC,I.pin,I.hok,I.len⟩
theorem SP.gP{D:Ends}{f:K2}{s':ah}(h:SP (X.wish E) pins D f s'):SP X pins D f s':=by
 cases f with
 |next=>obtain⟨σ',H',I,q⟩:=h;exact⟨σ',H',I.gP,q⟩
 |brk=>obtain⟨σ',H',I,q⟩:=h;exact⟨σ',H',I.gP,q⟩
 |cont=>obtain⟨σ',H',I,q⟩:=h;exact⟨σ',H',I.gP,q⟩
 |ret u=>obtain⟨v,σ',H',I,r,q⟩:=h;exact⟨v,σ',H',I.gP,r,q⟩
theorem PT.yK{e:cS}{t:TT}(h:PT X.yK e t):PT X e t:=fun pins s σ H Q I hw=>
 eB (h pins s σ H Q (I.wish _) hw) (fun _ _ ⟨H',I',q⟩=>⟨H',I'.gP,q⟩) fun _ _ z=>e6 z
theorem zR.yK{st:List gg}{t:TS}(h:zR X.yK st t):zR X st t:=fun pins s σ H D I hw=>
 eB (h pins s σ H D (I.wish _) hw) (fun _ _ q=>q.gP) fun _ _ z=>e6 z
end
section
variable{X:Cx}{st:gg}{rest:List gg}{t u:TS}{e:cS}{te:TE}{pos:Pos}
def aaI:TS:=fun D σ H=>D.nx σ H
def W5(t u:TS):TS:=fun D σ H=>t { D with nx:=u D } σ H
theorem Vn:zR X [] aaI:=fun _ _ σ H _ I h=>mI ⟨σ,H,I,h⟩
theorem rF(h1:PS X st t)(h2:zR X rest u):zR X (st::rest) (W5 t u):=by
 intro pins s σ H D I h
 refine x5 (cC (h1 pins s σ H { D with nx:=u D } I h) fun f s1 q=>?_)
 cases f with
 |next=>
  obtain⟨σ',H',I',q⟩:=q
  exact h2 pins s1 σ' H' D I' q
 |ret v=>exact q
 |brk=>exact q
 |cont=>exact q
theorem vh(h1:PS X st t):zR X [st] t:=by
 intro pins s σ H D I h
 refine x5 (cC (h1 pins s σ H D I h) fun f s1 q=>?_)
 cases f with
 |next=>exact mI q
 |ret v=>exact q
 |brk=>exact q
 |cont=>exact q
def X3:TS:=fun D σ H=>D.bk σ H
theorem RB:PS X (.Break pos) X3:=fun _ _ σ H _ I h=>wpAny_Break ⟨σ,H,I,h⟩
theorem Inv.quiet{pins:List (aE×Obj)}{σ:St}{H:Hp}{s:ah}(I:Inv X pins σ H s):interactive X.env=false:=by simp[interactive,I.ok.kind]
def Ol(te:TE):TS:=fun D σ H=>te σ H fun _ H1=>D.nx σ H1
theorem uV(he:PE X e te)(hs:om e none pos.line X.env=pure false:=by rfl):PS X (.Expr e pos) (Ol te):=by
 intro pins s σ H D I h
 exact wpAny_Expr_any (cC (he pins s σ H _ I h) fun v s1 ⟨x,H1,I1,r1,q1⟩=>⟨σ,H1,I1,q1⟩) I.quiet hs
def acE(te:TE):TS:=fun D σ H=>te σ H D.rt
theorem Y9(he:PE X e te):PS X (.Return (some e) pos) (acE te):=by
 intro pins s σ H D I h
 exact wpAny_Return_some (cC (he pins s σ H _ I h) fun v s1 ⟨x,H1,I1,r1,q1⟩=>⟨x,σ,H1,I1,r1,q1⟩)
def ace(c:TT)(t u:TS):TS:=fun D σ H=>c σ H fun b H1=>if b=true then t D σ H1 else u D σ H1
theorem aaV{c:cS}{a b:List gg}{tc:TT}(hc:PT X c tc)(ha:zR X a t)(hb:zR X b u):PS X (.If c a b pos) (ace tc t u):=by
 intro pins s σ H D I h
 refine wpAny_If (cC (hc pins s σ H _ I h) fun d s1 zz=>?_)
 obtain⟨H1,I1,q1⟩:=zz
 cases d with
 |true=>exact ha pins s1 σ H1 D I1 q1
 |false=>exact hb pins s1 σ H1 D I1 q1
end
abbrev TG:=V->St->Hp->(St->Hp->Prop)->Prop
abbrev Yb:=List V->St->Hp->(St->Hp->Prop)->Prop
def PG(X:Cx)(target:cS)(t:TG):Prop :=
 ∀(pins:List (aE×Obj)) (s:ah) (σ:St) (H:Hp) (v:V) (u:af) (Q:St->Hp->Prop),Inv X pins σ H s->RelV v u->t v σ H Q ->
  bq (cf X.prog X.w) X.A (CF target X.env u) (fun _ s'=>∃σ' H',Inv X pins σ' H' s'/\Q σ' H') X.xe s
def PGs(X:Cx)(ts:List cS)(t:Yb):Prop :=
 ∀(pins:List (aE×Obj)) (s:ah) (σ:St) (H:Hp) (vs:List V) (us:List af) (Q:St->Hp->Prop),Inv X pins σ H s->Vals vs us->t vs σ H Q ->
  bq (cf X.prog X.w) X.A (assignInOrder ((rg ts X.env).map (·.2)) us) (fun _ s'=>∃σ' H',Inv X pins σ' H' s'/\Q σ' H') X.xe s
abbrev TIp:=V->V->Hp->VK->Prop
def PIp(X:Cx)(op:C6)(t:TIp):Prop :=
 ∀(pins:List (aE×Obj)) (s:ah) (σ:St) (H:Hp) (x y:V) (v u:af) (Q:VK),Inv X pins σ H s->RelV x v->RelV y u->t x y H Q ->
  bq (cf X.prog X.w) X.A (rh op v u) (EP X pins σ Q) X.xe s
section
variable{X:Cx}{pos:Pos}
def uv(i:Nat):TG:=fun v σ H Q=>Q (σ.set i (some v)) H
theorem jQ{i:Nat}{x:Str}(hN:X.N.Nodup)(hi:X.N[i]?=some x)(hx:Loc X.env.scope x)(hf:X.fn x=true\/X.env.scope.names.lookup x=some .local:=by first | exact .inl rfl | exact .inr rfl | assumption):PG X (.Name x pos) (uv i):=by
 intro pins s σ H v u Q I r h
 exact C7 (nO I hN hi hx r (fun s' I'=>⟨_,H,I',h⟩) hf)
def acS:Yb:=fun vs σ H Q=>vs=[]/\Q σ H
def aah(t:TG)(u:Yb):Yb:=fun vs σ H Q=>∃v r,vs=v::r/\t v σ H fun σ' H'=>u r σ' H' Q
theorem JQ:PGs X [] acS:=by
 intro pins s σ H vs us Q I r h
 obtain⟨e,h⟩:=h
 subst e
 cases r
 exact assignInOrder_nil ⟨σ,H,I,h⟩
theorem oh{e:cS}{es:List cS}{t:TG}{u:Yb}(h1:PG X e t)(h2:PGs X es u)
  (hs:(rg (e::es) X.env).map (·.2)=CF e X.env::(rg es X.env).map (·.2):=by rfl):PGs X (e::es) (aah t u):=by
 intro pins s σ H vs us Q I r h
 obtain⟨v,vr,e1,h⟩:=h
 subst e1
 cases r with
 |cons r rr=>
  rw[hs]
  refine assignInOrder_cons (cC (h1 pins s σ H _ _ _ I r h) fun _ s1 zz=>?_)
  obtain⟨σ1,H1,I1,q1⟩:=zz
  exact h2 pins s1 σ1 H1 _ _ Q I1 rr q1
def acM(K:ae)(n:Nat)(t:Yb):TG:=fun v σ H Q=>∃a xs,v=.ref a/\mO K H a xs/\xs.length=n/\t xs σ H Q
theorem Sh{es:List cS}{k:Nat}{t:Yb}{n:Nat}(hc:X.calm=true)(h:PGs X es t)
  (hn:(rg es X.env).length=n:=by rfl) (hst:(rg es X.env).findIdx? (·.1)=none:=by rfl):PG X (.Tuple es k pos) (acM X.K n t):=by
 intro pins s σ H v u Q I r hw
 obtain⟨a,xs,e1,hq,hl,hw⟩:=hw
 subst e1
 cases r
 obtain⟨its,rv,ht,hz⟩:=I.tuple hq
 refine assign_Tuple_tuple (I.ok.hd hc) ht (by simp[hn,←hl,rv.length]) hst fun h' hx=>?_
 have I1:Inv X pins σ H { s with heap:=h' }:=I.kept (t':=s.toks) fun b o e=>hx b o (df (bp e)) e
 exact h pins _ σ H xs _ Q I1 (by simpa using rv) hw
def Y8(te:TE)(g:TG):TS:=fun D σ H=>te σ H fun x H1=>g x σ H1 D.nx
theorem Wy{tg e:cS}{te:TE}{g:TG}(he:PE X e te)(hg:PG X tg g)(hs:swapsWithSole [tg] e pos.line X.env=pure false:=by rfl)(hw:swappedStores [tg] e X.env=pure none:=by rfl)
  (h1:(rg [tg] X.env).map (·.2)=[CF tg X.env]:=by rfl):PS X (.Assign [tg] e pos) (Y8 te g):=by
 intro pins s σ H D I h
 refine wpAny_Assign_stores (cC (he pins s σ H _ I h) fun v s1 zz=>?_) hs hw
 obtain⟨x,H1,I1,r1,q1⟩:=zz
 rw[h1]
 exact cC (hg pins s1 σ H1 x v _ I1 r1 q1) fun _ s2 q=>q
theorem Xx{i:Nat}{x:Str}{e:cS}{te:TE}{pos':Pos}(hN:X.N.Nodup)(hi:X.N[i]?=some x)(hx:Loc X.env.scope x)(he:PE X e te)(hs:om e (some (.Name x pos')) pos.line X.env=pure false:=by rfl)(hf:X.fn x=true\/X.env.scope.names.lookup x=some .local:=by first | exact .inl rfl | exact .inr rfl | assumption) :
  PS X (.Assign [.Name x pos'] e pos) (Y8 te (uv i)):=by
 intro pins s σ H D I h
 refine C8 (cC (he pins s σ H _ I h) fun v s1 zz=>?_) hs
 obtain⟨y,H1,I1,r1,q1⟩:=zz
 exact nO I1 hN hi hx r1 (fun s2 I2=>⟨_,H1,I2,q1⟩) hf
def abT(i:Nat)(te:TE)(ti:TIp):TS:=fun D σ H=>∃x,σ[i]?=some (some x)/\te σ H fun y H1=>ti x y H1 fun z H2=>D.nx (σ.set i (some z)) H2
theorem X5{i:Nat}{x:Str}{e:cS}{te:TE}{op:C6}{ti:TIp}{pos':Pos}(hN:X.N.Nodup)(hi:X.N[i]?=some x)(hx:Loc X.env.scope x)(he:PE X e te)(ho:PIp X op ti)(hf:X.fn x=true\/X.env.scope.names.lookup x=some .local:=by first | exact .inl rfl | exact .inr rfl | assumption) :
  PS X (.AugAssign (.Name x pos') op e pos) (abT i te ti):=by
 intro pins s σ H D I h
 obtain⟨v,e1,h⟩:=h
 obtain⟨m,hn,hl⟩:=I.loc
 have vis:Vis X.env.scope x:=by rcases hx with k | k;exact .inl k;exact .inr (.inl k)
 obtain⟨u,r,l⟩:=hl i x v hi e1 vis
 refine wpAny_AugAssign_Name ?_
 have go:bq (cf X.prog X.w) X.A (eR e X.env) (fun w s₂=>bq (cf X.prog X.w) X.A (rh op u w) (fun r s₃=>bq (cf X.prog X.w) X.A (IB X.env x r) (fun _=>SP X pins D .next) X.xe s₃) X.xe s₂) X.xe s:=by
  refine cC (he pins s σ H _ I h) fun w s1 zz=>?_
  obtain⟨y,H1,I1,r1,q1⟩:=zz
  refine cC (ho pins s1 σ H1 v y u w _ I1 r r1 q1) fun z s2 zz=>?_
  obtain⟨zv,H2,I2,r2,q2⟩:=zz
  exact nO I2 hN hi hx r2 (fun s3 I3=>⟨_,H2,I3,q2⟩) hf
 rcases l with ⟨hk,hm⟩ | ⟨hk,c,hc,hcell⟩
 ·exact AU I.ok.kind hk hn hm go
 ·rcases hk with hk | hk
  ·exact BH I.ok.kind hk hc hcell go
  ·rcases hx with k | k
   ·have:X.env.scope.names.lookup x=some .free:=hk
    rw[k] at this;cases this
   ·have:X.env.scope.names.lookup x=some .free:=hk
    rw[k] at this;cases this
end
section
variable{X:Cx}{pos:Pos}
def Xq(c:TT)(tb:TS):TS:=fun D σ H=>∃W:Nat->St->Hp->Prop,(∃m,W m σ H)/\∀m σ H,W m σ H ->
 c σ H fun b H1=>if b=true then ∃N:St->Hp->Prop,(∀σ' H',N σ' H'->∃m',m'<m/\W m' σ' H')/\tb { D with nx:=N,ct:=N,bk:=D.nx } σ H1 else D.nx σ H1
theorem Pn{c:cS}{body:List gg}{tc:TT}{tb:TS}(hp:EB (cf X.prog X.w) X.A X.env X.xe)(hc:PT X c tc)(hb:zR X body tb):PS X (.While c body [] pos) (Xq tc tb):=by
 intro pins s σ H D I h
 obtain⟨W,⟨m0,w0⟩,turn⟩:=h
 refine wpAny_While (codeAny_whileLoop (fun n s'=>∃σ' H',Inv X pins σ' H' s'/\W n σ' H') ?_ m0 ⟨σ,H,I,w0⟩)
 rintro n s1 ⟨σ1,H1,I1,w1⟩
 refine kN hp (cC (hc pins s1 σ1 H1 _ I1 (turn n σ1 H1 w1)) fun b s2 zz=>?_)
 obtain⟨H2,I2,q2⟩:=zz
 cases b with
 |true=>
  obtain⟨N,hN,q2⟩:=q2
  rw[if_pos rfl]
  refine kN hp (cC (hb pins s2 σ1 H2 _ I2 q2) fun f s3 q3=>?_)
  cases f with
  |next=>
   obtain⟨σ3,H3,I3,n3⟩:=q3
   obtain⟨m',hm,w3⟩:=hN σ3 H3 n3
   exact⟨m',hm,σ3,H3,I3,w3⟩
  |cont=>
   obtain⟨σ3,H3,I3,n3⟩:=q3
   obtain⟨m',hm,w3⟩:=hN σ3 H3 n3
   exact⟨m',hm,σ3,H3,I3,w3⟩
  |brk=>exact q3
  |ret v=>exact q3
 |false=>
  rw[if_neg ip]
  exact mI ⟨σ1,H2,I2,q2⟩
end
structure It where
 go:Nat->Hp->Prop
 yld:Nat->Hp->V->Hp->Prop
 stop:Nat->Hp->Prop
def j9(X:Cx)(pins:List (aE×Obj))(H:Hp)(b:aE):Prop :=
 H b=none/\b≠X.env.locals/\b∉X.fs/\(b∈X.ex\/X.s₀.heap.objs.size<=b)/\(∀x c,X.env.cells.lookup x=some c->c≠b)/\∀p∈X.pn++pins,p.1≠b
theorem Inv.wC{X:Cx}{pins:List (aE×Obj)}{σ:St}{H H':Hp}{s:ah}{b:aE}(I:Inv X pins σ H s)(hb:s.heap.objs.size<=b)(hn:H' b=none):j9 X pins H' b:=by
 refine⟨hn,g9 (b9 I.lt hb),I.adA hb,.inr (eh I.sz hb),fun x c e z=>?_,fun p hp z=>?_⟩
 ·obtain⟨v,q⟩:=I.cell x c e
  exact absurd (b9 q.lt (by rw[z];exact hb)) (nk _)
 ·exact absurd (b9 (bp (I.pin p hp).1) (by rw[z];exact hb)) (nk _)
structure Turn(P:b5)(w:cE)(K:ae)(tg:cS)(J:It)(fp:List aE)(it:aE)(tn:Nat->eJ->Prop):Prop where
 mem:it∈fp
 obj:∀i h,tn i h->∀b∈fp,∃o,h.get? b=some o/\∀v,o.data≠.cell v
 keep:∀i h h',tn i h->(∀b∈fp,∀o,h.get? b=some o->h'.get? b=some o)->tn i h'
 item:∀(X:Cx),X.prog=P->X.w=w->X.K=K->X.calm=true->∀(i:Nat) (pins:List (aE×Obj)) (s:ah) (σ:St) (H:Hp) (E:af->ah->Prop),Inv X pins σ H s->(∀b∈fp,j9 X pins H b)->tn i s.heap->J.go i H ->
  bq (cf P w) X.A (EC (.ref it)) (fun r s1=>∃u,r=some u /\
   bq (cf P w) X.A (sL tg (.ref it) u) (fun _ s2=>∃x H',Inv X pins σ H' s2/\RelV x u/\J.yld i H x H'/\tn (i+1) s2.heap/\∀b∈fp,H' b=none) E s1) E s
 done:∀(X:Cx),X.prog=P->X.w=w->X.K=K->X.calm=true->∀(i:Nat) (pins:List (aE×Obj)) (s:ah) (σ:St) (H:Hp) (E:af->ah->Prop),Inv X pins σ H s->(∀b∈fp,j9 X pins H b)->tn i s.heap->J.stop i H ->
  bq (cf P w) X.A (EC (.ref it)) (fun r s1=>r=none/\Inv X pins σ H s1) E s
 self:∀(A:dS) (i:Nat) (s:ah) (Q:af->ah->Prop) (E:af->ah->Prop),tn i s.heap->Q (.ref it) s->bq (cf P w) A (IJ (.ref it)) Q E s
abbrev TI:=St->Hp->(It->Hp->Prop)->Prop
def PIE(X:Cx)(pins:List (aE×Obj))(σ:St)(tg:cS)(R:It->Hp->Prop)(itv:af)(s2:ah):Prop :=
 ∃(it:aE) (fp:List aE) (tn:Nat->eJ->Prop) (J:It) (H':Hp),itv=.ref it/\Inv X pins σ H' s2/\Turn X.prog X.w X.K tg J fp it tn/\tn 0 s2.heap/\(∀b∈fp,j9 X pins H' b)/\R J H'
def PI(X:Cx)(tg iter:cS)(wi:TI):Prop :=
 ∀(pins:List (aE×Obj)) (s:ah) (σ:St) (H:Hp) (R:It->Hp->Prop),Inv X pins σ H s->wi σ H R ->
  bq (cf X.prog X.w) X.A (eR iter X.env) (fun v s1=>bq (cf X.prog X.w) X.A (IJ v) (PIE X pins σ tg R) X.xe s1) X.xe s
theorem wK{M:C5}{A:dS}{E:af->ah->Prop}{s:ah}{tg:cS}{it:aE}{u:af}{o:Obj}{n:String}{vs:Array af}{Q:Unit->ah->Prop}(ho:s.heap.get? it=some o)(hc:o.cls=.type n)(hd:o.data=.fields vs)
  (hn:["enumerate", "zip", "dict_itemiterator", "dict_reverseitemiterator", "odict_iterator", "itertools.zip_longest", "itertools.pairwise"].contains n=false) (hQ:Q () s):bq M A (sL tg (.ref it) u) Q E s:=by
 unfold sL
 cases tg <;> first
  |exact bg hQ
  | (cases u <;> first
    |exact bg hQ
    | (refine ag (wpAny_load ho ?_)
       rw[hc,hd]
       show bq M A (if (["enumerate", "zip", "dict_itemiterator", "dict_reverseitemiterator", "odict_iterator", "itertools.zip_longest", "itertools.pairwise"].contains n&&vs[0]? == some (ky _))=true then _ else _) Q E s
       rw[if_neg (by intro h;rw[hn,F8] at h;cases h)]
       exact bg hQ))
def Itl(K:ae)(a:aE):It :=
 ⟨fun i H=>∃xs x,gB K H a xs/\xs[i]?=some x,fun i H x H'=>H'=H/\∀xs,gB K H a xs->xs[i]?=some x,fun i H=>∃xs,gB K H a xs/\xs.length<=i⟩
def Itt(K:ae)(a:aE):It :=
 ⟨fun i H=>∃xs x,mO K H a xs/\xs[i]?=some x,fun i H x H'=>H'=H/\∀xs,mO K H a xs->xs[i]?=some x,fun i H=>∃xs,mO K H a xs/\xs.length<=i⟩
def ZW(lo:Int)(n:Nat):It:=⟨fun i _=>i<n,fun i H x H'=>H'=H/\x=.int (lo+i),fun i _=>n<=i⟩
theorem Nh{P:b5}{w:cE}{K:ae}{tg:cS}(a it:aE):Turn P w K tg (Itl K a) [it] it (fun i h=>h.IsListIter it a i) where
 mem:=by simp
 obj:=fun i h st b hb=>by
  have e:b=it:=by simpa using hb
  subst e
  obtain⟨o,e,c,d⟩:=st
  exact⟨o,e,fun v z=>by rw[d] at z;cases z⟩
 keep:=fun i h h' st k=>st.at fun o e=>k it (by simp) o e
 item:=by
  intro X hP hw hK hc i pins s σ H E I hf st hg
  subst hP hw hK
  obtain⟨xs,x,hq,hx⟩:=hg
  obtain⟨its,rv,p,hz⟩:=I.list hq
  obtain⟨u,hu,ru⟩:=rv.get hx
  obtain⟨f0,f1,f2,f3,f4,f5⟩:=hf it (by simp)
  refine wpAny_pyNext_list_item st p.isList (x:=u) (by simpa using hu) fun h' st' sb=>?_
  have I1:Inv X pins σ H { s with heap:=h' }:=I.turned (t':=s.toks) (fun b o hb e=>(sb.2 b hb).trans e) f0 f1 f3 f4 f5
  obtain⟨o,e,c,d⟩:=id st'
  exact⟨u,rfl,wK (s:={ s with heap:=h' }) e c d (by decide) ⟨x,H,I1,ru,⟨rfl,fun ys hy=>by rw[I.vX hy hq];exact hx⟩,st',fun b hb=>(hf b hb).1⟩⟩
 done:=by
  intro X hP hw hK hc i pins s σ H E I hf st hg
  subst hP hw hK
  obtain⟨xs,hq,hx⟩:=hg
  obtain⟨its,rv,p,hz⟩:=I.list hq
  obtain⟨f0,f1,f2,f3,f4,f5⟩:=hf it (by simp)
  have hl:=rv.length
  exact wpAny_pyNext_list_end (I.ok.hd hc) st p.isList (by simp;omega) fun h' eb=>⟨rfl,I.turned (t':=s.toks) (fun b o hb e=>eb b o hb e) f0 f1 f3 f4 f5⟩
 self:=fun _ _ _ _ _ st h=>wpAny_pyIter_listiter st h
theorem HH{P:b5}{w:cE}{K:ae}{tg:cS}(a it:aE):Turn P w K tg (Itt K a) [it] it (fun i h=>h.IsTupleIter it a i) where
 mem:=by simp
 obj:=fun i h st b hb=>by
  have e:b=it:=by simpa using hb
  subst e
  obtain⟨o,e,c,d⟩:=st
  exact⟨o,e,fun v z=>by rw[d] at z;cases z⟩
 keep:=fun i h h' st k=>st.at fun o e=>k it (by simp) o e
 item:=by
  intro X hP hw hK hc i pins s σ H E I hf st hg
  subst hP hw hK
  obtain⟨xs,x,hq,hx⟩:=hg
  obtain⟨its,rv,p,hz⟩:=I.tuple hq
  obtain⟨u,hu,ru⟩:=rv.get hx
  obtain⟨f0,f1,f2,f3,f4,f5⟩:=hf it (by simp)
  refine wpAny_pyNext_tuple_item st (show s.heap.IsTuple a its.toArray from p) (x:=u) (by simpa using hu) fun h' st' sb=>?_
  have I1:Inv X pins σ H { s with heap:=h' }:=I.turned (t':=s.toks) (fun b o hb e=>(sb.2 b hb).trans e) f0 f1 f3 f4 f5
  obtain⟨o,e,c,d⟩:=id st'
  exact⟨u,rfl,wK (s:={ s with heap:=h' }) e c d (by decide) ⟨x,H,I1,ru,⟨rfl,fun ys hy=>by rw[I.Kv hy hq];exact hx⟩,st',fun b hb=>(hf b hb).1⟩⟩
 done:=by
  intro X hP hw hK hc i pins s σ H E I hf st hg
  subst hP hw hK
  obtain⟨xs,hq,hx⟩:=hg
  obtain⟨its,rv,p,hz⟩:=I.tuple hq
  obtain⟨f0,f1,f2,f3,f4,f5⟩:=hf it (by simp)
  have hl:=rv.length
  exact wpAny_pyNext_tuple_end (I.ok.hd hc) st (show s.heap.IsTuple a its.toArray from p) (by simp;omega) fun h' eb=>⟨rfl,I.turned (t':=s.toks) (fun b o hb e=>eb b o hb e) f0 f1 f3 f4 f5⟩
 self:=fun _ _ _ _ _ st h=>wpAny_pyIter_tupleiter st h
theorem G3{P:b5}{w:cE}{K:ae}{tg:cS}(it:aE)(lo:Int)(n:Nat):Turn P w K tg (ZW lo n) [it] it (fun i h=>wm h it (lo+(i:Nat)*1) ((n:Int)-(i:Nat)) 1) where
 mem:=by simp
 obj:=fun i h st b hb=>by
  have e:b=it:=by simpa using hb
  subst e
  exact⟨_,st,fun v z=>by
   have z':AV _=Data.cell v:=z
   cases z'⟩
 keep:=fun i h h' st k=>k it (by simp) _ st
 item:=by
  intro X hP hw hK hc i pins s σ H E I hf st hg
  subst hP hw hK
  obtain⟨f0,f1,f2,f3,f4,f5⟩:=hf it (by simp)
  have W:=Walks.range (prog:=X.prog) (w:=X.w) (I.ok.hd hc) it lo 1 n
  refine W.item i s _ _ hg st fun v h' tk hv st' kk=>?_
  obtain⟨t,rfl⟩:=hv
  have I1:Inv X pins σ H { s with heap:=h',toks:=tk }:=I.turned (fun b o hb e=>kk b o (by simpa using hb) e) f0 f1 f3 f4 f5
  refine⟨_,rfl,wK (s:={ s with heap:=h',toks:=tk }) (n := "range_iterator") st' rfl rfl (by decide) ⟨.int (lo+i),H,I1,⟨t,?_⟩,⟨rfl,rfl⟩,st',fun b hb=>(hf b hb).1⟩⟩
  rw[sj]
 done:=by
  intro X hP hw hK hc i pins s σ H E I hf st hg
  subst hP hw hK
  obtain⟨f0,f1,f2,f3,f4,f5⟩:=hf it (by simp)
  exact y4 (I.ok.hd hc) st (by have:n<=i:=hg;omega) fun h' eb=>⟨rfl,I.turned (t':=s.toks) (fun b o hb e=>eb b o hb e) f0 f1 f3 f4 f5⟩
 self:=fun _ _ _ _ _ st h=>y6 st h
section
variable{X:Cx}{tg:cS}
def aax(K:ae)(tl:TE):TI:=fun σ H R=>tl σ H fun x H1=>∃a,x=.ref a/\(∃xs,gB K H1 a xs)/\R (Itl K a) H1
def adF(K:ae)(tl:TE):TI:=fun σ H R=>tl σ H fun x H1=>∃a,x=.ref a/\(∃xs,mO K H1 a xs)/\R (Itt K a) H1
theorem S5{l:cS}{tl:TE}(hl:PE X l tl):PI X tg l (aax X.K tl):=by
 intro pins s σ H R I h
 refine cC (hl pins s σ H _ I h) fun v s1 zz=>?_
 obtain⟨x,H1,I1,r1,q1⟩:=zz
 obtain⟨a,e,⟨xs,hq⟩,q⟩:=q1
 subst e
 cases r1
 obtain⟨its,rv,p,hz⟩:=I1.list hq
 refine wo p.isList ?_
 refine⟨s1.heap.objs.size,[s1.heap.objs.size],_,_,H1,rfl,I1.kept (t':=s1.toks) fun b o e=>av _ e,Nh a _,⟨_,bP _ rfl,rfl,rfl⟩,fun b hb=>?_,q⟩
 have e:b=s1.heap.objs.size:=by simpa using hb
 subst e
 exact I1.wC (aT _) (I1.hok.fresh (aT _))
theorem Yo{l:cS}{tl:TE}(hl:PE X l tl):PI X tg l (adF X.K tl):=by
 intro pins s σ H R I h
 refine cC (hl pins s σ H _ I h) fun v s1 zz=>?_
 obtain⟨x,H1,I1,r1,q1⟩:=zz
 obtain⟨a,e,⟨xs,hq⟩,q⟩:=q1
 subst e
 cases r1
 obtain⟨its,rv,p,hz⟩:=I1.tuple hq
 refine wpAny_pyIter_tuple (show s1.heap.IsTuple a its.toArray from p) ?_
 refine⟨s1.heap.objs.size,[s1.heap.objs.size],_,_,H1,rfl,I1.kept (t':=s1.toks) fun b o e=>av _ e,HH a _,⟨_,bP _ rfl,rfl,rfl⟩,fun b hb=>?_,q⟩
 have e:b=s1.heap.objs.size:=by simpa using hb
 subst e
 exact I1.wC (aT _) (I1.hok.fresh (aT _))
def ac2(wi:TI)(g:TG)(tb:TS):TS:=fun D σ H=>wi σ H fun J H1=>∃W:Nat->Nat->St->Hp->Prop,(∃m,W 0 m σ H1)/\∀i m σ H,W i m σ H ->
 (J.stop i H/\D.nx σ H)\/(J.go i H/\∃N:St->Hp->Prop,(∀σ' H',N σ' H'->∃m',m'<m/\W (i+1) m' σ' H')/\∀x H',J.yld i H x H'->g x σ H' fun σ2 H2=>tb { D with nx:=N,ct:=N,bk:=D.nx } σ2 H2)
def vV(fp:List aE)(h:eJ):List (aE×Obj):=fp.filterMap fun b=>(h.get? b).map fun o=>(b,o)
theorem lU{fp:List aE}{h:eJ}{b:aE}{o:Obj}(hb:b∈fp)(e:h.get? b=some o):(b,o)∈vV fp h:=t5.mpr ⟨b,hb,by rw[e];rfl⟩
theorem Nf{fp:List aE}{h:eJ}{p:aE×Obj}(hp:p∈vV fp h):p.1∈fp/\h.get? p.1=some p.2:=by
 obtain⟨b,hb,e⟩:=t5.mp hp
 cases q:h.get? b with
 |none=>rw[q] at e;cases e
 |some o=>
  rw[q] at e
  have e':(b,o)=p:=Option.some.inj e
  subst e'
  exact⟨hb,q⟩
theorem Inv.pinned{pins:List (aE×Obj)}{σ:St}{H:Hp}{s:ah}{fp:List aE}(I:Inv X pins σ H s)(hf:∀b∈fp,j9 X pins H b)(ho:∀b∈fp,∃o,s.heap.get? b=some o/\∀v,o.data≠.cell v):Inv X (pins++vV fp s.heap) σ H s :=
 I.oO fun p hp=>(dE.mp hp).elim (fun z=>I.pin p (eD _ z)) fun z=>by
  obtain⟨hb,e⟩:=Nf z
  obtain⟨f0,f1,f2,_⟩:=hf p.1 hb
  obtain⟨o,e',d⟩:=ho p.1 hb
  rw[e] at e';cases e'
  exact⟨e,f0,f1,f2,d⟩
theorem Inv.qK{pins pl:List (aE×Obj)}{σ:St}{H:Hp}{s:ah}(I:Inv X (pins++pl) σ H s):Inv X pins σ H s:=I.oO fun p hp=>I.pin p (eD _ (fo _ hp))
theorem Zq{iter:cS}{body:List gg}{wi:TI}{g:TG}{tb:TS}{pos:Pos}(hp:EB (cf X.prog X.w) X.A X.env X.xe)(hc:X.calm=true)(hi:PI X tg iter wi)(hg:PG X tg g)(hb:zR X body tb)
  (hs:∀x,jI iter X.env x=pure x:=by intro _;rfl):PS X (.For tg iter body [] pos) (ac2 wi g tb):=by
 intro pins s σ H D I h
 refine wpAny_For (cC (hi pins s σ H _ I h) fun v s1 h1=>cC h1 fun itv s2 h2=>?_) hs
 obtain⟨it,fp,tn,J,H2,e,I2,T,st2,f2,W,⟨m0,w0⟩,turn⟩:=h2
 subst e
 have stat:∀ {H':Hp},(∀b∈fp,H' b=none)->∀b∈fp,j9 X pins H' b:=fun hn b hb=>⟨hn b hb,(f2 b hb).2⟩
 refine codeAny_forLoop_any (fun n s'=>∃i σ' H',Inv X pins σ' H' s'/\tn i s'.heap/\(∀b∈fp,H' b=none)/\W i n σ' H') ?_ m0 ⟨0,σ,H2,I2,st2,fun b hb=>(f2 b hb).1,w0⟩
 rintro n s3 ⟨i,σ3,H3,I3,st3,fr3,w3⟩
 rcases turn i n σ3 H3 w3 with ⟨stop,qn⟩ | ⟨go,N,hN,step⟩
 ·refine kN hp (cC (T.done X rfl rfl rfl hc i pins s3 σ3 H3 X.xe I3 (stat fr3) st3 stop) fun r s4 zz=>?_)
  obtain⟨hr,I4⟩:=zz
  subst hr
  exact mI ⟨σ3,H3,I4,qn⟩
 ·refine kN hp (cC (T.item X rfl rfl rfl hc i pins s3 σ3 H3 X.xe I3 (stat fr3) st3 go) fun r s4 zz=>?_)
  obtain⟨u,hr,h4⟩:=zz
  subst hr
  refine kN hp (cC h4 fun _ s5 zz=>?_)
  obtain⟨x,H5,I5,r5,y5,st5,fr5⟩:=zz
  have I5':=I5.pinned (stat fr5) (T.obj _ _ st5)
  refine kN hp (cC (hg _ s5 σ3 H5 x u _ I5' r5 (step x H5 y5)) fun _ s6 zz=>?_)
  obtain⟨σ6,H6,I6,q6⟩:=zz
  refine kN hp (cC (hb _ s6 σ6 H6 _ I6 q6) fun f s7 q7=>?_)
  have again:∀ {σ7:St} {H7:Hp},Inv X (pins++vV fp s5.heap) σ7 H7 s7->N σ7 H7->∃m,m<n/\∃i σ' H',Inv X pins σ' H' s7/\tn i s7.heap/\(∀b∈fp,H' b=none)/\W i m σ' H':=fun {σ7 H7} I7 n7=>by
   obtain⟨m',hm,w7⟩:=hN σ7 H7 n7
   refine⟨m',hm,i+1,σ7,H7,I7.qK,T.keep _ _ _ st5 fun b hb o e=>(I7.pin (b,o) (eD _ (eD _ (lU hb e)))).1,fun b hb=>?_,w7⟩
   obtain⟨o,e,d⟩:=T.obj _ _ st5 b hb
   exact (I7.pin (b,o) (eD _ (eD _ (lU hb e)))).2.1
  cases f with
  |next=>obtain⟨σ7,H7,I7,n7⟩:=q7;exact again I7 n7
  |cont=>obtain⟨σ7,H7,I7,n7⟩:=q7;exact again I7 n7
  |brk=>obtain⟨σ7,H7,I7,q7⟩:=q7;exact⟨σ7,H7,I7.qK,q7⟩
  |ret v=>obtain⟨x7,σ7,H7,I7,r7,q7⟩:=q7;exact⟨x7,σ7,H7,I7.qK,r7,q7⟩
end
abbrev R2:=V->V->Hp->VK->Prop
def gW(X:Cx)(f:af->af->Sem af)(r:R2):Prop :=
 ∀(pins:List (aE×Obj)) (s:ah) (σ:St) (H:Hp) (x y:V) (v u:af) (Q:VK),Inv X pins σ H s->RelV x v->RelV y u->r x y H Q ->
  bq (cf X.prog X.w) X.A (f v u) (EP X pins σ Q) X.xe s
def UnR(X:Cx)(f:af->Sem af)(r:V->Hp->VK->Prop):Prop :=
 ∀(pins:List (aE×Obj)) (s:ah) (σ:St) (H:Hp) (x:V) (v:af) (Q:VK),Inv X pins σ H s->RelV x v->r x H Q ->
  bq (cf X.prog X.w) X.A (f v) (EP X pins σ Q) X.xe s
def eV(X:Cx)(f:af)(r:List V->Hp->VK->Prop):Prop :=
 ∀(pins:List (aE×Obj)) (s:ah) (σ:St) (H:Hp) (xs:List V) (us:List af) (Q:VK),Inv X pins σ H s->Vals xs us->r xs H Q ->
  bq (cf X.prog X.w) X.A (call f us) (EP X pins σ Q) X.xe s
def tOp(r:R2)(ta tb:TE):TE:=fun σ H Q=>ta σ H fun x H1=>tb σ H1 fun y H2=>r x y H2 Q
def tUn(r:V->Hp->VK->Prop)(ta:TE):TE:=fun σ H Q=>ta σ H fun x H1=>r x H1 Q
def rI(C:Int->Int->Prop)(g:Int->Int->V):R2:=fun x y H Q=>∃i j,x=.int i/\y=.int j/\C i j/\Q (g i j) H
def Sw(g:Int->Int->V):R2:=fun x y H Q=>∃i j,x=.int i/\y=.int j/\Q (g i j) H
def rU(g:Int->V):V->Hp->VK->Prop:=fun x H Q=>∃i,x=.int i/\Q (g i) H
section
variable{X:Cx}{a b c:cS}{ta tb tc:TE}{pos:Pos}
theorem Xk(ha:PE X a ta)(hb:PE X b tb){pins:List (aE×Obj)}{s:ah}{σ:St}{H:Hp}{R:V->V->Hp->Prop}(I:Inv X pins σ H s)
  (h:ta σ H fun x H1=>tb σ H1 fun y H2=>R x y H2) {Q:af->ah->Prop} {f:af->af->Sem af}
  (hf:∀v u s2 x y H2,Inv X pins σ H2 s2->RelV x v->RelV y u->R x y H2->bq (cf X.prog X.w) X.A (f v u) Q X.xe s2) :
  bq (cf X.prog X.w) X.A (eR a X.env) (fun v s₁=>bq (cf X.prog X.w) X.A (eR b X.env) (fun u s₂=>bq (cf X.prog X.w) X.A (f v u) Q X.xe s₂) X.xe s₁) X.xe s:=by
 refine cC (ha pins s σ H _ I h) fun v s1 zz=>?_
 obtain⟨x,H1,I1,r1,q1⟩:=zz
 refine cC (hb pins s1 σ H1 _ I1 q1) fun u s2 zz=>?_
 obtain⟨y,H2,I2,r2,q2⟩:=zz
 exact hf v u s2 x y H2 I2 r1 r2 q2
theorem abL{op:C6}{r:R2}(ho:gW X (kX op) r)(ha:PE X a ta)(hb:PE X b tb):PE X (.BinOp a op b pos) (tOp r ta tb):=by
 intro pins s σ H Q I h
 exact wpAny_BinOp (Xk ha hb I h fun v u s2 x y H2 I2 rx ry q=>ho pins s2 σ H2 x y v u Q I2 rx ry q)
theorem aav{op:UnaryOp}{r:V->Hp->VK->Prop}(ho:UnR X (IL op) r)(ha:PE X a ta):PE X (.UnaryOp op a pos) (tUn r ta):=by
 intro pins s σ H Q I h
 exact UnaryOp_ (cC (ha pins s σ H _ I h) fun v s1 ⟨x,H1,I1,r1,q1⟩=>ho pins s1 σ H1 x v Q I1 r1 q1)
theorem opI{f:af->af->Sem af}{C:Int->Int->Prop}{g:Int->Int->Int}
  (IH:∀(i j:Int) (t u:Tok) (s:ah) (Q:af->ah->Prop) (E:af->ah->Prop),C i j->Q (.int (g i j) s.toks) { s with toks:=s.toks+1 }->bq (cf X.prog X.w) X.A (f (.int i t) (.int j u)) Q E s) :
  gW X f (rI C fun i j=>.int (g i j)):=by
 intro pins s σ H x y v u Q I rx ry h
 obtain⟨i,j,rfl,rfl,hc,q⟩:=h
 obtain⟨t,rfl⟩:=rx
 obtain⟨t',rfl⟩:=ry
 exact IH i j t t' s _ _ hc ⟨.int (g i j),H,I.tok _,⟨_,rfl⟩,q⟩
theorem Vb{f:af->af->Sem af}{g:Int->Int->Int}
  (IH:∀(i j:Int) (t u:Tok) (s:ah) (Q:af->ah->Prop) (E:af->ah->Prop),Q (.int (g i j) s.toks) { s with toks:=s.toks+1 }->bq (cf X.prog X.w) X.A (f (.int i t) (.int j u)) Q E s) :
  gW X f (Sw fun i j=>.int (g i j)):=by
 intro pins s σ H x y v u Q I rx ry h
 obtain⟨i,j,rfl,rfl,q⟩:=h
 obtain⟨t,rfl⟩:=rx
 obtain⟨t',rfl⟩:=ry
 exact IH i j t t' s _ _ ⟨.int (g i j),H,I.tok _,⟨_,rfl⟩,q⟩
theorem Wt{f:af->af->Sem af}{g:Int->Int->Bool}
  (IH:∀(i j:Int) (t u:Tok) (s:ah) (Q:af->ah->Prop) (E:af->ah->Prop),Q (.bool (g i j)) s->bq (cf X.prog X.w) X.A (f (.int i t) (.int j u)) Q E s) :
  gW X f (Sw fun i j=>.bl (g i j)):=by
 intro pins s σ H x y v u Q I rx ry h
 obtain⟨i,j,rfl,rfl,q⟩:=h
 obtain⟨t,rfl⟩:=rx
 obtain⟨t',rfl⟩:=ry
 exact IH i j t t' s _ _ ⟨.bl (g i j),H,I,rfl,q⟩
def U0(i j:Int):Prop:=0<=j/\j<=1000000/\i.natAbs<2 ^ 64
def Yj(i j:Int):Prop:=(-(2 ^ 64)<i/\i<2 ^ 64)\/(-(2 ^ 64)<j/\j<2 ^ 64)
theorem Yj.ok{i j:Int}(h:Yj i j):IntMulOk i j:=by
 rcases h with ⟨h1,h2⟩ | ⟨h1,h2⟩
 ·exact .of_left (intBits_le_64 h1 h2)
 ·exact .of_right (intBits_le_64 h1 h2)
theorem Y4:gW X (kX .Add) (Sw fun i j=>.int (i+j)):=Vb fun _ _ _ _ _ _ _ q=>add_int q
theorem Zz:gW X (kX .Sub) (Sw fun i j=>.int (i-j)):=Vb fun _ _ _ _ _ _ _ q=>sub_int q
theorem W7:gW X (kX .Mod) (rI (fun _ j=>0<j) fun i j=>.int (i%j)):=opI fun i j _ _ _ _ _ hc q=>by
 have h1:(0:Int)<j:=hc
 exact mod_int' (by omega) (by rw[Int.fmod_eq_emod_of_nonneg i (by omega)];exact q)
theorem X8:gW X (kX .Pow) (rI U0 fun i j=>.int (i ^ j.toNat)):=opI fun _ _ _ _ _ _ _ hc q=>pow_int_small hc.1 hc.2.1 hc.2.2 q
theorem Ul:gW X (rh .Add) (Sw fun i j=>.int (i+j)):=Vb fun _ _ _ _ _ _ _ q=>iadd_int q
theorem UJ:gW X (rh .Sub) (Sw fun i j=>.int (i-j)):=Vb fun _ _ _ _ _ _ _ q=>isub_int q
theorem unI{f:af->Sem af}{g:Int->Int}
  (IH:∀(i:Int) (t:Tok) (s:ah) (Q:af->ah->Prop) (E:af->ah->Prop),Q (.int (g i) s.toks) { s with toks:=s.toks+1 }->bq (cf X.prog X.w) X.A (f (.int i t)) Q E s) :
  UnR X f (rU fun i=>.int (g i)):=by
 intro pins s σ H x v Q I rx h
 obtain⟨i,rfl,q⟩:=h
 obtain⟨t,rfl⟩:=rx
 exact IH i t s _ _ ⟨.int (g i),H,I.tok _,⟨_,rfl⟩,q⟩
theorem W3:UnR X (IL .USub) (rU fun i=>.int (-i)):=unI fun _ _ _ _ _ q=>neg_int q
end
section
variable{X:Cx}{a b c:cS}{ta tb tc:TE}{pos:Pos}
theorem X4{pins:List (aE×Obj)}{σ:St}{H:Hp}{s:ah}{Q:VK}{k k':Bool}(I:Inv X pins σ H s)(q:Q (.bl k) H)(e:k=k'):EP X pins σ Q (.bool k') s:=by
 subst e
 exact⟨.bl k,H,I,rfl,q⟩
theorem aaR:gW X (eW .Lt) (Sw fun i j=>.bl (decide (i<j))):=Wt fun _ _ _ _ _ _ _ q=>lt_int q
theorem aaU:gW X (eW .LtE) (Sw fun i j=>.bl (decide (i<=j))):=Wt fun _ _ _ _ _ _ _ q=>le_int q
theorem aa7:gW X (eW .Gt) (Sw fun i j=>.bl (decide (j<i))):=Wt fun _ _ _ _ _ _ _ q=>gt_int q
theorem Tv:gW X (eW .IsNot) (fun x y H Q=>y=.non/\Q (.bl (!decide (x=.non))) H):=by
 intro pins s σ H x y v u Q I rx ry h
 obtain⟨rfl,q⟩:=h
 cases ry
 refine isnot_none_gen (X4 I q ?_)
 cases x <;> first
  |(cases rx;rfl)
  |(obtain⟨t,rfl⟩:=rx;rfl)
theorem Su(b:cS){op:Cc}(h:op≠.In:=by decide)(h2:op≠.NotIn:=by decide):kD op b=false:=by
 have e1:(op==Lo)=false:=by cases op <;> first | rfl | exact absurd rfl h
 have e2:(op==JU)=false:=by cases op <;> first | rfl | exact absurd rfl h2
 cases b <;> simp[kD,e1,e2]
theorem Tn{op:Cc}{r:R2}(ho:gW X (eW op) r)(ha:PE X a ta)(hb:PE X b tb)(hm:kD op b=false):PE X (.Compare a [op] [b] pos) (tOp r ta tb):=by
 intro pins s σ H Q I h
 exact wpAny_Compare1 (Xk ha hb I h fun v u s2 x y H2 I2 rx ry q=>ho pins s2 σ H2 x y v u Q I2 rx ry q) hm
def Wf(t:TE):TT:=fun σ H Q=>t σ H fun x H'=>∃k,x=.bl k/\Q k H'
theorem Tg{op:Cc}{r:R2}(ho:gW X (eW op) r)(ha:PE X a ta)(hb:PE X b tb)(hm:kD op b=false):PT X (.Compare a [op] [b] pos) (Wf (tOp r ta tb)):=by
 intro pins s σ H Q I h
 refine AI (cC (ha pins s σ H _ I h) fun v s1 ⟨x,H1,I1,r1,q1⟩=>cC (hb pins s1 σ H1 _ I1 q1) fun u s2 ⟨y,H2,I2,r2,q2⟩=>
  cC (ho pins s2 σ H2 x y v u _ I2 r1 r2 q2) fun c s3 ⟨z,H3,I3,r3,k,e,q3⟩=>?_) hm
 subst e
 cases r3
 exact kU ⟨H3,I3,q3⟩
def Qp(r r':R2)(ta tb tc:TE):TE:=fun σ H Q=>ta σ H fun x H1=>tb σ H1 fun y H2=>r x y H2 fun z H3=>∃k,z=.bl k /\
 (if k=true then tc σ H3 fun w' H4=>r' y w' H4 Q else Q (.bl false) H3)
theorem O1{op op':Cc}{r r':R2}(ho:gW X (eW op) r)(ho':gW X (eW op') r')(ha:PE X a ta)(hb:PE X b tb)(hc:PE X c tc)
  (hm:lastMarks [op,op'] [b,c]=false:=by with_unfolding_all rfl):PT X (.Compare a [op,op'] [b,c] pos) (Wf (Qp r r' ta tb tc)):=by
 intro pins s σ H Q I h
 refine isTrue_chain (cC (ha pins s σ H _ I h) fun v s1 ⟨x,H1,I1,r1,q1⟩=>test_link (cC (hb pins s1 σ H1 _ I1 q1) fun u s2 ⟨y,H2,I2,r2,q2⟩=>
  cC (ho pins s2 σ H2 x y v u _ I2 r1 r2 q2) fun d s3 ⟨z,H3,I3,r3,k,e,q3⟩=>?_)) hm
 subst e
 cases r3
 refine kU ?_
 cases k with
 |false=>
  obtain⟨k',e',q'⟩:=q3
  cases e'
  exact ite_ff ⟨H3,I3,q'⟩
 |true=>
  refine ite_tt (test_last (cC (hc pins s3 σ H3 _ I3 q3) fun w' s4 ⟨z',H4,I4,r4,q4⟩=>cC (ho' pins s4 σ H4 y z' u w' _ I4 r2 r4 q4) fun d' s5 zz=>?_))
  obtain⟨z2,H5,I5,r5,k2,e2,q5⟩:=zz
  subst e2
  cases r5
  exact kU ⟨H5,I5,q5⟩
theorem vO:(bS:Nat)<2 ^ 63:=by rw[hG];decide
theorem HY:gW X (kX .Add) (fun x y H Q=>∃i j,x=.str i/\y=.str j/\i.length+j.length<=bS/\Q (.str (i++j)) H):=by
 intro pins s σ H x y v u Q I rx ry h
 obtain⟨i,j,rfl,rfl,hz,q⟩:=h
 obtain⟨t,rfl⟩:=rx
 obtain⟨t',rfl⟩:=ry
 exact add_str (fun t' tk=>⟨.str (i++j),H,I.tok _,⟨_,rfl⟩,q⟩) hz
theorem Df:gW X (rh .Add) (fun x y H Q=>∃i j,x=.str i/\y=.str j/\i.length+j.length<=bS/\Q (.str (i++j)) H):=by
 intro pins s σ H x y v u Q I rx ry h
 obtain⟨i,j,rfl,rfl,hz,q⟩:=h
 obtain⟨t,rfl⟩:=rx
 obtain⟨t',rfl⟩:=ry
 exact iadd_str (fun t' tk=>⟨.str (i++j),H,I.tok _,⟨_,rfl⟩,q⟩) hz
theorem vals1{x:V}{us:List af}(r:Vals [x] us):∃u,us=[u]/\RelV x u:=by
 cases r with
 |cons r1 r2=>cases r2;exact⟨_,rfl,r1⟩
theorem vals2{x y:V}{us:List af}(r:Vals [x,y] us):∃u w',us=[u,w']/\RelV x u/\RelV y w':=by
 cases r with
 |cons r1 r2=>
  cases r2 with
  |cons r3 r4=>cases r4;exact⟨_,_,rfl,r1,r3⟩
end
structure Zu(h:eJ)(x dx C:aE)(mA:Str->Option af):Prop where
 obj:h.get? x=some (Ap C dx)
 ns:h.Ns1 dx mA
 ne:dx≠x
theorem yZ{h:eJ}{dx:aE}{mA:Str->Option af}(n:h.Ns1 dx mA):∃od,h.get? dx=some od/\∀name,t9 name od=some (mA name):=by
 obtain⟨o,es,ep,ho,hd,hk,_,hm⟩:=n
 refine⟨o,ho,fun name=>?_⟩
 have e:=hm name
 unfold nsFind findBy at e
 rw[←Array.find?_toList] at e
 unfold t9
 rw[hd]
 dsimp only
 split
 ·rename_i y q
  rw[q] at e
  exact congrArg some e
 ·rename_i q
  rw[q] at e
  have a:es.toList.any (·.refKey)=false:=by
   rw[List.any_eq_false]
   intro y hy
   obtain⟨z,t,hkey⟩:=hk y (AW.mp hy)
   simp[DictEntry.refKey,hkey]
  have a':¬es.toList.any (·.refKey)=true:=by rw[a];exact ip
  rw[if_neg a']
  exact congrArg some e
theorem Zu.look{h:eJ}{x dx C:aE}{mA:Str->Option af}(I:Zu h x dx C mA):∃od,AX h x (Ap C dx) C (some od)/\∀name,t9 name od=some (mA name) :=
 let ⟨od,ho,hl⟩:=yZ I.ns
 ⟨od,⟨I.obj,rfl,rfl,ho⟩,hl⟩
theorem nY.some_of{v:V}{o:Option af}(r:nY (some v) o):∃u,o=some u/\RelV v u:=by
 cases o with
 |none=>exact (show False from r).elim
 |some u=>exact⟨u,rfl,r⟩
theorem nY.none_of{o:Option af}(r:nY none o):o=none:=by
 cases o with
 |none=>rfl
 |some u=>exact (show False from r).elim
theorem KY{v:V}{u:af}(r:RelV v u):x6 u=true:=by
 cases v with
 |non=>cases (show u=iN from r);rfl
 |bl b=>cases (show u=t4 b from r);rfl
 |int i=>obtain⟨t,e⟩:=(show ∃t,u=tT i t from r);cases e;rfl
 |str x=>obtain⟨t,e⟩:=(show ∃t,u=BC x t from r);cases e;rfl
 |byt b=>obtain⟨t,e⟩:=(show ∃t,u=JO b t from r);cases e;rfl
 |flt b=>obtain⟨t,e⟩:=(show ∃t,u=EX b t from r);cases e;rfl
 |ref a=>cases (show u=eK a from r);rfl
 |ty n=>cases (show u=CC n from r);rfl
section
variable{P:b5}{w:cE}{H H':Hp}{h h':eJ}{a C dx:aE}{fs fs':List (Str×V)}
theorem Vk(hok:mV P w H h)(e:H a=some (.ins C dx fs)):∃mA,Zu h a dx C mA/\(∀f,nY (fs.lookup f) (mA f))/\IF mA (fs.map (·.1))/\fs.length<=1000/\H dx=some (.own a):=by
 obtain⟨d,z,ne,ob,mA,n,r,q⟩:=(show cH P w H h a (.ins C dx fs) from hok a _ e)
 exact⟨mA,⟨ob,n,ne⟩,r,q,z,d⟩
end
structure Cls(K:ae)(C:aE):Prop where
 pg:ED K C Str.empty=true
 hd:iS K C=true
 po:PySem.W.plainOver K C=true
 sa:bX K (.ref C) "__setattr__" = some (some (.builtin "object.__setattr__"))
theorem Cls.get{K:ae}{C:aE}(c:Cls K C)(f:Str):ED K C f=true:=c.pg
section
variable{X:Cx}{pins:List (aE×Obj)}{σ:St}{H:Hp}{s:ah}{a C dx:aE}{fs:List (Str×V)}{f:Str}{v:V}{A:dS}{E:af->ah->Prop}
theorem U9{prog:b5}{w:cE}{env:Env}{e:cS}{f:Str}{pos:Pos}{s:ah}{Q:af->ah->Prop}(hb:ly e f env (eR e env)=eR e env)
  (h:bq (cf prog w) A (eR e env) (fun o s₁=>bq (cf prog w) A (getAttr o f true) Q E s₁) E s):bq (cf prog w) A (eR (.Attribute e f pos) env) Q E s :=
 Attribute_any_ h (by rw[arm_eval_Attribute,hb])
end
section
variable{X:Cx}{pins:List (aE×Obj)}{σ:St}{H:Hp}{s:ah}{A:dS}{E:af->ah->Prop}{Q:af->ah->Prop}{c:af}{b:Bool}
inductive uI(K:ae)(H:Hp):V->af->Prop where
 |non:uI K H .non (.type "NoneType")
 |bl (x:Bool):uI K H (.bl x) (.type "bool")
 |int (i:Int):uI K H (.int i) (.type "int")
 |str (x:Str):uI K H (.str x) (.type "str")
 |flt (x:UInt64):uI K H (.flt x) (.type "float")
 |lst {a:aE} {xs:List V} (e:H a=some (.lst xs)):uI K H (.ref a) (.type "list")
 |frz {a:aE} {o:Obj} {xs:List V} (e:H a=some (.frz o (.lst xs))):uI K H (.ref a) (.type "list")
 |tup {a:aE} {xs:List V} (e:H a=some (.tup xs)):uI K H (.ref a) (.type "tuple")
 |dK {a:aE} {kvs:List (Key×V)} (e:H a=some (.dK kvs)):uI K H (.ref a) (.type "dict")
 |dT {a:aE} {kvs:List (List Key×V)} (e:H a=some (.dT kvs)):uI K H (.ref a) (.type "dict")
 |ins {a C dx:aE} {fs:List (Str×V)} (e:H a=some (.ins C dx fs)) (cl:Cls K C) (ha:bX K (.ref C) "__class__" = some (some (.builtin "object.__class__")))
   (hn:gI K (.builtin "object.__class__") "__get__" = some (some (.builtin "getset_descriptor.__get__"))) (htk:kQ K (.builtin "object.__class__")=some true)
   (hm:dP K C (.type "object")=some true):uI K H (.ref a) (.ref C)
theorem iR{x:V}{u t:af}(I:Inv X pins σ H s)(rx:RelV x u)(ty:uI X.K H x t)(e:ax X.K t c=some b)(h:∀tk,Q (.bool b) { s with toks:=tk }) :
  bq (cf X.prog X.w) A (call (.builtin "isinstance") [u,c]) Q E s:=by
 cases ty with
 |non=>cases (show u=iN from rx);exact e9 PySem.W.kitx_none I.lR lI e (fun z=>nomatch z) h
 |bl y=>cases (show u=t4 y from rx);exact e9 PySem.W.kitx_bool I.lR lI e (fun z=>nomatch z) h
 |int i=>obtain⟨t,q⟩:=(show ∃t,u=tT i t from rx);cases q;exact e9 PySem.W.kitx_int I.lR lI e (fun z=>nomatch z) h
 |str y=>obtain⟨t,q⟩:=(show ∃t,u=BC y t from rx);cases q;exact e9 PySem.W.kitx_str I.lR lI e (fun z=>nomatch z) h
 |flt y=>obtain⟨t,q⟩:=(show ∃t,u=EX y t from rx);cases q;exact e9 PySem.W.kitx_float I.lR lI e (fun z=>nomatch z) h
 |@lst a xs ea=>
  cases (show u=eK a from rx)
  obtain⟨_,_,n,_,h1⟩:=(show cH X.prog X.w H s.heap a (.lst xs) from I.hok a _ ea)
  exact e9 wq I.lR ⟨_,h1,rfl⟩ e (fun z=>nomatch z) h
 |@frz a ob xs ea=>
  cases (show u=eK a from rx)
  obtain⟨_,_,_,n,_,h1⟩:=(show cH X.prog X.w H s.heap a (.frz ob (.lst xs)) from I.hok a _ ea)
  exact e9 wq I.lR ⟨_,h1,rfl⟩ e (fun z=>nomatch z) h
 |@tup a xs ea=>
  cases (show u=eK a from rx)
  obtain⟨_,_,_,p⟩:=(show cH X.prog X.w H s.heap a (.tup xs) from I.hok a _ ea)
  obtain⟨o,h1,h2,_⟩:=p
  exact e9 ub I.lR ⟨o,h1,h2⟩ e (fun z=>nomatch z) h
 |@dK a kvs ea=>
  cases (show u=eK a from rx)
  obtain⟨_,_,vs,_,p⟩:=(show cH X.prog X.w H s.heap a (.dK kvs) from I.hok a _ ea)
  obtain⟨o,es,ep,h1,h2,_⟩:=p
  exact e9 C9 I.lR ⟨o,h1,h2.1⟩ e (fun z=>nomatch z) h
 |@dT a kvs ea=>
  cases (show u=eK a from rx)
  obtain⟨_,_,xs,_,o,es,ep,h1,h2,_⟩:=(show cH X.prog X.w H s.heap a (.dT kvs) from I.hok a _ ea)
  exact e9 C9 I.lR ⟨o,h1,h2.1⟩ e (fun z=>nomatch z) h
 |@ins a C dx fs ea cl ha hn htk hm=>
  cases (show u=eK a from rx)
  obtain⟨mA,O,_⟩:=Vk I.hok ea
  obtain⟨od,J,_⟩:=O.look
  exact e9 (PySem.W.kitx_own (cl.get _) cl.hd ha hn htk hm) I.lR J e (fun z=>nomatch z) h
end
structure cW(k:Nat)(A:dS):Prop where
 hd:A.handled=none
 dp:A.depth+3*k+5<AY
 un:A.units+16*k+200<md
theorem cW.mono{j k:Nat}{A:dS}(r:cW k A)(h:j<=k):cW j A:=⟨r.hd,by have:=r.dp;omega,by have:=r.un;omega⟩
theorem cW.deeper{k:Nat}{A:dS}(r:cW (k+1) A)(env:Env):cW k (A.deeper env) :=
 ⟨r.hd,by have:=r.dp;show A.depth+1+3*k+5<_;omega,by have:=r.un;show A.units+3+16*k+200<_;omega⟩
theorem cW.in1{k:Nat}{A:dS}(r:cW (k+1) A):cW k A.in1 :=
 ⟨r.hd,by have:=r.dp;show A.depth+3*k+5<_;omega,by have:=r.un;show A.units+1+16*k+200<_;omega⟩
theorem G4{A:dS}{C:aE}{us:List af}{kw:List (Str×af)}:(A.under (.builtin "type.__call__" ⟨.ref C::us,kw⟩)).depth=A.depth+1:=by
 first | rfl | simp[Dx,Code.weight,Code.isCreation,Code.isGuard,Code.isCaller,Code.frames,DA,guardIds]
theorem GC{A:dS}{C:aE}{us:List af}{kw:List (Str×af)}:(A.under (.builtin "type.__call__" ⟨.ref C::us,kw⟩)).units=A.units+1:=by
 first | rfl | simp[Dx,Code.cUnits,Code.frames,DA]
theorem cW.make{k:Nat}{A:dS}(r:cW (k+1) A)(C:aE)(us:List af)(kw:List (Str×af)):cW k (A.under (.builtin "type.__call__" ⟨.ref C::us,kw⟩)) :=
 ⟨r.hd,by have:=r.dp;rw[G4];omega,by have:=r.un;rw[GC];omega⟩
theorem cW.depth{k:Nat}{A:dS}(r:cW k A):A.depth<AY:=by have:=r.dp;omega
theorem cW.units{k:Nat}{A:dS}(r:cW k A):A.units+64<md:=by have:=r.un;omega
theorem cW.xg{k:Nat}{A:dS}(r:cW k A):A.units<md:=by have:=r.un;omega
def Mx:TA:=fun _ H Q=>Q [] H
def uC(ta:TE)(tr:TA):TA:=fun σ H Q=>ta σ H fun x H1=>tr σ H1 fun xs H2=>Q (x::xs) H2
section
variable{X:Cx}{e:cS}{es:List cS}{te:TE}{t:TA}{pos:Pos}
theorem vK:PA X [] Mx:=fun _ _ _ _ H Q I h=>DB ⟨[],H,I,.nil,h⟩
theorem jO(ha:PE X e te)(hr:PA X es t)(hs:aI (e::es) X.env=(false,eR e X.env)::aI es X.env:=by rfl):PA X (e::es) (uC te t):=by
 intro pos pins s σ H Q I h
 rw[hs]
 show bq _ _ (IG ((false,eR e X.env)::i3 pos (aI es X.env))) _ _ s
 refine i9 (cC (ha pins s σ H _ I h) fun u s1 zz=>?_)
 obtain⟨x,H1,I1,r1,q1⟩:=zz
 exact cC (hr pos pins s1 σ H1 _ I1 q1) fun us s2 ⟨xs,H2,I2,r2,q2⟩=>⟨x::xs,H2,I2,.cons r1 r2,q2⟩
def acj(t:TA):TE:=fun σ H Q=>t σ H fun xs H1=>xs.length<=bS/\∀p,H1 p=none->Q (.ref p) (upd H1 p (.tup xs))
def acI(t:TA):TE:=fun σ H Q=>t σ H fun xs H1=>xs.length<=bS/\∀p,H1 p=none->Q (.ref p) (upd H1 p (.lst xs))
theorem Zr{x1}(h:PA X es t):PE X (.Tuple es x1 pos) (acj t):=by
 intro pins s σ H Q I hq
 refine wpAny_Tuple_spliced (cC (h pos pins s σ H _ I hq) fun us s1 ⟨xs,H1,I1,r,z,q⟩=>⟨by rw[←r.length];exact z,?_⟩)
 have hf:H1 s1.heap.objs.size=none:=I1.hok.fresh (aT _)
 refine⟨.ref s1.heap.objs.size,upd H1 s1.heap.objs.size (.tup xs),I1.laid (t':=s1.toks) (fun b u e=>av _ e) (aT _) ?_,rfl,q _ hf⟩
 exact⟨z,us,r,⟨_,bP _ rfl,rfl,_,rfl,rfl⟩⟩
theorem YW(h:PA X es t):PE X (.List es pos) (acI t):=by
 intro pins s σ H Q I hq
 refine wpAny_List_spliced (cC (h pos pins s σ H _ I hq) fun us s1 ⟨xs,H1,I1,r,z,q⟩=>⟨by rw[←r.length];exact z,?_⟩)
 have hf:H1 s1.heap.objs.size=none:=I1.hok.fresh (aT _)
 refine⟨.ref s1.heap.objs.size,upd H1 s1.heap.objs.size (.lst xs),I1.laid (t':=s1.toks) (fun b u e=>av _ e) (aT _) ?_,rfl,q _ hf⟩
 exact⟨z,us,0,r,bP _ rfl⟩
end
abbrev Sp:=List V->Hp->VK->XK->Prop
abbrev Sy:=List Env->Hp->ah->XK->af->ah->Prop
structure Ba(P:b5)(w:cE)(K:ae)(mg:Str->Option af)(base:eJ)(A:dS)(outer:List Env)(s:ah)(H:Hp):Prop where
 frames:A.frames=some outer
 mod:Mod K mg base
 bs:∀b o,base.get? b=some o->s.heap.get? b=some o/\H b=none
 bsz:base.objs.size<=s.heap.objs.size
 pL:s.heap.FunFrames base outer
 frf:∀b∈frs outer,H b=none
 hok:mV P w H s.heap
 bare:tI s.gens
def CE(outer:List Env)(P:b5)(w:cE)(H:Hp)(s:ah)(Q:VK)(u:af)(s':ah):Prop :=
 ∃v H',s'.os=s.os/\tI s'.gens/\Un (frs outer) [] H H' s.heap s'.heap/\mV P w H' s'.heap/\RelV v u/\Q v H'
def CR(CX:Sy)(outer:List Env)(P:b5)(w:cE)(H:Hp)(s:ah)(Q:VK)(E:XK)(r:Kt)(s':ah):Prop :=
 match r with
 |.ok (.ret u)=>CE outer P w H s Q u s'
 |.ok _=>False
 |.error e=>CX outer H s E e s'
structure pM(P:b5)(w:cE)(K:ae)(mg:Str->Option af)(base:eJ)(CX:Sy)(k:Nat)(f:aE)(fd:gc)(ps:List Str)(sp:Sp):Prop where
 len:∀vs H Q E,sp vs H Q E->vs.length=ps.length
 run:∀(A:dS) (outer:List Env) (s:ah) (H:Hp) (args:Args) (us:List af) (vs:List V) (Q:VK) (E:XK),cW k A->Ba P w K mg base A outer s H->DD s fd args (ps.zip us)->Vals vs us->sp vs H Q E ->
  wt (cf P w) A (.call (.ref f) args) (CR CX outer P w H s Q E) s
theorem Ba.make{P:b5}{w:cE}{K:ae}{mg:Str->Option af}{base:eJ}{A:dS}{outer:List Env}{s:ah}{H:Hp}(e:Ba P w K mg base A outer s H)(C:aE)(us:List af)(kw:List (Str×af)) :
  Ba P w K mg base (A.under (.builtin "type.__call__" ⟨.ref C::us,kw⟩)) outer s H:=⟨by first | exact e.frames | (simpa [Dx,Code.envs,DA,pushEnvs] using e.frames),e.mod,e.bs,e.bsz,e.pL,e.frf,e.hok,e.bare⟩
section
variable{X:Cx}{pins:List (aE×Obj)}{σ:St}{H:Hp}{s s':ah}
theorem Inv.env0(I:Inv X pins σ H s):Ba X.prog X.w X.K X.mg X.base X.A X.stack s H :=
 ⟨I.ok.frames,I.ok.mod,I.bs,eh I.ok.bsz I.sz,I.stack,I.vA,I.hok,I.bare⟩
theorem Inv.after{Q:VK}{u:af}(I:Inv X pins σ H s)(h:CE X.stack X.prog X.w H s Q u s'):EP X pins σ Q u s':=by
 obtain⟨v,H',os,bare,un,hok,r,q⟩:=h
 obtain⟨hh,g,d,t,os'⟩:=s'
 obtain rfl:os'=s.os:=os
 exact⟨v,H',I.call (h':=hh) (g':=g) (d':=d) (t':=t) (ch:=[]) un hok bare (fun b z=>absurd z (by simp)),r,q⟩
end
def aa4(sp:Sp)(dvs:List V)(E:XK)(t:TA):TE:=fun σ H Q=>t σ H fun vs H1=>sp (vs++dvs) H1 Q E
def Binds(K:ae)(fd:gc)(ps:List Str)(ds:List af):Prop :=
 ∀(s:ah) (us:List af),K.In s.heap->(us++ds).length=ps.length->DD s fd ⟨us,[]⟩ (ps.zip (us++ds))
theorem Binds.all{K:ae}{fd:gc}{ps:List Str}(h:∀us:List af,us.length=ps.length->DE fd ⟨us,[]⟩=pure (ps.zip us)):Binds K fd ps []:=fun s us _ hl=>by
 rw[fA] at hl ⊢
 exact .of_eq (h us hl)
def Passes(CX:Sy)(X:Cx)(E:XK):Prop:=∀(pins:List (aE×Obj)) (σ:St) (H:Hp) (s:ah) (e:af) (s':ah),Inv X pins σ H s->CX X.stack H s E e s'->X.xe e s'
section
variable{X:Cx}{CX:Sy}{k:Nat}{f C:aE}{fd:gc}{ps:List Str}{sp:Sp}{dvs:List V}{ds:List af}{E:XK}{x m:Str}{p pos apos:Pos}{e o:cS}{es:List cS}{ta:TE}{t:TA}
theorem Wq{pins:List (aE×Obj)}{σ:St}{H:Hp}{s:ah}{Q:VK}{us:List af}{vs:List V}(F:pM X.prog X.w X.K X.mg X.base CX k f fd ps sp)(hr:cW k X.A)(hb:Binds X.K fd ps ds)(hd:Vals dvs ds)(hx:Passes CX X E)
  (I:Inv X pins σ H s) (r:Vals vs us) (h:sp (vs++dvs) H Q E):bq (cf X.prog X.w) X.A (call (.ref f) us) (EP X pins σ Q) X.xe s:=by
 have r2:Vals (vs++dvs) (us++ds):=r.append hd
 have hl:(us++ds).length=ps.length:=by rw[←r2.length];exact F.len _ _ _ _ h
 refine nI (oo (F.run X.A X.stack s H ⟨us,[]⟩ (us++ds) (vs++dvs) Q E hr I.env0 (hb s us I.lR hl) r2 h) fun r s' hq=>?_)
 cases r with
 |error e=>exact hx pins σ H s e s' I hq
 |ok fl=>
  cases fl with
  |ret u=>exact I.after hq
  |next=>exact e6 hq
  |brk=>exact e6 hq
  |cont=>exact e6 hq
theorem Vp(F:pM X.prog X.w X.K X.mg X.base CX k f fd ps sp)(hr:cW k X.A)(hg:Gl X x)(hm:X.mg x=some (.ref f))(hk:gp X.K (.ref f)=true)(hb:Binds X.K fd ps ds)(hd:Vals dvs ds)(hx:Passes CX X E)
  (ha:PA X (e::es) t) (hdb:(x==("__debug__" : Str))=false:=by decide) (he:aI (e::es) X.env=(false,eR e X.env)::aI es X.env:=by rfl) (hpl:(i3 pos (aI es X.env)).any (·.1)=false:=by rfl) :
  PE X (.Call (.Name x p) (e::es) [] pos) (aa4 sp dvs E t):=by
 intro pins s σ H Q I h
 refine gS (gC I hg hm ?_ hdb)
 refine pw (h₀:=X.base) I.ok.mod.kin hk (cC (ha pos pins s σ H _ I h) fun us s1 ⟨vs,H1,I1,r,q⟩=>⟨I1.lR,?_⟩) he hpl
 exact Wq F hr hb hd hx I1 r q
end
def PK(X:Cx)(kws:List tJ)(t:TA):Prop :=
 ∀(pos:Pos) (pins:List (aE×Obj)) (s:ah) (σ:St) (H:Hp) (Q:List V->Hp->Prop),Inv X pins σ H s->t σ H Q->bq (cf X.prog X.w) X.A (evalAll ((qh pos (la kws X.env)).map (·.2))) (AP X pins σ Q) X.xe s
section
variable{X:Cx}{CX:Sy}{k:Nat}{f C:aE}{fd:gc}{ps ks:List Str}{sp:Sp}{E:XK}{x m:Str}{p pos apos kpos:Pos}{e o:cS}{es:List cS}{kws:List tJ}{te ta:TE}{t tk:TA}{nm:Option Str}
theorem Xg:PK X [] Mx:=fun _ _ _ _ H Q I h=>wpAny_evalAll_nil ⟨[],H,I,.nil,h⟩
theorem UL(ha:PE X e te)(hr:PK X kws t):PK X (⟨nm,e,kpos⟩::kws) (uC te t):=by
 intro pos pins s σ H Q I h
 show bq _ _ (evalAll ((do let v ←eR e X.env;FY pos;pure v)::(qh pos (la kws X.env)).map (·.2))) _ _ s
 refine wpAny_evalAll_cons (ag (cC (ha pins s σ H _ I h) fun u s1 ⟨x,H1,I1,r1,q1⟩=>ag (sd (bg ?_))))
 exact cC (hr pos pins s1 σ H1 _ I1 q1) fun us s2 ⟨xs,H2,I2,r2,q2⟩=>⟨x::xs,H2,I2,.cons r1 r2,q2⟩
variable{g:List af->List af->List af}{gV:List V->List V->List V}
end
structure aR(N P:List Str)(sc:lP):Prop where
 kind:sc.kind=.function
 co:sc.isCoroutine=false
 gen:sc.isGenerator=false
 nd:N.Nodup
 pre:N.take P.length=P
 par:∀x∈P,sc.names.lookup x=some .local\/sc.names.lookup x=some .cell
 nofree:∀y∈sc.names,y.2≠.free
theorem zy{kindOf:Str->Option ui}{x:Str}:∀ {binds:List (Str×af)} {m:Str->Option af},(∀v,(x,v)∉binds)->F9 kindOf binds m x=m x
 |[],_,_=>rfl
 |(n,v)::r,m,h=>by
  unfold F9
  rw[zy fun w hw=>h w (dQ _ hw)]
  split
  ·have:x≠n:=by rintro rfl;exact h v eg
   simp[this]
  ·rfl
theorem yU{kindOf:Str->Option ui}{x:Str}:∀ {binds:List (Str×af)} {m:Str->Option af},(∀v,(x,v)∉binds)->GA kindOf binds m x=m x
 |[],_,_=>rfl
 |(n,v)::r,m,h=>by
  unfold GA
  rw[yU fun w hw=>h w (dQ _ hw)]
  split
  ·rfl
  ·have:x≠n:=by rintro rfl;exact h v eg
   simp[this]
theorem zP{kindOf:Str->Option ui}{x:Str}{v:af}:∀ {P:List Str} {vs:List af} {i:Nat} {m:Str->Option af},P.Nodup->P[i]?=some x->vs[i]?=some v->kindOf x=some .local ->
  F9 kindOf (P.zip vs) m x=some v
 |[],_,_,_,_,h,_,_=>by simp at h
 |_::_,[],_,_,_,_,h,_=>by simp at h
 |p::P,w::vs,0,m,nd,h1,h2,hk=>by
  simp at h1 h2;subst h1;subst h2
  show F9 kindOf ((p,w)::P.zip vs) m p=_
  unfold F9
  rw[zy fun v hv=>(kg.mp nd).1 (pb hv).1,if_pos hk]
  simp
 |p::P,w::vs,i+1,m,nd,h1,h2,hk=>by
  show F9 kindOf ((p,w)::P.zip vs) m x=_
  unfold F9
  exact zP (i:=i) (kg.mp nd).2 (by simpa using h1) (by simpa using h2) hk
theorem zf{kindOf:Str->Option ui}{x:Str}{v:af}:∀ {P:List Str} {vs:List af} {i:Nat} {m:Str->Option af},P.Nodup->P[i]?=some x->vs[i]?=some v->kindOf x≠some .local ->
  GA kindOf (P.zip vs) m x=some v
 |[],_,_,_,_,h,_,_=>by simp at h
 |_::_,[],_,_,_,_,h,_=>by simp at h
 |p::P,w::vs,0,m,nd,h1,h2,hk=>by
  simp at h1 h2;subst h1;subst h2
  show GA kindOf ((p,w)::P.zip vs) m p=_
  unfold GA
  rw[yU fun v hv=>(kg.mp nd).1 (pb hv).1,if_neg hk]
  simp
 |p::P,w::vs,i+1,m,nd,h1,h2,hk=>by
  show GA kindOf ((p,w)::P.zip vs) m x=_
  unfold GA
  exact zf (i:=i) (kg.mp nd).2 (by simpa using h1) (by simpa using h2) hk
def start(N:List Str)(vs:List V):St:=vs.map some++fF (N.length-vs.length) none
def jn(CX:Sy)(P:b5)(w:cE)(K:ae)(mg:Str->Option af)(base:eJ)(N:List Str)(qual:Str)(scope:lP)(f:aE)(cd:af)(A:dS)(outer:List Env)(s:ah)(H:Hp)(E:XK):Cx where
 prog:=P
 w:=w
 K:=K
 mg:=mg
 base:=base
 A:=A.deeper (nt qual scope s.heap.objs.size f cd)
 N:=N
 s₀:=s
 H₀:=H
 env:=nt qual scope s.heap.objs.size f cd
 outer:=outer
 stack:=nt qual scope s.heap.objs.size f cd::outer
 ex:=[]
 calm:=true
 fn:=fun _=>true
 pn:=[]
 xe:=fun e s'=>bq (cf P w) (A.deeper (nt qual scope s.heap.objs.size f cd)) (F0 (nt qual scope s.heap.objs.size f cd) e) (fun _ s''=>CX outer H s E e s'') (fun e' s''=>CX outer H s E e' s'') s'
theorem Fi{sc:lP}{n:Nat}{x:Str}(h:sc.names.lookup x=some .cell):∃c,(BD n sc.names []).lookup x=some c:=by
 have q:=mn sc.names n [] (.inl h)
 exact Option.isSome_iff_exists.mp q
theorem sZ{CX:Sy}{P:b5}{w:cE}{K:ae}{mg:Str->Option af}{base:eJ}{N ps:List Str}{qual:Str}{scope:lP}{f:aE}{cd:af}{A:dS}{outer:List Env}{s s1:ah}{H:Hp}{E:XK}{us:List af}{vs:List V}
  (S:aR N ps scope) (hd:A.handled=none) (e0:Ba P w K mg base A outer s H) (hl:vs.length=ps.length) (r:Vals vs us)
  (x:InCallC s s.heap.objs.size (F9 (nt qual scope s.heap.objs.size f cd).kindOf (ps.zip us) fun _=>none) (BD (s.heap.objs.size+1) scope.names []) (GA (nt qual scope s.heap.objs.size f cd).kindOf (ps.zip us) fun _=>none) s1) :
  Inv (jn CX P w K mg base N qual scope f cd A outer s H E) [] (start N vs) H s1:=by
 have hpl:ps.length<=N.length:=by have:=congrArg AZ S.pre;rw[d2] at this;omega
 obtain⟨h1,tk,rfl,hk⟩:=x.done
 have noA:∀b:aE,b∉(jn CX P w K mg base N qual scope f cd A outer s H E).ex:=fun b z=>absurd (show b∈([]:List aE) from z) (by simp)
 refine⟨⟨e0.mod,S.kind,rfl,rfl,aT _,fun y z c h1 h2=>?_,fun y hy=>?_,fun y c _ h=>?_,fun _=>hd,Around.frames_deeper e0.frames,.inr ⟨rfl,rfl⟩,fun b z=>absurd z (noA b),e0.bs,e0.bsz,fun b _ _=>noA b,fun b z=>absurd z (noA b),e0.pL,e0.frf⟩,
  rfl,e0.bare,Un.kept hk,⟨_,x.toInCall.ns,fun i y v h1 h2 h3=>?_⟩,fun y c h=>⟨_,x.cell y c h⟩,e0.hok.fresh (aT _),fun y c h=>?_,fun p hp=>absurd (show p∈([]:List (aE×Obj)) from hp) (by simp),e0.hok.kept hk,?_⟩
 ·exact name_of_addr x.apart (lS h1) (lS h2)
 ·have hy:scope.names.lookup y=some .cell\/scope.names.lookup y=some .free:=hy
  rcases hy with hy | hy
  ·exact Fi hy
  ·exact absurd rfl (S.nofree _ (lS hy))
 ·exact ij (x.above y c (lS h))
 ·have hi:i<vs.length:=by
   unfold start at h2
   by_cases hi:i<vs.length
   ·exact hi
   ·rw[fg (by simpa using hi)] at h2
    rw[x8] at h2
    split at h2 <;> cases h2
  have ha:vs[i]?=some v:=by
   unfold start at h2
   rw[eL (by simpa using hi),aS] at h2
   cases e:vs[i]? with
   |none=>rw[e] at h2;cases h2
   |some a=>rw[e] at h2;cases h2;rfl
  obtain⟨u,hu,rv⟩:=r.get ha
  have hp:ps[i]?=some y:=by
   rw[←S.pre,List.getElem?_take_of_lt (by omega)];exact h1
  have ndP:ps.Nodup:=by rw[←S.pre];exact S.nd.sublist (List.take_sublist _ _)
  refine⟨u,rv,?_⟩
  rcases S.par y (iA hp) with k | k
  ·exact .inl ⟨k,zP ndP hp hu k⟩
  ·obtain⟨c,e⟩:=Fi (n:=s.heap.objs.size+1) k
   refine .inr ⟨.inl k,c,e,?_⟩
   have q:=x.cell y c e
   rw[zf ndP hp hu (by show scope.names.lookup y≠_;rw[k];decide)] at q
   exact q
 ·exact e0.hok.fresh (ij (x.above y c (lS h)))
 ·unfold start
  show _=N.length
  rw[bo,aw,eM]
  omega
theorem QF{CX:Sy}{P:b5}{w:cE}{K:ae}{mg:Str->Option af}{base:eJ}{k:Nat}{f:aE}{name qual:Str}{params:tS}{body:List gg}{scope:lP}{dV kV doc pm cdv ct oc:af}{an od:Option aE}
  {osl:Array (Option af)} {N ps:List Str} {sp:Sp} (lk:K.lookup f=some ⟨oc,od,.func (kz name qual params body scope dV kV doc pm an cdv ct),osl⟩) (hcd:qk K cdv qual=true) (S:aR N ps scope)
  (len:∀vs H Q E,sp vs H Q E->vs.length=ps.length)
  (hbody:∀ (A:dS) (outer:List Env) (s:ah) (H:Hp) (vs:List V) (Q:VK) (E:XK),cW k (A.deeper (nt qual scope s.heap.objs.size f cdv))→sp vs H Q E →
   ∃t,zR (jn CX P w K mg base N qual scope f cdv A outer s H E) body t/\t { nx:=fun _ H'=>Q .non H',rt:=Q } (start N vs) H) :
  pM P w K mg base CX (k+1) f (kz name qual params body scope dV kV doc pm an cdv ct) ps sp:=by
 refine⟨len,fun A outer s H args us vs Q E hr e0 hb r hsp=>?_⟩
 have hl:=len _ _ _ _ hsp
 have KX:K.In s.heap:=e0.mod.kin.keeps fun b o e=>(e0.bs b o e).1
 have lim:s.heap.NoLimit:=e0.mod.nolimit.keeps fun b o e=>(e0.bs b o e).1
 have hkind:∀y∈ps.zip us,scope.names.lookup y.1=some .local\/(scope.names.lookup y.1=some .cell/\((BD (s.heap.objs.size+1) scope.names []).lookup y.1).isSome=true):=fun ⟨n,v⟩ hy=>by
  rcases S.par n (pb hy).1 with q | q
  ·exact .inl q
  ·exact .inr ⟨q,mn _ _ _ (.inl q)⟩
 refine AJ hr.depth (KX _ _ lk) rfl S.co S.gen rfl (CH KX hcd) (hb _ _ _ _ ?_)
 refine nL S.kind hkind fun env he s1 x=>?_
 subst he
 refine⟨lim.keeps x.toInCall.keep,codeAny_func ?_⟩
 obtain⟨t,ht,hq⟩:=hbody A outer s H vs Q E (hr.deeper _) hsp
 have I:Inv (jn CX P w K mg base N qual scope f cdv A outer s H E) [] (start N vs) H s1:=sZ S hr.hd e0 hl r x
 refine eB (ht [] s1 (start N vs) H _ I hq) (fun fl s' hs=>?_) fun e s' hs=>hs
 have fin:∀ {σ':St} {H':Hp} {v:V} {u:af},Inv (jn CX P w K mg base N qual scope f cdv A outer s H E) [] σ' H' s'->RelV v u->Q v H'->CE outer P w H s Q u s' :=
  fun {σ' H' v u} J rv q=>⟨v,H',J.os,J.bare,J.base,J.hok,rv,q⟩
 cases fl with
 |ret u=>
  obtain⟨v,σ',H',J,rv,q⟩:=hs
  exact fin J rv q
 |next=>
  obtain⟨σ',H',J,q⟩:=hs
  exact fin (v:=V.non) (u:=iN) J rfl q
 |brk=>
  obtain⟨_,_,_,q⟩:=hs
  exact e6 q
 |cont=>
  obtain⟨_,_,_,q⟩:=hs
  exact e6 q
section
variable{X:Cx}{x:Str}{p pos:Pos}{e:cS}{es:List cS}{t:TA}{id T:String}{r:List V->Hp->VK->Prop}
def tCB(r:List V->Hp->VK->Prop)(t:TA):TE:=fun σ H Q=>t σ H fun vs H1=>r vs H1 Q
theorem Pk(hc:eV X (.builtin id) r)(hg:Gl X x)(hm:X.mg x=none)(hv:ib x=some (.builtin id))(ha:PA X (e::es) t)(hn:x ≠ "__name__":=by decide)(hdb:(x==("__debug__" : Str))=false:=by decide)
  (he:aI (e::es) X.env=(false,eR e X.env)::aI es X.env:=by rfl) (hpl:(i3 pos (aI es X.env)).any (·.1)=false:=by rfl):PE X (.Call (.Name x p) (e::es) [] pos) (tCB r t):=by
 intro pins s σ H Q I h
 refine gS (gf I hg hm hv ?_ hn hdb)
 exact ja (cC (ha pos pins s σ H _ I h) fun us s1 ⟨vs,H1,I1,r1,q1⟩=>hc pins s1 σ H1 vs us Q I1 r1 q1) he hpl
theorem Le(hc:eV X (.type T) r)(hg:Gl X x)(hm:X.mg x=none)(hv:ib x=some (.type T))(ha:PA X (e::es) t)(hn:x ≠ "__name__":=by decide)(hdb:(x==("__debug__" : Str))=false:=by decide)
  (he:aI (e::es) X.env=(false,eR e X.env)::aI es X.env:=by rfl) (hpl:(i3 pos (aI es X.env)).any (·.1)=false:=by rfl):PE X (.Call (.Name x p) (e::es) [] pos) (tCB r t):=by
 intro pins s σ H Q I h
 refine gS (gf I hg hm hv ?_ hn hdb)
 exact fw (cC (ha pos pins s σ H _ I h) fun us s1 ⟨vs,H1,I1,r1,q1⟩=>hc pins s1 σ H1 vs us Q I1 r1 q1) he hpl
end
end L2
namespace HT
open PySem PyProof.Rows
def lexLt:List Int->List Int->Bool
 |[],[]=>false
 |[],_::_=>true
 |_::_,[]=>false
 |x::xs,y::ys=>if x=y then lexLt xs ys else decide (x<y)
theorem GF(x y:Int)(xs ys:List Int):lexLt (x::xs) (y::ys)=if x=y then lexLt xs ys else decide (x<y):=rfl
theorem yx:lexLt [] []=false:=rfl
theorem xM(y:Int)(ys:List Int):lexLt [] (y::ys)=true:=rfl
theorem w6(x:Int)(xs:List Int):lexLt (x::xs) []=false:=rfl
theorem Qi(A:dS)(s:ah)(a:Int)(t:Tok)(c:Int)(u:Tok):∃e,Kx A s (.int a t) (.int c u) e/\(e=true↔a=c) :=
 ⟨(a==c),SeqAt.EqAt.int_int a t c u,by simp⟩
theorem Qf(A:dS)(s:ah)(a:Int)(t:Tok)(c:Int)(u:Tok)(prog:b5)(w:cE)(E:af->ah->Prop)(Q:af->ah->Prop)(h:Q (.bool (decide (a<c))) s) :
  bq (cf prog w) A (richCompare .Lt (.int a t) (.int c u)) Q E s :=
 (Kn h:bq (cf prog w) A (eW .Lt (.int a t) (.int c u)) Q E s)
section
open PySem.SeqAt
open PySem.AutoSeq1 (wpAny_loadPart')
open PySem.MeetsSeq PySem.MeetsSeq2 PySem.MeetsSeq3
theorem xW(l b:aE)(items items2:Array af)(n n2:Nat)(dd dd2:Option aE)(sl sl2:Array (Option af))(ns ms:List Int)(hi:lb items.toList ns)(hj:lb items2.toList ms) :
  Meets (tN.«tuple.__lt__» ⟨[.ref l,.ref b],[]⟩)
   (fun _ R s => s.heap.get? l = some { cls:=.type "tuple",dict:=dd,data:=.seq items n,slots:=sl }∧s.heap.get? b = some { cls:=.type "tuple",dict:=dd2,data:=.seq items2 n2,slots:=sl2 } ∧
    R (.ok (.ret (.bool (lexLt ns ms)))) s) :=
 .of_wp fun prog w A R s h=>by
  obtain⟨hp,g,d,tk,os⟩:=s;obtain⟨hl,hb,h⟩:=h
  have f2:=AutoSeq1.sub_tuple_tuple
  have z1:items.size=ns.length:=by rw[←hi.length];simp
  have z2:items2.size=ms.length:=by rw[←hj.length];simp
  wp_walk using E6 hl,E6 hb,wpAny_forIn_list _ (fun rest b s'=>b.1=none/\s'=⟨hp,g,d,tk,os⟩/\∃(vs ws:List af) (ns' ms':List Int),rest=vs.zip ws /\
   lb vs ns'/\lb ws ms'/\ns'.length+items2.size=ms'.length+items.size/\R (.ok (.ret (.bool (lexLt ns' ms')))) ⟨hp,g,d,tk,os⟩) _
  case turn=>
   rintro⟨y,x⟩ rest b s' ⟨hb',rfl,vs,ws,ns',ms',hz,hvi,hwi,hlen,hR⟩
   cases hvi with
   |nil=>rw[List.zip_nil_left] at hz;cases hz
   |cons a t hvi'=>
    cases hwi with
    |nil=>rw[List.zip_nil_right] at hz;cases hz
    |cons c u hwi'=>
     rw[uj] at hz
     injection hz with hyx hrest
     injection hyx with hy hx
     subst hy hx
     rw[GF] at hR
     simp only[e8] at hlen
     obtain⟨e,he,hiff⟩:=Qi A.in1 ⟨hp,g,d,tk,os⟩ a t c u
     refine ag (he prog w _ _ ?_)
     cases e with
     |true=>
      rw[if_pos (hiff.mp rfl)] at hR
      wp_walk
      exact⟨rfl,rfl,_,_,_,_,hrest,hvi',hwi',by omega,hR⟩
     |false=>
      rw[if_neg (fun q=>absurd (hiff.mpr q) ip)] at hR
      have hri:=Qf A.in1 ⟨hp,g,d,tk,os⟩ a t c u prog w
      wp_walk using hri
      exact⟨_,rfl,by simpa using hR⟩
  case fin=>
   rintro⟨b1,b2⟩ s' ⟨hb',rfl,vs,ws,ns',ms',hz,hvi,hwi,hlen,hR⟩
   simp only at hb'
   subst hb'
   have hv:lexLt ns' ms'=decide (items.size<items2.size):=by
    cases hvi with
    |nil=>
     cases hwi with
     |nil=>
      simp only[pe] at hlen
      rw[yx]
      exact (decide_eq_false (by omega)).symm
     |cons c u hw=>
      simp only[pe,e8] at hlen
      rw[xM]
      exact (decide_eq_true (by omega)).symm
    |cons a t hv=>
     cases hwi with
     |nil=>
      simp only[pe,e8] at hlen
      rw[w6]
      exact (decide_eq_false (by omega)).symm
     |cons c u hw=>
      rw[uj] at hz
      cases hz
   rw[hv] at hR
   wp_walk
   exact⟨_,rfl,by simpa [EA] using hR⟩
  case h=>
   exact⟨rfl,rfl,items.toList,items2.toList,ns,ms,rfl,hi,hj,by omega,h⟩
end
section
variable{prog:b5}{w:cE}{A:dS}{E:af->ah->Prop}{s:ah}
theorem HN{l b:aE}{items items2:Array af}{ns ms:List Int}{Q:af->ah->Prop}(hl:IsTup s.heap l items)(hb:IsTup s.heap b items2)(hi:lb items.toList ns)(hj:lb items2.toList ms)
  (hu:A.units<md) (h:Q (.bool (lexLt ns ms)) s):bq (cf prog w) A (eW .Lt (.ref l) (.ref b)) Q E s:=by
 obtain⟨⟨cls,dd,data,sl⟩,ho,hc,n,hd⟩:=id hl
 obtain⟨⟨cls2,dd2,data2,sl2⟩,ho2,hc2,n2,hd2⟩:=id hb
 simp only at hc hd hc2 hd2
 subst hc hd hc2 hd2
 exact richCompare_meets_room (op:=.Lt) ⟨_,ho,rfl⟩ ⟨_,ho2,rfl⟩ PySem.F.slot_tuple_lt PySem.F.entry_tuple_lt (PySem.F.args_tuple_lt_2 _ _) (xW l b items items2 n n2 dd dd2 sl sl2 ns ms hi hj)
  ⟨ho,ho2,show t4 (lexLt ns ms)≠Value.notImplemented/\Q (.bool (lexLt ns ms)) s from ⟨(fun x=>nomatch x),h⟩⟩ hu
def tL(n d:Nat):Option Int->Nat
 |none=>d
 |some v=>if v<0 then (v+(n:Int)).toNat else min v.toNat n
end
end HT
namespace L2
open PySem PySem.Spec PyProof.Rows
abbrev TO:=St->Hp->(Option Int->Hp->Prop)->Prop
def PO(X:Cx)(e:Option cS)(t:TO):Prop :=
 ∀(pins:List (aE×Obj)) (s:ah) (σ:St) (H:Hp) (Q:Option Int->Hp->Prop),Inv X pins σ H s->t σ H Q ->
  bq (cf X.prog X.w) X.A (evalPart e X.env) (fun u s'=>∃o H',Inv X pins σ H' s'/\IsPart u o/\Q o H') X.xe s
def Uc:TO:=fun _ H Q=>Q none H
def aal(t:TE):TO:=fun σ H Q=>t σ H fun x H1=>∃i,x=.int i/\Q (some i) H1
theorem intsAre_of{ns:List Int}:∀ {us:List af},Vals (ns.map V.int) us->lb us ns:=by
 induction ns with
 |nil=>intro us r;rw[y8] at r;cases r;exact .nil
 |cons n ns ih=>
  intro us r
  rw[ck] at r
  cases r with
  |cons r1 r2=>
   obtain⟨t,e⟩:=r1
   subst e
   exact .cons n t (ih r2)
section
variable{X:Cx}{e:cS}{te:TE}{lo hi:Option cS}{tl th:TO}{pos p2:Pos}
theorem Ui:PO X none Uc:=by
 intro pins s σ H Q I h
 rw[evalPart_none]
 exact bg ⟨none,H,I,.none,h⟩
theorem U7(h:PE X e te):PO X (some e) (aal te):=by
 intro pins s σ H Q I hw
 rw[evalPart_some]
 refine cC (h pins s σ H _ I hw) fun u s1 zz=>?_
 obtain⟨x,H1,I1,r1,q1⟩:=zz
 obtain⟨i,rfl,q⟩:=q1
 obtain⟨t,rfl⟩:=r1
 exact⟨some i,H1,I1,.int i t,q⟩
def ZM(X:Cx)(r:V->Option Int->Option Int->Hp->VK->Prop):Prop :=
 ∀(pins:List (aE×Obj)) (s:ah) (σ:St) (H:Hp) (x:V) (v vl vu:af) (lo hi:Option Int) (sl:aE) (Q:VK),Inv X pins σ H s->RelV x v->s.heap.IsSliceOf sl vl vu .none->IsPart vl lo->IsPart vu hi->r x lo hi H Q ->
  ∃T id,uk (.type T) "__getitem__" = pure (some (.builtin id))/\s.TypeIs v T/\bq (cf X.prog X.w) X.A (BE v (.ref sl)) (EP X pins σ Q) X.xe s
def tSl(r:V->Option Int->Option Int->Hp->VK->Prop)(te:TE)(tl th:TO):TE:=fun σ H Q=>te σ H fun x H1=>tl σ H1 fun l H2=>th σ H2 fun u H3=>r x l u H3 Q
theorem Qt{r:V->Option Int->Option Int->Hp->VK->Prop}(hr:ZM X r)(he:PE X e te)(hl:PO X lo tl)(hu:PO X hi th):PE X (.Subscript e (.Slice lo hi none p2) pos) (tSl r te tl th):=by
 intro pins s σ H Q I h
 refine GB (cC (he pins s σ H _ I h) fun v s1 zz=>?_)
 obtain⟨x,H1,I1,r1,q1⟩:=zz
 refine wpAny_Slice (cC (hl pins s1 σ H1 _ I1 q1) fun vl s2 ⟨l,H2,I2,pl,q2⟩=>cC (hu pins s2 σ H2 _ I2 q2) fun vu s3 zz=>?_)
 obtain⟨u,H3,I3,pu,q3⟩:=zz
 rw[evalPart_none]
 refine bg ?_
 have I4:Inv X pins σ H3 { s3 with heap:=s3.heap.push { cls:=.type "slice",data:=.fields #[vl,vu,.none] } }:=I3.kept (t':=s3.toks) fun b ob q=>av _ q
 obtain⟨T,id,hT,ht,hg⟩:=hr pins { s3 with heap:=s3.heap.push { cls:=.type "slice",data:=.fields #[vl,vu,.none] } } σ H3 x v vl vu l u s3.heap.objs.size Q I4 r1 (KG ..) pl pu q3
 show bq (cf X.prog X.w) X.A (Cf e (.Slice lo hi none p2) v (.ref s3.heap.objs.size)) (EP X pins σ Q) X.xe { s3 with heap:=s3.heap.push { cls:=.type "slice",data:=.fields #[vl,vu,.none] } }
 exact tail_any (ops:=[.ref s3.heap.objs.size,v]) ht hT hg (by with_unfolding_all rfl)
def JW(xs:List V)(lo hi:Option Int):List V:=(xs.drop (HT.tL xs.length 0 lo)).take (HT.tL xs.length xs.length hi-HT.tL xs.length 0 lo)
theorem Ej(xs:List V)(lo hi:Option Int):(JW xs lo hi).length<=xs.length:=by
 unfold JW
 rw[d2,fI]
 exact eh (Nat.min_le_right _ _) (Nat.sub_le _ _)
def acp(K:ae):R2:=fun x y H Q=>∃a b ns ms,x=.ref a/\y=.ref b/\mO K H a (ns.map V.int)/\mO K H b (ms.map V.int)/\Q (.bl (HT.lexLt ns ms)) H
theorem ZC(hu:X.A.units<md):gW X (eW .Lt) (acp X.K):=by
 intro pins s σ H x y v u Q I rx ry h
 obtain⟨a,b,ns,ms,rfl,rfl,ha,hb,q⟩:=h
 cases rx
 cases ry
 obtain⟨its,r1,p1,_⟩:=I.tuple ha
 obtain⟨its2,r2,p2,_⟩:=I.tuple hb
 have i1:lb its.toArray.toList ns:=intsAre_of r1
 have i2:lb its2.toArray.toList ms:=intsAre_of r2
 exact HT.HN p1 p2 i1 i2 hu ⟨.bl (HT.lexLt ns ms),H,I,rfl,q⟩
end
def K6(n:Nat)(i:Int):Option Nat:=if 0<=i then (if i<n then some i.toNat else none) else if -(n:Int)<=i then some (i+n).toNat else none
def j7{α:Type}(xs:List α)(i:Int):Option α:=(K6 xs.length i).bind fun j=>xs[j]?
theorem Te{n:Nat}{i:Int}{j:Nat}(h:K6 n i=some j):seqIndex? i n=some j/\j<n/\-(n:Int)<=i/\i<n:=by
 unfold K6 at h
 by_cases h0:0<=i
 ·rw[if_pos h0] at h
  by_cases h1:i<n
  ·rw[if_pos h1] at h
   have e:i.toNat=j:=Option.some.inj h
   exact⟨by rw[seqIndex_of h0 h1,e],by omega,by omega,h1⟩
  ·rw[if_neg h1] at h;cases h
 ·rw[if_neg h0] at h
  by_cases h1 : -(n:Int)<=i
  ·rw[if_pos h1] at h
   have e:(i+n).toNat=j:=Option.some.inj h
   exact⟨by rw[seqIndex_neg (by omega) h1,e],by omega,h1,by omega⟩
  ·rw[if_neg h1] at h;cases h
theorem Aj{α:Type}{xs:List α}{i:Int}{v:α}(h:j7 xs i=some v):∃j,seqIndex? i xs.length=some j/\xs[j]?=some v/\j<xs.length/\-(xs.length:Int)<=i/\i<xs.length:=by
 unfold j7 at h
 cases e:K6 xs.length i with
 |none=>rw[e] at h;cases h
 |some j=>
  rw[e] at h
  obtain⟨h1,h2,h3,h4⟩:=Te e
  exact⟨j,h1,h,h2,h3,h4⟩
def JH(b:cS):Prop:=∀o i,A0 b false o i=operate [o,i] (BE o i)
def ZP(X:Cx)(r:R2):Prop :=
 ∀(value slice:cS) (pins:List (aE×Obj)) (s:ah) (σ:St) (H:Hp) (x y:V) (v u:af) (Q:VK),Inv X pins σ H s->RelV x v->RelV y u->r x y H Q ->
  A0 slice false v u=operate [v,u] (BE v u)->bq (cf X.prog X.w) X.A (Cf value slice v u) (EP X pins σ Q) X.xe s
def La(X:Cx)(id:String)(r:V->List V->Hp->VK->Prop):Prop :=
 ∀(pins:List (aE×Obj)) (s:ah) (σ:St) (H:Hp) (x:V) (xs:List V) (v:af) (us:List af) (Q:VK),Inv X pins σ H s->RelV x v->Vals xs us->r x xs H Q ->
  bq (cf X.prog X.w) X.A (call (.builtin id) (v::us)) (EP X pins σ Q) X.xe s
section
variable{X:Cx}{a b:cS}{ta tb:TE}{pos:Pos}
theorem abt{r:R2}(hr:ZP X r)(ha:PE X a ta)(hb:PE X b tb)(hs:JH b):PE X (.Subscript a b pos) (tOp r ta tb):=by
 intro pins s σ H Q I h
 exact GB (Xk ha hb I h fun v u s2 x y H2 I2 rx ry q=>hr a b pins s2 σ H2 x y v u Q I2 rx ry q (hs _ _))
def acJ(K:ae):R2:=fun x y H Q=>∃p xs i v,x=.ref p/\y=.int i/\gB K H p xs/\j7 xs i=some v/\Q v H
def adg(K:ae):R2:=fun x y H Q=>∃p xs i v,x=.ref p/\y=.int i/\mO K H p xs/\j7 xs i=some v/\Q v H
def acW:R2:=fun x y H Q=>∃z i c,x=.str z/\y=.int i/\z.length<=bS/\j7 z.cps.toList i=some c/\Q (.str ⟨#[c]⟩) H
theorem Jj:ZP X (acJ X.K):=by
 intro value slice pins s σ H x y v u Q I rx ry h hs
 obtain⟨p,xs,i,z,rfl,rfl,hq,he,q⟩:=h
 cases rx
 obtain⟨t,rfl⟩:=ry
 obtain⟨its,r,pl,hz⟩:=I.list hq
 obtain⟨j,h1,h2,h3,h4,h5⟩:=Aj he
 obtain⟨w,ew,rw'⟩:=r.get h2
 have hl:=r.length
 have hn:=vO
 have fin:EP X pins σ Q w s:=⟨z,H,I,rw',q⟩
 by_cases h0:0<=i
 ·have hj:i.toNat=j:=by
   rw[seqIndex_of h0 h5] at h1
   exact Option.some.inj h1
  exact item_listR pl.isList h0 (by omega) (by rw[hj];simpa using ew) fin hs
 ·have hj:(i+(its.toArray.size:Int)).toNat=j:=by
   rw[seqIndex_neg (by omega) h4] at h1
   rw[cw,←hl]
   exact Option.some.inj h1
  exact y9 (x:=w) pl.isList.typeIs slot_list_getitem.lookup
   (wpAny_getItem_list_neg (Q:=fun r s'=>r=w/\EP X pins σ Q r s') pl.isList (by omega) (by rw[cw] <;> omega) (by omega) (by rw[hj];simpa using ew) ⟨rfl,fin⟩) hs
theorem Oq:ZP X (adg X.K):=by
 intro value slice pins s σ H x y v u Q I rx ry h hs
 obtain⟨p,xs,i,z,rfl,rfl,hq,he,q⟩:=h
 cases rx
 obtain⟨t,rfl⟩:=ry
 obtain⟨its,r,pl,hz⟩:=I.tuple hq
 obtain⟨j,h1,h2,h3,h4,h5⟩:=Aj he
 obtain⟨w,ew,rw'⟩:=r.get h2
 have hl:=r.length
 have hn:=vO
 have fin:EP X pins σ Q w s:=⟨z,H,I,rw',q⟩
 exact y9 (x:=w) pl.typeIs slot_tuple_getitem.lookup
  (getItem_tuple (j:=j) (Q:=fun r s'=>r=w/\EP X pins σ Q r s') pl (by omega) (by omega) (by rw[cw,←hl];exact h1) (by simpa using ew) ⟨rfl,fin⟩) hs
theorem Zn:ZP X acW:=by
 intro value slice pins s σ H x y v u Q I rx ry h hs
 obtain⟨z,i,c,rfl,rfl,hz,he,q⟩:=h
 obtain⟨t,rfl⟩:=rx
 obtain⟨t',rfl⟩:=ry
 obtain⟨j,h1,h2,h3,h4,h5⟩:=Aj he
 have hl:z.cps.toList.length=z.length:=by simp[GG]
 rw[hl] at h1 h4 h5
 have hn:=vO
 exact tail_any (GH s z t) slot_str_getitem.lookup (getItem_str (c:=c) (by
  have e1:decide (i < -(2 ^ 63:Int))=false:=decide_eq_false (by omega)
  have e2:decide (i≥2 ^ 63)=false:=decide_eq_false (by omega)
  rw[e1,e2,Bool.or_false]) (by rw[h1];simpa using h2) ⟨.str ⟨#[c]⟩,H,I.tok _,⟨_,rfl⟩,q⟩) hs
theorem Ad(lo hi:Option Int)(n:Nat):(EZ lo hi none n).1=((HT.tL n 0 lo:Nat):Int)/\(EZ lo hi none n).2.1=((HT.tL n n hi:Nat):Int)/\(EZ lo hi none n).2.2=1:=by
 have one:∀i:Int,max 0 (min (if i<0 then i+(n:Int) else i) (n:Int))=(((if i<0 then (i+(n:Int)).toNat else min i.toNat n):Nat):Int):=fun i=>by
  by_cases h:i<0
  ·rw[if_pos h,if_pos h,Int.toNat_eq_max,sM (by have z:=Int.add_le_add_right (lh h) (n:Int);rwa [mv] at z),Int.max_comm]
  ·rw[if_neg h,if_neg h]
   obtain⟨m,rfl⟩:=gL (GI.mp h)
   rw[fe]
   rcases Nat.le_total m n with z | z
   ·rw[sM (IM.mpr z),mM z];exact ri (CI _)
   ·rw[x9 (IM.mpr z),ya z];exact ri (CI _)
 refine⟨?_,?_,rfl⟩
 ·cases lo with
  |none=>rfl
  |some i=>exact one i
 ·cases hi with
  |none=>rfl
  |some i=>exact one i
theorem ye(its:List af)(lo hi:Option Int):slicePick its.toArray lo hi none=((its.drop (HT.tL its.length 0 lo)).take (HT.tL its.length its.length hi-HT.tL its.length 0 lo)).toArray:=by
 obtain⟨h1,h2,h3⟩:=Ad lo hi its.toArray.size
 unfold slicePick
 rw[h1,h2,h3]
 simp only[GL,pick_run,cw] <;> rfl
def ab2(K:ae):V->Option Int->Option Int->Hp->VK->Prop:=fun x lo hi H Q=>∃a xs,x=.ref a/\gB K H a xs/\∀p,H p=none->Q (.ref p) (upd H p (.lst (JW xs lo hi)))
theorem Vr:ZM X (ab2 X.K):=by
 intro pins s σ H x v vl vu lo hi sl Q I rx hs pl pu h
 obtain⟨a,xs,rfl,hx,q⟩:=h
 cases rx
 obtain⟨its,r,ht,hz⟩:=I.list hx
 have hlen:=r.length
 refine⟨"list",_,slot_list_getitem.lookup,ht.isList.typeIs,?_⟩
 refine wpAny_getItem_list_slice ht.isList hs pl pu .none (by simp) ?_ (by rw[cw] <;> omega)
 rw[ye,←hlen]
 refine⟨.ref s.heap.objs.size,_,I.laid (t':=s.toks) (o:=.lst (JW xs lo hi)) (fun b ob q=>av _ q) (aT _) ?_,rfl,q _ (I.hok.fresh (aT _))⟩
 exact⟨eh (Ej xs lo hi) hz,_,0,(r.drop (HT.tL xs.length 0 lo)).take (HT.tL xs.length xs.length hi-HT.tL xs.length 0 lo),bP _ rfl⟩
theorem lY:eV X (.builtin "len") (fun xs H Q=>∃p ys,xs=[.ref p]/\(gB X.K H p ys\/mO X.K H p ys)/\Q (.int ys.length) H):=by
 intro pins s σ H xs us Q I r h
 obtain⟨p,ys,rfl,hq,q⟩:=h
 obtain⟨u,rfl,rx⟩:=vals1 r
 cases rx
 have hn:=vO
 rcases hq with hq | hq
 ·obtain⟨its,r',pl,hz⟩:=I.list hq
  have hlen:=r'.length
  exact Calls.call_len_list pl.isList (by simp only[cw] <;> omega) ⟨.int ys.length,H,I.tok _,⟨s.toks+1,by rw[cw,hlen]⟩,q⟩
 ·obtain⟨its,r',pl,hz⟩:=I.tuple hq
  have hlen:=r'.length
  exact len_tuple pl (by simp only[cw] <;> omega) ⟨.int ys.length,H,I.tok _,⟨s.toks+1,by rw[cw,hlen]⟩,q⟩
theorem Bg:eV X (.builtin "len") (fun xs H Q=>∃z,xs=[.str z]/\z.length<=bS/\Q (.int z.length) H):=by
 intro pins s σ H xs us Q I r h
 obtain⟨z,rfl,hz,q⟩:=h
 obtain⟨u,rfl,t,rfl⟩:=vals1 r
 have hn:=vO
 exact len_str (by omega) ⟨.int z.length,H,I.tok _,⟨_,rfl⟩,q⟩
theorem jU:eV X (.type "tuple") (fun xs H Q=>∃p ys,xs=[.ref p]/\((gB X.K H p ys/\∀l,H l=none->Q (.ref l) (upd H l (.tup ys)))\/(mO X.K H p ys/\Q (.ref p) H))):=by
 intro pins s σ H xs us Q I r h
 obtain⟨p,ys,rfl,h⟩:=h
 obtain⟨u,rfl,rx⟩:=vals1 r
 cases rx
 rcases h with ⟨hq,q⟩ | ⟨hq,q⟩
 ·obtain⟨its,r',pl,hz⟩:=I.list hq
  have hlen:=r'.length
  refine call_tuple_list pl.isList (fun h' kp=>?_) (by simp only[cw] <;> omega)
  have I1:Inv X pins σ H { s with heap:=h' }:=I.kept (t':=s.toks) kp
  have I2:Inv X pins σ (upd H h'.objs.size (.tup ys)) { s with heap:=h'.push { cls:=.type "tuple",data:=.seq its.toArray } } :=
   I1.laid (t':=s.toks) (fun b o e=>av _ e) (aT _) (show cH X.prog X.w _ _ _ (.tup ys) from ⟨hz,its,r',Cu.new _ _⟩)
  exact⟨.ref h'.objs.size,_,I2,rfl,q _ (I1.hok.fresh (aT _))⟩
 ·obtain⟨its,r',pl,hz⟩:=I.tuple hq
  exact call_tuple_same pl ⟨.ref p,H,I,rfl,q⟩
def tyV(K:ae)(T:String)(x:V)(H:Hp):Prop:=match x with
 |.str _=>T = "str"
 |.int _=>T = "int"
 |.ref p=>(T = "list"/\∃xs,gB K H p xs)\/(T = "tuple"/\∃o,K.lookup p=some o/\o.cls=.type "tuple"/\o.dict=none) \/
   (T = "dict"/\((∃kvs,H p=some (.dK kvs))\/∃kvs,H p=some (.dT kvs)))\/(T = "set"/\∃S n,H p=some (.set S n))
 |_=>False
theorem Ql{pins:List (aE×Obj)}{σ:St}{H:Hp}{s:ah}{T:String}{x:V}{v:af}(I:Inv X pins σ H s)(r:RelV x v)(ty:tyV X.K T x H) :
  s.TypeIs v T/\∀a,v=.ref a->∃ob,s.heap.get? a=some ob/\ob.dict=none:=by
 cases x with
 |str z=>
  obtain⟨t,rfl⟩:=r
  cases (show T = "str" from ty)
  exact⟨GH s z t,fun _ e=>nomatch e⟩
 |int i=>
  obtain⟨t,rfl⟩:=r
  cases (show T = "int" from ty)
  exact⟨typeIs_int s i t,fun _ e=>nomatch e⟩
 |ref p=>
  cases r
  rcases ty with ⟨rfl,xs,hq⟩ | ⟨rfl,o,hk,hc,hd⟩ | ⟨rfl,hk⟩ | ⟨rfl,S,n,hk⟩
  ·obtain⟨its,_,pl,_⟩:=I.list hq
   refine⟨pl.isList.typeIs,fun a e=>?_⟩
   cases e
   obtain⟨o,n,e,c,hd,_⟩:=pl
   exact⟨o,e,hd⟩
  ·refine⟨⟨o,I.lR p o hk,hc⟩,fun a e=>?_⟩
   cases e
   exact⟨o,I.lR _ o hk,hd⟩
  ·have z:∃o,s.heap.get? p=some o/\o.ExactDict:=by
    rcases hk with ⟨kvs,hk⟩ | ⟨kvs,hk⟩
    ·obtain⟨_,_,_,_,o,_,_,e,ex,_⟩:=I.hok p _ hk
     exact⟨o,e,ex⟩
    ·obtain⟨_,_,_,_,o,_,_,e,ex,_⟩:=I.hok p _ hk
     exact⟨o,e,ex⟩
   obtain⟨o,e,ex⟩:=z
   refine⟨⟨o,e,ex.1⟩,fun a e2=>?_⟩
   cases e2
   exact⟨o,e,ex.2.1⟩
  ·obtain⟨o,_,_,_,e,ex,_⟩:=I.hok p _ hk
   refine⟨⟨o,e,ex.1⟩,fun a e2=>?_⟩
   cases e2
   exact⟨o,e,ex.2.1⟩
 |_=>exact e6 ty
def ac1(K:ae)(T:String)(r:V->List V->Hp->VK->Prop)(to:TE):TE:=fun σ H Q=>to σ H fun x H1=>tyV K T x H1/\r x [] H1 Q
def tBM(K:ae)(T:String)(r:V->List V->Hp->VK->Prop)(to:TE)(t:TA):TE:=fun σ H Q=>to σ H fun x H1=>tyV K T x H1/\t σ H1 fun xs H2=>r x xs H2 Q
variable{o e:cS}{es:List cS}{to:TE}{t:TA}{name:Str}{apos cpos:Pos}{T id:String}{r:V->List V->Hp->VK->Prop}
theorem Zg(pa:PlainAttrs T)(slot:Slot T name id)(hty:CL (.builtin id)=pure (.type "method_descriptor"))(hm:La X id r)(ho:PE X o to)
  (hbase:ly o name X.env (eR o X.env)=eR o X.env:=by rfl) (hline:(apos.endLine==cpos.line)=true:=by rfl):PE X (.Call (.Attribute o name apos) [] [] cpos) (ac1 X.K T r to):=by
 intro pins s σ H Q I h
 refine wpAny_Call_method0_late hbase hline (cC (ho pins s σ H _ I h) fun v s1 zz=>?_)
 obtain⟨x,H1,I1,r1,ty,q1⟩:=zz
 obtain⟨h1,h2⟩:=Ql I1 r1 ty
 exact⟨T,id,pa,slot,hty,h1,h2,qo rfl (PySem.evalArgs_none (hm pins s1 σ H1 x [] v [] Q I1 r1 .nil q1))⟩
theorem Vw(pa:PlainAttrs T)(slot:Slot T name id)(hty:CL (.builtin id)=pure (.type "method_descriptor"))(hm:La X id r)(ho:PE X o to)(ha:PA X (e::es) t)
  (hbase:ly o name X.env (eR o X.env)=eR o X.env:=by rfl)
  (hfew:((i3 cpos (aI (e::es) X.env)).all (fun x => !x.1) && (qh cpos (la [] X.env)).all (fun x => x.1.isSome)
   && decide ((e::es).length+([]:List tJ).length+(if ([]:List tJ).isEmpty then 0 else 1)<30))=true:=by rfl)
  (hline:(apos.endLine==cpos.line)=true:=by rfl) (hs:aI (e::es) X.env=(false,eR e X.env)::aI es X.env:=by rfl) (hplain:(i3 cpos (aI es X.env)).any (·.1)=false:=by rfl) :
  PE X (.Call (.Attribute o name apos) (e::es) [] cpos) (tBM X.K T r to t):=by
 intro pins s σ H Q I h
 refine wpAny_Call_method_late hbase hfew hline rfl (cC (ho pins s σ H _ I h) fun v s1 zz=>?_)
 obtain⟨x,H1,I1,r1,ty,q1⟩:=zz
 obtain⟨h1,h2⟩:=Ql I1 r1 ty
 refine⟨T,id,pa,slot,hty,h1,h2,?_⟩
 have hA:=ha cpos pins s1 σ H1 _ I1 q1
 rw[hs] at hA ⊢
 refine qo (by show (false||(i3 cpos (aI es X.env)).any (·.1))=false;rw[hplain] <;> rfl) (sk ?_)
 exact cC hA fun us s2 ⟨vs,H2,I2,r2,q2⟩=>hm pins s2 σ H2 x vs v us Q I2 r1 r2 q2
/- xs.append(e),list.index on a module's tuple .. are La facts of 06m -/
end
def MtM(X:Cx)(id:String)(r:V->List V->Hp->VK->Prop):Prop :=
 ∀(pins:List (aE×Obj)) (s:ah) (σ:St) (H:Hp) (x:V) (xs:List V) (v:af) (us:List af) (Q:VK),Inv X pins σ H s->RelV x v->Vals xs us->r x xs H Q ->
  bq (cf X.prog X.w) X.A (call (.builtin id) (v::us)) (EP X pins σ Q) X.xe s
theorem Vals.one{x:V}{us:List af}(h:Vals [x] us):∃u,us=[u]/\RelV x u:=by
 cases h with
 |cons r t=>cases t;exact⟨_,rfl,r⟩
theorem Vals.zero:∀ {us:List af},Vals [] us->us=[]
 |_,.nil=>rfl
theorem Vals.dropLast{xs:List V}{us:List af}(h:Vals xs us):Vals xs.dropLast us.dropLast:=by
 induction h with
 |nil=>exact .nil
 |cons r t ih=>
  cases t with
  |nil=>exact .nil
  |cons q t'=>exact .cons r ih
theorem HJ{α:Type}(l:List α):l.eraseIdx (l.length-1)=l.dropLast:=by
 induction l with
 |nil=>rfl
 |cons a r ih=>
  cases r with
  |nil=>rfl
  |cons b r=>
   have e:(a::b::r).length-1=((b::r).length-1)+1:=by
    have h1:(a::b::r).length=r.length+2:=rfl
    have h2:(b::r).length=r.length+1:=rfl
    omega
   rw[e,List.eraseIdx_cons_succ,ih]
   all_goals rfl
section
variable{X:Cx}{pins:List (aE×Obj)}{σ:St}{H:Hp}{s:ah}{l b:aE}{xs ys zs:List V}
theorem Inv.Xp{its its':List af}{n:Nat}{f:Array af->Array af}{t':Nat}(I:Inv X pins σ H s)(hH:H l=some (.lst xs))
  (e:s.heap.get? l=some { cls:=.type "list",data:=.seq its.toArray n }) (hf:f its.toArray=its'.toArray) (hv:Vals ys its') (hz:ys.length<=bS) :
  Inv X pins σ (upd H l (.lst ys)) { s with heap:=s.heap.update l (iq f),toks:=t' }:=by
 have q:=PySem.IsL.update e f
 rw[hf] at q
 refine I.write (x:=l) (e:=l) (by rw[hH];exact trivial) (.inl rfl) (fun b' u hb hu=>(eo s.heap (iq f) (fm hb)).trans hu) ⟨_,q⟩ ?_
 exact⟨hz,its',_,hv,q⟩
theorem Inv.aai{its:List af}{t':Nat}(I:Inv X pins σ H s)(hv:Vals ys its)(hz:ys.length<=bS) :
  Inv X pins σ (upd H s.heap.objs.size (.lst ys)) { s with heap:=s.heap.push { cls:=.type "list",data:=.seq its.toArray },toks:=t' } :=
 I.laid (fun _ _ q=>av _ q) (aT _) ⟨hz,its,0,hv,bP _ rfl⟩
theorem Inv.fresh(I:Inv X pins σ H s):H s.heap.objs.size=none:=I.hok.fresh (aT _)
theorem Inv.JV(I:Inv X pins σ H s)(hH:H l=some (.lst xs)):xs.length<=bS/\∃(its:List af) (n:Nat),Vals xs its/\xs.length=its.length/\s.heap.get? l=some { cls:=.type "list",data:=.seq its.toArray n }:=by
 obtain⟨z,its,n,r,e⟩:=I.hok l _ hH
 exact⟨z,its,n,r,r.length,e⟩
theorem PJ{n:Nat}(h:n<=bS):oP n=false:=by
 unfold oP
 exact decide_eq_false (by omega)
end
section
variable{X:Cx}
def Vo:V->List V->Hp->VK->Prop:=fun x vs H Q=>∃l xs y,x=.ref l/\vs=[y]/\H l=some (.lst xs)/\xs.length<bS/\Q .non (upd H l (.lst (xs++[y])))
theorem yC:MtM X "list.append" Vo:=by
 intro pins s σ H x vs v us Q I rx rv h
 obtain⟨l,xs,y,rfl,rfl,hH,hz,q⟩:=h
 cases rx
 obtain⟨u,rfl,ru⟩:=rv.one
 obtain⟨z,its,n,r,hl,e⟩:=I.JV hH
 refine GN F.slot_list_append ⟨_,e,rfl⟩ F.entry_list_append (F.args_list_append_2 _ _) (PySem.list_append l its.toArray n u (by rw[cw];omega)) ⟨e,?_⟩
 refine⟨.non,_,I.Xp (its':=its++[u]) hH e (by simp) (r.append (.cons ru .nil)) ?_,rfl,q⟩
 rw[bo,gE]
 omega
def T8:V->List V->Hp->VK->Prop:=fun x vs H Q=>∃l b xs zs,x=.ref l/\vs=[.ref b]/\H l=some (.lst xs)/\H b=some (.lst zs)/\xs.length+zs.length<=bS/\Q .non (upd H l (.lst (xs++zs)))
theorem Mq:MtM X "list.extend" T8:=by
 intro pins s σ H x vs v us Q I rx rv h
 obtain⟨l,b,xs,zs,rfl,rfl,hH,hB,hz,q⟩:=h
 cases rx
 obtain⟨u,rfl,ru⟩:=rv.one
 cases ru
 obtain⟨z,its,n,r,hl,e⟩:=I.JV hH
 obtain⟨z2,its2,n2,r2,hl2,e2⟩:=I.JV hB
 have hsz:its.toArray.size+its2.toArray.size<=bS:=by rw[cw,cw];omega
 have hlong:¬(!its.toArray.isEmpty&&oP (its.toArray.size+its2.toArray.size))=true:=by
  rw[PJ hsz,GO]
  exact ip
 refine GN F.slot_list_extend ⟨_,e,rfl⟩ F.entry_list_extend (F.args_list_extend_2 _ _)
  (AutoSeq1.list_extend_list_list_0 l its.toArray n b its2.toArray n2 hlong (by rw[cw];omega) (by omega)) ⟨e,e2,?_⟩
 refine⟨.non,_,I.Xp (its':=its++its2) hH e (by simp) (r.append r2) ?_,rfl,q⟩
 rw[bo]
 omega
def ab6:V->List V->Hp->VK->Prop:=fun x vs H Q=>∃l xs y,x=.ref l/\vs=[]/\H l=some (.lst xs)/\xs[xs.length-1]?=some y/\Q y (upd H l (.lst xs.dropLast))
theorem Zj:MtM X "list.pop" ab6:=by
 intro pins s σ H x vs v us Q I rx rv h
 obtain⟨l,xs,y,rfl,rfl,hH,hy,q⟩:=h
 cases rx
 have hus:=rv.zero
 subst hus
 obtain⟨z,its,n,r,hl,e⟩:=I.JV hH
 obtain⟨u,hu,ru⟩:=r.get hy
 have hy':its.toArray[its.toArray.size-1]?=some u:=by
  show its.toArray[its.length-1]?=some u
  rw[←i8,←hl]
  exact hu
 refine GN F.slot_list_pop ⟨_,e,rfl⟩ F.entry_list_pop (F.args_list_pop_1 _) (MeetsSeq.list_pop_last l its.toArray n u hy' (by rw[cw];omega)) ⟨e,?_⟩
 refine⟨y,_,I.Xp (its':=its.dropLast) hH e ?_ r.dropLast ?_,ru,q⟩
 ·show its.toArray.eraseIdxIfInBounds (its.toArray.size-1)=its.dropLast.toArray
  rw[cw,List.eraseIdxIfInBounds_toArray,HJ]
 ·rw[List.length_dropLast]
  omega
def acH:R2:=fun x y H Q=>∃l b xs zs,x=.ref l/\y=.ref b/\H l=some (.lst xs)/\H b=some (.lst zs)/\xs.length+zs.length<=bS/\∀p,H p=none->Q (.ref p) (upd H p (.lst (xs++zs)))
theorem Zi:gW X (kX .Add) acH:=by
 intro pins s σ H x y v u Q I rx ry h
 obtain⟨l,b,xs,zs,rfl,rfl,hH,hB,hz,q⟩:=h
 cases rx
 cases ry
 obtain⟨z,its,n,r,hl,e⟩:=I.JV hH
 obtain⟨z2,its2,n2,r2,hl2,e2⟩:=I.JV hB
 refine PySem.P.add_list e e2 ?_ (by rw[cw,cw];omega)
 have ea:its.toArray++its2.toArray=(its++its2).toArray:=by simp
 rw[ea]
 exact⟨.ref _,_,I.aai (t':=s.toks) (r.append r2) (by rw[bo];omega),rfl,q _ I.fresh⟩
end
end L2
namespace Att
open PySem PySem.W PySem.Calls PyProof.Rows
theorem uO{P:F5}{h:eJ}:∀(ns:List Int) (vs:List af),WellAll P h vs (ns.map Lc)->lb vs ns:=by
 intro ns
 induction ns with
 |nil=>
  intro vs w
  rw[y8] at w
  cases w
  exact .nil
 |cons n ns ih=>
  intro vs w
  rw[ck] at w
  cases w with
  |cons a b=>
   cases a
   exact .cons _ _ (ih _ b)
theorem Ny{l:OpenLaw}{n:Nat}(hn:l.most=some n){P:F5}{h:eJ}{args:List WData}{vals:List af}
  (hpre:l.row.toRowW.claim.pre args=true) (hwl:WellAll P h vals args) :
  ∃a vs ns,vals=[eK a]/\args=[WData.list (ns.map Lc)]/\h.get? a=some { cls:=.type "list",data:=.seq vs.toArray }/\lb vs ns/\ns.length<=n:=by
 have hsh:WShape.hasAll [] args [.list .int]=true:=(pre_splitW hpre).1
 have hc:l.pre.holds [] { args:=args }=true:=(pre_splitW hpre).2
 obtain⟨d,r,rfl,h1,h2⟩:=hasAllW_cons hsh
 obtain rfl:=hasAllW_nil h2
 obtain⟨xs,rfl,h3⟩:=hasW_list h1
 obtain⟨ns,rfl⟩:=items_int h3
 have hlen:ns.length<=n:=by
  unfold OpenLaw.pre at hc
  have h4:(WTm.not (.lt (.lit (.int (n:Int))) (.len (.arg 0)))).holds [] { args:=[.list (ns.map .int)] }=true:=by
   have h4:=(holds_andW hc).1
   rw[hn] at h4
   exact h4
  have h5:=condW_of h4 (w_not (w_lt w_lit (w_len_list (w_arg rfl))))
  rw[aw] at h5
  refine yi fun q=>?_
  have q':(n:Int)<((ns.length:Nat):Int):=by omega
  first
   |(rw[decide_eq_true q'] at h5;exact absurd h5 (by decide))
   |(simp at h5;omega)
 cases hwl with
 |cons w1 w2=>
  cases w2
  cases w1 with
  |list ho hall=>exact⟨_,_,ns,rfl,rfl,ho,uO ns _ hall,hlen⟩
theorem Np(l:OpenLaw)(args:List WData):l.row.toRowW.claim.post args (.bool true) args=true :=
 postW_of (r:=l.row.toRowW) (X:=(true==true))
  (show WShape.has [] (.bool true) .bool=true by first | rfl | decide | simp[WShape.has,WShape.arms,WShape.armsAll])
  (show (WTm.eq .res (.lit (.bool true))).value [] { args:=args,res:=some (.bool true),after:=args }=some (.bool (true==true)) from w_eq_bool (w_res rfl) w_lit) rfl
theorem Ck{l:OpenLaw}{n:Nat}{q:b5}{loose:List Str}{XP:(Str->Option af)->eJ->Prop}{YP:cE->eJ->Prop}{d:DefRec}
  (hn:l.most=some n) (hdf:d.params.defaults=[])
  (call:∀ (w:cE) (s₀ s₁:ah) (mg mb:Str→Option af) (fa:aE) (o:Obj) (pm cd doc:af) (a:aE) (vs:List af) (ns:List Int),
   Ground q loose [] XP w s₀ mg mb s₁.heap->YP w s₁.heap ->
   s₁.heap.get? fa=some o->o.data=.func (docDef d.name d.params d.body d.scope pm cd doc)->s₁.heap.CodeRec cd d.name->mg d.name=some (.ref fa) ->
   s₁.heap.get? a=some { cls:=.type "list",data:=.seq vs.toArray }->lb vs ns->ns.length<=n->s₁.gens=#[] ->
   wt (cf l.prog w) BF (.call (.ref fa) ⟨[.ref a],[]⟩) (fun r s'=>r=.ok (.ret (.bool true))/\OldK s₁.heap s'.heap/\s'.os=s₁.os/\tI s'.gens) s₁) :
  WalkO q loose XP YP l.row.toRowW d [] (fun f vs=>KI f vs):=by
 intro w s₀ s₁ mg mb G Y fa o pm cd doc dV kV ho hd hcd hD hmg hg args vals as hpre hlay hrd hwl hlo
 obtain rfl:dV=.none:=Dflts.none hD hdf
 obtain rfl:kV=.none:=Dflts.noKw hD
 obtain⟨a,vs,ns,rfl,rfl,hobj,hints,hlen⟩:=Ny hn hpre hwl
 refine enter_call (oo (call w s₀ s₁ mg mb fa o pm cd doc a vs ns G Y ho (fd_plain hd) hcd hmg hobj hints hlen hg) fun r s' hq=>?_)
 obtain⟨rfl,h2,h3,h4⟩:=hq
 exact⟨.inl ⟨.bool true,.bool true,[],rfl,fun _=>rfl,.bool true,Np l _,fun _=>⟨qq,fun _ hm=>(nomatch hm)⟩⟩,h2,h3,h4⟩
section
variable{prog:b5}{w:cE}{A:dS}{E:af->ah->Prop}{s:ah}{K:Frag}
def ledger(h:eJ)(L d:aE):List (aE×Obj):=(dc h.objs.size).filterMap fun a=>if a=L\/a=d then none else (h.get? a).map fun o=>(a,o)
end
end Att
namespace L2
open PySem PySem.Spec PyProof.Rows
theorem lz:∀ {vs:List af} {ns:List Int},lb vs ns->Vals (ns.map V.int) vs
 |_,_,.nil=>.nil
 |_,_,.cons n t h=>.cons ⟨t,rfl⟩ (lz h)
end L2
namespace L2
open PySem PySem.Spec PyProof.Rows
abbrev uN:Sy:=fun _ _ _ _ _ _=>False
abbrev E0:XK:=fun _ _ _=>False
theorem abK{X:Cx}:Passes uN X E0:=fun _ _ _ _ _ _ _ h=>h.elim
structure Ca(K:ae)(x qual:Str)(st:gg)(f:aE)(fd:gc):Prop where
 ex:∃(oc:af) (od:Option aE) (kV doc pm:af) (an:Option aE) (cdv ct:af) (osl:Array (Option af)),
  fd=kz x qual (bh st) (aQ st) (az st) .none kV doc pm an cdv ct/\K.lookup f=some ⟨oc,od,.func fd,osl⟩/\qk K cdv qual=true
 kp:gp K (.ref f)=true
section
variable{P:b5}{w:cE}{K:ae}{mg:Str->Option af}{base:eJ}
theorem Ca.ok{x qual:Str}{st:gg}{f:aE}{fd:gc}{N ps:List Str}{k:Nat}{sp:Sp}(F:Ca K x qual st f fd)(S:aR N ps (az st))(len:∀vs H Q E,sp vs H Q E->vs.length=ps.length)
  (hbody:∀ (cdv:af) (A:dS) (outer:List Env) (s:ah) (H:Hp) (vs:List V) (Q:VK) (E:XK),cW k (A.deeper (nt qual (az st) s.heap.objs.size f cdv))→sp vs H Q E →
   ∃t,zR (jn uN P w K mg base N qual (az st) f cdv A outer s H E).yK (aQ st) t/\t { nx:=fun _ H'=>Q .non H',rt:=Q } (start N vs) H):pM P w K mg base uN (k+1) f fd ps sp:=by
 obtain⟨oc,od,kV,doc,pm,an,cdv,ct,osl,rfl,lk,hcd⟩:=F.ex
 refine QF lk hcd S len fun A outer s H vs Q E hr hsp=>?_
 obtain⟨t,h,q⟩:=hbody cdv A outer s H vs Q E hr hsp
 exact⟨t,h.yK,q⟩
theorem Ca.binds{x qual:Str}{st:gg}{f:aE}{fd:gc}{ps:List Str}(F:Ca K x qual st f fd)
  (h:∀(kV doc pm:af) (an:Option aE) (cdv ct:af) (us:List af),us.length=ps.length->DE (kz x qual (bh st) (aQ st) (az st) .none kV doc pm an cdv ct) ⟨us,[]⟩=pure (ps.zip us)):Binds K fd ps []:=by
 obtain⟨oc,od,kV,doc,pm,an,cdv,ct,osl,rfl,lk,hcd⟩:=F.ex
 exact .all (h kV doc pm an cdv ct)
theorem tH{x qual:Str}{st:gg}{f:aE}{oc:af}{od an:Option aE}{osl:Array (Option af)}{kV doc pm cdv ct:af}(l:K.lookup f=some ⟨oc,od,.func (kz x qual (bh st) (aQ st) (az st) .none kV doc pm an cdv ct),osl⟩)
  (c:qk K cdv qual=true) (k:gp K (.ref f)=true):Ca K x qual st f (kz x qual (bh st) (aQ st) (az st) .none kV doc pm an cdv ct):=⟨⟨oc,od,kV,doc,pm,an,cdv,ct,osl,rfl,l,c⟩,k⟩
end
theorem tR{n:Nat}(h:n<=1000):n<bS:=pz h (by decide)
section
variable{X:Cx}
theorem pv(i:Nat){x:Str}{pos:Pos}(hN:X.N[i]?=some x:=by rfl)(hv:Vis X.env.scope x:=by first | exact nN rfl | exact nV (nN rfl) | exact nV (nV rfl))(hd:(x==("__debug__" : Str))=false:=by decide)
  (hcd:(x==("__classdict__" : Str))=false:=by decide):PE X (.Name x pos) (Cz i):=Xa hN hv hd hcd
end
section
variable{κ:Type}[DecidableEq κ]
def jm(kvs:List (κ×V))(k:κ):Option V:=(kvs.find? fun kv=>decide (kv.1=k)).map (·.2)
def putK(kvs:List (κ×V))(k:κ)(v:V):List (κ×V) :=
 if (kvs.any fun kv=>decide (kv.1=k))=true then kvs.map (fun kv=>if kv.1=k then (kv.1,v) else kv) else kvs++[(k,v)]
theorem n8{p:κ×V}{r:List (κ×V)}{k:κ}(e:p.1=k):jm (p::r) k=some p.2:=by simp[jm,mP,e]
theorem ou{p:κ×V}{r:List (κ×V)}{k:κ}(e:¬p.1=k):jm (p::r) k=jm r k:=by simp[jm,mP,e]
theorem DY(k:κ):∀kvs:List (κ×V),(kvs.any fun kv=>decide (kv.1=k))=(jm kvs k).isSome
 |[]=>rfl
 |p::r=>by
  rw[gv]
  by_cases e:p.1=k
  ·simp only[n8 e,decide_eq_true e,Bool.true_or,Option.isSome_some]
  ·rw[ou e,decide_eq_false e,HP];exact DY k r
theorem jJ(kvs:List (κ×V))(k:κ)(v:V):(putK kvs k v).length<=kvs.length+1:=by
 unfold putK
 split
 ·rw[aw];omega
 ·rw[bo,e8,pe];omega
theorem nY.lG{o:Option V}{u:Option af}(r:nY o u):o.isSome=u.isSome:=by
 cases o with
 |none=>cases u with
  |none=>rfl
  |some _=>exact (show False from r).elim
 |some _=>cases u with
  |none=>exact (show False from r).elim
  |some _=>rfl
theorem KV.val{kvs:List (κ×V)}{vs:List (κ×af)}(r:KV kvs vs)(k:κ):nY (jm kvs k) (lj vs k):=by
 unfold KV at r
 induction r with
 |nil=>exact lI
 |@cons p q ps qs h t ih=>
  obtain⟨h1,h2⟩:=h
  by_cases e:p.1=k
  ·have e':q.1=k:=h1.symm.trans e
   have b:lj (q::qs) k=some q.2:=by simp[lj,mP,e']
   rw[n8 e,b];exact h2
  ·have e':¬q.1=k:=fun z=>e (h1.trans z)
   have b:lj (q::qs) k=lj qs k:=by simp[lj,mP,e']
   rw[ou e,b];exact ih
theorem KV.any{kvs:List (κ×V)}{vs:List (κ×af)}(r:KV kvs vs)(k:κ):(kvs.any fun kv=>decide (kv.1=k))=vs.any fun kv=>decide (kv.1=k):=by
 unfold KV at r
 induction r with
 |nil=>rfl
 |cons h t ih=>rw[gv,gv,ih,h.1]
theorem KV.repl{kvs:List (κ×V)}{vs:List (κ×af)}(r:KV kvs vs)(k:κ){y:V}{u:af}(ry:RelV y u) :
  KV (kvs.map fun kv=>if kv.1=k then (kv.1,y) else kv) (vs.map fun kv=>if kv.1=k then (kv.1,u) else kv):=by
 unfold KV at r ⊢
 induction r with
 |nil=>exact .nil
 |@cons p q ps qs h t ih=>
  rw[ck,ck]
  refine .cons ?_ ih
  obtain⟨h1,h2⟩:=h
  by_cases e:p.1=k
  ·rw[if_pos e,if_pos (h1.symm.trans e)];exact⟨h1,ry⟩
  ·rw[if_neg e,if_neg (fun z=>e (h1.trans z))];exact⟨h1,h2⟩
theorem KV.put{kvs:List (κ×V)}{vs:List (κ×af)}(r:KV kvs vs)(k:κ){y:V}{u:af}(ry:RelV y u):KV (putK kvs k y) (stored vs k u):=by
 unfold putK stored
 rw[r.any k]
 by_cases e:(vs.any fun kv=>decide (kv.1=k))=true
 ·rw[if_pos e,if_pos e];exact r.repl k ry
 ·rw[if_neg e,if_neg e];exact Paired.snoc r ⟨rfl,ry⟩
theorem KV.length{kvs:List (κ×V)}{vs:List (κ×af)}(r:KV kvs vs):kvs.length=vs.length:=Paired.length r
end
theorem uB{P:b5}{w:cE}{k:Key}{u:af}(r:RelV (kV k) u):(bO P w).is k u=true:=by
 cases k with
 |inl i=>obtain⟨t,e⟩:=(show ∃t,u=tT i t from r);subst e;exact Dz P w i t
 |inr x=>obtain⟨t,e⟩:=(show ∃t,u=BC x t from r);subst e;exact nR P w x t
theorem yW{P:b5}{w:cE}:∀ {ks:List Key} {us:List af},Vals (ks.map kV) us->ItemsAre (bO P w) ks us
 |[],_,r=>by rw[y8] at r;cases r;exact .nil
 |k::ks,_,r=>by
  rw[ck] at r
  cases r with
  |cons h t=>exact .cons (uB h) (yW t)
abbrev KT(H:Hp):List (List Key×V)->List (List Key×aE×af)->Prop:=Paired fun p q=>p.1=q.1/\H q.2.1=some (.tup (p.1.map kV))/\RelV p.2 q.2.2
theorem KT.val{H:Hp}{kvs:List (List Key×V)}{xs:List (List Key×aE×af)}(r:KT H kvs xs)(k:List Key):nY (jm kvs k) ((E1 xs k).map (·.2)):=by
 induction r with
 |nil=>exact lI
 |@cons p q ps qs h t ih=>
  obtain⟨h1,_,h2⟩:=h
  by_cases e:p.1=k
  ·have e':q.1=k:=h1.symm.trans e
   have b:E1 (q::qs) k=some q.2:=by simp[E1,mP,e']
   rw[n8 e,b];exact h2
  ·have e':¬q.1=k:=fun z=>e (h1.trans z)
   have b:E1 (q::qs) k=E1 qs k:=by simp[E1,mP,e']
   rw[ou e,b];exact ih
theorem KT.repl{H:Hp}{kvs:List (List Key×V)}{xs:List (List Key×aE×af)}(r:KT H kvs xs)(k:List Key){y:V}{u:af}(ry:RelV y u) :
  KT H (kvs.map fun kv=>if kv.1=k then (kv.1,y) else kv) (xs.map (putAt k u)):=by
 induction r with
 |nil=>exact .nil
 |@cons p q ps qs h t ih=>
  rw[ck,ck]
  refine .cons ?_ ih
  obtain⟨h1,h2,h3⟩:=h
  unfold putAt
  by_cases e:p.1=k
  ·rw[if_pos e,if_pos (h1.symm.trans e)];exact⟨h1,h2,ry⟩
  ·rw[if_neg e,if_neg (fun z=>e (h1.trans z))];exact⟨h1,h2,h3⟩
theorem KT.put{H:Hp}{kvs:List (List Key×V)}{xs:List (List Key×aE×af)}(r:KT H kvs xs)(k:List Key){b:aE}{y:V}{u:af}(hb:H b=some (.tup (k.map kV)))(ry:RelV y u) :
  KT H (putK kvs k y) (storedH xs k b u):=by
 have e:(kvs.any fun kv=>decide (kv.1=k))=(E1 xs k).isSome:=by
  rw[DY,(r.val k).lG,wx]
 unfold putK storedH
 rw[e]
 by_cases q:(E1 xs k).isSome=true
 ·rw[if_pos q,if_pos q];exact r.repl k ry
 ·rw[if_neg q,if_neg q];exact Paired.snoc r ⟨rfl,hb,ry⟩
theorem KT.keeps{H H':Hp}{kvs:List (List Key×V)}{xs:List (List Key×aE×af)}(r:KT H kvs xs)(ht:∀b ys,H b=some (.tup ys)->H' b=some (.tup ys)):KT H' kvs xs :=
 Paired.xX r fun _ _ z=>⟨z.1,ht _ _ z.2.1,z.2.2⟩
section
variable{P:b5}{w:cE}{H:Hp}{h:eJ}{a:aE}
theorem VL{u:HO}(ok:mV P w H h)(e:Rd H a u):cH P w H h a u:=e.ok ok
theorem yL{kvs:List (Key×V)}(ok:mV P w H h)(e:Rd H a (.dK kvs)):kvs.length<=bS/\(a==iO)=false/\∃vs,KV kvs vs/\h.DictOf (bO P w) a vs :=
 show cH P w H h a (.dK kvs) from VL ok e
theorem Qu{kvs:List (Key×V)}(ok:mV P w H h)(e:H a=some (.dK kvs)):kvs.length<=bS/\(a==iO)=false/\∃vs,KV kvs vs/\h.DictOf (bO P w) a vs:=yL ok (.inl e)
theorem uc{ks:List Key}(ok:mV P w H h)(e:H a=some (.tup (ks.map kV))):(xS (bO P w)).is h ks a:=by
 obtain⟨_,its,r,o,h1,h2,n,h3,_⟩:=(show cH P w H h a (.tup (ks.map kV)) from ok a _ e)
 exact⟨o,its.toArray,n,h1,h2,h3,by simpa using yW r⟩
theorem yM{kvs:List (List Key×V)}(ok:mV P w H h)(e:Rd H a (.dT kvs)):kvs.length<=bS/\(a==iO)=false /\
  ∃xs,KT H kvs xs/\h.DictOfH (xS (bO P w)) a xs:=by
 obtain⟨z,y,xs,r,o,es,ep,h1,h2,h3,h4,h5⟩:=(show cH P w H h a (.dT kvs) from VL ok e)
 refine⟨z,y,xs,r,o,es,ep,h1,h2,h3,h4,fun x hx=>?_,h5⟩
 have all:∀ {l:List (List Key×V)} {m:List (List Key×aE×af)},KT H l m->∀x∈m,(xS (bO P w)).is h x.1 x.2.1:=by
  intro l m q
  induction q with
  |nil=>intro x hx;exact nomatch hx
  |@cons p q ps qs hq t ih=>
   intro x hx
   rcases bE.mp hx with e | hx
   ·subst e
    exact uc ok (by rw[←hq.1];exact hq.2.1)
   ·exact ih x hx
 exact all r x hx
theorem QX{kvs:List (List Key×V)}(ok:mV P w H h)(e:H a=some (.dT kvs)):kvs.length<=bS/\(a==iO)=false /\
  ∃xs,KT H kvs xs/\h.DictOfH (xS (bO P w)) a xs:=yM ok (.inl e)
end
def sO(H:Hp)(a:aE)(y:V)(r:Option V):Prop :=
 (∃kvs k,Rd H a (.dK kvs)/\y=kV k/\r=jm kvs k)\/∃kvs k b,Rd H a (.dT kvs)/\y=.ref b/\H b=some (.tup (k.map kV))/\r=jm kvs k
def QT(H:Hp)(a:aE)(y v:V)(H':Hp):Prop :=
 (∃kvs k,H a=some (.dK kvs)/\y=kV k/\kvs.length<bS/\H'=upd H a (.dK (putK kvs k v))) \/
 ∃kvs k b,H a=some (.dT kvs)/\y=.ref b/\H b=some (.tup (k.map kV))/\kvs.length<bS/\H'=upd H a (.dT (putK kvs k v))
theorem sO.k{H:Hp}{a:aE}{kvs:List (Key×V)}{k:Key}(e:H a=some (.dK kvs)):sO H a (kV k) (jm kvs k):=.inl ⟨kvs,k,.inl e,rfl,rfl⟩
theorem sO.t{H:Hp}{a b:aE}{kvs:List (List Key×V)}{k:List Key}(e:H a=some (.dT kvs))(eb:H b=some (.tup (k.map kV))):sO H a (.ref b) (jm kvs k):=.inr ⟨kvs,k,b,.inl e,rfl,eb,rfl⟩
theorem QT.t{H:Hp}{a b:aE}{kvs:List (List Key×V)}{k:List Key}{v:V}(e:H a=some (.dT kvs))(eb:H b=some (.tup (k.map kV)))(hl:kvs.length<bS) :
  QT H a (.ref b) v (upd H a (.dT (putK kvs k v))):=.inr ⟨kvs,k,b,e,rfl,eb,hl,rfl⟩
section
variable{X:Cx}{pins:List (aE×Obj)}{σ:St}{H:Hp}{s:ah}{a:aE}{y v:V}{u r:af}{o:Option V}{A:dS}{E:af->ah->Prop}
theorem Inv.big(I:Inv X pins σ H s):iO<s.heap.objs.size:=by
 have h:ba<s.heap.objs.size:=(I.mod.glob.keeps I.bk).lt
 exact Nat.lt_trans (by decide) h
theorem K8{Q:af->ah->Prop}(hu:A.units+1<md)(I:Inv X pins σ H s)(g:sO H a y (some v))(ry:RelV y u)(h:∀w' s',Inv X pins σ H s'->RelV v w'->Q w' s') :
  bq (cf X.prog X.w) A (BE (.ref a) u) Q E s:=by
 rcases g with ⟨kvs,k,e,ey,l⟩ | ⟨kvs,k,b,e,ey,eb,l⟩
 ·subst ey
  obtain⟨z,hd,vs,rel,dd⟩:=yL I.hok e
  obtain⟨w',hw,rw'⟩:=nY.some_of (v:=v) (o:=lj vs k) (by rw[l];exact rel.val k)
  exact EE (uB ry) dd.mapOf hw (h w' _ (I.tok _) rw')
 ·subst ey
  cases (show u=eK b from ry)
  obtain⟨z,hd,xs,rel,dd⟩:=yM I.hok e
  obtain⟨w',hw,rw'⟩:=nY.some_of (v:=v) (o:=(E1 xs k).map (·.2)) (by rw[l];exact rel.val k)
  obtain⟨p,hp,hp2⟩:=b6.mp hw
  refine wpAny_getItem_heap (pE hu) (uc I.hok eb) dd hp ?_
  rw[hp2]
  exact h w' _ (I.tok _) rw'
theorem ach{Q:af->ah->Prop}(hu:A.units+1<md)(I:Inv X pins σ H s)(g:sO H a y o)(ry:RelV y u)(h:∀s',Inv X pins σ H s'->Q (.bool o.isSome) s') :
  bq (cf X.prog X.w) A (eW .In u (.ref a)) Q E s:=by
 rcases g with ⟨kvs,k,e,ey,l⟩ | ⟨kvs,k,b,e,ey,eb,l⟩
 ·subst ey
  obtain⟨z,hd,vs,rel,dd⟩:=yL I.hok e
  refine wpAny_in_of (uB ry) hd dd.mapOf ?_
  rw[←(rel.val k).lG,←l]
  exact h _ (I.tok _)
 ·subst ey
  cases (show u=eK b from ry)
  obtain⟨z,hd,xs,rel,dd⟩:=yM I.hok e
  refine wpAny_in_heap (pE hu) (uc I.hok eb) hd dd ?_
  have q:=(rel.val k).lG
  rw[wx] at q
  rw[←q,←l]
  exact h _ (I.tok _)
theorem U8{Q:af->ah->Prop}(hu:A.units+1<md)(I:Inv X pins σ H s)(g:sO H a y o)(ry:RelV y u)(h:∀s',Inv X pins σ H s'->Q (.bool (!o.isSome)) s') :
  bq (cf X.prog X.w) A (eW .NotIn u (.ref a)) Q E s:=by
 rcases g with ⟨kvs,k,e,ey,l⟩ | ⟨kvs,k,b,e,ey,eb,l⟩
 ·subst ey
  obtain⟨z,hd,vs,rel,dd⟩:=yL I.hok e
  refine GS (uB ry) hd dd.mapOf ?_
  rw[←(rel.val k).lG,←l]
  exact h _ (I.tok _)
 ·subst ey
  cases (show u=eK b from ry)
  obtain⟨z,hd,xs,rel,dd⟩:=yM I.hok e
  refine wpAny_notIn_heap (pE hu) (uc I.hok eb) hd dd ?_
  have q:=(rel.val k).lG
  rw[wx] at q
  rw[←q,←l]
  exact h _ (I.tok _)
theorem uU{h':eJ}{t':Nat}{ob:HO}(I:Inv X pins σ H s)(mu:Mut (H a))(hs:y3 a s.heap h')(he:∃q,h'.get? a=some q)(new:cH X.prog X.w (upd H a ob) h' a ob) :
  Inv X pins σ (upd H a ob) { s with heap:=h',toks:=t' } :=
 I.write (x:=a) (e:=a) mu (.inl rfl) (fun b q hb z=>(hs.2 b hb).trans z) he new
theorem QS{P:b5}{w:cE}{H':Hp}{h':eJ}{kvs:List (Key×V)}{vs:List (Key×af)}(z:kvs.length<=bS)(hd:(a==iO)=false)(rel:KV kvs vs)(dd:h'.DictOf (bO P w) a vs) :
  cH P w H' h' a (.dK kvs):=⟨z,hd,vs,rel,dd⟩
theorem Ma{H':Hp}{Q:Unit->ah->Prop}(hu:A.units+1<md)(I:Inv X pins σ H s)(g:QT H a y v H')(ry:RelV y u)(rv:RelV v r)(h:∀s',Inv X pins σ H' s'->Q () s') :
  bq (cf X.prog X.w) A (setItem (.ref a) u r) Q E s:=by
 rcases g with ⟨kvs,k,e,ey,l,eH⟩ | ⟨kvs,k,b,e,ey,eb,l,eH⟩
 ·subst ey eH
  obtain⟨z,hd,vs,rel,dd⟩:=Qu I.hok e
  have hz:vs.length<=bS:=by rw[←rel.length];exact z
  have hl:(putK kvs k v).length<=bS:=by have:=jJ kvs k v;omega
  refine wpAny_setItem_pairs (hsz:=hz) (uB ry) dd fun h' dd' hs=>h _ ?_
  have he:∃q,h'.get? a=some q:=let ⟨q,_,_,hq,_⟩:=dd';⟨q,hq⟩
  exact uU I (by rw[e];exact lI) hs he (QS hl hd (rel.put k rv) dd')
 ·subst ey eH
  cases (show u=eK b from ry)
  obtain⟨z,hd,xs,rel,dd⟩:=QX I.hok e
  have hz:xs.length<=bS:=by rw[←Paired.length rel];exact z
  have hl:(putK kvs k v).length<=bS:=by have:=jJ kvs k v;omega
  refine wpAny_setItem_heap (hsz:=hz) (pE hu) (uc I.hok eb) dd fun h' dd' hs=>h _ ?_
  obtain⟨q,es,ep,hq,h2,h3,h4,_,h5⟩:=dd'
  refine uU I (by rw[e];exact lI) hs ⟨q,hq⟩ ⟨hl,hd,_,(rel.put k eb rv).keeps fun c ys ec=>?_,q,es,ep,hq,h2,h3,h4,h5⟩
  rw[aC (pR ec e (fun z=>nomatch z))]
  exact ec
end
def Nu(i:cS):Prop:=∀ov iv,A0 i false ov iv=operate [ov,iv] (BE ov iv)
theorem IK{prog:b5}{w:cE}{A:dS}{E:af->ah->Prop}{s:ah}{env:Env}{value slice:cS}{pos:Pos}{T id:String}{Q:af->ah->Prop}
  (hl:uk (.type T) "__getitem__" = pure (some (.builtin id))) (hs:Nu slice)
  (h:bq (cf prog w) A (eR value env) (fun o s₁=>bq (cf prog w) A (eR slice env) (fun i s₂=>s₂.TypeIs o T/\bq (cf prog w) A (BE o i) Q E s₂) E s₁) E s) :
  bq (cf prog w) A (eR (.Subscript value slice pos) env) Q E s:=by
 refine GB (eB h (fun o s₁ h₁=>eB h₁ (fun i s₂ h₂=>?_) fun _ _ x=>x) fun _ _ x=>x)
 obtain⟨hT,h₂⟩:=h₂
 unfold Cf
 refine ag ?_
 rw[getitemInPython_of_ne hT.not_modules]
 refine ag (wpAny_specialOf hT hl ?_)
 have fin:bq (cf prog w) A (A0 slice false o i) (fun r s₃=>bq (cf prog w) A (letTemporaryGo value o r >>= fun _=>pure r) Q E s₃) E s₂:=by
  rw[hs o i]
  exact wpAny_operating (eB h₂ (fun r s₃ h₃=>ag (wpAny_letTemporaryGo (bg h₃))) fun _ _ x=>x)
 first
  |exact bg (ag fin)
  |exact ag (bg (ag fin))
  |exact ag fin
theorem CK{X:Cx}{pins:List (aE×Obj)}{σ:St}{H:Hp}{s:ah}{a:aE}{y:V}{o:Option V}(I:Inv X pins σ H s)(g:sO H a y o):s.TypeIs (.ref a) "dict":=by
 rcases g with ⟨kvs,k,e,_,_⟩ | ⟨kvs,k,b,e,_,_,_⟩
 ·obtain⟨_,_,vs,_,dd⟩:=yL I.hok e
  exact dd.typeIs
 ·obtain⟨_,_,xs,_,dd⟩:=yM I.hok e
  exact dd.typeIs
def aaY(td ty:TE):TE:=fun σ H Q=>td σ H fun x H1=>ty σ H1 fun y H2=>∃a v,x=.ref a/\sO H2 a y (some v)/\Q v H2
def Z7(td ty tv:TE):TS:=fun D σ H=>tv σ H fun v H1=>td σ H1 fun x H2=>ty σ H2 fun y H3=>∃a H4,x=.ref a/\QT H3 a y v H4/\D.nx σ H4
section
variable{X:Cx}{o i e value:cS}{pos pos' tpos:Pos}{td ty tv:TE}
theorem IV(hu:X.A.units+1<md)(ho:PE X o td)(hi:PE X i ty)(hs:Nu i):PE X (.Subscript o i pos) (aaY td ty):=by
 intro pins s σ H Q I h
 refine IK vE.lookup hs (cC (ho pins s σ H _ I h) fun u s1 ⟨x,H1,I1,rx,q1⟩=>cC (hi pins s1 σ H1 _ I1 q1) fun iv s2 zz=>?_)
 obtain⟨y,H2,I2,ry,a,v,ex,g,q2⟩:=zz
 subst ex
 obtain rfl:u=eK a:=rx
 exact⟨CK I2 g,K8 hu I2 g ry fun w' s3 I3 rw'=>⟨v,H2,I3,rw',q2⟩⟩
theorem Up(hu:X.A.units+1<md)(ho:PE X o td)(hi:PE X i ty)(hv:PE X value tv)(hs:om value (some (.Subscript o i pos')) pos.line X.env=pure false) :
  PS X (.Assign [.Subscript o i pos'] value pos) (Z7 td ty tv):=by
 intro pins s σ H D I h
 refine wpAny_Assign_Subscript (cC (hv pins s σ H _ I h) fun r s1 ⟨v,H1,I1,rv,q1⟩=>cC (ho pins s1 σ H1 _ I1 q1) fun u s2 ⟨x,H2,I2,rx,q2⟩=>cC (hi pins s2 σ H2 _ I2 q2) fun iv s3 zz=>?_) hs
 obtain⟨y,H3,I3,ry,a,H4,ex,g,q3⟩:=zz
 subst ex
 obtain rfl:u=eK a:=rx
 exact Ma hu I3 g ry rv fun s4 I4=>⟨σ,H4,I4,q3⟩
end
theorem Pg{P:b5}{w:cE}{H:Hp}(h:eJ)(hb:iO<h.objs.size):cH P w H (h.push { cls:=.type "dict",data:=.dict #[] }) h.objs.size (.dK []) :=
 ⟨ef _,beq_eq_false_iff_ne.mpr (fm (df hb)),[],.nil,Lm h⟩
theorem Dv{P:b5}{w:cE}{H:Hp}(h:eJ)(hb:iO<h.objs.size):cH P w H (h.push { cls:=.type "dict",data:=.dict #[] }) h.objs.size (.dT []) :=
 ⟨ef _,beq_eq_false_iff_ne.mpr (fm (df hb)),[],.nil,_,#[],0,bP _ rfl,⟨rfl,rfl,rfl⟩,rfl,rfl,List.nodup_nil⟩
def Yk:TE:=fun _ H Q=>∀p,H p=none->Q (.ref p) (upd H p (.dK []))
def Yi:TE:=fun _ H Q=>∀p,H p=none->Q (.ref p) (upd H p (.dT []))
section
variable{X:Cx}{pos:Pos}
theorem Pq:PE X (.Dict [] [] pos) Yk:=fun pins s σ H Q I h=>
 EF ⟨.ref s.heap.objs.size,_,I.laid (a:=s.heap.objs.size) (o:=.dK []) (t':=s.toks) (fun _ _ q=>av _ q) (aT _) (Pg s.heap I.big),rfl,h _ (I.hok.fresh (aT _))⟩
theorem Q8:PE X (.Dict [] [] pos) Yi:=fun pins s σ H Q I h=>
 EF ⟨.ref s.heap.objs.size,_,I.laid (a:=s.heap.objs.size) (o:=.dT []) (t':=s.toks) (fun _ _ q=>av _ q) (aT _) (Dv s.heap I.big),rfl,h _ (I.hok.fresh (aT _))⟩
end
def Qe:List (TE×TE)->St->Hp->(List (V×V)->Hp->Prop)->Prop
 |[],_,H,Q=>Q [] H
 |(tk,tv)::r,σ,H,Q=>tk σ H fun x H1=>tv σ H1 fun y H2=>Qe r σ H2 fun ps H3=>Q ((x,y)::ps) H3
abbrev VV:List (V×V)->List (af×af)->Prop:=Paired fun p q=>RelV p.1 q.1/\RelV p.2 q.2
def PPs(X:Cx)(pos:Pos)(keys:List (Option cS))(values:List cS)(trs:List (TE×TE)):Prop :=
 ∀(pins:List (aE×Obj)) (s:ah) (σ:St) (H:Hp) (Q:List (V×V)->Hp->Prop),Inv X pins σ H s->Qe trs σ H Q ->
  bq (cf X.prog X.w) X.A (evalPairs (pairTrees keys values X.env pos)) (fun vs s'=>∃ps H',Inv X pins σ H' s'/\VV ps vs/\Q ps H') X.xe s
theorem Uz{X:Cx}{pos:Pos}:PPs X pos [] [] []:=fun pins s σ H Q I h=>pairTrees_nil_walk ⟨[],H,I,.nil,h⟩
theorem Rr{X:Cx}{pos:Pos}{k v:cS}{ks:List (Option cS)}{vs:List cS}{tk tv:TE}{trs:List (TE×TE)}(hk:PE X k tk)(hv:PE X v tv)(hr:PPs X pos ks vs trs) :
  PPs X pos (some k::ks) (v::vs) ((tk,tv)::trs):=fun pins s σ H Q I h=>
 pairTrees_cons_walk (cC (hk pins s σ H _ I h) fun u s1 ⟨x,H1,I1,rx,q1⟩=>cC (hv pins s1 σ H1 _ I1 q1) fun w2 s2 ⟨y,H2,I2,ry,q2⟩=>
  cC (hr pins s2 σ H2 _ I2 q2) fun ws s3 ⟨ps,H3,I3,rel,q3⟩=>⟨(x,y)::ps,H3,I3,.cons ⟨rx,ry⟩ rel,q3⟩)
structure M2(X:Cx)(o:cS)(m:Str)(apos:Pos)(e f:cS)(cpos:Pos):Prop where
 base:ly o m X.env (eR o X.env)=eR o X.env
 few:((i3 cpos (aI [e,f] X.env)).all (fun x=>!x.1)&&(qh cpos (la [] X.env)).all (fun x=>x.1.isSome)
  && decide (([e,f]:List cS).length+([]:List tJ).length+(if ([]:List tJ).isEmpty then 0 else 1)<30))=true
 line:(apos.endLine==cpos.line)=true
 trees:i3 cpos (aI [e,f] X.env)=[(false,eR e X.env),(false,eR f X.env)]
def IsD(H:Hp)(a:aE):Prop:=(∃kvs,Rd H a (.dK kvs))\/∃kvs,Rd H a (.dT kvs)
theorem XC{X:Cx}{pins:List (aE×Obj)}{σ:St}{H:Hp}{s:ah}{a:aE}(I:Inv X pins σ H s)(d:IsD H a) :
  s.TypeIs (.ref a) "dict"/\(∀b,eK a=.ref b->∃ob,s.heap.get? b=some ob/\ob.dict=none)/\(a==iO)=false:=by
 rcases d with ⟨kvs,e⟩ | ⟨kvs,e⟩
 ·obtain⟨_,hd,vs,_,dd⟩:=yL I.hok e
  refine⟨dd.typeIs,fun b q=>?_,hd⟩
  cases q
  obtain⟨ob,_,_,h1,h2,_⟩:=dd
  exact⟨ob,h1,h2.2.1⟩
 ·obtain⟨_,hd,xs,_,dd⟩:=yM I.hok e
  refine⟨dd.typeIs,fun b q=>?_,hd⟩
  cases q
  obtain⟨ob,_,_,h1,h2,_⟩:=dd
  exact⟨ob,h1,h2.2.1⟩
end L2
namespace L3
open PySem PySem.Spec PyProof.Rows L2
abbrev St:=L2.St
inductive D where
 |non | bl (b:Bool) | int (i:Int) | str (x:Str) | tup (ds:List D) | fl (ds:List D) | ref (a:aE) | ty (n:String) | ktup (ds:List D)
def Yp(K:ae)(H:Hp)(a:aE)(xs:List V):Prop :=
 (∃o,H a=some (.frz o (.lst xs))) \/
  ∃(o:Obj) (its:Array af) (n:Nat),K.lookup a=some o/\o.cls=.type "list"/\o.dict=none/\o.data=.seq its n/\its.size<=bS/\Vals xs its.toList
theorem Yp.sq{K:ae}{H:Hp}{a:aE}{xs:List V}(h:Yp K H a xs):gB K H a xs:=by
 rcases h with ⟨o,h⟩ | h
 ·exact .inl (.inr ⟨o,h⟩)
 ·exact .inr h
def KTp(K:ae)(a:aE)(xs:List V):Prop:=∃(o:Obj) (its:Array af) (n:Nat),K.lookup a=some o/\o.cls=.type "tuple"/\o.data=.seq its n/\its.size<=bS/\Vals xs its.toList
theorem KTp.sq{K:ae}{H:Hp}{a:aE}{xs:List V}(h:KTp K a xs):mO K H a xs:=.inr h
mutual
inductive Rep(K:ae)(H:Hp):D->V->Prop
 |non:Rep K H .non .non
 |bl (b:Bool):Rep K H (.bl b) (.bl b)
 |int (i:Int):Rep K H (.int i) (.int i)
 |str (x:Str):Rep K H (.str x) (.str x)
 |ty (n:String):Rep K H (.ty n) (.ty n)
 |ref (a:aE):Rep K H (.ref a) (.ref a)
 |tup {a:aE} {xs:List V} {ds:List D}:H a=some (.tup xs)->bI K H ds xs->Rep K H (.tup ds) (.ref a)
 |fl {a:aE} {xs:List V} {ds:List D}:Yp K H a xs->bI K H ds xs->Rep K H (.fl ds) (.ref a)
 |ktup {a:aE} {xs:List V} {ds:List D}:KTp K a xs->bI K H ds xs->Rep K H (.ktup ds) (.ref a)
inductive bI(K:ae)(H:Hp):List D->List V->Prop
 |nil:bI K H [] []
 |cons {d:D} {v:V} {ds:List D} {vs:List V}:Rep K H d v->bI K H ds vs->bI K H (d::ds) (v::vs)
end
structure TK(H H':Hp):Prop where
 tup:∀a xs,H a=some (.tup xs)->H' a=some (.tup xs)
 frz:∀a o u,H a=some (.frz o u)->H' a=some (.frz o u)
theorem TK.refl{H:Hp}:TK H H:=⟨fun _ _ h=>h,fun _ _ _ h=>h⟩
theorem TK.trans{H H1 H2:Hp}(a:TK H H1)(b:TK H1 H2):TK H H2:=⟨fun c xs h=>b.tup c xs (a.tup c xs h),fun c o u h=>b.frz c o u (a.frz c o u h)⟩
theorem TK.fresh{H:Hp}{p:aE}{o:HO}(n:H p=none):TK H (upd H p o) :=
 ⟨fun a xs h=>by rw[aC (aW h n)];exact h,fun a o' u h=>by rw[aC (aW h n)];exact h⟩
theorem TK.lst{H:Hp}{p:aE}{o:HO}{xs:List V}(n:H p=some (.lst xs)):TK H (upd H p o) :=
 ⟨fun a ys h=>by rw[aC (pR h n (by intro z;cases z))];exact h,fun a o' u h=>by rw[aC (pR h n (by intro z;cases z))];exact h⟩
theorem TK.dT{H:Hp}{p:aE}{o:HO}{xs:List (List Key×V)}(n:H p=some (.dT xs)):TK H (upd H p o) :=
 ⟨fun a ys h=>by rw[aC (pR h n (by intro z;cases z))];exact h,fun a o' u h=>by rw[aC (pR h n (by intro z;cases z))];exact h⟩
theorem TK.sqT{K:ae}{H H':Hp}(t:TK H H'){a:aE}{xs:List V}(h:mO K H a xs):mO K H' a xs:=by
 rcases h with (h | ⟨o,h⟩) | h
 ·exact .inl (.inl (t.tup _ _ h))
 ·exact .inl (.inr ⟨o,t.frz _ _ _ h⟩)
 ·exact .inr h
theorem TK.fzL{K:ae}{H H':Hp}(t:TK H H'){a:aE}{xs:List V}(h:Yp K H a xs):Yp K H' a xs:=by
 rcases h with ⟨o,h⟩ | h
 ·exact .inl ⟨o,t.frz _ _ _ h⟩
 ·exact .inr h
theorem Rep.mono{K:ae}{H H':Hp}(t:TK H H'){d:D}{v:V}(h:Rep K H d v):Rep K H' d v :=
 Rep.rec (motive_1:=fun d v _=>Rep K H' d v) (motive_2:=fun ds vs _=>bI K H' ds vs) .non .bl .int .str .ty .ref (fun h _ r=>.tup (t.tup _ _ h) r) (fun h _ r=>.fl (t.fzL h) r) (fun h _ r=>.ktup h r) .nil (fun _ _ r s=>.cons r s) h
theorem bI.mono{K:ae}{H H':Hp}(t:TK H H'){ds:List D}{vs:List V}(h:bI K H ds vs):bI K H' ds vs :=
 bI.rec (motive_1:=fun d v _=>Rep K H' d v) (motive_2:=fun ds vs _=>bI K H' ds vs) .non .bl .int .str .ty .ref (fun h _ r=>.tup (t.tup _ _ h) r) (fun h _ r=>.fl (t.fzL h) r) (fun h _ r=>.ktup h r) .nil (fun _ _ r s=>.cons r s) h
section
variable{K:ae}{H:Hp}
theorem bI.length{ds:List D}{vs:List V}(h:bI K H ds vs):ds.length=vs.length :=
 bI.rec (motive_1:=fun _ _ _=>True) (motive_2:=fun ds vs _=>ds.length=vs.length) trivial (fun _=>trivial) (fun _=>trivial) (fun _=>trivial) (fun _=>trivial) (fun _=>trivial) (fun _ _ _=>trivial) (fun _ _ _=>trivial) (fun _ _ _=>trivial) rfl (fun _ _ _ i=>congrArg (· + 1) i) h
theorem bI.get:∀ {ds:List D} {vs:List V} {i:Nat} {d:D},bI K H ds vs->ds[i]?=some d->∃v,vs[i]?=some v/\Rep K H d v
 |_,_,_,_,.nil,e=>by simp at e
 |_,_,0,_,.cons r _,e=>by simp at e;subst e;exact⟨_,rfl,r⟩
 |_,_,i+1,d,.cons _ t,e=>by
  obtain⟨u,h1,h2⟩:=bI.get (i:=i) (d:=d) t (by simpa using e)
  exact⟨u,by simpa using h1,h2⟩
theorem bI.MN:∀ {ds:List D} {vs:List V} {i:Nat} {v:V},bI K H ds vs->vs[i]?=some v->∃d,ds[i]?=some d/\Rep K H d v
 |_,_,_,_,.nil,e=>by simp at e
 |_,_,0,_,.cons r _,e=>by simp at e;subst e;exact⟨_,rfl,r⟩
 |_,_,i+1,v,.cons _ t,e=>by
  obtain⟨u,h1,h2⟩:=bI.MN (i:=i) (v:=v) t (by simpa using e)
  exact⟨u,by simpa using h1,h2⟩
theorem bI.append{ds es:List D}{vs us:List V}(h:bI K H ds vs)(s:bI K H es us):bI K H (ds++es) (vs++us) :=
 bI.rec (motive_1:=fun _ _ _=>True) (motive_2:=fun ds vs _=>bI K H (ds++es) (vs++us)) trivial (fun _=>trivial) (fun _=>trivial) (fun _=>trivial) (fun _=>trivial) (fun _=>trivial) (fun _ _ _=>trivial) (fun _ _ _=>trivial) (fun _ _ _=>trivial) s (fun r _ _ i=>.cons r i) h
theorem bI.take:∀ {ds:List D} {vs:List V} (n:Nat),bI K H ds vs->bI K H (ds.take n) (vs.take n)
 |_,_,0,_=>.nil
 |_,_,_+1,.nil=>.nil
 |_,_,n+1,.cons r t=>.cons r (bI.take n t)
theorem bI.drop:∀ {ds:List D} {vs:List V} (n:Nat),bI K H ds vs->bI K H (ds.drop n) (vs.drop n)
 |_,_,0,r=>r
 |_,_,_+1,.nil=>.nil
 |_,_,n+1,.cons _ t=>bI.drop n t
theorem bI.snoc{ds:List D}{vs:List V}{d:D}{v:V}(r:bI K H ds vs)(s:Rep K H d v):bI K H (ds++[d]) (vs++[v]):=r.append (.cons s .nil)
theorem bI.dropLast{ds:List D}{vs:List V}(r:bI K H ds vs):bI K H ds.dropLast vs.dropLast:=by
 rw[AK,AK,←r.length];exact r.take _
theorem bI.ints:∀(ns:List Int),bI K H (ns.map D.int) (ns.map V.int)
 |[]=>.nil
 |n::ns=>.cons (.int n) (bI.ints ns)
theorem bI.nG{ns:List Int}:∀ {vs:List V},bI K H (ns.map D.int) vs->vs=ns.map V.int:=by
 induction ns with
 |nil=>intro vs h;cases h;rfl
 |cons n ns ih=>
  intro vs h
  cases h with
  |cons r t=>cases r;rw[ck,ih t]
end
inductive O3 where
 |lst (ds:List D)
 |dic (kvs:List (List Key×D))
 |dik (kvs:List (Key×D))
 |ins (c:Str) (fs:List (Str×D))
 |exc (c:Str) (fs:List (Str×D))
 |tab (x:Str)
 |tabd (x:Str) (l k:Nat)
abbrev aG:=aE->Option O3
def aP(H:aG)(a:aE)(o:O3):aG:=fun b=>if b=a then some o else H b
theorem aF{H:aG}{a:aE}{o:O3}:aP H a o a=some o:=by unfold aP;rw[if_pos rfl]
theorem bA{H:aG}{a b:aE}{o:O3}(h:b≠a):aP H a o b=H b:=by unfold aP;rw[if_neg h]
theorem kZ{H:aG}{a:aE}{o u:O3}:aP (aP H a o) a u=aP H a u:=by
 funext b;unfold aP;split <;> rfl
theorem ne3{H:aG}{a b:aE}{o:O3}(h:H a=some o)(h':H b=none):a≠b:=by
 intro e;subst e;rw[h] at h';cases h'
def Bl(a C:aE)(dd:Option aE):HO:=.ext fun h=>∃o vs,h.get? a=some o/\o.cls=.ref C/\o.data=.fields vs/\o.dict=dd
def XF(K:ae)(H:Hp)(dd:Option aE)(fs:List (Str×D)):Prop:=fs=[]\/∃dx od xs,dd=some dx/\H dx=some (.frz od (.xd xs))/\Paired (fun (p:Str×D) (q:Str×V)=>p.1=q.1/\Rep K H p.2 q.2) fs xs
theorem XF.mono{K:ae}{H H':Hp}{dd:Option aE}{fs:List (Str×D)}(x:XF K H dd fs)(t:TK H H'):XF K H' dd fs:=by
 rcases x with x | ⟨dx,od,xs,e,q,r⟩
 ·exact .inl x
 ·exact .inr ⟨dx,od,xs,e,t.frz _ _ _ q,Paired.xX r fun _ _ z=>⟨z.1,z.2.mono t⟩⟩
structure Bv(K:ae)(H:Hp)(x:Str)(c a:aE):Prop where
 tab:nr K x=some (c,a)
 hd:∀h:eJ,K.In h->A1 h c a
 bm:∃bm ob,br K ba "__builtins__" = some (some (.ref bm))/\bm≠CD/\H bm=some (.frz ob (.own bm))/\ob.cls=.type "module"/\ob.dict=some CD/\ob.data=.plain
theorem Bv.mono{K:ae}{H H':Hp}{x:Str}{c a:aE}(h:Bv K H x c a)(t:TK H H'):Bv K H' x c a :=
 ⟨h.tab,h.hd,let ⟨bm,ob,h1,h2,h3,h4⟩:=h.bm;⟨bm,ob,h1,h2,t.frz _ _ _ h3,h4⟩⟩
def Cm(x:Str):Str:=x ++ ".<locals>." ++ "<lambda>"
def OR(K:ae)(H:Hp)(a:aE):O3->Prop
 |.lst ds=>∃xs,H a=some (.lst xs)/\bI K H ds xs
 |.dic kvs=>∃ks,H a=some (.dT ks)/\Paired (fun (p:List Key×D) (q:List Key×V)=>p.1=q.1/\Rep K H p.2 q.2) kvs ks
 |.dik kvs=>∃ks,H a=some (.dK ks)/\Paired (fun (p:Key×D) (q:Key×V)=>p.1=q.1/\Rep K H p.2 q.2) kvs ks
 |.ins c fs=>∃C dx xs,br K ba c=some (some (.ref C))/\H a=some (.ins C dx xs)/\Paired (fun (p:Str×D) (q:Str×V)=>p.1=q.1/\Rep K H p.2 q.2) fs xs
 |.exc c fs=>∃C dd,br K ba c=some (some (.ref C))/\H a=some (Bl a C dd)/\XF K H dd fs
 |.tab x=>H a=some (.tbl #[])/\∃c,Bv K H x c a
 |.tabd x l k=>∃c' oc vs t,H a=some (.tbl #[ky l,ky k,.ref c'])/\H c'=some (.frz oc (.own c'))/\oc.data=.fields vs/\vs[1]?=some (.str (Cm x) t)/\∃c,Bv K H x c a
def HR(K:ae)(H3:aG)(H:Hp):Prop:=∀a o,H3 a=some o->OR K H a o
def aN(H H':aG):Prop:=∀a o,H a=some o->H' a=some o
theorem aN.refl{H:aG}:aN H H:=fun _ _ h=>h
theorem aN.trans{H H1 H2:aG}(a:aN H H1)(b:aN H1 H2):aN H H2:=fun c o h=>b c o (a c o h)
theorem aN.fresh{H:aG}{p:aE}{o:O3}(n:H p=none):aN H (aP H p o):=fun a u h=>by rw[bA (ne3 h n)];exact h
section
variable{K:ae}{H H':Hp}{H3 H3':aG}
theorem HR.sub(h:HR K H3' H)(s:aN H3 H3'):HR K H3 H:=fun a o e=>h a o (s a o e)
theorem HR.fresh(h:HR K H3 H){p:aE}(n:H p=none):H3 p=none:=by
 cases e:H3 p with
 |none=>rfl
 |some o=>
  cases o with
  |lst ds=>obtain⟨xs,q,_⟩:=h p _ e;rw[n] at q;cases q
  |dic ks=>obtain⟨xs,q,_⟩:=h p _ e;rw[n] at q;cases q
  |dik ks=>obtain⟨xs,q,_⟩:=h p _ e;rw[n] at q;cases q
  |ins c fs=>obtain⟨C,dx,xs,_,q,_⟩:=h p _ e;rw[n] at q;cases q
  |exc c fs=>obtain⟨C,dd,_,q,_⟩:=h p _ e;rw[n] at q;cases q
  |tab x=>obtain⟨q,_⟩:=h p _ e;rw[n] at q;cases q
  |tabd x l k=>obtain⟨_,_,_,_,q,_⟩:=h p _ e;rw[n] at q;cases q
theorem OR.keep{a:aE}{o:O3}(x:OR K H a o)(t:TK H H')(e:H' a=H a):OR K H' a o:=by
 cases o with
 |lst ds=>obtain⟨xs,q,r⟩:=x;exact⟨xs,e.trans q,r.mono t⟩
 |dic ks=>obtain⟨xs,q,r⟩:=x;exact⟨xs,e.trans q,Paired.xX r fun _ _ z=>⟨z.1,z.2.mono t⟩⟩
 |dik ks=>obtain⟨xs,q,r⟩:=x;exact⟨xs,e.trans q,Paired.xX r fun _ _ z=>⟨z.1,z.2.mono t⟩⟩
 |ins c fs=>obtain⟨C,dx,xs,g,q,r⟩:=x;exact⟨C,dx,xs,g,e.trans q,Paired.xX r fun _ _ z=>⟨z.1,z.2.mono t⟩⟩
 |exc c fs=>obtain⟨C,dd,g,q,f⟩:=x;exact⟨C,dd,g,e.trans q,f.mono t⟩
 |tab x=>obtain⟨q,c,g⟩:=x;exact⟨e.trans q,c,g.mono t⟩
 |tabd x l k=>obtain⟨c',oc,vs,u,q,q',d,v,c,g⟩:=x;exact⟨c',oc,vs,u,e.trans q,t.frz _ _ _ q',d,v,c,g.mono t⟩
theorem HR.set(h:HR K H3 H){p:aE}{o:HO}{o3:O3}(t:TK H (upd H p o))(new:OR K (upd H p o) p o3):HR K (aP H3 p o3) (upd H p o):=fun b u e=>by
 by_cases hb:b=p
 ·subst hb;rw[aF] at e;cases e;exact new
 ·rw[bA hb] at e;exact (h b u e).keep t (aC hb)
theorem HR.wA(h:HR K H3 H){p:aE}{xs:List V}{ds:List D}(t:TK H (upd H p (.lst xs)))(r:bI K (upd H p (.lst xs)) ds xs):HR K (aP H3 p (.lst ds)) (upd H p (.lst xs)):=h.set (o3:=.lst ds) t ⟨xs,aO,r⟩
theorem HR.tup(h:HR K H3 H){p:aE}{xs:List V}(n:H p=none):HR K H3 (upd H p (.tup xs)):=fun b u e=>by
 have hb:b≠p:=ne3 e (h.fresh n)
 exact (h b u e).keep (TK.fresh n) (aC hb)
end
abbrev cz:=List (Option D)
abbrev aX:=D->aG->Prop
abbrev bL:=cz->aG->aX->Prop
abbrev xP:=cz->aG->(Bool->aG->Prop)->Prop
abbrev sG:=cz->aG->(List D->aG->Prop)->Prop
structure dF where
 nx:cz->aG->Prop
 rt:aX
 bk:cz->aG->Prop:=fun _ _=>False
 ct:cz->aG->Prop:=fun _ _=>False
abbrev cI:=dF->cz->aG->Prop
structure SR(K:ae)(H:Hp)(σ3:cz)(σ:St):Prop where
 len:σ3.length=σ.length
 get:∀(i:Nat) (d:D),σ3[i]?=some (some d)->∃v,σ[i]?=some (some v)/\Rep K H d v
theorem SR.mono{K:ae}{H H':Hp}{σ3:cz}{σ:St}(s:SR K H σ3 σ)(t:TK H H'):SR K H' σ3 σ :=
 ⟨s.len,fun i d e=>let ⟨v,h1,h2⟩:=s.get i d e;⟨v,h1,h2.mono t⟩⟩
theorem SR.set{K:ae}{H:Hp}{σ3:cz}{σ:St}(s:SR K H σ3 σ)(i:Nat){d:D}{v:V}(r:Rep K H d v):SR K H (σ3.set i (some d)) (σ.set i (some v)):=by
 refine⟨by simp[s.len],fun j e h=>?_⟩
 by_cases hj:j=i
 ·subst hj
  by_cases hl:j<σ3.length
  ·rw[iP hl] at h
   cases h
   exact⟨v,by rw[iP (by rw[←s.len];exact hl)],r⟩
  ·rw[fx (by simpa using hl)] at h;cases h
 ·rw[gN (fm hj)] at h
  obtain⟨u,h1,h2⟩:=s.get j e h
  exact⟨u,by rw[gN (fm hj)];exact h1,h2⟩
def KE(K:ae)(H:Hp)(Q3:aX)(Q:VK):Prop:=∀d v H3' H',TK H H'->HR K H3' H'->Rep K H' d v->Q3 d H3'->Q v H'
def KT(K:ae)(H:Hp)(Q3:Bool->aG->Prop)(Q:Bool->Hp->Prop):Prop:=∀b H3' H',TK H H'->HR K H3' H'->Q3 b H3'->Q b H'
def KA(K:ae)(H:Hp)(Q3:List D->aG->Prop)(Q:List V->Hp->Prop):Prop:=∀ds vs H3' H',TK H H'->HR K H3' H'->bI K H' ds vs->Q3 ds H3'->Q vs H'
def KN(K:ae)(H:Hp)(Q3:cz->aG->Prop)(Q:St->Hp->Prop):Prop:=∀σ3 σ H3' H',TK H H'->SR K H' σ3 σ->HR K H3' H'->Q3 σ3 H3'->Q σ H'
structure KS(K:ae)(H:Hp)(D3:dF)(D:Ends):Prop where
 nx:KN K H D3.nx D.nx
 rt:KE K H D3.rt D.rt
 bk:KN K H D3.bk D.bk
 ct:KN K H D3.ct D.ct
theorem KE.mono{K:ae}{H H1:Hp}{Q3:aX}{Q:VK}(k:KE K H Q3 Q)(t:TK H H1):KE K H1 Q3 Q:=fun d v H3 H' t'=>k d v H3 H' (t.trans t')
theorem KN.mono{K:ae}{H H1:Hp}{Q3:cz->aG->Prop}{Q:St->Hp->Prop}(k:KN K H Q3 Q)(t:TK H H1):KN K H1 Q3 Q:=fun d v H3 H' t'=>k d v H3 H' (t.trans t')
theorem KS.mono{K:ae}{H H1:Hp}{D3:dF}{D:Ends}(k:KS K H D3 D)(t:TK H H1):KS K H1 D3 D:=⟨k.nx.mono t,k.rt.mono t,k.bk.mono t,k.ct.mono t⟩
inductive fP(K:ae)(t:bL)(σ:St)(H:Hp)(Q:VK):Prop
 |mk (σ3:cz) (H3:aG) (Q3:aX) (_:SR K H σ3 σ) (_:HR K H3 H) (_:t σ3 H3 Q3) (_:KE K H Q3 Q)
theorem fP.ex{K:ae}{t:bL}{σ:St}{H:Hp}{Q:VK}{G:Prop}(z:fP K t σ H Q)(k:∀(σ3:cz) (H3:aG) (Q3:aX),SR K H σ3 σ->HR K H3 H->t σ3 H3 Q3->KE K H Q3 Q->G):G:=by
 cases z with
 |mk σ3 H3 Q3 h0 h1 h2 h3=>exact k σ3 H3 Q3 h0 h1 h2 h3
inductive liftT(K:ae)(t:xP)(σ:St)(H:Hp)(Q:Bool->Hp->Prop):Prop
 |mk (σ3:cz) (H3:aG) (Q3:Bool->aG->Prop) (_:SR K H σ3 σ) (_:HR K H3 H) (_:t σ3 H3 Q3) (_:KT K H Q3 Q)
theorem liftT.ex{K:ae}{t:xP}{σ:St}{H:Hp}{Q:Bool->Hp->Prop}{G:Prop}(z:liftT K t σ H Q)(k:∀(σ3:cz) (H3:aG) (Q3:Bool->aG->Prop),SR K H σ3 σ->HR K H3 H->t σ3 H3 Q3->KT K H Q3 Q->G):G:=by
 cases z with
 |mk σ3 H3 Q3 h0 h1 h2 h3=>exact k σ3 H3 Q3 h0 h1 h2 h3
inductive Jx(K:ae)(t:sG)(σ:St)(H:Hp)(Q:List V->Hp->Prop):Prop
 |mk (σ3:cz) (H3:aG) (Q3:List D->aG->Prop) (_:SR K H σ3 σ) (_:HR K H3 H) (_:t σ3 H3 Q3) (_:KA K H Q3 Q)
theorem Jx.ex{K:ae}{t:sG}{σ:St}{H:Hp}{Q:List V->Hp->Prop}{G:Prop}(z:Jx K t σ H Q)(k:∀(σ3:cz) (H3:aG) (Q3:List D->aG->Prop),SR K H σ3 σ->HR K H3 H->t σ3 H3 Q3->KA K H Q3 Q->G):G:=by
 cases z with
 |mk σ3 H3 Q3 h0 h1 h2 h3=>exact k σ3 H3 Q3 h0 h1 h2 h3
inductive JD(K:ae)(t:cI)(D:Ends)(σ:St)(H:Hp):Prop
 |mk (σ3:cz) (H3:aG) (D3:dF) (_:SR K H σ3 σ) (_:HR K H3 H) (_:t D3 σ3 H3) (_:KS K H D3 D)
theorem JD.ex{K:ae}{t:cI}{D:Ends}{σ:St}{H:Hp}{G:Prop}(z:JD K t D σ H)(k:∀(σ3:cz) (H3:aG) (D3:dF),SR K H σ3 σ->HR K H3 H->t D3 σ3 H3->KS K H D3 D->G):G:=by
 cases z with
 |mk σ3 H3 D3 h0 h1 h2 h3=>exact k σ3 H3 D3 h0 h1 h2 h3
def b8(X:Cx)(e:cS)(t:bL):Prop:=PE X e (fP X.K t)
def KZ(X:Cx)(e:cS)(t:xP):Prop:=PT X e (liftT X.K t)
def PW3(X:Cx)(e:cS)(t:xP):Prop:=PW X e (liftT X.K t)
def JS(X:Cx)(es:List cS)(t:sG):Prop:=PA X es (Jx X.K t)
def BW(X:Cx)(st:gg)(t:cI):Prop:=PS X st (JD X.K t)
def nF(X:Cx)(st:List gg)(t:cI):Prop:=zR X st (JD X.K t)
section
variable{X:Cx}{e:cS}{es:List cS}{st:gg}{sts:List gg}
theorem bT{t t':TE}(h:PE X e t)(i:∀σ H Q,t' σ H Q->t σ H Q):PE X e t':=fun pins s σ H Q I hw=>h pins s σ H Q I (i σ H Q hw)
theorem wH{t t':TT}(h:PT X e t)(i:∀σ H Q,t' σ H Q->t σ H Q):PT X e t':=fun pins s σ H Q I hw=>h pins s σ H Q I (i σ H Q hw)
theorem WQ{t t':TT}(h:PW X e t)(i:∀σ H Q,t' σ H Q->t σ H Q):PW X e t':=fun wh pins s σ H Q I hw=>h wh pins s σ H Q I (i σ H Q hw)
theorem PX{t t':TA}(h:PA X es t)(i:∀σ H Q,t' σ H Q->t σ H Q):PA X es t':=fun pos pins s σ H Q I hw=>h pos pins s σ H Q I (i σ H Q hw)
theorem je{t t':TS}(h:PS X st t)(i:∀D σ H,t' D σ H->t D σ H):PS X st t':=fun pins s σ H D I hw=>h pins s σ H D I (i D σ H hw)
theorem Ju{t t':TS}(h:zR X sts t)(i:∀D σ H,t' D σ H->t D σ H):zR X sts t':=fun pins s σ H D I hw=>h pins s σ H D I (i D σ H hw)
end
end L3
namespace L3
open PySem PySem.Spec PyProof.Rows L2
abbrev R3:=D->D->aG->aX->Prop
inductive cg(K:ae)(r:R3)(x y:V)(H:Hp)(Q:VK):Prop
 |mk (dx dy:D) (H3:aG) (Q3:aX) (_:HR K H3 H) (_:Rep K H dx x) (_:Rep K H dy y) (_:r dx dy H3 Q3) (_:KE K H Q3 Q)
inductive Vv(K:ae)(r:D->aG->aX->Prop)(x:V)(H:Hp)(Q:VK):Prop
 |mk (dx:D) (H3:aG) (Q3:aX) (_:HR K H3 H) (_:Rep K H dx x) (_:r dx H3 Q3) (_:KE K H Q3 Q)
inductive g8(K:ae)(r:List D->aG->aX->Prop)(xs:List V)(H:Hp)(Q:VK):Prop
 |mk (ds:List D) (H3:aG) (Q3:aX) (_:HR K H3 H) (_:bI K H ds xs) (_:r ds H3 Q3) (_:KE K H Q3 Q)
inductive liftM(K:ae)(r:D->List D->aG->aX->Prop)(x:V)(xs:List V)(H:Hp)(Q:VK):Prop
 |mk (d:D) (ds:List D) (H3:aG) (Q3:aX) (_:HR K H3 H) (_:Rep K H d x) (_:bI K H ds xs) (_:r d ds H3 Q3) (_:KE K H Q3 Q)
section
variable{X:Cx}{a b c e:cS}{es:List cS}{pos:Pos}{ta tb tc te:bL}{tr:sG}{tA tB:xP}
def v3(i:Nat):bL:=fun σ H Q=>match σ[i]? with
 |some (some d)=>Q d H
 |_=>False
def c3(d:D):bL:=fun _ H Q=>Q d H
theorem ao(i:Nat){x:Str}(hN:X.N[i]?=some x:=by rfl)(hv:Vis X.env.scope x:=by first | exact nN rfl | exact nV (nN rfl) | exact nV (nV rfl))(hd:(x==("__debug__" : Str))=false:=by decide)
  (hcd:(x==("__classdict__" : Str))=false:=by decide):b8 X (.Name x pos) (v3 i) :=
 bT (pv i hN hv hd hcd) fun σ H Q zz=>zz.ex fun σ3 H3 Q3 sr hr t k=>by
  unfold v3 at t
  split at t
  ·rename_i d h
   obtain⟨v,h1,r⟩:=sr.get i d h
   exact⟨v,h1,k d v H3 H TK.refl hr r t⟩
  ·exact t.elim
theorem au{i:Int}{j:Nat}:b8 X (.Constant (.int i) j pos) (c3 (.int i)):=bT Wo fun _ _ _ ⟨_,_,_,_,hr,t,k⟩=>k _ _ _ _ TK.refl hr (.int i) t
theorem CP{i:Bool}{j:Nat}:b8 X (.Constant (.bool i) j pos) (c3 (.bl i)):=bT aaZ fun _ _ _ ⟨_,_,_,_,hr,t,k⟩=>k _ _ _ _ TK.refl hr (.bl i) t
theorem Gu{j:Nat}:b8 X (.Constant .none j pos) (c3 .non):=bT Ye fun _ _ _ ⟨_,_,_,_,hr,t,k⟩=>k _ _ _ _ TK.refl hr .non t
theorem bj{i:Str}{j:Nat}:b8 X (.Constant (.str i) j pos) (c3 (.str i)):=bT zZ fun _ _ _ ⟨_,_,_,_,hr,t,k⟩=>k _ _ _ _ TK.refl hr (.str i) t
theorem aba{x:Str}{T:String}(hg:Gl X x)(hm:X.mg x=none)(hv:ib x=some (.type T))(hn:x ≠ "__name__":=by decide)(hd:(x==("__debug__" : Str))=false:=by decide):b8 X (.Name x pos) (c3 (.ty T)) :=
 bT (Uj (v:=.ty T) hg hm hv rfl hn hd) fun _ _ _ ⟨_,_,_,_,hr,t,k⟩=>k _ _ _ _ TK.refl hr (.ty T) t
theorem Ph{x:Str}{i:Int}{tk:Tok}(hg:Gl X x)(hm:X.mg x=some (.int i tk))(hd:(x==("__debug__" : Str))=false:=by decide):b8 X (.Name x pos) (c3 (.int i)) :=
 bT (Uh (v:=.int i) hg hm ⟨_,rfl⟩ hd) fun _ _ _ ⟨_,_,_,_,hr,t,k⟩=>k _ _ _ _ TK.refl hr (.int i) t
def o3(r:R3)(ta tb:bL):bL:=fun σ H Q=>ta σ H fun x H1=>tb σ H1 fun y H2=>r x y H2 Q
theorem rW{K:ae}{r:R3}{σ:St}{H:Hp}{Q:VK}(h:fP K (o3 r ta tb) σ H Q):tOp (cg K r) (fP K ta) (fP K tb) σ H Q:=by
 obtain⟨σ3,H3,Q3,sr,hr,t,k⟩:=h
 exact⟨σ3,H3,_,sr,hr,t,fun x v H3a Ha tka hra rx qa=>⟨σ3,H3a,_,sr.mono tka,hra,qa,fun y u H3b Hb tkb hrb ry qb=>
  ⟨x,y,H3b,Q3,hrb,rx.mono tkb,ry,qb,k.mono (tka.trans tkb)⟩⟩⟩
theorem aH{op:C6}{r:R3}(ho:gW X (kX op) (cg X.K r))(ha:b8 X a ta)(hb:b8 X b tb):b8 X (.BinOp a op b pos) (o3 r ta tb) :=
 bT (abL ho ha hb) fun _ _ _ h=>rW h
theorem Ax{op:Cc}{r:R3}(ho:gW X (eW op) (cg X.K r))(ha:b8 X a ta)(hb:b8 X b tb)(hm:kD op b=false:=by first | exact Su _ | with_unfolding_all rfl):b8 X (.Compare a [op] [b] pos) (o3 r ta tb) :=
 bT (Tn ho ha hb hm) fun _ _ _ h=>rW h
theorem bw{r:R3}(hr:ZP X (cg X.K r))(ha:b8 X a ta)(hb:b8 X b tb)(hs:JH b:=by exact fun _ _=>rfl):b8 X (.Subscript a b pos) (o3 r ta tb) :=
 bT (abt hr ha hb hs) fun _ _ _ h=>rW h
def u3(r:D->aG->aX->Prop)(ta:bL):bL:=fun σ H Q=>ta σ H fun x H1=>r x H1 Q
theorem pQ{op:UnaryOp}{r:D->aG->aX->Prop}(ho:UnR X (IL op) (Vv X.K r))(ha:b8 X a ta):b8 X (.UnaryOp op a pos) (u3 r ta) :=
 bT (aav ho ha) fun _ _ _ zz=>zz.ex fun σ3 H3 Q3 sr hr t k=>⟨σ3,H3,_,sr,hr,t,fun x v H3a Ha tka hra rx qa=>⟨x,H3a,Q3,hra,rx,qa,k.mono tka⟩⟩
def bt(d:D)(H:aG)(Q:Bool->aG->Prop):Prop:=match d with
 |.bl k=>Q k H
 |_=>False
theorem vf{K:ae}{H:Hp}{Q3:Bool->aG->Prop}{Q:Bool->Hp->Prop}(k:KT K H Q3 Q):KE K H (fun d H1=>bt d H1 Q3) (fun x H'=>∃c,x=.bl c/\Q c H'):=fun d v H3' H' tk hr rep q=>by
 cases rep with
 |bl b=>exact⟨b,rfl,k _ _ _ tk hr q⟩
 |_=>exact q.elim
def jx(t:bL):xP:=fun σ H Q=>t σ H fun d H1=>bt d H1 Q
theorem bG{op:Cc}{r:R3}(ho:gW X (eW op) (cg X.K r))(ha:b8 X a ta)(hb:b8 X b tb)(hm:kD op b=false:=by first | exact Su _ | with_unfolding_all rfl):KZ X (.Compare a [op] [b] pos) (jx (o3 r ta tb)) :=
 wH (Tg ho ha hb hm) fun _ _ _ zz=>zz.ex fun σ3 H3 Q3 sr hr t k=>rW ⟨σ3,H3,_,sr,hr,t,vf k⟩
theorem jE(h:b8 X e te)(he:∀whole,F6 e X.env whole=(do let v ←whole;FY e.pos;holding [v] (truthy v)):=by intro _;rfl):KZ X e (jx te) :=
 wH (Xl h he) fun _ _ _ zz=>zz.ex fun σ3 H3 Q3 sr hr t k=>⟨σ3,H3,_,sr,hr,t,vf k⟩
def an3(t u:xP):xP:=fun σ H Q=>t σ H fun c H1=>if c=true then u σ H1 Q else Q false H1
def no3(t:xP):xP:=fun σ H Q=>t σ H fun c H1=>Q (!c) H1
variable{rest:List cS}
theorem KT.mono{K:ae}{H H1:Hp}{Q3:Bool->aG->Prop}{Q:Bool->Hp->Prop}(k:KT K H Q3 Q)(t:TK H H1):KT K H1 Q3 Q:=fun d H3 H' t'=>k d H3 H' (t.trans t')
theorem QD(ha:KZ X a tA):PW3 X (.BoolOp .And [a] pos) tA:=Ux ha
theorem JP(ha:KZ X a tA)(hb:PW3 X (.BoolOp .And (b::rest) pos) tB):PW3 X (.BoolOp .And (a::b::rest) pos) (an3 tA tB) :=
 WQ (YC ha hb) fun _ _ _ zz=>zz.ex fun σ3 H3 Q3 sr hr t k=>⟨σ3,H3,_,sr,hr,t,fun c H3a Ha tka hra qa=>by
  cases c with
  |true=>exact⟨σ3,H3a,Q3,sr.mono tka,hra,qa,k.mono tka⟩
  |false=>exact k _ _ _ tka hra qa⟩
theorem aaz(h:PW3 X e tA):KZ X e tA:=h.pt
theorem I8(ha:KZ X a tA):KZ X (.UnaryOp .Not a pos) (no3 tA) :=
 wH (Zk ha) fun _ _ _ zz=>zz.ex fun σ3 H3 Q3 sr hr t k=>⟨σ3,H3,_,sr,hr,t,fun c H3a Ha tka hra qa=>k _ _ _ tka hra qa⟩
def av3(ta tb:bL):bL:=fun σ H Q=>ta σ H fun x H1=>match x with
 |.bl c=>if c=true then tb σ H1 Q else Q (.bl false) H1
 |_=>False
theorem Ri{op:BoolOp}(h:b8 X a ta):b8 X (.BoolOp op [a] pos) ta:=Xr h
theorem Qw(ha:b8 X a ta)(hb:b8 X (.BoolOp .And (b::rest) pos) tb):b8 X (.BoolOp .And (a::b::rest) pos) (av3 ta tb) :=
 bT (YQ ha hb) fun _ _ _ zz=>zz.ex fun σ3 H3 Q3 sr hr t k=>⟨σ3,H3,_,sr,hr,t,fun x v H3a Ha tka hra rx qa=>by
  cases rx with
  |bl c=>
   refine⟨c,rfl,?_⟩
   cases c with
   |true=>exact⟨σ3,H3a,Q3,sr.mono tka,hra,qa,k.mono tka⟩
   |false=>exact k _ _ _ _ tka hra (.bl false) qa
  |_=>exact qa.elim⟩
def aK:sG:=fun _ H Q=>Q [] H
def aq(ta:bL)(tr:sG):sG:=fun σ H Q=>ta σ H fun x H1=>tr σ H1 fun xs H2=>Q (x::xs) H2
theorem aA:JS X [] aK:=PX vK fun _ _ _ ⟨_,_,_,_,hr,t,k⟩=>k _ _ _ _ TK.refl hr .nil t
theorem aa(ha:b8 X e te)(hr:JS X es tr)(hs:aI (e::es) X.env=(false,eR e X.env)::aI es X.env:=by rfl):JS X (e::es) (aq te tr) :=
 PX (jO ha hr hs) fun _ _ _ zz=>zz.ex fun σ3 H3 Q3 sr hr t k=>⟨σ3,H3,_,sr,hr,t,fun x v H3a Ha tka hra rx qa=>⟨σ3,H3a,_,sr.mono tka,hra,qa,fun ds vs H3b Hb tkb hrb rs qb=>
  k _ _ _ _ (tka.trans tkb) hrb (.cons (rx.mono tkb) rs) qb⟩⟩
def fX(t:sG):bL:=fun σ H Q=>t σ H fun ds H1=>ds.length<=1000/\Q (.tup ds) H1
def JT(t:sG):bL:=fun σ H Q=>t σ H fun ds H1=>ds.length<=1000/\∀p,H1 p=none->Q (.ref p) (aP H1 p (.lst ds))
theorem qD{n:Nat}(h:n<=1000):n<=bS:=ij (tR h)
theorem aV{x1:Nat}(h:JS X es tr):b8 X (.Tuple es x1 pos) (fX tr) :=
 bT (Zr h) fun _ _ _ zz=>zz.ex fun σ3 H3 Q3 sr hr t k=>⟨σ3,H3,_,sr,hr,t,fun ds vs H3a Ha tka hra rs qa=>
  ⟨by rw[←rs.length];exact qD qa.1,fun p n=>k _ _ _ _ (tka.trans (TK.fresh n)) (hra.tup n) (.tup aO (rs.mono (TK.fresh n))) qa.2⟩⟩
theorem gU(h:JS X es tr):b8 X (.List es pos) (JT tr) :=
 bT (YW h) fun _ _ _ zz=>zz.ex fun σ3 H3 Q3 sr hr t k=>⟨σ3,H3,_,sr,hr,t,fun ds vs H3a Ha tka hra rs qa=>
  ⟨by rw[←rs.length];exact qD qa.1,fun p n=>k _ _ _ _ (tka.trans (TK.fresh n)) (hra.wA (TK.fresh n) (rs.mono (TK.fresh n))) (.ref p) (qa.2 p (hra.fresh n))⟩⟩
end
section
variable{X:Cx}
def bc:R3:=fun x y H Q=>match x,y with
 |.int i,.int j=>Q (.int (i+j)) H
 |.str i,.str j=>i.length+j.length<=bS/\Q (.str (i++j)) H
 | .ref a,.ref b => (match H a,H b with
  |some (.lst xs),some (.lst ys)=>xs.length+ys.length<=bS/\∀p,H p=none->Q (.ref p) (aP H p (.lst (xs++ys)))
  |_,_=>False)
 |_,_=>False
theorem aL:gW X (kX .Add) (cg X.K bc):=by
 intro pins s σ H x y v u Q I rx ry h
 obtain⟨dx,dy,H3,Q3,hr,rdx,rdy,t,k⟩:=h
 cases rdx with
 |int i=>
  cases rdy with
  |int j=>exact Y4 pins s σ H _ _ v u Q I rx ry ⟨i,j,rfl,rfl,k _ _ _ _ TK.refl hr (.int _) t⟩
  |_=>exact t.elim
 |str i=>
  cases rdy with
  |str j=>exact HY pins s σ H _ _ v u Q I rx ry ⟨i,j,rfl,rfl,t.1,k _ _ _ _ TK.refl hr (.str _) t.2⟩
  |_=>exact t.elim
 |ref a=>
  cases rdy with
  |ref b=>
   (delta bc at t;dsimp only at t)
   split at t
   ·rename_i xs ys ha hb
    obtain⟨vs,ga,ra⟩:=hr a _ ha
    obtain⟨us,gb,rb⟩:=hr b _ hb
    exact Zi pins s σ H _ _ v u Q I rx ry ⟨a,b,vs,us,rfl,rfl,ga,gb,by rw[←ra.length,←rb.length];exact t.1,fun p n=>
     k _ _ _ _ (TK.fresh n) (hr.wA (TK.fresh n) ((ra.append rb).mono (TK.fresh n))) (.ref p) (t.2 p (hr.fresh n))⟩
   ·exact t.elim
  |_=>exact t.elim
 |_=>exact t.elim
def Wr(C:Int->Int->Prop)(g:Int->Int->D):R3:=fun x y H Q=>match x,y with
 |.int i,.int j=>C i j/\Q (g i j) H
 |_,_=>False
def Eg(g:Int->Int->D):R3:=fun x y H Q=>match x,y with
 |.int i,.int j=>Q (g i j) H
 |_,_=>False
theorem uX{f:af->af->Sem af}{g:Int->Int->V}{g3:Int->Int->D}(h:gW X f (Sw g))(e:∀H i j,Rep X.K H (g3 i j) (g i j)):gW X f (cg X.K (Eg g3)):=by
 intro pins s σ H x y v u Q I rx ry q
 obtain⟨dx,dy,H3,Q3,hr,rdx,rdy,t,k⟩:=q
 cases rdx with
 |int i=>
  cases rdy with
  |int j=>exact h pins s σ H _ _ v u Q I rx ry ⟨i,j,rfl,rfl,k _ _ _ _ TK.refl hr (e _ i j) t⟩
  |_=>exact t.elim
 |_=>exact t.elim
theorem zQ{f:af->af->Sem af}{C:Int->Int->Prop}{g:Int->Int->V}{g3:Int->Int->D}(h:gW X f (rI C g))(e:∀H i j,Rep X.K H (g3 i j) (g i j)):gW X f (cg X.K (Wr C g3)):=by
 intro pins s σ H x y v u Q I rx ry q
 obtain⟨dx,dy,H3,Q3,hr,rdx,rdy,t,k⟩:=q
 cases rdx with
 |int i=>
  cases rdy with
  |int j=>exact h pins s σ H _ _ v u Q I rx ry ⟨i,j,rfl,rfl,t.1,k _ _ _ _ TK.refl hr (e _ i j) t.2⟩
  |_=>exact t.elim
 |_=>exact t.elim
theorem dC:gW X (kX .Sub) (cg X.K (Eg fun i j=>.int (i-j))):=uX Zz fun _ _ _=>.int _
theorem bK:gW X (kX .Mod) (cg X.K (Wr (fun _ j=>0<j) fun i j=>.int (i%j))):=zQ W7 fun _ _ _=>.int _
theorem uY:gW X (kX .Pow) (cg X.K (Wr U0 fun i j=>.int (i ^ j.toNat))):=zQ X8 fun _ _ _=>.int _
theorem tU:gW X (eW .LtE) (cg X.K (Eg fun i j=>.bl (decide (i<=j)))):=uX aaU fun _ _ _=>.bl _
theorem R1:gW X (eW .Gt) (cg X.K (Eg fun i j=>.bl (decide (j<i)))):=uX aa7 fun _ _ _=>.bl _
def intsOf:List D->Option (List Int)
 |[]=>some []
 |.int i::ds=>(intsOf ds).map (i::·)
 |_::_=>none
theorem dG:∀ {ds:List D} {ns:List Int},intsOf ds=some ns->ds=ns.map D.int
 |[],_,h=>by simp only[intsOf,w4] at h;subst h;rfl
 |.int i::ds,ns,h=>by
  simp only[intsOf,b6] at h
  obtain⟨ms,h1,h2⟩:=h
  subst h2
  rw[dG h1];rfl
 |.non::_,_,h=>by simp[intsOf] at h
 |.bl _::_,_,h=>by simp[intsOf] at h
 |.str _::_,_,h=>by simp[intsOf] at h
 |.tup _::_,_,h=>by simp[intsOf] at h
 |.fl _::_,_,h=>by simp[intsOf] at h
 |.ktup _::_,_,h=>by simp[intsOf] at h
 |.ref _::_,_,h=>by simp[intsOf] at h
 |.ty _::_,_,h=>by simp[intsOf] at h
def M6:R3:=fun x y H Q=>match x,y with
 |.int i,.int j=>Q (.bl (decide (i<j))) H
 | .tup xs,.tup ys => (match intsOf xs,intsOf ys with
  |some ns,some ms=>Q (.bl (HT.lexLt ns ms)) H
  |_,_=>False)
 |_,_=>False
theorem Hm(hu:X.A.units<md):gW X (eW .Lt) (cg X.K M6):=by
 intro pins s σ H x y v u Q I rx ry h
 obtain⟨dx,dy,H3,Q3,hr,rdx,rdy,t,k⟩:=h
 cases rdx with
 |int i=>
  cases rdy with
  |int j=>exact aaR pins s σ H _ _ v u Q I rx ry ⟨i,j,rfl,rfl,k _ _ _ _ TK.refl hr (.bl _) t⟩
  |_=>exact t.elim
 |tup ha ra=>
  cases rdy with
  |tup hb rb=>
   (delta M6 at t;dsimp only at t)
   split at t
   ·rename_i ns ms e1 e2
    have z1:=dG e1
    have z2:=dG e2
    subst z1;subst z2
    have w1:=ra.nG
    have w2:=rb.nG
    subst w1;subst w2
    exact ZC hu pins s σ H _ _ v u Q I rx ry ⟨_,_,ns,ms,rfl,rfl,mO.of ha,mO.of hb,k _ _ _ _ TK.refl hr (.bl _) t⟩
   ·exact t.elim
  |_=>exact t.elim
 |_=>exact t.elim
def mL:D->aG->aX->Prop:=fun x H Q=>match x with
 |.int i=>Q (.int (-i)) H
 |_=>False
theorem gA:UnR X (IL .USub) (Vv X.K mL):=by
 intro pins s σ H x v Q I rx h
 obtain⟨dx,H3,Q3,hr,rdx,t,k⟩:=h
 cases rdx with
 |int i=>exact W3 pins s σ H _ v Q I rx ⟨i,rfl,k _ _ _ _ TK.refl hr (.int _) t⟩
 |_=>exact t.elim
def isN:D->Bool
 |.non=>true
 |_=>false
def Fw:R3:=fun x y H Q=>match y with
 |.non=>Q (.bl (!isN x)) H
 |_=>False
theorem Uv{K:ae}{H:Hp}{d:D}{v:V}(r:Rep K H d v):decide (v=.non)=isN d:=by
 cases r with
 |non=>rfl
 |_=>exact decide_eq_false (by intro z;cases z)
theorem R6:gW X (eW .IsNot) (cg X.K Fw):=by
 intro pins s σ H x y v u Q I rx ry h
 obtain⟨dx,dy,H3,Q3,hr,rdx,rdy,t,k⟩:=h
 cases rdy with
 |non=>exact Tv pins s σ H _ _ v u Q I rx ry ⟨rfl,by rw[Uv rdx];exact k _ _ _ _ TK.refl hr (.bl _) t⟩
 |_=>exact t.elim
theorem vD{K:ae}{H:Hp}{ds:List D}{vs:List V}{i:Int}{d:D}(r:bI K H ds vs)(h:j7 ds i=some d):∃v,j7 vs i=some v/\Rep K H d v:=by
 unfold j7 at h ⊢
 rw[r.length] at h
 cases e:K6 vs.length i with
 |none=>rw[e] at h;cases h
 |some j=>
  rw[e] at h
  exact r.get h
def bD:R3:=fun x y H Q=>match x,y with
 |.tup ds,.int i=>(match j7 ds i with | some d=>Q d H | none=>False)
 |.fl ds,.int i=>(match j7 ds i with | some d=>Q d H | none=>False)
 |.ktup ds,.int i=>(match j7 ds i with | some d=>Q d H | none=>False)
 |.str z,.int i=>z.length<=bS/\(match j7 z.cps.toList i with | some c=>Q (.str ⟨#[c]⟩) H | none=>False)
 | .ref a,.int i => (match H a with
  |some (.lst ds)=>(match j7 ds i with | some d=>Q d H | none=>False)
  |_=>False)
 |_,_=>False
theorem fC:ZP X (cg X.K bD):=by
 intro value slice pins s σ H x y v u Q I rx ry h hs
 obtain⟨dx,dy,H3,Q3,hr,rdx,rdy,t,k⟩:=h
 cases rdx with
 |tup ha ra=>
  cases rdy with
  |int i=>
   (delta bD at t;dsimp only at t)
   split at t
   ·rename_i d e
    obtain⟨w,ew,rw'⟩:=vD ra e
    exact Oq value slice pins s σ H _ _ v u Q I rx ry ⟨_,_,i,w,rfl,rfl,mO.of ha,ew,k _ _ _ _ TK.refl hr rw' t⟩ hs
   ·exact t.elim
  |_=>exact t.elim
 |ktup ha ra=>
  cases rdy with
  |int i=>
   (delta bD at t;dsimp only at t)
   split at t
   ·rename_i d e
    obtain⟨w,ew,rw'⟩:=vD ra e
    exact Oq value slice pins s σ H _ _ v u Q I rx ry ⟨_,_,i,w,rfl,rfl,ha.sq,ew,k _ _ _ _ TK.refl hr rw' t⟩ hs
   ·exact t.elim
  |_=>exact t.elim
 |fl ha ra=>
  cases rdy with
  |int i=>
   (delta bD at t;dsimp only at t)
   split at t
   ·rename_i d e
    obtain⟨w,ew,rw'⟩:=vD ra e
    exact Jj value slice pins s σ H _ _ v u Q I rx ry ⟨_,_,i,w,rfl,rfl,ha.sq,ew,k _ _ _ _ TK.refl hr rw' t⟩ hs
   ·exact t.elim
  |_=>exact t.elim
 |str z=>
  cases rdy with
  |int i=>
   (delta bD at t;dsimp only at t)
   obtain⟨hz,t⟩:=t
   split at t
   ·rename_i c e
    exact Zn value slice pins s σ H _ _ v u Q I rx ry ⟨z,i,c,rfl,rfl,hz,e,k _ _ _ _ TK.refl hr (.str _) t⟩ hs
   ·exact t.elim
  |_=>exact t.elim
 |ref a=>
  cases rdy with
  |int i=>
   (delta bD at t;dsimp only at t)
   split at t
   ·rename_i ds ha
    obtain⟨vs,ga,ra⟩:=hr a _ ha
    split at t
    ·rename_i d e
     obtain⟨w,ew,rw'⟩:=vD ra e
     exact Jj value slice pins s σ H _ _ v u Q I rx ry ⟨_,_,i,w,rfl,rfl,gB.of ga,ew,k _ _ _ _ TK.refl hr rw' t⟩ hs
    ·exact t.elim
   ·exact t.elim
  |_=>exact t.elim
 |_=>exact t.elim
def mQ{α:Type}(xs:List α)(lo hi:Option Int):List α:=(xs.drop (HT.tL xs.length 0 lo)).take (HT.tL xs.length xs.length hi-HT.tL xs.length 0 lo)
theorem QZ{K:ae}{H:Hp}{ds:List D}{vs:List V}(r:bI K H ds vs)(lo hi:Option Int):bI K H (mQ ds lo hi) (JW vs lo hi):=by
 unfold mQ JW
 rw[r.length]
 exact (r.drop _).take _
abbrev VB:=cz->aG->(Option Int->aG->Prop)->Prop
inductive Qm(K:ae)(t:VB)(σ:St)(H:Hp)(Q:Option Int->Hp->Prop):Prop
 |mk (σ3:cz) (H3:aG) (Q3:Option Int->aG->Prop) (_:SR K H σ3 σ) (_:HR K H3 H) (_:t σ3 H3 Q3) (_:∀o H3' H',TK H H'->HR K H3' H'->Q3 o H3'->Q o H')
theorem Qm.ex{K:ae}{t:VB}{σ:St}{H:Hp}{Q:Option Int->Hp->Prop}{G:Prop}(z:Qm K t σ H Q)(k:∀(σ3:cz) (H3:aG) (Q3:Option Int->aG->Prop),SR K H σ3 σ->HR K H3 H->t σ3 H3 Q3->(∀o H3' H',TK H H'->HR K H3' H'->Q3 o H3'->Q o H')->G):G:=by
 cases z with
 |mk σ3 H3 Q3 h0 h1 h2 h3=>exact k σ3 H3 Q3 h0 h1 h2 h3
def PO3(X:Cx)(e:Option cS)(t:VB):Prop:=PO X e (Qm X.K t)
theorem Oi{e:Option cS}{t t':TO}(h:PO X e t)(i:∀σ H Q,t' σ H Q->t σ H Q):PO X e t':=fun pins s σ H Q I hw=>h pins s σ H Q I (i σ H Q hw)
def Gj:VB:=fun _ H Q=>Q none H
def NQ(t:bL):VB:=fun σ H Q=>t σ H fun x H1=>match x with
 |.int i=>Q (some i) H1
 |_=>False
theorem dX:PO3 X none Gj:=Oi Ui fun _ _ _ ⟨_,_,_,_,hr,t,k⟩=>k _ _ _ TK.refl hr t
theorem dU{e:cS}{te:bL}(h:b8 X e te):PO3 X (some e) (NQ te):=Oi (U7 h) fun _ _ _ zz=>zz.ex fun σ3 H3 Q3 sr hr t k=>
 ⟨σ3,H3,_,sr,hr,t,fun x v H3a Ha tka hra rx qa=>by
  cases rx with
  |int i=>exact⟨i,rfl,k _ _ _ tka hra qa⟩
  |_=>exact qa.elim⟩
abbrev ZJ:=D->Option Int->Option Int->aG->aX->Prop
inductive Gx(K:ae)(r:ZJ)(x:V)(lo hi:Option Int)(H:Hp)(Q:VK):Prop
 |mk (d:D) (H3:aG) (Q3:aX) (_:HR K H3 H) (_:Rep K H d x) (_:r d lo hi H3 Q3) (_:KE K H Q3 Q)
def NK(r:ZJ)(te:bL)(tl th:VB):bL:=fun σ H Q=>te σ H fun x H1=>tl σ H1 fun l H2=>th σ H2 fun u H3=>r x l u H3 Q
theorem dZ{e:cS}{te:bL}{lo hi:Option cS}{tl th:VB}{pos p2:Pos}{r:ZJ}(hr:ZM X (Gx X.K r))(he:b8 X e te)(hl:PO3 X lo tl)(hu:PO3 X hi th):b8 X (.Subscript e (.Slice lo hi none p2) pos) (NK r te tl th) :=
 bT (Qt hr he hl hu) fun _ _ _ zz=>zz.ex fun σ3 H3 Q3 sr hr t k=>⟨σ3,H3,_,sr,hr,t,fun x v H3a Ha tka hra rx qa=>⟨σ3,H3a,_,sr.mono tka,hra,qa,fun l H3b Hb tkb hrb qb=>
  ⟨σ3,H3b,_,(sr.mono tka).mono tkb,hrb,qb,fun u H3c Hc tkc hrc qc=>⟨x,H3c,Q3,hrc,(rx.mono tkb).mono tkc,qc,k.mono ((tka.trans tkb).trans tkc)⟩⟩⟩⟩
def Lq:ZJ:=fun x lo hi H Q=>match x with
 |.fl ds=>∀p,H p=none->Q (.ref p) (aP H p (.lst (mQ ds lo hi)))
 | .ref a => (match H a with
  |some (.lst ds)=>∀p,H p=none->Q (.ref p) (aP H p (.lst (mQ ds lo hi)))
  |_=>False)
 |_=>False
theorem Zx:ZM X (Gx X.K Lq):=by
 intro pins s σ H x v vl vu lo hi sl Q I rx hs pl pu h
 obtain⟨d,H3,Q3,hr,rd,t,k⟩:=h
 have go:∀(a:aE) (xs:List V) (ds:List D),x=.ref a->gB X.K H a xs->bI X.K H ds xs->(∀p,H3 p=none->Q3 (.ref p) (aP H3 p (.lst (mQ ds lo hi)))) ->
   ∃T id,uk (.type T) "__getitem__" = pure (some (.builtin id))/\s.TypeIs v T/\bq (cf X.prog X.w) X.A (BE v (.ref sl)) (EP X pins σ Q) X.xe s:=fun a xs ds ex hq ra q=>
  Vr pins s σ H x v vl vu lo hi sl Q I rx hs pl pu ⟨a,xs,ex,hq,fun p n=>
   k _ _ _ _ (TK.fresh n) (hr.wA (TK.fresh n) ((QZ ra lo hi).mono (TK.fresh n))) (.ref p) (q p (hr.fresh n))⟩
 cases rd with
 |fl ha ra=>exact go _ _ _ rfl ha.sq ra t
 |ref a=>
  (delta Lq at t;dsimp only at t)
  split at t
  ·rename_i ds ha
   obtain⟨vs,ga,ra⟩:=hr a _ ha
   exact go _ _ _ rfl (gB.of ga) ra t
  ·exact t.elim
 |_=>exact t.elim
def cR(r:List D->aG->aX->Prop)(t:sG):bL:=fun σ H Q=>t σ H fun ds H1=>r ds H1 Q
theorem JB{K:ae}{r:List D->aG->aX->Prop}{t:sG}{σ:St}{H:Hp}{Q:VK}(h:fP K (cR r t) σ H Q):tCB (g8 K r) (Jx K t) σ H Q:=by
 obtain⟨σ3,H3,Q3,sr,hr,t,k⟩:=h
 exact⟨σ3,H3,_,sr,hr,t,fun ds vs H3a Ha tka hra rs qa=>⟨ds,H3a,Q3,hra,rs,qa,k.mono tka⟩⟩
theorem bN{x:Str}{p pos:Pos}{e:cS}{es:List cS}{t:sG}{id:String}{r:List D->aG->aX->Prop}(hc:eV X (.builtin id) (g8 X.K r))(hg:Gl X x)(hm:X.mg x=none)(hv:ib x=some (.builtin id))(ha:JS X (e::es) t)
  (hn:x ≠ "__name__":=by decide) (hdb:(x==("__debug__" : Str))=false:=by decide)
  (he:aI (e::es) X.env=(false,eR e X.env)::aI es X.env:=by rfl) (hpl:(i3 pos (aI es X.env)).any (·.1)=false:=by rfl):b8 X (.Call (.Name x p) (e::es) [] pos) (cR r t) :=
 bT (Pk hc hg hm hv ha hn hdb he hpl) fun _ _ _ h=>JB h
theorem bQ{x:Str}{p pos:Pos}{e:cS}{es:List cS}{t:sG}{T:String}{r:List D->aG->aX->Prop}(hc:eV X (.type T) (g8 X.K r))(hg:Gl X x)(hm:X.mg x=none)(hv:ib x=some (.type T))(ha:JS X (e::es) t)
  (hn:x ≠ "__name__":=by decide) (hdb:(x==("__debug__" : Str))=false:=by decide)
  (he:aI (e::es) X.env=(false,eR e X.env)::aI es X.env:=by rfl) (hpl:(i3 pos (aI es X.env)).any (·.1)=false:=by rfl):b8 X (.Call (.Name x p) (e::es) [] pos) (cR r t) :=
 bT (Le hc hg hm hv ha hn hdb he hpl) fun _ _ _ h=>JB h
def fK:List D->aG->aX->Prop:=fun ds H Q=>match ds with
 |[.tup xs]=>Q (.int xs.length) H
 |[.fl xs]=>Q (.int xs.length) H
 |[.str z]=>z.length<=bS/\Q (.int z.length) H
 | [.ref a] => (match H a with
  |some (.lst xs)=>Q (.int xs.length) H
  |_=>False)
 |_=>False
theorem fU:eV X (.builtin "len") (g8 X.K fK):=by
 intro pins s σ H xs us Q I rs h
 obtain⟨ds,H3,Q3,hr,rd,t,k⟩:=h
 cases rd with
 |nil=>exact t.elim
 |cons r1 r2=>
  cases r2 with
  |cons _ _=>cases r1 <;> exact t.elim
  |nil=>
   cases r1 with
   |tup ha ra=>exact lY pins s σ H _ us Q I rs ⟨_,_,rfl,.inr (mO.of ha),by rw[←ra.length];exact k _ _ _ _ TK.refl hr (.int _) t⟩
   |fl ha ra=>exact lY pins s σ H _ us Q I rs ⟨_,_,rfl,.inl ha.sq,by rw[←ra.length];exact k _ _ _ _ TK.refl hr (.int _) t⟩
   |str z=>exact Bg pins s σ H _ us Q I rs ⟨_,rfl,t.1,k _ _ _ _ TK.refl hr (.int _) t.2⟩
   |ref a=>
    (delta fK at t;dsimp only at t)
    split at t
    ·rename_i ds ha
     obtain⟨vs,ga,ra⟩:=hr a _ ha
     exact lY pins s σ H _ us Q I rs ⟨_,_,rfl,.inl (gB.of ga),by rw[←ra.length];exact k _ _ _ _ TK.refl hr (.int _) t⟩
    ·exact t.elim
   |_=>exact t.elim
def jR:List D->aG->aX->Prop:=fun ds H Q=>match ds with
 |[.tup xs]=>Q (.tup xs) H
 |[.fl xs]=>Q (.tup xs) H
 | [.ref a] => (match H a with
  |some (.lst xs)=>Q (.tup xs) H
  |_=>False)
 |_=>False
theorem yV:eV X (.type "tuple") (g8 X.K jR):=by
 intro pins s σ H xs us Q I rs h
 obtain⟨ds,H3,Q3,hr,rd,t,k⟩:=h
 cases rd with
 |nil=>exact t.elim
 |cons r1 r2=>
  cases r2 with
  |cons _ _=>cases r1 <;> exact t.elim
  |nil=>
   cases r1 with
   |tup ha ra=>exact jU pins s σ H _ us Q I rs ⟨_,_,rfl,.inr ⟨mO.of ha,k _ _ _ _ TK.refl hr (.tup ha ra) t⟩⟩
   |fl ha ra=>exact jU pins s σ H _ us Q I rs ⟨_,_,rfl,.inl ⟨ha.sq,fun l n=>k _ _ _ _ (TK.fresh n) (hr.tup n) (.tup aO (ra.mono (TK.fresh n))) t⟩⟩
   |ref a=>
    (delta jR at t;dsimp only at t)
    split at t
    ·rename_i ds ha
     obtain⟨vs,ga,ra⟩:=hr a _ ha
     exact jU pins s σ H _ us Q I rs ⟨_,_,rfl,.inl ⟨gB.of ga,fun l n=>k _ _ _ _ (TK.fresh n) (hr.tup n) (.tup aO (ra.mono (TK.fresh n))) t⟩⟩
    ·exact t.elim
   |_=>exact t.elim
end
end L3
namespace L3
open PySem PySem.Spec PyProof.Rows L2
theorem Ke{P:b5}{w:cE}{K:ae}{tg:cS}(it:aE)(lo:Int)(n:Nat):Turn P w K tg (ZW lo n) [it] it (fun i h=>uu h it (lo+(i:Nat)*1) ((n:Int)-(i:Nat)) 1) where
 mem:=ay.mpr rfl
 obj:=fun i h st b hb=>by
  rw[ay.mp hb]
  exact⟨_,st,fun v z=>by have z':AV _=Data.cell v:=z;cases z'⟩
 keep:=fun i h h' st k=>k it (ay.mpr rfl) _ st
 item:=by
  intro X hP hw hK hc i pins s σ H E I hf st hg
  subst hP hw hK
  obtain⟨f0,f1,f2,f3,f4,f5⟩:=hf it (ay.mpr rfl)
  have hlt:i<n:=hg
  refine zd st (by grind) fun h' st' sb=>?_
  have I1:Inv X pins σ H { s with heap:=h',toks:=s.toks+1 }:=I.turned (fun b o hb e=>(sb.2 b hb).trans e) f0 f1 f3 f4 f5
  have st2:uu h' it (lo+((i+1:Nat):Int)*1) ((n:Int)-((i+1:Nat):Int)) 1:=by
   have e1:lo+(i:Int)*1+1=lo+((i+1:Nat):Int)*1:=by grind
   have e2:(n:Int)-(i:Int)-1=(n:Int)-((i+1:Nat):Int):=by grind
   rw[←e1,←e2];exact st'
  exact⟨_,rfl,wK (s:={ s with heap:=h',toks:=s.toks+1 }) (n := "longrange_iterator") st2 rfl rfl (by decide) ⟨.int (lo+i),H,I1,⟨s.toks,by rw[sj]⟩,⟨rfl,rfl⟩,st2,fun b hb=>(hf b hb).1⟩⟩
 done:=by
  intro X hP hw hK hc i pins s σ H E I hf st hg
  subst hP hw hK
  obtain⟨f0,f1,f2,f3,f4,f5⟩:=hf it (ay.mpr rfl)
  have hle:n<=i:=hg
  exact AL (I.ok.hd hc) st (by grind) fun h' eb=>⟨rfl,I.turned (t':=s.toks) (fun b o hb e=>eb b o hb e) f0 f1 f3 f4 f5⟩
 self:=fun _ _ _ _ _ st h=>AM st h
section
variable{X:Cx}{tg:cS}
theorem range_any{pins:List (aE×Obj)}{σ:St}{H:Hp}{s:ah}{R:It->Hp->Prop}{E:af->ah->Prop}{lo hi:Int}{t u v:Tok}{tk:Nat}(I:Inv X pins σ H s)(q:R (ZW lo (hi-lo).toNat) H) :
  bq (cf X.prog X.w) X.A (IJ (.ref s.heap.objs.size)) (PIE X pins σ tg R) E { s with heap:=s.heap.push { cls:=.type "range",data:=.fields #[.int lo t,.int hi u,.int 1 v] },toks:=tk }:=by
 have I1:Inv X pins σ H { s with heap:=s.heap.push { cls:=.type "range",data:=.fields #[.int lo t,.int hi u,.int 1 v] },toks:=tk }:=I.kept fun b o e=>av _ e
 have e2:(((hi-lo).toNat:Nat):Int)-((0:Nat):Int)=me lo hi 1:=by rw[rangeSize_one];split <;> grind
 have e1:lo+((0:Nat):Int)*1=lo:=by grind
 have hf:∀b∈[(s.heap.push { cls:=.type "range",data:=.fields #[.int lo t,.int hi u,.int 1 v] }).objs.size],j9 X pins H b:=fun b hb=>by
  rw[ay.mp hb]
  exact I1.wC (aT _) (I1.hok.fresh (aT _))
 cases hs:BI lo hi 1 with
 |true=>
  refine CM (A3 ..) hs ⟨_,_,_,_,H,rfl,I1.kept (t':=tk) fun b o e=>av _ e,G3 _ lo (hi-lo).toNat,?_,hf,q⟩
  show wm _ _ (lo+((0:Nat):Int)*1) ((((hi-lo).toNat:Nat):Int)-((0:Nat):Int)) 1
  rw[e1,e2]
  exact bP _ rfl
 |false=>
  refine ze (A3 ..) hs ⟨_,_,_,_,H,rfl,I1.kept (t':=tk) fun b o e=>av _ e,Ke _ lo (hi-lo).toNat,?_,hf,q⟩
  show uu _ _ (lo+((0:Nat):Int)*1) ((((hi-lo).toNat:Nat):Int)-((0:Nat):Int)) 1
  rw[e1,e2]
  exact bP _ rfl
def abm(ta:TA):TI:=fun σ H R=>ta σ H fun vs H1=>∃j:Int,vs=[.int j]/\R (ZW 0 j.toNat) H1
def aa3(ta:TA):TI:=fun σ H R=>ta σ H fun vs H1=>∃i j:Int,vs=[.int i,.int j]/\R (ZW i (j-i).toNat) H1
theorem Nq{a:cS}{ta:TA}{p pos:Pos}(hg:Gl X "range")(hm:X.mg "range" = none)(ha:PA X [a] ta)(hs:aI [a] X.env=[(false,eR a X.env)]:=by rfl):PI X tg (.Call (.Name "range" p) [a] [] pos) (abm ta):=by
 intro pins s σ H R I h
 refine JY (gf I hg hm GU (fw (cC (ha pos pins s σ H _ I h) fun us s1 zz=>?_) hs rfl))
 obtain⟨vs,H1,I1,r1,j,e,q⟩:=zz
 subst e
 obtain⟨u,rfl,t,rfl⟩:=vals1 r1
 exact call_range_1 (range_any I1 (by simpa using q))
theorem Ku{a b:cS}{ta:TA}{p pos:Pos}(hg:Gl X "range")(hm:X.mg "range" = none)(ha:PA X [a,b] ta)(hs:aI [a,b] X.env=[(false,eR a X.env),(false,eR b X.env)]:=by rfl)(hs2:aI [b] X.env=[(false,eR b X.env)]:=by rfl) :
  PI X tg (.Call (.Name "range" p) [a,b] [] pos) (aa3 ta):=by
 intro pins s σ H R I h
 refine JY (gf I hg hm GU (fw (cC (ha pos pins s σ H _ I h) fun us s1 zz=>?_) (by rw[hs,hs2]) (by rw[hs2];rfl)))
 obtain⟨vs,H1,I1,r1,i,j,e,q⟩:=zz
 subst e
 obtain⟨u,u',rfl,⟨t,rfl⟩,⟨t',rfl⟩⟩:=vals2 r1
 exact call_range_2 (range_any I1 q)
end
section
variable{X:Cx}{st:gg}{rest:List gg}{t u:cI}{e:cS}{te:bL}{pos:Pos}
def lW:cI:=fun D σ H=>D.nx σ H
def bV(t u:cI):cI:=fun D σ H=>t { D with nx:=u D } σ H
theorem bH:nF X [] lW:=Ju Vn fun _ _ _ ⟨_,_,_,sr,hr,t,k⟩=>k.nx _ _ _ _ TK.refl sr hr t
theorem aD(h1:BW X st t)(h2:nF X rest u):nF X (st::rest) (bV t u) :=
 Ju (rF h1 h2) fun _ _ _ zz=>zz.ex fun σ3 H3 D3 sr hr q k=>⟨σ3,H3,{ D3 with nx:=u D3 },sr,hr,q,
  ⟨fun σ3' σ' H3' H' tk sr' hr' q'=>⟨σ3',H3',D3,sr',hr',q',k.mono tk⟩,k.rt,k.bk,k.ct⟩⟩
theorem aJ(h1:BW X st t):nF X [st] t:=vh h1
def br3:cI:=fun D σ H=>D.bk σ H
theorem Ow:BW X (.Break pos) br3:=je RB fun _ _ _ ⟨_,_,_,sr,hr,t,k⟩=>k.bk _ _ _ _ TK.refl sr hr t
def Nz(te:bL):cI:=fun D σ H=>te σ H fun _ H1=>D.nx σ H1
theorem gr(he:b8 X e te)(hs:om e none pos.line X.env=pure false:=by rfl):BW X (.Expr e pos) (Nz te) :=
 je (uV he hs) fun _ _ _ zz=>zz.ex fun σ3 H3 D3 sr hr t k=>⟨σ3,H3,_,sr,hr,t,fun x v H3a Ha tka hra rx qa=>k.nx _ _ _ _ tka (sr.mono tka) hra qa⟩
def gR(te:bL):cI:=fun D σ H=>te σ H D.rt
theorem bu(he:b8 X e te):BW X (.Return (some e) pos) (gR te) :=
 je (Y9 he) fun _ _ _ zz=>zz.ex fun σ3 H3 D3 sr hr t k=>⟨σ3,H3,_,sr,hr,t,k.rt⟩
def mC(c:xP)(t u:cI):cI:=fun D σ H=>c σ H fun b H1=>if b=true then t D σ H1 else u D σ H1
theorem bU{c:cS}{a b:List gg}{tc:xP}(hc:KZ X c tc)(ha:nF X a t)(hb:nF X b u):BW X (.If c a b pos) (mC tc t u) :=
 je (aaV hc ha hb) fun _ _ _ zz=>zz.ex fun σ3 H3 D3 sr hr q k=>⟨σ3,H3,_,sr,hr,q,fun b H3a Ha tka hra qa=>by
  cases b with
  |true=>exact⟨σ3,H3a,D3,sr.mono tka,hra,qa,k.mono tka⟩
  |false=>exact⟨σ3,H3a,D3,sr.mono tka,hra,qa,k.mono tka⟩⟩
def st3(i:Nat)(te:bL):cI:=fun D σ H=>te σ H fun x H1=>D.nx (σ.set i (some x)) H1
theorem aU(i:Nat){x:Str}{pos':Pos}(hN:X.N.Nodup)(he:b8 X e te)(hi:X.N[i]?=some x:=by rfl)(hx:Loc X.env.scope x:=by first | exact nN rfl | exact nV rfl)(hs:om e (some (.Name x pos')) pos.line X.env=pure false:=by rfl)
  (hf:X.fn x=true\/X.env.scope.names.lookup x=some .local:=by first | exact .inl rfl | exact .inr rfl | assumption):BW X (.Assign [.Name x pos'] e pos) (st3 i te) :=
 je (Xx hN hi hx he hs hf) fun _ _ _ zz=>zz.ex fun σ3 H3 D3 sr hr t k=>⟨σ3,H3,_,sr,hr,t,fun x v H3a Ha tka hra rx qa=>k.nx _ _ _ _ tka ((sr.mono tka).set i rx) hra qa⟩
abbrev zN:=D->cz->aG->(cz->aG->Prop)->Prop
inductive RW(K:ae)(t:zN)(v:V)(σ:St)(H:Hp)(Q:St->Hp->Prop):Prop
 |mk (d:D) (σ3:cz) (H3:aG) (Q3:cz->aG->Prop) (_:Rep K H d v) (_:SR K H σ3 σ) (_:HR K H3 H) (_:t d σ3 H3 Q3) (_:KN K H Q3 Q)
def PG3(X:Cx)(tg:cS)(t:zN):Prop:=PG X tg (RW X.K t)
theorem FW{tg:cS}{t t':TG}(h:PG X tg t)(i:∀v σ H Q,t' v σ H Q->t v σ H Q):PG X tg t':=fun pins s σ H v u Q I r hw=>h pins s σ H v u Q I r (i v σ H Q hw)
def vB(i:Nat):zN:=fun d σ H Q=>Q (σ.set i (some d)) H
theorem d8(i:Nat){x:Str}(hN:X.N.Nodup)(hi:X.N[i]?=some x:=by rfl)(hx:Loc X.env.scope x:=by first | exact nN rfl | exact nV rfl)(hf:X.fn x=true\/X.env.scope.names.lookup x=some .local:=by first | exact .inl rfl | exact .inr rfl | assumption) :
  PG3 X (.Name x pos) (vB i):=FW (jQ hN hi hx hf) fun _ _ _ _ ⟨d,σ3,H3,Q3,rd,sr,hr,t,k⟩=>k _ _ _ _ TK.refl (sr.set i rd) hr t
def tO(i j:Nat):zN:=fun d σ H Q=>match d with
 |.tup [x,y]=>Q ((σ.set i (some x)).set j (some y)) H
 |_=>False
def XD(i j l:Nat):zN:=fun d σ H Q=>match d with
 |.tup [x,y,z]=>Q (((σ.set i (some x)).set j (some y)).set l (some z)) H
 |_=>False
theorem lX(i j:Nat){x y:Str}{p1 p2:Pos}{kk:Nat}(hc:X.calm=true)(hN:X.N.Nodup)(hi:X.N[i]?=some x:=by rfl)(hx:Loc X.env.scope x:=by first | exact nN rfl | exact nV rfl)(hj:X.N[j]?=some y:=by rfl)(hy:Loc X.env.scope y:=by first | exact nN rfl | exact nV rfl)
  (hf:X.fn x=true\/X.env.scope.names.lookup x=some .local:=by first | exact .inl rfl | exact .inr rfl | assumption) (hf':X.fn y=true\/X.env.scope.names.lookup y=some .local:=by first | exact .inl rfl | exact .inr rfl | assumption) :
  PG3 X (.Tuple [.Name x p1,.Name y p2] kk pos) (tO i j) :=
 FW (Sh (n:=2) hc (oh (jQ hN hi hx hf) (oh (jQ hN hj hy hf') JQ))) fun v σ H Q ⟨d,σ3,H3,Q3,rd,sr,hr,t,k⟩=>by
  cases rd with
  |tup ha ra=>
   cases ra with
   |nil=>exact t.elim
   |cons r1 ra=>
    cases ra with
    |nil=>exact t.elim
    |cons r2 ra=>
     cases ra with
     |cons _ _=>exact t.elim
     |nil=>exact⟨_,_,rfl,mO.of ha,rfl,_,_,rfl,_,_,rfl,rfl,k _ _ _ _ TK.refl ((sr.set i r1).set j r2) hr t⟩
  |_=>exact t.elim
theorem R5(i j l:Nat){x y z:Str}{p1 p2 p3:Pos}{kk:Nat}(hc:X.calm=true)(hN:X.N.Nodup)(hi:X.N[i]?=some x:=by rfl)(hx:Loc X.env.scope x:=by first | exact nN rfl | exact nV rfl)(hj:X.N[j]?=some y:=by rfl)(hy:Loc X.env.scope y:=by first | exact nN rfl | exact nV rfl)
  (hl:X.N[l]?=some z:=by rfl) (hz:Loc X.env.scope z:=by first | exact nN rfl | exact nV rfl)
  (hf:X.fn x=true\/X.env.scope.names.lookup x=some .local:=by first | exact .inl rfl | exact .inr rfl | assumption) (hf':X.fn y=true\/X.env.scope.names.lookup y=some .local:=by first | exact .inl rfl | exact .inr rfl | assumption)
  (hf'':X.fn z=true\/X.env.scope.names.lookup z=some .local:=by first | exact .inl rfl | exact .inr rfl | assumption) :
  PG3 X (.Tuple [.Name x p1,.Name y p2,.Name z p3] kk pos) (XD i j l) :=
 FW (Sh (n:=3) hc (oh (jQ hN hi hx hf) (oh (jQ hN hj hy hf') (oh (jQ hN hl hz hf'') JQ)))) fun v σ H Q ⟨d,σ3,H3,Q3,rd,sr,hr,t,k⟩=>by
  cases rd with
  |tup ha ra=>
   cases ra with
   |nil=>exact t.elim
   |cons r1 ra=>
    cases ra with
    |nil=>exact t.elim
    |cons r2 ra=>
     cases ra with
     |nil=>exact t.elim
     |cons r3 ra=>
      cases ra with
      |cons _ _=>exact t.elim
      |nil=>exact⟨_,_,rfl,mO.of ha,rfl,_,_,rfl,_,_,rfl,_,_,rfl,rfl,k _ _ _ _ TK.refl (((sr.set i r1).set j r2).set l r3) hr t⟩
  |_=>exact t.elim
def as3(te:bL)(g:zN):cI:=fun D σ H=>te σ H fun x H1=>g x σ H1 D.nx
theorem Zm{tg:cS}{g:zN}(he:b8 X e te)(hg:PG3 X tg g)(hs:swapsWithSole [tg] e pos.line X.env=pure false:=by rfl)(hw:swappedStores [tg] e X.env=pure none:=by rfl)
  (h1:(rg [tg] X.env).map (·.2)=[CF tg X.env]:=by rfl):BW X (.Assign [tg] e pos) (as3 te g) :=
 je (Wy he hg hs hw h1) fun _ _ _ zz=>zz.ex fun σ3 H3 D3 sr hr t k=>⟨σ3,H3,_,sr,hr,t,fun x v H3a Ha tka hra rx qa=>⟨x,σ3,H3a,_,rx,sr.mono tka,hra,qa,k.nx.mono tka⟩⟩
def wh3(c:xP)(tb:cI):cI:=fun D σ H=>∃(P:cz->aG->Prop) (μ:cz->aG->Nat),P σ H/\∀σ H,P σ H ->
 c σ H fun b H1=>if b=true then tb { D with nx:=fun σ' H'=>P σ' H'/\μ σ' H'<μ σ H,ct:=fun σ' H'=>P σ' H'/\μ σ' H'<μ σ H,bk:=D.nx } σ H1 else D.nx σ H1
theorem Dr{c:cS}{body:List gg}{tc:xP}{tb:cI}(hp:EB (cf X.prog X.w) X.A X.env X.xe)(hc:KZ X c tc)(hb:nF X body tb):BW X (.While c body [] pos) (wh3 tc tb) :=
 je (Pn hp hc hb) fun D σ H zz=>zz.ex fun σ3 H3 D3 sr hr t k=>by
  obtain⟨P,μ,p0,turn⟩:=t
  refine⟨fun m σ' H'=>∃σ3' H3',TK H H'/\SR X.K H' σ3' σ'/\HR X.K H3' H'/\P σ3' H3'/\m=μ σ3' H3',⟨_,σ3,H3,TK.refl,sr,hr,p0,rfl⟩,?_⟩
  rintro m σ1 H1 ⟨σ31,H31,tk1,sr1,hr1,p1,rfl⟩
  refine⟨σ31,H31,_,sr1,hr1,turn σ31 H31 p1,fun b H3a Ha tka hra qa=>?_⟩
  cases b with
  |false=>exact k.nx _ _ _ _ (tk1.trans tka) (sr1.mono tka) hra qa
  |true=>
   refine⟨fun σ' H'=>∃σ3' H3',TK H H'/\SR X.K H' σ3' σ'/\HR X.K H3' H'/\P σ3' H3'/\μ σ3' H3'<μ σ31 H31,?_,?_⟩
   ·rintro σ' H' ⟨σ3',H3',z1,z2,z3,z4,z5⟩
    exact⟨_,z5,σ3',H3',z1,z2,z3,z4,rfl⟩
   ·have kk:=k.mono (tk1.trans tka)
    exact⟨σ31,H3a,_,sr1.mono tka,hra,qa,⟨fun σ3' σ' H3' H' tk' sr' hr' q'=>⟨σ3',H3',(tk1.trans tka).trans tk',sr',hr',q'.1,q'.2⟩,kk.rt,kk.nx,
     fun σ3' σ' H3' H' tk' sr' hr' q'=>⟨σ3',H3',(tk1.trans tka).trans tk',sr',hr',q'.1,q'.2⟩⟩⟩
abbrev Cd:=cz->aG->(List D->(aG->Prop)->aG->Prop)->Prop
def yt(K:ae)(H0:Hp)(ds:List D)(keep:aG->Prop)(J:It):Prop :=
 ∀H3 H,TK H0 H->HR K H3 H->keep H3->(∀i,i<ds.length->J.go i H/\∀x H',J.yld i H x H'->TK H H'/\HR K H3 H'/\∃d,ds[i]?=some d/\Rep K H' d x)/\J.stop ds.length H
inductive V2(K:ae)(t:Cd)(σ:St)(H:Hp)(R:It->Hp->Prop):Prop
 |mk (σ3:cz) (H3:aG) (R3:List D->(aG->Prop)->aG->Prop) (_:SR K H σ3 σ) (_:HR K H3 H) (_:t σ3 H3 R3) (_:∀ds keep J H3' H',TK H H'->HR K H3' H'->yt K H' ds keep J->R3 ds keep H3'->R J H')
def NZ(X:Cx)(tg iter:cS)(t:Cd):Prop:=PI X tg iter (V2 X.K t)
theorem mq{tg iter:cS}{t t':TI}(h:PI X tg iter t)(i:∀σ H R,t' σ H R->t σ H R):PI X tg iter t':=fun pins s σ H R I hw=>h pins s σ H R I (i σ H R hw)
def O6(te:bL):Cd:=fun σ H R=>te σ H fun x H1=>match x with
 | .ref a => (match H1 a with
  |some (.lst ds)=>R ds (fun H'=>H' a=some (.lst ds)) H1
  |_=>False)
 |.fl ds=>R ds (fun _=>True) H1
 |_=>False
def it3(te:bL):Cd:=fun σ H R=>te σ H fun x H1=>match x with
 |.tup ds=>R ds (fun _=>True) H1
 |_=>False
theorem Kf{K:ae}{H:Hp}{a:aE}{ds:List D}:yt K H ds (fun H'=>H' a=some (.lst ds)) (Itl K a):=fun H3 H' _ hr hk=>by
 obtain⟨vs,ga,ra⟩:=hr a _ hk
 refine⟨fun i hi=>⟨⟨vs,vs[i]'(by rw[←ra.length];exact hi),gB.of ga,by simp⟩,fun x H'' y=>?_⟩,⟨vs,gB.of ga,by rw[ra.length];exact aT _⟩⟩
 obtain⟨e,y⟩:=y
 subst e
 exact⟨TK.refl,hr,ra.MN (y vs (gB.of ga))⟩
theorem S6{K:ae}{H:Hp}{a:aE}{xs:List V}{ds:List D}(ha:Yp K H a xs)(ra:bI K H ds xs):yt K H ds (fun _=>True) (Itl K a):=fun H3 H' tk hr _=>by
 have hq:=(tk.fzL ha).sq
 have ra':=ra.mono tk
 refine⟨fun i hi=>⟨⟨xs,xs[i]'(by rw[←ra.length];exact hi),hq,by simp⟩,fun x H'' y=>?_⟩,⟨xs,hq,by rw[ra.length];exact aT _⟩⟩
 obtain⟨e,y⟩:=y
 subst e
 exact⟨TK.refl,hr,ra'.MN (y xs hq)⟩
theorem Sd{K:ae}{H:Hp}{a:aE}{xs:List V}{ds:List D}(ha:mO K H a xs)(ra:bI K H ds xs):yt K H ds (fun _=>True) (Itt K a):=fun H3 H' tk hr _=>by
 have hq:=tk.sqT ha
 have ra':=ra.mono tk
 refine⟨fun i hi=>⟨⟨xs,xs[i]'(by rw[←ra.length];exact hi),hq,by simp⟩,fun x H'' y=>?_⟩,⟨xs,hq,by rw[ra.length];exact aT _⟩⟩
 obtain⟨e,y⟩:=y
 subst e
 exact⟨TK.refl,hr,ra'.MN (y xs hq)⟩
theorem ir{tg:cS}(h:b8 X e te):NZ X tg e (O6 te) :=
 mq (S5 h) fun _ _ _ ⟨σ3,H3,R3,sr,hr,t,k⟩=>⟨σ3,H3,_,sr,hr,t,fun x v H3a Ha tka hra rx qa=>by
  cases rx with
  |ref a=>
   simp only[] at qa
   split at qa
   ·rename_i ds ha
    obtain⟨vs,ga,ra⟩:=hra a _ ha
    exact⟨a,rfl,⟨vs,gB.of ga⟩,k _ _ _ _ _ tka hra Kf qa⟩
   ·exact qa.elim
  |fl ha ra=>exact⟨_,rfl,⟨_,ha.sq⟩,k _ _ _ _ _ tka hra (S6 ha ra) qa⟩
  |_=>exact qa.elim⟩
theorem Yw{tg:cS}(h:b8 X e te):NZ X tg e (it3 te) :=
 mq (Yo h) fun _ _ _ ⟨σ3,H3,R3,sr,hr,t,k⟩=>⟨σ3,H3,_,sr,hr,t,fun x v H3a Ha tka hra rx qa=>by
  cases rx with
  |tup ha ra=>exact⟨_,rfl,⟨_,mO.of ha⟩,k _ _ _ _ _ tka hra (Sd (mO.of ha) ra) qa⟩
  |_=>exact qa.elim⟩
def pN(lo:Int)(n:Nat):List D:=(dc n).map fun (i:Nat)=>D.int (lo+(i:Int))
theorem qH(lo:Int)(n:Nat):(pN lo n).length=n:=by simp[pN]
theorem vo{lo:Int}{n i:Nat}(h:i<n):(pN lo n)[i]?=some (.int (lo+i)):=by simp[pN,h]
theorem Eu{K:ae}{H:Hp}{lo:Int}{n:Nat}:yt K H (pN lo n) (fun _=>True) (ZW lo n):=fun H3 H' tk hr _=>by
 refine⟨fun i hi=>?_,?_⟩
 ·rw[qH] at hi
  refine⟨hi,fun x H'' y=>?_⟩
  obtain⟨e,y⟩:=y
  subst y
  subst e
  exact⟨TK.refl,hr,_,vo hi,.int _⟩
 ·rw[qH];exact aT _
def rg1(x:D)(H:aG)(R:List D->(aG->Prop)->aG->Prop):Prop:=match x with
 |.int j=>R (pN 0 j.toNat) (fun _=>True) H
 |_=>False
def rg2(x y:D)(H:aG)(R:List D->(aG->Prop)->aG->Prop):Prop:=match x,y with
 |.int i,.int j=>R (pN i (j-i).toNat) (fun _=>True) H
 |_,_=>False
def V9(ta:bL):Cd:=fun σ H R=>ta σ H fun x H1=>rg1 x H1 R
def ir2(ta tb:bL):Cd:=fun σ H R=>ta σ H fun x H1=>tb σ H1 fun y H2=>rg2 x y H2 R
theorem pH{tg a:cS}{ta:bL}{p pos:Pos}(hm:X.mg "range" = none)(ha:b8 X a ta)(hg:Gl X "range":=by rfl)(hs:aI [a] X.env=[(false,eR a X.env)]:=by rfl)(hs':aI [a] X.env=(false,eR a X.env)::aI [] X.env:=by rfl):NZ X tg (.Call (.Name "range" p) [a] [] pos) (V9 ta) :=
 mq (Nq hg hm (aa ha aA hs') hs) fun _ _ _ ⟨σ3,H3,R3,sr,hr,t,k⟩=>by
  refine⟨σ3,H3,fun ds H1=>(match ds with | [x]=>rg1 x H1 R3 | _=>False),sr,hr,t,fun ds vs H3a Ha tka hra rs qa=>?_⟩
  cases rs with
  |nil=>exact qa.elim
  |cons r1 r2=>
   cases r2 with
   |cons _ _=>exact qa.elim
   |nil=>
    cases r1 with
    |int j=>exact⟨j,rfl,k _ _ _ _ _ tka hra Eu qa⟩
    |_=>exact qa.elim
theorem TV{tg a b:cS}{ta tb:bL}{p pos:Pos}(hm:X.mg "range" = none)(ha:b8 X a ta)(hb:b8 X b tb)(hg:Gl X "range":=by rfl)(hs:aI [a,b] X.env=[(false,eR a X.env),(false,eR b X.env)]:=by rfl)
  (hs1:aI [a,b] X.env=(false,eR a X.env)::aI [b] X.env:=by rfl) (hs2:aI [b] X.env=(false,eR b X.env)::aI [] X.env:=by rfl) (hs3:aI [b] X.env=[(false,eR b X.env)]:=by rfl):NZ X tg (.Call (.Name "range" p) [a,b] [] pos) (ir2 ta tb) :=
 mq (Ku hg hm (aa ha (aa hb aA hs2) hs1) hs hs3) fun _ _ _ ⟨σ3,H3,R3,sr,hr,t,k⟩=>by
  refine⟨σ3,H3,fun ds H1=>(match ds with | [x,y]=>rg2 x y H1 R3 | _=>False),sr,hr,t,fun ds vs H3a Ha tka hra rs qa=>?_⟩
  cases rs with
  |nil=>exact qa.elim
  |cons r1 r2=>
   cases r2 with
   |nil=>exact qa.elim
   |cons r2 r3=>
    cases r3 with
    |cons _ _=>exact qa.elim
    |nil=>
     cases r1 with
     |int i=>
      cases r2 with
      |int j=>exact⟨i,j,rfl,k _ _ _ _ _ tka hra Eu qa⟩
      |_=>exact qa.elim
     |_=>exact qa.elim
def yw(wi:Cd)(g:zN)(tb:cI):cI:=fun D σ H=>wi σ H fun ds keep H1=>∃P:Nat->cz->aG->Prop,P 0 σ H1/\(∀i σ H,i<=ds.length->P i σ H->keep H) /\
 (∀i d σ H,ds[i]?=some d->P i σ H->g d σ H fun σ2 H2=>tb { D with nx:=P (i+1),ct:=P (i+1),bk:=D.nx } σ2 H2)/\∀σ H,P ds.length σ H->D.nx σ H
theorem dh{tg iter:cS}{body:List gg}{wi:Cd}{g:zN}{tb:cI}(hp:EB (cf X.prog X.w) X.A X.env X.xe)(hc:X.calm=true)(hi:NZ X tg iter wi)(hg:PG3 X tg g)(hb:nF X body tb)
  (hs:∀x,jI iter X.env x=pure x:=by intro _;rfl):BW X (.For tg iter body [] pos) (yw wi g tb) :=
 je (Zq hp hc hi hg hb hs) fun D σ H zz=>zz.ex fun σ3 H3 D3 sr hr t k=>⟨σ3,H3,_,sr,hr,t,fun ds keep J H3' H' tk' hr' ok q=>by
  obtain⟨P,p0,pk,pstep,pd⟩:=q
  refine⟨fun i m σ1 H1=>m=ds.length-i/\i<=ds.length/\∃σ31 H31,TK H' H1/\SR X.K H1 σ31 σ1/\HR X.K H31 H1/\P i σ31 H31,⟨ds.length,by simp,ef _,σ3,H3',TK.refl,sr.mono tk',hr',p0⟩,?_⟩
  rintro i m σ1 H1 ⟨rfl,hi,σ31,H31,tk1,sr1,hr1,p1⟩
  obtain⟨go,stop⟩:=ok H31 H1 tk1 hr1 (pk i σ31 H31 hi p1)
  by_cases hlt:i<ds.length
  ·obtain⟨g1,g2⟩:=go i hlt
   refine .inr ⟨g1,fun σ' H''=>i+1<=ds.length/\∃σ3' H3'',TK H' H''/\SR X.K H'' σ3' σ'/\HR X.K H3'' H''/\P (i+1) σ3' H3'',fun σ' H'' z=>⟨ds.length-(i+1),by omega,rfl,z.1,z.2⟩,fun x H'' y=>?_⟩
   obtain⟨tky,hry,d,ed,rd⟩:=g2 x H'' y
   refine⟨d,σ31,H31,_,rd,sr1.mono tky,hry,pstep i d σ31 H31 ed p1,fun σ3b σb H3b Hb tkb srb hrb qb=>⟨σ3b,H3b,_,srb,hrb,qb,?_⟩⟩
   have kk:=k.mono (tk'.trans ((tk1.trans tky).trans tkb))
   exact⟨fun σ3c σc H3c Hc tkc src hrc qc=>⟨hlt,σ3c,H3c,((tk1.trans tky).trans tkb).trans tkc,src,hrc,qc⟩,kk.rt,kk.nx,fun σ3c σc H3c Hc tkc src hrc qc=>⟨hlt,σ3c,H3c,((tk1.trans tky).trans tkb).trans tkc,src,hrc,qc⟩⟩
  ·have e:i=ds.length:=by omega
   subst e
   exact .inl ⟨stop,k.nx _ _ _ _ (tk'.trans tk1) sr1 hr1 (pd σ31 H31 p1)⟩⟩
end
abbrev mU:=List D->aG->aX->Prop
def v5(K:ae)(sp:mU):Sp:=fun vs H Q _=>g8 K sp vs H Q
structure Fn(P:b5)(w:cE)(K:ae)(mg:Str->Option af)(base:eJ)(k:Nat)(x:Str)(ps:List Str)(sp:mU):Prop where
 ex:∃f fd,pM P w K mg base uN k f fd ps (v5 K sp)/\mg x=some (.ref f)/\gp K (.ref f)=true/\Binds K fd ps []
theorem aZ{X:Cx}{k:Nat}{x:Str}{ps:List Str}{sp:mU}{p pos:Pos}{e:cS}{es:List cS}{t:sG}(F:Fn X.prog X.w X.K X.mg X.base k x ps sp)(hr:cW k X.A)(ha:JS X (e::es) t)
  (hg:Gl X x:=by rfl) (hdb:(x==("__debug__" : Str))=false:=by decide) (he:aI (e::es) X.env=(false,eR e X.env)::aI es X.env:=by rfl) (hpl:(i3 pos (aI es X.env)).any (·.1)=false:=by rfl) :
  b8 X (.Call (.Name x p) (e::es) [] pos) (cR sp t):=by
 obtain⟨f,fd,F,hm,hk,hb⟩:=F.ex
 refine bT (Vp (E:=E0) F hr hg hm hk hb .nil abK ha hdb he hpl) fun _ _ _ h=>?_
 obtain⟨σ3,H3,Q3,sr,hr,t,k⟩:=h
 exact⟨σ3,H3,_,sr,hr,t,fun ds vs H3a Ha tka hra rs qa=>⟨ds,H3a,Q3,hra,by rw[fA];exact rs,qa,k.mono tka⟩⟩
def aM(N:List Str)(ds:List D):cz:=ds.map some++fF (N.length-ds.length) none
theorem nQ{K:ae}{H:Hp}{N:List Str}{ds:List D}{vs:List V}(r:bI K H ds vs):SR K H (aM N ds) (L2.start N vs):=by
 have hl:=r.length
 refine⟨by simp[aM,L2.start,hl],fun i d h=>?_⟩
 unfold aM at h
 by_cases hi:i<ds.length
 ·rw[eL (by simpa using hi),aS] at h
  cases e:ds[i]? with
  |none=>rw[e] at h;cases h
  |some d'=>
   rw[e] at h
   cases h
   obtain⟨v,hv,rv⟩:=r.get e
   refine⟨v,?_,rv⟩
   unfold L2.start
   rw[eL (by rw[aw,←hl];exact hi),aS,hv]
   rfl
 ·rw[fg (by simpa using hi),x8] at h
  split at h <;> cases h
def cY(Q:aX):dF:={ nx:=fun _ H'=>∃H'',aN H'' H'/\Q .non H'',rt:=fun d H'=>∃H'',aN H'' H'/\Q d H'' }
theorem V4{P:b5}{w:cE}{K:ae}{mg:Str->Option af}{base:eJ}{x qual:Str}{st:gg}{f:aE}{fd:gc}{N ps:List Str}{k:Nat}{sp:mU}(F:Ca K x qual st f fd)(S:aR N ps (az st))
  (len:∀ds H Q,sp ds H Q->ds.length=ps.length)
  (hbody:∀ (cdv:af) (A:dS) (outer:List Env) (s:ah) (H:Hp) (E:XK),cW k (A.deeper (nt qual (az st) s.heap.objs.size f cdv)) →
   ∃t,nF (jn uN P w K mg base N qual (az st) f cdv A outer s H E).yK (aQ st) t/\∀ds H3 Q3,sp ds H3 Q3->t (cY Q3) (aM N ds) H3):pM P w K mg base uN (k+1) f fd ps (v5 K sp):=by
 refine F.ok S (fun vs H Q E h=>?_) (fun cdv A outer s H vs Q E hr h=>?_)
 ·obtain⟨ds,H3,Q3,_,rs,q,_⟩:=h
  rw[←rs.length]
  exact len ds H3 Q3 q
 ·obtain⟨ds,H3,Q3,hr3,rs,q,k⟩:=h
  obtain⟨t,ht,hq⟩:=hbody cdv A outer s H E hr
  refine⟨_,ht,aM N ds,H3,_,nQ rs,hr3,hq ds H3 Q3 q,⟨fun σ3 σ H3' H' tk sr hr' z=>?_,fun d v H3' H' tk hr' rd z=>?_,fun _ _ _ _ _ _ _ z=>z.elim,fun _ _ _ _ _ _ _ z=>z.elim⟩⟩
  ·obtain⟨H'',sub,q'⟩:=z
   exact k _ _ _ _ tk (hr'.sub sub) .non q'
  ·obtain⟨H'',sub,q'⟩:=z
   exact k _ _ _ _ tk (hr'.sub sub) rd q'
theorem fn3{P:b5}{w:cE}{K:ae}{mg:Str->Option af}{base:eJ}{x qual:Str}{st:gg}{f:aE}{fd:gc}{N ps:List Str}{k:Nat}{sp:mU}(F:Ca K x qual st f fd)(S:aR N ps (az st))
  (hm:mg x=some (.ref f)) (hb:Binds K fd ps []) (len:∀ds H Q,sp ds H Q->ds.length=ps.length)
  (hbody:∀ (cdv:af) (A:dS) (outer:List Env) (s:ah) (H:Hp) (E:XK),cW k (A.deeper (nt qual (az st) s.heap.objs.size f cdv)) →
   ∃t,nF (jn uN P w K mg base N qual (az st) f cdv A outer s H E).yK (aQ st) t/\∀ds H3 Q3,sp ds H3 Q3->t (cY Q3) (aM N ds) H3):Fn P w K mg base (k+1) x ps sp :=
 ⟨f,fd,V4 F S len hbody,hm,F.kp,hb⟩
def jW{α β:Type}(f:α->Option β):List α->Option (List β)
 |[]=>some []
 |d::ds=>match f d with
  |none=>none
  |some p=>match jW f ds with
   |none=>none
   |some ps=>some (p::ps)
def su:Nat->D->Option rj
 |0,d=>match d with
  |.non=>some .none
  |.bl b=>some (.bool b)
  |.int i=>some (.int i)
  |.str x=>if iX x=true then some (.str x) else none
  |_=>none
 |n+1,d=>match d with
  |.non=>some .none
  |.bl b=>some (.bool b)
  |.int i=>some (.int i)
  |.str x=>if iX x=true then some (.str x) else none
  |.tup ds=>(jW (su n) ds).map .tuple
  |.ktup ds=>(jW (su n) ds).map .tuple
  |_=>none
def MT(H:aG)(d:D):Option rj:=match d with
 | .ref a => (match H a with
  |some (.lst ds)=>(jW (su 4) ds).map .list
  |_=>none)
 |.fl ds=>(jW (su 4) ds).map .list
 |d=>su 5 d
section
variable{X:Cx}{pins:List (aE×Obj)}{σ:St}{H:Hp}{s:ah}
theorem zj{f:D->Option rj}{d:D}{ds:List D}{ps:List rj}(h:jW f (d::ds)=some ps):∃p ps',f d=some p/\jW f ds=some ps'/\ps=p::ps':=by
 unfold jW at h
 cases e1:f d with
 |none=>rw[e1] at h;cases h
 |some p=>
  rw[e1] at h
  cases e2:jW f ds with
  |none=>rw[e2] at h;cases h
  |some ps'=>rw[e2] at h;cases h;exact⟨p,ps',rfl,rfl,rfl⟩
theorem qm{f:D->Option rj}{n:Nat}(hf:∀ {d:D} {v:V} {u:af} {p:rj},Rep X.K H d v->RelV v u->f d=some p->(∃as,GV s.heap u p as)/\p.canLay0=true/\p.depth<=n) :
  ∀ {ds:List D} {vs:List V} {us:List af} {ps:List rj},bI X.K H ds vs->Vals vs us->jW f ds=some ps->(∃as,ReadsAll s.heap us ps as)/\DF ps=true/\PyData.depthAll ps<=n:=by
 intro ds vs us ps hr hv h
 induction hv generalizing ds ps with
 |nil=>
  cases hr
  cases h
  exact⟨⟨[],.nil⟩,rfl,ef _⟩
 |cons q qs ih=>
  cases hr with
  |cons r rs=>
   obtain⟨p,ps',e1,e2,rfl⟩:=zj h
   obtain⟨⟨as,h1⟩,h2,h3⟩:=hf r q e1
   obtain⟨⟨bs,g1⟩,g2,g3⟩:=ih rs e2
   exact⟨⟨_,.cons h1 g1⟩,by rw[DF,h2,g2];rfl,Nat.max_le.mpr ⟨h3,g3⟩⟩
theorem dm(I:Inv X pins σ H s):∀(n:Nat) {d:D} {v:V} {u:af} {p:rj},Rep X.K H d v->RelV v u->su n d=some p->(∃as,GV s.heap u p as)/\p.canLay0=true/\p.depth<=n:=by
 intro n
 induction n with
 |zero=>
  intro d v u p r q h
  cases r with
  |non=>cases h;cases q;exact⟨⟨_,.none⟩,rfl,ef _⟩
  |bl b=>cases h;cases q;exact⟨⟨_,.bool b⟩,rfl,ef _⟩
  |int i=>cases h;obtain⟨t,rfl⟩:=q;exact⟨⟨_,.int i t⟩,rfl,ef _⟩
  |str x=>
   replace h:(if iX _=true then some (uS _) else none)=some p:=h
   split at h
   ·rename_i hx
    cases h;obtain⟨t,rfl⟩:=q;exact⟨⟨_,.str x t⟩,hx,ef _⟩
   ·cases h
  |_=>cases h
 |succ n ih=>
  intro d v u p r q h
  cases r with
  |non=>cases h;cases q;exact⟨⟨_,.none⟩,rfl,ef _⟩
  |bl b=>cases h;cases q;exact⟨⟨_,.bool b⟩,rfl,ef _⟩
  |int i=>cases h;obtain⟨t,rfl⟩:=q;exact⟨⟨_,.int i t⟩,rfl,ef _⟩
  |str x=>
   replace h:(if iX _=true then some (uS _) else none)=some p:=h
   split at h
   ·rename_i hx
    cases h;obtain⟨t,rfl⟩:=q;exact⟨⟨_,.str x t⟩,hx,ef _⟩
   ·cases h
  |tup ha ra=>
   replace h:(jW (su n) _).map kB=some p:=h
   rw[b6] at h
   obtain⟨ps,h1,rfl⟩:=h
   cases q
   obtain⟨its,rv,⟨o,ho,hc,m,hd⟩,_⟩:=I.tuple (mO.of ha)
   obtain⟨⟨as,g1⟩,g2,g3⟩:=qm (f:=su n) (n:=n) ih ra rv h1
   exact⟨⟨_,.tuple ho hc hd (by simpa using g1)⟩,g2,by simp only[DH];omega⟩
  |ktup ha ra=>
   replace h:(jW (su n) _).map kB=some p:=h
   rw[b6] at h
   obtain⟨ps,h1,rfl⟩:=h
   cases q
   obtain⟨its,rv,⟨o,ho,hc,m,hd⟩,_⟩:=I.tuple ha.sq
   obtain⟨⟨as,g1⟩,g2,g3⟩:=qm (f:=su n) (n:=n) ih ra rv h1
   exact⟨⟨_,.tuple ho hc hd (by simpa using g1)⟩,g2,by simp only[DH];omega⟩
  |_=>cases h
theorem o8(I:Inv X pins σ H s){H3:aG}(hr:HR X.K H3 H){d:D}{v:V}{u:af}{p:rj}(r:Rep X.K H d v)(q:RelV v u)(h:MT H3 d=some p):(∃as,GV s.heap u p as)/\p.canLay0=true/\p.depth<=5:=by
 have lst:∀ {a:aE} {xs:List V} {ds:List D},gB X.K H a xs->bI X.K H ds xs->(jW (su 4) ds).map PyData.list=some p->(∃as,GV s.heap (.ref a) p as)/\p.canLay0=true/\p.depth<=5:=fun hq ra h=>by
  simp only[b6] at h
  obtain⟨ps,h1,rfl⟩:=h
  obtain⟨its,rv,pl,_⟩:=I.list hq
  obtain⟨o,ho,hc,m,hd⟩:=pl.isList
  obtain⟨⟨as,g1⟩,g2,g3⟩:=qm (f:=su 4) (n:=4) (dm I 4) ra rv h1
  exact⟨⟨_,.list ho hc hd (by simpa using g1)⟩,g2,by simp only[DH];omega⟩
 cases r with
 |ref a=>
  (delta MT at h;dsimp only at h)
  split at h
  ·rename_i ds ha
   obtain⟨vs,ga,ra⟩:=hr a _ ha
   cases q
   exact lst (gB.of ga) ra h
  ·cases h
 |fl ha ra=>cases q;exact lst ha.sq ra h
 |non=>exact dm I 5 .non q h
 |bl b=>exact dm I 5 (.bl b) q h
 |int b=>exact dm I 5 (.int b) q h
 |str b=>exact dm I 5 (.str b) q h
 |ty b=>exact dm I 5 (.ty b) q h
 |tup a b=>exact dm I 5 (.tup a b) q h
 |ktup a b=>exact dm I 5 (.ktup a b) q h
end
def eO:R3:=fun x y H Q=>match MT H x,MT H y with
 |some p,some q=>Q (.bl (fN p q)) H
 |_,_=>False
def Kr:R3:=fun x y H Q=>match MT H x,MT H y with
 |some p,some q=>Q (.bl (!PyData.eqv p q)) H
 |_,_=>False
section
variable{X:Cx}
theorem dq(hu:X.A.units+64<md):gW X (eW .Eq) (cg X.K eO):=by
 intro pins s σ H x y v u Q I rx ry h
 obtain⟨dx,dy,H3,Q3,hr,rdx,rdy,t,k⟩:=h
 simp only[eO] at t
 split at t
 ·rename_i p q e1 e2
  obtain⟨⟨as,h1⟩,h2,h3⟩:=o8 I hr rdx rx e1
  obtain⟨⟨bs,g1⟩,g2,g3⟩:=o8 I hr rdy ry e2
  exact SeqAt.compareEq_reads h1 g1 h2 g2 (by have:=As p.depth q.depth;omega) ⟨.bl _,H,I,rfl,k _ _ _ _ TK.refl hr (.bl _) t⟩
 ·exact t.elim
theorem Qc(hu:X.A.units+64<md):gW X (eW .NotEq) (cg X.K Kr):=by
 intro pins s σ H x y v u Q I rx ry h
 obtain⟨dx,dy,H3,Q3,hr,rdx,rdy,t,k⟩:=h
 simp only[Kr] at t
 split at t
 ·rename_i p q e1 e2
  obtain⟨⟨as,h1⟩,h2,h3⟩:=o8 I hr rdx rx e1
  obtain⟨⟨bs,g1⟩,g2,g3⟩:=o8 I hr rdy ry e2
  exact SeqAt.compareNe_reads h1 g1 h2 g2 (by have:=As p.depth q.depth;omega) ⟨.bl _,H,I,rfl,k _ _ _ _ TK.refl hr (.bl _) t⟩
 ·exact t.elim
def yq(H:aG)(d:D):Option (List D):=match d with
 | .ref a => (match H a with
  |some (.lst ds)=>some ds
  |_=>none)
 |.fl ds=>some ds
 |.tup ds=>some ds
 |_=>none
def wY(neg:Bool):R3:=fun x y H Q=>match su 4 x,(yq H y).bind (jW (su 4)) with
 |some p,some ps=>Q (.bl (if neg then !ps.any (fun q=>fN q p) else ps.any fun q=>fN q p)) H
 |_,_=>False
open Classical in
def xO(h:eJ)(p:rj)(u:af):Bool:=decide (∃q as,GV h u q as/\q.canLay0=true/\fN q p=true)
open Classical in
theorem Qx{h:eJ}{p q:rj}{u:af}{as:List aE}(r:GV h u q as)(c:q.canLay0=true):xO h p u=fN q p:=by
 unfold xO
 cases e:fN q p with
 |true=>exact decide_eq_true ⟨q,as,r,c,e⟩
 |false=>
  refine decide_eq_false fun z=>?_
  obtain⟨q',as',r',c',e'⟩:=z
  have z:=KL q q' u as as' c r r'
  subst z
  rw[e] at e'
  cases e'
theorem lB{pins:List (aE×Obj)}{σ:St}{H:Hp}{s:ah}(I:Inv X pins σ H s)(p:rj) :
  ∀ {ds:List D} {vs:List V} {us:List af} {ps:List rj},bI X.K H ds vs->Vals vs us->jW (su 4) ds=some ps ->
   us.any (xO s.heap p)=ps.any (fun q=>fN q p)/\∀u∈us,∃q as,GV s.heap u q as/\q.canLay0=true/\q.depth<=4:=by
 intro ds vs us ps hr hv h
 induction hv generalizing ds ps with
 |nil=>
  cases hr
  cases h
  exact⟨rfl,fun _ z=>nomatch z⟩
 |cons q qs ih=>
  cases hr with
  |cons r rs=>
   obtain⟨p',ps',e1,e2,rfl⟩:=zj h
   obtain⟨⟨as,h1⟩,h2,h3⟩:=dm I 4 r q e1
   obtain⟨g1,g2⟩:=ih rs e2
   refine⟨by rw[gv,gv,Qx h1 h2,g1],fun u hu=>?_⟩
   rcases bE.mp hu with e | hu
   ·rw[e];exact⟨_,_,h1,h2,h3⟩
   ·exact g2 u hu
theorem zx{A:dS}{pins:List (aE×Obj)}{σ:St}{H:Hp}{s:ah}(I:Inv X pins σ H s)(hu:A.units+8<md){x:D}{vx:V}{ux:af}{p:rj}(rx:Rep X.K H x vx)(qx:RelV vx ux)(ex:su 4 x=some p)
  {us:List af} (h:∀u∈us,∃q as,GV s.heap u q as/\q.canLay0=true/\q.depth<=4):∀u,u∈us.toArray->Kx A s u ux (xO s.heap p u):=fun u hm=>by
 obtain⟨q,as,h1,h2,h3⟩:=h u (by simpa using hm)
 obtain⟨⟨bs,g1⟩,g2,g3⟩:=dm I 4 rx qx ex
 rw[Qx h1 h2]
 exact SeqAt.eqAt_reads _ _ A s _ _ _ _ h1 g1 h2 g2 (by have:=As q.depth p.depth;omega)
theorem in1_units{A:dS}(h:A.units+64<md):A.in1.units+8<md:=by
 have e:A.in1.units=A.units+1:=rfl
 omega
theorem Xe(hu:X.A.units+64<md):gW X (eW .In) (cg X.K (wY false)):=by
 intro pins s σ H x y v u Q I rx ry h
 obtain⟨dx,dy,H3,Q3,hr,rdx,rdy,t,k⟩:=h
 simp only[wY] at t
 split at t
 ·rename_i p ps e1 e2
  simp only[jS] at e2
  obtain⟨ds,e2,e3⟩:=e2
  have fin:=k _ _ _ _ TK.refl hr (.bl _) t
  cases rdy with
  |ref a=>
   (delta yq at e2;dsimp only at e2)
   split at e2
   ·rename_i ds' ha
    cases e2
    obtain⟨vs,ga,ra⟩:=hr a _ ha
    cases ry
    obtain⟨its,rv,pl,_⟩:=I.list (gB.of ga)
    obtain⟨g1,g2⟩:=lB I p ra rv e3
    refine E7 (xO s.heap p) pl.isList (zx I (in1_units hu) rdx rx e1 g2) ⟨.bl _,H,I,rfl,?_⟩
    rw[show its.toArray.any (xO s.heap p)=its.any (xO s.heap p) by simp,g1]
    exact fin
   ·cases e2
  |fl ha ra=>
   cases e2
   cases ry
   obtain⟨its,rv,pl,_⟩:=I.list ha.sq
   obtain⟨g1,g2⟩:=lB I p ra rv e3
   refine E7 (xO s.heap p) pl.isList (zx I (in1_units hu) rdx rx e1 g2) ⟨.bl _,H,I,rfl,?_⟩
   rw[show its.toArray.any (xO s.heap p)=its.any (xO s.heap p) by simp,g1]
   exact fin
  |tup ha ra=>
   cases e2
   cases ry
   obtain⟨its,rv,pl,_⟩:=I.tuple (mO.of ha)
   obtain⟨g1,g2⟩:=lB I p ra rv e3
   refine SeqAt.in_tupleAt (xO s.heap p) pl (zx I (in1_units hu) rdx rx e1 g2) ⟨.bl _,H,I,rfl,?_⟩
   rw[show its.toArray.any (xO s.heap p)=its.any (xO s.heap p) by simp,g1]
   exact fin
  |_=>cases e2
 ·exact t.elim
theorem Ky(hu:X.A.units+64<md):gW X (eW .NotIn) (cg X.K (wY true)):=by
 intro pins s σ H x y v u Q I rx ry h
 obtain⟨dx,dy,H3,Q3,hr,rdx,rdy,t,k⟩:=h
 simp only[wY] at t
 split at t
 ·rename_i p ps e1 e2
  simp only[jS] at e2
  obtain⟨ds,e2,e3⟩:=e2
  have fin:=k _ _ _ _ TK.refl hr (.bl _) t
  cases rdy with
  |ref a=>
   (delta yq at e2;dsimp only at e2)
   split at e2
   ·rename_i ds' ha
    cases e2
    obtain⟨vs,ga,ra⟩:=hr a _ ha
    cases ry
    obtain⟨its,rv,pl,_⟩:=I.list (gB.of ga)
    obtain⟨g1,g2⟩:=lB I p ra rv e3
    refine CO (xO s.heap p) pl.isList (zx I (in1_units hu) rdx rx e1 g2) ⟨.bl _,H,I,rfl,?_⟩
    rw[show its.toArray.any (xO s.heap p)=its.any (xO s.heap p) by simp,g1]
    exact fin
   ·cases e2
  |fl ha ra=>
   cases e2
   cases ry
   obtain⟨its,rv,pl,_⟩:=I.list ha.sq
   obtain⟨g1,g2⟩:=lB I p ra rv e3
   refine CO (xO s.heap p) pl.isList (zx I (in1_units hu) rdx rx e1 g2) ⟨.bl _,H,I,rfl,?_⟩
   rw[show its.toArray.any (xO s.heap p)=its.any (xO s.heap p) by simp,g1]
   exact fin
  |tup ha ra=>
   cases e2
   cases ry
   obtain⟨its,rv,pl,_⟩:=I.tuple (mO.of ha)
   obtain⟨g1,g2⟩:=lB I p ra rv e3
   refine SeqAt.notIn_tupleAt (xO s.heap p) pl (zx I (in1_units hu) rdx rx e1 g2) ⟨.bl _,H,I,rfl,?_⟩
   rw[show its.toArray.any (xO s.heap p)=its.any (xO s.heap p) by simp,g1]
   exact fin
  |_=>cases e2
 ·exact t.elim
def tyH(H:aG)(d:D):Option String:=match d with
 |.non=>some "NoneType"
 |.bl _=>some "bool"
 |.int _=>some "int"
 |.str _=>some "str"
 |.tup _=>some "tuple"
 |.fl _=>some "list"
 | .ref a => (match H a with
  |some (.lst _)=>some "list"
  |some (.dic _)=>some "dict"
  |_=>none)
 |.ty _=>none
 |.ktup _=>some "tuple"
def ZV(U T:String):Bool:=U==T||(U == "bool" && T == "int")
def kinds:List String:=["int", "bool", "str", "tuple", "list", "dict"]
def wQ:List D->aG->aX->Prop:=fun ds H Q=>match ds with
 | [x,.ty T] => (match tyH H x with
  |some U=>T∈kinds/\Q (.bl (ZV U T)) H
  |none=>False)
 |_=>False
theorem Za(K:ae)(U T:String)(hU:U ∈ "NoneType"::kinds)(hT:T∈kinds):ax K (.type U) (.type T)=some (ZV U T):=by
 simp only[kinds,bE,gx,or_false] at hU hT
 rcases hU with rfl | rfl | rfl | rfl | rfl | rfl | rfl <;> rcases hT with rfl | rfl | rfl | rfl | rfl | rfl <;> kernel_rfl
theorem KJ{ds:List D}{H:aG}{Q:aX}(t:wQ ds H Q):∃x T U,ds=[x,.ty T]/\tyH H x=some U/\T∈kinds/\Q (.bl (ZV U T)) H:=by
 unfold wQ at t
 split at t
 ·split at t
  ·exact⟨_,_,_,rfl,by assumption,t⟩
  ·exact t.elim
 ·exact t.elim
theorem Vl:eV X (.builtin "isinstance") (g8 X.K wQ):=by
 intro pins s σ H xs us Q I rs h
 obtain⟨ds,H3,Q3,hr,rd,t,k⟩:=h
 obtain⟨x,T,U,rfl,eU,hT,t⟩:=KJ t
 cases rd with | cons r1 r2=>cases r2 with | cons r2 r3=>cases r3 with | nil=>cases r2 with | ty _=>
 obtain⟨u,w,rfl,ru,rw'⟩:=vals2 rs
 obtain rfl:w=CC T:=rw'
 have fin:∀tk,EP X pins σ Q (.bool (ZV U T)) { s with toks:=tk }:=fun tk=>⟨.bl _,H,I.tok tk,rfl,k _ _ _ _ TK.refl hr (.bl _) t⟩
 have e:∀(hU:U ∈ "NoneType"::kinds),ax X.K (.type U) (.type T)=some (ZV U T):=fun hU=>Za X.K U T hU hT
 cases r1 with
 |non=>cases eU;exact iR I ru (.non) (e (.head _)) fin
 |bl b=>cases eU;exact iR I ru (.bl b) (e (.tail _ (.tail _ (.head _)))) fin
 |int b=>cases eU;exact iR I ru (.int b) (e (.tail _ (.head _))) fin
 |str b=>cases eU;exact iR I ru (.str b) (e (.tail _ (.tail _ (.tail _ (.head _))))) fin
 |ty b=>cases eU
 |tup ha ra=>
  cases eU
  cases ru
  obtain⟨its,_,⟨o,h1,h2,_⟩,_⟩:=I.tuple (mO.of ha)
  exact e9 ub I.lR ⟨o,h1,h2⟩ (e (.tail _ (.tail _ (.tail _ (.tail _ (.head _)))))) (fun z=>nomatch z) fin
 |ktup ha ra=>
  cases eU
  cases ru
  obtain⟨its,_,⟨o,h1,h2,_⟩,_⟩:=I.tuple ha.sq
  exact e9 ub I.lR ⟨o,h1,h2⟩ (e (.tail _ (.tail _ (.tail _ (.tail _ (.head _)))))) (fun z=>nomatch z) fin
 |fl ha ra=>
  cases eU
  cases ru
  obtain⟨its,_,pl,_⟩:=I.list ha.sq
  obtain⟨o,h1,h2,_⟩:=pl.isList
  exact e9 wq I.lR ⟨o,h1,h2⟩ (e (.tail _ (.tail _ (.tail _ (.tail _ (.tail _ (.head _))))))) (fun z=>nomatch z) fin
 |ref a=>
  (delta tyH at eU;dsimp only at eU)
  split at eU
  ·rename_i ds ha
   cases eU
   obtain⟨vs,ga,ra⟩:=hr a _ ha
   exact iR I ru (.lst ga) (e (.tail _ (.tail _ (.tail _ (.tail _ (.tail _ (.head _))))))) fin
  ·rename_i ds ha
   cases eU
   obtain⟨vs,ga,ra⟩:=hr a _ ha
   exact iR I ru (.dT ga) (e (.tail _ (.tail _ (.tail _ (.tail _ (.tail _ (.tail _ (.head _)))))))) fin
  all_goals cases eU
def m3(r:D->List D->aG->aX->Prop)(to:bL)(t:sG):bL:=fun σ H Q=>to σ H fun x H1=>(match x with
 | .ref a => (match H1 a with
  |some (.lst _)=>t σ H1 fun xs H2=>r x xs H2 Q
  |_=>False)
 |_=>False)
theorem wB{o e:cS}{es:List cS}{to:bL}{t:sG}{name:Str}{apos cpos:Pos}{id:String}{r:D->List D->aG->aX->Prop}(slot:Slot "list" name id)(hty:CL (.builtin id)=pure (.type "method_descriptor"))(hm:La X id (liftM X.K r))(ho:b8 X o to)(ha:JS X (e::es) t)
  (hbase:ly o name X.env (eR o X.env)=eR o X.env:=by rfl)
  (hfew:((i3 cpos (aI (e::es) X.env)).all (fun x => !x.1) && (qh cpos (la [] X.env)).all (fun x => x.1.isSome)
   && decide ((e::es).length+([]:List tJ).length+(if ([]:List tJ).isEmpty then 0 else 1)<30))=true:=by rfl)
  (hline:(apos.endLine==cpos.line)=true:=by rfl) (hs:aI (e::es) X.env=(false,eR e X.env)::aI es X.env:=by rfl) (hplain:(i3 cpos (aI es X.env)).any (·.1)=false:=by rfl) :
  b8 X (.Call (.Attribute o name apos) (e::es) [] cpos) (m3 r to t) :=
 bT (Vw yk slot hty hm ho ha hbase hfew hline hs hplain) fun _ _ _ zz=>zz.ex fun σ3 H3 Q3 sr hr t k=>⟨σ3,H3,_,sr,hr,t,fun x v H3a Ha tka hra rx qa=>by
  cases rx with
  |ref a=>
   simp only[] at qa
   split at qa
   ·rename_i ds ha
    obtain⟨vs,ga,ra⟩:=hra a _ ha
    exact⟨.inl ⟨rfl,vs,gB.of ga⟩,σ3,H3a,_,sr.mono tka,hra,qa,fun ds us H3b Hb tkb hrb rs qb=>⟨.ref a,ds,H3b,Q3,hrb,.ref a,rs,qb,k.mono (tka.trans tkb)⟩⟩
   ·exact qa.elim
  |_=>exact qa.elim⟩
theorem Ys{o:cS}{to:bL}{name:Str}{apos cpos:Pos}{id:String}{r:D->List D->aG->aX->Prop}(slot:Slot "list" name id)(hty:CL (.builtin id)=pure (.type "method_descriptor"))(hm:La X id (liftM X.K r))(ho:b8 X o to)
  (hbase:ly o name X.env (eR o X.env)=eR o X.env:=by rfl) (hline:(apos.endLine==cpos.line)=true:=by rfl) :
  b8 X (.Call (.Attribute o name apos) [] [] cpos) (m3 r to aK) :=
 bT (Zg yk slot hty hm ho hbase hline) fun _ _ _ zz=>zz.ex fun σ3 H3 Q3 sr hr t k=>⟨σ3,H3,_,sr,hr,t,fun x v H3a Ha tka hra rx qa=>by
  cases rx with
  |ref a=>
   simp only[] at qa
   split at qa
   ·rename_i ds ha
    obtain⟨vs,ga,ra⟩:=hra a _ ha
    exact⟨.inl ⟨rfl,vs,gB.of ga⟩,.ref a,[],H3a,Q3,hra,.ref a,.nil,qa,k.mono tka⟩
   ·exact qa.elim
  |_=>exact qa.elim⟩
def nZ:D->List D->aG->aX->Prop:=fun x xs H Q=>match x,xs with
 | .ref a,[y] => (match H a with
  |some (.lst ds)=>ds.length<bS/\Q .non (aP H a (.lst (ds++[y])))
  |_=>False)
 |_,_=>False
theorem oW:La X "list.append" (liftM X.K nZ):=by
 intro pins s σ H x xs v us Q I rx rs h
 obtain⟨d,ds,H3,Q3,hr,rd,rds,t,k⟩:=h
 cases rd with
 |ref a=>
  cases rds with
  |nil=>exact t.elim
  |cons r1 r2=>
   cases r2 with
   |cons _ _=>exact t.elim
   |nil=>
    (delta nZ at t;dsimp only at t)
    split at t
    ·rename_i ds ha
     obtain⟨vs,ga,ra⟩:=hr a _ ha
     exact yC pins s σ H _ _ v us Q I rx rs ⟨a,vs,_,rfl,rfl,ga,by rw[←ra.length];exact t.1,k _ _ _ _ (TK.lst ga) (hr.wA (TK.lst ga) ((ra.snoc r1).mono (TK.lst ga))) .non t.2⟩
    ·exact t.elim
 |_=>exact t.elim
def Dw:D->List D->aG->aX->Prop:=fun x xs H Q=>match x,xs with
 | .ref a,[.ref b] => (match H a,H b with
  |some (.lst ds),some (.lst es)=>ds.length+es.length<=bS/\Q .non (aP H a (.lst (ds++es)))
  |_,_=>False)
 |_,_=>False
theorem T5:La X "list.extend" (liftM X.K Dw):=by
 intro pins s σ H x xs v us Q I rx rs h
 obtain⟨d,ds,H3,Q3,hr,rd,rds,t,k⟩:=h
 cases rd with
 |ref a=>
  cases rds with
  |nil=>exact t.elim
  |cons r1 r2=>
   cases r2 with
   |cons _ _=>cases r1 <;> exact t.elim
   |nil=>
    cases r1 with
    |ref b=>
     (delta Dw at t;dsimp only at t)
     split at t
     ·rename_i ds es ha hb
      obtain⟨vs,ga,ra⟩:=hr a _ ha
      obtain⟨ws,gb,rb⟩:=hr b _ hb
      exact Mq pins s σ H _ _ v us Q I rx rs ⟨a,b,vs,ws,rfl,rfl,ga,gb,by rw[←ra.length,←rb.length];exact t.1,k _ _ _ _ (TK.lst ga) (hr.wA (TK.lst ga) ((ra.append rb).mono (TK.lst ga))) .non t.2⟩
     ·exact t.elim
    |_=>exact t.elim
 |_=>exact t.elim
def Dl:D->List D->aG->aX->Prop:=fun x xs H Q=>match x,xs with
 | .ref a,[] => (match H a with
  |some (.lst ds)=>(match ds[ds.length-1]? with | some y=>Q y (aP H a (.lst ds.dropLast)) | none=>False)
  |_=>False)
 |_,_=>False
theorem Td:La X "list.pop" (liftM X.K Dl):=by
 intro pins s σ H x xs v us Q I rx rs h
 obtain⟨d,ds,H3,Q3,hr,rd,rds,t,k⟩:=h
 cases rd with
 |ref a=>
  cases rds with
  |cons _ _=>exact t.elim
  |nil=>
   (delta Dl at t;dsimp only at t)
   split at t
   ·rename_i ds ha
    split at t
    ·rename_i y ey
     obtain⟨vs,ga,ra⟩:=hr a _ ha
     obtain⟨w,ew,rw'⟩:=ra.get ey
     exact Zj pins s σ H _ _ v us Q I rx rs ⟨a,vs,w,rfl,rfl,ga,by rw[←ra.length];exact ew,k _ _ _ _ (TK.lst ga) (hr.wA (TK.lst ga) (ra.dropLast.mono (TK.lst ga))) (rw'.mono (TK.lst ga)) t⟩
    ·exact t.elim
   ·exact t.elim
 |_=>exact t.elim
end
theorem Ge{scope:lP}{env:Env}(h:∀y,(y,NameKind.free)∈scope.names->∃c,env.cells.lookup y=some c) :
  ∃cl,zh scope env=pure cl/\(∀y c,cl.lookup y=some c->env.cells.lookup y=some c)/\∀y,(y,NameKind.free)∈scope.names->∃c,cl.lookup y=some c:=by
 have go:∀(names:List (Str×ui)) (cs:List (Str×aE)),(∀y,(y,NameKind.free)∈names->∃c,env.cells.lookup y=some c)->(∀y c,cs.lookup y=some c->env.cells.lookup y=some c) ->
   ∃cl,(forIn (m:=Sem) names cs fun (x:Str×ui) r=>match x with
    |(name,kind)=>if (kind==NameKind.free)=true then do let c ←cellOf env name;pure (mS ((name,c)::r)) else pure (mS r))=pure cl /\
    (∀y c,cl.lookup y=some c->env.cells.lookup y=some c)/\(∀y,(y,NameKind.free)∈names->∃c,cl.lookup y=some c)/\∀y c,cs.lookup y=some c->∃c',cl.lookup y=some c':=by
  intro names
  induction names with
  |nil=>intro cs _ h2;exact⟨cs,rfl,h2,(fun _ z=>nomatch z),fun y c e=>⟨c,e⟩⟩
  |cons x r ih=>
   intro cs h1 h2
   obtain⟨n,k⟩:=x
   by_cases hk:k=NameKind.free
   ·subst hk
    obtain⟨c,hc⟩:=h1 n eg
    have ec:cellOf env n=pure c:=by unfold cellOf;rw[hc]
    have h2':∀y c',((n,c)::cs).lookup y=some c'->env.cells.lookup y=some c':=fun y c' e=>by
     rw[fR] at e
     split at e
     ·rename_i he
      cases e
      rw[eq_of_beq he];exact hc
     ·exact h2 y c' e
    obtain⟨cl,e1,e2,e3,e4⟩:=ih ((n,c)::cs) (fun y hy=>h1 y (dQ _ hy)) h2'
    have hn:∃c',cl.lookup n=some c':=e4 n c (by rw[fR];simp)
    refine⟨cl,?_,e2,fun y hy=>?_,fun y c' e=>?_⟩
    ·rw[mT]
     simp only[beq_self_eq_true,if_true,ec]
     exact e1
    ·rcases bE.mp hy with z | z
     ·cases z;exact hn
     ·exact e3 y z
    ·by_cases hy:y=n
     ·rw[hy];exact hn
     ·exact e4 y c' (by rw[fR,beq_eq_false_iff_ne.mpr hy];exact e)
   ·have hb:(k==NameKind.free)=false:=by simpa using hk
    obtain⟨cl,e1,e2,e3,e4⟩:=ih cs (fun y hy=>h1 y (dQ _ hy)) h2
    refine⟨cl,?_,e2,fun y hy=>?_,e4⟩
    ·rw[mT]
     simp only[hb,js,if_false]
     exact e1
    ·rcases bE.mp hy with z | z
     ·cases z;exact absurd rfl hk
     ·exact e3 y z
 obtain⟨cl,e1,e2,e3,_⟩:=go scope.names [] h (fun _ _ e=>by simp at e)
 refine⟨cl,?_,e2,e3⟩
 unfold zh
 refine Kb (congrArg (fun t=>t >>= fun cs=>pure cs) e1) ?_
 rfl
theorem Li{prog:b5}{w:cE}{A:dS}{R:Kt->ah->Prop}{s:ah}{elt target iter:cS}{ifs:List cS}{scope:lP}{pos:Pos}{it acc:af}{env:Env}(I:Nat->ah->Prop)
  (turn:∀ n s,I n s→bq (cf prog w) A (EC it) (fun r s₁ => match r with
   |none=>R (.ok .next) s₁
   | some v => bq (cf prog w) A (sL target it v) (fun _ s₁' => bq (cf prog w) A (CF target env v) (fun _ s₂ =>
     bq (cf prog w) A (forIn ifs true fun c r=>if r=true then do let ok ←F6 c env (eR c env);pure (mS ok) else pure (mS r)) (fun ok s₃=>
      if ok=true then bq (cf prog w) A (eR elt env) (fun x s₄=>
       bq (cf prog w) A (call (.builtin "list.append") [acc,x]) (fun _ s₅=>∃m,m<n/\I m s₅) (fun _ _=>False) s₄) (fun _ _=>False) s₃
      else ∃m,m<n/\I m s₃) (fun _ _=>False) s₂) (fun _ _=>False) s₁') (fun _ _=>False) s₁) (fun _ _=>False) s)
  (n:Nat) (h:I n s) :
  wt (cf prog w) A (.compLoop (.ListComp elt [⟨target,iter,ifs,0⟩] scope pos) 0 it acc env) R s:=by
 refine codeAny_loop rfl I (fun n s hI=>?_) n h
 show bq _ A ((compTurn (.ListComp elt [⟨target,iter,ifs,0⟩] scope pos) 0 it acc env).onRaise (fun x=>do BG x env;theTreesLotGoes x)) _ _ s
 refine wpAny_noted ?_
 rw[compTurn_list]
 refine ag (sd (ag (eB (turn n s hI) (fun r s₁ h₁=>?_) fun _ _ h'=>h'.elim)))
 cases r with
 |none=>exact bg h₁
 |some v=>
  refine ag (eB h₁ (fun _ s₁' h₁'=>?_) fun _ _ h'=>h'.elim)
  refine ag (eB h₁' (fun _ s₂ h₂=>ag (eB h₂ (fun ok s₃ h₃=>?_) fun _ _ h'=>h'.elim)) fun _ _ h'=>h'.elim)
  cases ok with
  |false=>exact bg ⟨rfl,h₃⟩
  |true=>
   exact ag (ag (eB h₃ (fun x s₄ h₄=>ag (eB h₄ (fun _ s₅ h₅=>bg (bg ⟨rfl,h₅⟩)) fun _ _ h'=>h'.elim)) fun _ _ h'=>h'.elim))
def uW(X:Cx)(N':List Str)(scope:lP)(cl:List (Str×aE))(s₁:ah)(H₁:Hp)(fp:List aE)(pins:List (aE×Obj)):Cx where
 prog:=X.prog
 w:=X.w
 K:=X.K
 mg:=X.mg
 base:=X.base
 A:=X.A
 N:=N'
 s₀:=s₁
 H₀:=H₁
 env:=compEnvC scope cl s₁.heap.objs.size X.env
 outer:=X.stack
 stack:=X.stack
 ex:=fp
 fn:=fun _=>false
 calm:=X.calm
 pn:=X.pn++pins
 xe:=fun _ _=>False
abbrev FV:=List (Nat×Str)
def adI(scope sc:lP):lP:={ scope with names:=scope.names.map fun (n,k)=>if (k == .free&&sc.kind == .function&&sc.names.lookup n==some .cell) then (n,.cell) else (n,k) }
structure dR(sc:lP)(N:List Str)(scope:lP)(N':List Str)(own:List Str)(fv:FV):Prop where
 kind:scope.kind=.function
 nocell:∀y∈scope.names,y.2≠.cell
 loc:∀y∈scope.names,y.2=.local->scope.names.lookup y.1=some .local
 fre':∀y∈scope.names,y.2=.free->sc.names.lookup y.1=some .cell
 eqN:N'=own++fv.map (·.2)
 nd:N'.Nodup
 slot:∀p∈fv,N[p.1]?=some p.2/\sc.names.lookup p.2=some .cell/\(adI scope sc).names.lookup p.2=some .cell
theorem dR.fre{sc scope:lP}{N N' own:List Str}{fv:FV}(c:dR sc N scope N' own fv):∀y,(y,NameKind.free)∈scope.names->sc.names.lookup y=some .cell:=fun y hy=>c.fre' _ hy rfl
def blk(own:List Str)(fv:FV)(σ:St):St:=own.map (fun _=>none)++fv.map fun p=>(σ[p.1]?).join
theorem iW{scope:lP}{env:Env}:∀ {names:List (Str×ui)} {y:Str} {k:ui},
  (names.map fun (n,k)=>if (k==NameKind.free&&env.scope.kind == .function&&env.kindOf n==some .cell) then (n,NameKind.cell) else (n,k)).lookup y=some k->k=.cell\/k=.free->(∀z∈names,z.2≠.cell)->(y,NameKind.free)∈names
 |[],_,_,h,_,_=>by simp at h
 |(n,k0)::r,y,k,h,hk,hc=>by
  rw[ck] at h
  by_cases hf:k0=NameKind.free
  ·by_cases hy:y=n
   ·subst hy;subst hf;exact eg
   ·refine dQ _ (iW (env:=env) (scope:=scope) (k:=k) ?_ hk fun z hz=>hc z (dQ _ hz))
    dsimp only at h
    have hyb:(y==n)=false:=beq_eq_false_iff_ne.mpr hy
    split at h <;> (rw[fR,hyb] at h;exact h)
  ·have hb:(k0==NameKind.free)=false:=by simpa using hf
   simp only[hb,F8,js,if_false] at h
   rw[fR] at h
   by_cases hy:y=n
   ·subst hy
    simp only[beq_self_eq_true] at h
    cases h
    rcases hk with z | z
    ·exact absurd z (hc _ eg)
    ·exact absurd z hf
   ·have hyb:(y==n)=false:=beq_eq_false_iff_ne.mpr hy
    rw[hyb] at h
    exact dQ _ (iW (env:=env) (scope:=scope) (k:=k) h hk fun z hz=>hc z (dQ _ hz))
section
variable{X:Cx}{pins:List (aE×Obj)}{σ:St}{H₁:Hp}{s₁ s₂:ah}{scope:lP}{cl:List (Str×aE)}{N' own:List Str}{fv:FV}{fp:List aE}
theorem Y5(I:Inv X pins σ H₁ s₁)(c:dR X.env.scope X.N scope N' own fv)(h1:∀y c,cl.lookup y=some c->X.env.cells.lookup y=some c)(h2:∀y,(y,NameKind.free)∈scope.names->∃c,cl.lookup y=some c)
  (hf:∀b∈fp,j9 X pins H₁ b/\b<s₁.heap.objs.size):(uW X N' scope cl s₁ H₁ fp pins).Ok where
 mod:=I.ok.mod
 kind:=c.kind
 glob:=I.ok.glob
 blt:=I.ok.blt
 above:=aT _
 inj:=fun x y a e1 e2=>I.ok.inj x y a (h1 x a e1) (h1 y a e2)
 has:=fun x hx=>by
  have hx':(IP scope X.env).names.lookup x=some .cell\/(IP scope X.env).names.lookup x=some .free:=hx
  rcases hx' with z | z
  ·exact h2 x (iW (scope:=scope) (env:=X.env) z (.inl rfl) c.nocell)
  ·exact h2 x (iW (scope:=scope) (env:=X.env) z (.inr rfl) c.nocell)
 cab:=fun x a e=>by cases e
 hd:=I.ok.hd
 frames:=I.ok.frames
 stk:=.inl rfl
 exf:=fun b hb=>⟨df (hf b hb).2,fun x a e=>(hf b hb).1.2.2.2.2.1 x a (h1 x a e)⟩
 bs:=I.bs
 bsz:=eh I.ok.bsz I.sz
 noex:=fun b o e hb=>by
  rcases (hf b hb).1.2.2.2.1 with z | z
  ·exact I.ok.noex b o e z
  ·exact absurd (b9 (bp (I.ok.bs b o e).1) z) (nk _)
 exfs:=fun b hb hm=>by
  rcases bE.mp (I.wI b hm) with z | z
  ·exact (hf b hb).1.2.1 z
  ·exact (hf b hb).1.2.2.1 z
 pL:=I.stack
 frf:=I.vA
theorem Ud:(blk own fv σ).length=(own++fv.map (·.2)).length:=by simp[blk]
theorem Nj(I:Inv X pins σ H₁ s₁)(c:dR X.env.scope X.N scope N' own fv)(h1:∀y c,cl.lookup y=some c->X.env.cells.lookup y=some c)(h2:∀y,(y,NameKind.free)∈scope.names->∃c,cl.lookup y=some c)
  (hf:∀b∈fp,j9 X pins H₁ b/\b<s₁.heap.objs.size) {h':eJ} {m:Str->Option af} {tk:Nat} (hn:h'.Ns s₁.heap.objs.size m) (kp:∀b o,s₁.heap.get? b=some o->h'.get? b=some o) :
  Inv (uW X N' scope cl s₁ H₁ fp pins) [] (blk own fv σ) H₁ { s₁ with heap:=h',toks:=tk } where
 ok:=Y5 I c h1 h2 hf
 os:=rfl
 bare:=I.bare
 base:=Un.kept kp
 loc:=by
  refine⟨m,hn,fun i x v e1 e2 e3=>?_⟩
  have e1':(own++fv.map (·.2))[i]?=some x:=by rw[←c.eqN];exact e1
  have hi:¬i<own.length:=fun hi=>by
   unfold blk at e2
   rw[eL (by simpa using hi),aS] at e2
   cases z:own[i]? with
   |none=>rw[z] at e2;cases e2
   |some y=>rw[z] at e2;cases e2
  unfold blk at e2
  rw[fg (by simpa using hi),aw,aS] at e2
  rw[fg (by simpa using hi),aS] at e1'
  cases z:fv[i-own.length]? with
  |none=>rw[z] at e2;cases e2
  |some p=>
   rw[z] at e2 e1'
   have ex:p.2=x:=Option.some.inj e1'
   subst ex
   obtain⟨g1,g2,g3⟩:=c.slot p (iA z)
   have e2':(σ[p.1]?).join=some v:=Option.some.inj e2
   have e2'':σ[p.1]?=some (some v):=by
    cases q:σ[p.1]? with
    |none=>rw[q] at e2';cases e2'
    |some o=>rw[q] at e2';rw[show o=some v from e2']
   obtain⟨m0,hn0,hl0⟩:=I.loc
   obtain⟨u,ru,lu⟩:=hl0 p.1 p.2 v g1 e2'' (.inr (.inl g2))
   refine⟨u,ru,.inr ⟨.inl g3,?_⟩⟩
   rcases lu with ⟨k,_⟩ | ⟨_,cc,ec,ic⟩
   ·exact absurd (show X.env.scope.names.lookup p.2=some NameKind.local from k) (by rw[g2];intro z;cases z)
   ·have hfree:(p.2,NameKind.free)∈scope.names:=iW (scope:=scope) (env:=X.env) g3 (.inl rfl) c.nocell
    obtain⟨c',ec'⟩:=h2 _ hfree
    have:=h1 _ _ ec'
    rw[ec] at this
    cases this
    obtain⟨o,ho,hd⟩:=ic
    exact⟨cc,ec',o,kp _ _ ho,hd⟩
 cell:=fun x a e=>by
  obtain⟨v,o,ho,hd⟩:=I.cell x a (h1 x a e)
  exact⟨v,o,kp _ _ ho,hd⟩
 free:=I.hok.fresh (aT _)
 freeC:=fun x a e=>I.freeC x a (h1 x a e)
 pin:=fun p hp=>by
  rw[fA] at hp
  obtain⟨g1,g2,g3,g4,g5⟩:=I.pin p hp
  refine⟨kp _ _ g1,g2,df (bp g1),fun hm=>?_,g5⟩
  rcases bE.mp (I.wI p.1 hm) with z | z
  ·exact g3 z
  ·exact g4 z
 hok:=I.hok.kept kp
 len:=by rw[Ud,←c.eqN];rfl
theorem P0{σ':St}{H':Hp}(I:Inv X pins σ H₁ s₁)(hf:∀b∈fp,j9 X pins H₁ b/\b<s₁.heap.objs.size)(J:Inv (uW X N' scope cl s₁ H₁ fp pins) [] σ' H' s₂) :
  Inv X pins σ H' s₂/\j9 X pins H' s₁.heap.objs.size/\∃m,s₂.heap.Ns s₁.heap.objs.size m:=by
 have I2:Inv X pins σ H' s₂:=I.call' (ch:=fp) J.os J.base J.hok J.bare fun b hb=>⟨(hf b hb).1.2.2.2.1,(hf b hb).1.2.1,(hf b hb).1.2.2.2.2.1,(hf b hb).1.2.2.2.2.2⟩
 obtain⟨m,hn,_⟩:=J.loc
 exact⟨I2,⟨J.free,(I.wC (H':=H') (aT _) J.free).2⟩,m,hn⟩
end
def Ru(X:Cx)(ifs:List cS)(t:TT):Prop:=∀(pins:List (aE×Obj)) (s:ah) (σ:St) (H:Hp) (Q:Bool->Hp->Prop),Inv X pins σ H s->t σ H Q ->
 bq (cf X.prog X.w) X.A (forIn ifs true fun c r=>if r=true then do let ok ←F6 c X.env (eR c X.env);pure (mS ok) else pure (mS r)) (TP X pins σ Q) X.xe s
theorem Rc{X:Cx}:Ru X [] (fun _ H Q=>Q true H):=fun _ _ _ H _ I h=>wpAny_tests_nil ⟨H,I,h⟩
def Iu(wi:TI)(g:TG)(tc:TT)(te:TE)(own:List Str)(fv:FV):TE:=fun σ H Q=>wi σ H fun J H1=>∀p,H1 p=none->∃W:Nat->Nat->Hp->Prop,(∃m,W 0 m (upd H1 p (.lst [])))/\∀i m H2,W i m H2 ->
 (J.stop i H2∧Q (.ref p) H2)∨(J.go i H2∧∀ x H3,J.yld i H2 x H3→g x (blk own fv σ) H3 fun σ2 H4 => tc σ2 H4 fun b H5 => if b = true then te σ2 H5 fun v H6 => ∃ acc,H6 p = some (.lst acc)∧acc.length < bS ∧
  ∃m',m'<m/\W (i+1) m' (upd H6 p (.lst (acc++[v]))) else ∃m',m'<m/\W (i+1) m' H5)
theorem zE{X:Cx}{pins:List (aE×Obj)}{σ:St}{H:Hp}{s:ah}{elt target iter:cS}{ifs:List cS}{scope:lP}{pos fpos:Pos}{N' own:List Str}{fv:FV}{wi:TI}{g:TG}{tc:TT}{te:TE}{R:VK}{use:Option (af->Sem Unit)}{Q':af->ah->Prop}
  (c:dR X.env.scope X.N scope N' own fv) (hcalm:X.calm=true) (hi:PI X target iter wi)
  (hgk:∀x σ H Q,g x σ H Q->g x σ H fun σ' H'=>(σ'.length=σ.length/\∀i,own.length<=i->σ'[i]?=σ[i]?)/\Q σ' H')
  (hb:∀cl s₁ H₁ fp,PG (uW X N' scope cl s₁ H₁ fp pins) target g/\Ru (uW X N' scope cl s₁ H₁ fp pins) ifs tc/\PE (uW X N' scope cl s₁ H₁ fp pins) elt te)
  (hs:∀x,jI iter X.env x=pure x) (I:Inv X pins σ H s) (h:Iu wi g tc te own fv σ H R)
  (fin:∀(p C:aE) (H':Hp) (s':ah) (m:Str->Option af),Inv X pins σ H' s'->j9 X pins H' C->s'.heap.Ns C m->R (.ref p) H'->compPost (cf X.prog X.w) X.A X.xe use Q' (.ref p) C (.ok .next) s') :
  bq (cf X.prog X.w) X.A (comprehension (.ListComp elt [⟨target,iter,ifs,0⟩] scope pos) scope X.env fpos (newList []) false (eR iter X.env) use) Q' X.xe s:=by
 obtain⟨cl,hclos,h1,h2⟩:=Ge (scope:=scope) (env:=X.env) fun y hy=>I.ok.has y (.inl (c.fre y hy))
 refine wpAny_comprehension_free (use:=use) rfl hs hclos c.kind c.loc (eB (hi pins s σ H _ I h) (fun v s1 h1'=>eB h1' (fun itv s2 h2'=>?_) fun _ _ e=>e) fun _ _ e=>e)
 obtain⟨it,fp,tn,J,H2,rfl,I2,T,st2,f2,q2⟩:=h2'
 refine w8 ?_
 have I3:Inv X pins σ (upd H2 s2.heap.objs.size (.lst [])) { s2 with heap:=s2.heap.push { cls:=.type "list",data:=.seq ([]:List af).toArray } }:=I2.aai (t':=s2.toks) (ys:=[]) (its:=[]) .nil (ef _)
 have np:H2 s2.heap.objs.size=none:=I2.fresh
 generalize hs3:({ s2 with heap:=s2.heap.push { cls:=.type "list",data:=.seq ([]:List af).toArray } }:ah)=s3 at I3
 have e3:s3.heap=s2.heap.push { cls:=.type "list",data:=.seq ([]:List af).toArray }:=by rw[←hs3]
 have old3:∀b o,s2.heap.get? b=some o->s3.heap.get? b=some o:=fun b o e=>by rw[e3];exact av _ e
 have f3:∀b∈fp,j9 X pins (upd H2 s2.heap.objs.size (.lst [])) b/\b<s3.heap.objs.size:=fun b hb=>by
  obtain⟨o,ho,_⟩:=T.obj 0 _ st2 b hb
  have hlt:=bp ho
  refine⟨⟨?_,(f2 b hb).2⟩,bp (old3 b o ho)⟩
  rw[aC (df hlt)]
  exact (f2 b hb).1
 have st3:tn 0 s3.heap:=T.keep 0 _ _ st2 fun b hb o e=>old3 b o e
 refine wpAny_newFunctionEnv c.nocell (by intro y hy;simp at hy) (fun h' hns hsb=>?_) c.kind
 have kp:∀b o,s3.heap.get? b=some o->h'.get? b=some o:=fun b o e=>(hsb.2 b (df (bp e))).trans (av _ e)
 have J0:Inv (uW X N' scope cl s3 (upd H2 s2.heap.objs.size (.lst [])) fp pins) [] (blk own fv σ) (upd H2 s2.heap.objs.size (.lst [])) { s3 with heap:=h',toks:=s3.toks+([]:List (Str×af)).length }:=Nj I3 c h1 h2 f3 hns kp
 have st4:tn 0 h':=T.keep 0 _ _ st3 fun b hb o e=>kp b o e
 obtain⟨W,⟨m0,w0⟩,turn⟩:=q2 s2.heap.objs.size np
 obtain⟨hg,hifs,helt⟩:=hb cl s3 (upd H2 s2.heap.objs.size (.lst [])) fp
 have noP:∀b∈fp,b≠s3.heap.objs.size:=fun b hb=>df (f3 b hb).2
 have stat:∀ {H':Hp},(∀b∈fp,H' b=none)->∀b∈fp,j9 (uW X N' scope cl s3 (upd H2 s2.heap.objs.size (.lst [])) fp pins) [] H' b:=fun hn b hb=>by
  obtain⟨⟨_,g1,g2,g3,g4,g5⟩,g6⟩:=f3 b hb
  refine⟨hn b hb,df g6,fun hm=>?_,.inl hb,fun x a e=>g4 x a (h1 x a e),fun p hp=>g5 p (by simpa [uW] using hp)⟩
  rcases bE.mp (I3.wI b hm) with z | z
  ·exact g1 z
  ·exact g2 z
 have loop:wt (cf X.prog X.w) X.A (.compLoop (.ListComp elt [⟨target,iter,ifs,0⟩] scope pos) 0 (.ref it) (.ref s2.heap.objs.size) (compEnvC scope cl s3.heap.objs.size X.env))
   (compPost (cf X.prog X.w) X.A X.xe use Q' (.ref s2.heap.objs.size) s3.heap.objs.size) { s3 with heap:=h',toks:=s3.toks+([]:List (Str×af)).length }:=by
  refine Li (fun n s'=>∃i H' σ',Inv (uW X N' scope cl s3 (upd H2 s2.heap.objs.size (.lst [])) fp pins) [] (blk own fv σ) H' s'/\σ'=blk own fv σ/\tn i s'.heap/\(∀b∈fp,H' b=none)/\W i n H') ?_ m0 ⟨0,_,_,J0,rfl,st4,fun b hb=>(f3 b hb).1.1,w0⟩
  rintro n s5 ⟨i,H5,_,J5,rfl,st5,fr5,w5⟩
  rcases turn i n H5 w5 with ⟨stop,qn⟩ | ⟨go,step⟩
  ·refine cC (T.done (uW X N' scope cl s3 (upd H2 s2.heap.objs.size (.lst [])) fp pins) rfl rfl rfl hcalm i [] s5 _ H5 _ J5 (stat fr5) st5 stop) fun r s6 hr=>?_
   obtain⟨rfl,J6⟩:=hr
   obtain⟨I6,f6,m6,n6⟩:=P0 I3 f3 J6
   exact fin _ _ H5 s6 m6 I6 f6 n6 qn
  ·refine cC (T.item (uW X N' scope cl s3 (upd H2 s2.heap.objs.size (.lst [])) fp pins) rfl rfl rfl hcalm i [] s5 _ H5 _ J5 (stat fr5) st5 go) fun r s6 hr=>?_
   obtain⟨u,rfl,h6⟩:=hr
   refine cC h6 fun _ s7 h7=>?_
   obtain⟨x,H7,J7,r7,y7,st7,fr7⟩:=h7
   have J7':=J7.pinned (stat fr7) (T.obj _ _ st7)
   refine cC (hg _ s7 _ H7 x u _ J7' r7 (hgk _ _ _ _ (step x H7 y7))) fun _ s8 h8=>?_
   obtain⟨σ8,H8,J8,⟨l8,k8⟩,q8⟩:=h8
   refine cC (hifs _ s8 σ8 H8 _ J8 q8) fun ok s9 h9=>?_
   obtain⟨H9,J9,q9⟩:=h9
   have weak:∀ {H':Hp} {s':ah},Inv (uW X N' scope cl s3 (upd H2 s2.heap.objs.size (.lst [])) fp pins) ([]++vV fp s7.heap) σ8 H' s' ->
     Inv (uW X N' scope cl s3 (upd H2 s2.heap.objs.size (.lst [])) fp pins) [] (blk own fv σ) H' s'/\tn (i+1) s'.heap/\∀b∈fp,H' b=none:=fun {H' s'} J'=>by
    refine⟨J'.qK.weak l8.symm fun j v e=>?_,T.keep _ _ _ st7 fun b hb o e=>(J'.pin (b,o) (eD _ (eD _ (lU hb e)))).1,fun b hb=>?_⟩
    ·have hj:own.length<=j:=yi fun hj=>by
      unfold blk at e
      rw[eL (by simpa using hj),aS] at e
      cases z:own[j]? with
      |none=>rw[z] at e;cases e
      |some y=>rw[z] at e;cases e
     rw[k8 j hj];exact e
    ·obtain⟨o,e,d⟩:=T.obj _ _ st7 b hb
     exact (J'.pin (b,o) (eD _ (eD _ (lU hb e)))).2.1
   cases ok with
   |false=>
    rw[if_neg ip] at q9 ⊢
    obtain⟨m',hm,w9⟩:=q9
    obtain⟨g1,g2,g3⟩:=weak J9
    exact⟨m',hm,i+1,H9,_,g1,rfl,g2,g3,w9⟩
   |true=>
    rw[if_pos rfl] at q9 ⊢
    refine cC (helt _ s9 σ8 H9 _ J9 q9) fun xv s10 h10=>?_
    obtain⟨v,H10,J10,r10,acc,ea,hl,m',hm,w10⟩:=h10
    refine cC (yC _ s10 σ8 H10 (.ref s2.heap.objs.size) [v] (.ref s2.heap.objs.size) [xv] (fun z H'=>z=.non/\H'=upd H10 s2.heap.objs.size (.lst (acc++[v]))) J10 rfl (.cons r10 .nil) ⟨_,acc,v,rfl,rfl,ea,hl,rfl,rfl⟩) fun _ s11 h11=>?_
    obtain⟨z,H11,J11,_,_,rfl⟩:=h11
    obtain⟨g1,g2,g3⟩:=weak J11
    exact⟨m',hm,i+1,_,_,g1,rfl,g2,g3,w10⟩
 exact codeAny_compStart_list loop (T.self X.A 0 _ _ _ st4 loop)
theorem UG{X:Cx}{elt target iter:cS}{ifs:List cS}{scope:lP}{pos:Pos}{N' own:List Str}{fv:FV}{wi:TI}{g:TG}{tc:TT}{te:TE}
  (c:dR X.env.scope X.N scope N' own fv) (hcalm:X.calm=true) (hi:PI X target iter wi)
  (hgk:∀x σ H Q,g x σ H Q->g x σ H fun σ' H'=>(σ'.length=σ.length/\∀i,own.length<=i->σ'[i]?=σ[i]?)/\Q σ' H')
  (hb:∀pins cl s₁ H₁ fp,PG (uW X N' scope cl s₁ H₁ fp pins) target g/\Ru (uW X N' scope cl s₁ H₁ fp pins) ifs tc/\PE (uW X N' scope cl s₁ H₁ fp pins) elt te)
  (hs:∀x,jI iter X.env x=pure x:=by intro _;rfl):PE X (.ListComp elt [⟨target,iter,ifs,0⟩] scope pos) (Iu wi g tc te own fv):=by
 intro pins s σ H Q I h
 rw[eval_ListComp]
 refine zE (use:=none) (R:=Q) c hcalm hi hgk (hb pins) hs I h fun p C H' s' m J f n q=>?_
 refine⟨m,n,fun h' hs'=>⟨.ref p,H',J.turned (t':=s'.toks) (it:=C) (fun b o hb e=>(hs'.2 b hb).trans e) f.1 f.2.1 f.2.2.2.1 f.2.2.2.2.1 f.2.2.2.2.2,rfl,q⟩⟩
theorem HF{X:Cx}{elt target iter:cS}{ifs:List cS}{scope:lP}{pos spos py:Pos}{y:Str}{j:Nat}{N' own:List Str}{fv:FV}{wi:TI}{g:TG}{tc:TT}{te:TE}
  (hN:X.N.Nodup) (hj:X.N[j]?=some y) (hy:Loc X.env.scope y) (hsw:om (.ListComp elt [⟨target,iter,ifs,0⟩] scope pos) (some (.Name y py)) spos.line X.env=pure true)
  (c:dR X.env.scope X.N scope N' own fv) (hcalm:X.calm=true) (hi:PI X target iter wi)
  (hgk:∀x σ H Q,g x σ H Q->g x σ H fun σ' H'=>(σ'.length=σ.length/\∀i,own.length<=i->σ'[i]?=σ[i]?)/\Q σ' H')
  (hb:∀pins cl s₁ H₁ fp,PG (uW X N' scope cl s₁ H₁ fp pins) target g/\Ru (uW X N' scope cl s₁ H₁ fp pins) ifs tc/\PE (uW X N' scope cl s₁ H₁ fp pins) elt te)
  (hs:∀x,jI iter X.env x=pure x:=by intro _;rfl) (hf:X.fn y=true\/X.env.scope.names.lookup y=some .local:=by first | exact .inl rfl | exact .inr rfl | assumption) :
  PS X (.Assign [.Name y py] (.ListComp elt [⟨target,iter,ifs,0⟩] scope pos) spos) (Y8 (Iu wi g tc te own fv) (uv j)):=by
 intro pins s σ H Dd I h
 rw[exec_Assign_Name_used _ _ _ _ hsw]
 refine ag (sd (ag ?_))
 show bq _ X.A (do let _ ←comprehension (.ListComp elt [⟨target,iter,ifs,0⟩] scope pos) scope X.env _ (newList []) false (eR iter X.env) (some (CF (.Name y py) X.env))) _ _ s
 refine ag (eB (zE (use:=some (CF (.Name y py) X.env)) (Q':=fun _ s'=>SP X pins Dd .next s') c hcalm hi hgk (hb pins) hs I h fun p C H' s' m J f n q=>?_) (fun _ s' hq=>bg (bg hq)) fun _ _ e=>e)
 show bq _ X.A (CF (.Name y py) X.env (.ref p)) _ _ s'
 refine C7 (zu J hN hj hy (v:=.ref p) rfl (fun s'' J' hs''=>?_) hf)
 obtain⟨a,sb,ha⟩:=hs''
 have hC:C≠a:=by
  rcases ha with z | z
  ·rw[z];exact f.2.1
  ·exact fun w=>f.2.2.2.2.1 _ _ z w.symm
 refine⟨m,n.sameBut sb hC,fun h' hs'=>⟨_,H',J'.turned (t':=s''.toks) (it:=C) (fun b o hb e=>(hs'.2 b hb).trans e) f.1 f.2.1 f.2.2.2.1 f.2.2.2.2.1 f.2.2.2.2.2,q⟩⟩
theorem Hj{n:Nat}(h:n<=10000):n<bS:=by rw[show bS=16777216 by decide];omega
def R9(wi:Cd)(g:zN)(tc:xP)(te:bL)(own:List Str)(fv:FV):bL:=fun σ H Q=>wi σ H fun ds keep H1=>(∀H2:aG,aN H1 H2->keep H2)/\ds.length<=10000/\∃rs:List (Option D),rs.length=ds.length /\
 (∀ (i:Nat) (d:D),ds[i]? = some d→∀ H2:aG,aN H1 H2→g d (own.map (fun _ => none)++fv.map fun p => (σ[p.1]?).join) H2 fun σ2 H4 => tc σ2 H4 fun b H5 =>
  if b=true then te σ2 H5 fun v H6=>aN H2 H6/\rs[i]?=some (some v) else aN H2 H5/\rs[i]?=some none) /\
 ∀p,H1 p=none->Q (.ref p) (aP H1 p (.lst (rs.filterMap id)))
theorem WT{K:ae}{H:Hp}{σ3:cz}{σ:St}{own:List Str}{fv:FV}(s:SR K H σ3 σ):SR K H (own.map (fun _=>none)++fv.map fun p=>(σ3[p.1]?).join) (blk own fv σ):=by
 refine⟨by simp[blk],fun i d h=>?_⟩
 have hi:¬i<own.length:=fun hi=>by
  rw[eL (by simpa using hi),aS] at h
  cases z:own[i]? with
  |none=>rw[z] at h;cases h
  |some y=>rw[z] at h;cases h
 rw[fg (by simpa using hi),aw,aS] at h
 unfold blk
 rw[fg (by simpa using hi),aw,aS]
 cases z:fv[i-own.length]? with
 |none=>rw[z] at h;cases h
 |some p=>
  rw[z] at h
  have h':(σ3[p.1]?).join=some d:=Option.some.inj h
  have e:σ3[p.1]?=some (some d):=by
   cases q:σ3[p.1]? with
   |none=>rw[q] at h';cases h'
   |some o=>rw[q] at h';rw[show o=some d from h']
  obtain⟨v,hv,rv⟩:=s.get _ _ e
  exact⟨v,by show some (σ[p.1]?).join=some (some v);rw[hv];rfl,rv⟩
theorem gZ{rs:List (Option D)}{i:Nat}{o:Option D}(h:rs[i]?=some o):(rs.take (i+1)).filterMap id=(rs.take i).filterMap id++o.toList:=by
 rw[ff,h,AN]
 cases o <;> rfl
theorem zG{K:ae}{wi:Cd}{g:zN}{g2:TG}{tc:xP}{te:bL}{own:List Str}{fv:FV}{σ:St}{H:Hp}{Q:VK}(hgr:∀v σ H Q,RW K g v σ H Q->g2 v σ H Q)(h:fP K (R9 wi g tc te own fv) σ H Q):Iu (V2 K wi) g2 (liftT K tc) (fP K te) own fv σ H Q:=by
 obtain⟨σ3,H3,Q3,sr,hr,t,k⟩:=h
 refine⟨σ3,H3,_,sr,hr,t,fun ds keep J H3' H' tk' hr' ok q p np=>?_⟩
 obtain⟨hkeep,hlen,rs,hrl,hel,hfin⟩:=q
 have Gj:H3' p=none:=hr'.fresh np
 have hrs:∀i,((rs.take i).filterMap id).length<=i:=fun i=>eh (xl _ _) (by rw[d2];grind)
 refine⟨fun i m H2=>m=ds.length-i/\i<=ds.length/\TK H' H2/\HR K (aP H3' p (.lst ((rs.take i).filterMap id))) H2,⟨ds.length,by simp,ef _,TK.fresh np,hr'.wA (TK.fresh np) (.nil)⟩,?_⟩
 rintro i m H2 ⟨rfl,hi,tk2,hr2⟩
 have sub2:aN H3' (aP H3' p (.lst ((rs.take i).filterMap id))):=aN.fresh Gj
 obtain⟨go,stop⟩:=ok _ H2 tk2 hr2 (hkeep _ sub2)
 by_cases hlt:i<ds.length
 ·obtain⟨g1,g2⟩:=go i hlt
  refine .inr ⟨g1,fun x H2' y=>?_⟩
  obtain⟨tky,hry,d,ed,rd⟩:=g2 x H2' y
  replace tk2:=tk2.trans tky
  refine hgr _ _ _ _ ⟨d,_,_,_,rd,(WT sr).mono (tk'.trans tk2),hry,hel i d ed _ sub2,fun σ3a σa H3a Ha tka sra hra qa=>⟨σ3a,H3a,_,sra,hra,qa,fun b H3b Hb tkb hrb qb=>?_⟩⟩
  cases b with
  |true=>
   rw[if_pos rfl] at qb ⊢
   refine⟨σ3a,H3b,_,sra.mono tkb,hrb,qb,fun v u H3c Hc tkc hrc rv qc=>?_⟩
   obtain⟨sub,ers⟩:=qc
   obtain⟨acc,gacc,racc⟩:=hrc p _ (sub p _ aF)
   refine⟨acc,gacc,?_,ds.length-(i+1),by grind,rfl,hlt,((tk2.trans tka).trans (tkb.trans tkc)).trans (TK.lst gacc),?_⟩
   ·rw[←racc.length]
    exact Hj (eh (hrs i) (eh hi hlen))
   ·rw[gZ ers,←kZ]
    exact (hrc.sub sub).wA (TK.lst gacc) ((racc.snoc rv).mono (TK.lst gacc))
  |false=>
   rw[if_neg ip] at qb ⊢
   obtain⟨sub,ers⟩:=qb
   refine⟨ds.length-(i+1),by grind,rfl,hlt,(tk2.trans tka).trans tkb,?_⟩
   rw[gZ ers]
   simp only[Option.toList,fA]
   exact hrb.sub sub
 ·have e:i=ds.length:=by grind
  subst e
  refine .inl ⟨stop,k _ _ _ _ (tk'.trans tk2) hr2 (.ref p) ?_⟩
  rw[ez (by rw[hrl];exact aT _)]
  exact hfin p Gj
def yu:xP:=fun _ H Q=>Q true H
def Qn(X:Cx)(ifs:List cS)(t:xP):Prop:=Ru X ifs (liftT X.K t)
theorem iV{X:Cx}:Qn X [] yu:=fun pins s σ H Q I h=>by
 obtain⟨σ3,H3,Q3,sr,hr,t,k⟩:=h
 exact Rc pins s σ H Q I (k _ _ _ TK.refl hr t)
theorem gr_name{K:ae}{i:Nat}:∀v σ H Q,RW K (vB i) v σ H Q->uv i v σ H Q:=fun _ _ _ _ ⟨_,_,_,_,rd,sr,hr,t,k⟩=>k _ _ _ _ TK.refl (sr.set i rd) hr t
theorem Ij{n i:Nat}(hi:i<n):∀x σ H Q,uv i x σ H Q->uv i x σ H fun σ' H'=>(σ'.length=σ.length/\∀j,n<=j->σ'[j]?=σ[j]?)/\Q σ' H':=fun x σ H Q h=>
 ⟨⟨by simp,fun j hj=>gN (by grind)⟩,h⟩
section
variable{X:Cx}{elt iter:cS}{ifs:List cS}{scope:lP}{pos px py pt spos:Pos}{x x' y:Str}{fv:FV}{wi:Cd}{tc:xP}{te:bL}{kk:Nat}
theorem oM(c:dR X.env.scope X.N scope (x::fv.map (·.2)) [x] fv)(hcalm:X.calm=true)(hi:NZ X (.Name x px) iter wi)
  (hifs:∀pins cl s₁ H₁ fp,Qn (uW X (x::fv.map (·.2)) scope cl s₁ H₁ fp pins) ifs tc) (helt:∀pins cl s₁ H₁ fp,b8 (uW X (x::fv.map (·.2)) scope cl s₁ H₁ fp pins) elt te)
  (hx:(IP scope X.env).names.lookup x=some .local:=by rfl) (hs:∀x,jI iter X.env x=pure x:=by intro _;rfl):b8 X (.ListComp elt [⟨.Name x px,iter,ifs,0⟩] scope pos) (R9 wi (vB 0) tc te [x] fv) :=
 bT (UG (g:=uv 0) (tc:=liftT X.K tc) (te:=fP X.K te) c hcalm hi (Ij (E8)) (fun pins cl s₁ H₁ fp=>⟨jQ c.nd rfl (.inl hx) (.inr hx),hifs pins cl s₁ H₁ fp,helt pins cl s₁ H₁ fp⟩) hs) fun _ _ _ h=>zG gr_name h
theorem Fx(j:Nat)(hN:X.N.Nodup)(c:dR X.env.scope X.N scope (x::fv.map (·.2)) [x] fv)(hcalm:X.calm=true)(hi:NZ X (.Name x px) iter wi)
  (hifs:∀pins cl s₁ H₁ fp,Qn (uW X (x::fv.map (·.2)) scope cl s₁ H₁ fp pins) ifs tc) (helt:∀pins cl s₁ H₁ fp,b8 (uW X (x::fv.map (·.2)) scope cl s₁ H₁ fp pins) elt te)
  (hj:X.N[j]?=some y:=by rfl) (hy:Loc X.env.scope y:=by first | exact nN rfl | exact nV rfl) (hsw:om (.ListComp elt [⟨.Name x px,iter,ifs,0⟩] scope pos) (some (.Name y py)) spos.line X.env=pure true:=by rfl)
  (hx:(IP scope X.env).names.lookup x=some .local:=by rfl) (hs:∀x,jI iter X.env x=pure x:=by intro _;rfl) (hf:X.fn y=true\/X.env.scope.names.lookup y=some .local:=by first | exact .inl rfl | exact .inr rfl | assumption) :
  BW X (.Assign [.Name y py] (.ListComp elt [⟨.Name x px,iter,ifs,0⟩] scope pos) spos) (st3 j (R9 wi (vB 0) tc te [x] fv)) :=
 je (HF (g:=uv 0) (tc:=liftT X.K tc) (te:=fP X.K te) hN hj hy hsw c hcalm hi (Ij (E8)) (fun pins cl s₁ H₁ fp=>⟨jQ c.nd rfl (.inl hx) (.inr hx),hifs pins cl s₁ H₁ fp,helt pins cl s₁ H₁ fp⟩) hs hf)
  fun _ _ _ zz=>zz.ex fun σ3 H3 D3 sr hr t k=>zG gr_name ⟨σ3,H3,_,sr,hr,t,fun x v H3a Ha tka hra rx qa=>k.nx _ _ _ _ tka ((sr.mono tka).set j rx) hra qa⟩
end
end L3
namespace L3
open PySem L2
def jf:R3:=Eg fun i j=>.int (i-j)
def cP:R3:=Wr (fun _ j=>0<j) fun i j=>.int (i%j)
def yD:R3:=Wr U0 fun i j=>.int (i ^ j.toNat)
def Ga:R3:=Eg fun i j=>.bl (decide (i<=j))
def YG:R3:=Eg fun i j=>.bl (decide (j<i))
theorem eN:∀ns:List Int,intsOf (ns.map D.int)=some ns
 |[]=>rfl
 |n::ns=>by simp only[ck,intsOf,eN ns,ng]
def jz:List Int->Int
 |[]=>0
 |[x]=>x
 |x::y::r=>min x (jz (y::r))
def jA:List Int->Int
 |[]=>0
 |[x]=>x
 |x::y::r=>max x (jA (y::r))
theorem nC:∀ {ns:List Int} {a:Int},a∈ns->jz ns<=a
 |[x],a,h=>by simp at h;subst h;exact fy _
 |x::y::r,a,h=>by
  rcases bE.mp h with rfl | h
  ·exact E9 _ _
  ·exact oq (EG _ _) (nC (ns:=y::r) h)
theorem t7:∀ {ns:List Int},ns≠[]->jz ns∈ns
 |[x],_=>eg
 |x::y::r,_=>by
  have ih:=t7 (ns:=y::r) (by simp)
  have e:jz (x::y::r)=min x (jz (y::r)):=rfl
  rw[e]
  rcases zk x (jz (y::r)) with h | h
  ·rw[sM h];exact eg
  ·rw[x9 h];exact dQ _ ih
theorem wZ:∀ {ns:List Int} {a:Int},a∈ns->a<=jA ns
 |[x],a,h=>by simp at h;subst h;exact fy _
 |x::y::r,a,h=>by
  rcases bE.mp h with rfl | h
  ·exact Fc _ _
  ·exact oq (wZ (ns:=y::r) h) (EH _ _)
theorem lM:∀ {ns:List Int},ns≠[]->jA ns∈ns
 |[x],_=>eg
 |x::y::r,_=>by
  have ih:=lM (ns:=y::r) (by simp)
  have e:jA (x::y::r)=max x (jA (y::r)):=rfl
  rw[e]
  rcases zk x (jA (y::r)) with h | h
  ·rw[ri h];exact dQ _ ih
  ·rw[Fh h];exact eg
def Lg(f:List Int->Int):List D->aG->aX->Prop:=fun ds H Q=>match ds with
 | [.ref a] => (match H a with
  | some (.lst xs) => (match intsOf xs with
   |some ns=>ns≠[]/\Q (.int (f ns)) H
   |none=>False)
  |_=>False)
 |_=>False
abbrev Fo:List D->aG->aX->Prop:=Lg jz
abbrev Fq:List D->aG->aX->Prop:=Lg jA
def adM:D->List D->aG->aX->Prop:=fun x xs H Q=>match x,xs with
 | .ref a,[.int i,y] => (match H a with
  |some (.lst ds)=>((0<=i/\i<=ds.length)/\ds.length<1000)/\Q .non (aP H a (.lst (ds.take i.toNat++y::ds.drop i.toNat)))
  |_=>False)
 |_,_=>False
def pr(x y:Int):D:=.tup [.int x,.int y]
abbrev Pt:=Int×Int
def cF(p:Pt):D:=.tup [.int p.1,.int p.2]
def wW:List D->Option (List Pt)
 |[]=>some []
 |.tup [.int x,.int y]::ds=>(wW ds).map ((x,y)::·)
 |_::_=>none
theorem yP:∀ps:List Pt,wW (ps.map cF)=some ps
 |[]=>rfl
 |p::ps=>by simp only[ck,cF,wW];rw[yP ps];rfl
theorem Ms:∀ {ds:List D} {ps:List Pt},wW ds=some ps->ds=ps.map cF:=by
 intro ds
 induction ds with
 |nil=>intro ps h;simp only[wW,w4] at h;subst h;rfl
 |cons d ds ih=>
  intro ps h
  unfold wW at h
  split at h
  ·rename_i a;cases a
  ·rename_i x y r heq
   cases heq
   simp only[b6] at h
   obtain⟨qs,h1,h2⟩:=h
   subst h2
   rw[ih h1];rfl
  ·cases h
def vd(c r:Pt):Bool:=HT.lexLt [r.2,r.1] [c.2,c.1]
def HW(row:List Pt)(c:Pt):List Pt:=row.takeWhile (vd c)++c::row.dropWhile (vd c)
def jw(ps:List Pt):List Pt:=ps.foldl HW []
theorem Az(c r:Pt):vd c r=true↔r.2<c.2\/(r.2=c.2/\r.1<c.1):=by
 unfold vd HT.lexLt
 by_cases h:r.2=c.2
 ·rw[if_pos h]
  unfold HT.lexLt
  by_cases h2:r.1=c.1
  ·rw[if_pos h2];unfold HT.lexLt;simp[h,h2]
  ·rw[if_neg h2];simp[h]
 ·rw[if_neg h]
  simp[h]
theorem lO(c r:Pt):vd c r=false↔c.2<r.2\/(c.2=r.2/\c.1<=r.1):=by
 rw[←Bool.not_eq_true,Az]
 omega
theorem M9(row:List Pt)(c:Pt):(HW row c).Perm (c::row):=by
 unfold HW
 have e:=rf (p:=vd c) (l:=row)
 have h:(row.takeWhile (vd c)++c::row.dropWhile (vd c)).Perm (c::(row.takeWhile (vd c)++row.dropWhile (vd c))):=EI
 rw[e] at h
 exact h
theorem nA:∀(ps row:List Pt),(ps.foldl HW row).Perm (row++ps)
 |[],row=>by simp
 |p::ps,row=>by
  rw[kR]
  refine (nA ps _).trans ?_
  refine ((M9 row p).append_right ps).trans ?_
  rw[EJ]
  exact EI.symm
theorem xF(ps:List Pt):(jw ps).Perm ps:=by
 have:=nA ps []
 simpa [jw] using this
theorem sU(ps:List Pt):(jw ps).length=ps.length:=(xF ps).length_eq
def xR(a b:Pt):Prop:=vd a b=false
theorem Mi{a b c:Pt}(h1:xR a b)(h2:xR b c):xR a c:=by
 unfold xR at *
 rw[lO] at *
 grind
theorem GZ{c r:Pt}(h:vd c r=true):xR r c:=by
 unfold xR
 rw[Az] at h
 rw[lO]
 grind
theorem BR{a b:Pt}(h1:xR a b)(h2:xR b a):a=b:=by
 unfold xR at *
 rw[lO] at *
 exact de (by grind) (by grind)
theorem Fg{row:List Pt}{c:Pt}(h:row.Pairwise xR):(HW row c).Pairwise xR:=by
 unfold HW
 have e:=rf (p:=vd c) (l:=row)
 have ht:∀r∈row.takeWhile (vd c),vd c r=true:=fun r hr=>by
  have:=List.all_takeWhile (p:=vd c) (l:=row)
  rw[yv] at this
  exact this r hr
 have hd:∀r∈row.dropWhile (vd c),xR c r:=by
  have hs:(row.dropWhile (vd c)).Pairwise xR:=by rw[←e] at h;exact (ll.mp h).2.1
  cases hq:row.dropWhile (vd c) with
  |nil=>intro r hr;cases hr
  |cons x xs=>
   have hx:vd c x=false:=by
    have:=List.head?_dropWhile_not (vd c) row
    rw[hq] at this
    simpa using this
   rw[hq] at hs
   intro r hr
   rcases bE.mp hr with rfl | hr
   ·exact hx
   ·exact Mi hx ((kL.mp hs).1 r hr)
 rw[←e] at h
 obtain⟨h1,h2,h3⟩:=ll.mp h
 refine ll.mpr ⟨h1,kL.mpr ⟨hd,h2⟩,fun a ha b hb=>?_⟩
 rcases bE.mp hb with rfl | hb
 ·exact GZ (ht a ha)
 ·exact h3 a ha b hb
theorem kJ:∀(ps row:List Pt),row.Pairwise xR->(ps.foldl HW row).Pairwise xR
 |[],_,h=>h
 |_::ps,_,h=>kJ ps _ (Fg h)
theorem qC(ps:List Pt):(jw ps).Pairwise xR:=kJ ps [] qq
theorem yf{as bs:List Pt}(hp:as.Perm bs)(ha:as.Pairwise xR)(hb:bs.Pairwise xR):as=bs:=hp.eq_of_pairwise (fun _ _ _ _ h1 h2=>BR h1 h2) ha hb
theorem Eb{as ps:List Pt}(hp:as.Perm ps)(ha:as.Pairwise xR):jw ps=as:=yf ((xF ps).trans hp.symm) (qC ps) ha
def zc(M:Int)(c:Pt):Int:=c.2*(2*M+1)+c.1
theorem Vy{M:Int}{c r:Pt}(hc : -M<=c.1/\c.1<=M)(hr : -M<=r.1/\r.1<=M):vd c r=decide (zc M r<zc M c):=by
 have hB:0<2*M+1:=by grind
 rw[Fm,Az,decide_eq_true_iff]
 unfold zc
 constructor
 ·rintro (h | ⟨h1,h2⟩)
  ·have:=ro (show r.2+1<=c.2 by grind) (lh hB)
   rw[E2,Ki] at this
   grind
  ·rw[h1];grind
 ·intro h
  by_cases h1:r.2<c.2
  ·exact .inl h1
  ·by_cases h2:r.2=c.2
   ·rw[h2] at h;exact .inr ⟨h2,by grind⟩
   ·exfalso
    have:=ro (show c.2+1<=r.2 by grind) (lh hB)
    rw[E2,Ki] at this
    grind
theorem rK:∀ps:List Pt,∃M:Int,0<=M/\∀c∈ps,-M<=c.1/\c.1<=M
 |[]=>⟨0,by grind,fun _ h=>nomatch h⟩
 |p::ps=>by
  obtain⟨M,h0,h⟩:=rK ps
  refine⟨M+p.1.natAbs,by grind,fun c hc=>?_⟩
  rcases bE.mp hc with rfl | hc
  ·grind
  ·have:=h c hc;grind
end L3
namespace L3
open PySem PySem.Spec PyProof.Rows L2
section
variable{X:Cx}
theorem Jv:∀ {ns:List Int} {a:Int},a∈ns->jz ns<=a
 |[x],a,h=>by simp at h;subst h;exact fy _
 |x::y::r,a,h=>by
  rcases bE.mp h with rfl | h
  ·exact E9 _ _
  ·exact oq (EG _ _) (Jv (ns:=y::r) h)
theorem Fd:∀ {ns:List Int},ns≠[]->jz ns∈ns
 |[x],_=>eg
 |x::y::r,_=>by
  have ih:=Fd (ns:=y::r) (by simp)
  have e:jz (x::y::r)=min x (jz (y::r)):=rfl
  rw[e]
  rcases zk x (jz (y::r)) with h | h
  ·rw[sM h];exact eg
  ·rw[x9 h];exact dQ _ ih
theorem Im:∀ {ns:List Int} {a:Int},a∈ns->a<=jA ns
 |[x],a,h=>by simp at h;subst h;exact fy _
 |x::y::r,a,h=>by
  rcases bE.mp h with rfl | h
  ·exact Fc _ _
  ·exact oq (Im (ns:=y::r) h) (EH _ _)
theorem Ec:∀ {ns:List Int},ns≠[]->jA ns∈ns
 |[x],_=>eg
 |x::y::r,_=>by
  have ih:=Ec (ns:=y::r) (by simp)
  have e:jA (x::y::r)=max x (jA (y::r)):=rfl
  rw[e]
  rcases zk x (jA (y::r)) with h | h
  ·rw[ri h];exact dQ _ ih
  ·rw[Fh h];exact eg
theorem Mu(hc:X.calm=true):eV X (.builtin "min") (fun xs H Q=>∃a ns,xs=[.ref a]/\gB X.K H a (ns.map V.int)/\ns≠[]/\Q (.int (jz ns)) H):=by
 intro pins s σ H xs us Q I r h
 obtain⟨a,ns,rfl,hq,hne,q⟩:=h
 obtain⟨u,rfl,ru⟩:=vals1 r
 cases ru
 obtain⟨its,rv,pl,_⟩:=I.list hq
 have hi:=intsAre_of rv
 obtain⟨zs,e⟩:=hi.allInts.items
 have hns:zs.toList.map (·.1)=ns:=by rw[←nums_intItems,←e];exact hi.numsOf
 have hpos:0<zs.size:=CS fun z=>hne (by rw[←hns,jv z];rfl)
 have hl:=pl.isList
 rw[e] at hl
 refine min_intList (I.ok.hd hc) hl hpos fun v h' tk hv hk=>?_
 obtain⟨t,rfl⟩:=intItems_at hv
 obtain⟨h1,h2⟩:=argBest_lt (GW zs) (zs.size-1)
 have hm:GW zs (argBest (fun i j=>decide (GW zs i<GW zs j)) (zs.size-1))=jz ns:=by
  refine Fs ?_ (Jv ?_)
  ·obtain⟨j,hj,ej⟩:=mem_getD (Fd hne)
   rw[←hns,aw,d3] at hj
   have:=h2 j (by omega)
   rw[GY zs j,hns,ej] at this
   exact this
  ·rw[GY,hns]
   exact getD_mem (by rw[←hns,aw,d3];omega)
 exact⟨.int (jz ns),H,I.kept hk,⟨t,by rw[hm]⟩,q⟩
theorem LK(hc:X.calm=true):eV X (.builtin "max") (fun xs H Q=>∃a ns,xs=[.ref a]/\gB X.K H a (ns.map V.int)/\ns≠[]/\Q (.int (jA ns)) H):=by
 intro pins s σ H xs us Q I r h
 obtain⟨a,ns,rfl,hq,hne,q⟩:=h
 obtain⟨u,rfl,ru⟩:=vals1 r
 cases ru
 obtain⟨its,rv,pl,_⟩:=I.list hq
 have hi:=intsAre_of rv
 obtain⟨zs,e⟩:=hi.allInts.items
 have hns:zs.toList.map (·.1)=ns:=by rw[←nums_intItems,←e];exact hi.numsOf
 have hpos:0<zs.size:=CS fun z=>hne (by rw[←hns,jv z];rfl)
 have hl:=pl.isList
 rw[e] at hl
 refine max_intList (I.ok.hd hc) hl hpos fun v h' tk hv hk=>?_
 obtain⟨t,rfl⟩:=intItems_at hv
 obtain⟨h1,h2⟩:=argBest_gt (GW zs) (zs.size-1)
 have hm:GW zs (argBest (fun i j=>decide (GW zs i>GW zs j)) (zs.size-1))=jA ns:=by
  refine Fs (Im ?_) ?_
  ·rw[GY,hns]
   exact getD_mem (by rw[←hns,aw,d3];omega)
  ·obtain⟨j,hj,ej⟩:=mem_getD (Ec hne)
   rw[←hns,aw,d3] at hj
   have:=h2 j (by omega)
   rw[GY zs j,hns,ej] at this
   exact this
 exact⟨.int (jA ns),H,I.kept hk,⟨t,by rw[hm]⟩,q⟩
theorem JN{id:String}{f:List Int->Int}(h:eV X (.builtin id) (fun xs H Q=>∃a ns,xs=[.ref a]/\gB X.K H a (ns.map V.int)/\ns≠[]/\Q (.int (f ns)) H)):eV X (.builtin id) (g8 X.K (Lg f)):=by
 intro pins s σ H xs us Q I rs t
 obtain⟨ds,H3,Q3,hr,rd,t,k⟩:=t
 cases rd with
 |nil=>exact t.elim
 |cons r1 r2=>
  cases r2 with
  |cons _ _=>cases r1 <;> exact t.elim
  |nil=>
   cases r1 with
   |ref a=>
    (delta Lg at t;dsimp only at t)
    split at t
    ·rename_i ds ha
     split at t
     ·rename_i ns e
      obtain⟨vs,ga,ra⟩:=hr a _ ha
      have z:=dG e
      subst z
      have z:=ra.nG
      subst z
      exact h pins s σ H _ us Q I rs ⟨a,ns,rfl,gB.of ga,t.1,k _ _ _ _ TK.refl hr (.int _) t.2⟩
     ·exact t.elim
    ·exact t.elim
   |_=>exact t.elim
theorem Il(hc:X.calm=true):eV X (.builtin "min") (g8 X.K Fo):=JN (Mu hc)
theorem Jz(hc:X.calm=true):eV X (.builtin "max") (g8 X.K Fq):=JN (LK hc)
end
end L3
namespace L3
open PySem L2
theorem bJ:bS=16777216:=by decide
theorem pY{n:Nat}(h:n<=1000):n<bS:=by rw[bJ];omega
theorem bB{H:aG}{a p:aE}{o u:O3}(h:H a=some o)(n:H p=none):aP H p u a=some o:=by rw[bA (ne3 h n)];exact h
theorem Tf{H H2:aG}{p:aE}{o:O3}(s:aN H H2)(h:H2 p=some o):aN (aP H p o) H2:=fun b u e=>by
 by_cases hb:b=p
 ·subst hb;rw[aF] at e;cases e;exact h
 ·rw[bA hb] at e;exact s b u e
theorem dJ{H H2:aG}{p:aE}(s:aN H H2)(h:H2 p=none):H p=none:=by
 cases e:H p with
 |none=>rfl
 |some o=>have:=s p o e;rw[h] at this;cases this
section
variable{σ:cz}{H:aG}{Q:aX}{D0:dF}{i j:Int}{a b:aE}{d x y:D}{ds es:List D}{ta tb te tc:bL}{tr:sG}{t u:cI}{cA cB:xP}{QL:List D->aG->Prop}{QB:Bool->aG->Prop}
theorem Xc{k:Nat}(h:σ[k]?=some (some d))(q:Q d H):v3 k σ H Q:=by unfold v3;rw[h];exact q
theorem Xy(q:Q d H):c3 d σ H Q:=q
theorem Yt{r:R3}(h:ta σ H fun x H1=>tb σ H1 fun y H2=>r x y H2 Q):o3 r ta tb σ H Q:=h
theorem adb{r:D->aG->aX->Prop}(h:ta σ H fun x H1=>r x H1 Q):u3 r ta σ H Q:=h
theorem aaO(q:Q (.int (-i)) H):mL (.int i) H Q:=q
theorem Z4(q:Q (.int (i-j)) H):jf (.int i) (.int j) H Q:=q
theorem aa8(q:Q (.int (i+j)) H):bc (.int i) (.int j) H Q:=q
theorem VN(c:0<j)(q:Q (.int (i%j)) H):cP (.int i) (.int j) H Q:=⟨c,q⟩
theorem abx(c:U0 i j)(q:Q (.int (i ^ j.toNat)) H):yD (.int i) (.int j) H Q:=⟨c,q⟩
theorem acw(q:Q (.bl (decide (i<=j))) H):Ga (.int i) (.int j) H Q:=q
theorem adm(q:Q (.bl (decide (j<i))) H):YG (.int i) (.int j) H Q:=q
theorem acy(q:Q (.bl (decide (i<j))) H):M6 (.int i) (.int j) H Q:=q
theorem aaQ(i:Int):su 4 (.int i)=some (.int i):=rfl
theorem abo(x y:Int):su 5 (.tup [.int x,.int y])=some (.tuple [.int x,.int y]):=rfl
theorem aau(q:Q (.bl (decide (i=j))) H):eO (.int i) (.int j) H Q:=by
 have e:(i==j)=decide (i=j):=rfl
 (delta eO MT;simp only[aaQ,fN,e]);exact q
theorem aaS{x1 x2 y1 y2:Int}(q:Q (.bl (!decide ((x1,x2)=(y1,y2)))) H):Kr (.tup [.int x1,.int x2]) (.tup [.int y1,.int y2]) H Q:=by
 have e:(sf [.int x1,.int x2] [.int y1,.int y2])=decide ((x1,x2)=(y1,y2)):=by
  simp only[sf,fN,xo,HU,Fu];rfl
 (delta Kr MT;simp only[abo,fN,e]);exact q
theorem YZ(q:Q (.bl (!isN x)) H):Fw x .non H Q:=q
theorem Ip(h:j7 ds i=some d)(q:Q d H):bD (.tup ds) (.int i) H Q:=by (delta bD;simp only[h]);exact q
theorem Wa(h:j7 ds i=some d)(q:Q d H):bD (.fl ds) (.int i) H Q:=by (delta bD;simp only[h]);exact q
theorem gY(ha:H a=some (.lst ds))(h:j7 ds i=some d)(q:Q d H):bD (.ref a) (.int i) H Q:=by (delta bD;simp only[ha,h]);exact q
theorem abO(h:te σ H fun d H1=>bt d H1 QB):jx te σ H QB:=h
theorem ab3{k:Bool}(q:QB k H):bt (.bl k) H QB:=q
theorem abW(h:cA σ H fun c H1=>if c=true then cB σ H1 QB else QB false H1):an3 cA cB σ H QB:=h
theorem aci(h:cA σ H fun c H1=>QB (!c) H1):no3 cA σ H QB:=h
def avk(tb:bL)(σ:cz)(x:D)(H1:aG)(Q:aX):Prop:=match x with
 |.bl c=>if c=true then tb σ H1 Q else Q (.bl false) H1
 |_=>False
theorem ado(h:ta σ H fun x H1=>avk tb σ x H1 Q):av3 ta tb σ H Q:=h
theorem abj{c:Bool}(h:if c=true then tb σ H Q else Q (.bl false) H):avk tb σ (.bl c) H Q:=h
theorem Wh(q:QL [] H):aK σ H QL:=q
theorem GQ(h:ta σ H fun x H1=>tr σ H1 fun xs H2=>QL (x::xs) H2):aq ta tr σ H QL:=h
theorem abn(h:tr σ H fun ds H1=>ds.length<=1000/\Q (.tup ds) H1):fX tr σ H Q:=h
theorem acv(h:tr σ H fun ds H1=>ds.length<=1000/\∀p,H1 p=none->Q (.ref p) (aP H1 p (.lst ds))):JT tr σ H Q:=h
theorem aaW{q:Prop}{n:Nat}(h:KO ds.length n=true)(h2:q):ds.length<=n/\q:=⟨AH h,h2⟩
theorem acP{r:List D->aG->aX->Prop}(h:tr σ H fun ds H1=>r ds H1 Q):cR r tr σ H Q:=h
theorem Yc(q:Q (.int ds.length) H):fK [.tup ds] H Q:=q
theorem Xu(q:Q (.int ds.length) H):fK [.fl ds] H Q:=q
theorem Wx(ha:H a=some (.lst ds))(q:Q (.int ds.length) H):fK [.ref a] H Q:=by (delta fK;simp only[ha]);exact q
theorem Zc(ha:H a=some (.lst ds))(q:Q (.tup ds) H):jR [.ref a] H Q:=by (delta jR;simp only[ha]);exact q
theorem acF{tl th:VB}{r:ZJ}(h:te σ H fun x H1=>tl σ H1 fun l H2=>th σ H2 fun u H3=>r x l u H3 Q):NK r te tl th σ H Q:=h
theorem acf{QO:Option Int->aG->Prop}(q:QO none H):Gj σ H QO:=q
def ptk(x:D)(H1:aG)(QO:Option Int->aG->Prop):Prop:=match x with
 |.int i=>QO (some i) H1
 |_=>False
theorem acR{QO:Option Int->aG->Prop}(h:te σ H fun x H1=>ptk x H1 QO):NQ te σ H QO:=h
theorem aaE{QO:Option Int->aG->Prop}(q:QO (some i) H):ptk (.int i) H QO:=q
theorem aaT{lo hi:Option Int}(ha:H a=some (.lst ds))(q:∀p,H p=none->Q (.ref p) (aP H p (.lst (mQ ds lo hi)))):Lq (.ref a) lo hi H Q:=by (delta Lq;simp only[ha]);exact q
theorem abZ(h:t { D0 with nx:=u D0 } σ H):bV t u D0 σ H:=h
theorem acK{k:Nat}(h:te σ H fun x H1=>D0.nx (σ.set k (some x)) H1):st3 k te D0 σ H:=h
theorem Dn(h:D0.nx σ H):lW D0 σ H:=h
theorem aap(h:D0.bk σ H):br3 D0 σ H:=h
theorem abQ(h:te σ H fun _ H1=>D0.nx σ H1):Nz te D0 σ H:=h
theorem aac(h:te σ H fun d H1=>D0.rt d H1):gR te D0 σ H:=h
theorem acx(h:cA σ H fun b H1=>if b=true then t D0 σ H1 else u D0 σ H1):mC cA t u D0 σ H:=h
theorem ade{g:zN}(h:te σ H fun x H1=>g x σ H1 D0.nx):as3 te g D0 σ H:=h
theorem ady{k:Nat}{R:cz->aG->Prop}(h:R (σ.set k (some d)) H):vB k d σ H R:=h
theorem ac4{k l:Nat}{R:cz->aG->Prop}(h:R ((σ.set k (some x)).set l (some y)) H):tO k l (.tup [x,y]) σ H R:=h
theorem ack{k l m:Nat}{z:D}{R:cz->aG->Prop}(h:R (((σ.set k (some x)).set l (some y)).set m (some z)) H):XD k l m (.tup [x,y,z]) σ H R:=h
theorem Ry{n:cz->aG->Prop}{r:aX}{bk ct:cz->aG->Prop}(h:n σ H):dF.nx ⟨n,r,bk,ct⟩ σ H:=h
theorem adG{n:cz->aG->Prop}{r:aX}{bk ct:cz->aG->Prop}(h:bk σ H):dF.bk ⟨n,r,bk,ct⟩ σ H:=h
theorem bF{H':aG}(h:Q d H')(s:aN H' H):dF.rt (cY Q) d H:=⟨H',s,h⟩
theorem Rk{H':aG}(h:Q .non H')(s:aN H' H):dF.nx (cY Q) σ H:=⟨H',s,h⟩
def Lp(g:zN)(tb:cI)(D0:dF)(σ:cz)(ds:List D)(keep:aG->Prop)(H1:aG):Prop:=∃P:Nat->cz->aG->Prop,P 0 σ H1/\(∀i σ H,i<=ds.length->P i σ H->keep H) /\
 (∀i d σ H,ds[i]?=some d->P i σ H->g d σ H fun σ2 H2=>tb { D0 with nx:=P (i+1),ct:=P (i+1),bk:=D0.nx } σ2 H2)/\∀σ H,P ds.length σ H->D0.nx σ H
theorem adh{wi:Cd}{g:zN}(h:wi σ H fun ds keep H1=>Lp g t D0 σ ds keep H1):yw wi g t D0 σ H:=h
theorem Lp.by{g:zN}{keep:aG->Prop}(P:Nat->cz->aG->Prop)(h0:P 0 σ H)(hk:∀i σ H,i<=ds.length->P i σ H->keep H)
  (turn:∀i d σ H,ds[i]?=some d->P i σ H->g d σ H fun σ2 H2=>t { D0 with nx:=P (i+1),ct:=P (i+1),bk:=D0.nx } σ2 H2) (fin:∀σ H,P ds.length σ H->D0.nx σ H):Lp g t D0 σ ds keep H:=⟨P,h0,hk,turn,fin⟩
theorem Lp.pN{g:zN}{lo:Int}{n:Nat}(P:Nat->cz->aG->Prop)(h0:P 0 σ H)
  (turn:∀(i:Nat) σ H,i<n->P i σ H->g (.int (lo+(i:Int))) σ H fun σ2 H2=>t { D0 with nx:=P (i+1),ct:=P (i+1),bk:=D0.nx } σ2 H2) (fin:∀σ H,P n σ H->D0.nx σ H):Lp g t D0 σ (pN lo n) (fun _=>True) H :=
 ⟨P,h0,fun _ _ _ _ _=>trivial,fun i d σ H hd p=>by
  have hi:i<n:=by
   have:=(bb.mp hd).1
   rwa [qH] at this
  rw[vo hi] at hd
  cases hd
  exact turn i σ H hi p,fun σ H p=>fin σ H (by rw[qH] at p;exact p)⟩
theorem aaC{R:List D->(aG->Prop)->aG->Prop}(h:ta σ H fun x H1=>rg1 x H1 R):V9 ta σ H R:=h
theorem aaF{R:List D->(aG->Prop)->aG->Prop}(h:ta σ H fun x H1=>tb σ H1 fun y H2=>rg2 x y H2 R):ir2 ta tb σ H R:=h
theorem abh{R:List D->(aG->Prop)->aG->Prop}(h:R (pN 0 j.toNat) (fun _=>True) H):rg1 (.int j) H R:=h
theorem abi{R:List D->(aG->Prop)->aG->Prop}(h:R (pN i (j-i).toNat) (fun _=>True) H):rg2 (.int i) (.int j) H R:=h
def ilk(x:D)(H1:aG)(R:List D->(aG->Prop)->aG->Prop):Prop:=match x with
 | .ref a => (match H1 a with
  |some (.lst ds)=>R ds (fun H'=>H' a=some (.lst ds)) H1
  |_=>False)
 |.fl ds=>R ds (fun _=>True) H1
 |_=>False
def itk(x:D)(H1:aG)(R:List D->(aG->Prop)->aG->Prop):Prop:=match x with
 |.tup ds=>R ds (fun _=>True) H1
 |_=>False
theorem ab8{R:List D->(aG->Prop)->aG->Prop}(h:te σ H fun x H1=>ilk x H1 R):O6 te σ H R:=h
theorem VD{R:List D->(aG->Prop)->aG->Prop}(ha:H a=some (.lst ds))(h:R ds (fun H'=>H' a=some (.lst ds)) H):ilk (.ref a) H R:=by (delta ilk;simp only[ha]);exact h
theorem abX{R:List D->(aG->Prop)->aG->Prop}(h:te σ H fun x H1=>itk x H1 R):it3 te σ H R:=h
theorem aby{R:List D->(aG->Prop)->aG->Prop}(h:R ds (fun _=>True) H):itk (.tup ds) H R:=h
theorem abA(P:cz->aG->Prop)(μ:cz->aG->Nat)(h0:P σ H)(turn:∀σ H,P σ H->cA σ H fun b H1=>if b=true then t { D0 with nx:=fun σ' H'=>P σ' H'/\μ σ' H'<μ σ H,ct:=fun σ' H'=>P σ' H'/\μ σ' H'<μ σ H,bk:=D0.nx } σ H1 else D0.nx σ H1):wh3 cA t D0 σ H:=⟨P,μ,h0,turn⟩
def mtk(r:D->List D->aG->aX->Prop)(t:sG)(σ:cz)(x:D)(H1:aG)(Q:aX):Prop:=match x with
 | .ref a => (match H1 a with
  |some (.lst _)=>t σ H1 fun xs H2=>r x xs H2 Q
  |_=>False)
 |_=>False
theorem adB{r:D->List D->aG->aX->Prop}(h:te σ H fun x H1=>mtk r tr σ x H1 Q):m3 r te tr σ H Q:=h
theorem Ja{r:D->List D->aG->aX->Prop}(ha:H a=some (.lst ds))(h:tr σ H fun xs H2=>r (.ref a) xs H2 Q):mtk r tr σ (.ref a) H Q:=by (delta mtk;simp only[ha]);exact h
theorem zL(ha:H a=some (.lst ds))(hl:ds.length<bS)(q:Q .non (aP H a (.lst (ds++[y])))):nZ (.ref a) [y] H Q:=by (delta nZ;simp only[ha]);exact⟨hl,q⟩
theorem aa5(ha:H a=some (.lst ds))(hb:H b=some (.lst es))(hl:ds.length+es.length<=bS)(q:Q .non (aP H a (.lst (ds++es)))):Dw (.ref a) [.ref b] H Q:=by (delta Dw;simp only[ha,hb]);exact⟨hl,q⟩
theorem abF(ha:H a=some (.lst ds))(hy:ds[ds.length-1]?=some y)(q:Q y (aP H a (.lst ds.dropLast))):Dl (.ref a) [] H Q:=by (delta Dl;simp only[ha,hy]);exact q
theorem Bs(ha:H a=some (.lst ds)):yq H (.ref a)=some ds:=by (delta yq;simp only[ha])
theorem abG{U T:String}(h:tyH H x=some U)(hT:T∈kinds)(q:Q (.bl (ZV U T)) H):wQ [x,.ty T] H Q:=by
 (delta wQ;simp only[h]);exact⟨hT,q⟩
theorem Ak{α:Type}{xs:List α}{f:α->D}{k:Int}(h0:0<=k)(h1:k.toNat<xs.length):j7 (xs.map f) k=some (f (xs[k.toNat]'h1)):=by
 have hl:k<((xs.map f).length:Int):=by rw[aw];omega
 unfold j7 K6
 rw[if_pos h0,if_pos hl,gy,aS,dA h1]
 rfl
theorem Hv:∀ps:List Pt,jW (su 4) (ps.map cF)=some (ps.map fun p=>kB [.int p.1,.int p.2])
 |[]=>rfl
 |p::ps=>by
  have e:su 4 (cF p)=some (kB [.int p.1,.int p.2]):=rfl
  simp only[ck,jW,e,Hv ps]
theorem WW(p q:Pt):fN (kB [.int p.1,.int p.2]) (kB [.int q.1,.int q.2])=decide (p=q):=by
 obtain⟨a,b⟩:=p
 obtain⟨c,d⟩:=q
 simp only[fN,sf,xo,HU,Fu];rfl
theorem Gh(p:Pt):∀ps:List Pt,(ps.map fun p=>kB [.int p.1,.int p.2]).any (fun q=>fN q (kB [.int p.1,.int p.2]))=decide (p∈ps)
 |[]=>by simp
 |q::ps=>by
  rw[ck,gv,Gh p ps,WW]
  by_cases h:q=p
  ·subst h;simp
  ·have h':¬p=q:=fun e=>h e.symm
   simp[h,h']
theorem abv{p1 p2:Int}{ps:List Pt}(h:yq H y=some (ps.map cF))(q:Q (.bl (decide ((p1,p2)∈ps))) H):wY false (.tup [.int p1,.int p2]) y H Q:=by
 have e:su 4 (.tup [.int p1,.int p2])=some (kB [.int p1,.int p2]):=rfl
 (delta wY;simp only[e,h,gy,Hv])
 rw[←Gh (p1,p2) ps] at q
 exact q
theorem YL{p1 p2:Int}{ps:List Pt}(h:yq H y=some (ps.map cF))(q:Q (.bl (!decide ((p1,p2)∈ps))) H):wY true (.tup [.int p1,.int p2]) y H Q:=by
 have e:su 4 (.tup [.int p1,.int p2])=some (kB [.int p1,.int p2]):=rfl
 (delta wY;simp only[e,h,gy,Hv])
 rw[←Gh (p1,p2) ps] at q
 exact q
def Cp(g:zN)(tc:xP)(te:bL)(σ0:cz)(ds:List D)(keep:aG->Prop)(H1:aG)(Q:aX):Prop:=(∀H2:aG,aN H1 H2->keep H2)/\ds.length<=10000/\∃rs:List (Option D),rs.length=ds.length /\
 (∀ (i:Nat) (d:D),ds[i]? = some d→∀ H2:aG,aN H1 H2→g d σ0 H2 fun σ2 H4 => tc σ2 H4 fun b H5 =>
  if b=true then te σ2 H5 fun v H6=>aN H2 H6/\rs[i]?=some (some v) else aN H2 H5/\rs[i]?=some none) /\
 ∀p,H1 p=none->Q (.ref p) (aP H1 p (.lst (rs.filterMap id)))
def adC(own:List Str)(fv:FV)(σ:cz):cz:=own.map (fun _=>none)++fv.map fun p=>(σ[p.1]?).join
theorem aca{wi:Cd}{g:zN}{own:List Str}{fv:FV}(h:wi σ H fun ds keep H1=>Cp g cA te (adC own fv σ) ds keep H1 Q):R9 wi g cA te own fv σ H Q:=h
theorem Cp.map{α:Type}{g:zN}{keep:aG->Prop}{σ0:cz}{as:List α}{E:α->D}(F:α->D)(hk:∀H2:aG,aN H H2->keep H2)(hl:as.length<=1000)
  (hel:∀(i:Nat) a,as[i]?=some a->∀(R:aX) (H2:aG),aN H H2->(∀H6,aN H2 H6->R (F a) H6)->g (E a) σ0 H2 fun σ2 H4=>te σ2 H4 R)
  (fin:∀p,H p=none->Q (.ref p) (aP H p (.lst (as.map F)))):Cp g yu te σ0 (as.map E) keep H Q:=by
 refine⟨hk,by rw[aw];exact eh hl (by decide),as.map (fun a=>some (F a)),by simp,fun i d hd H2 hs=>?_,fun p hp=>?_⟩
 ·rw[aS] at hd
  cases e:as[i]? with
  |none=>rw[e] at hd;cases hd
  |some a=>
   rw[e] at hd
   cases hd
   have er:(as.map fun a=>some (F a))[i]?=some (some (F a)):=by rw[aS,e];rfl
   exact hel i a e _ H2 hs fun H6 h6=>⟨h6,er⟩
 ·have e:∀as:List α,(as.map fun a=>some (F a)).filterMap id=as.map F:=by
   intro as
   induction as with
   |nil=>rfl
   |cons a as ih=>rw[ck,ko,ck,←ih];rfl
  rw[e]
  exact fin p hp
theorem Wj{ns:List Int}(ha:H a=some (.lst (ns.map D.int)))(hn:ns≠[])(q:Q (.int (jz ns)) H):Fo [.ref a] H Q:=by
 simp only[Fo,Lg,ha,eN];exact⟨hn,q⟩
theorem V1{ns:List Int}(ha:H a=some (.lst (ns.map D.int)))(hn:ns≠[])(q:Q (.int (jA ns)) H):Fq [.ref a] H Q:=by
 simp only[Fq,Lg,ha,eN];exact⟨hn,q⟩
theorem Qz{α:Type}(xs:List α)(f:α->D)(lo hi:Option Int):mQ (xs.map f) lo hi=(mQ xs lo hi).map f:=by
 unfold mQ;rw[aw,xp,HV]
theorem qX{p A B:Prop}[Decidable p](h1:p->A)(h2:¬p->B):if decide p=true then A else B:=by
 by_cases h:p
 ·rw[if_pos (decide_eq_true h)];exact h1 h
 ·rw[if_neg (by simpa using h)];exact h2 h
theorem ifN{p A B:Prop}[Decidable p](h1:¬p->A)(h2:p->B):if (!decide p)=true then A else B:=by
 by_cases h:p
 ·rw[if_neg (by simpa using h)];exact h2 h
 ·rw[if_pos (by simpa using h)];exact h1 h
theorem ifB{c:Bool}{A B:Prop}(h1:c=true->A)(h2:c=false->B):if c=true then A else B:=by
 cases c
 ·rw[if_neg ip];exact h2 rfl
 ·rw[if_pos rfl];exact h1 rfl
theorem Iv{c:Bool}{A B:Prop}(hc:c=true)(h:A):if c=true then A else B:=by rw[if_pos hc];exact h
theorem vg{c:Bool}{A B:Prop}(hc:c=false)(h:B):if c=true then A else B:=by subst hc;exact h
end
end L3
namespace L3
open PySem PySem.W PyProof.Rows
section
variable{cmp:Nat->Nat->(Bool->ah->Prop)->ah->Prop}{n:Nat}{z:Nat->Int}{s:ah}
def ak(z:Nat->Int)(p:Array Nat)(t:Nat):Int:=z (p.getD t 0)
theorem Ab{p:Array Nat}{t:Nat}:p.getD t 0=(p[t]?).getD 0:=by simp[Array.getD_eq_getD_getElem?]
theorem nH{p q:Array Nat}{t u:Nat}(h:p[t]?=q[u]?):ak z p t=ak z q u:=by unfold ak;rw[Ab,Ab,h]
def Pm(n:Nat)(p:Array Nat):Prop:=p.Perm (dc n).toArray
theorem Pm.size{p:Array Nat}(h:Pm n p):p.size=n:=by have:=Array.Perm.size_eq h;simpa using this
theorem Pm.lt{p:Array Nat}(h:Pm n p){t:Nat}(ht:t<n):p.getD t 0<n:=by
 have hs:t<p.size:=by rw[h.size];exact ht
 have e:p.getD t 0=p[t]:=by rw[Ab,Array.getElem?_eq_getElem hs];rfl
 have hm:p[t]∈p:=Array.getElem_mem hs
 have:=(Array.Perm.mem_iff h).mp hm
 rw[e]
 simpa using this
theorem Pm.rev{p:Array Nat}(h:Pm n p)(i j:Nat):Pm n (tP p i j):=(mirror_perm p i j _).trans h
theorem Pm.bub{p:Array Nat}(h:Pm n p)(k d:Nat):Pm n (bubble p k d):=(bubble_perm p k d).trans h
theorem Gs{p:Array Nat}{i j:Nat}(hj:j<=p.size)(k:Nat):ak z (tP p i j) k=if i<=k/\k<j then ak z p (i+j-1-k) else ak z p k:=by
 have e:=getElem?_mirror_all (i:=i) hj k
 by_cases h:i<=k/\k<j
 ·rw[if_pos h] at e ⊢;exact nH e
 ·rw[if_neg h] at e ⊢;exact nH e
theorem t6{p:Array Nat}{i j:Nat}(hj:j<=p.size)(heq:∀t,i<=t->t<j->ak z p t=ak z p (j-1))(k:Nat):ak z (tP p i j) k=ak z p k:=by
 rw[Gs hj]
 split
 ·rw[heq _ (by omega) (by omega),heq k (by omega) (by omega)]
 ·rfl
def qL(cmp:Nat->Nat->(Bool->ah->Prop)->ah->Prop)(n:Nat)(z:Nat->Int)(s:ah):Prop:=∀i j C,i<n->j<n->C (decide (z i<z j)) s->cmp i j C s
theorem Ob(hc:qL cmp n z s){p:Array Nat}(hp:Pm n p){Q:Nat->ah->Prop}:∀(f m:Nat),1<=m->m+f<=n ->
  (∀r,m<=r->r<=m+f->(∀t,m<=t->t<r->ak z p (t-1)<=ak z p t)->(r<m+f->ak z p r<ak z p (r-1))->Q r s)->(kas_asc p f m).kasWp cmp Q s
 |0,m,_,_,h=>h m (aT _) (aT _) (fun t h1 h2=>absurd h1 (by grind)) (fun z=>absurd z (by grind))
 |f+1,m,h1,h2,h=>by
  refine hc _ _ _ (hp.lt (by grind)) (hp.lt (by grind)) ?_
  by_cases hlt:z (p.getD m 0)<z (p.getD (m-1) 0)
  ·rw[decide_eq_true hlt]
   exact h m (aT _) (by grind) (fun t g1 g2=>absurd g1 (by grind)) (fun _=>hlt)
  ·rw[decide_eq_false hlt]
   refine Ob hc hp f (m+1) (by grind) (by grind) fun r r1 r2 r3 r4=>h r (by grind) (by grind) (fun t t1 t2=>?_) (fun z=>r4 (by grind))
   by_cases ht:t=m
   ·subst ht;exact GI.mp hlt
   ·exact r3 t (by grind) t2
def p8(z:Nat->Int)(p:Array Nat)(k:Nat):Prop:=∀i j,i<=j->j<k->ak z p i<=ak z p j
def XS(z:Nat->Int)(p:Array Nat)(k:Nat):Prop:=∀i j,i<=j->j<k->ak z p j<=ak z p i
theorem Sg{p:Array Nat}{m r:Nat}(h0:p8 z p m)(h1:1<=m)(h:∀t,m<=t->t<r->ak z p (t-1)<=ak z p t):p8 z p r:=by
 intro i j hij hj
 induction j with
 |zero=>have:i=0:=(by grind);subst this;exact fy _
 |succ j ih=>
  by_cases e:i=j+1
  ·subst e;exact fy _
  ·by_cases hm:j+1<m
   ·exact h0 i (j+1) hij hm
   ·exact oq (ih (by grind) (by grind)) (h (j+1) (by grind) hj)
theorem Bp(hc:qL cmp n z s){Q:Array Nat×Nat×Nat->ah->Prop}:∀(f:Nat) (p:Array Nat) (m q:Nat),Pm n p->1<=m->m+f<=n->q<m->XS z p m->(∀t,m-1-q<=t->t<m->ak z p t=ak z p (m-1)) ->
  (∀p' r q',Pm n p'->1<=r->r<=m+f->q'<r->XS z p' r->(∀t,r-1-q'<=t->t<r->ak z p' t=ak z p' (r-1))->Q (p',r,q') s)->(DI f p m q).kasWp cmp Q s
 |0,p,m,q,hp,h1,h2,hq,hn,he,h=>h p m q hp h1 (aT _) hq hn he
 |f+1,p,m,q,hp,h1,h2,hq,hn,he,h=>by
  have hsz:=hp.size
  refine hc _ _ _ (hp.lt (by grind)) (hp.lt (by grind)) ?_
  by_cases hlt:ak z p m<ak z p (m-1)
  ·rw[decide_eq_true (show z (p.getD m 0)<z (p.getD (m-1) 0) from hlt)]
   by_cases hq0:q>0
   ·have ek:∀k,ak z (tP p (m-(q+1)) m) k=ak z p k:=t6 (by grind) (fun t t1 t2=>he t (by grind) t2)
    show (if q>0 then DI f (tP p (m-(q+1)) m) (m+1) 0 else DI f p (m+1) 0).kasWp cmp Q s
    rw[if_pos hq0]
    refine Bp hc f _ (m+1) 0 (hp.rev _ _) (by grind) (by grind) (by grind) ?_ ?_ fun p' r q' a1 a2 a3 a4 a5 a6=>h p' r q' a1 a2 (by grind) a4 a5 a6
    ·intro i j hij hj
     rw[ek,ek]
     by_cases e:j=m
     ·subst e
      by_cases e2:i=j
      ·subst e2;exact fy _
      ·exact oq (lh hlt) (hn i (j-1) (by grind) (by grind))
     ·exact hn i j hij (by grind)
    ·intro t t1 t2
     have:t=m:=by grind
     subst this;rfl
   ·show (if q>0 then DI f (tP p (m-(q+1)) m) (m+1) 0 else DI f p (m+1) 0).kasWp cmp Q s
    rw[if_neg hq0]
    refine Bp hc f _ (m+1) 0 hp (by grind) (by grind) (by grind) ?_ ?_ fun p' r q' a1 a2 a3 a4 a5 a6=>h p' r q' a1 a2 (by grind) a4 a5 a6
    ·intro i j hij hj
     by_cases e:j=m
     ·subst e
      by_cases e2:i=j
      ·subst e2;exact fy _
      ·exact oq (lh hlt) (hn i (j-1) (by grind) (by grind))
     ·exact hn i j hij (by grind)
    ·intro t t1 t2
     have:t=m:=by grind
     subst this;rfl
  ·rw[decide_eq_false (show ¬z (p.getD m 0)<z (p.getD (m-1) 0) from hlt)]
   refine hc _ _ _ (hp.lt (by grind)) (hp.lt (by grind)) ?_
   by_cases hgt:ak z p (m-1)<ak z p m
   ·rw[decide_eq_true (show z (p.getD (m-1) 0)<z (p.getD m 0) from hgt)]
    exact h p m q hp h1 (by grind) hq hn he
   ·rw[decide_eq_false (show ¬z (p.getD (m-1) 0)<z (p.getD m 0) from hgt)]
    have eq:ak z p m=ak z p (m-1):=by grind
    refine Bp hc f p (m+1) (q+1) hp (by grind) (by grind) (by grind) ?_ ?_ fun p' r q' a1 a2 a3 a4 a5 a6=>h p' r q' a1 a2 (by grind) a4 a5 a6
    ·intro i j hij hj
     by_cases e:j=m
     ·subst e
      by_cases e2:i=j
      ·subst e2;exact fy _
      ·rw[eq];exact hn i (j-1) (by grind) (by grind)
     ·exact hn i j hij (by grind)
    ·intro t t1 t2
     show ak z p t=ak z p m
     by_cases e:t=m
     ·subst e;rfl
     ·rw[eq];exact he t (by grind) (by grind)
theorem Ra(hc:qL cmp n z s){p:Array Nat}{m:Nat}(hp:Pm n p)(h1:1<=m)(hm:m<=n)(hn:XS z p m){Q:Nat×Array Nat->ah->Prop}
  (h:∀r p',Pm n p'->1<=r->r<=n->p8 z p' r->Q (r,p') s):(EK m n p).kasWp cmp Q s:=by
 unfold EK
 rw[pf]
 have hsz:=hp.size
 have hs:p8 z (tP p 0 m) m:=fun i j hij hj=>by
  rw[Gs (by grind),Gs (by grind),if_pos ⟨by grind,by grind⟩,if_pos ⟨by grind,by grind⟩]
  exact hn _ _ (by grind) (by grind)
 refine Ob hc (hp.rev 0 m) _ m h1 (by grind) fun r r1 r2 r3 _=>h r _ (hp.rev 0 m) (by grind) (by grind) (Sg hs h1 r3)
theorem vW(hc:qL cmp n z s){p:Array Nat}{m:Nat}(hp:Pm n p)(h1:1<=m)(hm:m+1<=n)(hn:∀t,t<m->ak z p t=ak z p (m-1))(hd:ak z p m<ak z p (m-1)){Q:Nat×Array Nat->ah->Prop}
  (h:∀r p',Pm n p'->1<=r->r<=n->p8 z p' r->Q (r,p') s):(kas_descPart m n p).kasWp cmp Q s:=by
 unfold kas_descPart
 rw[pf]
 refine Bp hc _ p (m+1) 0 hp (by grind) (by grind) (by grind) ?_ ?_ ?_
 ·intro i j hij hj
  by_cases e:j=m
  ·subst e
   by_cases e2:i=j
   ·subst e2;exact fy _
   ·rw[hn i (by grind)];exact lh hd
  ·rw[hn i (by grind),hn j (by grind)];exact fy _
 ·intro t t1 t2
  have:t=m:=by grind
  subst this;rfl
 ·intro p' r q' a1 a2 a3 a4 a5 a6
  have hsz:=a1.size
  show (if q'>0 then EK r n (tP p' (r-(q'+1)) r) else EK r n p').kasWp cmp Q s
  by_cases hq:q'>0
  ·rw[if_pos hq]
   have ek:∀k,ak z (tP p' (r-(q'+1)) r) k=ak z p' k:=t6 (by grind) (fun t t1 t2=>a6 t (by grind) t2)
   exact Ra hc (a1.rev _ _) a2 (by grind) (fun i j hij hj=>by rw[ek,ek];exact a5 i j hij hj) h
  ·rw[if_neg hq]
   exact Ra hc a1 a2 (by grind) a5 h
theorem Vg(hc:qL cmp n z s){p:Array Nat}(hp:Pm n p)(hn:1<=n){Q:Nat×Array Nat->ah->Prop}(h:∀r p',Pm n p'->1<=r->r<=n->p8 z p' r->Q (r,p') s):(kas_count n p).kasWp cmp Q s:=by
 unfold kas_count
 rw[pf]
 have hsz:=hp.size
 refine Ob hc hp _ 1 (aT _) (by grind) fun r r1 r2 r3 r4=>?_
 have hs:p8 z p r:=Sg (m:=1) (fun i j hij hj=>by
  have e1:i=0:=by grind
  have e2:j=0:=by grind
  subst e1;subst e2;exact fy _) (aT _) r3
 by_cases e:r=n
 ·rw[if_pos (by rw[e];exact beq_self_eq_true n)]
  exact h r p hp r1 (by grind) hs
 ·rw[if_neg (by simpa using e)]
  have hd:=r4 (by grind)
  by_cases hr:r>1
  ·rw[if_pos hr]
   refine hc _ _ _ (hp.lt (by grind)) (hp.lt (by grind)) ?_
   by_cases hlt:ak z p 0<ak z p (r-1)
   ·rw[decide_eq_true (show z (p.getD 0 0)<z (p.getD (r-1) 0) from hlt)]
    exact h r p hp r1 (by grind) hs
   ·rw[decide_eq_false (show ¬z (p.getD 0 0)<z (p.getD (r-1) 0) from hlt)]
    have heq:∀t,t<r->ak z p t=ak z p (r-1):=fun t ht=>by
     have g1:=hs 0 t (by grind) ht
     have g2:=hs t (r-1) (by grind) (by grind)
     grind
    have ek:∀k,ak z (tP p 0 r) k=ak z p k:=t6 (by grind) (fun t t1 t2=>heq t t2)
    exact vW hc (hp.rev 0 r) r1 (by grind) (fun t ht=>by rw[ek,ek];exact heq t ht) (by rw[ek,ek];exact hd) h
  ·rw[if_neg hr]
   have e1:r=1:=by grind
   subst e1
   exact vW hc hp r1 (by grind) (fun t ht=>by have:t=0:=(by grind);subst this;rfl) hd h
theorem Am(hc:qL cmp n z s){p:Array Nat}{k:Nat}(hp:Pm n p)(hk:k<n)(hs:p8 z p k){Q:Nat->ah->Prop}:∀(f l r:Nat),l<=r->r<=k->r-l<=f->(∀t,t<l->ak z p t<=ak z p k)->(∀t,r<=t->t<k->ak z p k<ak z p t) ->
  (∀l',l'<=k->(∀t,t<l'->ak z p t<=ak z p k)->(∀t,l'<=t->t<k->ak z p k<ak z p t)->Q l' s)->(EL p k f l r).kasWp cmp Q s
 |0,l,r,h1,h2,h3,h4,h5,h=>h l (by grind) h4 (fun t t1 t2=>h5 t (by grind) t2)
 |f+1,l,r,h1,h2,h3,h4,h5,h=>by
  show (if l≥r then KasT.ret l else .ask (p.getD k 0) (p.getD ((l+r) / 2) 0) fun c=>if c=true then EL p k f l ((l+r) / 2) else EL p k f ((l+r) / 2+1) r).kasWp cmp Q s
  by_cases hlr:l≥r
  ·rw[if_pos hlr]
   exact h l (by grind) h4 (fun t t1 t2=>h5 t (by grind) t2)
  ·rw[if_neg hlr]
   refine hc _ _ _ (hp.lt (by grind)) (hp.lt (by grind)) ?_
   by_cases hlt:ak z p k<ak z p ((l+r) / 2)
   ·rw[decide_eq_true (show z (p.getD k 0)<z (p.getD ((l+r) / 2) 0) from hlt)]
    exact Am hc hp hk hs f l ((l+r) / 2) (by grind) (by grind) (by grind) h4 (fun t t1 t2=>by
     have:=hs ((l+r) / 2) t t1 t2
     grind) h
   ·rw[decide_eq_false (show ¬z (p.getD k 0)<z (p.getD ((l+r) / 2) 0) from hlt)]
    exact Am hc hp hk hs f ((l+r) / 2+1) r (by grind) h2 (by grind) (fun t ht=>by
     have:=hs t ((l+r) / 2) (by grind) (by grind)
     grind) h5 h
theorem Vs(hc:qL cmp n z s){Q:Array Nat->ah->Prop}:∀(f:Nat) (p:Array Nat) (k:Nat),k+f=n->Pm n p->p8 z p k->(∀p',Pm n p'->p8 z p' n->Q p' s)->(kas_bin f p k).kasWp cmp Q s
 |0,p,k,h1,hp,hs,h=>h p hp (by rw[←h1];exact hs)
 |f+1,p,k,h1,hp,hs,h=>by
  show ((EL p k k 0 k).bind fun l=>kas_bin f (bubble p k (k-l)) (k+1)).kasWp cmp Q s
  rw[pf]
  have hsz:=hp.size
  refine Am hc hp (by grind) hs k 0 k (ef _) (aT _) (by grind) (fun t ht=>absurd ht (by grind)) (fun t t1 t2=>absurd t1 (by grind)) fun l l1 l2 l3=>?_
  refine Vs hc f _ (k+1) (by grind) (hp.bub _ _) ?_ h
  have eb:∀t,ak z (bubble p k (k-l)) t=if t=l then ak z p k else if l<t/\t<=k then ak z p (t-1) else ak z p t:=fun t=>by
   have e:=getElem?_bubble (xs:=p) (src:=k) (by grind) (k-l) (by grind) t
   rw[show k-(k-l)=l by grind] at e
   by_cases g1:t=l
   ·rw[if_pos g1] at e ⊢;exact nH e
   ·rw[if_neg g1] at e ⊢
    by_cases g2:l<t/\t<=k
    ·rw[if_pos g2] at e ⊢;exact nH e
    ·rw[if_neg g2] at e ⊢;exact nH e
  intro i j hij hj
  rw[eb,eb]
  by_cases i1:i=l
  ·rw[if_pos i1]
   by_cases j1:j=l
   ·rw[if_pos j1];exact fy _
   ·rw[if_neg j1,if_pos ⟨by grind,by grind⟩]
    exact lh (l3 (j-1) (by grind) (by grind))
  ·rw[if_neg i1]
   by_cases i2:l<i/\i<=k
   ·rw[if_pos i2,if_neg (by grind),if_pos ⟨by grind,by grind⟩]
    exact hs _ _ (by grind) (by grind)
   ·rw[if_neg i2]
    by_cases j1:j=l
    ·rw[if_pos j1];exact l2 i (by grind)
    ·rw[if_neg j1]
     by_cases j2:l<j/\j<=k
     ·rw[if_pos j2];exact hs _ _ (by grind) (by grind)
     ·rw[if_neg j2];exact hs _ _ hij (by grind)
theorem Xm(hc:qL cmp n z s)(hn:1<=n){Q:Array Nat->ah->Prop}(h:∀p,Pm n p->p8 z p n->Q p s):(kas_sort n).kasWp cmp Q s:=by
 unfold kas_sort
 rw[pf]
 refine Vg hc (FA _) hn fun r p hp h1 h2 hs=>?_
 show (if r<n then kas_bin (n-max r 1) p (max r 1) else .ret p).kasWp cmp Q s
 have e:max r 1=r:=by grind
 by_cases hr:r<n
 ·rw[if_pos hr,e]
  exact Vs hc _ p r (by grind) hp hs h
 ·rw[if_neg hr]
  have:r=n:=by grind
  subst this
  exact h p hp hs
end
end L3
namespace L3
open PySem PySem.Spec PySem.W PyProof.Rows
section
variable{prog:b5}{w:cE}{A:dS}{E:af->ah->Prop}{s:ah}
structure RP(prog:b5)(w:cE)(A:dS)(s:ah)(vs:List af)(f:af)(z:Nat->Int)(Q:af->ah->Prop)(D kS:aE)(J:Nat->List af->Nat->ah->Prop):Prop where
 start:∀e1 h',(∀b o,s.heap.get? b=some o->h'.get? b=some o)->h'.get? D=some (gu "list" #[] e1)->h'.get? kS=some (gu "list" #[] 0)->J e1 [] 0 { s with heap:=h' }
 stand:∀e1 ks e s1,J e1 ks e s1->s1.heap.get? kS=some (gu "list" (fi ks) e)/\s1.heap.get? D=some (gu "list" #[] e1)
 turn:∀e1 ks e s1 x,J e1 ks e s1->vs[ks.length]?=some x->bq (cf prog w) A (call f [x]) (fun k s2=>s2.heap.get? kS=some (gu "list" (fi ks) e) /\
  ∀c h',y3 kS s2.heap h'->h'.get? kS=some (gu "list" (fi (ks++[k])) c)->J e1 (ks++[k]) c { s2 with heap:=h' }) (fun _ _=>False) s1
 order:∀e1 ks e s1,J e1 ks e s1->ks.length=vs.length->2<=vs.length->bq (cf prog w) A (keyKind' (fi ks)) (fun κ s2=>s2=s1/\qL (kas_ask prog w A κ ks) vs.length z s1) (fun _ _=>False) s1
 fin:∀e1 ks e s1 (p:Array Nat),J e1 ks e s1->ks.length=vs.length->Pm vs.length p->p8 z p vs.length->∀h' c,(∀b o,b≠kS->b≠D->s1.heap.get? b=some o->h'.get? b=some o) ->
  h'.get? D=some (gu "list" (fi (p.toList.map fun i=>vs.getD i iN)) c)->Q (.ref D) { s1 with heap:=h' }
theorem yF{D kS:aE}{ks:List af}{e e1:Nat}{st:SortSt}{out:List af}{P:IC->ah->Prop}(hk:s.heap.get? kS=some (gu "list" (fi ks) e))(hD:s.heap.get? D=some (gu "list" #[] e1))(ne:D≠kS)
  (ho:(arrOf st).map (·.2)=fi out) (hf:failedOf st=none) (h1:ks.length<64) (h2:out.length<64)
  (h:∀h' c,(∀b o,b≠kS->b≠D->s.heap.get? b=some o->h'.get? b=some o)->h'.get? D=some (gu "list" (fi out) c)->P (.done (.ret .none)) { s with heap:=h' }):bq (cf prog w) A (ksk_tail D false e1 (.ref kS) st) P E s:=by
 have s1:=oz s.heap kS (iq fun _=>(#[]:Array af))
 have hD1:(s.heap.update kS (iq fun _=>(#[]:Array af))).get? D=some (gu "list" #[] e1):=(s1.2 D ne).trans hD
 have s2:=oz (s.heap.update kS (iq fun _=>(#[]:Array af))) D (iq fun _=>fi out)
 unfold ksk_tail
 dsimp only
 rw[ho]
 refine ag (xw hk rfl (ag (xa (ag (seqEpoch_at hD1 rfl (ag (xw hD1 rfl ?_ (ef _) ?_)))))) ?_ (ef _))
 ·rw[hf]
  simp only[bne_self_eq_false,js,if_false]
  exact bg (h _ _ (fun b o n1 n2 q=>(s2.2 b n2).trans ((s1.2 b n1).trans q)) (Au hD1 fun _=>fi out))
 ·simp only[js,if_false,cw]
  rw[hG];grind
 ·rw[cw,hG];grind
theorem Om{D kS:aE}{J:Nat->List af->Nat->ah->Prop}{s0:ah}{vs ks:List af}{f:af}{z:Nat->Int}{Q:af->ah->Prop}{e e1:Nat}{P:IC->ah->Prop}(T:RP prog w A s0 vs f z Q D kS J)(ne:D≠kS)(h64:vs.length<64)
  (hJ:J e1 ks e s) (hl:ks.length=vs.length) (hP:∀s',Q (.ref D) s'->P (.done (.ret .none)) s'):bq (cf prog w) A (ksk_end D false vs.toArray e1 (.ref kS) (fi ks)) P E s:=by
 obtain⟨hk,hD⟩:=T.stand _ _ _ _ hJ
 unfold ksk_end
 dsimp only
 simp only[js,if_false]
 by_cases h2:vs.toArray.size<2
 ·rw[if_pos h2,if_pos h2]
  rw[cw] at h2
  refine ag (bg ?_)
  rw[StateT.run_pure]
  refine ag (bg ?_)
  have hz:(dc vs.length).map (fun i=>vs.getD i iN)=vs:=by
   apply xb
   intro i
   rw[aS]
   by_cases hi:i<vs.length
   ·rw[kq hi,dA hi]
    simp[hi]
   ·rw[fx (by simpa using hi),fx (by simpa using hi)];rfl
  refine yF (out:=vs) hk hD ne ?_ rfl (by grind) h64 fun h' c g1 g2=>hP _ (T.fin e1 ks e s (fi (dc vs.length)) hJ hl (FA _) ?_ h' c g1 ?_)
  ·show Array.map (·.2) ((fi ks).zip vs.toArray)=vs.toArray
   apply Array.toList_inj.mp
   simp only[Array.toList_map,Array.toList_zip]
   exact List.map_snd_zip (by grind)
  ·intro i j hij hj
   have:i=j:=by grind
   subst this;exact fy _
  ·rw[g2]
   simp only[lT] at hz ⊢
   rw[hz]
 ·rw[if_neg h2,if_neg h2]
  rw[cw] at h2
  refine ag (eB (T.order _ _ _ _ hJ hl (by grind)) (fun κ s2 hk2=>?_) fun _ _ x=>x.elim)
  obtain⟨rfl,hc⟩:=hk2
  refine ag (eB (kat_run (Q:=fun st' s'=>s'=s2/\∃p:Array Nat,Pm vs.length p/\p8 z p vs.length/\arrOf st'=p.map (kas_item ((fi ks).zip vs.toArray))/\failedOf st'=none) (G:=fun p s'=>s'=s2/\Pm vs.length p/\p8 z p vs.length)
   hl (by grind) h64 (fun p st' s' a1 a2 a3 a4=>⟨a4.1,p,a4.2.1,a4.2.2,a2,a3⟩) (Xm hc (by grind) fun p g1 g2=>⟨rfl,g1,g2⟩)) ?_ fun _ _ x=>x)
  rintro⟨⟨⟩,st'⟩ s' ⟨rfl,p,pm,so,har,hf⟩
  dsimp only
  refine yF hk hD ne (kat_snds hl har) hf (by grind) ?_ fun h' c g1 g2=>hP _ (T.fin e1 ks e _ p hJ hl pm so h' c g1 g2)
  rw[aw,d3,pm.size];exact h64
theorem Nk{D:aE}{vs:List af}{f:af}{z:Nat->Int}{Q:af->ah->Prop}{s0:ah}{n:Nat}{P:IC->ah->Prop}(hD:s.heap.get? D=some (gu "list" vs.toArray n))(h64:vs.length<64)
  (kp:∀b o,s0.heap.get? b=some o->s.heap.get? b=some o/\b≠D) (hs:∃h,s={ s0 with heap:=h })
  (T:∀kS,s.heap.objs.size<=kS->∃J,RP prog w A s0 vs f z Q D kS J) (hP:∀s',Q (.ref D) s'->P (.done (.ret .none)) s'):bq (cf prog w) A (ksk_tree D f false) P E s:=by
 have s1:=oz s.heap D (iq fun _=>(#[]:Array af))
 obtain⟨e1,hD1⟩:∃e1,(s.heap.update D (iq fun _=>(#[]:Array af))).get? D=some (gu "list" #[] e1):=⟨_,Au hD fun _=>#[]⟩
 have hz:(((s.heap.update D (iq fun _=>(#[]:Array af))).push (gu "tuple" vs.toArray 0))).objs.size=s.heap.objs.size+1:=by rw[G0,EM]
 have hlt:D<s.heap.objs.size:=bp hD
 have hne:D≠(((s.heap.update D (iq fun _=>(#[]:Array af))).push (gu "tuple" vs.toArray 0))).objs.size:=df (by rw[hz];exact qr hlt)
 obtain⟨J,T⟩:=T (((s.heap.update D (iq fun _=>(#[]:Array af))).push (gu "tuple" vs.toArray 0))).objs.size (by rw[hz];exact xc _)
 unfold ksk_tree
 refine ag (listItems_at hD rfl (ag (xw hD rfl (ag (seqEpoch_at hD1 rfl (ag (G1 (ag (Cn (kF ?_) (ef _))) ?_)))) ?_ (ef _))))
 ·unfold ksk_rest
  obtain⟨h0,rfl⟩:=hs
  have J0:=T.start e1 ((((h0.update D (iq fun _=>(#[]:Array af))).push (gu "tuple" vs.toArray 0))).push (gu "list" #[] 0)) (fun b o q=>av _ (av _ ((s1.2 b (kp b o q).2).trans (kp b o q).1))) (av _ (av _ hD1)) (bP _ rfl)
  refine ag (G2 ?_)
  rw[List.forIn_toArray]
  refine ag (ksk_fold (fun i s'=>∃ks e,ks.length=i/\J e1 ks e s') vs 0 _ ⟨[],0,rfl,J0⟩ (fun j x s' hx hI=>?_) fun s' hI=>?_)
  ·obtain⟨ks,e,hl,hJ⟩:=hI
   have hj:ks.length=j:=by grind
   have hjl:j<vs.length:=(bb.mp hx).1
   refine ag (oQ (eB (T.turn _ _ _ _ x hJ (by rw[hj];exact hx)) (fun k s2 hk=>?_) fun _ _ hF=>hF.elim))
   obtain⟨hk,fin⟩:=hk
   dsimp only
   refine ag (xw hk rfl ?_ ?_ ?_)
   ·have hu:=Au hk (·.push k)
    rw[show (fi ks).push k=fi (ks++[k]) by simp] at hu
    exact bg ⟨rfl,ks++[k],_,by simp;grind,fin _ _ (oz ..) hu⟩
   ·rw[cw,hG];grind
   ·rw[Array.size_push,cw,hG];grind
  ·obtain⟨ks,e,hl,hJ⟩:=hI
   have hl':ks.length=vs.length:=by grind
   dsimp only
   refine ag (listItems_at (T.stand _ _ _ _ hJ).1 rfl ?_)
   exact Om T hne h64 hJ hl' hP
 ·show vs.length<=_;rw[hG];grind
 ·rw[cw,hG];grind
theorem K5{l q:aE}{vs:List af}{z:Nat->Int}{Q:af->ah->Prop}(hl:s.heap.IsList l vs.toArray)(h64:vs.length<64)
  (T:∀D kS,s.heap.objs.size<=D->D<kS->∃J,RP prog w A.in1.in1 s vs (.ref q) z Q D kS J):bq (cf prog w) A (call (.builtin "sorted") [.ref l] [(eS "key",.ref q)]) Q E s:=by
 refine call_function_entry_kw kind_sorted plain_sorted entry_sorted (ksk_s1 _ _) ?_
 unfold tN.«sorted»
 have hz:((s.heap.push (gu "list" #[] 0)).update s.heap.objs.size (iq (·++vs.toArray))).objs.size=s.heap.objs.size+1:=(EM ..).trans (G0 ..)
 refine ag (m:=checkCount "sorted" 1 1 _) (bg (ag (collect_list hl (ag (Cn ?_ ?_)) ?_)))
 ·have kp:∀b o,s.heap.get? b=some o->(((s.heap.push (gu "list" #[] 0)).update s.heap.objs.size (iq (·++vs.toArray))).push (gu "list" vs.toArray 0)).get? b=some o:=fun b o q=>by
   have hb:b<s.heap.objs.size:=bp q
   rw[DJ _ _ _ (by rw[hz];exact df (qr hb)),tw _ _ _ _ (df hb),DJ _ _ _ (df hb)]
   exact q
  have hD:(((s.heap.push (gu "list" #[] 0)).update s.heap.objs.size (iq (·++vs.toArray))).push (gu "list" vs.toArray 0)).get? ((s.heap.push (gu "list" #[] 0)).update s.heap.objs.size (iq (·++vs.toArray))).objs.size=some (gu "list" vs.toArray 0):=bP _ rfl
  refine ag (kF (wpAny_call_entry_kw slot_list_sort ⟨_,hD,rfl⟩ entry_list_sort ?_ (ksk_l1 _ _)))
  refine Nk (s0:=s) (Q:=Q) hD h64 (fun b o q=>⟨kp b o q,df (by rw[hz];exact qr (bp q))⟩) ⟨_,rfl⟩ (fun kS hk=>T _ kS (by rw[hz];exact xc _) (b9 (bp hD) hk)) fun s' hq=>⟨_,rfl,bg ⟨_,rfl,hq⟩⟩
 ·rw[hG];grind
 ·rw[hG];grind
end
end L3
namespace L3
open PySem PySem.Spec PyProof.Rows L2
def Cx.Gz(X:Cx):Cx:={ X with A:=X.A.in1.in1,xe:=fun _ _=>False }
theorem Ok.Gz{X:Cx}(k:X.Ok):(Cx.Gz X).Ok:=⟨k.mod,k.kind,k.glob,k.blt,k.above,k.inj,k.has,k.cab,k.hd,k.frames,k.stk,k.exf,k.bs,k.bsz,k.noex,k.exfs,k.pL,k.frf⟩
section
variable{X:Cx}{pins:List (aE×Obj)}{σ:St}{H H':Hp}{s:ah}
theorem Inv.Gz(I:Inv X pins σ H s):Inv (Cx.Gz X) pins σ H s:=⟨Ok.Gz I.ok,I.os,I.bare,I.base,I.loc,I.cell,I.free,I.freeC,I.pin,I.hok,I.len⟩
theorem Inv.acz(k:X.Ok)(I:Inv (Cx.Gz X) pins σ H s):Inv X pins σ H s:=⟨k,I.os,I.bare,I.base,I.loc,I.cell,I.free,I.freeC,I.pin,I.hok,I.len⟩
theorem Inv.adopt{D kS:aE}{xs:List V}{its:List af}{n:Nat}{h':eJ}(I:Inv X pins σ H s)(fD:j9 X pins H D)(fk:j9 X pins H kS)(g:∀b o,b≠kS->b≠D->s.heap.get? b=some o->h'.get? b=some o)
  (hD:h'.get? D=some (gu "list" its.toArray n)) (hv:Vals xs its) (hz:xs.length<=bS):Inv X pins σ (upd H D (.lst xs)) { s with heap:=h' }:=by
 have nD:∀b u,H b=some u->b≠D:=fun b u e z=>by rw[z,fD.1] at e;cases e
 have nK:∀b u,H b=some u->b≠kS:=fun b u e z=>by rw[z,fk.1] at e;cases e
 have out:∀b,b∉[kS,D]->b≠kS/\b≠D:=fun b hb=>⟨fun z=>hb (by simp[z]),fun z=>hb (by simp[z])⟩
 refine I.step (g':=s.gens) (d':=s.drawn) (t':=s.toks) (ch:=[kS,D]) (fun b hb=>?_) (fun b o _ _ hc e _=>g b o (out b hc).1 (out b hc).2 e) (fun b o _ _ hc e _=>⟨o.slots,g b o (out b hc).1 (out b hc).2 e⟩) (fun b o hc _ z=>by rw[aC (out b hc).2];exact z) ?_
  (fun b ys e=>by rw[aC (nD b _ e)];exact e) (fun b o u e=>by rw[aC (nD b _ e)];exact e) (fun b ps e=>⟨#[],by rw[aC (nD b _ e),e];simp⟩) (fun m hm=>?_) (fun b u e=>?_) I.bare
 ·rcases bE.mp hb with z | hb
  ·rw[z];exact⟨fk.2.2.2.1,fk.2.1,fk.2.2.2.2.1,fk.2.2.2.2.2⟩
  ·rw[ay.mp hb];exact⟨fD.2.2.2.1,fD.2.1,fD.2.2.2.2.1,fD.2.2.2.2.2⟩
 ·exact fun b o hc e=>⟨o,g b o (out b hc).1 (out b hc).2 e⟩
 ·obtain⟨o,es,ep,ho,r⟩:=hm
  exact⟨o,es,ep,g _ o (fm fk.2.1) (fm fD.2.1) ho,r⟩
 ·by_cases hb:b=D
  ·subst hb
   rw[aO] at e
   cases e
   exact⟨hz,its,n,hv,hD⟩
  ·rw[aC hb] at e
   refine (I.hok b u e).stay (fun c v hc q=>?_) (fun c q=>by rw[aC (nD c _ q)];exact q) fun c ys q=>by rw[aC (nD c _ q)];exact q
   rcases hc with z | z
   ·exact g c v (by rw[z];exact nK b u e) (by rw[z];exact hb) q
   ·exact g c v (nK c _ z) (nD c _ z) q
end
def Ld(K:ae)(H:Hp):List Pt->List af->Prop:=Paired fun c k=>∃a,k=.ref a/\mO K H a [.int c.2,.int c.1]
theorem Ld.mono{K:ae}{H H':Hp}(t:TK H H'){cs:List Pt}{ks:List af}(h:Ld K H cs ks):Ld K H' cs ks:=Paired.xX h fun _ _ ⟨a,e,q⟩=>⟨a,e,t.sqT q⟩
theorem Paired.snoc{α β:Type}{R:α->β->Prop}{as:List α}{bs:List β}{a:α}{b:β}(t:Paired R as bs)(h:R a b):Paired R (as++[a]) (bs++[b]):=by
 induction t with
 |nil=>exact .cons h .nil
 |cons r _ ih=>exact .cons r ih
theorem Paired.at{α β:Type}{R:α->β->Prop}:∀ {as:List α} {bs:List β} {i:Nat} {a:α},Paired R as bs->as[i]?=some a->∃b,bs[i]?=some b/\R a b
 |_,_,_,_,.nil,e=>by simp at e
 |_,_,0,_,.cons r _,e=>by simp at e;subst e;exact⟨_,rfl,r⟩
 |_,_,i+1,a,.cons _ t,e=>by
  obtain⟨b,h1,h2⟩:=Paired.at (i:=i) (a:=a) t (by simpa using e)
  exact⟨b,by simpa using h1,h2⟩
section
variable{X:Cx}
theorem xx{pins:List (aE×Obj)}{σ:St}{H:Hp}{s:ah}(I:Inv X pins σ H s){a:aE}{y x:Int}(h:mO X.K H a [.int y,.int x]):∃o n t u,s.heap.get? a=some o/\o.cls=.type "tuple"/\o.data=.seq #[.int y t,.int x u] n:=by
 obtain⟨its,rv,⟨o,e,c,n,d⟩,_⟩:=I.tuple h
 obtain⟨u,v,rfl,⟨t,rfl⟩,⟨t',rfl⟩⟩:=vals2 rv
 exact⟨o,n,t,t',e,c,by simpa using d⟩
theorem Kq{pins:List (aE×Obj)}{σ:St}{H:Hp}{s:ah}(I:Inv X pins σ H s):∀ {cs:List Pt} {ks:List af},Ld X.K H cs ks->∃fs,PySem.W.KatTups s.heap ks fs/\fs.length=ks.length/\∀v∈fs,∃i t,v=tT i t:=by
 intro cs ks h
 induction h with
 |nil=>exact⟨[],trivial,rfl,fun _ h=>nomatch h⟩
 |cons r t ih=>
  obtain⟨a,rfl,q⟩:=r
  obtain⟨o,n,t1,t2,e,c,d⟩:=xx I q
  obtain⟨fs,h1,h2,h3⟩:=ih
  refine⟨_::fs,.cons e c d rfl h1,congrArg (· + 1) h2,fun v hv=>?_⟩
  rcases bE.mp hv with rfl | hv
  ·exact⟨_,_,rfl⟩
  ·exact h3 v hv
theorem N7{pins:List (aE×Obj)}{σ:St}{H:Hp}{s:ah}{A:dS}{E:af->ah->Prop}(I:Inv X pins σ H s){a b:aE}{c d:Pt}{C:Bool->ah->Prop}(ha:mO X.K H a [.int c.2,.int c.1])(hb:mO X.K H b [.int d.2,.int d.1])(h:C (vd d c) s) :
  bq (cf X.prog X.w) A (keyLt' (tuples' true) (.ref a) (.ref b)) C E s:=by
 obtain⟨oa,na,t1,t2,ea,_,da⟩:=xx I ha
 obtain⟨ob,nb,u1,u2,eb,_,db⟩:=xx I hb
 refine PySem.W.kat_lt ea da eb db (EN (xI ?_))
 have e0:vd d c=if c.2=d.2 then (if c.1=d.1 then false else decide (c.1<d.1)) else decide (c.2<d.2):=rfl
 by_cases h1:c.2=d.2
 ·rw[show (c.2==d.2)=true by simp[h1]]
  rw[e0,if_pos h1] at h
  refine FC (EN (xI ?_))
  by_cases h2:c.1=d.1
  ·rw[show (c.1==d.1)=true by simp[h2]]
   rw[if_pos h2] at h
   exact FC (PySem.W.kat_nil h)
  ·rw[show (c.1==d.1)=false by simp[h2]]
   rw[if_neg h2] at h
   exact He (PySem.W.kat_one _ _ (lt_int h))
 ·rw[show (c.2==d.2)=false by simp[h1]]
  rw[e0,if_neg h1] at h
  exact He (oneLt_int h)
end
theorem vM{α:Type}(xs:List α)(d:α):(dc xs.length).map (fun i=>xs.getD i d)=xs:=by
 apply xb
 intro i
 rw[aS]
 by_cases hi:i<xs.length
 ·rw[kq hi,dA hi]
  simp[hi]
 ·rw[fx (by simpa using hi),fx (by simpa using hi)];rfl
theorem zg{vs:List V}{its:List af}(rv:Vals vs its):∀ {l:List Nat},(∀i∈l,i<vs.length)->Vals (l.map fun i=>vs.getD i .non) (l.map fun i=>its.getD i iN)
 |[],_=>.nil
 |i::l,h=>by
  have hi:=h i (by simp)
  obtain⟨u,hu,r⟩:=rv.get (dA hi)
  refine .cons ?_ (zg rv fun j hj=>h j (by simp[hj]))
  have e1:vs.getD i .non=vs[i]:=by simp[hi]
  have e2:its.getD i iN=u:=by rw[fh,hu];rfl
  show RelV (vs.getD i .non) (its.getD i iN)
  rw[e1,e2];exact r
theorem Et{K:ae}{H:Hp}{ps:List Pt}{vs:List V}(ra:bI K H (ps.map cF) vs):∀ {l:List Nat},(∀i∈l,i<ps.length)->bI K H ((l.map fun i=>ps.getD i (0,0)).map cF) (l.map fun i=>vs.getD i .non)
 |[],_=>.nil
 |i::l,h=>by
  have hi:=h i (by simp)
  obtain⟨v,hv,r⟩:=ra.get (i:=i) (d:=cF ps[i]) (by rw[aS,dA hi];rfl)
  refine .cons ?_ (Et ra fun j hj=>h j (by simp[hj]))
  have e1:ps.getD i (0,0)=ps[i]:=by simp[hi]
  have e2:vs.getD i .non=v:=by rw[fh,hv];rfl
  show Rep K H (cF (ps.getD i (0,0))) (vs.getD i .non)
  rw[e1,e2];exact r
theorem De{M:Int}{ps:List Pt}{p:Array Nat}(hM:∀c∈ps,-M<=c.1/\c.1<=M)(pm:Pm ps.length p)(so:p8 (fun i=>zc M (ps.getD i (0,0))) p ps.length):jw ps=p.toList.map fun i=>ps.getD i (0,0):=by
 have hmem:∀i,i<ps.length->ps.getD i (0,0)∈ps:=fun i hi=>by rw[show ps.getD i (0,0)=ps[i] by simp[hi]];exact rp hi
 refine Eb ?_ ?_
 ·have h1:p.toList.Perm (dc ps.length):=by have:=DM pm;simpa using this
  have h2:=h1.map fun i=>ps.getD i (0,0)
  rw[vM] at h2
  exact h2
 ·rw[List.pairwise_iff_getElem]
  intro i j hi hj hij
  have hsz:=pm.size
  rw[aw,d3,hsz] at hi hj
  have key:∀t,t<ps.length->∀h,(p.toList.map fun i=>ps.getD i (0,0))[t]'h=ps.getD (p.getD t 0) (0,0):=fun t ht h=>by
   rw[List.getElem_map]
   have:p.toList[t]'(by simpa [hsz] using ht)=p.getD t 0:=by simp[Array.getD,hsz,ht]
   rw[this]
  rw[key i hi,key j hj]
  have h1:=so i j (ij hij) hj
  unfold xR
  rw[Vy (hM _ (hmem _ (pm.lt hi))) (hM _ (hmem _ (pm.lt hj)))]
  exact decide_eq_false (GI.mpr h1)
section
variable{X:Cx}{pins:List (aE×Obj)}{σ:St}{H:Hp}{s:ah}
theorem Kw(I:Inv X pins σ H s){f a:aE}{vs:List V}{ps:List Pt}{H3:aG}
  (ga:H a=some (.lst vs)) (ra:bI X.K H (ps.map cF) vs) (hr3:HR X.K H3 H) (h64:ps.length<64) {Q:VK}
  (call1:∀ (pins:List (aE×Obj)) (H':Hp) (s:ah) (c:Pt) (v:V) (u:af),TK H H'→HR X.K H3 H'→Inv (Cx.Gz X) pins σ H' s→Rep X.K H' (cF c) v→RelV v u →
   bq (cf X.prog X.w) (Cx.Gz X).A (call (.ref f) [u]) (EP (Cx.Gz X) pins σ fun v H''=>TK H' H''/\HR X.K H3 H''/\Rep X.K H'' (.tup [.int c.2,.int c.1]) v) (fun _ _=>False) s)
  (hQ:∀(D:aE) (H'':Hp),TK H H''->HR X.K (aP H3 D (.lst ((jw ps).map cF))) H''->H3 D=none->Q (.ref D) H'') :
  bq (cf X.prog X.w) X.A (call (.builtin "sorted") [.ref a] [(eS "key",.ref f)]) (EP X pins σ Q) X.xe s:=by
 obtain⟨its,rv,pl,_⟩:=I.list (gB.of ga)
 have hv:vs.length=ps.length:=by rw[←ra.length,aw]
 have hn:its.length=ps.length:=by rw[←rv.length];exact hv
 obtain⟨M,hM0,hM⟩:=rK ps
 refine K5 (z:=fun i=>zc M (ps.getD i (0,0))) pl.isList (by grind) fun D kS hD hk=>?_
 have hK:s.heap.objs.size<=kS:=eh hD (ij hk)
 have nD:H D=none:=I.hok.fresh hD
 have nK:H kS=none:=I.hok.fresh hK
 have fD:=(Inv.Gz I).wC (H':=H) hD nD
 have fk:=(Inv.Gz I).wC (H':=H) hK nK
 have nc:∀(xs:Array af) (e:Nat) (v:Option af),(gu "list" xs e).data≠.cell v:=fun _ _ _ z=>by cases z
 refine⟨fun e1 ks e s'=>∃H',Inv (Cx.Gz X) (pins++[(D,gu "list" #[] e1)]) σ H' s'/\s'.heap.get? kS=some (gu "list" (fi ks) e)/\H' kS=none/\TK H H'/\HR X.K H3 H'/\Ld X.K H' (ps.take ks.length) ks,?_⟩
 constructor
 ·intro e1 h' kp hD' hk'
  have I2:=(Inv.Gz I).kept (t':=s.toks) kp
  refine⟨H,I2.oO fun p hp=>?_,hk',nK,TK.refl,hr3,.nil⟩
  rcases dE.mp hp with hp | hp
  ·exact I2.pin p (eD _ hp)
  ·rw[ay.mp hp]
   exact⟨hD',nD,fD.2.1,fD.2.2.1,nc _ _⟩
 ·rintro e1 ks e s1 ⟨H',J,h1,_⟩
  exact⟨h1,(J.pin (D,gu "list" #[] e1) (by simp)).1⟩
 ·rintro e1 ks e s1 x ⟨H',J,hk1,nk1,tk,hr',kr⟩ hx
  have hi:ks.length<ps.length:=by have:=(bb.mp hx).1;grind
  have hc:ps[ks.length]?=some ps[ks.length]:=dA hi
  generalize ps[ks.length]=c at hc
  obtain⟨v,hv1,rep⟩:=ra.get (i:=ks.length) (d:=cF c) (by rw[aS,hc];rfl)
  obtain⟨u,hu,rx⟩:=rv.get hv1
  rw[hx] at hu
  cases hu
  have J2:Inv (Cx.Gz X) (pins++[(D,gu "list" #[] e1),(kS,gu "list" (fi ks) e)]) σ H' s1:=J.oO fun p hp=>by
   rcases dE.mp hp with hp | hp
   ·exact J.pin p (by simp[hp])
   ·rcases bE.mp hp with rfl | hp
    ·exact J.pin _ (by simp)
    ·rw[ay.mp hp]
     exact⟨hk1,nk1,fk.2.1,fk.2.2.1,nc _ _⟩
  refine eB (call1 _ H' s1 c v x tk hr' J2 (rep.mono tk) rx) (fun k s2 hk2=>?_) fun _ _ z=>z
  ·obtain⟨v',H'',J3,rk,tk',hr'',rep'⟩:=hk2
   cases rep' with
   |tup sq rl=>
    cases rk
    have ex:=bI.nG (ns:=[c.2,c.1]) rl
    subst ex
    have pk:=J3.pin (kS,gu "list" (fi ks) e) (by simp)
    refine⟨pk.1,fun c' h' sb hk'=>⟨H'',?_,hk',pk.2.1,tk.trans tk',hr'',?_⟩⟩
    ·refine (J3.oO (pins':=pins++[(D,gu "list" #[] e1)]) fun p hp=>J3.pin p ?_).turned (it:=kS) (t':=s2.toks) (fun b o hb e=>(sb.2 b hb).trans e) pk.2.1 fk.2.1 fk.2.2.2.1 fk.2.2.2.2.1 fun p hp=>?_
     ·rcases dE.mp hp with hp | hp
      ·simp[hp]
      ·rw[ay.mp hp];simp
     ·rcases dE.mp hp with hp | hp
      ·exact fk.2.2.2.2.2 p (fo _ hp)
      ·rcases dE.mp hp with hp | hp
       ·exact fk.2.2.2.2.2 p (eD _ hp)
       ·rw[ay.mp hp];exact df hk
    ·rw[bo,gE,ff,hc]
     exact Paired.snoc (Ld.mono tk' kr) ⟨_,rfl,mO.of sq⟩
 ·rintro e1 ks e s1 ⟨H',J,hk1,nk1,tk,hr',kr⟩ hl h2
  rw[ez (by grind)] at kr
  obtain⟨fs,t1,t2,t3⟩:=Kq J kr
  refine PySem.W.kat_kind (T:=.type "int") t1 (by grind) (fun v hv=>?_) (by decide) ⟨rfl,?_⟩
  ·obtain⟨i,t,rfl⟩:=t3 v hv
   exact KP
  ·intro i j C hi hj hC
   have hi':i<ps.length:=by grind
   have hj':j<ps.length:=by grind
   obtain⟨ki,ei,ai,rfl,qi⟩:=Paired.at kr (dA hi')
   obtain⟨kj,ej,aj,rfl,qj⟩:=Paired.at kr (dA hj')
   unfold PySem.W.kas_ask
   rw[show ks.getD i iN=.ref ai by rw[fh,ei];rfl,show ks.getD j iN=.ref aj by rw[fh,ej];rfl]
   refine N7 J qi qj ?_
   rw[Vy (hM _ (rp hj')) (hM _ (rp hi'))]
   have e1:ps.getD i (0,0)=ps[i]:=by simp[hi']
   have e2:ps.getD j (0,0)=ps[j]:=by simp[hj']
   have hC':C (decide (zc M (ps.getD i (0,0))<zc M (ps.getD j (0,0)))) s1:=hC
   rw[e1,e2] at hC'
   exact hC'
 ·rintro e1 ks e s1 p ⟨H',J,hk1,nk1,tk,hr',kr⟩ hl pm so h' c g hD'
  have pD:=J.pin (D,gu "list" #[] e1) (by simp)
  have nD':H' D=none:=pD.2.1
  rw[hn] at pm so
  have hlt:∀i∈p.toList,i<ps.length:=fun i hi=>by
   have h1:p.toList.Perm (dc ps.length):=by have:=DM pm;simpa using this
   simpa using h1.mem_iff.mp hi
  have hvals:=zg rv (l:=p.toList) fun i hi=>by rw[hv];exact hlt i hi
  have J':=Inv.adopt (J.oO (pins':=pins) fun q hq=>J.pin q (by simp[hq])) ⟨nD',fD.2⟩ ⟨nk1,fk.2⟩ g hD' hvals (by rw[aw,d3,pm.size,hG];grind)
  refine⟨.ref D,_,Inv.acz I.ok J',rfl,hQ D _ (tk.trans (TK.fresh nD')) ?_ (hr3.fresh nD)⟩
  refine hr'.wA (TK.fresh nD') ?_
  rw[De hM pm so]
  exact ((Et ra hlt).mono tk).mono (TK.fresh nD')
end
def keysOf:List D->Option (List Key)
 |[]=>some []
 |.int i::ds=>(keysOf ds).map (mm i::·)
 |.str x::ds=>(keysOf ds).map (wb x::·)
 |_::_=>none
theorem jh{K:ae}{H:Hp}:∀ {ds:List D} {xs:List V} {ks:List Key},bI K H ds xs->keysOf ds=some ks->xs=ks.map kV
 |_,_,_,.nil,h=>by simp only[keysOf,w4] at h;subst h;rfl
 |_,_,_,.cons (d:=d) r t,h=>by
  cases r with
  |int i=>
   simp only[keysOf,b6] at h
   obtain⟨ms,h1,rfl⟩:=h
   rw[jh t h1];rfl
  |str i=>
   simp only[keysOf,b6] at h
   obtain⟨ms,h1,rfl⟩:=h
   rw[jh t h1];rfl
  |_=>simp[keysOf] at h
abbrev Tab:=List (List Key×D)
def iU(kvs:Tab)(k:List Key):Option D:=(kvs.find? fun kv=>decide (kv.1=k)).map (·.2)
def dput(kvs:Tab)(k:List Key)(d:D):Tab:=if (kvs.any fun kv=>decide (kv.1=k))=true then kvs.map (fun kv=>if kv.1=k then (kv.1,d) else kv) else kvs++[(k,d)]
abbrev TR(K:ae)(H:Hp):Tab->List (List Key×V)->Prop:=Paired (fun (p:List Key×D) (q:List Key×V)=>p.1=q.1/\Rep K H p.2 q.2)
theorem TR.look{K:ae}{H:Hp}{k:List Key}:∀ {kvs:Tab} {ks:List (List Key×V)},TR K H kvs ks->(jm ks k).isSome=(iU kvs k).isSome/\∀d,iU kvs k=some d->∃v,jm ks k=some v/\Rep K H d v
 |_,_,.nil=>⟨rfl,fun _ h=>nomatch h⟩
 |_,_,.cons (a:=p) (b:=q) r t=>by
  have ih:=TR.look (k:=k) t
  by_cases e:p.1=k
  ·have e':q.1=k:=r.1.symm.trans e
   have l1:∀rest:Tab,iU (p::rest) k=some p.2:=fun rest=>by unfold iU;rw[e7 (by simpa using e)];rfl
   rw[n8 e',l1]
   exact⟨rfl,fun d h=>⟨_,rfl,by cases h;exact r.2⟩⟩
  ·have e':¬q.1=k:=fun z=>e (r.1.trans z)
   have l1:∀rest:Tab,iU (p::rest) k=iU rest k:=fun rest=>by unfold iU;rw[eP (by simpa using e)]
   rw[ou e',l1]
   exact ih
theorem TR.any{K:ae}{H:Hp}{k:List Key}:∀ {kvs:Tab} {ks:List (List Key×V)},TR K H kvs ks->(kvs.any fun kv=>decide (kv.1=k))=ks.any fun kv=>decide (kv.1=k)
 |_,_,.nil=>rfl
 |_,_,.cons r t=>by rw[gv,gv,TR.any t,r.1]
theorem TR.repl{K:ae}{H:Hp}{k:List Key}{d:D}{v:V}(rd:Rep K H d v):∀ {kvs:Tab} {ks:List (List Key×V)},TR K H kvs ks->TR K H (kvs.map fun kv=>if kv.1=k then (kv.1,d) else kv) (ks.map fun kv=>if kv.1=k then (kv.1,v) else kv)
 |_,_,.nil=>.nil
 |_,_,.cons (a:=p) (b:=q) r t=>by
  refine .cons ?_ (TR.repl rd t)
  dsimp only
  by_cases e:p.1=k
  ·rw[if_pos e,if_pos (r.1.symm.trans e)];exact⟨r.1,rd⟩
  ·rw[if_neg e,if_neg (fun z=>e (r.1.trans z))];exact r
theorem TR.put{K:ae}{H:Hp}{k:List Key}{d:D}{v:V}{kvs:Tab}{ks:List (List Key×V)}(r:TR K H kvs ks)(rd:Rep K H d v):TR K H (dput kvs k d) (putK ks k v):=by
 unfold dput putK
 rw[←TR.any r]
 split
 ·exact TR.repl rd r
 ·exact Paired.snoc r ⟨rfl,rd⟩
theorem TR.mono{K:ae}{H H':Hp}(t:TK H H'){kvs:Tab}{ks:List (List Key×V)}(r:TR K H kvs ks):TR K H' kvs ks:=Paired.xX r fun _ _ z=>⟨z.1,z.2.mono t⟩
theorem HR.U3{K:ae}{H:Hp}{H3:aG}(h:HR K H3 H){p:aE}{ks:List (List Key×V)}{kvs:Tab}(t:TK H (upd H p (.dT ks)))(r:TR K (upd H p (.dT ks)) kvs ks):HR K (aP H3 p (.dic kvs)) (upd H p (.dT ks)):=h.set (o3:=.dic kvs) t ⟨ks,aO,r⟩
def Fp(neg:Bool):R3:=fun x y H Q=>match x,y with
 | .tup ds,.ref a => (match keysOf ds,H a with
  |some k,some (.dic kvs)=>Q (.bl (if neg then !(iU kvs k).isSome else (iU kvs k).isSome)) H
  |_,_=>False)
 |_,_=>False
def jM(neg:Bool):R3:=fun x y H Q=>wY neg x y H Q\/Fp neg x y H Q
section
variable{X:Cx}
theorem Js(hu:X.A.units+64<md):gW X (eW .In) (cg X.K (jM false)):=by
 intro pins s σ H x y v u Q I rx ry h
 obtain⟨dx,dy,H3,Q3,hr,rdx,rdy,t,k⟩:=h
 rcases t with t | t
 ·exact Xe hu pins s σ H x y v u Q I rx ry ⟨dx,dy,H3,Q3,hr,rdx,rdy,t,k⟩
 ·cases rdx with
  |tup ha ra=>
   cases rdy with
   |ref a=>
    (delta Fp at t;dsimp only at t)
    split at t
    ·rename_i ks kvs e1 e2
     obtain⟨vs,gd,rd⟩:=hr a _ e2
     cases ry
     have ex:=jh ra e1
     subst ex
     refine ach (by omega) I (sO.t gd ha) rx fun s' I'=>⟨.bl _,H,I',rfl,?_⟩
     rw[(TR.look (k:=ks) rd).1]
     exact k _ _ _ _ TK.refl hr (.bl _) t
    ·exact t.elim
   |_=>exact t.elim
  |_=>exact t.elim
theorem mG(hu:X.A.units+64<md):gW X (eW .NotIn) (cg X.K (jM true)):=by
 intro pins s σ H x y v u Q I rx ry h
 obtain⟨dx,dy,H3,Q3,hr,rdx,rdy,t,k⟩:=h
 rcases t with t | t
 ·exact Ky hu pins s σ H x y v u Q I rx ry ⟨dx,dy,H3,Q3,hr,rdx,rdy,t,k⟩
 ·cases rdx with
  |tup ha ra=>
   cases rdy with
   |ref a=>
    (delta Fp at t;dsimp only at t)
    split at t
    ·rename_i ks kvs e1 e2
     obtain⟨vs,gd,rd⟩:=hr a _ e2
     cases ry
     have ex:=jh ra e1
     subst ex
     refine U8 (by omega) I (sO.t gd ha) rx fun s' I'=>⟨.bl _,H,I',rfl,?_⟩
     rw[(TR.look (k:=ks) rd).1]
     exact k _ _ _ _ TK.refl hr (.bl _) t
    ·exact t.elim
   |_=>exact t.elim
  |_=>exact t.elim
def XM(v x y:D)(σ:cz)(H:aG)(R:cz->aG->Prop):Prop:=match x,y with
 | .ref a,.tup ds => (match keysOf ds,H a with
  |some k,some (.dic kvs)=>kvs.length<1000/\R σ (aP H a (.dic (dput kvs k v)))
  |_,_=>False)
 |_,_=>False
def ZD(td ty tv:bL):cI:=fun D0 σ H=>tv σ H fun v H1=>td σ H1 fun x H2=>ty σ H2 fun y H3=>XM v x y σ H3 D0.nx
theorem vG{o i value:cS}{td ty tv:bL}{pos pos':Pos}(hu:X.A.units+64<md)(ho:b8 X o td)(hi:b8 X i ty)(hv:b8 X value tv)(hs:om value (some (.Subscript o i pos')) pos.line X.env=pure false:=by rfl) :
  BW X (.Assign [.Subscript o i pos'] value pos) (ZD td ty tv) :=
 je (Up (by omega) ho hi hv hs) fun D0 σ H zz=>zz.ex fun σ3 H3 D3 sr hr t k=>⟨σ3,H3,_,sr,hr,t,fun dv v H3a Ha tka hra rv qa=>⟨σ3,H3a,_,sr.mono tka,hra,qa,fun dx x H3b Hb tkb hrb rx qb=>⟨σ3,H3b,_,(sr.mono tka).mono tkb,hrb,qb,fun dy y H3c Hc tkc hrc ry qc=>by
  cases rx with
  |ref a=>
   cases ry with
   |tup hb rb=>
    (delta XM at qc;dsimp only at qc)
    split at qc
    ·rename_i ks kvs e1 e2
     obtain⟨vs,gd,rd⟩:=hrc a _ e2
     have ex:=jh rb e1
     subst ex
     obtain⟨hl,qc⟩:=qc
     refine⟨a,_,rfl,QT.t gd hb (by rw[←Paired.length rd];exact tR (ij hl)),?_⟩
     have tt:=TK.dT (o:=.dT (putK vs ks v)) gd
     exact k.nx _ _ _ _ ((tka.trans (tkb.trans tkc)).trans tt) ((((sr.mono tka).mono tkb).mono tkc).mono tt) (hrc.U3 tt (TR.put (TR.mono tt rd) (((rv.mono tkb).mono tkc).mono tt))) qc
    ·exact qc.elim
   |_=>exact qc.elim
  |_=>exact qc.elim⟩⟩⟩
def dn3:bL:=fun _ H Q=>∀p,H p=none->Q (.ref p) (aP H p (.dic []))
theorem Ua{pos:Pos}:b8 X (.Dict [] [] pos) dn3:=bT Q8 fun _ _ _ ⟨_,_,_,_,hr,t,k⟩=>fun p n=>k _ _ _ _ (TK.fresh n) (hr.U3 (TK.fresh n) .nil) (.ref p) (t p (hr.fresh n))
theorem Lj{pins:List (aE×Obj)}{σ:St}{H:Hp}{s:ah}{a b:aE}{kvs:List (List Key×V)}{k:List Key}{v:V}{r:af}{A:dS}{E:af->ah->Prop}{Q:Unit->ah->Prop}(hu:A.units<md)(I:Inv X pins σ H s)(e:H a=some (.dT kvs))(eb:H b=some (.tup (k.map kV)))
  (l:kvs.length<bS) (rv:RelV v r) (h:∀s',Inv X pins σ (upd H a (.dT (putK kvs k v))) s'->Q () s'):bq (cf X.prog X.w) A (dictSet a (.ref b) r) Q E s:=by
 obtain⟨z,hd,xs,rel,dd⟩:=QX I.hok e
 have hz:xs.length<=bS:=by rw[←Paired.length rel];exact z
 have hl:(putK kvs k v).length<=bS:=eh (jJ kvs k v) l
 refine wpAny_dictSet_heap (knd:=xS (bO X.prog X.w)) (hsz:=hz) hu (uc I.hok eb) dd fun h' dd' hs=>h _ ?_
 obtain⟨q,es,ep,hq,h2,h3,h4,_,h5⟩:=dd'
 exact uU I (by rw[e];exact lI) hs ⟨q,hq⟩ ⟨hl,hd,_,(rel.put k eb rv).keeps fun c ys ec=>by rw[aC (pR ec e (fun z=>nomatch z))];exact ec,q,es,ep,hq,h2,h3,h4,h5⟩
def ZX(p:aE)(x y:D)(H:aG)(Q:aX):Prop:=match x with
 | .tup ds => H p = some (.dic [])∧(match keysOf ds with
  |some k=>Q (.ref p) (aP H p (.dic [(k,y)]))
  |none=>False)
 |_=>False
def dd3(tk tv:bL):bL:=fun σ H Q=>∀p,H p=none->tk σ (aP H p (.dic [])) fun x H1=>tv σ H1 fun y H2=>ZX p x y H2 Q
theorem Ey{ke ve:cS}{tk tv:bL}{pos:Pos}(hu:X.A.units<md)(hk:b8 X ke tk)(hv:b8 X ve tv):b8 X (.Dict [some ke] [ve] pos) (dd3 tk tv):=by
 intro pins s σ H Q I h
 obtain⟨σ3,H3,Q3,sr,hr,t,k⟩:=h
 have hn:=I.hok.fresh (aT s.heap.objs.size)
 have I1:=I.laid (a:=s.heap.objs.size) (o:=.dT []) (h':=s.heap.push { cls:=.type "dict",data:=.dict #[] }) (t':=s.toks) (fun _ _ q=>av _ q) (aT _) (Dv s.heap I.big)
 have pp:PPs X pos [some ke] [ve] [(fP X.K tk,fP X.K tv)]:=Rr hk hv Uz
 have tk0:TK H (upd H s.heap.objs.size (.dT [])):=TK.fresh hn
 refine wpAny_Dict_any rfl rfl (by simp) (by simp) (cC (pp pins _ σ _ (fun ps H2=>∃dx dy x y H32,ps=[(x,y)]/\TK H H2/\HR X.K H32 H2/\Rep X.K H2 dx x/\Rep X.K H2 dy y/\ZX s.heap.objs.size dx dy H32 Q3) I1 ?_) fun ws s2 hq=>?_)
 ·exact⟨σ3,_,_,sr.mono tk0,hr.U3 tk0 .nil,t _ (hr.fresh hn),fun dx x H3a Ha tka hra rx qa=>⟨σ3,H3a,_,(sr.mono tk0).mono tka,hra,qa,fun dy y H3b Hb tkb hrb ry qb=>⟨dx,dy,x,y,H3b,rfl,(tk0.trans tka).trans tkb,hrb,rx.mono tkb,ry,qb⟩⟩⟩
 ·obtain⟨ps,H2,I2,rel,dx,dy,x,y,H32,rfl,tk2,hr2,rx,ry,q⟩:=hq
  cases rel with
  |cons r1 r2=>
   cases r2
   rename_i w1
   obtain⟨u1,u2⟩:=w1
   obtain⟨r1,r2⟩:=r1
   unfold storeAll
   rw[mT]
   cases rx with
   |tup hb rb=>
    (delta ZX at q;dsimp only at q)
    obtain⟨q0,q⟩:=q
    split at q
    ·rename_i ks e1
     have ex:=jh rb e1
     subst ex
     obtain⟨vs,gd,rd⟩:=hr2 _ _ q0
     cases rd
     cases r1
     refine ag (ag (Lj hu I2 gd hb (by rw[hG];decide) r2 fun s' I'=>bg ?_))
     show bq _ _ (forIn [] PUnit.unit _) _ _ s'
     rw[u4]
     have tt:=TK.dT (o:=.dT (putK [] ks y)) gd
     exact bg ⟨.ref _,_,I',rfl,k _ _ _ _ (tk2.trans tt) (hr2.U3 tt (.cons ⟨rfl,ry.mono tt⟩ .nil)) (.ref _) q⟩
    ·exact q.elim
   |_=>exact q.elim
end
def dfold(kvs more:Tab):Tab:=more.foldl (fun acc kv=>dput acc kv.1 kv.2) kvs
theorem Sq{X:Cx}{x:Str}{i:Int}{pos:Pos}(hg:Gl X x)(hm:∃tk,X.mg x=some (.int i tk))(hd:(x==("__debug__" : Str))=false:=by decide):b8 X (.Name x pos) (c3 (.int i)):=by
 obtain⟨tk,hm⟩:=hm
 exact Ph hg hm hd
end L3
namespace L3
open PySem L2
def kP(c:Pt):List Key:=[mm c.1,mm c.2]
theorem xj{a b:Pt}(h:kP a=kP b):a=b:=by
 unfold kP at h
 simp only[List.cons.injEq,Sum.inl.injEq,and_true] at h
 exact de h.1 h.2
def dN(ps:List Pt):Tab:=ps.map fun c=>(kP c,D.bl true)
def jy(ps:List Pt)(c:Pt):List Pt:=if c∈ps then ps else ps++[c]
theorem tZ(c:Pt):∀ps:List Pt,(iU (dN ps) (kP c)).isSome=decide (c∈ps)
 |[]=>rfl
 |p::ps=>by
  unfold dN iU
  rw[ck]
  by_cases e:p=c
  ·subst e
   rw[e7 (by simp)]
   simp
  ·have e':¬kP p=kP c:=fun z=>e (xj z)
   rw[eP (by simpa using e')]
   have ih:=tZ c ps
   unfold dN iU at ih
   rw[ih]
   have e2:¬c=p:=fun z=>e z.symm
   simp[e2]
theorem Tu(c:Pt)(ps:List Pt):((dN ps).any fun kv=>decide (kv.1=kP c))=decide (c∈ps):=by
 induction ps with
 |nil=>rfl
 |cons p ps ih=>
  have e0:dN (p::ps)=(kP p,D.bl true)::dN ps:=rfl
  rw[e0,gv,ih]
  by_cases e:p=c
  ·subst e;simp
  ·have e':¬kP p=kP c:=fun z=>e (xj z)
   have e2:¬c=p:=fun z=>e z.symm
   simp[e',e2]
theorem Cv(ps:List Pt)(c:Pt):dput (dN ps) (kP c) (.bl true)=dN (jy ps c):=by
 unfold dput jy
 rw[Tu]
 by_cases h:c∈ps
 ·rw[if_pos (decide_eq_true h),if_pos h]
  unfold dN
  rw[eA]
  refine gz fun p _=>?_
  show (if kP p=kP c then (kP p,D.bl true) else (kP p,D.bl true))=_
  split <;> rfl
 ·rw[if_neg (by simpa using h),if_neg h]
  unfold dN
  rw[d0];rfl
theorem LC:∀(ps acc:List Pt),dfold (dN acc) (dN ps)=dN (ps.foldl jy acc)
 |[],_=>rfl
 |p::ps,acc=>by
  have e0:dN (p::ps)=(kP p,D.bl true)::dN ps:=rfl
  unfold dfold
  rw[e0,kR,Cv,kR]
  exact LC ps _
theorem Ot{ps:List Pt}{c x:Pt}:x∈jy ps c↔x∈ps\/x=c:=by
 unfold jy
 split
 ·rename_i h
  constructor
  ·exact .inl
  ·rintro (h1 | rfl)
   ·exact h1
   ·exact h
 ·simp
theorem zr{x:Pt}:∀ {ps acc:List Pt},x∈ps.foldl jy acc↔x∈acc\/x∈ps
 |[],acc=>by simp
 |p::ps,acc=>by
  rw[kR,zr,Ot,bE]
  constructor
  ·rintro ((h | h) | h)
   ·exact .inl h
   ·exact .inr (.inl h)
   ·exact .inr (.inr h)
  ·rintro (h | h | h)
   ·exact .inl (.inl h)
   ·exact .inl (.inr h)
   ·exact .inr h
theorem yS:∀(ps acc:List Pt),(ps.foldl jy acc).length<=acc.length+ps.length
 |[],acc=>by simp
 |p::ps,acc=>by
  rw[kR]
  have h1:=yS ps (jy acc p)
  have h2:(jy acc p).length<=acc.length+1:=by unfold jy;split <;> simp
  rw[e8];grind
section
variable{σ:cz}{H:aG}{Q:aX}{D0:dF}{a p:aE}{x y:D}{ta tb te:bL}{p1 p2:Int}{ps:List Pt}
theorem abE(h:yq H y=some (ps.map cF))(q:Q (.bl (decide ((p1,p2)∈ps))) H):jM false (.tup [.int p1,.int p2]) y H Q:=.inl (abv h q)
theorem N5(h:yq H y=some (ps.map cF))(q:Q (.bl (!decide ((p1,p2)∈ps))) H):jM true (.tup [.int p1,.int p2]) y H Q:=.inl (YL h q)
theorem aaK(h:H a=some (.dic (dN ps)))(q:Q (.bl (decide ((p1,p2)∈ps))) H):jM false (.tup [.int p1,.int p2]) (.ref a) H Q:=by
 refine .inr ?_
 have e:keysOf [D.int p1,.int p2]=some (kP (p1,p2)):=rfl
 (delta Fp;simp only[e,h,tZ])
 exact q
theorem Xf(h:H a=some (.dic (dN ps)))(q:Q (.bl (!decide ((p1,p2)∈ps))) H):jM true (.tup [.int p1,.int p2]) (.ref a) H Q:=by
 refine .inr ?_
 have e:keysOf [D.int p1,.int p2]=some (kP (p1,p2)):=rfl
 (delta Fp;simp only[e,h,tZ])
 exact q
theorem acL(h:te σ H fun v H1=>ta σ H1 fun x H2=>tb σ H2 fun y H3=>XM v x y σ H3 D0.nx):ZD ta tb te D0 σ H:=h
theorem Rt{R:cz->aG->Prop}(ha:H a=some (.dic (dN ps)))(hl:ps.length<1000)(q:R σ (aP H a (.dic (dN (jy ps (p1,p2)))))):XM (.bl true) (.ref a) (.tup [.int p1,.int p2]) σ H R:=by
 have e:keysOf [D.int p1,.int p2]=some (kP (p1,p2)):=rfl
 (delta XM;simp only[e,ha,Cv])
 exact⟨by unfold dN;rw[aw];exact hl,q⟩
theorem adw(h:∀p,H p=none->Q (.ref p) (aP H p (.dic []))):dn3 σ H Q:=h
theorem ab4(h:∀p,H p=none->ta σ (aP H p (.dic [])) fun x H1=>tb σ H1 fun y H2=>ZX p x y H2 Q):dd3 ta tb σ H Q:=h
theorem V0(h:H p=some (.dic []))(q:Q (.ref p) (aP H p (.dic (dN [(p1,p2)])))):ZX p (.tup [.int p1,.int p2]) (.bl true) H Q:=by
 have e:keysOf [D.int p1,.int p2]=some (kP (p1,p2)):=rfl
 (delta ZX;simp only[e]);exact⟨h,q⟩
end
end L3
namespace L3
open PySem PySem.Spec PyProof.Rows L2
def boolsOf:List D->Option (List Bool)
 |[]=>some []
 |.bl b::ds=>(boolsOf ds).map (b::·)
 |_::_=>none
def adN(f:List Bool->Bool):List D->aG->aX->Prop:=fun ds H Q=>match ds with
 | [.ref a] => (match H a with
  | some (.lst xs) => (match boolsOf xs with
   |some bs=>Q (.bl (f bs)) H
   |none=>False)
  |_=>False)
 |_=>False
def lets(z:Str):List D:=z.cps.toList.map fun c=>D.str ⟨#[c]⟩
def iz3(te:bL):Cd:=fun σ H R=>te σ H fun x H1=>match x with
 |.str z=>R (lets z) (fun _=>True) H1
 |_=>False
def izk(x:D)(H:aG)(R:List D->(aG->Prop)->aG->Prop):Prop:=match x with
 |.str z=>R (lets z) (fun _=>True) H
 |_=>False
theorem adi{te:bL}{σ:cz}{H:aG}{R:List D->(aG->Prop)->aG->Prop}(h:te σ H fun x H1=>izk x H1 R):iz3 te σ H R:=h
theorem abk{z:Str}{H:aG}{R:List D->(aG->Prop)->aG->Prop}(h:R (lets z) (fun _=>True) H):izk (.str z) H R:=h
def strsOf:List D->Option (List Str)
 |[]=>some []
 |.str b::ds=>(strsOf ds).map (b::·)
 |_::_=>none
theorem Ib(bs:List Str):strsOf (bs.map D.str)=some bs:=by
 induction bs with
 |nil=>rfl
 |cons b bs ih=>rw[ck,strsOf,ih];rfl
theorem wD:∀ {ds:List D} {bs:List Str},strsOf ds=some bs->ds=bs.map D.str
 |[],bs,h=>by cases h;rfl
 |d::ds,bs,h=>by
  cases d with
  |str b=>
   rw[strsOf,b6] at h
   obtain⟨cs,hc,rfl⟩:=h
   rw[wD hc];rfl
  |_=>cases h
def uA(z:Str)(ys:List Str):Str:=⟨(ys.drop 1).foldl (fun acc p=>acc++z.cps++p.cps) (ys.headD ⟨#[]⟩).cps⟩
theorem zH(z:Str)(hz:z.cps=#[]):∀(ys:List Str) (acc:Array Nat),ys.foldl (fun acc p=>acc++z.cps++p.cps) acc=acc++(ys.map fun y=>y.cps.toList).flatten.toArray
 |[],acc=>by simp
 |y::ys,acc=>by rw[kR,zH z hz ys,hz];apply CU;simp
theorem KR{z:Str}(hz:z.cps=#[])(ys:List Str):uA z ys=⟨(ys.map fun y=>y.cps.toList).flatten.toArray⟩:=by
 unfold uA
 rw[zH z hz]
 cases ys with
 |nil=>simp
 |cons y ys=>simp
theorem Hg{z:Str}(hz:z.cps=#[])(cs:List Nat):uA z (cs.map fun c=>⟨#[c]⟩)=⟨cs.toArray⟩:=by
 rw[KR hz,eA]
 congr 2
 induction cs with
 |nil=>rfl
 |cons c cs ih=>simp only[ck,qv,ih];rfl
def wU:D->List D->aG->aX->Prop:=fun x xs H Q=>match x,xs with
 | .str z,[.ref a] => (match H a with
  | some (.lst ds) => (match strsOf ds with
   |some ys=>(ys.map fun y=>y.cps.size).sum+ys.length*z.cps.size<=16777216/\Q (.str (uA z ys)) H
   |none=>False)
  |_=>False)
 |_,_=>False
def pC(z y:Str):Option Nat:=(dc (z.cps.size+1)).find? fun i=>decide (i+y.cps.size<=z.cps.size)&&(z.cps.extract i (i+y.cps.size)==y.cps)
def oJ:D->List D->aG->aX->Prop:=fun x xs H Q=>match x,xs with
 | .str z,[.str y] => (match pC z y with
  |some i=>Q (.int i) H
  |none=>False)
 |_,_=>False
def mz3(r:D->List D->aG->aX->Prop)(to:bL)(t:sG):bL:=fun σ H Q=>to σ H fun x H1=>(match x with
 |.str _=>t σ H1 fun xs H2=>r x xs H2 Q
 |_=>False)
def mzk(r:D->List D->aG->aX->Prop)(t:sG)(σ:cz)(x:D)(H1:aG)(Q:aX):Prop:=match x with
 |.str _=>t σ H1 fun xs H2=>r x xs H2 Q
 |_=>False
theorem adH{r:D->List D->aG->aX->Prop}{to:bL}{t:sG}{σ:cz}{H:aG}{Q:aX}(h:to σ H fun x H1=>mzk r t σ x H1 Q):mz3 r to t σ H Q:=h
theorem aaX{r:D->List D->aG->aX->Prop}{t:sG}{σ:cz}{z:Str}{H:aG}{Q:aX}(h:t σ H fun xs H2=>r (.str z) xs H2 Q):mzk r t σ (.str z) H Q:=h
theorem WY{z:Str}{ys:List Str}{a:aE}{H:aG}{Q:aX}(ha:H a=some (.lst (ys.map D.str)))(hl:(ys.map fun y=>y.cps.size).sum+ys.length*z.cps.size<=16777216)(q:Q (.str (uA z ys)) H):wU (.str z) [.ref a] H Q:=by
 (delta wU;simp only[ha,Ib]);exact⟨hl,q⟩
theorem Je{z y:Str}{i:Nat}{H:aG}{Q:aX}(h:pC z y=some i)(q:Q (.int i) H):oJ (.str z) [.str y] H Q:=by
 (delta oJ;simp only[h]);exact q
def yj(z:Str)(lo hi:Option Int):Str:=⟨(mQ z.cps.toList lo hi).toArray⟩
def oG:ZJ:=fun x lo hi H Q=>match x with
 |.str z=>z.length<=bS/\Q (.str (yj z lo hi)) H
 |_=>False
theorem rH{z:Str}{lo hi:Option Int}{H:aG}{Q:aX}(hl:z.length<=bS)(q:Q (.str (yj z lo hi)) H):oG (.str z) lo hi H Q:=⟨hl,q⟩
end L3
namespace L3
open PySem PySem.Spec PyProof.Rows PySem.Calls L2
end L3
namespace L3
open PySem PySem.Spec PyProof.Rows L2
def Itx(x:Str):It:=⟨fun i _=>i<x.cps.size,fun i H v H'=>H'=H/\∃c,x.cps[i]?=some c/\v=.str ⟨#[c]⟩,fun i _=>x.cps.size<=i⟩
theorem zJ{P:b5}{w:cE}{K:ae}{tg:cS}{ty:String}{x:Str}{t:Tok}(it:aE)
  (hn:["enumerate", "zip", "dict_itemiterator", "dict_reverseitemiterator", "odict_iterator", "itertools.zip_longest", "itertools.pairwise"].contains ty=false)
  (W:∀A':dS,A'.handled=none->Walks P w A' it [it] [it] x.cps.size (SignAt x) (fun i h=>h.IsStrIter it ty x t i))
  (S:∀(A:dS) (i:Nat) (s:ah) (Q:af->ah->Prop) (E:af->ah->Prop),s.heap.IsStrIter it ty x t i->Q (.ref it) s->bq (cf P w) A (IJ (.ref it)) Q E s) :
  Turn P w K tg (Itx x) [it] it (fun i h=>i<=x.cps.size/\h.IsStrIter it ty x t i) where
 mem:=ay.mpr rfl
 obj:=by
  rintro i h ⟨_,o,e,_,d⟩ b hb
  rw[ay.mp hb]
  exact⟨o,e,fun v z=>by rw[d] at z;cases z⟩
 keep:=by
  rintro i h h' ⟨l,o,e,c⟩ k
  exact⟨l,o,k it (ay.mpr rfl) o e,c⟩
 item:=by
  intro X hP hw hK hc i pins s σ H E I hf st hg
  subst hP hw hK
  obtain⟨f0,f1,f2,f3,f4,f5⟩:=hf it (ay.mpr rfl)
  refine (W X.A (I.ok.hd hc)).item i s _ _ hg st.2 fun v h' tk hv st' kk=>?_
  obtain⟨c,u,hcx,rfl⟩:=hv
  have I1:L2.Inv X pins σ H { s with heap:=h',toks:=tk }:=I.turned (fun b o hb e=>kk b o (fun z=>hb (ay.mp z)) e) f0 f1 f3 f4 f5
  obtain⟨o,e,hcl,d⟩:=id st'
  exact⟨_,rfl,wK (s:={ s with heap:=h',toks:=tk }) e hcl d hn ⟨.str ⟨#[c]⟩,H,I1,⟨u,rfl⟩,⟨rfl,c,hcx,rfl⟩,⟨hg,st'⟩,fun b hb=>(hf b hb).1⟩⟩
 done:=by
  intro X hP hw hK hc i pins s σ H E I hf st hg
  subst hP hw hK
  obtain⟨f0,f1,f2,f3,f4,f5⟩:=hf it (ay.mpr rfl)
  have hi:i=x.cps.size:=sN st.1 hg
  subst hi
  exact (W X.A (I.ok.hd hc)).done s _ _ st.2 fun h' tk kk=>⟨rfl,I.turned (t':=tk) (fun b o hb e=>kk b o (fun z=>hb (ay.mp z)) e) f0 f1 f3 f4 f5⟩
 self:=fun A i s Q E st h=>S A i s Q E st.2 h
section
variable{X:Cx}
def Z9(tl:TE):TI:=fun σ H R=>tl σ H fun x H1=>∃z,x=.str z/\R (Itx z) H1
theorem Vj{tg l:cS}{tl:TE}(hl:PE X l tl):PI X tg l (Z9 tl):=by
 intro pins s σ H R I h
 refine cC (hl pins s σ H _ I h) fun v s1 zz=>?_
 obtain⟨x,H1,I1,r1,q1⟩:=zz
 obtain⟨z,rfl,q⟩:=q1
 obtain⟨t,rfl⟩:=r1
 have fp:∀b∈[s1.heap.objs.size],j9 X pins H1 b:=fun b hb=>by
  rw[ay.mp hb]
  exact I1.wC (aT _) (I1.hok.fresh (aT _))
 cases ha:z.cps.all (· < 128)
 ·refine wpAny_pyIter_wide ha ?_
  exact⟨s1.heap.objs.size,[s1.heap.objs.size],_,_,H1,rfl,I1.kept (t':=s1.toks) fun b o e=>av _ e,
   zJ (ty := "str_iterator") (x:=z) (t:=t) _ (by decide) (fun A' hA=>Walks.strWide hA _ z t) (fun A i s Q E st h=>wpAny_pyIter_striter_wide st h),⟨ef _,_,bP _ rfl,rfl,rfl⟩,fp,q⟩
 ·refine u7 ha ?_
  exact⟨s1.heap.objs.size,[s1.heap.objs.size],_,_,H1,rfl,I1.kept (t':=s1.toks) fun b o e=>av _ e,
   zJ (ty := "str_ascii_iterator") (x:=z) (t:=t) _ (by decide) (fun A' hA=>Walks.strAscii hA _ z t) (fun A i s Q E st h=>wpAny_pyIter_striter_ascii st h),⟨ef _,_,bP _ rfl,rfl,rfl⟩,fp,q⟩
theorem Ly{K:ae}{H:Hp}{z:Str}:yt K H (lets z) (fun _=>True) (Itx z):=fun H3 H' tk hr _=>by
 have hl:(lets z).length=z.cps.size:=by unfold lets;rw[aw,d3]
 refine⟨fun i hi=>⟨by rw[hl] at hi;exact hi,fun x H'' y=>?_⟩,by rw[hl];exact aT _⟩
 obtain⟨e,c,hc,rfl⟩:=y
 subst e
 refine⟨TK.refl,hr,.str ⟨#[c]⟩,?_,.str _⟩
 unfold lets
 rw[aS,i8,hc]
 rfl
theorem Bo{tg e:cS}{te:bL}(h:b8 X e te):NZ X tg e (iz3 te) :=
 mq (Vj h) fun _ _ _ ⟨σ3,H3,R3,sr,hr,t,k⟩=>⟨σ3,H3,_,sr,hr,t,fun x v H3a Ha tka hra rx qa=>by
  cases rx with
  |str z=>exact⟨z,rfl,k _ _ _ _ _ tka hra Ly qa⟩
  |_=>exact qa.elim⟩
end
end L3
namespace L3
open PySem PySem.Spec PyProof.Rows L2
section
variable{X:Cx}
theorem bI.Oc{K:ae}{H:Hp}{bs:List Str}:∀ {vs:List V},bI K H (bs.map D.str) vs->vs=bs.map V.str:=by
 induction bs with
 |nil=>intro vs h;cases h;rfl
 |cons b bs ih=>
  intro vs h
  cases h with
  |cons r t=>
   cases r
   rw[ih t];rfl
theorem Jc:∀ {ys:List Str} {us:List af},Vals (ys.map V.str) us->StrsAre us ys
 |[],_,.nil=>.nil
 |y::ys,_,.cons r t=>by
  obtain⟨k,rfl⟩:=r
  exact .cons y k (Jc t)
theorem QV:La X "str.join" (fun x xs H Q=>∃(z:Str) (a:aE) (ys:List Str),x=.str z/\xs=[.ref a]/\gB X.K H a (ys.map V.str)/\(ys.map fun y=>y.cps.size).sum+ys.length*z.cps.size<=16777216/\Q (.str (uA z ys)) H):=by
 intro pins s σ H x xs v us Q I rx rs h
 obtain⟨z,a,ys,rfl,rfl,hq,hl,q⟩:=h
 obtain⟨t,rfl⟩:=rx
 obtain⟨u,rfl,ru⟩:=vals1 rs
 cases ru
 obtain⟨its,rv,pl,_⟩:=I.list hq
 refine join_list pl.isList (ys:=ys) (by simpa using Jc rv) hl fun t' k=>?_
 exact⟨.str (uA z ys),H,I.kept (t':=k) fun _ _ e=>e,⟨t',rfl⟩,q⟩
theorem KQ:La X "str.index" (fun x xs H Q=>∃(z y:Str) (i:Nat),x=.str z/\xs=[.str y]/\pC z y=some i/\Q (.int i) H):=by
 intro pins s σ H x xs v us Q I rx rs h
 obtain⟨z,y,i,rfl,rfl,hi,q⟩:=h
 obtain⟨t,rfl⟩:=rx
 obtain⟨u,rfl,ru⟩:=vals1 rs
 obtain⟨t2,rfl⟩:=ru
 unfold pC at hi
 rw[xy] at hi
 obtain⟨h1,h2,h3⟩:=hi
 rw[rq,decide_eq_true_eq] at h1
 have at_i:StrLaws.At z y z.length i:=⟨h1.1,h1.2⟩
 rcases StrLaws.occ_head z y 1 (aT _) with ⟨_,hn⟩ | ⟨j,r,e,hj,hn⟩
 ·exact absurd at_i (hn i)
 ·have hij:j=i:=by
   rcases DO i j with hlt | heq | hgt
   ·exact absurd at_i (hn i hlt)
   ·exact heq.symm
   ·have:=h3 j hgt
    rw[xh,Bool.and_eq_false_iff] at this
    rcases this with w | w
    ·rw[decide_eq_false_iff_not] at w
     exact absurd hj.1 w
    ·have w2:=hj.2
     unfold KU at w2
     exact absurd (show (z.cps.extract j (j+y.cps.size)==y.cps)=true from w2) (by rw[w];decide)
  subst hij
  exact SC.index e ⟨.int j,H,I.tok _,⟨_,rfl⟩,q⟩
theorem Rn:La X "str.join" (liftM X.K wU):=by
 intro pins s σ H x xs v us Q I rx rs t
 obtain⟨d,ds,H3,Q3,hr,rd,rds,t,k⟩:=t
 cases rd with
 |str z=>
  cases rds with
  |nil=>exact t.elim
  |cons r1 r2=>
   cases r2 with
   |cons _ _=>cases r1 <;> exact t.elim
   |nil=>
    cases r1 with
    |ref a=>
     (delta wU at t;dsimp only at t)
     split at t
     ·rename_i ds ha
      split at t
      ·rename_i ys e
       obtain⟨vs,ga,ra⟩:=hr a _ ha
       have w:=wD e
       subst w
       have w:=ra.Oc
       subst w
       exact QV pins s σ H _ _ v us Q I rx rs ⟨z,a,ys,rfl,rfl,gB.of ga,t.1,k _ _ _ _ TK.refl hr (.str _) t.2⟩
      ·exact t.elim
     ·exact t.elim
    |_=>exact t.elim
 |_=>exact t.elim
theorem zO:La X "str.index" (liftM X.K oJ):=by
 intro pins s σ H x xs v us Q I rx rs t
 obtain⟨d,ds,H3,Q3,hr,rd,rds,t,k⟩:=t
 cases rd with
 |str z=>
  cases rds with
  |nil=>exact t.elim
  |cons r1 r2=>
   cases r2 with
   |cons _ _=>cases r1 <;> exact t.elim
   |nil=>
    cases r1 with
    |str y=>
     (delta oJ at t;dsimp only at t)
     split at t
     ·rename_i i e
      exact KQ pins s σ H _ _ v us Q I rx rs ⟨z,y,i,rfl,rfl,e,k _ _ _ _ TK.refl hr (.int _) t⟩
     ·exact t.elim
    |_=>exact t.elim
 |_=>exact t.elim
theorem Qy{o e:cS}{es:List cS}{to:bL}{t:sG}{name:Str}{apos cpos:Pos}{id:String}{r:D->List D->aG->aX->Prop}(slot:Slot "str" name id)(hty:CL (.builtin id)=pure (.type "method_descriptor"))
  (hm:La X id (liftM X.K r)) (ho:b8 X o to) (ha:JS X (e::es) t) (hbase:ly o name X.env (eR o X.env)=eR o X.env:=by rfl)
  (hfew:((i3 cpos (aI (e::es) X.env)).all (fun x=>!x.1)&&(qh cpos (la [] X.env)).all (fun x=>x.1.isSome)&&decide ((e::es).length+([]:List tJ).length+(if ([]:List tJ).isEmpty then 0 else 1)<30))=true:=by rfl)
  (hline:(apos.endLine==cpos.line)=true:=by rfl) (hs:aI (e::es) X.env=(false,eR e X.env)::aI es X.env:=by rfl) (hplain:(i3 cpos (aI es X.env)).any (·.1)=false:=by rfl) :
  b8 X (.Call (.Attribute o name apos) (e::es) [] cpos) (mz3 r to t) :=
 bT (Vw PySem.F.plainAttrs_str slot hty hm ho ha hbase hfew hline hs hplain) fun _ _ _ zz=>zz.ex fun σ3 H3 Q3 sr hr t k=>⟨σ3,H3,_,sr,hr,t,fun x v H3a Ha tka hra rx qa=>by
  cases rx with
  |str z=>
   exact⟨rfl,σ3,H3a,_,sr.mono tka,hra,qa,fun ds vs H3b Hb tkb hrb rs qb=>⟨.str z,ds,H3b,Q3,hrb,.str z,rs,qb,(k.mono tka).mono tkb⟩⟩
  |_=>exact qa.elim⟩
end
end L3
namespace L3
open PySem PySem.Spec PyProof.Rows L2
section
variable{X:Cx}
theorem Ik(v:Option Int)(d n:Nat):(match v with | none=>(d:Int) | some i=>max 0 (min (if i<0 then i+(n:Int) else i) (n:Int)))=((HT.tL n d v:Nat):Int):=by
 cases v with
 |none=>rfl
 |some i=>
  unfold HT.tL
  dsimp only
  split <;> grind
theorem Ht(lo hi:Option Int)(n:Nat):F1 lo hi 1 n=(dc (HT.tL n n hi-HT.tL n 0 lo)).map (HT.tL n 0 lo + ·):=by
 have e1:=Ik lo 0 n
 have e2:=Ik hi n n
 rw[←GL,←e1,←e2]
 cases lo <;> cases hi <;> rfl
theorem aak(v:Option Int)(n:Nat):HT.tL n n v<=n:=by
 cases v with
 |none=>exact aT n
 |some i=>
  unfold HT.tL
  dsimp only
  split <;> grind
theorem Kc(z:Str)(lo hi:Option Int):ID z lo hi=yj z lo hi:=by
 have hl:z.cps.toList.length=z.length:=d3
 have hh:=aak hi z.length
 unfold ID yj mQ
 rw[Ht,pick_run,hl]
 split
 ·rename_i c
  rw[rq] at c
  have c2:=c.2
  rw[beq_iff_eq] at c2
  have c3:HT.tL z.length z.length hi-HT.tL z.length 0 lo=z.length:=by simpa using c2
  obtain⟨a⟩:=z
  congr 1
  apply CU
  rw[c3]
  by_cases h0:a.size=0
  ·have e:a=#[]:=jv h0
   subst e
   simp
  ·have hlo:HT.tL (GG ⟨a⟩) 0 lo=0:=by
    have h1:GG ⟨a⟩=a.size:=rfl
    grind
   rw[hlo,A4,ez (by rw[hl];exact aT _)]
 ·rfl
theorem TX:ZM X (fun x lo hi H Q=>∃z,x=.str z/\z.length<=bS/\Q (.str (yj z lo hi)) H):=by
 intro pins s σ H x v vl vu lo hi sl Q I rx hs pl pu h
 obtain⟨z,rfl,hz,q⟩:=h
 obtain⟨t,rfl⟩:=rx
 have fin:∀t' k,EP X pins σ Q (.str (ID z lo hi) t') { s with toks:=k }:=fun t' k=>by
  rw[Kc]
  exact⟨.str (yj z lo hi),H,I.kept (t':=k) fun _ _ e=>e,⟨t',rfl⟩,q⟩
 refine⟨"str",_,F.slot_str_getitem.lookup,GH _ _ _,?_⟩
 cases pl with
 |none=>
  cases pu with
  |none=>exact mf (l:=none) (u:=none) (st:=none) hs rfl (sP ⟨eh (zl z _ _) hz,fin⟩)
  |int j u=>exact mf (l:=none) (u:=some (j,u)) (st:=none) hs rfl (sP ⟨eh (zl z _ _) hz,fin⟩)
 |int i w=>
  cases pu with
  |none=>exact mf (l:=some (i,w)) (u:=none) (st:=none) hs rfl (sP ⟨eh (zl z _ _) hz,fin⟩)
  |int j u=>exact mf (l:=some (i,w)) (u:=some (j,u)) (st:=none) hs rfl (sP ⟨eh (zl z _ _) hz,fin⟩)
theorem fL:ZM X (Gx X.K oG):=by
 intro pins s σ H x v vl vu lo hi sl Q I rx hs pl pu h
 obtain⟨d,H3,Q3,hr,rd,t,k⟩:=h
 cases rd with
 |str z=>exact TX pins s σ H _ v vl vu lo hi sl Q I rx hs pl pu ⟨z,rfl,t.1,k _ _ _ _ TK.refl hr (.str _) t.2⟩
 |_=>exact t.elim
end
end L3
namespace L3
open PySem L2
def Bt(n:Nat)(i:Int):Prop:=i.natAbs<2 ^ n
section
variable{m n:Nat}{i j:Int}
theorem Bt.mono(h:Bt m i)(l:m<=n):Bt n i:=b9 h (Nat.pow_le_pow_right (by decide) l)
theorem Bt.lit(h:i.natAbs<2 ^ n):Bt n i:=h
end
def yI(i j:Int):Prop:=Yj i j\/∃m n,Bt m i/\Bt n j/\m+n<=134217728
def Oz(_ j:Int):Prop:=0<j/\Bt 8999 j
def my:R3:=Wr yI fun i j=>.int (i*j)
def gj:R3:=Wr Oz fun i j=>.int (i / j)
section
variable{σ:cz}{H:aG}{Q:aX}{i j:Int}{d x y:D}{ds es:List D}
theorem Pu(c:yI i j)(q:Q (.int (i*j)) H):my (.int i) (.int j) H Q:=⟨c,q⟩
theorem Ww(c:Oz i j)(q:Q (.int (i / j)) H):gj (.int i) (.int j) H Q:=⟨c,q⟩
def adK:List D->aG->aX->Prop:=fun ds H Q=>match ds with
 |[.int i]=>Q (.int (if i<0 then -i else i)) H
 |_=>False
theorem Cp.pN{g:zN}{σ0:cz}{te:bL}{lo:Int}{n:Nat}(F:Nat->D)(hl:n<=1000)
  (hel:∀i:Nat,i<n->∀(R:aX) (H2:aG),aN H H2->(∀H6,aN H2 H6->R (F i) H6)->g (.int (lo+(i:Int))) σ0 H2 fun σ2 H4=>te σ2 H4 R)
  (fin:∀p,H p=none->Q (.ref p) (aP H p (.lst ((dc n).map F)))):Cp g yu te σ0 (pN lo n) (fun _=>True) H Q :=
 Cp.map F (fun _ _=>trivial) (by rw[fT];exact hl) (fun _ a ha=>hel a (d6.mp (iA ha))) fin
end
def ig(ds es:List D):List D:=List.zipWith (fun x y=>D.tup [x,y]) ds es
def zpk(x y:D)(H:aG)(R:List D->(aG->Prop)->aG->Prop):Prop:=match x,y with
 | .ref a,.ref b => (match H a,H b with
  |some (.lst ds),some (.lst es)=>R (ig ds es) (fun H'=>H' a=some (.lst ds)/\H' b=some (.lst es)) H
  |_,_=>False)
 |_,_=>False
section
variable{σ:cz}{H:aG}{a b:aE}{ds es:List D}
theorem lE{α β:Type}{f:α->D}{g:β->D}:∀(as:List α) (bs:List β),ig (as.map f) (bs.map g)=(as.zip bs).map fun p=>D.tup [f p.1,g p.2]
 |[],_=>rfl
 |_::_,[]=>rfl
 |a::as,b::bs=>by
  have ih:=lE (f:=f) (g:=g) as bs
  unfold ig at ih ⊢
  rw[ck,ck,List.zipWith_cons_cons,ih,uj,ck]
def rvk(x:D)(H:aG)(Q:aX):Prop:=match x with
 | .ref a => (match H a with
  |some (.lst ds)=>∀p,H p=none->Q (.ref p) (aP H p (.lst ds.reverse))
  |_=>False)
 |_=>False
def kdk(kvs:List (Str×D))(x:D)(H:aG)(Q:aX):Prop:=match x with
 | .str z => (match kvs.lookup z with
  |some d=>Q d H
  |none=>False)
 |_=>False
def kd3(kvs:List (Str×D))(te:bL):bL:=fun σ H Q=>te σ H fun x H1=>kdk kvs x H1 Q
theorem acn{kvs:List (Str×D)}{te:bL}{Q:aX}(h:te σ H fun x H1=>kdk kvs x H1 Q):kd3 kvs te σ H Q:=h
theorem aaf{kvs:List (Str×D)}{z:Str}{d:D}{Q:aX}(hl:kvs.lookup z=some d)(h:Q d H):kdk kvs (.str z) H Q:=by (delta kdk;simp only[hl]);exact h
theorem Z6{ds:List D}{i:Int}{d:D}{Q:aX}(h:j7 ds i=some d)(q:Q d H):bD (.ktup ds) (.int i) H Q:=by (delta bD;simp only[h]);exact q
def Yy(k:Nat)(r:R3)(te:bL):cI:=fun D0 σ H=>match σ[k]? with
 |some (some x)=>te σ H fun y H1=>r x y H1 fun z H2=>D0.nx (σ.set k (some z)) H2
 |_=>False
theorem ac0{k:Nat}{r:R3}{te:bL}{D0:dF}{x:D}(hx:σ[k]?=some (some x))(h:te σ H fun y H1=>r x y H1 fun z H2=>D0.nx (σ.set k (some z)) H2):Yy k r te D0 σ H:=by
 simp only[Yy,hx];exact h
def GJ:R3:=fun x y H Q=>match x,y with
 |.int i,.int j=>Q (.int (i+j)) H
 |.str i,.str j=>i.length+j.length<=bS/\Q (.str (i++j)) H
 |_,_=>False
def GX:R3:=Eg fun i j=>.int (i-j)
theorem Zf{i j:Int}{Q:aX}(q:Q (.int (i+j)) H):GJ (.int i) (.int j) H Q:=q
theorem Zo{i j:Int}{Q:aX}(q:Q (.int (i-j)) H):GX (.int i) (.int j) H Q:=q
def asc(z:Str):Prop:=z.cps.all (· < 128)=true
def ZK(x y:D)(H:aG)(R:List D->(aG->Prop)->aG->Prop):Prop:=match x,y with
 | .ref a,.str z => (match H a with
  |some (.lst ds)=>asc z/\R (ig ds (lets z)) (fun H'=>H' a=some (.lst ds)) H
  |_=>False)
 |_,_=>False
def ZS(x y:D)(H:aG)(R:List D->(aG->Prop)->aG->Prop):Prop:=match x,y with
 | .str z,.ref a => (match H a with
  |some (.lst ds)=>asc z/\R (ig (lets z) ds) (fun H'=>H' a=some (.lst ds)) H
  |_=>False)
 |_,_=>False
def izt(ta tb:bL):Cd:=fun σ H R=>ta σ H fun x H1=>tb σ H1 fun y H2=>ZK x y H2 R
def itz(ta tb:bL):Cd:=fun σ H R=>ta σ H fun x H1=>tb σ H1 fun y H2=>ZS x y H2 R
theorem abf{ta tb:bL}{R:List D->(aG->Prop)->aG->Prop}(h:ta σ H fun x H1=>tb σ H1 fun y H2=>ZK x y H2 R):izt ta tb σ H R:=h
theorem abq{ta tb:bL}{R:List D->(aG->Prop)->aG->Prop}(h:ta σ H fun x H1=>tb σ H1 fun y H2=>ZS x y H2 R):itz ta tb σ H R:=h
theorem Wc{z:Str}{R:List D->(aG->Prop)->aG->Prop}(ha:H a=some (.lst ds))(hz:asc z)(h:R (ig ds (lets z)) (fun H'=>H' a=some (.lst ds)) H):ZK (.ref a) (.str z) H R:=by
 (delta ZK;simp only[ha]);exact⟨hz,h⟩
theorem aad{z:Str}{R:List D->(aG->Prop)->aG->Prop}(ha:H a=some (.lst ds))(hz:asc z)(h:R (ig (lets z) ds) (fun H'=>H' a=some (.lst ds)) H):ZS (.str z) (.ref a) H R:=by
 (delta ZS;simp only[ha]);exact⟨hz,h⟩
def Bb(z:Str)(n:Nat):Str:=⟨(fF n z.cps.toList).flatten.toArray⟩
def qp:R3:=fun x y H Q=>match x,y with
 |.str z,.int n=>(0<=n/\n<=1000/\z.length<=1000)/\Q (.str (Bb z n.toNat)) H
 |_,_=>False
theorem Zh{z:Str}{n:Int}{Q:aX}(h0:0<=n)(h1:n<=1000)(hz:z.length<=1000)(q:Q (.str (Bb z n.toNat)) H):qp (.str z) (.int n) H Q:=⟨⟨h0,h1,hz⟩,q⟩
end
end L3
namespace L3
open PySem PySem.Spec PyProof.Rows L2
section
variable{X:Cx}
theorem yI.ok{i j:Int}(h:yI i j):IntMulOk i j:=by
 rcases h with h | ⟨m,n,h1,h2,h3⟩
 ·exact h.ok
 ·exact IntMulOk.of_le (HA.mpr h1) (HA.mpr h2) h3
theorem Bt.log{j:Int}(h:Bt 8999 j):j.natAbs.log2<9000:=by
 by_cases h0:j.natAbs=0
 ·rw[h0];decide +kernel
 ·have:=(Nat.log2_lt h0).mpr h
  omega
theorem lJ:gW X (kX .Mult) (cg X.K my):=zQ (opI fun _ _ _ _ _ _ _ hc q=>mul_int q (yI.ok hc)) fun _ _ _=>.int _
theorem dj:gW X (kX .FloorDiv) (cg X.K gj):=zQ (opI fun i j _ _ _ _ _ hc q=>by
 have h1:(0:Int)<j:=hc.1
 exact floordiv_int (by omega) (by rw[Int.fdiv_eq_ediv_of_nonneg i (by omega)];exact q) (.inl (PyProof.noPylong_of_log2 (Bt.log hc.2)))) fun _ _ _=>.int _
end
end L3
namespace L3
open PySem PySem.Spec PyProof.Rows L2
section
variable{X:Cx}{pins:List (aE×Obj)}{σ:St}{H:Hp}{s:ah}{h':eJ}
theorem tX{t':Nat}{ch:List aE}{T:aE}{o:HO}(I:L2.Inv X pins σ H s)(k:∀b u,b∉ch->s.heap.get? b=some u->h'.get? b=some u)
  (hf:∀b∈ch,j9 X pins H b) (hp:s.heap.objs.size<=T) (new:cH X.prog X.w (upd H T o) h' T o):L2.Inv X pins σ (upd H T o) { s with heap:=h',toks:=t' }:=by
 have hn:H T=none:=I.hok.fresh hp
 refine I.step (g':=s.gens) (d':=s.drawn) (ch:=ch) (fun b hb=>?_) (fun b u _ _ hc e _=>k b u hc e) (fun b u _ _ hc e _=>⟨u.slots,k b u hc e⟩)
  (fun b u _ e n=>by rw[aC (df (b9 (bp e) hp))];exact n) (fun b u hc e=>⟨u,k b u hc e⟩)
  (fun b xs q=>by rw[aC (aW q hn)];exact q) (fun b u xs q=>by rw[aC (aW q hn)];exact q) (fun b ps q=>⟨#[],by rw[aC (aW q hn),q];simp⟩) (fun m hm=>?_) (fun b u e=>?_) I.bare
 ·obtain⟨f0,f1,f2,f3,f4,f5⟩:=hf b hb
  exact⟨f3,f1,f4,f5⟩
 ·obtain⟨u,es,ep,hu,r⟩:=hm
  exact⟨u,es,ep,k _ u (fun z=>(hf _ z).2.1 rfl) hu,r⟩
 ·by_cases hb:b=T
  ·subst hb;rw[aO] at e;cases e;exact new
  ·rw[aC hb] at e
   refine (I.hok b u e).stay (fun c v hc q=>k c v (fun z=>?_) q) (fun c q=>by rw[aC (aW q hn)];exact q) fun c xs q=>by rw[aC (aW q hn)];exact q
   have f0:=(hf c z).1
   rcases hc with rfl | hc
   ·rw[f0] at e;cases e
   ·rw[f0] at hc;cases hc
theorem BK{t':Nat}{ch:List aE}(I:L2.Inv X pins σ H s)(k:∀b u,b∉ch->s.heap.get? b=some u->h'.get? b=some u)
  (hf:∀b∈ch,j9 X pins H b):L2.Inv X pins σ H { s with heap:=h',toks:=t' }:=by
 refine I.step (g':=s.gens) (d':=s.drawn) (ch:=ch) (fun b hb=>?_) (fun b u _ _ hc e _=>k b u hc e) (fun b u _ _ hc e _=>⟨u.slots,k b u hc e⟩)
  (fun b u _ e n=>n) (fun b u hc e=>⟨u,k b u hc e⟩)
  (fun b xs q=>q) (fun b u xs q=>q) (fun b ps q=>⟨#[],by rw[q];simp⟩) (fun m hm=>?_) (fun b u e=>?_) I.bare
 ·obtain⟨f0,f1,f2,f3,f4,f5⟩:=hf b hb
  exact⟨f3,f1,f4,f5⟩
 ·obtain⟨u,es,ep,hu,r⟩:=hm
  exact⟨u,es,ep,k _ u (fun z=>(hf _ z).2.1 rfl) hu,r⟩
 ·refine (I.hok b u e).stay (fun c v hc q=>k c v (fun z=>?_) q) (fun c q=>q) fun c xs q=>q
  have f0:=(hf c z).1
  rcases hc with rfl | hc
  ·rw[f0] at e;cases e
  ·rw[f0] at hc;cases hc
end
section
variable{X:Cx}{tg:cS}
theorem boot_zip:ib "zip" = some (.type "zip"):=by rfl
end
end L3
namespace L3
open PySem PySem.Spec PyProof.Rows L2
end L3
namespace L3
open PySem PySem.Spec PyProof.Rows L2
inductive CJ(K:ae):D->af->Prop
 |str (x:Str) (t:Tok):CJ K (.str x) (.str x t)
 |int (i:Int) (t:Tok):CJ K (.int i) (.int i t)
 |tupI {a:aE} {ns:List Int}:KTp K a (ns.map V.int)->CJ K (.ktup (ns.map D.int)) (.ref a)
theorem CJ.rep{K:ae}{H:Hp}{d:D}{v:af}(r:CJ K d v):∃y,RelV y v/\Rep K H d y:=by
 cases r with
 |str x t=>exact⟨.str x,⟨t,rfl⟩,.str x⟩
 |int i t=>exact⟨.int i,⟨t,rfl⟩,.int i⟩
 |tupI h=>exact⟨.ref _,rfl,.ktup h (bI.ints _)⟩
inductive Ex(w:cE)(K:ae):List BB->List (Str×D)->Prop
 |nil:Ex w K [] []
 |cons {k:Str} {d:D} {t:Tok} {v:af} {es:List BB} {kvs:List (Str×D)}:CJ K d v->Ex w K es kvs->Ex w K (⟨hashStr w k,.str k t,v⟩::es) ((k,d)::kvs)
structure DC(K:ae)(w:cE)(a:aE)(kvs:List (Str×D)):Prop where
 ob:∃o es ep,K.lookup a=some o/\o.ExactDict/\o.data=.dict es ep/\Ex w K es.toList kvs
 nd:(kvs.map (·.1)).Nodup
 ns:(a==iO)=false
theorem Ex.pairs{P:b5}{w:cE}{K:ae}:∀ {es:List BB} {kvs:List (Str×D)},Ex w K es kvs->∃vs:List (Key×af),Pairs (bO P w) es vs/\vs.map (·.1)=kvs.map (fun p=>(wb p.1:Key)) /\
  (∀e∈es,∃k,(bO P w).is k e.key=true/\e.hash=(bO P w).hash k)/\(∀z d,kvs.lookup z=some d->∃v,lj vs (.inr z)=some v/\CJ K d v)/\∀z,kvs.lookup z=none->lj vs (.inr z)=none
 |_,_,.nil=>⟨[],.nil,rfl,by simp,by simp,fun z _=>rfl⟩
 |_,_,.cons (k:=k) (d:=d) (t:=t) (v:=v) r h=>by
  obtain⟨vs,h1,h2,h3,h4,h5⟩:=Ex.pairs (P:=P) h
  refine⟨(.inr k,v)::vs,.cons (nR P w k t) rfl h1,by rw[ck,h2];rfl,?_,?_,?_⟩
  ·intro e he
   rcases bE.mp he with rfl | he
   ·exact⟨.inr k,nR P w k t,rfl⟩
   ·exact h3 e he
  ·intro z dz hz
   by_cases e:z=k
   ·subst e
    rw[fR,beq_self_eq_true] at hz
    cases hz
    exact⟨v,by unfold lj;rw[e7 (by simp)];rfl,r⟩
   ·have hb:(z==k)=false:=beq_eq_false_iff_ne.mpr e
    rw[fR,hb] at hz
    obtain⟨v',q1,q2⟩:=h4 z dz hz
    refine⟨v',?_,q2⟩
    unfold lj at q1 ⊢
    rw[eP (by simp;exact fun q=>e q.symm)]
    exact q1
  ·intro z hz
   have e:z≠k:=by
    rintro rfl
    rw[fR,beq_self_eq_true] at hz
    cases hz
   have hb:(z==k)=false:=beq_eq_false_iff_ne.mpr e
   rw[fR,hb] at hz
   have q1:=h5 z hz
   unfold lj at q1 ⊢
   rw[eP (by simp;exact fun q=>e q.symm)]
   exact q1
theorem DC.dict{K:ae}{P:b5}{w:cE}{a:aE}{kvs:List (Str×D)}{h:eJ}(c:DC K w a kvs)(hk:K.In h):∃vs:List (Key×af),h.DictOf (bO P w) a vs/\(∀z d,kvs.lookup z=some d->∃v,lj vs (.inr z)=some v/\CJ K d v)/\∀z,kvs.lookup z=none->lj vs (.inr z)=none:=by
 obtain⟨o,es,ep,h1,h2,h3,h4⟩:=c.ob
 obtain⟨vs,p1,p2,p3,p4,p5⟩:=Ex.pairs (P:=P) h4
 refine⟨vs,⟨o,es,ep,hk a o h1,h2,h3,fun e he=>p3 e (by simpa using he),p1,?_⟩,p4,p5⟩
 rw[p2]
 have:=c.nd
 rw[cK,f7] at this ⊢
 exact this.imp fun h q=>h (Sum.inr.inj q)
section
variable{X:Cx}
def tKd(K:ae)(kvs:List (Str×D))(te:TE):TE:=fun σ H Q=>te σ H fun x H1=>∃z d,x=.str z/\kvs.lookup z=some d/\∀v y,RelV y v->Rep K H1 d y->Q y H1
theorem abd{x:Str}{a:aE}{kvs:List (Str×D)}{e:cS}{te:TE}{p pos:Pos}(hg:Gl X x)(hm:X.mg x=some (.ref a))(c:DC X.K X.w a kvs)(he:PE X e te)(hs:Nu e)(hd:(x==("__debug__" : Str))=false:=by decide):PE X (.Subscript (.Name x p) e pos) (tKd X.K kvs te):=by
 intro pins s σ H Q I h
 refine IK vE.lookup hs (gC I hg hm (cC (he pins s σ H _ I h) fun iv s2 zz=>?_) hd)
 obtain⟨y,H2,I2,ry,z,d,ey,hl,q2⟩:=zz
 subst ey
 obtain⟨vs,dd,h1,_⟩:=c.dict (P:=X.prog) I2.lR
 obtain⟨v,hv,rk⟩:=h1 z d hl
 obtain⟨y,ryv,rep⟩:=rk.rep (H:=H2)
 exact⟨dd.typeIs,EE (uB (k:=.inr z) ry) dd.mapOf hv ⟨y,H2,I2.tok _,ryv,q2 v y ryv rep⟩⟩
theorem aaP{x:Str}{kvs:List (Str×D)}{e:cS}{te:bL}{p pos:Pos}(hg:Gl X x)(hm:∃a,X.mg x=some (.ref a)/\DC X.K X.w a kvs)(he:b8 X e te)(hs:Nu e:=by exact fun _ _=>rfl)(hd:(x==("__debug__" : Str))=false:=by decide) :
  b8 X (.Subscript (.Name x p) e pos) (kd3 kvs te):=by
 obtain⟨a,hm,c⟩:=hm
 refine bT (abd hg hm c he hs hd) fun _ _ _ h=>?_
 obtain⟨σ3,H3,Q3,sr,hr,t,k⟩:=h
 refine⟨σ3,H3,_,sr,hr,t,fun x v H3a Ha tka hra rx qa=>?_⟩
 cases rx with
 |str z=>
  (delta kdk at qa;dsimp only at qa)
  split at qa
  ·rename_i d hl
   exact⟨z,d,rfl,hl,fun v y _ rep=>k _ _ _ _ tka hra rep qa⟩
  ·exact qa.elim
 |_=>exact qa.elim
def acX(kvs:List (Str×D))(neg:Bool)(te:TE):TE:=fun σ H Q=>te σ H fun x H1=>∃z,x=.str z/\Q (.bl (neg != (kvs.lookup z).isSome)) H1
theorem Xb{pins:List (aE×Obj)}{σ:St}{H:Hp}{s:ah}{a:aE}{kvs:List (Str×D)}{z:Str}{iv:af}(I:L2.Inv X pins σ H s)(c:DC X.K X.w a kvs)(ry:RelV (.str z) iv):∃vs:List (Key×af),s.heap.DictOf (bO X.prog X.w) a vs/\(lj vs (.inr z)).isSome=(kvs.lookup z).isSome:=by
 obtain⟨vs,dd,h1,h2⟩:=c.dict (P:=X.prog) I.lR
 refine⟨vs,dd,?_⟩
 cases e:kvs.lookup z with
 |none=>rw[h2 z e];rfl
 |some d=>obtain⟨v,hv,_⟩:=h1 z d e;rw[hv];rfl
end
end L3
namespace L3
open PySem PySem.Spec PyProof.Rows L2
end L3
namespace L3
open PySem PySem.Spec PyProof.Rows L2
section
variable{X:Cx}
theorem O8:gW X (rh .Add) (cg X.K GJ):=by
 intro pins s σ H x y v u Q I rx ry h
 obtain⟨dx,dy,H3,Q3,hr,rdx,rdy,t,k⟩:=h
 cases rdx with
 |int i=>
  cases rdy with
  |int j=>exact Ul pins s σ H _ _ v u Q I rx ry ⟨i,j,rfl,rfl,k _ _ _ _ TK.refl hr (.int _) t⟩
  |_=>exact t.elim
 |str i=>
  cases rdy with
  |str j=>exact Df pins s σ H _ _ v u Q I rx ry ⟨i,j,rfl,rfl,t.1,k _ _ _ _ TK.refl hr (.str _) t.2⟩
  |_=>exact t.elim
 |_=>exact t.elim
theorem R0:gW X (rh .Sub) (cg X.K GX):=uX UJ fun _ _ _=>.int _
theorem Rj{i:Nat}{x:Str}{e:cS}{te:bL}{op:C6}{r:R3}{pos' pos:Pos}(hN:X.N.Nodup)(ho:gW X (rh op) (cg X.K r))(he:b8 X e te)(hi:X.N[i]?=some x:=by rfl)(hx:Loc X.env.scope x:=by first | exact nN rfl | exact nV rfl)
  (hf:X.fn x=true\/X.env.scope.names.lookup x=some .local:=by first | exact .inl rfl | exact .inr rfl | assumption):BW X (.AugAssign (.Name x pos') op e pos) (Yy i r te) :=
 je (X5 (i:=i) (ti:=cg X.K r) hN hi hx he ho hf) fun D0 σ H zz=>zz.ex fun σ3 H3 D3 sr hr t k=>by
  simp only[Yy] at t
  split at t
  ·rename_i d hd
   obtain⟨v,hv,rv⟩:=sr.get _ _ hd
   refine⟨v,hv,σ3,H3,_,sr,hr,t,fun y u H3a Ha tka hra ry qa=>⟨d,y,H3a,_,hra,rv.mono tka,ry,qa,fun z w H3b Hb tkb hrb rz qb=>?_⟩⟩
   exact k.nx _ _ _ _ (tka.trans tkb) ((sr.mono (tka.trans tkb)).set i rz) hrb qb
  ·exact t.elim
end
end L3
namespace L3
open PySem PySem.Spec PyProof.Rows L2
structure ZR(z TI TO i1 i2:aE)(f1 f2:List aE):Prop where
 TIz:TI≠z
 TOz:TO≠z
 i1z:i1≠z
 i2z:i2≠z
 TITO:TI≠TO
 TIi1:TI≠i1
 TIi2:TI≠i2
 TOi1:TO≠i1
 TOi2:TO≠i2
 i12:i1≠i2
 a1:z∉f1/\TO∉f1/\i2∉f1
 a2:z∉f2/\TO∉f2/\i1∉f2
section
variable{prog:b5}{w:cE}{A:dS}{E:af->ah->Prop}{s:ah}
variable{z TI TO i1 i2:aE}{f1 f2:List aE}{n1 n2 k:Nat}{P1 P2:Nat->af->Prop}{S1 S2:Nat->eJ->Prop}{a b:af}
theorem yG{Q:Option af->ah->Prop}(D:ZR z TI TO i1 i2 f1 f2)(D1:Draws prog w A.in1 i1 f1 n1 P1 S1)(D2:Draws prog w A.in1 i2 f2 n2 P2 S2)(h1:k<n1)(h2:k<n2)
  (hz:yy s.heap z TI TO .none) (hTI:nX s.heap TI (.ref i1) (.ref i2)) (hTO:nX s.heap TO a b) (st1:S1 k s.heap) (st2:S2 k s.heap)
  (hQ:∀ h' tk x y,P1 k x→P2 k y→yy h' z TI TO (ky s.heap.objs.size)→nX h' TO x y→S1 (k + 1) h'→S2 (k + 1) h'→nX h' s.heap.objs.size x y →
   (∀c o,c≠z->c≠TO->c≠i1->c≠i2->s.heap.get? c=some o->h'.get? c=some o)->Q (some (.ref s.heap.objs.size)) { s with heap:=h',toks:=tk }) :
  bq (cf prog w) A (EC (.ref z)) Q E s:=by
 have hT:s.TypeIs (.ref z) "zip":=⟨_,hz,rfl⟩
 unfold EC
 refine ag (oQ (pS (name:=eS "__next__") hT sQ (yA sQ hT EO ?_ (DS _))))
 show bq _ _ (field (.ref z) 2 >>= _) _ _ _
 refine ag (kG hz rfl (x:=.bool false) rfl ?_)
 show bq _ _ (field (.ref z) 3 >>= _) _ _ _
 refine ag (kG hz rfl (x:=.ref TI) rfl ?_)
 refine ag (n4 hTI rfl ?_)
 show bq _ _ (hX (.ref z) >>= _) _ _ _
 refine ag ?_
 unfold hX
 refine ag (kG hz rfl (x:=.none) rfl (bg ?_))
 simp only[if_true]
 refine ag (G2 ?_)
 refine ag (kG hz rfl (x:=.ref TO) rfl ?_)
 refine ag (kM hz (by simp) fun h₁ hz₁ hs₁=>?_)
 replace hz₁:yy h₁ z TI TO .ellipsis:=hz₁
 refine ag ?_
 simp only[ER,FD,mT,u4]
 have ne:∀ {c d:aE} {f:List aE},c∈f->d∉f->c≠d:=fun hc hd e=>hd (e▸hc)
 refine ag (ag (xA ?_))
 show bq _ _ (i4 (.ref i1) >>= _) _ _ _
 have s11:S1 k h₁:=D1.frame _ _ _ st1 fun c hc o e=>(hs₁.2 c (ne hc D.a1.1)).trans e
 have s21:S2 k h₁:=D2.frame _ _ _ st2 fun c hc o e=>(hs₁.2 c (ne hc D.a2.1)).trans e
 refine ag (D1.item k { s with heap:=h₁ } _ _ h1 s11 fun x h₂ tk₂ hx s12 hs₂=>bg ?_)
 have hTO₂:nX h₂ TO a b:=(hs₂.2 TO D.TOi1).trans ((hs₁.2 TO D.TOz).trans hTO)
 refine ag (n4 (s:={ s with heap:=h₂,toks:=tk₂ }) hTO₂ rfl ?_)
 refine ag (sv (s:={ s with heap:=h₂,toks:=tk₂ }) hTO₂ fun h₃ hTO₃ hs₃=>?_)
 replace hTO₃:nX h₃ TO x b:=hTO₃
 refine ag (xa (bg ?_))
 have s13:S1 (k+1) h₃:=D1.frame _ _ _ s12 fun c hc o e=>(hs₃.2 c (ne hc D.a1.2.1)).trans e
 have s23:S2 k h₃:=D2.frame _ _ _ s21 fun c hc o e=>(hs₃.2 c (ne hc D.a2.2.1)).trans ((hs₂.2 c (ne hc D.a2.2.2)).trans e)
 refine ag (ag (xA ?_))
 show bq _ _ (i4 (.ref i2) >>= _) _ _ _
 refine ag (D2.item k { s with heap:=h₃,toks:=tk₂ } _ _ h2 s23 fun y h₄ tk₄ hy s24 hs₄=>bg ?_)
 have hTO₄:nX h₄ TO x b:=(hs₄.2 TO D.TOi2).trans hTO₃
 refine ag (n4 (s:={ s with heap:=h₄,toks:=tk₄ }) hTO₄ rfl ?_)
 refine ag (sv (s:={ s with heap:=h₄,toks:=tk₄ }) hTO₄ fun h₅ hTO₅ hs₅=>?_)
 replace hTO₅:nX h₅ TO x y:=hTO₅
 refine ag (xa (bg (bg ?_)))
 have s14:S1 (k+1) h₅:=D1.frame _ _ _ s13 fun c hc o e=>(hs₅.2 c (ne hc D.a1.2.1)).trans ((hs₄.2 c (ne hc D.a1.2.2)).trans e)
 have s25:S2 (k+1) h₅:=D2.frame _ _ _ s24 fun c hc o e=>(hs₅.2 c (ne hc D.a2.2.1)).trans e
 refine ag (n4 (s:={ s with heap:=h₅,toks:=tk₄ }) hTO₅ rfl ?_)
 refine ag (G1 ?_)
 have hsz:h₅.objs.size=s.heap.objs.size:=by rw[hs₅.1,hs₄.1,hs₃.1,hs₂.1,hs₁.1]
 have hz₅:yy h₅ z TI TO .ellipsis:=(hs₅.2 z D.TOz.symm).trans ((hs₄.2 z D.i2z.symm).trans ((hs₃.2 z D.TOz.symm).trans ((hs₂.2 z D.i1z.symm).trans hz₁)))
 have hk₅:∀c o,c≠z->c≠TO->c≠i1->c≠i2->s.heap.get? c=some o->h₅.get? c=some o:=fun c o c1 c2 c3 c4 e=>
  (hs₅.2 c c2).trans ((hs₄.2 c c4).trans ((hs₃.2 c c2).trans ((hs₂.2 c c3).trans ((hs₁.2 c c1).trans e))))
 have hzlt:z<h₅.objs.size:=bp hz₅
 show bq _ _ (oB (.ref z) (.ref h₅.objs.size) >>= _) _ _ _
 refine ag ?_
 unfold oB
 have hz₆:yy (h₅.push { cls:=.type "tuple",data:=.seq #[x,y] }) z TI TO .ellipsis:=av _ hz₅
 refine ag (kM (s:={ s with heap:=h₅.push { cls:=.type "tuple",data:=.seq #[x,y] },toks:=tk₄ }) hz₆ (by simp) fun h₇ hz₇ hs₇=>?_)
 replace hz₇:yy h₇ z TI TO (ky h₅.objs.size):=hz₇
 refine kM (s:={ s with heap:=h₇,toks:=tk₄ }) hz₇ (by simp) fun h₈ hz₈ hs₈=>?_
 replace hz₈:yy h₈ z TI TO (ky h₅.objs.size):=hz₈
 have up:∀c o,c≠z->h₅.get? c=some o->h₈.get? c=some o:=fun c o c1 e=>(hs₈.2 c c1).trans ((hs₇.2 c c1).trans (av _ e))
 have hT₈:nX h₈ h₅.objs.size x y:=(hs₈.2 _ (g9 hzlt)).trans ((hs₇.2 _ (g9 hzlt)).trans (bP _ rfl))
 rw[hsz] at hz₈ hT₈
 refine bg ⟨_,rfl,bg ?_⟩
 show Q (some (.ref h₅.objs.size)) _
 rw[hsz]
 exact hQ h₈ tk₄ x y hx hy hz₈ (up _ _ D.TOz hTO₅) (D1.frame _ _ _ s14 fun c hc o e=>up c o (ne hc D.a1.1) e) (D2.frame _ _ _ s25 fun c hc o e=>up c o (ne hc D.a2.1) e) hT₈ fun c o c1 c2 c3 c4 e=>up c o c1 (hk₅ c o c1 c2 c3 c4 e)
def Kh(prog:b5)(w:cE)(A:dS)(it:aE)(S:eJ->Prop):Prop:=∀(s:ah) (Q:af->ah->Prop) (E:af->ah->Prop),S s.heap ->
 (∀h' e,Heap.ExtBut it s.heap h'->(∃o,h'.get? e=some o/\o.cls=.type "StopIteration")->E (.ref e) { s with heap:=h' })->bq (cf prog w) A (i4 (.ref it)) Q E s
theorem Ds{Q:Option af->ah->Prop}(D:ZR z TI TO i1 i2 f1 f2)(fr1:∀h h':eJ,S1 k h->(∀b∈f1,∀o,h.get? b=some o->h'.get? b=some o)->S1 k h')(fr2:∀h h':eJ,S2 k h->(∀b∈f2,∀o,h.get? b=some o->h'.get? b=some o)->S2 k h')
  (hend:Kh prog w A.in1 i1 (S1 k)\/((k<n1/\Draws prog w A.in1 i1 f1 n1 P1 S1)/\Kh prog w A.in1 i2 (S2 k)))
  (hz:yy s.heap z TI TO .none) (hTI:nX s.heap TI (.ref i1) (.ref i2)) (hTO:nX s.heap TO a b) (st1:S1 k s.heap) (st2:S2 k s.heap)
  (hQ:∀h' tk,(∀c o,c≠z->c≠TO->c≠i1->c≠i2->s.heap.get? c=some o->h'.get? c=some o)->Q none { s with heap:=h',toks:=tk }) :
  bq (cf prog w) A (EC (.ref z)) Q E s:=by
 have hT:s.TypeIs (.ref z) "zip":=⟨_,hz,rfl⟩
 unfold EC
 refine ag (oQ (pS (name:=eS "__next__") hT sQ (yA sQ hT EO ?_ (DS _))))
 have fin:∀h' e tk,(∀c o,c≠z->c≠TO->c≠i1->c≠i2->s.heap.get? c=some o->h'.get? c=some o)->(∃o,h'.get? e=some o/\o.cls=.type "StopIteration") ->
   bq (cf prog w) A (do let r ←va (.ref e) (CC "StopIteration");if r=true then pure none else throw (.ref e)) Q E { s with heap:=h',toks:=tk }:=by
  rintro h' e tk hk ⟨o,ho,hc⟩
  refine ag (wpAny_isInstance (T := "StopIteration") (b:=true) ⟨o,ho,hc⟩ isSubtype_stop ?_)
  exact bg (hQ h' tk hk)
 show bq _ _ (field (.ref z) 2 >>= _) _ _ _
 refine ag (kG hz rfl (x:=.bool false) rfl ?_)
 show bq _ _ (field (.ref z) 3 >>= _) _ _ _
 refine ag (kG hz rfl (x:=.ref TI) rfl ?_)
 refine ag (n4 hTI rfl ?_)
 show bq _ _ (hX (.ref z) >>= _) _ _ _
 refine ag ?_
 unfold hX
 refine ag (kG hz rfl (x:=.none) rfl (bg ?_))
 simp only[if_true]
 refine ag (G2 ?_)
 refine ag (kG hz rfl (x:=.ref TO) rfl ?_)
 refine ag (kM hz (by simp) fun h₁ hz₁ hs₁=>?_)
 replace hz₁:yy h₁ z TI TO .ellipsis:=hz₁
 refine ag ?_
 simp only[ER,FD,mT,u4]
 have ne:∀ {c d:aE} {f:List aE},c∈f->d∉f->c≠d:=fun hc hd e=>hd (e▸hc)
 refine ag (ag (xA ?_))
 show bq _ _ (i4 (.ref i1) >>= _) _ _ _
 have s11:S1 k h₁:=fr1 _ _ st1 fun c hc o e=>(hs₁.2 c (ne hc D.a1.1)).trans e
 have s21:S2 k h₁:=fr2 _ _ st2 fun c hc o e=>(hs₁.2 c (ne hc D.a2.1)).trans e
 rcases hend with hend | ⟨⟨hk1,D1⟩,hend⟩
 ·refine ag (hend { s with heap:=h₁ } _ _ s11 fun h₂ e hs₂ he=>?_)
  obtain⟨oe,hoe,hce⟩:=he
  have hz₂:yy h₂ z TI TO .ellipsis:=hs₂ _ _ D.i1z.symm hz₁
  have hez:e≠z:=fun x=>by subst x;rw[hz₂] at hoe;cases hoe;simp at hce
  refine kM (s:={ s with heap:=h₂ }) hz₂ (by simp) fun h₃ _ hs₃=>?_
  exact fin h₃ e s.toks (fun c o c1 _ c3 _ x=>(hs₃.2 c c1).trans (hs₂ c o c3 ((hs₁.2 c c1).trans x))) ⟨oe,(hs₃.2 e hez).trans hoe,hce⟩
 ·refine ag (D1.item k { s with heap:=h₁ } _ _ hk1 s11 fun x h₂ tk₂ hx s12 hs₂=>bg ?_)
  have hTO₂:nX h₂ TO a b:=(hs₂.2 TO D.TOi1).trans ((hs₁.2 TO D.TOz).trans hTO)
  refine ag (n4 (s:={ s with heap:=h₂,toks:=tk₂ }) hTO₂ rfl ?_)
  refine ag (sv (s:={ s with heap:=h₂,toks:=tk₂ }) hTO₂ fun h₃ hTO₃ hs₃=>?_)
  refine ag (xa (bg ?_))
  have s23:S2 k h₃:=fr2 _ _ s21 fun c hc o e=>(hs₃.2 c (ne hc D.a2.2.1)).trans ((hs₂.2 c (ne hc D.a2.2.2)).trans e)
  refine ag (ag (xA ?_))
  show bq _ _ (i4 (.ref i2) >>= _) _ _ _
  refine ag (hend { s with heap:=h₃,toks:=tk₂ } _ _ s23 fun h₄ e hs₄ he=>?_)
  obtain⟨oe,hoe,hce⟩:=he
  have hz₄:yy h₄ z TI TO .ellipsis:=hs₄ _ _ D.i2z.symm ((hs₃.2 z D.TOz.symm).trans ((hs₂.2 z D.i1z.symm).trans hz₁))
  have hez:e≠z:=fun x=>by subst x;rw[hz₄] at hoe;cases hoe;simp at hce
  refine kM (s:={ s with heap:=h₄,toks:=tk₂ }) hz₄ (by simp) fun h₅ _ hs₅=>?_
  exact fin h₅ e tk₂ (fun c o c1 c2 c3 c4 x=>(hs₅.2 c c1).trans (hs₄ c o c4 ((hs₃.2 c c2).trans ((hs₂.2 c c3).trans ((hs₁.2 c c1).trans x))))) ⟨oe,(hs₅.2 e hez).trans hoe,hce⟩
end
def Io(x:Str)(t:Tok):Obj:={ cls:=.type "str_ascii_iterator",data:=.fields #[.str x t,.int 0 0] }
def JK(l:aE):Obj:={ cls:=.type "list_iterator",data:=.fields #[.ref l,.int 0 0] }
abbrev zh2(h:eJ)(o1 o2:Obj):eJ:=(h.push o1).push o2
abbrev zh3(h:eJ)(o1 o2:Obj):eJ:=(zh2 h o1 o2).push { cls:=.type "tuple",data:=.seq #[.ref h.objs.size,.ref (h.push o1).objs.size] }
abbrev ZG(h:eJ)(o1 o2:Obj):eJ:=(zh3 h o1 o2).push { cls:=.type "tuple",data:=.seq #[.none,.none] }
abbrev Aq(h:eJ)(o1 o2:Obj):eJ:=(ZG h o1 o2).push { cls:=.type "zip",data:=.fields #[.none,.bool false,.bool false,.ref (zh2 h o1 o2).objs.size,.ref (zh3 h o1 o2).objs.size] }
set_option maxHeartbeats 4000000 in
theorem Ay(l:aE)(xs:Array af)(x:Str)(t:Tok)(ha:x.cps.all (· < 128)=true) :
  Meets (tN.«zip.__new__» ⟨[.type "zip",.ref l,.str x t],[]⟩) (fun _ R s=>s.heap.IsList l xs/\R (.ok (.ret (.ref (ZG s.heap (JK l) (Io x t)).objs.size))) { s with heap:=Aq s.heap (JK l) (Io x t) }) :=
 .of_wp fun prog w A R s h=>by
  obtain⟨hp,g,d,tk,os⟩:=s
  obtain⟨hl,h⟩:=h
  have hsub:=sub_zip
  have hL:Kj (Shared.heap ⟨hp,g,d,tk,os⟩) l xs:=hl
  wp_walk using wo hL,u7 ha
  exact⟨_,rfl,h⟩
set_option maxHeartbeats 4000000 in
theorem Ao(l:aE)(xs:Array af)(x:Str)(t:Tok)(ha:x.cps.all (· < 128)=true) :
  Meets (tN.«zip.__new__» ⟨[.type "zip",.str x t,.ref l],[]⟩) (fun _ R s=>s.heap.IsList l xs/\R (.ok (.ret (.ref (ZG s.heap (Io x t) (JK l)).objs.size))) { s with heap:=Aq s.heap (Io x t) (JK l) }) :=
 .of_wp fun prog w A R s h=>by
  obtain⟨hp,g,d,tk,os⟩:=s
  obtain⟨hl,h⟩:=h
  have hsub:=sub_zip
  have hL:Kj (Shared.heap ⟨hp.push { cls:=.type "str_ascii_iterator",data:=.fields #[.str x t,.int 0 0] },g,d,tk,os⟩) l xs:=Ll hl _
  wp_walk using u7 ha,wo hL
  exact⟨_,rfl,h⟩
theorem JR(h:eJ)(o1 o2:Obj)(f1:o1.isFreed=false)(f2:o2.isFreed=false):let n:=h.objs.size
  (ZG h o1 o2).objs.size=n+4/\yy (Aq h o1 o2) (n+4) (n+2) (n+3) .none/\nX (Aq h o1 o2) (n+2) (.ref n) (.ref (n+1))/\nX (Aq h o1 o2) (n+3) .none .none/\(Aq h o1 o2).get? n=some o1/\(Aq h o1 o2).get? (n+1)=some o2/\∀c o,h.get? c=some o->(Aq h o1 o2).get? c=some o:=by
 intro n
 have z1:(h.push o1).objs.size=n+1:=vc ..
 have z2:(zh2 h o1 o2).objs.size=n+2:=by rw[vc,z1]
 have z3:(zh3 h o1 o2).objs.size=n+3:=by rw[vc,z2]
 have z4:(ZG h o1 o2).objs.size=n+4:=by rw[vc,z3]
 have g5:(Aq h o1 o2).get? (ZG h o1 o2).objs.size=some _:=bP _ rfl
 have g4:(Aq h o1 o2).get? (zh3 h o1 o2).objs.size=some _:=av _ (bP _ rfl)
 have g3:(Aq h o1 o2).get? (zh2 h o1 o2).objs.size=some _:=av _ (av _ (bP _ rfl))
 have g2:(Aq h o1 o2).get? (h.push o1).objs.size=some o2:=av _ (av _ (av _ (bP _ f2)))
 have g1:(Aq h o1 o2).get? h.objs.size=some o1:=av _ (av _ (av _ (av _ (bP _ f1))))
 rw[z2,z3,z4] at g5
 rw[z1,z2] at g3
 rw[z3] at g4
 rw[z1] at g2
 exact⟨z4,g5,g3,g4,g1,g2,fun c o x=>av _ (av _ (av _ (av _ (av _ x))))⟩
theorem Wi{l n:Nat}(h:l<n):n+4≠l/\n+3≠l/\n+1≠l/\n≠l:=by grind
theorem Z0{x a:Nat}(h:x≠a):x∉[a]:=by simp[h]
theorem ZQ{x a b:Nat}(h:x≠a)(g:x≠b):x∉[a,b]:=by simp[h,g]
def FN(K:ae)(a:aE)(x:Str):It :=
 ⟨fun i H=>∃xs v c,gB K H a xs/\xs[i]?=some v/\x.cps[i]?=some c,
   fun i H y H'=>∃T v c,y=.ref T/\H T=none/\H'=upd H T (.tup [v,.str ⟨#[c]⟩])/\x.cps[i]?=some c/\∀xs,gB K H a xs->xs[i]?=some v,
   fun i H=>∃xs,gB K H a xs/\(xs.length<=i\/x.cps.size<=i)⟩
theorem Dy{P:b5}{w:cE}{K:ae}{elts:List cS}{kt:Nat}{pt:Pos}{x:Str}{t:Tok}(z TI TO i1 i2 a:aE)(D:ZR z TI TO i1 i2 [i1,a] [i2])(hai:a≠i1) :
  Turn P w K (.Tuple elts kt pt) (FN K a x) [z,TI,TO,i1,i2] z (fun i h=>yy h z TI TO .none/\nX h TI (.ref i1) (.ref i2)/\(∃u v,nX h TO u v)/\h.IsListIter i1 a i/\i<=x.cps.size/\h.IsStrIter i2 "str_ascii_iterator" x t i) where
 mem:=by simp
 obj:=by
  rintro i h ⟨h1,h2,⟨u,v,h3⟩,⟨o4,h4,c4,d4⟩,_,⟨o5,h5,c5,d5⟩⟩ c hc
  simp only[bE,gx,or_false] at hc
  rcases hc with rfl | rfl | rfl | rfl | rfl
  ·exact⟨_,h1,fun v z=>nomatch z⟩
  ·exact⟨_,h2,fun v z=>nomatch z⟩
  ·exact⟨_,h3,fun v z=>nomatch z⟩
  ·first
   |exact⟨_,h4,fun v z=>by rw[d4] at z;cases z⟩
   |exact⟨_,h5,fun v z=>by rw[d5] at z;cases z⟩
  ·first
   |exact⟨_,h4,fun v z=>by rw[d4] at z;cases z⟩
   |exact⟨_,h5,fun v z=>by rw[d5] at z;cases z⟩
 keep:=by
  rintro i h h' ⟨h1,h2,⟨u,v,h3⟩,h4,hi,⟨o5,h5,r5⟩⟩ k
  exact⟨k z (by simp) _ h1,k TI (by simp) _ h2,⟨u,v,k TO (by simp) _ h3⟩,h4.at fun o e=>k i1 (by simp) o e,hi,o5,k i2 (by simp) o5 h5,r5⟩
 item:=by
  intro X hP hw hK hc i pins s σ H E I hf st hg
  subst hP hw hK
  obtain⟨xs,v,c,hq,hxv,hcx⟩:=hg
  obtain⟨h1,h2,⟨u0,v0,h3⟩,h4,_,h5⟩:=st
  obtain⟨its,rv,pl,hz⟩:=I.list hq
  obtain⟨u,hu,ru⟩:=rv.get hxv
  have hh:=I.ok.hd hc
  have hlv:i<its.length:=(bb.mp hu).1
  have hct:i<x.cps.size:=(fS.mp hcx).1
  have hT:H s.heap.objs.size=none:=I.hok.fresh (aT _)
  refine yG (k:=i) (f1:=[i1,a]) (f2:=[i2]) (S1:=fun i h=>h.IsListIter i1 a i/\h.IsList a its.toArray) (S2:=fun i h=>h.IsStrIter i2 "str_ascii_iterator" x t i) D (CY (prog:=X.prog) (w:=X.w) (A:=X.A.in1) hh i1 a hai its.toArray) (n9 (prog:=X.prog) (w:=X.w) (A:=X.A.in1) hh i2 x t) (by simp;grind) hct h1 h2 h3 ⟨h4,pl.isList⟩ h5 fun h' tk y1 y2 hy1 hy2 a1 a2 sa sb a5 a7=>?_
  refine⟨_,rfl,?_⟩
  refine vF (s:={ s with heap:=h',toks:=tk }) a1 fun h'' b1 b2=>?_
  have lt:∀ {c o},s.heap.get? c=some o->s.heap.objs.size≠c:=fun e=>g9 (bp e)
  obtain⟨c',u',hc',rfl⟩:=hy2
  have ec:c'=c:=Option.some.inj (hc'.symm.trans hcx)
  subst ec
  have eu:y1=u:=by
   have q:=hy1
   simp only[AO] at q
   exact Option.some.inj (q.symm.trans hu)
  subst eu
  have new:h''.get? s.heap.objs.size=some { cls:=.type "tuple",data:=.seq #[y1,.str ⟨#[c']⟩ u'] }:=(b2.2 _ (lt h1)).trans a5
  have I1:L2.Inv X pins σ (upd H s.heap.objs.size (.tup [v,.str ⟨#[c']⟩])) { s with heap:=h'',toks:=tk }:=by
   refine tX (ch:=[z,TI,TO,i1,i2]) I (fun c o hcn e=>?_) hf (aT _) ⟨?_,[y1,.str ⟨#[c']⟩ u'],.cons ru (.cons ⟨_,rfl⟩ .nil),⟨_,new,rfl,_,rfl,rfl⟩⟩
   ·have n1:c≠z:=fun w=>hcn (by simp[w])
    exact (b2.2 c n1).trans (a7 c o n1 (fun w=>hcn (by simp[w])) (fun w=>hcn (by simp[w])) (fun w=>hcn (by simp[w])) e)
   ·show 2<=bS;decide
  refine⟨.ref s.heap.objs.size,_,I1,rfl,⟨_,v,c',rfl,hT,rfl,hcx,fun xs' q1=>by rw[I.vX q1 hq];exact hxv⟩,⟨b1,?_,⟨_,_,(b2.2 TO D.TOz).trans a2⟩,?_,hct,?_⟩,fun d hdm=>?_⟩
  ·exact (b2.2 TI D.TIz).trans (a7 TI _ D.TIz D.TITO D.TIi1 D.TIi2 h2)
  ·exact (sa).1.at fun o e=>(b2.2 i1 D.i1z).trans e
  ·obtain⟨o,e,r⟩:=sb
   exact⟨o,(b2.2 i2 D.i2z).trans e,r⟩
  ·have hcn:H d=none:=(hf d hdm).1
   have:d≠s.heap.objs.size:=by
    obtain⟨o,e,_⟩:∃o,s.heap.get? d=some o/\True:=by
     simp only[bE,gx,or_false] at hdm
     obtain⟨o4,e4,_⟩:=h4
     obtain⟨o5,e5,_⟩:=h5
     rcases hdm with rfl | rfl | rfl | rfl | rfl
     ·exact⟨_,h1,trivial⟩
     ·exact⟨_,h2,trivial⟩
     ·exact⟨_,h3,trivial⟩
     ·first | exact⟨_,e4,trivial⟩ | exact⟨_,e5,trivial⟩
     ·first | exact⟨_,e4,trivial⟩ | exact⟨_,e5,trivial⟩
    exact (lt e).symm
   rw[aC this];exact hcn
 done:=by
  intro X hP hw hK hc i pins s σ H E I hf st hg
  subst hP hw hK
  obtain⟨xs,hq,hx⟩:=hg
  obtain⟨h1,h2,⟨u0,v0,h3⟩,h4,hi,h5⟩:=st
  obtain⟨its,rv,pl,hz⟩:=I.list hq
  have hl:=rv.length
  have hh:=I.ok.hd hc
  have DL:=CY (prog:=X.prog) (w:=X.w) (A:=X.A.in1) hh i1 a hai its.toArray
  have DT:=n9 (prog:=X.prog) (w:=X.w) (A:=X.A.in1) hh i2 x t
  have endL:its.length<=i->Kh X.prog X.w X.A.in1 i1 ((fun i h=>h.IsListIter i1 a i/\h.IsList a its.toArray) i):=fun hle s' Q E' st' hE=>AQ hh st'.1 st'.2 (by simp;grind) hE
  have Ez:x.cps.size<=i->Kh X.prog X.w X.A.in1 i2 ((fun i h=>h.IsStrIter i2 "str_ascii_iterator" x t i) i):=fun hle s' Q E' st' hE=>by
   have e:i=x.cps.size:=sN hi hle
   subst e
   exact DT.done s' Q E' st' hE
  refine Ds (k:=i) (P1:=fun i v=>its.toArray[i]?=some v) (f1:=[i1,a]) (f2:=[i2]) (n1:=its.toArray.size) (S1:=fun i h=>h.IsListIter i1 a i/\h.IsList a its.toArray) (S2:=fun i h=>h.IsStrIter i2 "str_ascii_iterator" x t i) D (fun _ _ q k=>DL.frame i _ _ q k) (fun _ _ q k=>DT.frame i _ _ q k) ?_ h1 h2 h3 ⟨h4,pl.isList⟩ h5 fun h' tk k=>⟨rfl,?_⟩
  ·by_cases hle:its.length<=i
   ·exact .inl (endL hle)
   ·exact .inr ⟨⟨by simp;grind,DL⟩,Ez (by grind)⟩
  ·exact BK (t':=tk) (ch:=[z,TI,TO,i1,i2]) I (fun c o hcn e=>k c o (fun w=>hcn (by simp[w])) (fun w=>hcn (by simp[w])) (fun w=>hcn (by simp[w])) (fun w=>hcn (by simp[w])) e) hf
 self:=fun A i s Q E st h=>rL st.1 h
def Gv(K:ae)(a:aE)(x:Str):It :=
 ⟨fun i H=>∃xs v c,gB K H a xs/\xs[i]?=some v/\x.cps[i]?=some c,
   fun i H y H'=>∃T v c,y=.ref T/\H T=none/\H'=upd H T (.tup [.str ⟨#[c]⟩,v])/\x.cps[i]?=some c/\∀xs,gB K H a xs->xs[i]?=some v,
   fun i H=>∃xs,gB K H a xs/\(xs.length<=i\/x.cps.size<=i)⟩
theorem Ef{P:b5}{w:cE}{K:ae}{elts:List cS}{kt:Nat}{pt:Pos}{x:Str}{t:Tok}(z TI TO i1 i2 a:aE)(D:ZR z TI TO i1 i2 [i1] [i2,a])(hai:a≠i2) :
  Turn P w K (.Tuple elts kt pt) (Gv K a x) [z,TI,TO,i1,i2] z (fun i h=>yy h z TI TO .none/\nX h TI (.ref i1) (.ref i2)/\(∃u v,nX h TO u v)/\h.IsListIter i2 a i/\i<=x.cps.size/\h.IsStrIter i1 "str_ascii_iterator" x t i) where
 mem:=by simp
 obj:=by
  rintro i h ⟨h1,h2,⟨u,v,h3⟩,⟨o4,h4,c4,d4⟩,_,⟨o5,h5,c5,d5⟩⟩ c hc
  simp only[bE,gx,or_false] at hc
  rcases hc with rfl | rfl | rfl | rfl | rfl
  ·exact⟨_,h1,fun v z=>nomatch z⟩
  ·exact⟨_,h2,fun v z=>nomatch z⟩
  ·exact⟨_,h3,fun v z=>nomatch z⟩
  ·first
   |exact⟨_,h4,fun v z=>by rw[d4] at z;cases z⟩
   |exact⟨_,h5,fun v z=>by rw[d5] at z;cases z⟩
  ·first
   |exact⟨_,h4,fun v z=>by rw[d4] at z;cases z⟩
   |exact⟨_,h5,fun v z=>by rw[d5] at z;cases z⟩
 keep:=by
  rintro i h h' ⟨h1,h2,⟨u,v,h3⟩,h4,hi,⟨o5,h5,r5⟩⟩ k
  exact⟨k z (by simp) _ h1,k TI (by simp) _ h2,⟨u,v,k TO (by simp) _ h3⟩,h4.at fun o e=>k i2 (by simp) o e,hi,o5,k i1 (by simp) o5 h5,r5⟩
 item:=by
  intro X hP hw hK hc i pins s σ H E I hf st hg
  subst hP hw hK
  obtain⟨xs,v,c,hq,hxv,hcx⟩:=hg
  obtain⟨h1,h2,⟨u0,v0,h3⟩,h4,_,h5⟩:=st
  obtain⟨its,rv,pl,hz⟩:=I.list hq
  obtain⟨u,hu,ru⟩:=rv.get hxv
  have hh:=I.ok.hd hc
  have hlv:i<its.length:=(bb.mp hu).1
  have hct:i<x.cps.size:=(fS.mp hcx).1
  have hT:H s.heap.objs.size=none:=I.hok.fresh (aT _)
  refine yG (k:=i) (f1:=[i1]) (f2:=[i2,a]) (S1:=fun i h=>h.IsStrIter i1 "str_ascii_iterator" x t i) (S2:=fun i h=>h.IsListIter i2 a i/\h.IsList a its.toArray) D (n9 (prog:=X.prog) (w:=X.w) (A:=X.A.in1) hh i1 x t) (CY (prog:=X.prog) (w:=X.w) (A:=X.A.in1) hh i2 a hai its.toArray) hct (by simp;grind) h1 h2 h3 h5 ⟨h4,pl.isList⟩ fun h' tk y1 y2 hy1 hy2 a1 a2 sa sb a5 a7=>?_
  refine⟨_,rfl,?_⟩
  refine vF (s:={ s with heap:=h',toks:=tk }) a1 fun h'' b1 b2=>?_
  have lt:∀ {c o},s.heap.get? c=some o->s.heap.objs.size≠c:=fun e=>g9 (bp e)
  obtain⟨c',u',hc',rfl⟩:=hy1
  have ec:c'=c:=Option.some.inj (hc'.symm.trans hcx)
  subst ec
  have eu:y2=u:=by
   have q:=hy2
   simp only[AO] at q
   exact Option.some.inj (q.symm.trans hu)
  subst eu
  have new:h''.get? s.heap.objs.size=some { cls:=.type "tuple",data:=.seq #[.str ⟨#[c']⟩ u',y2] }:=(b2.2 _ (lt h1)).trans a5
  have I1:L2.Inv X pins σ (upd H s.heap.objs.size (.tup [.str ⟨#[c']⟩,v])) { s with heap:=h'',toks:=tk }:=by
   refine tX (ch:=[z,TI,TO,i1,i2]) I (fun c o hcn e=>?_) hf (aT _) ⟨?_,[.str ⟨#[c']⟩ u',y2],.cons ⟨_,rfl⟩ (.cons ru .nil),⟨_,new,rfl,_,rfl,rfl⟩⟩
   ·have n1:c≠z:=fun w=>hcn (by simp[w])
    exact (b2.2 c n1).trans (a7 c o n1 (fun w=>hcn (by simp[w])) (fun w=>hcn (by simp[w])) (fun w=>hcn (by simp[w])) e)
   ·show 2<=bS;decide
  refine⟨.ref s.heap.objs.size,_,I1,rfl,⟨_,v,c',rfl,hT,rfl,hcx,fun xs' q1=>by rw[I.vX q1 hq];exact hxv⟩,⟨b1,?_,⟨_,_,(b2.2 TO D.TOz).trans a2⟩,?_,hct,?_⟩,fun d hdm=>?_⟩
  ·exact (b2.2 TI D.TIz).trans (a7 TI _ D.TIz D.TITO D.TIi1 D.TIi2 h2)
  ·exact (sb).1.at fun o e=>(b2.2 i2 D.i2z).trans e
  ·obtain⟨o,e,r⟩:=sa
   exact⟨o,(b2.2 i1 D.i1z).trans e,r⟩
  ·have hcn:H d=none:=(hf d hdm).1
   have:d≠s.heap.objs.size:=by
    obtain⟨o,e,_⟩:∃o,s.heap.get? d=some o/\True:=by
     simp only[bE,gx,or_false] at hdm
     obtain⟨o4,e4,_⟩:=h4
     obtain⟨o5,e5,_⟩:=h5
     rcases hdm with rfl | rfl | rfl | rfl | rfl
     ·exact⟨_,h1,trivial⟩
     ·exact⟨_,h2,trivial⟩
     ·exact⟨_,h3,trivial⟩
     ·first | exact⟨_,e4,trivial⟩ | exact⟨_,e5,trivial⟩
     ·first | exact⟨_,e4,trivial⟩ | exact⟨_,e5,trivial⟩
    exact (lt e).symm
   rw[aC this];exact hcn
 done:=by
  intro X hP hw hK hc i pins s σ H E I hf st hg
  subst hP hw hK
  obtain⟨xs,hq,hx⟩:=hg
  obtain⟨h1,h2,⟨u0,v0,h3⟩,h4,hi,h5⟩:=st
  obtain⟨its,rv,pl,hz⟩:=I.list hq
  have hl:=rv.length
  have hh:=I.ok.hd hc
  have DL:=CY (prog:=X.prog) (w:=X.w) (A:=X.A.in1) hh i2 a hai its.toArray
  have DT:=n9 (prog:=X.prog) (w:=X.w) (A:=X.A.in1) hh i1 x t
  have endL:its.length<=i->Kh X.prog X.w X.A.in1 i2 ((fun i h=>h.IsListIter i2 a i/\h.IsList a its.toArray) i):=fun hle s' Q E' st' hE=>AQ hh st'.1 st'.2 (by simp;grind) hE
  have Ez:x.cps.size<=i->Kh X.prog X.w X.A.in1 i1 ((fun i h=>h.IsStrIter i1 "str_ascii_iterator" x t i) i):=fun hle s' Q E' st' hE=>by
   have e:i=x.cps.size:=sN hi hle
   subst e
   exact DT.done s' Q E' st' hE
  refine Ds (k:=i) (P1:=fun i v=>∃c u,x.cps[i]?=some c/\v=.str ⟨#[c]⟩ u) (f1:=[i1]) (f2:=[i2,a]) (n1:=x.cps.size) (S1:=fun i h=>h.IsStrIter i1 "str_ascii_iterator" x t i) (S2:=fun i h=>h.IsListIter i2 a i/\h.IsList a its.toArray) D (fun _ _ q k=>DT.frame i _ _ q k) (fun _ _ q k=>DL.frame i _ _ q k) ?_ h1 h2 h3 h5 ⟨h4,pl.isList⟩ fun h' tk k=>⟨rfl,?_⟩
  ·by_cases hle:x.cps.size<=i
   ·exact .inl (Ez hle)
   ·exact .inr ⟨⟨by grind,DT⟩,endL (by grind)⟩
  ·exact BK (t':=tk) (ch:=[z,TI,TO,i1,i2]) I (fun c o hcn e=>k c o (fun w=>hcn (by simp[w])) (fun w=>hcn (by simp[w])) (fun w=>hcn (by simp[w])) (fun w=>hcn (by simp[w])) e) hf
 self:=fun A i s Q E st h=>rL st.1 h
section
variable{X:Cx}{tg:cS}
theorem DK{prog:b5}{w:cE}{A:dS}{E:af->ah->Prop}{s:ah}{l:aE}{xs:Array af}{x:Str}{t:Tok}{Q:af->ah->Prop}(ha:x.cps.all (· < 128)=true)(hl:s.heap.IsList l xs)
  (h:Q (.ref (s.heap.objs.size+4)) { s with heap:=Aq s.heap (JK l) (Io x t) }):bq (cf prog w) A (call (.type "zip") [.ref l,.str x t]) Q E s:=by
 refine callType_new IQ (by decide) (ES _ _) (FE _ _) (fun obj=>A5 obj _ _) FF (Ay l xs x t ha) ⟨hl,?_⟩
 obtain⟨z4,g5,_⟩:=JR s.heap (JK l) (Io x t) rfl rfl
 show _/\_
 rw[z4]
 exact⟨⟨_,g5,rfl⟩,h⟩
def S9(K:ae)(ta:TA):TI:=fun σ H R=>ta σ H fun vs H1=>∃l x,vs=[.ref l,.str x]/\x.cps.all (· < 128)=true/\(∃xs,gB K H1 l xs)/\R (FN K l x) H1
theorem Mh{a b:cS}{ta:TA}{p pos pt:Pos}{elts:List cS}{kt:Nat}(hg:Gl X "zip")(hm:X.mg "zip" = none)(ha:PA X [a,b] ta)(hs:aI [a,b] X.env=[(false,eR a X.env),(false,eR b X.env)]:=by rfl)(hs2:aI [b] X.env=[(false,eR b X.env)]:=by rfl) :
  PI X (.Tuple elts kt pt) (.Call (.Name "zip" p) [a,b] [] pos) (S9 X.K ta):=by
 intro pins s σ H R I h
 refine JY (gf I hg hm boot_zip (fw (cC (ha pos pins s σ H _ I h) fun us s1 ⟨vs,H1,I1,r1,l,x,e,hx,⟨xs,hq⟩,q⟩=>?_) (by rw[hs,hs2]) (by rw[hs2];rfl)))
 subst e
 obtain⟨u,u',rfl,e1,e2⟩:=vals2 r1
 cases e1
 obtain⟨t,rfl⟩:=e2
 obtain⟨its,rv,pl,hz⟩:=I1.list hq
 have a1:l<s1.heap.objs.size:=by obtain⟨_,e,_⟩:=pl.isList;exact bp e
 refine DK hx pl.isList ?_
 obtain⟨z4,g5,g3,g4,g1,g2,hk⟩:=JR s1.heap (JK l) (Io x t) rfl rfl
 generalize hn:s1.heap.objs.size=n at *
 refine rL (s:={ s1 with heap:=Aq s1.heap (JK l) (Io x t) }) g5 ?_
 have I2:L2.Inv X pins σ H1 { s1 with heap:=Aq s1.heap (JK l) (Io x t),toks:=s1.toks }:=I1.kept (t':=s1.toks) hk
 have D:ZR (n+4) (n+2) (n+3) n (n+1) [n,l] [n+1]:=by
  exact⟨(show (n+2:Nat)≠n+4 from by grind),(show (n+3:Nat)≠n+4 from by grind),(show (n:Nat)≠n+4 from by grind),(show (n+1:Nat)≠n+4 from by grind),(show (n+2:Nat)≠n+3 from by grind),(show (n+2:Nat)≠n from by grind),(show (n+2:Nat)≠n+1 from by grind),(show (n+3:Nat)≠n from by grind),(show (n+3:Nat)≠n+1 from by grind),(show (n:Nat)≠n+1 from by grind),⟨ZQ (show (n+4:Nat)≠n from by grind) (Wi a1).1,ZQ (show (n+3:Nat)≠n from by grind) (Wi a1).2.1,ZQ (show (n+1:Nat)≠n from by grind) (Wi a1).2.2.1⟩,⟨Z0 (show (n+4:Nat)≠n+1 from by grind),Z0 (show (n+3:Nat)≠n+1 from by grind),Z0 (show (n:Nat)≠n+1 from by grind)⟩⟩
 refine⟨_,_,_,_,H1,rfl,I2,Dy (t:=t) _ _ _ _ _ l D (fm (Wi a1).2.2.2),⟨g5,g3,⟨_,_,g4⟩,⟨_,g1,rfl,rfl⟩,ef _,⟨_,g2,rfl,rfl⟩⟩,fun b hb=>?_,q⟩
 simp only[bE,gx,or_false] at hb
 have hge:s1.heap.objs.size<=b:=by rw[hn];rcases hb with rfl | rfl | rfl | rfl | rfl <;> grind
 exact I1.wC (b:=b) (H':=H1) hge (I1.hok.fresh hge)
theorem Cw{K:ae}{H:Hp}{a:aE}{ds:List D}{z:Str}:yt K H (ig ds (lets z)) (fun H'=>H' a=some (.lst ds)) (FN K a z):=fun H3 H' _ hr hk=>by
 obtain⟨vs,ga,ra⟩:=hr a _ hk
 have hl:(ig ds (lets z)).length=min ds.length z.cps.size:=by
  have hz:(lets z).length=z.cps.size:=by unfold lets;rw[aw,d3]
  unfold ig;rw[tF,hz]
 refine⟨fun i hi=>?_,?_⟩
 ·rw[hl] at hi
  have h1:i<vs.length:=by rw[←ra.length];grind
  have h2:i<z.cps.size:=by grind
  refine⟨⟨vs,vs[i],z.cps[i],gB.of ga,by simp,by simp⟩,fun v H'' y=>?_⟩
  obtain⟨T,x,c,rfl,hT,rfl,hc,hx⟩:=y
  obtain⟨d,hd,rd⟩:=ra.MN (hx vs (gB.of ga))
  have hc2:(lets z)[i]?=some (.str ⟨#[c]⟩):=by unfold lets;rw[aS,i8,hc];rfl
  refine⟨TK.fresh hT,hr.tup hT,.tup [d,.str ⟨#[c]⟩],?_,.tup aO (.cons (rd.mono (TK.fresh hT)) (.cons (.str _) .nil))⟩
  unfold ig
  rw[nv,hd,hc2]
 ·rw[hl]
  refine⟨vs,gB.of ga,?_⟩
  rw[←ra.length]
  grind
end
section
variable{X:Cx}{tg:cS}
theorem CV{prog:b5}{w:cE}{A:dS}{E:af->ah->Prop}{s:ah}{l:aE}{xs:Array af}{x:Str}{t:Tok}{Q:af->ah->Prop}(ha:x.cps.all (· < 128)=true)(hl:s.heap.IsList l xs)
  (h:Q (.ref (s.heap.objs.size+4)) { s with heap:=Aq s.heap (Io x t) (JK l) }):bq (cf prog w) A (call (.type "zip") [.str x t,.ref l]) Q E s:=by
 refine callType_new IQ (by decide) (ES _ _) (FE _ _) (fun obj=>A5 obj _ _) FF (Ao l xs x t ha) ⟨hl,?_⟩
 obtain⟨z4,g5,_⟩:=JR s.heap (Io x t) (JK l) rfl rfl
 show _/\_
 rw[z4]
 exact⟨⟨_,g5,rfl⟩,h⟩
def SJ(K:ae)(ta:TA):TI:=fun σ H R=>ta σ H fun vs H1=>∃l x,vs=[.str x,.ref l]/\x.cps.all (· < 128)=true/\(∃xs,gB K H1 l xs)/\R (Gv K l x) H1
theorem Km{a b:cS}{ta:TA}{p pos pt:Pos}{elts:List cS}{kt:Nat}(hg:Gl X "zip")(hm:X.mg "zip" = none)(ha:PA X [a,b] ta)(hs:aI [a,b] X.env=[(false,eR a X.env),(false,eR b X.env)]:=by rfl)(hs2:aI [b] X.env=[(false,eR b X.env)]:=by rfl) :
  PI X (.Tuple elts kt pt) (.Call (.Name "zip" p) [a,b] [] pos) (SJ X.K ta):=by
 intro pins s σ H R I h
 refine JY (gf I hg hm boot_zip (fw (cC (ha pos pins s σ H _ I h) fun us s1 ⟨vs,H1,I1,r1,l,x,e,hx,⟨xs,hq⟩,q⟩=>?_) (by rw[hs,hs2]) (by rw[hs2];rfl)))
 subst e
 obtain⟨u,u',rfl,e1,e2⟩:=vals2 r1
 obtain⟨t,rfl⟩:=e1
 cases e2
 obtain⟨its,rv,pl,hz⟩:=I1.list hq
 have a1:l<s1.heap.objs.size:=by obtain⟨_,e,_⟩:=pl.isList;exact bp e
 refine CV hx pl.isList ?_
 obtain⟨z4,g5,g3,g4,g1,g2,hk⟩:=JR s1.heap (Io x t) (JK l) rfl rfl
 generalize hn:s1.heap.objs.size=n at *
 refine rL (s:={ s1 with heap:=Aq s1.heap (Io x t) (JK l) }) g5 ?_
 have I2:L2.Inv X pins σ H1 { s1 with heap:=Aq s1.heap (Io x t) (JK l),toks:=s1.toks }:=I1.kept (t':=s1.toks) hk
 have D:ZR (n+4) (n+2) (n+3) n (n+1) [n] [n+1,l]:=by
  exact⟨(show (n+2:Nat)≠n+4 from by grind),(show (n+3:Nat)≠n+4 from by grind),(show (n:Nat)≠n+4 from by grind),(show (n+1:Nat)≠n+4 from by grind),(show (n+2:Nat)≠n+3 from by grind),(show (n+2:Nat)≠n from by grind),(show (n+2:Nat)≠n+1 from by grind),(show (n+3:Nat)≠n from by grind),(show (n+3:Nat)≠n+1 from by grind),(show (n:Nat)≠n+1 from by grind),⟨Z0 (show (n+4:Nat)≠n from by grind),Z0 (show (n+3:Nat)≠n from by grind),Z0 (show (n+1:Nat)≠n from by grind)⟩,⟨ZQ (show (n+4:Nat)≠n+1 from by grind) (Wi a1).1,ZQ (show (n+3:Nat)≠n+1 from by grind) (Wi a1).2.1,ZQ (show (n:Nat)≠n+1 from by grind) (Wi a1).2.2.2⟩⟩
 refine⟨_,_,_,_,H1,rfl,I2,Ef (t:=t) _ _ _ _ _ l D (fm (Wi a1).2.2.1),⟨g5,g3,⟨_,_,g4⟩,⟨_,g2,rfl,rfl⟩,ef _,⟨_,g1,rfl,rfl⟩⟩,fun b hb=>?_,q⟩
 simp only[bE,gx,or_false] at hb
 have hge:s1.heap.objs.size<=b:=by rw[hn];rcases hb with rfl | rfl | rfl | rfl | rfl <;> grind
 exact I1.wC (b:=b) (H':=H1) hge (I1.hok.fresh hge)
theorem Cy{K:ae}{H:Hp}{a:aE}{ds:List D}{z:Str}:yt K H (ig (lets z) ds) (fun H'=>H' a=some (.lst ds)) (Gv K a z):=fun H3 H' _ hr hk=>by
 obtain⟨vs,ga,ra⟩:=hr a _ hk
 have hl:(ig (lets z) ds).length=min ds.length z.cps.size:=by
  have hz:(lets z).length=z.cps.size:=by unfold lets;rw[aw,d3]
  unfold ig;rw[tF,hz];exact Nat.min_comm _ _
 refine⟨fun i hi=>?_,?_⟩
 ·rw[hl] at hi
  have h1:i<vs.length:=by rw[←ra.length];grind
  have h2:i<z.cps.size:=by grind
  refine⟨⟨vs,vs[i],z.cps[i],gB.of ga,by simp,by simp⟩,fun v H'' y=>?_⟩
  obtain⟨T,x,c,rfl,hT,rfl,hc,hx⟩:=y
  obtain⟨d,hd,rd⟩:=ra.MN (hx vs (gB.of ga))
  have hc2:(lets z)[i]?=some (.str ⟨#[c]⟩):=by unfold lets;rw[aS,i8,hc];rfl
  refine⟨TK.fresh hT,hr.tup hT,.tup [.str ⟨#[c]⟩,d],?_,.tup aO (.cons (.str _) (.cons (rd.mono (TK.fresh hT)) .nil))⟩
  unfold ig
  rw[nv,hc2,hd]
 ·rw[hl]
  refine⟨vs,gB.of ga,?_⟩
  rw[←ra.length]
  grind
end
section
variable{X:Cx}
theorem yR{a b:cS}{ta tb:bL}{p pos pt:Pos}{elts:List cS}{kt:Nat}(hm:X.mg "zip" = none)(ha:b8 X a ta)(hb:b8 X b tb)(hg:Gl X "zip":=by rfl)(hs:aI [a,b] X.env=[(false,eR a X.env),(false,eR b X.env)]:=by rfl)
  (hs1:aI [a,b] X.env=(false,eR a X.env)::aI [b] X.env:=by rfl) (hs2:aI [b] X.env=(false,eR b X.env)::aI [] X.env:=by rfl) (hs3:aI [b] X.env=[(false,eR b X.env)]:=by rfl):NZ X (.Tuple elts kt pt) (.Call (.Name "zip" p) [a,b] [] pos) (izt ta tb) :=
 mq (Mh hg hm (aa ha (aa hb aA hs2) hs1) hs hs3) fun _ _ _ ⟨σ3,H3,R3,sr,hr,t,k⟩=>by
  refine⟨σ3,H3,fun ds H1=>(match ds with | [x,y]=>ZK x y H1 R3 | _=>False),sr,hr,t,fun ds vs H3a Ha tka hra rs qa=>?_⟩
  cases rs with
  |nil=>exact qa.elim
  |cons r1 r2=>
   cases r2 with
   |nil=>exact qa.elim
   |cons r2 r3=>
    cases r3 with
    |cons _ _=>exact qa.elim
    |nil=>
     cases r1 with
     |ref x=>
      cases r2 with
      |str z=>
       (delta ZK at qa;dsimp only at qa)
       split at qa
       ·rename_i ds hx
        obtain⟨vs,ga,ra⟩:=hra x _ hx
        exact⟨x,z,rfl,qa.1,⟨vs,gB.of ga⟩,k _ _ _ _ _ tka hra Cw qa.2⟩
       ·exact qa.elim
      |_=>exact qa.elim
     |_=>exact qa.elim
end
section
variable{X:Cx}
theorem Lr{a b:cS}{ta tb:bL}{p pos pt:Pos}{elts:List cS}{kt:Nat}(hm:X.mg "zip" = none)(ha:b8 X a ta)(hb:b8 X b tb)(hg:Gl X "zip":=by rfl)(hs:aI [a,b] X.env=[(false,eR a X.env),(false,eR b X.env)]:=by rfl)
  (hs1:aI [a,b] X.env=(false,eR a X.env)::aI [b] X.env:=by rfl) (hs2:aI [b] X.env=(false,eR b X.env)::aI [] X.env:=by rfl) (hs3:aI [b] X.env=[(false,eR b X.env)]:=by rfl):NZ X (.Tuple elts kt pt) (.Call (.Name "zip" p) [a,b] [] pos) (itz ta tb) :=
 mq (Km hg hm (aa ha (aa hb aA hs2) hs1) hs hs3) fun _ _ _ ⟨σ3,H3,R3,sr,hr,t,k⟩=>by
  refine⟨σ3,H3,fun ds H1=>(match ds with | [x,y]=>ZS x y H1 R3 | _=>False),sr,hr,t,fun ds vs H3a Ha tka hra rs qa=>?_⟩
  cases rs with
  |nil=>exact qa.elim
  |cons r1 r2=>
   cases r2 with
   |nil=>exact qa.elim
   |cons r2 r3=>
    cases r3 with
    |cons _ _=>exact qa.elim
    |nil=>
     cases r1 with
     |str z=>
      cases r2 with
      |ref x=>
       (delta ZS at qa;dsimp only at qa)
       split at qa
       ·rename_i ds hx
        obtain⟨vs,ga,ra⟩:=hra x _ hx
        exact⟨x,z,rfl,qa.1,⟨vs,gB.of ga⟩,k _ _ _ _ _ tka hra Cy qa.2⟩
       ·exact qa.elim
      |_=>exact qa.elim
     |_=>exact qa.elim
end
end L3
namespace L3
open PySem PySem.Spec PyProof.Rows L2
theorem Cr(a:Array Nat):∀(n:Nat) (acc:Array Nat),(fF n a).foldl (·++·) acc=acc++(fF n a.toList).flatten.toArray
 |0,acc=>by simp
 |n+1,acc=>by
  rw[oC,kR,Cr a n,oC,qv]
  apply CU
  simp
section
variable{X:Cx}
theorem qT:gW X (kX .Mult) (cg X.K qp):=by
 intro pins s σ H x y v u Q I rx ry h
 obtain⟨dx,dy,H3,Q3,hr,rdx,rdy,t,k⟩:=h
 cases rdx with
 |str z=>
  cases rdy with
  |int n=>
   obtain⟨⟨h0,h1,hz⟩,q⟩:=t
   obtain⟨t1,rfl⟩:=rx
   obtain⟨t2,rfl⟩:=ry
   have fin:∀tk tk',EP X pins σ Q (.str (Bb z n.toNat) tk) { s with toks:=tk' }:=fun tk tk'=>⟨.str _,H,I.tok tk',⟨tk,rfl⟩,k _ _ _ _ TK.refl hr (.str _) q⟩
   have hml:z.length*n.toNat<=1000*1000:=A6 hz (by grind)
   refine PySem.P.mul_str (by
    have h2:¬n < -(2 ^ 63:Int):=by grind
    have h3:¬n≥2 ^ 63:=by grind
    rw[decide_eq_false h2,decide_eq_false h3];rfl) ?_ ?_ ?_
   ·intro hn _ hgt
    have:(1000:Int)<=(2 ^ 63-1) / n:=by
     refine Int.le_ediv_of_mul_le (by grind) ?_
     have:(1000:Int)*n<=1000*1000:=Int.mul_le_mul_of_nonneg_left h1 (by decide)
     grind
    grind
   ·intro _ _
    exact decide_eq_false (by rw[bJ];grind)
   ·split
    ·have e:n=0:=by grind
     subst e
     exact⟨by decide,fin _ _⟩
    ·split
     ·rename_i hc
      have e:Bb z n.toNat=z:=by
       unfold Bb
       rcases Bool.or_eq_true _ _ |>.mp hc with q | q
       ·have:n=1:=by simpa using q
        subst this
        show (⟨(fF 1 z.cps.toList).flatten.toArray⟩:Str)=z
        simp
       ·have q0:z.length=0:=by simpa using q
        have hn:z.cps=#[]:=jv q0
        rw[hn]
        have:(fF n.toNat (#[]:Array Nat).toList).flatten=[]:=by simp
        rw[this]
        cases z;simp only at hn;rw[hn]
      have f:=fin t1 s.toks
      rw[e] at f
      exact f
     ·have e:(⟨(fF n.toNat z.cps).foldl (·++·) #[]⟩:Str)=Bb z n.toNat:=by
       unfold Bb
       rw[Cr]
       congr 1
       apply CU
       simp
      rw[e]
      refine⟨?_,fin _ _⟩
      show ((fF n.toNat z.cps.toList).flatten.toArray).size<=bS
      rw[cw,List.length_flatten,C0,zt,d3,bJ]
      have:n.toNat*z.cps.size<=1000*1000:=A6 (by grind) hz
      grind
  |_=>exact t.elim
 |_=>exact t.elim
end
def adL(cs:List Str)(f:Str)(x:D)(H:aG)(Q:aX):Prop:=match x with
 | .ref a => (match H a with
  | some (.ins c fs) => c∈cs∧(match fs.lookup f with
   |some d=>Q d H
   |none=>False)
  |_=>False)
 |_=>False
theorem RJ{ds:List D}{i:Nat}{d:D}(h:(ig (pN 0 ds.length) ds)[i]?=some d):∃x,ds[i]?=some x/\d=.tup [.int i,x]:=by
 unfold ig at h
 rw[nv] at h
 cases hx:ds[i]? with
 |none=>rw[hx] at h;cases hr:(pN 0 ds.length)[i]? <;> rw[hr] at h <;> cases h
 |some x=>
  have hi:=(bb.mp hx).1
  rw[hx,vo hi] at h
  refine⟨x,rfl,?_⟩
  simp only[mv] at h
  exact (Option.some.inj h).symm
theorem zV(ds:List D):(ig (pN 0 ds.length) ds).length=ds.length:=by unfold ig;rw[tF,qH,Nat.min_self]
def ie:List D->aG->aX->Prop:=fun ds H Q=>match ds with
 |[.bl b]=>Q (.int (if b then 1 else 0)) H
 |[.int i]=>Q (.int i) H
 |_=>False
theorem Wv{b:Bool}{H:aG}{Q:aX}(q:Q (.int (if b then 1 else 0)) H):ie [.bl b] H Q:=q
structure XN where
 c:Str
 fs:List (Str×D):=[]
instance:Coe Str XN:=⟨fun c=>⟨c,[]⟩⟩
abbrev iT:=XN->aG->Prop
abbrev OJ:=List D->aG->aX->iT->Prop
def cbE(sp:OJ)(t:sG):iT->bL:=fun E σ H Q=>t σ H fun ds H1=>sp ds H1 Q E
def rz3(E:iT)(c:Str)(te:bL):cI:=fun _ σ H=>te σ H fun _ H1=>∃H2,aN H2 H1/\E ⟨c,[]⟩ H2
def ZL(E:iT)(c f:Str)(te:bL):cI:=fun _ σ H=>te σ H fun d H1=>∃H2,aN H2 H1/\E ⟨c,[(f,d)]⟩ H2
section
variable{H:aG}{Q:aX}{σ:cz}{t:sG}{sp:OJ}{E:iT}{c:Str}{te:bL}
theorem aaH(h:t σ H fun ds H1=>sp ds H1 Q E):cbE sp t E σ H Q:=h
theorem abS{D:dF}(h:te σ H fun _ H1=>∃H2,aN H2 H1/\E ⟨c,[]⟩ H2):rz3 E c te D σ H:=h
theorem adq{D:dF}{f:Str}(h:te σ H fun d H1=>∃H2,aN H2 H1/\E ⟨c,[(f,d)]⟩ H2):ZL E c f te D σ H:=h
end
def Hu(tbl:List (Str×Bool))(x:D)(H:aG)(Q:aX):Prop:=match x with
 | .ref a => (match H a with
  | some (.exc c _) => (match tbl.lookup c with
   |some b=>Q (.bl b) H
   |none=>False)
  |_=>False)
 |_=>False
def jk(tbl:List (Str×Bool))(ta:bL):bL:=fun σ H Q=>ta σ H fun x H1=>Hu tbl x H1 Q
def sxS(i:Nat)(t:iT->bL):iT->cI:=fun E D σ H=>t E σ H fun v H1=>D.nx (σ.set i (some v)) H1
def gone(i:Nat)(D:dF):dF:={ nx:=fun σ' H'=>D.nx (σ'.set i none) H',rt:=D.rt,bk:=fun σ' H'=>D.bk (σ'.set i none) H',ct:=fun σ' H'=>D.ct (σ'.set i none) H' }
def WM(t:iT->cI)(cs:List Str)(i:Nat)(th:cI):cI:=fun D σ H=>t (fun x H1=>x.c∈cs/\∀a,H1 a=none->th (gone i D) (σ.set i (some (.ref a))) (aP H1 a (.exc x.c x.fs))) D σ H
section
variable{H:aG}{Q:aX}{σ:cz}{a:aE}{c:Str}{b:Bool}{tbl:List (Str×Bool)}{ta:bL}
theorem Wm(h:ta σ H fun x H1=>Hu tbl x H1 Q):jk tbl ta σ H Q:=h
theorem YX(h:H a=some (.exc c fs))(hl:tbl.lookup c=some b)(q:Q (.bl b) H):Hu tbl (.ref a) H Q:=by
 (delta Hu;simp only[h,hl]);exact q
theorem aaa{D:dF}{t:iT->cI}{cs:List Str}{i:Nat}{th:cI}(h:t (fun x H1=>x.c∈cs/\∀a,H1 a=none->th (gone i D) (σ.set i (some (.ref a))) (aP H1 a (.exc x.c x.fs))) D σ H):WM t cs i th D σ H:=h
theorem YM{D:dF}{i:Nat}(h:D.nx (σ.set i none) H):(gone i D).nx σ H:=h
theorem aae{D:dF}{E:iT}{i:Nat}{t:iT->bL}(h:t E σ H fun v H1=>D.nx (σ.set i (some v)) H1):sxS i t E D σ H:=h
end
abbrev FsR(K:ae)(H:Hp)(fs:List (Str×D))(xs:List (Str×V)):Prop:=Paired (fun (p:Str×D) (q:Str×V)=>p.1=q.1/\Rep K H p.2 q.2) fs xs
section
variable{K:ae}{H:Hp}
theorem FsR.look{f:Str}{d:D}:∀ {fs:List (Str×D)} {xs:List (Str×V)},FsR K H fs xs->fs.lookup f=some d->∃v,xs.lookup f=some v/\Rep K H d v:=by
 intro fs xs h l
 induction h with
 |nil=>cases l
 |@cons p p' _ _ e t ih=>
  obtain⟨g,d'⟩:=p
  obtain⟨g',x⟩:=p'
  obtain⟨e,q⟩:=e
  have e':g=g':=e
  subst e'
  rw[fR] at l ⊢
  cases hb:f==g with
  |true=>rw[hb] at l;cases l;exact⟨x,rfl,q⟩
  |false=>rw[hb] at l;exact ih l
end
def Sx(h:eJ)(a:aE)(C:af)(dd:Option aE)(T:aE)(fl:af):Prop :=
 ∃oe vs oT ts,h.get? a=some oe/\(oe.cls=C/\oe.dict=dd)/\oe.data=.fields vs/\vs[1]?=some (.ref T)/\T≠a/\h.get? T=some oT/\oT.data=.fields ts/\ts[3]?=some fl
abbrev ZF(h:eJ)(a:aE)(C:af)(dd:Option aE)(T:aE):Prop:=Sx h a C dd T .none
def G8(P:b5)(w:cE):Sy:=fun outer H s E e s'=>∃a T C dd H',e=.ref a/\s'.os=s.os/\tI s'.gens/\Un (frs outer) [] H H' s.heap s'.heap/\mV P w H' s'.heap /\
 s.heap.get? a=none/\s.heap.get? T=none/\H' a=none/\H' T=none/\ZF s'.heap a (.ref C) dd T/\E (.ref C) dd H'
theorem Mw{P:b5}{w:cE}{H:Hp}{h:eJ}{a:aE}{o:HO}(x:mV P w H h)(e:H a=some o):∃u,h.get? a=some u:=by
 have y:=x a o e
 cases o with
 |lst xs=>obtain⟨_,_,_,_,e⟩:=y;exact⟨_,e⟩
 |tup xs=>obtain⟨_,_,_,_,e,_⟩:=y;exact⟨_,e⟩
 |dK kvs=>obtain⟨_,_,_,_,_,_,_,e,_⟩:=y;exact⟨_,e⟩
 |dT kvs=>obtain⟨_,_,_,_,_,_,_,e,_⟩:=y;exact⟨_,e⟩
 |set S n=>obtain⟨_,_,_,_,e,_⟩:=y;exact⟨_,e⟩
 |ins C dx fs=>obtain⟨_,_,_,e,_⟩:=y;exact⟨_,e⟩
 |own z=>obtain⟨_,e⟩:=y;exact⟨_,e⟩
 |xd fs=>obtain⟨_,⟨_,_,_,e,_⟩,_⟩:=y;exact⟨_,e⟩
 |pN lo hi=>obtain⟨_,_,_,e⟩:=y;exact⟨_,e⟩
 |frz ob u=>obtain⟨e,_⟩:=y;exact⟨_,e⟩
 |tbl ps=>exact⟨_,y⟩
 |met f z=>exact⟨_,y⟩
 |ext φ=>obtain⟨_,e,_⟩:=y;exact e
theorem dY{P:b5}{w:cE}{H:Hp}{h:eJ}{a:aE}(x:mV P w H h)(e:h.get? a=none):H a=none:=by
 cases q:H a with
 |none=>rfl
 |some o=>obtain⟨u,z⟩:=Mw x q;rw[e] at z;cases z
structure V7(fs:List aE)(a T:aE)(h h':eJ):Prop where
 keep:∀b o,b≠a->b≠T->b∉fs->h.get? b=some o->h'.get? b=some o
 slot:∀b o,b∈fs->h.get? b=some o->∃sl,h'.get? b=some { o with slots:=sl }
section
variable{M:C5}{A:dS}{E:af->ah->Prop}{s:ah}{env:Env}{outer:List Env}{L a T t:aE}{C:af}{dd:Option aE}{fl:af}{base:eJ}{Q:Unit->ah->Prop}
theorem Ig{oe:Obj}{f:Array af->Array af}{vs:Array af}(hd:oe.data=.fields vs):(iF f oe).cls=oe.cls/\(iF f oe).dict=oe.dict/\(iF f oe).data=.fields (f vs):=by
 obtain⟨c,d,x,sl⟩:=oe
 cases hd
 exact⟨rfl,rfl,rfl⟩
theorem DQ{oe:Obj}{vs:Array af}{head:af}{nx:Bool}(hfr:A.frames=some (env::outer))(hf:env.frame=some L)(hl:s.heap.FunFrames base (env::outer))(he:s.heap.get? a=some oe)(hd:oe.data=.fields vs)(hz:1<vs.size)
  (h:∀h' T',V7 (frs (env::outer)) a a s.heap h'->Sx h' a oe.cls oe.dict T' (ky L)->s.heap.get? T'=none->Q () { s with heap:=h' }) :
  bq M A (do let x ←frameOf env;let pl ←entryPlaceOf L nx;let y ←BM head x .none (ky L) .none pl;setField (.ref a) 1 y) Q E s:=by
 have naf:a∉frs (env::outer):=fun hm=>by
  obtain⟨_,o,ho,hnf⟩:=hl.mem hm
  rw[he] at ho;cases ho;exact hnf vs hd
 refine ag (wpAny_frameOf_fun hfr hl hf fun g1 sl1=>ag (wpAny_entryPlaceOf fun pl hpl=>?_))
 unfold BM newFields
 refine ag (w8 ?_ (hpl.sizeOk5 _ _ _ _ _))
 have e1:g1.get? a=some oe:=(sl1.2.1 a naf).trans he
 generalize hts:([head,.ref L,.none,ky L,.none]++(if pl.isEmpty then fF 6 iN else pl)).toArray=ts
 have h3:ts[3]?=some (ky L):=by rw[←hts];rfl
 have e2:=av (h:=g1) { cls:=.type "traceback",dict:=none,data:=.fields ts } e1
 refine HC e2 hd hz (h _ g1.objs.size ⟨fun b o n1 _ n3 q=>?_,fun b o hb q=>?_⟩ ?_ ?_)
 ·refine (eo _ _ (fm n1)).trans (av _ ((sl1.2.1 b n3).trans q))
 ·obtain⟨sl,z⟩:=sl1.2.2 b o q
  exact⟨sl,(eo _ _ fun w=>naf (by rw[w];exact hb)).trans (av _ z)⟩
 ·obtain⟨c1,c2,c3⟩:=Ig (f:=(·.setIfInBounds 1 (eK g1.objs.size))) hd
  have nT:a≠g1.objs.size:=df (bp e1)
  refine⟨_,_,_,ts,nz _ e2 (AR c3),⟨c1,c2⟩,c3,by simp[hz],fm nT,(eo _ _ nT).trans (bP g1 rfl),rfl,h3⟩
 ·cases q:s.heap.get? g1.objs.size with
  |none=>rfl
  |some o=>
   obtain⟨sl,z⟩:=sl1.2.2 _ o q
   exact absurd (bp z) (nk _)
theorem Ih{v:af}{h:eJ}(x:Sx h a C dd T fl):Sx (h.update T (iF (·.setIfInBounds 3 v))) a C dd T v:=by
 obtain⟨oe,vs,oT,ts,he,hc,hd,h1,hTa,hT,hdT,h3⟩:=x
 have z3:=(fS.mp h3).1
 obtain⟨_,_,c3⟩:=Ig (f:=(·.setIfInBounds 3 v)) hdT
 exact⟨oe,vs,_,_,(eo _ _ hTa).trans he,hc,hd,h1,hTa,nz _ hT (AR c3),c3,by simp[z3]⟩
theorem Jf{h:eJ}(x:Sx h a C dd T fl)(hl:h.FunFrames base (env::outer)):∀b∈frs (env::outer),b≠T:=fun b hb z=>by
 obtain⟨oe,vs,oT,ts,he,hc,hd,h1,hTa,hT,hdT,h3⟩:=x
 obtain⟨_,o',ho',hnf⟩:=hl.mem hb
 rw[z,hT] at ho';cases ho'
 exact hnf _ hdT
theorem Jm{h:eJ}{v:af}(x:Sx h a C dd T fl)(hl:h.FunFrames base (env::outer)):V7 (frs (env::outer)) a T h (h.update T (iF (·.setIfInBounds 3 v))) :=
 ⟨fun b o _ n _ q=>(eo _ _ (fm n)).trans q,fun b o hb q=>⟨o.slots,(eo _ _ (fm (Jf x hl b hb))).trans q⟩⟩
theorem Be(x:Sx s.heap a C dd T fl)(h:ZF (s.heap.update T (iF (·.setIfInBounds 3 .none))) a C dd T->Q () { s with heap:=s.heap.update T (iF (·.setIfInBounds 3 .none)) }):bq M A (setFlight (.ref a) none) Q E s:=by
 have x':=Ih (v:=.none) x
 obtain⟨oe,vs,oT,ts,he,hc,hd,h1,hTa,hT,hdT,h3⟩:=x
 exact wpAny_setFlight_none he hd h1 hT hdT (fS.mp h3).1 (h x')
theorem Ur(hfr:A.frames=some (env::outer))(hf:env.frame=some L)(hl:s.heap.FunFrames base (env::outer))(x:Sx s.heap a C dd T fl)
  (h:∀h' T' fl',V7 (frs (env::outer)) a T s.heap h'->Sx h' a C dd T' fl'->(s.heap.get? T'=none\/T'=T)->Q () { s with heap:=h' }):bq M A (BG (.ref a) env) Q E s:=by
 have x':=Ih (v:=.none) x
 have lf:=Jm (v:=.none) x hl
 have nfr:=Jf x hl
 obtain⟨oe,vs,oT,ts,he,hc,hd,h1,hTa,hT,hdT,h3⟩:=id x
 have z3:=(fS.mp h3).1
 unfold BG
 simp only[hf]
 refine ag (kG he hd h1 ?_)
 rw[if_pos (by simp)]
 refine ag (kG hT hdT h3 ?_)
 by_cases hL:(fl==ky L)=true
 ·rw[if_pos hL]
  exact bg (h s.heap T fl ⟨fun b o _ _ _ q=>q,fun b o _ q=>⟨o.slots,q⟩⟩ x (.inr rfl))
 ·rw[if_neg hL]
  refine ag (HC hT hdT z3 ?_)
  have ot:∀b,b≠T->(s.heap.update T (iF (·.setIfInBounds 3 iN))).get? b=s.heap.get? b:=fun b n=>eo _ _ (fm n)
  have hl1:Heap.FunFrames (s.heap.update T (iF (·.setIfInBounds 3 iN))) base (env::outer):=hl.of_keeps fun b o hb hnf=>⟨o,(ot b fun z=>by rw[z,hT] at hb;cases hb;exact hnf _ hdT).trans hb,rfl⟩
  obtain⟨oe1,vs1,_,_,he1,hc1,hd1,h11,_,hT1,_⟩:=x'
  refine DQ (s:={ s with heap:=s.heap.update T (iF (·.setIfInBounds 3 iN)) }) hfr hf hl1 he1 hd1 (fS.mp h11).1 fun h' T' l2 x2 n2=>?_
  rw[hc1.1,hc1.2] at x2
  refine h h' T' _ ⟨fun b o n1 n2 n3 q=>l2.keep b o n1 n1 n3 (lf.keep b o n1 n2 n3 q),fun b o hb q=>l2.slot b o hb ((ot b (nfr b hb)).trans q)⟩ x2 ?_
  by_cases z:T'=T
  ·exact .inr z
  ·exact .inl ((ot T' z).symm.trans n2)
theorem zA(hfr:A.frames=some (env::outer))(hf:env.frame=some L)(hl:s.heap.FunFrames base (env::outer))(x:Sx s.heap a C dd T fl)
  (h:∀h' T',V7 (frs (env::outer)) a T s.heap h'->ZF h' a C dd T'->(s.heap.get? T'=none\/T'=T)->Q () { s with heap:=h' }):bq M A (BG (.ref a) env) (fun _ s2=>bq M A (setFlight (.ref a) none) Q E s2) E s:=by
 refine Ur hfr hf hl x fun h1 T1 fl1 l1 x1 n1=>Be (s:={ s with heap:=h1 }) x1 fun x2=>h _ T1 ?_ x2 n1
 have tf:∀b∈frs (env::outer),b≠T1:=fun b hb z=>by
  obtain⟨_,o',ho',hnf⟩:=hl.mem hb
  obtain⟨sl,q⟩:=l1.slot b o' hb ho'
  obtain⟨_,_,oT,ts,_,_,_,_,_,hT,hdT,_⟩:=x1
  rw[z,hT] at q;cases q
  exact hnf _ hdT
 refine⟨fun b o m1 m2 m3 q=>?_,fun b o hb q=>?_⟩
 ·refine (eo _ _ (fm fun z=>?_)).trans (l1.keep b o m1 m2 m3 q)
  rcases n1 with n1 | n1
  ·rw[z,n1] at q;cases q
  ·exact m2 (z.trans n1)
 ·obtain⟨sl,z⟩:=l1.slot b o hb q
  exact⟨sl,(eo _ _ (fm (tf b hb))).trans z⟩
theorem Ed{sl:Array (Option af)}(hfr:A.frames=some (env::outer))(hf:env.frame=some L)(hl:s.heap.FunFrames base (env::outer))(he:s.heap.get? a=some { cls:=C,dict:=dd,data:=.fields #[.ref t,.none,.none,.none,.bool false,.none],slots:=sl })
  (h:∀h' T',V7 (frs (env::outer)) a a s.heap h'->ZF h' a C dd T'->s.heap.get? T'=none->Q () { s with heap:=h' }):bq M A (F0 env (.ref a)) Q E s:=by
 unfold F0 BG
 simp only[hf]
 refine ag (ag (kG he rfl (x:=.none) rfl ?_))
 rw[if_neg (by decide)]
 refine DQ hfr hf hl he rfl (by show 1<6;decide) fun h1 T1 l1 x1 n1=>Be (s:={ s with heap:=h1 }) x1 fun x2=>h _ T1 ⟨fun b o m1 m2 m3 q=>?_,fun b o hb q=>?_⟩ x2 n1
 ·refine (eo _ _ (fm fun z=>?_)).trans (l1.keep b o m1 m2 m3 q)
  rw[z,n1] at q;cases q
 ·obtain⟨sl,z⟩:=l1.slot b o hb q
  exact⟨sl,(eo _ _ fun y=>by rw[←y,n1] at q;cases q).trans z⟩
end
theorem Oh{X:Cx}{pins:List (aE×Obj)}{σ:St}{H:Hp}{s:ah}{h':eJ}{a T T' C:aE}{dd:Option aE}{E:XK}(I:L2.Inv X pins σ H s)(hex:X.ex=[])(hst:X.stack=X.env::X.outer)(hfrm:X.env.frame=some X.env.locals)
  (na:X.s₀.heap.get? a=none) (nT:X.s₀.heap.get? T'=none) (n0:X.s₀.heap.get? T=none) (ua:H a=none) (uT:H T'=none) (u0:H T=none)
  (k:V7 (frs (X.env::X.outer)) a T s.heap h')
  (x:ZF h' a (.ref C) dd T') (hE:E (.ref C) dd H):G8 X.prog X.w X.outer X.H₀ X.s₀ E (.ref a) { s with heap:=h' }:=by
 have k1:=k.keep
 have k2:=k.slot
 have fr1:∀b,b∈frs (X.env::X.outer)->b=X.env.locals\/b∈X.fs:=fun b hb=>by
  unfold frs at hb;rw[ko,hfrm] at hb
  exact bE.mp hb
 have fr2:∀b,b∈X.fs->b∈frs (X.env::X.outer):=fun b hb=>by
  unfold frs;rw[ko,hfrm];exact dQ _ hb
 have neL:∀b o,X.s₀.heap.get? b=some o->b≠X.env.locals:=fun b o e=>df (b9 (bp e) I.ok.above)
 have nea:∀b o,X.s₀.heap.get? b=some o->b≠a/\b≠T:=fun b o e=>⟨fun z=>(by rw[z,na] at e;cases e),fun z=>(by rw[z,n0] at e;cases e)⟩
 have nex:∀b:aE,b∉X.ex:=fun b hb=>by rw[hex] at hb;cases hb
 have stf:∀b∈frs (X.env::X.outer),H b=none:=fun b hb=>I.vA b (by rw[hst];exact hb)
 refine⟨a,T',C,dd,H,rfl,I.os,I.bare,⟨fun b o e n hb _=>?_,fun b o e n hb _=>?_,fun b o e n _=>I.base.free b o e n (nex b),fun b o e _=>?_,I.base.tups,I.base.frzs,I.base.tbls⟩,fun b u e=>?_,na,nT,ua,uT,x,hE⟩
 ·refine k1 b o (nea b o e).1 (nea b o e).2 (fun z=>?_) (I.base.keep b o e n hb (nex b))
  rcases fr1 b z with z | z
  ·exact neL b o e z
  ·exact hb z
 ·obtain⟨sl,e1⟩:=I.base.slot b o e n hb (nex b)
  obtain⟨sl',e2⟩:=k2 b _ (fr2 b hb) e1
  exact⟨sl',e2⟩
 ·obtain⟨o',e1⟩:=I.base.there b o e (nex b)
  by_cases hb:b∈frs (X.env::X.outer)
  ·obtain⟨sl,e2⟩:=k2 b o' hb e1
   exact⟨_,e2⟩
  ·exact⟨o',k1 b o' (nea b o e).1 (nea b o e).2 hb e1⟩
 ·refine (I.hok b u e).stay (fun c v hc q=>k1 c v ?_ ?_ ?_ q) (fun _ q=>q) fun _ _ q=>q
  ·rintro rfl
   rcases hc with rfl | hc
   ·rw[ua] at e;cases e
   ·rw[ua] at hc;cases hc
  ·rintro rfl
   rcases hc with rfl | hc
   ·rw[u0] at e;cases e
   ·rw[u0] at hc;cases hc
  ·intro hm
   have:=stf c hm
   rcases hc with rfl | hc
   ·rw[this] at e;cases e
   ·rw[this] at hc;cases hc
def JM(X:Cx)(E:XK):Prop:=∀(pins:List (aE×Obj)) (σ:St) (H H1:Hp) (s s1:ah) (e C t:aE) (dd:Option aE) (sl:Array (Option af)),L2.Inv X pins σ H1 s1->s1.heap.get? e=none->L2.Inv X pins σ H s->H e=none ->
 s.heap.get? e=some { cls:=.ref C,dict:=dd,data:=.fields #[.ref t,.none,.none,.none,.bool false,.none],slots:=sl }->E (.ref C) dd H->X.xe (.ref e) s
section
variable{P:b5}{w:cE}{K:ae}{mg:Str->Option af}{base:eJ}{N:List Str}{qual:Str}{scope:lP}{f:aE}{cd:af}{A:dS}{outer:List Env}{s0:ah}{H0:Hp}{E:XK}
theorem iM:JM (jn (G8 P w) P w K mg base N qual scope f cd A outer s0 H0 E) E:=by
 intro pins σ H H1 s s1 e C t dd sl I1 ne1 I ue he hE
 have ne:s0.heap.get? e=none:=by
  cases z:s0.heap.get? e with
  |none=>rfl
  |some o=>obtain⟨o',r⟩:=I1.base.there e o z (fun z=>nomatch z);rw[ne1] at r;cases r
 have up:∀b o,s0.heap.get? b=some o->∃o',s.heap.get? b=some o':=fun b o q=>I.base.there b o q (fun z=>nomatch z)
 have dn:∀b,s.heap.get? b=none->s0.heap.get? b=none:=fun b q=>by
  cases z:s0.heap.get? b with
  |none=>rfl
  |some o=>obtain⟨o',r⟩:=up b o z;rw[q] at r;cases r
 refine Ed I.ok.frames rfl I.stack he fun h'' T' k x nT=>?_
 exact Oh (T:=e) I rfl rfl rfl ne (dn _ nT) ne ue (dY I.hok nT) ue k x hE
theorem wk:Passes (G8 P w) (jn (G8 P w) P w K mg base N qual scope f cd A outer s0 H0 E) E:=by
 rintro pins σ H s e s' I ⟨a,T,C,dd,H',rfl,os,bare,un,hok,na,nT,ua,uT,x,hE⟩
 have I':L2.Inv (jn (G8 P w) P w K mg base N qual scope f cd A outer s0 H0 E) pins σ H' s':=I.call' os un hok bare fun b z=>nomatch z
 have up:∀b o,s0.heap.get? b=some o->∃o',s.heap.get? b=some o':=fun b o q=>I.base.there b o q (fun z=>nomatch z)
 have dn:∀b,s.heap.get? b=none->s0.heap.get? b=none:=fun b q=>by
  cases z:s0.heap.get? b with
  |none=>rfl
  |some o=>obtain⟨o',r⟩:=up b o z;rw[q] at r;cases r
 have up':∀b o,s0.heap.get? b=some o->∃o',s'.heap.get? b=some o':=fun b o q=>I'.base.there b o q (fun z=>nomatch z)
 show bq _ _ (F0 _ (.ref a)) _ _ _
 unfold F0
 refine ag (zA (s:=s') I'.ok.frames rfl I'.stack x fun h'' T' k x' nT'=>?_)
 have nT2:s0.heap.get? T'=none/\H' T'=none:=by
  rcases nT' with z | z
  ·refine⟨?_,dY hok z⟩
   cases q:s0.heap.get? T' with
   |none=>rfl
   |some o=>obtain⟨o',r⟩:=up' _ o q;rw[z] at r;cases r
  ·subst z;exact⟨dn _ nT,uT⟩
 exact Oh (T:=T) I' rfl rfl rfl (dn a na) nT2.1 (dn T nT) ua nT2.2 uT k x' hE
end
theorem Jw{fs:List aE}{H H':Hp}{h h1 h2:eJ}{a T:aE}(u:Un fs [] H H' h h1)(na:h.get? a=none)(nT:h.get? T=none)
  (k:V7 fs a T h1 h2):Un fs [] H H' h h2:=by
 obtain⟨k1,k2⟩:=k
 have ne:∀b o,h.get? b=some o->b≠a/\b≠T:=fun b o e=>⟨fun z=>(by rw[z,na] at e;cases e),fun z=>(by rw[z,nT] at e;cases e)⟩
 refine⟨fun b o e n hb hx=>k1 b o (ne b o e).1 (ne b o e).2 hb (u.keep b o e n hb hx),fun b o e n hb hx=>?_,u.free,fun b o e hx=>?_,u.tups,u.frzs,u.tbls⟩
 ·obtain⟨sl,e1⟩:=u.slot b o e n hb hx
  obtain⟨sl',e2⟩:=k2 b _ hb e1
  exact⟨sl',e2⟩
 ·obtain⟨o',e1⟩:=u.there b o e hx
  by_cases hb:b∈fs
  ·obtain⟨sl,e2⟩:=k2 b o' hb e1
   exact⟨_,e2⟩
  ·exact⟨o',k1 b o' (ne b o e).1 (ne b o e).2 hb e1⟩
theorem Cg{P:b5}{w:cE}{fs:List aE}{H:Hp}{h1 h2:eJ}{a T:aE}(x:mV P w H h1)(ua:H a=none)(uT:H T=none)(uf:∀b∈fs,H b=none)
  (k:V7 fs a T h1 h2):mV P w H h2:=fun b u e=>by
 have nn:∀c,H c=none->c=b\/H c=some (.own b)->False:=fun c z hc=>by
  rcases hc with rfl | hc
  ·rw[z] at e;cases e
  ·rw[z] at hc;cases hc
 exact (x b u e).stay (fun c v hc q=>k.keep c v (fun z=>nn c (by rw[z];exact ua) hc) (fun z=>nn c (by rw[z];exact uT) hc) (fun z=>nn c (uf c z) hc) q) (fun _ q=>q) fun _ _ q=>q
def PEX(X:Cx)(e:cS)(t:XK->TE):Prop:=∀(pins:List (aE×Obj)) (s:ah) (σ:St) (H:Hp) (Q:VK) (E:XK),L2.Inv X pins σ H s->t E σ H Q ->
 bq (cf X.prog X.w) X.A (eR e X.env) (EP X pins σ Q) (fun x s'=>∃H1 s1,L2.Inv X pins σ H1 s1/\G8 X.prog X.w X.stack H1 s1 E x s') s
def KX(K:ae)(H:Hp)(E3:iT)(E:XK):Prop:=∀x C dd H3' H',TK H H'->HR K H3' H'->br K ba x.c=some (some (.ref C))->XF K H' dd x.fs->E3 x H3'->E (.ref C) dd H'
theorem KX.mono{K:ae}{H H1:Hp}{E3:iT}{E:XK}(k:KX K H E3 E)(t:TK H H1):KX K H1 E3 E:=fun c C dd H3 H' t'=>k c C dd H3 H' (t.trans t')
inductive Zv(K:ae)(t:iT->bL)(E:XK)(σ:St)(H:Hp)(Q:VK):Prop
 |mk (σ3:cz) (H3:aG) (Q3:aX) (E3:iT) (_:SR K H σ3 σ) (_:HR K H3 H) (_:t E3 σ3 H3 Q3) (_:KE K H Q3 Q) (_:KX K H E3 E)
def W4(X:Cx)(e:cS)(t:iT->bL):Prop:=PEX X e (Zv X.K t)
inductive Gf(K:ae)(sp:OJ)(vs:List V)(H:Hp)(Q:VK)(E:XK):Prop
 |mk (ds:List D) (H3:aG) (Q3:aX) (E3:iT) (_:HR K H3 H) (_:bI K H ds vs) (_:sp ds H3 Q3 E3) (_:KE K H Q3 Q) (_:KX K H E3 E)
structure Z1(P:b5)(w:cE)(K:ae)(mg:Str->Option af)(base:eJ)(k:Nat)(x:Str)(ps:List Str)(sp:OJ):Prop where
 ex:∃f fd,pM P w K mg base (G8 P w) k f fd ps (Gf K sp)/\mg x=some (.ref f)/\gp K (.ref f)=true/\Binds K fd ps []
section
variable{X:Cx}{k:Nat}{x c:Str}{f:aE}{fd:gc}{ps:List Str}{sp:OJ}{p pos:Pos}{e:cS}{es:List cS}{t:sG}
theorem Ut{sp:Sp}{pins:List (aE×Obj)}{σ:St}{H:Hp}{s:ah}{Q:VK}{E:XK}{us:List af}{vs:List V}(F:pM X.prog X.w X.K X.mg X.base (G8 X.prog X.w) k f fd ps sp)(hr:cW k X.A)(hb:Binds X.K fd ps [])
  (I:L2.Inv X pins σ H s) (r:Vals vs us) (h:sp vs H Q E):bq (cf X.prog X.w) X.A (call (.ref f) us) (EP X pins σ Q) (fun x s'=>∃H1 s1,L2.Inv X pins σ H1 s1/\G8 X.prog X.w X.stack H1 s1 E x s') s:=by
 have hl:(us++[]).length=ps.length:=by rw[fA,←r.length];exact F.len _ _ _ _ h
 have hb':=hb s us I.lR hl
 rw[fA] at hb'
 refine nI (oo (F.run X.A X.stack s H ⟨us,[]⟩ us vs Q E hr I.env0 hb' r h) fun r s' hq=>?_)
 cases r with
 |error e=>exact⟨H,s,I,hq⟩
 |ok fl=>
  cases fl with
  |ret u=>exact I.after hq
  |next=>exact e6 hq
  |brk=>exact e6 hq
  |cont=>exact e6 hq
theorem v8(F:Z1 X.prog X.w X.K X.mg X.base k x ps sp)(hr:cW k X.A)(ha:JS X.yK (e::es) t)
  (hg:Gl X x:=by rfl) (hdb:(x==("__debug__" : Str))=false:=by decide) (he:aI (e::es) X.env=(false,eR e X.env)::aI es X.env:=by rfl) (hpl:(i3 pos (aI es X.env)).any (·.1)=false:=by rfl) :
  W4 X (.Call (.Name x p) (e::es) [] pos) (cbE sp t):=by
 obtain⟨f,fd,F,hm,hk,hb⟩:=F.ex
 intro pins s σ H Q E I ⟨σ3,H3,Q3,E3,sr,hr3,q,kk,kx⟩
 refine gS (gC I hg hm ?_ hdb)
 refine pw (h₀:=X.base) I.ok.mod.kin hk (eB (ha pos pins s σ H (fun vs H1=>Gf X.K sp vs H1 Q E) (I.wish _) ⟨σ3,H3,_,sr,hr3,q,fun ds vs H3a Ha tka hra rs qa=>⟨ds,H3a,Q3,E3,hra,rs,qa,kk.mono tka,kx.mono tka⟩⟩) (fun us s1 ⟨vs,H1,I1,r,q1⟩=>⟨I1.gP.lR,?_⟩) fun _ _ z=>e6 z) he hpl
 exact Ut F hr hb I1.gP r q1
theorem Iz{t:iT->bL}{E:XK}{E3:iT}(h:W4 X e t)(hp:Passes (G8 X.prog X.w) X E)(kx:KX X.K X.H₀ E3 E):b8 X e (t E3):=fun pins s σ H Q I zz=>zz.ex fun σ3 H3 Q3 sr hr3 q kk=>
 eB (h pins s σ H Q E I ⟨σ3,H3,Q3,E3,sr,hr3,q,kk,kx.mono ⟨I.base.tups,I.base.frzs⟩⟩) (fun _ _ z=>z) fun x s' ⟨H1,s1,I1,z⟩=>hp pins σ H1 s1 x s' I1 z
end
def QK(K:ae)(c:Str):Prop:=∃C,br K ba c=some (some (.ref C))/\Co K C [.type "ValueError",.type "Exception",.type "BaseException",.type "object"] "ValueError.__new__" = true
theorem TY{K:ae}{mg:Str->Option af}{h:eJ}(M:Mod K mg h)(p:b5):∃l mb,PySem.W.TopRead p l mg mb h:=by
 obtain⟨mb,h1,h2⟩:=M.blt
 obtain⟨o,es,ep,_,_,hk,hf⟩:=M.glob
 refine⟨es.toList.map DictEntry.name,mb,M.glob,h1,M.nolimit,h2,fun x _ hx _ _ _=>?_⟩
 rw[←hf x]
 refine zw.mpr (Array.find?_eq_none.mpr fun e he hs=>hx (cn.mpr ⟨e,AW.mpr he,?_⟩))
 obtain⟨n,t,k⟩:=hk e he
 rw[k] at hs
 unfold DictEntry.name
 rw[k]
 exact beq_iff_eq.mp hs
theorem Hi{X:Cx}{E:XK}{pins:List (aE×Obj)}{σ:St}{H:Hp}{s:ah}{h':eJ}{e C:aE}{args:List af}(hr:JM X E)(I:L2.Inv X pins σ H s)(hx:Heap.MadeExcOf s.heap h' e (.ref C) args)(hE:E (.ref C) none H):X.xe (.ref e) { s with heap:=h' }:=by
 obtain⟨t,he,_⟩:=hx.there
 have I':L2.Inv X pins σ H { s with heap:=h' }:=I.kept (t':=s.toks) hx.keeps
 exact hr pins σ H H _ s e C t none _ I hx.new I' (dY I.hok hx.new) he hE
section
variable{X:Cx}{c:Str}{e:cS}{te:bL}{np cpos pos:Pos}{E:XK}{E3:iT}
theorem Fj(hr:JM X E)(kx:KX X.K X.H₀ E3 E)(hk:QK X.K c)(hc:X.calm=true)(he:b8 X e te)(hg:Gl X c:=by rfl)(hdb:(c==("__debug__" : Str))=false:=by decide)
  (hs:aI [e] X.env=(false,eR e X.env)::aI [] X.env:=by rfl):BW X (.Raise (some (.Call (.Name c np) [e] [] cpos)) none pos) (rz3 E3 c te):=by
 obtain⟨C,hC,hx⟩:=hk
 intro pins s σ H D I ⟨σ3,H3,D3,sr,hr3,q,kk⟩
 have hm:=iL I.mod.kin I.mod.glob hC
 obtain⟨bm,N,nm,qn,bs,hd,sn,sub,ab,col,dd,k0,k1,k2,k3,k5,mN,hCo,hN,hni,T⟩:=((TY I.mod X.prog).elim fun _ t=>t.elim fun _ T=>(PySem.W.own_of_in I.mod.kin T hC hx).obj)
 have FB:=og
 refine wpAny_Raise_call_subT (C:=C) (nm:=nm) (q:=qn) (N:=N) (bs:=bs) (bm:=bm) (hdct:=hd) (sn:=sn) (sub:=sub) (ab:=ab) (col:=col) (dd:=dd) (k0:=k0) (k1:=k1) (k2:=k2) (k3:=k3) (k5:=k5)
  FB (mN:=mN) (T.hasType FB.hasBase) (I.ok.hd hc) (by rw[hs];rfl) hni (gC I hg hm ⟨rfl,?_⟩ hdb)
 have ha:JS X [e] (aq te aK):=aa he aA hs
 have h1:=ha cpos pins s σ H (fun vs H1=>vs.length<=1/\E (.ref C) none H1) I ⟨σ3,H3,fun ds H3'=>(match ds with | [_]=>∃H2,aN H2 H3'/\E3 ⟨c,[]⟩ H2 | _=>False),sr,hr3,q,fun ds vs H3a Ha tka hra rs qa=>by
  cases rs with
  |nil=>exact qa.elim
  |cons r1 r2=>
   cases r2 with
   |cons _ _=>exact qa.elim
   |nil=>
    obtain⟨H2,sb,q2⟩:=qa
    exact⟨aT _,kx ⟨c,[]⟩ C none H2 Ha (TK.trans ⟨I.base.tups,I.base.frzs⟩ tka) (hra.sub sb) hC (.inl rfl) q2⟩⟩
 rw[hs] at h1 ⊢
 refine sk (eB h1 (fun vs s2 ⟨ws,H1,I1,r,l1,hE⟩=>⟨rfl,?_,I1.bk _ _ hCo,hN.keeps I1.bk,T.keeps I1.bk,fun h' x hx=>Hi hr I1 hx hE⟩) fun _ _ y=>y)
 have:=r.length
 show vs.length<=bS
 rw[←this];exact eh l1 (by decide)
end
section
variable{X:Cx}{st:gg}{sts:List gg}{e:cS}{t:cI}{te:bL}{tt:xP}
theorem qe(h:BW X.yK st t):BW X st t:=fun pins s σ H D I hw=>eB (h pins s σ H D (I.wish _) hw) (fun _ _ q=>q.gP) fun _ _ z=>e6 z
theorem tK(h:KZ X.yK e tt):KZ X e tt:=PT.yK h
end
theorem acZ{P:b5}{w:cE}{K:ae}{mg:Str->Option af}{base:eJ}{x qual:Str}{st:gg}{f:aE}{fd:gc}{N ps:List Str}{k:Nat}{sp:OJ}{t:iT->cI}(F:Ca K x qual st f fd)(S:aR N ps (az st))
  (len:∀ds H Q E,sp ds H Q E->ds.length=ps.length)
  (hbody:∀ (cdv:af) (A:dS) (outer:List Env) (s:ah) (H:Hp) (E:XK) (E3:iT),cW k (A.deeper (nt qual (az st) s.heap.objs.size f cdv))→KX K H E3 E →
   nF (jn (G8 P w) P w K mg base N qual (az st) f cdv A outer s H E) (aQ st) (t E3))
  (rd:∀ds H3 Q3 E3,sp ds H3 Q3 E3->t E3 (cY Q3) (aM N ds) H3):pM P w K mg base (G8 P w) (k+1) f fd ps (Gf K sp):=by
 obtain⟨oc,od,kV,doc,pm,an,cdv,ct,osl,rfl,lk,hcd⟩:=F.ex
 refine QF lk hcd S (fun vs H Q E h=>?_) fun A outer s H vs Q E hr h=>?_
 ·obtain⟨ds,H3,Q3,E3,_,rs,q,_⟩:=h
  rw[←rs.length]
  exact len ds H3 Q3 E3 q
 ·obtain⟨ds,H3,Q3,E3,hr3,rs,q,kk,kx⟩:=h
  refine⟨_,hbody cdv A outer s H E E3 hr kx,aM N ds,H3,_,nQ rs,hr3,rd ds H3 Q3 E3 q,⟨fun σ3 σ H3' H' tk sr hr' z=>?_,fun d v H3' H' tk hr' rd z=>?_,fun _ _ _ _ _ _ _ z=>z.elim,fun _ _ _ _ _ _ _ z=>z.elim⟩⟩
  ·obtain⟨H'',sub,q'⟩:=z
   exact kk _ _ _ _ tk (hr'.sub sub) .non q'
  ·obtain⟨H'',sub,q'⟩:=z
   exact kk _ _ _ _ tk (hr'.sub sub) rd q'
theorem aam{P:b5}{w:cE}{K:ae}{mg:Str->Option af}{base:eJ}{x qual:Str}{st:gg}{f:aE}{fd:gc}{N ps:List Str}{k:Nat}{sp:OJ}{t:iT->cI}(F:Ca K x qual st f fd)(S:aR N ps (az st))
  (hm:mg x=some (.ref f)) (hb:Binds K fd ps []) (len:∀ds H Q E,sp ds H Q E->ds.length=ps.length)
  (hbody:∀ (cdv:af) (A:dS) (outer:List Env) (s:ah) (H:Hp) (E:XK) (E3:iT),cW k (A.deeper (nt qual (az st) s.heap.objs.size f cdv))→KX K H E3 E →
   nF (jn (G8 P w) P w K mg base N qual (az st) f cdv A outer s H E) (aQ st) (t E3))
  (rd:∀ds H3 Q3 E3,sp ds H3 Q3 E3->t E3 (cY Q3) (aM N ds) H3):Z1 P w K mg base (k+1) x ps sp:=⟨f,fd,acZ F S len hbody rd,hm,F.kp,hb⟩
def yd(K:ae)(c cx:Str):Prop:=∃C Cx,br K ba c=some (some (.ref C))/\br K ba cx=some (some (.ref Cx))/\dP K C (.ref Cx)=some true/\dP K Cx (.type "BaseException")=some true/\qA K (.ref Cx)=some (.type "type")
theorem Fe{K:ae}{M:C5}{A:dS}{E:af->ah->Prop}{s:ah}{a C Cx:aE}{o:Obj}{Q:Bool->ah->Prop}(X:K.In s.heap)(he:s.heap.get? a=some o)(hc:o.cls=.ref C)(h1:dP K C (.ref Cx)=some true)
  (h2:dP K Cx (.type "BaseException")=some true) (h3:qA K (.ref Cx)=some (.type "type")) (hq:Q true s):bq M A (excMatches (.ref a) (.ref Cx)) Q E s:=by
 have L1:=ku (M:=M) X h1
 have L2':=ku (M:=M) X h2
 have L3':kH M s.heap (CL (.ref Cx)) (.type "type"):=PySem.W.looks_typeIn X h3
 have L4:kH M s.heap (CL (.ref a)) (.ref C):=hc▸(ET he).andThen .now
 have f:=tc_notTuple
 have L5:kH M s.heap (isType (.ref Cx)) true:=by
  unfold dP sh at h2
  obtain⟨cd,ho,_⟩:=jS.mp h2
  split at ho
  ·rename_i c' d' cd' sl' ho'
   intro A' Q' E' s' k q
   unfold isType loadHead
   exact ag (A7 (k _ _ (X _ _ ho')) (bg q))
  ·cases ho
 unfold excMatches va isExcClass
 refine ag (ag (L3'.here ?_))
 rw[f]
 refine bg ?_
 simp only[js,if_false]
 refine ag (bg ?_)
 simp only[mT,u4]
 refine ag (ag (ag (ag (L5.here ?_))))
 simp only[if_true]
 refine L2'.here ?_
 simp only[Bool.not_true,js,if_false]
 refine bg ?_
 refine bg ?_
 refine ag (L4.here ?_)
 refine ag (ag (ag (L1.here ?_)))
 simp only[if_true]
 refine bg ?_
 refine bg ?_
 exact bg hq
abbrev rQ(X:Cx)(A':dS):Cx:={ X with A:=A',calm:=false,xe:=fun _ _=>False }
section
variable{X:Cx}{A':dS}{pins:List (aE×Obj)}{σ:St}{H:Hp}{s:ah}
theorem El(I:L2.Inv X pins σ H s)(hA:A'.frames=X.A.frames):L2.Inv (rQ X A') pins σ H s :=
 ⟨⟨I.ok.mod,I.ok.kind,I.ok.glob,I.ok.blt,I.ok.above,I.ok.inj,I.ok.has,I.ok.cab,(fun z=>by cases z),hA.trans I.ok.frames,I.ok.stk,I.ok.exf,I.ok.bs,I.ok.bsz,I.ok.noex,I.ok.exfs,I.ok.pL,I.ok.frf⟩,I.os,I.bare,I.base,I.loc,I.cell,I.free,I.freeC,I.pin,I.hok,I.len⟩
theorem lV(ok:X.Ok)(I:L2.Inv (rQ X A') pins σ H s):L2.Inv X pins σ H s:=⟨ok,I.os,I.bare,I.base,I.loc,I.cell,I.free,I.freeC,I.pin,I.hok,I.len⟩
theorem Lz(ok:X.Ok){D:Ends}{f:K2}{s':ah}(h:SP (rQ X A') pins D f s'):SP X pins D f s':=by
 cases f with
 |next=>obtain⟨σ',H',I,q⟩:=h;exact⟨σ',H',lV ok I,q⟩
 |brk=>obtain⟨σ',H',I,q⟩:=h;exact⟨σ',H',lV ok I,q⟩
 |cont=>obtain⟨σ',H',I,q⟩:=h;exact⟨σ',H',lV ok I,q⟩
 |ret u=>obtain⟨v,σ',H',I,r,q⟩:=h;exact⟨v,σ',H',lV ok I,r,q⟩
end
theorem RX{K:ae}{cx:Str}:∀c∈([]:List Str),yd K c cx:=fun _ h=>absurd h (by simp)
theorem kY{K:ae}{c cx:Str}{cs:List Str}(h:yd K c cx)(r:∀d∈cs,yd K d cx):∀d∈c::cs,yd K d cx:=fun d hd=>by
 rcases bE.mp hd with rfl | hd
 ·exact h
 ·exact r d hd
end L3
namespace L3
open PySem PySem.Spec PyProof.Rows L2
section
variable{X:Cx}{tg:cS}
theorem Ng:ib "enumerate" = some (.type "enumerate"):=by rfl
theorem dw:eV X (.type "int") (g8 X.K ie):=by
 intro pins s σ H xs us Q I rs h
 obtain⟨ds,H3,Q3,hr,rd,t,k⟩:=h
 cases rd with
 |nil=>exact t.elim
 |cons r1 r2=>
  cases r2 with
  |cons _ _=>cases r1 <;> exact t.elim
  |nil=>
   obtain⟨u,rfl,ru⟩:=vals1 rs
   cases r1 with
   |bl b=>
    cases (show u=t4 b from ru)
    refine PySem.call_int_bool (s:=s) ?_
    exact⟨.int _,H,I.tok _,⟨_,rfl⟩,k _ _ _ _ TK.refl hr (.int _) t⟩
   |int i=>
    obtain⟨t',rfl⟩:=(show ∃t',u=tT i t' from ru)
    refine PySem.call_int_int (s:=s) ?_
    exact⟨.int _,H,I,⟨_,rfl⟩,k _ _ _ _ TK.refl hr (.int _) t⟩
   |_=>exact t.elim
end
end L3
namespace L3
open PySem PySem.Spec PyProof.Rows L2 PySem.Calls Builtin Builtin.ObjectAttr Builtin.Getset_descriptor
structure qt(K:ae)(C:aE):Prop where
 ga:bX K (.ref C) "__getattribute__" = some (some (.builtin "BaseException.__getattribute__"))
 gh:bX K (.ref C) "__getattr__" = some none
 cl:bX K (.ref C) "__class__" = some (some (.builtin "object.__class__"))
 gs:gI K (.builtin "object.__class__") "__get__" = some (some (.builtin "getset_descriptor.__get__"))
 tk:kQ K (.builtin "object.__class__")=some true
 mo:dP K C (.type "object")=some true
 mb:dP K C (.type "BaseException")=some true
def ExcAt(a C:aE)(h:eJ):Prop:=∃o vs,h.get? a=some o/\o.cls=.ref C/\o.data=.fields vs
section
variable{prog:b5}{w:cE}{A:dS}{E:af->ah->Prop}{s:ah}{K:ae}{a C:aE}
theorem rm{M:C5}{h:eJ}(p:ExcAt a C h):kH M h (CL (.ref a)) (.ref C):=by
 obtain⟨o,vs,h1,h2,_⟩:=p
 exact h2▸(ET h1).andThen .now
theorem S7{M:C5}{h:eJ}(X:K.In h)(c:qt K C):kH M h (find (.ref a) (.ref C) "__class__") (.bind (.builtin "getset_descriptor.__get__") (.builtin "object.__class__")):=by
 have L1:=iE (M:=M) X c.cl
 have L2':kH M h (getOf (some (.builtin "object.__class__"))) (some (.builtin "getset_descriptor.__get__")):=PySem.W.looks_specialIn X c.gs
 have L3':=PySem.W.looks_takesIn (M:=M) X c.tk
 refine L1.andThen (L2'.andThen ?_)
 exact (show kH M h (dataDescriptor? (some (.builtin "object.__class__")) (some (.builtin "getset_descriptor.__get__"))) (some (.builtin "getset_descriptor.__get__",.builtin "object.__class__")) from L3'.andThen .now).andThen (KW .now)
theorem YT{tp:af}{R:Kt->ah->Prop}(X:K.In s.heap)(c:qt K C)(p:ExcAt a C s.heap)(h:R (.ok (.ret (.ref C))) s) :
  wt (cf prog w) A (.call (.builtin "getset_descriptor.__get__") ⟨[.builtin "object.__class__",.ref a,tp],[]⟩) R s:=by
 obtain⟨hh,g,dr,t,os⟩:=s
 have L0:=rm (M:=cf prog w) p
 have L1:=ku (M:=cf prog w) X c.mo
 refine lp C1.plain PySem.W.KF.entry_gs (C1.check _ _ _ _ _ _ _ _ PySem.W.KF.type_class (PySem.W.KF.args_gs _ _ _) ?_)
 unfold tN.«getset_descriptor.__get__» descrGet
 rw[PySem.W.dga_obj]
 refine ag (bg ?_)
 unfold descrGetter descrCheckInstance descrNameAndClass va
 simp only[PySem.W.KF.owner_class]
 repeat lk
 refine⟨vi _ (by decide +kernel),AA PySem.W.KF.entry_class ?_⟩
 unfold tN.«object.__class__» shownTypeOf
 repeat lk
 exact h
theorem Ci{nameV:af}{Q:Unit->ah->Prop}(X:K.In s.heap)(c:qt K C)(p:ExcAt a C s.heap)(hq:Q () s):bq (cf prog w) A (EU "BaseException.__getattribute__" ⟨[.ref a,nameV],[]⟩) Q E s:=by
 have hk:builtinKind "BaseException.__getattribute__" = some .slot:=by decide +kernel
 have hsplit:splitId "BaseException.__getattribute__" = some ("BaseException", "__getattribute__"):=by decide +kernel
 have ha:=F.args_bexc_ga (.ref a) nameV
 obtain⟨hh,g,dr,t,os⟩:=s
 have L0:=rm (M:=cf prog w) p
 have L1:=ku (M:=cf prog w) X c.mb
 simp only[EU,hk,hsplit]
 refine ag ?_
 unfold va
 refine ag (L0.at (L1.at ?_))
 repeat (first | assumption | wp_step)
theorem PN{tk:Tok}{Q:Fin->ah->Prop}(X:K.In s.heap)(c:qt K C)(p:ExcAt a C s.heap)(h:Q (.done (.ret (.ref C))) s) :
  bq (cf prog w) A (tN.«object.__getattribute__» ⟨[.ref a,.str "__class__" tk],[]⟩) Q E s:=by
 obtain⟨hh,g,dr,t,os⟩:=s
 have L0:=rm (M:=cf prog w) p
 have L1:=S7 (a:=a) (M:=cf prog w) X c
 refine ag (bg (ag (bg (ag (L0.at (ag (L1.at ?_)))))))
 show bq _ _ (bindTo _ _ _ _) _ _ _
 unfold bindTo
 repeat (any_goals (first | assumption | wp_step))
 refine YT X c p ?_
 repeat (any_goals (first | assumption | wp_step))
theorem Ox{Q:Option af->ah->Prop}(X:K.In s.heap)(c:qt K C)(p:ExcAt a C s.heap)(h:Q (some (.ref C)) { s with toks:=s.toks+1 }):bq (cf prog w) A (getAttr? (.ref a) "__class__") Q E s:=by
 obtain⟨hh,g,d,t,os⟩:=s
 have L0:=rm (M:=cf prog w) p
 have L1:=iE (M:=cf prog w) X c.ga
 have L2':=iE (M:=cf prog w) X c.gh
 have f3:=qB.ga.bind (.ref a)
 unfold getAttr? getAttrBy? getAttrBy
 refine ag (wpAny_mkText (ag (oQ (kF (ag (L0.at (ag (L1.at ?_))))))))
 show bq _ _ (sT _ _ _ _ _ _) _ _ _
 unfold sT
 refine ag ?_
 show bq _ _ (uk _ _) _ _ _
 refine L2'.at ?_
 refine ag (oQ (kF ?_))
 show bq _ _ (A8 _ _ _) _ _ _
 unfold A8
 rw[f3]
 refine ag (bg ?_)
 refine nI (lp qB.ga.plain FG (Ci (s:=⟨hh,g,d,t+1,os⟩) X c p (PN (s:=⟨hh,g,d,t+1,os⟩) X c p ?_)))
 exact PySem.W.handed_on rfl (bg h)
theorem Qs(c:qt K C):PySem.W.KitX K (.ref a) (.ref C) (ExcAt a C) where
 ty:=fun _ _ _ p=>rm p
 it:=fun M h X _=>by
  have h2:=c.mb
  unfold dP sh at h2
  obtain⟨cd,ho,_⟩:=jS.mp h2
  split at ho
  ·rename_i c' d' cd' sl' ho'
   intro A' Q' E' s' k q
   unfold isType loadHead
   exact ag (A7 (k _ _ (X _ _ ho')) (bg q))
  ·cases ho
 ne:=fun h tp dd its n sl X htp=>by
  have h2:=c.mb
  unfold dP sh at h2
  obtain⟨cd,ho,_⟩:=jS.mp h2
  refine Bool.eq_false_iff.mpr fun q=>?_
  have e:C=tp:=Value.ref.inj (beq_iff_eq.mp q)
  subst e
  split at ho
  ·rename_i c' d' cd' sl' ho'
   have z:=(X _ _ ho').symm.trans htp
   cases z
  ·cases ho
 ca:=fun X p k=>Ox X c p k
end
end L3
namespace L3
open PySem PySem.Spec PyProof.Rows L2
def dI(K:ae)(c cx:Str)(b:Bool):Prop:=∃C Cx,br K ba c=some (some (.ref C))/\br K ba cx=some (some (.ref Cx))/\qt K C/\ax K (.ref C) (.ref Cx)=some b
def ZZ(K:ae)(c:Str)(T:String)(b:Bool):Prop:=∃C,br K ba c=some (some (.ref C))/\qt K C/\ax K (.ref C) (.type T)=some b
theorem bW{P:Str×Bool->Prop}:∀p∈([]:List (Str×Bool)),P p:=fun _ h=>absurd h (by simp)
theorem aB{P:Str×Bool->Prop}{p:Str×Bool}{l:List (Str×Bool)}(h:P p)(r:∀q∈l,P q):∀q∈p::l,P q:=fun q hq=>by
 rcases bE.mp hq with rfl | hq
 ·exact h
 ·exact r q hq
theorem lookup_mem{c:Str}{b:Bool}:∀ {l:List (Str×Bool)},l.lookup c=some b->(c,b)∈l
 |[],h=>by simp at h
 |(d,x)::l,h=>by
  rw[fR] at h
  split at h
  ·rename_i q;cases h;rw[beq_iff_eq.mp q];exact eg
  ·exact dQ _ (lookup_mem h)
section
variable{X:Cx}{e:cS}{ta:bL}{cx:Str}{tbl:List (Str×Bool)}{p np pos:Pos}
theorem IW{pins:List (aE×Obj)}{σ:St}{H:Hp}{s:ah}{Q:VK}{a C:aE}{dd:Option aE}{cv:af}{b:Bool}(I:L2.Inv X pins σ H s)(x:qt X.K C)(ha:H a=some (Bl a C dd))(k:ax X.K (.ref C) cv=some b)(q:Q (.bl b) H) :
  bq (cf X.prog X.w) X.A (call (.builtin "isinstance") [.ref a,cv]) (EP X pins σ Q) X.xe s:=by
 have y:ExcAt a C s.heap:=let ⟨o,vs,h1,h2,h3,_⟩:=(I.hok a _ ha).1;⟨o,vs,h1,h2,h3⟩
 exact e9 (Qs x) I.lR y k (fun z=>nomatch z) fun tk=>⟨.bl b,H,I.tok tk,rfl,q⟩
theorem cZ(h:∀q∈tbl,dI X.K q.1 cx q.2)(hm:X.mg "isinstance" = none)(ha:b8 X e ta)(hgc:Gl X cx:=by rfl)(hdc:(cx==("__debug__" : Str))=false:=by decide)(hg:Gl X "isinstance":=by rfl)
  (hv:ib "isinstance" = some (.builtin "isinstance"):=by rfl)
  (he:aI [e,.Name cx np] X.env=(false,eR e X.env)::aI [.Name cx np] X.env:=by rfl) (he2:aI [.Name cx np] X.env=(false,eR (.Name cx np) X.env)::aI [] X.env:=by rfl) (hpl:(i3 pos (aI [.Name cx np] X.env)).any (·.1)=false:=by rfl) :
  b8 X (.Call (.Name "isinstance" p) [e,.Name cx np] [] pos) (jk tbl ta):=by
 intro pins s σ H Q I ⟨σ3,H3,Q3,sr,hr3,q,kk⟩
 refine gS (gf I hg hm hv ?_)
 refine ja ?_ he hpl
 rw[he]
 show bq _ _ (IG ((false,eR e X.env)::i3 pos (aI [.Name cx np] X.env))) _ _ s
 refine i9 (cC (ha pins s σ H (fun v H1=>∃a c b C Cx,v=.ref a/\br X.K ba cx=some (some (.ref Cx))/\qt X.K C/\(∃dd,H1 a=some (Bl a C dd))/\ax X.K (.ref C) (.ref Cx)=some b/\(c,b)∈tbl/\Q (.bl b) H1) I ⟨σ3,H3,_,sr,hr3,q,fun d v H3a Ha tka hra rx qa=>?_⟩) fun u s1 ⟨v,H1,I1,r1,q1⟩=>?_)
 ·cases rx with
  |ref a=>
   (delta Hu at qa;dsimp only at qa)
   split at qa
   ·rename_i c _ hc
    split at qa
    ·rename_i b hb
     obtain⟨C,Cx,h1,h2,h3,h4⟩:=h _ (lookup_mem hb)
     obtain⟨C',dd,h5,h6,_⟩:=hra a _ hc
     have eC:C'=C:=by rw[h1] at h5;cases h5;rfl
     subst eC
     exact⟨a,c,b,C',Cx,rfl,h2,h3,⟨dd,h6⟩,h4,lookup_mem hb,kk _ _ _ _ tka hra (.bl b) qa⟩
    ·exact qa.elim
   ·exact qa.elim
  |_=>exact qa.elim
 ·obtain⟨a,c,b,C,Cx,rfl,h2,h3,⟨dd,h6⟩,h4,_,hq⟩:=q1
  obtain rfl:u=eK a:=r1
  rw[he2]
  have hmx:=iL I1.mod.kin I1.mod.glob h2
  refine i9 (gC I1 hgc hmx ?_ hdc)
  refine bg ?_
  exact IW I1 h3 h6 h4 hq
theorem Y7{T:String}(h:∀q∈tbl,ZZ X.K q.1 T q.2)(hm:X.mg "isinstance" = none)(ha:b8 X e ta)(hmc:X.mg cx=none)(hvc:ib cx=some (.type T))(hgc:Gl X cx:=by rfl)(hnc:cx ≠ "__name__":=by decide)(hdc:(cx==("__debug__" : Str))=false:=by decide)(hg:Gl X "isinstance":=by rfl)
  (hv:ib "isinstance" = some (.builtin "isinstance"):=by rfl)
  (he:aI [e,.Name cx np] X.env=(false,eR e X.env)::aI [.Name cx np] X.env:=by rfl) (he2:aI [.Name cx np] X.env=(false,eR (.Name cx np) X.env)::aI [] X.env:=by rfl) (hpl:(i3 pos (aI [.Name cx np] X.env)).any (·.1)=false:=by rfl) :
  b8 X (.Call (.Name "isinstance" p) [e,.Name cx np] [] pos) (jk tbl ta):=by
 intro pins s σ H Q I ⟨σ3,H3,Q3,sr,hr3,q,kk⟩
 refine gS (gf I hg hm hv ?_)
 refine ja ?_ he hpl
 rw[he]
 show bq _ _ (IG ((false,eR e X.env)::i3 pos (aI [.Name cx np] X.env))) _ _ s
 refine i9 (cC (ha pins s σ H (fun v H1=>∃a c b C,v=.ref a/\qt X.K C/\(∃dd,H1 a=some (Bl a C dd))/\ax X.K (.ref C) (.type T)=some b/\(c,b)∈tbl/\Q (.bl b) H1) I ⟨σ3,H3,_,sr,hr3,q,fun d v H3a Ha tka hra rx qa=>?_⟩) fun u s1 ⟨v,H1,I1,r1,q1⟩=>?_)
 ·cases rx with
  |ref a=>
   (delta Hu at qa;dsimp only at qa)
   split at qa
   ·rename_i c _ hc
    split at qa
    ·rename_i b hb
     obtain⟨C,h1,h3,h4⟩:=h _ (lookup_mem hb)
     obtain⟨C',dd,h5,h6,_⟩:=hra a _ hc
     have eC:C'=C:=by rw[h1] at h5;cases h5;rfl
     subst eC
     exact⟨a,c,b,C',rfl,h3,⟨dd,h6⟩,h4,lookup_mem hb,kk _ _ _ _ tka hra (.bl b) qa⟩
    ·exact qa.elim
   ·exact qa.elim
  |_=>exact qa.elim
 ·obtain⟨a,c,b,C,rfl,h3,⟨dd,h6⟩,h4,_,hq⟩:=q1
  obtain rfl:u=eK a:=r1
  rw[he2]
  refine i9 (gf I1 hgc hmc hvc ?_ hnc hdc)
  refine bg ?_
  exact IW I1 h3 h6 h4 hq
end
def PSX(X:Cx)(st:gg)(t:XK->TS):Prop:=∀(pins:List (aE×Obj)) (s:ah) (σ:St) (H:Hp) (D:Ends) (E:XK),L2.Inv X pins σ H s->t E D σ H ->
 bq (cf X.prog X.w) X.A (exec st X.env) (SP X pins D) (fun x s'=>∃H1 s1,L2.Inv X pins σ H1 s1/\G8 X.prog X.w X.stack H1 s1 E x s') s
inductive Yg(K:ae)(t:iT->cI)(E:XK)(D:Ends)(σ:St)(H:Hp):Prop
 |mk (σ3:cz) (H3:aG) (D3:dF) (E3:iT) (_:SR K H σ3 σ) (_:HR K H3 H) (_:t E3 D3 σ3 H3) (_:KS K H D3 D) (_:KX K H E3 E)
def aa0(X:Cx)(st:gg)(t:iT->cI):Prop:=PSX X st (Yg X.K t)
section
variable{X:Cx}{pins:List (aE×Obj)}{σ:St}{H:Hp}{s:ah}
theorem SR.Yq{K:ae}{H:Hp}{σ3:cz}{σ:St}(s:SR K H σ3 σ)(i:Nat):SR K H (σ3.set i none) (σ.set i none):=by
 refine⟨by simp[s.len],fun j e h=>?_⟩
 by_cases hj:j=i
 ·subst hj
  by_cases hl:j<σ3.length
  ·rw[iP hl] at h;cases h
  ·rw[fx (by simpa using hl)] at h;cases h
 ·rw[gN (fm hj)] at h
  obtain⟨u,h1,h2⟩:=s.get j e h
  exact⟨u,by rw[gN (fm hj)];exact h1,h2⟩
theorem lZ{M:C5}{A:dS}{E:af->ah->Prop}{i:Nat}{x:Str}{pos:Pos}{Q:Unit->ah->Prop}(I:L2.Inv X pins σ H s)(hN:X.N.Nodup)(hi:X.N[i]?=some x)(hx:X.env.kindOf x=some .local)
  (h:∀s',L2.Inv X pins (σ.set i none) H s'->Q () s'):bq M A (do bindName X.env x .none;unbindBehindTheSuite X.env x pos) Q E s:=by
 obtain⟨m,hn,hl⟩:=id I.loc
 have hcls:(X.env.scope.kind == .class||(X.env.scope.kind == .module&&X.env.locals != X.env.globals))=false:=by rw[I.ok.kind];rfl
 have hiσ:i<σ.length:=by rw[I.len];exact (bb.mp hi).1
 have RV:=I.RV
 refine wpAny_nameGoes_keeps hx hn hcls fun h' v hn' hs=>?_
 obtain⟨oL,_,_,hoL,_⟩:=id hn
 have ne:∀b o,X.s₀.heap.get? b=some o->b≠X.env.locals:=fun b o e=>df (b9 (bp e) I.ok.above)
 refine h _ ⟨I.ok,I.os,I.bare,⟨fun b o e n hb hx=>(hs.2 b (ne b o e)).trans (I.base.keep b o e n hb hx),fun b o e n hb hx=>?_,I.base.free,fun b o e hx=>?_,I.base.tups,I.base.frzs,I.base.tbls⟩,⟨_,hn',fun j y v' e1 e2 e3=>?_⟩,fun y c e=>?_,I.free,I.freeC,fun p hp=>?_,fun b ob e=>?_,by simpa using I.len⟩
 ·obtain⟨sl,e1⟩:=I.base.slot b o e n hb hx
  exact⟨sl,(hs.2 b (ne b o e)).trans e1⟩
 ·obtain⟨o',e1⟩:=I.base.there b o e hx
  exact⟨o',(hs.2 b (ne b o e)).trans e1⟩
 ·by_cases hj:j=i
  ·subst hj
   rw[iP hiσ] at e2
   cases e2
  ·rw[gN (fm hj)] at e2
   obtain⟨u',r',q⟩:=hl j y v' e1 e2 e3
   refine⟨u',r',?_⟩
   rcases q with ⟨k,e⟩ | ⟨k,c,e,z⟩
   ·refine .inl ⟨k,?_⟩
    have:y≠x:=fun e=>hj (wu hN e1 (e▸hi))
    simp[this,e]
   ·exact .inr ⟨k,c,e,z.sameBut hs (RV y c e)⟩
 ·obtain⟨w',z⟩:=I.cell y c e
  exact⟨w',z.sameBut hs (RV y c e)⟩
 ·obtain⟨e,n,ne,nf,d⟩:=I.pin p hp
  exact⟨(hs.2 p.1 ne).trans e,n,ne,nf,d⟩
 ·refine (I.hok b ob e).stay (fun c w' hc q=>(hs.2 c ?_).trans q) (fun _ q=>q) fun _ _ q=>q
  rintro rfl
  rcases hc with rfl | hc
  ·rw[I.free] at e;cases e
  ·rw[I.free] at hc;cases hc
theorem X6{fs:List aE}{H H':Hp}{h h2:eJ}{a:aE}{o:HO}(u:Un fs [] H H' h h2)(na:h.get? a=none)(ua:H a=none):Un fs [] H (upd H' a o) h h2:=by
 have ne:∀b o,h.get? b=some o->b≠a:=fun b o e z=>by rw[z,na] at e;cases e
 refine⟨u.keep,u.slot,fun b o' e n hx=>?_,u.there,fun b xs e=>?_,fun b o' v e=>?_,fun b ps e=>?_⟩
 ·rw[aC (ne b o' e)];exact u.free b o' e n hx
 ·rw[aC (aW e ua)];exact u.tups b xs e
 ·rw[aC (aW e ua)];exact u.frzs b o' v e
 ·rw[aC (aW e ua)];exact u.tbls b ps e
theorem Tw{P:b5}{w:cE}{H:Hp}{h:eJ}{a C T:aE}{dd:Option aE}(x:mV P w H h)(ua:H a=none)(y:ZF h a (.ref C) dd T):mV P w (upd H a (Bl a C dd)) h:=fun b u e=>by
 by_cases hb:b=a
 ·subst hb;rw[aO] at e;cases e
  obtain⟨oe,vs,_,_,he,hc,hd,_⟩:=y
  refine⟨⟨oe,vs,he,hc.1,hd,hc.2⟩,⟨oe,he⟩,fun h1 h2 ⟨o,vs,z1,z2,z3⟩ k=>⟨o,vs,k o z1,z2,z3⟩⟩
 ·rw[aC hb] at e
  exact (x b u e).stay (fun c v _ q=>q) (fun c q=>by rw[aC (aW q ua)];exact q) fun c xs q=>by rw[aC (aW q ua)];exact q
end
section
variable{X:Cx}{e:cS}{t:iT->bL}{pos:Pos}
theorem W9(i:Nat){x:Str}{pos':Pos}(hN:X.N.Nodup)(h:W4 X e t)(hi:X.N[i]?=some x:=by rfl)(hx:Loc X.env.scope x:=by first | exact nN rfl | exact nV rfl)(hs:om e (some (.Name x pos')) pos.line X.env=pure false:=by rfl)
  (hf:X.fn x=true\/X.env.scope.names.lookup x=some .local:=by first | exact .inl rfl | exact .inr rfl | assumption):aa0 X (.Assign [.Name x pos'] e pos) (sxS i t):=by
 intro pins s σ H D E I ⟨σ3,H3,D3,E3,sr,hr3,q,kk,kx⟩
 refine C8 (eB (h pins s σ H (fun v H1=>D.nx (σ.set i (some v)) H1) E I ⟨σ3,H3,fun v H1=>D3.nx (σ3.set i (some v)) H1,E3,sr,hr3,q,fun d v H3' H' tk hr rd z=>kk.nx _ _ _ _ tk ((sr.mono tk).set i rd) hr z,kx⟩) (fun v s1 zz=>?_) fun _ _ z=>z) hs
 obtain⟨y,H1,I1,r1,q1⟩:=zz
 exact nO I1 hN hi hx r1 (fun s2 I2=>⟨_,H1,I2,q1⟩) hf
end
def dgk(x y:D)(H:aG)(Q:aX):Prop:=match x,y with
 | .ref a,.tup ds => (match keysOf ds,H a with
  | some k,some (.dic kvs) => (match iU kvs k with
   |some d=>Q d H
   |none=>False)
  |_,_=>False)
 |_,_=>False
def dg3(ta tb:bL):bL:=fun σ H Q=>ta σ H fun x H1=>tb σ H1 fun y H2=>dgk x y H2 Q
def sH:List D->aG->aX->Prop:=fun ds H Q=>match ds with
 | [.ref a] => (match H a with
  |some (.dic kvs)=>Q (.int kvs.length) H
  |_=>False)
 |_=>False
def mR(kvs:List (Pt×D)):Tab:=kvs.map fun kv=>(kP kv.1,kv.2)
def iY(kvs:List (Pt×D))(c:Pt):Option D:=(kvs.find? fun kv=>decide (kv.1=c)).map (·.2)
def yr(kvs:List (Pt×D))(c:Pt)(d:D):List (Pt×D):=if (kvs.any fun kv=>decide (kv.1=c))=true then kvs.map (fun kv=>if kv.1=c then (kv.1,d) else kv) else kvs++[(c,d)]
theorem Jk(c:Pt):∀kvs:List (Pt×D),iU (mR kvs) (kP c)=iY kvs c
 |[]=>rfl
 |p::kvs=>by
  unfold mR iU iY
  rw[ck]
  by_cases e:p.1=c
  ·rw[e7 (by simp[e]),e7 (by simp[e])];rfl
  ·have e':¬kP p.1=kP c:=fun z=>e (xj z)
   rw[eP (by simpa using e'),eP (by simpa using e)]
   exact Jk c kvs
theorem W6(c:Pt)(d:D)(kvs:List (Pt×D)):dput (mR kvs) (kP c) d=mR (yr kvs c d):=by
 have ha:((mR kvs).any fun kv=>decide (kv.1=kP c))=kvs.any fun kv=>decide (kv.1=c):=by
  unfold mR
  rw[List.any_map]
  congr 1
  funext kv
  by_cases e:kv.1=c
  ·simp[e]
  ·have e':¬kP kv.1=kP c:=fun z=>e (xj z)
   simp[e,e']
 unfold dput yr
 rw[ha]
 split
 ·unfold mR
  rw[eA,eA]
  refine gz fun kv _=>?_
  show (if kP kv.1=kP c then (kP kv.1,d) else (kP kv.1,kv.2))=_
  by_cases e:kv.1=c
  ·simp[e]
  ·have e':¬kP kv.1=kP c:=fun z=>e (xj z)
   simp[e,e']
 ·unfold mR
  rw[d0];rfl
theorem PB(kvs:List (Pt×D)):(mR kvs).length=kvs.length:=by unfold mR;rw[aw]
theorem Mj(c:Pt)(d:D)(kvs:List (Pt×D)):(yr kvs c d).map (·.1)=if c∈kvs.map (·.1) then kvs.map (·.1) else kvs.map (·.1)++[c]:=by
 have ha:(kvs.any fun kv=>decide (kv.1=c))=decide (c∈kvs.map (·.1)):=by
  rw[Fm,yB,decide_eq_true_eq,cn]
  constructor
  ·rintro⟨x,hx,e⟩;exact⟨x,hx,by simpa using e⟩
  ·rintro⟨x,hx,e⟩;exact⟨x,hx,by simpa using e⟩
 unfold yr
 rw[ha]
 by_cases h:c∈kvs.map (·.1)
 ·rw[if_pos (decide_eq_true h),if_pos h,eA]
  refine gz fun kv _=>?_
  show (if kv.1=c then (kv.1,d) else kv).1=kv.1
  split <;> rfl
 ·rw[if_neg (by simpa using h),if_neg h,d0];rfl
theorem v7{c q:Pt}{d:D}{kvs:List (Pt×D)}:q∈(yr kvs c d).map (·.1)↔q∈kvs.map (·.1)\/q=c:=by
 rw[Mj]
 split
 ·rename_i z
  constructor
  ·exact .inl
  ·rintro (y | rfl)
   ·exact y
   ·exact z
 ·simp
theorem Ff{c q:Pt}{d:D}(h:¬c=q):∀kvs:List (Pt×D),iY (kvs.map fun kv=>if kv.1=c then (kv.1,d) else kv) q=iY kvs q
 |[]=>rfl
 |p::kvs=>by
  have ih:=Ff (d:=d) h kvs
  unfold iY at ih ⊢
  rw[ck]
  by_cases e:p.1=q
  ·have e':¬p.1=c:=fun z=>h (z▸e)
   rw[if_neg e',e7 (by simp[e]),e7 (by simp[e])]
  ·have e1:¬(if p.1=c then (p.1,d) else p).1=q:=by split <;> exact e
   rw[eP (by simpa using e1),eP (by simpa using e)]
   exact ih
theorem yN{c:Pt}{d:D}:∀kvs:List (Pt×D),(kvs.any fun kv=>decide (kv.1=c))=true->iY (kvs.map fun kv=>if kv.1=c then (kv.1,d) else kv) c=some d
 |[],h=>by simp at h
 |p::kvs,h=>by
  unfold iY
  rw[ck]
  by_cases e:p.1=c
  ·rw[if_pos e,e7 (by simp[e])];rfl
  ·rw[gv,decide_eq_false e,HP] at h
   have ih:=yN (d:=d) kvs h
   unfold iY at ih
   rw[if_neg e,eP (by simpa using e)]
   exact ih
theorem K4{c q:Pt}{d:D}{kvs:List (Pt×D)}:iY (yr kvs c d) q=if q=c then some d else iY kvs q:=by
 unfold yr
 by_cases h:(kvs.any fun kv=>decide (kv.1=c))=true
 ·rw[if_pos h]
  by_cases e:q=c
  ·subst e;rw[if_pos rfl];exact yN kvs h
  ·rw[if_neg e];exact Ff (fun z=>e z.symm) kvs
 ·rw[if_neg h]
  by_cases e:q=c
  ·subst e
   rw[if_pos rfl]
   unfold iY
   rw[DU]
   have:kvs.find? (fun kv=>decide (kv.1=q))=none:=by
    rw[mw]
    intro x hx z
    exact h (yB.mpr ⟨x,hx,z⟩)
   rw[this,Option.none_or,e7 (by simp)];rfl
  ·rw[if_neg e]
   unfold iY
   rw[DU,eP (by simpa using fun z:c=q=>e z.symm),List.find?_nil,Option.or_none]
section
variable{H:aG}{Q:aX}{σ:cz}{a:aE}{p1 p2:Int}{d:D}{kvs:List (Pt×D)}{ta tb:bL}
theorem ac5(h:ta σ H fun x H1=>tb σ H1 fun y H2=>dgk x y H2 Q):dg3 ta tb σ H Q:=h
theorem VR(h:H a=some (.dic (mR kvs)))(hl:iY kvs (p1,p2)=some d)(q:Q d H):dgk (.ref a) (.tup [.int p1,.int p2]) H Q:=by
 have e:keysOf [D.int p1,.int p2]=some (kP (p1,p2)):=rfl
 (delta dgk;simp only[e,h,Jk,hl]);exact q
theorem Qq{kvs:Tab}(h:H a=some (.dic kvs))(q:Q (.int kvs.length) H):sH [.ref a] H Q:=by
 (delta sH;simp only[h]);exact q
theorem abr{R:cz->aG->Prop}(ha:H a=some (.dic (mR kvs)))(hl:kvs.length<1000)(q:R σ (aP H a (.dic (mR (yr kvs (p1,p2) d))))):XM d (.ref a) (.tup [.int p1,.int p2]) σ H R:=by
 have e:keysOf [D.int p1,.int p2]=some (kP (p1,p2)):=rfl
 (delta XM;simp only[e,ha,W6])
 exact⟨by rw[PB];exact hl,q⟩
end
def lzk(x y:D)(H:aG)(Q:aX):Prop:=match x,y with
 | .tup ds,.ref b => (match H b with
  |some (.lst es)=>ds.length<=1000/\∀p,H p=none->Q (.ref p) (aP H p (.lst (ig ds es)))
  |_=>False)
 |_,_=>False
def rG:List D->aG->aX->Prop:=fun ds H Q=>match ds with
 | [.ref a] => (match H a with
  | some (.lst xs) => (match intsOf xs with
   |some ns=>ns.length<64/\∀(ms:List Int) (p:aE),ms.Perm ns->ms.Pairwise (·<=·)->H p=none->Q (.ref p) (aP H p (.lst (ms.map D.int)))
   |none=>False)
  |_=>False)
 |_=>False
section
variable{H:aG}{Q:aX}{σ:cz}{a:aE}{ds es:List D}{ta tb:bL}
theorem Vc{ns:List Int}(h:H a=some (.lst (ns.map D.int)))(hl:ns.length<64)(q:∀(ms:List Int) (p:aE),ms.Perm ns->ms.Pairwise (·<=·)->H p=none->Q (.ref p) (aP H p (.lst (ms.map D.int)))):rG [.ref a] H Q:=by
 (delta rG;simp only[h,eN]);exact⟨hl,q⟩
end
section
variable{X:Cx}{o i:cS}{ta tb:bL}{pos:Pos}
theorem Jo(hu:X.A.units+64<md)(ho:b8 X o ta)(hi:b8 X i tb)(hs:Nu i:=by exact fun _ _=>rfl):b8 X (.Subscript o i pos) (dg3 ta tb) :=
 bT (IV (pz (BN (by decide:1<=64) _) hu) ho hi hs) fun _ _ _ zz=>zz.ex fun σ3 H3 Q3 sr hr t k=>⟨σ3,H3,_,sr,hr,t,fun x v H3a Ha tka hra rx qa=>⟨σ3,H3a,_,sr.mono tka,hra,qa,fun y u H3b Hb tkb hrb ry qb=>by
  have rx':=rx.mono tkb
  cases rx' with
  |ref a=>
   cases ry with
   |tup hy ry=>
    (delta dgk at qb;dsimp only at qb)
    split at qb
    ·rename_i ks kvs e1 e2
     split at qb
     ·rename_i d e3
      obtain⟨vs,gd,rd⟩:=hrb a _ e2
      have ex:=jh ry e1
      subst ex
      obtain⟨v,hv,rv⟩:=(TR.look (k:=ks) rd).2 d e3
      exact⟨a,v,rfl,by rw[←hv];exact sO.t gd hy,k _ _ _ _ (tka.trans tkb) hrb rv qb⟩
     ·exact qb.elim
    ·exact qb.elim
   |_=>exact qb.elim
  |_=>exact qb.elim⟩⟩
theorem qu{α β:Type}{F:α->β->Prop}:∀ {l:List α} {m:List β},Paired F l m->l.length=m.length
 |_,_,.nil=>rfl
 |_,_,.cons _ t=>by rw[e8,e8,qu t]
theorem Hn{prog:b5}{w:cE}{K:Type}[DecidableEq K]{knd:HeapKind prog w K}{d:aE}(hd:(d==iO)=false) :
  MeetsIn prog w (tN.«dict.__len__» ⟨[.ref d],[]⟩) (fun _ R s=>∃xs:List (K×aE×af),s.heap.DictOfH knd d xs/\R (.ok (.ret (.int xs.length s.toks))) { s with toks:=s.toks+1 }) :=
 .of_wp fun A R s ⟨xs,hm,h⟩=>by
  obtain⟨o,es,ep,ho,hc,hdat,he,hp,hn⟩:=hm
  show bq _ _ (dictSize d >>= _) _ _ s
  unfold dictSize
  refine ag (ag (wpAny_dictEntries ho hdat (bg ?_)))
  show bq _ _ (HL d >>= _) _ _ s
  refine ag (wpAny_pendingCount_other hd ?_)
  refine wpAny_ret_mkInt ?_
  rw[Nat.add_zero,size_of_entries he];exact h
theorem Ls{prog:b5}{w:cE}{K:Type}[DecidableEq K]{knd:HeapKind prog w K}{A:dS}{E:af->ah->Prop}{s:ah}{d:aE}{xs:List (K×aE×af)}{Q:af->ah->Prop}(hd:(d==iO)=false)(hm:s.heap.DictOfH knd d xs)(hfit:(xs.length:Int)<2 ^ 63)
  (h:Q (.int xs.length (s.toks+1)) { s with toks:=s.toks+1+1 }):bq (cf prog w) A (call (.builtin "len") [.ref d]) Q E s:=by
 refine vS kind_len plain_len entry_len (args_len1 _) ?_
 unfold tN.«len»
 refine ag (m:=oneArg "len" _) (bg ?_)
 refine ag (m:=callSpecial? (.ref d) (eS "__len__")) (pS (name:=eS "__len__") hm.typeIs FH
  (call_meetsIn FH hm.typeIs F.entry_dict_len (F.args_dict_len_1 _) (Hn (knd:=knd) hd) ⟨xs,hm,?_⟩))
 show bq _ _ _ _ _ { s with toks:=s.toks+1 }
 refine ag (kF (bg ?_))
 refine ag (xa ?_)
 show bq _ _ (if ((xs.length:Nat):Int)<0 then _ else _) _ _ _
 rw[if_neg (by grind)]
 show bq _ _ (if ((xs.length:Nat):Int)≥2 ^ 63 then _ else _) _ _ _
 rw[if_neg (by grind)]
 exact ag (wpAny_mkInt (bg ⟨_,rfl,h⟩))
theorem Ep:eV X (.builtin "len") (g8 X.K sH):=by
 intro pins s σ H xs us Q I rs h
 obtain⟨ds,H3,Q3,hr,rd,t,k⟩:=h
 cases rd with
 |nil=>exact t.elim
 |cons r1 r2=>
  cases r2 with
  |cons _ _=>cases r1 <;> exact t.elim
  |nil=>
   cases r1 with
   |ref a=>
    (delta sH at t;dsimp only at t)
    split at t
    ·rename_i kvs ha
     obtain⟨ks,ga,ra⟩:=hr a _ ha
     obtain⟨z,hd,ys,rel,dd⟩:=QX I.hok ga
     obtain⟨u,rfl,ru⟩:=Vals.one rs
     obtain rfl:u=eK a:=ru
     have l1:ys.length=ks.length:=(qu rel).symm
     have l2:kvs.length=ks.length:=qu ra
     refine Ls hd dd (by rw[l1];rw[hG] at z;grind) ?_
     refine⟨.int kvs.length,H,I.tok _,⟨_,by rw[l1,←l2]⟩,k _ _ _ _ TK.refl hr (.int _) t⟩
    ·exact t.elim
   |_=>exact t.elim
end
theorem lz{us:List af}{ns:List Int}(h:lb us ns):Vals (ns.map V.int) us:=by
 induction h with
 |nil=>exact .nil
 |cons n t _ ih=>exact .cons ⟨t,rfl⟩ ih
section
variable{X:Cx}
theorem Ml:eV X (.builtin "sorted") (g8 X.K rG):=by
 intro pins s σ H xs us Q I rs h
 obtain⟨ds,H3,Q3,hr,rd,t,k⟩:=h
 cases rd with
 |nil=>exact t.elim
 |cons r1 r2=>
  cases r2 with
  |cons _ _=>cases r1 <;> exact t.elim
  |nil=>
   cases r1 with
   |ref a=>
    (delta rG at t;dsimp only at t)
    split at t
    ·rename_i ds ha
     split at t
     ·rename_i ns en
      obtain⟨h64,t⟩:=t
      have e':=dG en
      subst e'
      obtain⟨vs,ga,ra⟩:=hr a _ ha
      have ev:=bI.nG ra
      subst ev
      obtain⟨its,rv,pl,hz⟩:=I.list (gB.of ga)
      obtain⟨u,rfl,ru⟩:=Vals.one rs
      obtain rfl:u=eK a:=ru
      have hl:its.length=ns.length:=by rw[←rv.length,aw]
      refine HZ pl.isList (intsAre_of rv) (by grind) fun out ms hI hp hw=>?_
      obtain⟨e,he⟩:=sortedAll_at s.heap its out
      have hml:ms.length=ns.length:=hp.length_eq
      have fr:H (s.heap.objs.size+1)=none:=I.hok.fresh (xc _)
      refine⟨.ref (s.heap.objs.size+1),_,I.laid (t':=s.toks) (a:=s.heap.objs.size+1) (o:=.lst (ms.map V.int)) (fun b o q=>sortedAll_old q) (xc _) ⟨by rw[aw,hml];exact qD (by grind),out.toList,e,lz hI,?_⟩,rfl,?_⟩
      ·rw[A9];exact he
      ·exact k _ _ _ _ (TK.fresh fr) (hr.wA (TK.fresh fr) (bI.ints ms)) (.ref _) (t ms _ hp hw (hr.fresh fr))
     ·exact t.elim
    ·exact t.elim
   |_=>exact t.elim
end
end L3
namespace L3
end L3
namespace L3
open PySem PySem.Spec PySem.W PyProof.Rows
end L3
namespace L3
open PySem PySem.Spec PyProof.Rows L2
def rk(f:Nat->List Int)(n i:Nat):Int:=(((dc n).countP fun k=>HT.lexLt (f k) (f i)):Nat)
abbrev Gc:=(Int×Int×Int)×Pt
def q5(q:Gc):List Int:=[q.1.1,q.1.2.1,q.1.2.2,q.2.1,q.2.2]
section
variable{X:Cx}
def TI(K:ae)(H:Hp)(ns:List Int)(b:aE):Prop:=∃v,Rep K H (.tup (ns.map D.int)) v/\RelV v (.ref b)
end
end L3
namespace L3
end L3
namespace L3.ST
open PySem PySem.SetTable
end L3.ST
namespace L3.ST
open PySem PySem.SetTable
end L3.ST
namespace L3.ST
open PySem PySem.SetTable
end L3.ST
namespace L3.ST
open PySem PySem.SetTable PySem.Spec PyProof.Rows
end L3.ST
namespace L3
open PySem PySem.Spec PyProof.Rows L2
def Mr(x:Str)(l k:Nat)(d:D)(H1:aG)(Q:aX):Prop:=match d with
 | .ref a => (match H1 a with
  | some (.lst ds) => (match wW ds with
   |some ps=>ps.length<64/\∃T,(H1 T=some (.tab x)\/H1 T=some (.tabd x l k))/\∀p,H1 p=none->Q (.ref p) (aP (aP H1 T (.tabd x l k)) p (.lst ((jw ps).map cF)))
   |none=>False)
  |_=>False)
 |_=>False
def soL(x:Str)(l k:Nat)(te:bL):bL:=fun σ H Q=>te σ H fun d H1=>Mr x l k d H1 Q
theorem aaL{x:Str}{l k:Nat}{te:bL}{σ:cz}{H:aG}{Q:aX}(h:te σ H fun d H1=>Mr x l k d H1 Q):soL x l k te σ H Q:=h
theorem Ze{x:Str}{l k:Nat}{a T:aE}{ps:List Pt}{H:aG}{Q:aX}(ha:H a=some (.lst (ps.map cF)))(hl:ps.length<64)(hT:H T=some (.tab x)\/H T=some (.tabd x l k))
  (q:∀p,H p=none->Q (.ref p) (aP (aP H T (.tabd x l k)) p (.lst ((jw ps).map cF)))):Mr x l k (.ref a) H Q:=by
 unfold Mr
 dsimp only
 rw[ha]
 dsimp only
 rw[yP]
 exact⟨hl,T,hT,q⟩
section
variable{X:Cx}{pins:List (aE×Obj)}{σ:St}{H H':Hp}{s:ah}
theorem Jd{T:aE}{ps more:Array af}{h':eJ}{tk:Nat}(I:Inv X pins σ H s)(kT:H T=some (.tbl ps))(kT':H' T=some (.tbl (ps++more)))(kx:∀b o,b≠T->s.heap.get? b=some o->h'.get? b=some o)
  (hT:h'.get? T=some (oi (ps++more))) (same:∀b,b≠T->b<s.heap.objs.size->H' b=H b) (new:∀b u,s.heap.objs.size<=b->H' b=some u->cH X.prog X.w H' h' b u):Inv X pins σ H' { s with heap:=h',toks:=tk }:=by
 have lt:∀b u,H b=some u->b<s.heap.objs.size:=fun b u e=>I.hok.lt e
 have nT:∀b,H b=none->b≠T:=fun b n z=>by rw[z,kT] at n;cases n
 have st:∀b u,b≠T->H b=some u->H' b=some u:=fun b u n e=>(same b n (lt b u e)).trans e
 refine I.step (g':=s.gens) (d':=s.drawn) (ch:=[]) (fun _ z=>nomatch z) (fun b o _ _ _ e n=>kx b o (nT b n) e) (fun b o _ _ _ e n=>⟨o.slots,kx b o (nT b n) e⟩) (fun b o _ e n=>(same b (nT b n) (bp e)).trans n)
  (fun b o _ e=>?_) (fun b xs e=>st b _ (fun z=>by rw[z,kT] at e;cases e) e) (fun b o u e=>st b _ (fun z=>by rw[z,kT] at e;cases e) e) (fun b qs e=>?_) (fun m hm=>?_) (fun b u e=>?_) I.bare
 ·by_cases hb:b=T
  ·exact⟨_,by rw[hb];exact hT⟩
  ·exact⟨o,kx b o hb e⟩
 ·by_cases hb:b=T
  ·subst hb
   rw[kT] at e
   cases e
   exact⟨more,kT'⟩
  ·exact⟨#[],by rw[st b _ hb e];simp⟩
 ·obtain⟨o,es,ep,ho,r⟩:=hm
  exact⟨o,es,ep,kx _ o (nT _ I.free) ho,r⟩
 ·by_cases hb:b=T
  ·subst hb
   rw[kT'] at e
   cases e
   exact hT
  ·by_cases hl:b<s.heap.objs.size
   ·rw[same b hb hl] at e
    refine (I.hok b u e).stay (fun c v hc q=>kx c v ?_ q) (fun c q=>?_) fun c xs q=>?_
    ·rcases hc with z | z
     ·rw[z];exact hb
     ·exact fun w=>by rw[w,kT] at z;cases z
    ·exact st c _ (fun w=>by rw[w,kT] at q;cases q) q
    ·exact st c _ (fun w=>by rw[w,kT] at q;cases q) q
   ·exact new b u (yi hl) e
theorem Od(I:Inv X pins σ H s){x:Str}{c T:aE}{ps:Array af}(tk:Bv X.K H x c T)(kT:H T=some (.tbl ps)):s.heap.BuiltinsAt X.mg T/\ba≠T/\A1 s.heap c T/\s.heap.Ns ba X.mg/\s.heap.get? T=some (oi ps):=by
 obtain⟨bm,ob,h1,h2,h3,h4,h5,h6⟩:=tk.bm
 have hg:s.heap.Ns ba X.mg:=I.ok.mod.glob.keeps I.bk
 have e:=iL I.ok.mod.kin I.ok.mod.glob h1
 have hb:=(I.hok bm _ h3).1
 have hT:s.heap.get? T=some (oi ps):=I.hok T _ kT
 have n1:bm≠ba:=fun z=>by
  obtain⟨o,es,ep,e1,d,_⟩:=hg
  rw[z,e1] at hb
  cases hb
  rw[h6] at d
  cases d
 have n2:ba≠T:=fun z=>by
  obtain⟨o,es,ep,e1,d,_⟩:=hg
  rw[z,hT] at e1
  cases e1
  cases d
 have n3:bm≠T:=fun z=>by rw[z,kT] at h3;cases h3
 exact⟨⟨bm,ob,e,h2,n1,n3,hb,h4,h5,h6⟩,n2,tk.hd _ I.lR,hg,hT⟩
abbrev lamO(X:Cx)(params:tS)(body:cS)(scope:lP)(c':aE)(ctv:af):Obj :=
 AB "<lambda>" (X.env.qual ++ "<lambda>") params body scope [] ((X.mg "__name__").getD .none) c' ctv
theorem QM{x:Str}{c T:aE}{params:tS}{body:cS}{scope:lP}{pos:Pos}{R:af->ah->Prop}(I:Inv X pins σ H s)(tk:Bv X.K H x c T)(kT:H T=some (.tbl #[]))(hd:HE params X.env=([],[]))(hcl:zh scope X.env=pure [])
  (hcode:X.env.code=.ref c)
  (h:∀ f c' oc vs t ctv s' H',H f = none→H c' = none→f≠c'→f≠T→c'≠T→oc.data = .fields vs→vs[1]? = some (.str (X.env.qual ++ "<lambda>") t)→H' = upd (upd (upd H T (.tbl #[ky pos.line,ky pos.col,.ref c'])) c' (.frz oc (.own c'))) f (.frz (lamO X params body scope c' ctv) (.own f)) →
   Inv X pins σ H' s'->R (.ref f) s'):bq (cf X.prog X.w) X.A (eR (.Lambda params body scope pos) X.env) R X.xe s:=by
 obtain⟨hb,hgT,hC,hg,hT⟩:=Od I tk kT
 refine EV hd (PySem.W.kla_makeFunction hcl I.ok.glob hg hcode hC hT trivial rfl hgT hb fun c' ctv h' tk' hx hge hlt hrec htb=>?_)
 obtain⟨c₂,oc,vs,t,e2,hoc,hdd,hv⟩:=hrec
 cases e2
 have hTs:T<s.heap.objs.size:=bp hT
 have hfs:s.heap.objs.size<=h'.objs.size:=ij (pz hge hlt)
 have nc:H c'=none:=I.hok.fresh hge
 have nf:H h'.objs.size=none:=I.hok.fresh hfs
 have e1:h'.objs.size≠c':=g9 hlt
 have e3:h'.objs.size≠T:=g9 (b9 hTs hfs)
 have e4:c'≠T:=g9 (b9 hTs hge)
 refine h h'.objs.size c' oc vs t ctv _ _ nf nc e1 e3 e4 hdd hv rfl (Jd (T:=T) (ps:=#[]) (more:=#[ky pos.line,ky pos.col,.ref c']) I kT ?_ (fun b o hb' e=>av _ (hx b o hb' e)) (av _ htb) (fun b hb' hl=>?_) fun b u hl e=>?_)
 ·rw[aC (fm e3),aC (fm e4),aO];rfl
 ·rw[aC (df (b9 hl hfs)),aC (df (b9 hl hge)),aC hb']
 ·by_cases hb1:b=h'.objs.size
  ·rw[hb1,aO] at e
   cases e
   rw[hb1]
   exact⟨bP _ rfl,_,bP _ rfl⟩
  ·rw[aC hb1] at e
   by_cases hb2:b=c'
   ·rw[hb2,aO] at e
    cases e
    rw[hb2]
    exact⟨av _ hoc,_,av _ hoc⟩
   ·rw[aC hb2,aC (g9 (b9 hTs hl)),I.hok.fresh hl] at e
    cases e
theorem SX{x:Str}{c T c':aE}{params:tS}{body:cS}{scope:lP}{pos:Pos}{R:af->ah->Prop}(I:Inv X pins σ H s)(tk:Bv X.K H x c T)(kT:H T=some (.tbl #[ky pos.line,ky pos.col,.ref c']))(hd:HE params X.env=([],[]))(hcl:zh scope X.env=pure [])
  (hcode:X.env.code=.ref c)
  (h:∀f ctv s' H',H f=none->H'=upd H f (.frz (lamO X params body scope c' ctv) (.own f))->Inv X pins σ H' s'->R (.ref f) s'):bq (cf X.prog X.w) X.A (eR (.Lambda params body scope pos) X.env) R X.xe s:=by
 obtain⟨hb,hgT,hC,hg,hT⟩:=Od I tk kT
 refine EV hd (PySem.W.kla_makeFunctionHit (cv:=.ref c') hcl I.ok.glob hg hcode hC hT ?_ ?_ hb fun ctv h' tk' hk hsz=>?_)
 ·simp[TriplesOk,ky]
 ·simp[codeAmong,ky]
 ·have hTs:T<s.heap.objs.size:=bp hT
  have nf:H h'.objs.size=none:=I.hok.fresh hsz
  have e3:h'.objs.size≠T:=g9 (b9 hTs hsz)
  refine h h'.objs.size ctv _ _ nf rfl (Jd (T:=T) (more:=#[]) I kT ?_ (fun b o hb' e=>av _ (hk b o e)) (av _ ?_) (fun b hb' hl=>?_) fun b u hl e=>?_)
  ·rw[aC (fm e3),kT];simp
  ·rw[hk _ _ hT];simp
  ·rw[aC (df (b9 hl hsz))]
  ·by_cases hb1:b=h'.objs.size
   ·rw[hb1,aO] at e
    cases e
    rw[hb1]
    exact⟨bP _ rfl,_,bP _ rfl⟩
   ·rw[aC hb1,I.hok.fresh hl] at e
    cases e
theorem T3{k:Nat}{f c':aE}{name qual:Str}{params:tS}{body:cS}{scope:lP}{pm ctv:af}{N ps:List Str}{us:List af}{vs:List V}{t:TE}{Q:VK}(I:Inv X pins σ H s)(hf:s.heap.get? f=some (AB name qual params body scope [] pm c' ctv))(hcd:s.heap.CodeRec (.ref c') qual)
  (S:aR N ps scope) (hr:cW (k+1) X.A) (hl:vs.length=ps.length) (r:Vals vs us) (hb:DE (HG name qual params body scope [] pm (.ref c') ctv) ⟨us,[]⟩=pure (ps.zip us))
  (hbody:∀(A:dS) (outer:List Env) (s:ah) (H:Hp),cW k (A.deeper (nt qual scope s.heap.objs.size f (.ref c')))->PE (jn uN X.prog X.w X.K X.mg X.base N qual scope f (.ref c') A outer s H E0).yK body t) (ht:t (L2.start N vs) H Q) :
  bq (cf X.prog X.w) X.A (call (.ref f) us) (EP X pins σ Q) X.xe s:=by
 have e0:=I.env0
 have lim:s.heap.NoLimit:=I.nolimit
 have hkind:∀y∈ps.zip us,scope.names.lookup y.1=some .local\/(scope.names.lookup y.1=some .cell/\((BD (s.heap.objs.size+1) scope.names []).lookup y.1).isSome=true):=fun ⟨n,v⟩ hy=>by
  rcases S.par n (pb hy).1 with q | q
  ·exact .inl q
  ·exact .inr ⟨q,mn _ _ _ (.inl q)⟩
 refine nI (oo (PySem.W.kla_callFunE (R:=CR uN X.stack X.prog X.w H s Q E0) hr.depth hf rfl S.co S.gen rfl hcd ?_) fun r s' hq=>?_)
 ·rw[hb]
  refine bg (nL S.kind hkind fun env he s1 x=>?_)
  subst he
  refine⟨lim.keeps x.toInCall.keep,PySem.W.kla_codeExpr ?_⟩
  have J:Inv (jn uN X.prog X.w X.K X.mg X.base N qual scope f (.ref c') X.A X.stack s H E0).yK [] (L2.start N vs) H s1:=by
   have J0:=sZ (CX:=uN) (E:=E0) (N:=N) (qual:=qual) (f:=f) (cd:=.ref c') S hr.hd e0 hl r x
   exact J0.wish _
  refine eB (hbody X.A X.stack s H (hr.deeper _) [] s1 (L2.start N vs) H Q J ht) (fun u s' hs=>?_) fun _ _ z=>z.elim
  obtain⟨v,H',J',rv,q⟩:=hs
  exact⟨v,H',J'.os,J'.bare,J'.base,J'.hok,rv,q⟩
 ·cases r with
  |error e=>exact e6 hq
  |ok fl=>
   cases fl with
   |ret u=>exact I.after hq
   |next=>exact e6 hq
   |brk=>exact e6 hq
   |cont=>exact e6 hq
end
section
variable{X:Cx}{pins:List (aE×Obj)}{σ:St}{H:Hp}{s:ah}
theorem TK.abP{H:Hp}{p:aE}{o:HO}{ps:Array af}(n:H p=some (.tbl ps)):TK H (upd H p o) :=
 ⟨fun a ys h=>by rw[aC (pR h n (by intro z;cases z))];exact h,fun a o' u h=>by rw[aC (pR h n (by intro z;cases z))];exact h⟩
theorem Hq{x y:Str}{e body:cS}{te tb:bL}{params:tS}{scope:lP}{l k q:Nat}{p pos lpos kpos:Pos}{f₀:aE}{fd₀:gc}{oc₀:af}{od₀:Option aE}{sl₀:Array (Option af)}(hm:X.mg x=some (.ref f₀))(hk:X.K.lookup f₀=some ⟨oc₀,od₀,.func fd₀,sl₀⟩)(hcv:X.env.code=fd₀.code)
  (S:aR [y] [y] scope) (hr:cW (q+3) X.A) (hs:X.mg "sorted" = none) (he:b8 X e te)
  (hbody:∀(f c':aE) (A:dS) (outer:List Env) (s:ah) (H:Hp),b8 (jn uN X.prog X.w X.K X.mg X.base [y] (Cm x) scope f (.ref c') A outer s H E0).yK body tb)
  (hkey:∀(c:Pt) (H3:aG) (Q3:aX),Q3 (.tup [.int c.2,.int c.1]) H3->tb (aM [y] [cF c]) H3 Q3)
  (hb:∀(pm:af) (c':aE) (ctv u:af),DE (HG "<lambda>" (Cm x) params body scope [] pm (.ref c') ctv) ⟨[u],[]⟩=pure [(y,u)])
  (hl:lpos.line=l:=by rfl) (hc:lpos.col=k:=by rfl)
  (hq:X.env.qual ++ "<lambda>" = Cm x:=by rfl) (hd:HE params X.env=([],[]):=by rfl) (hcl:zh scope X.env=pure []:=by rfl)
  (hg:Gl X "sorted":=by rfl) (h1:aI [e] X.env=(false,eR e X.env)::aI [] X.env:=by rfl)
  (h2:i3 pos (aI [e] X.env)=(false,eR e X.env)::i3 pos (aI [] X.env):=by rfl) (h3:(i3 pos (aI [e] X.env)).any (·.1)=false:=by rfl) (h4:(qh pos (la [⟨some "key",.Lambda params body scope lpos,kpos⟩] X.env)).all (·.1.isSome)=true:=by rfl)
  (h5:(qh pos (la [⟨some "key",.Lambda params body scope lpos,kpos⟩] X.env)).any (·.1.isNone)=false:=by rfl) (h6:(qh pos (la [⟨some "key",.Lambda params body scope lpos,kpos⟩] X.env)).filterMap (·.1)=[eS "key"]:=by rfl) :
  b8 X (.Call (.Name "sorted" p) [e] [⟨some "key",.Lambda params body scope lpos,kpos⟩] pos) (soL x l k te):=by
 intro pins s σ H Q I h
 obtain⟨σ3,H3,Q3,sr,hr3,t,kk⟩:=h
 refine gS (gf I hg hs boot_sorted ?_ (by decide) (by decide))
 have pa:PA X [e] (uC (fP X.K te) Mx):=jO he vK h1
 refine callWith_kw (cC (pa pos pins s σ H (fun vs H1=>∃d v H31,vs=[v]/\TK H H1/\HR X.K H31 H1/\Rep X.K H1 d v/\Mr x l k d H31 Q3) I ⟨σ3,H3,_,sr,hr3,t,fun d v H3' H' tk hr' rep q=>⟨d,v,H3',rfl,tk,hr',rep,q⟩⟩) fun us s1 hq=>?_) h2 h3 h4 h5
 obtain⟨vs,H1,I1,rvs,d,v,H31,rfl,tk1,hr1,rep1,q1⟩:=hq
 obtain⟨u1,rfl,ru1⟩:=vals1 rvs
 rw[h6]
 cases rep1 with
 |ref a=>
  cases ru1
  unfold Mr at q1
  dsimp only at q1
  split at q1
  ·rename_i ds ha
   split at q1
   ·rename_i ps ep
    obtain⟨h64,T,hT,q1⟩:=q1
    have z:=Ms ep
    subst z
    obtain⟨vs,ga,ra⟩:=hr1 a _ ha
    have fin:∀(f c' oc:_) (ctv:af) (vs':Array af) (tq:Nat) (H2:Hp),HR X.K (aP H31 T (.tabd x l k)) H2->TK H1 H2->H2 c'=some (.frz oc (.own c'))->oc.data=.fields vs'->vs'[1]?=some (.str (Cm x) tq) ->
      H2 f=some (.frz (lamO X params body scope c' ctv) (.own f))->H2 a=some (.lst vs)->∀s2,Inv X pins σ H2 s2->bq (cf X.prog X.w) X.A (call (.builtin "sorted") [.ref a] [(eS "key",.ref f)]) (EP X pins σ Q) X.xe s2:=by
     intro f c' oc ctv vs' tq H2 hr2 tk2 kc hdd hv kf ga2 s2 I2
     refine Kw I2 ga2 (ra.mono tk2) hr2 h64 (fun pins' H' s' c v u tk hr' J rep rx=>?_) fun D H'' tk hr'' nD=>kk _ _ _ _ ((tk1.trans tk2).trans tk) hr'' (.ref D) (q1 D ?_)
     ·have of:=(J.hok f _ (tk.frz _ _ _ kf)).1
      have oc':=(J.hok c' _ (tk.frz _ _ _ kc)).1
      rw[show lamO X params body scope c' ctv=AB "<lambda>" (Cm x) params body scope [] ((X.mg "__name__").getD .none) c' ctv by unfold lamO;rw[hq]] at of
      refine T3 (X:=Cx.Gz X) (k:=q) (t:=fP X.K tb) J of ⟨c',oc,vs',tq,rfl,oc',hdd,hv⟩ S (hr.in1.in1) rfl (.cons rx .nil) (hb _ _ _ _) (fun A outer s0 H0 _=>hbody f c' A outer s0 H0) ?_
      exact⟨aM [y] [cF c],_,fun d H3'=>d=.tup [.int c.2,.int c.1]/\H3'=_,nQ (.cons rep .nil),hr',hkey c _ _ ⟨rfl,rfl⟩,fun d v H3'' H'' tk' hr'' rep' q=>by
       obtain⟨rfl,rfl⟩:=q
       exact⟨tk',hr'',rep'⟩⟩
     ·by_cases hDT:D=T
      ·rw[hDT,aF] at nD;cases nD
      ·rw[bA hDT] at nD;exact nD
    have codeE:∀c,nr X.K x=some (c,T)->X.env.code=.ref c:=fun c ht=>by
     rw[hcv]
     exact PySem.W.law_code I1.lR (I1.ok.mod.glob.keeps I1.bk) ht hm (I1.lR _ _ hk) rfl
    have pl:PE X (.Lambda params body scope lpos) (fun _ H' Q'=>H'=H1/\∀(f c':aE) (oc:Obj) (ctv:af) (vs':Array af) (tq:Nat) (H2:Hp),HR X.K (aP H31 T (.tabd x l k)) H2->TK H1 H2->H2 c'=some (.frz oc (.own c'))->oc.data=.fields vs'->vs'[1]?=some (.str (Cm x) tq) ->
      H2 f=some (.frz (lamO X params body scope c' ctv) (.own f))->H2 a=some (.lst vs)->Q' (.ref f) H2):=by
     intro pins s σ H' Q' I ⟨eH,hq'⟩
     subst eH
     rcases hT with hT | hT
     ·obtain⟨kT,c,tkT⟩:=hr1 T _ hT
      refine QM I tkT kT hd hcl (codeE c tkT.tab) fun f c' oc vs' t ctv s' H2 nf nc e1 e2 e3 hdd hv eH J=>⟨.ref f,H2,J,rfl,?_⟩
      have nc1:upd H' T (.tbl #[ky lpos.line,ky lpos.col,.ref c']) c'=none:=by rw[aC e3];exact nc
      have nf1:upd (upd H' T (.tbl #[ky lpos.line,ky lpos.col,.ref c'])) c' (.frz oc (.own c')) f=none:=by rw[aC e1,aC e2];exact nf
      have tkA:TK H' H2:=by rw[eH];exact ((TK.abP kT).trans (TK.fresh nc1)).trans (TK.fresh nf1)
      have kc:H2 c'=some (.frz oc (.own c')):=by rw[eH,aC (fm e1),aO]
      have old:∀b u,b≠T->H' b=some u->H2 b=some u:=fun b u n e=>by rw[eH,aC (aW e nf),aC (aW e nc),aC n];exact e
      rw[hq] at hv
      refine hq' f c' oc ctv vs' t H2 (fun b u e=>?_) tkA kc hdd hv (by rw[eH,aO]) (old a _ (fun z=>by rw[z,kT] at ga;cases ga) ga)
      by_cases hb':b=T
      ·subst hb'
       rw[aF] at e
       cases e
       exact⟨c',oc,vs',t,by rw[eH,aC (fm e2),aC (fm e3),aO,hl,hc],kc,hdd,hv,c,tkT.mono tkA⟩
      ·rw[bA hb'] at e
       refine (hr1 b u e).keep tkA ?_
       have n1:b≠c':=ne3 e (hr1.fresh nc)
       have n2:b≠f:=ne3 e (hr1.fresh nf)
       rw[eH,aC n2,aC n1,aC hb']
     ·obtain⟨c',oc,vs',t,kT,kc,hdd,hv,c,tkT⟩:=hr1 T _ hT
      have kT':H' T=some (.tbl #[ky lpos.line,ky lpos.col,.ref c']):=by rw[kT,hl,hc]
      refine SX I tkT kT' hd hcl (codeE c tkT.tab) fun f ctv s' H2 nf eH J=>⟨.ref f,H2,J,rfl,?_⟩
      have tkA:TK H' H2:=by rw[eH];exact TK.fresh nf
      have old:∀b u,H' b=some u->H2 b=some u:=fun b u e=>by rw[eH,aC (aW e nf)];exact e
      refine hq' f c' oc ctv vs' t H2 (fun b u e=>?_) tkA (old _ _ kc) hdd hv (by rw[eH,aO]) (old a _ ga)
      by_cases hb':b=T
      ·subst hb'
       rw[aF] at e
       cases e
       exact⟨c',oc,vs',t,old _ _ kT,old _ _ kc,hdd,hv,c,tkT.mono tkA⟩
      ·rw[bA hb'] at e
       refine (hr1 b u e).keep tkA ?_
       rw[eH,aC (ne3 e (hr1.fresh nf))]
    have pk:PK X [⟨some "key",.Lambda params body scope lpos,kpos⟩] (uC _ Mx):=UL pl Xg
    refine cC (pk pos pins s1 σ H1 (fun zs H2=>∃(f c':aE) (oc:Obj) (ctv:af) (vs':Array af) (tq:Nat),zs=[.ref f]/\HR X.K (aP H31 T (.tabd x l k)) H2/\TK H1 H2/\H2 c'=some (.frz oc (.own c'))/\oc.data=.fields vs'/\vs'[1]?=some (.str (Cm x) tq) /\
      H2 f=some (.frz (lamO X params body scope c' ctv) (.own f))/\H2 a=some (.lst vs)) I1 ⟨rfl,fun f c' oc ctv vs' tq H2 g1 g2 g3 g4 g5 g6 g7=>⟨f,c',oc,ctv,vs',tq,rfl,g1,g2,g3,g4,g5,g6,g7⟩⟩) fun ws s2 hq2=>?_
    obtain⟨zs,H2,I2,rz,f,c',oc,ctv,vs',tq,rfl,g1,g2,g3,g4,g5,g6,g7⟩:=hq2
    obtain⟨w1,rfl,rw1⟩:=vals1 rz
    cases rw1
    exact fin f c' oc ctv vs' tq H2 g1 g2 g3 g4 g5 g6 g7 s2 I2
   ·exact q1.elim
  ·exact q1.elim
 |_=>exact q1.elim
end
theorem Uq{y:Str}(c:Pt)(H3:aG)(Q3:aX)(h:Q3 (.tup [.int c.2,.int c.1]) H3):fX (aq (o3 bD (v3 0) (c3 (.int 1))) (aq (o3 bD (v3 0) (c3 (.int 0))) aK)) (aM [y] [cF c]) H3 Q3:=by
 refine abn (GQ (Yt (Xc (d:=.tup [.int c.1,.int c.2]) rfl (Xy (Ip (d:=.int c.2) rfl (GQ (Yt (Xc (d:=.tup [.int c.1,.int c.2]) rfl (Xy (Ip (d:=.int c.1) rfl (Wh ?_)))))))))))
 exact⟨by show 2<=1000;decide,h⟩
theorem ac6{P:b5}{w:cE}{K:ae}{mg:Str->Option af}{base:eJ}{x qual:Str}{st:gg}{f:aE}{fd:gc}{N ps:List Str}{k:Nat}{sp:mU}(F:Ca K x qual st f fd)(S:aR N ps (az st))
  (hm:mg x=some (.ref f)) (hb:Binds K fd ps []) (len:∀ds H Q,sp ds H Q->ds.length=ps.length)
  (hbody:∀ (oc:af) (od:Option aE) (sl:Array (Option af)),K.lookup f = some ⟨oc,od,.func fd,sl⟩→∀ (A:dS) (outer:List Env) (s:ah) (H:Hp) (E:XK),cW k (A.deeper (nt qual (az st) s.heap.objs.size f fd.code)) →
   ∃t,nF (jn uN P w K mg base N qual (az st) f fd.code A outer s H E).yK (aQ st) t/\∀ds H3 Q3,sp ds H3 Q3->t (cY Q3) (aM N ds) H3):Fn P w K mg base (k+1) x ps sp:=by
 refine⟨f,fd,?_,hm,F.kp,hb⟩
 obtain⟨oc,od,kV,doc,pm,an,cdv,ct,osl,rfl,lk,hcd⟩:=F.ex
 refine QF lk hcd S (fun vs H Q E h=>?_) (fun A outer s H vs Q E hr h=>?_)
 ·obtain⟨ds,H3,Q3,_,rs,q,_⟩:=h
  rw[←rs.length]
  exact len ds H3 Q3 q
 ·obtain⟨ds,H3,Q3,hr3,rs,q,k⟩:=h
  obtain⟨t,ht,hq⟩:=hbody oc od osl lk A outer s H E hr
  refine⟨_,zR.yK ht,aM N ds,H3,_,nQ rs,hr3,hq ds H3 Q3 q,⟨fun σ3 σ H3' H' tk sr hr' z=>?_,fun d v H3' H' tk hr' rd z=>?_,fun _ _ _ _ _ _ _ z=>z.elim,fun _ _ _ _ _ _ _ z=>z.elim⟩⟩
  ·obtain⟨H'',sub,q'⟩:=z
   exact k _ _ _ _ tk (hr'.sub sub) .non q'
  ·obtain⟨H'',sub,q'⟩:=z
   exact k _ _ _ _ tk (hr'.sub sub) rd q'
def Z3(T:aE)(H:Hp):Prop:=H T=some (.tbl #[])/\∀b,b=T\/H b=none\/∃o u,H b=some (.frz o u)
theorem Ko{P:b5}{w:cE}{K:ae}{mg mb:Str->Option af}{k:Nat}{fa a c T:aE}{fd:gc}{x xt:Str}{sp:mU}{s₁:ah}{vs:List af}{ns:List Int}{p:b5}{loose:List Str}{mean:ExcName->Option af}
  (KX:K.In s₁.heap) (TT:Top p loose mean mg mb s₁.heap) (hg:s₁.gens=#[]) (hC:A1 s₁.heap c T/\s₁.heap.get? T=some (oi #[])) (ht:nr K xt=some (c,T)) (hbn:∃v,br K ba "__builtins__" = some (some v)) (hnt:K.lookup T=none)
  (hbl:∀bm o,br K ba "__builtins__" = some (some (.ref bm))->K.lookup bm=some o->False)
  (ha:s₁.heap.get? a=some { cls:=.type "list",data:=.seq vs.toArray }) (hi:lb vs ns) (hl:ns.length<=bS) (hr:cW k BF)
  (F:∀base:eJ,K.In base->base.Ns ba mg->pM P w K mg base uN k fa fd [x] (v5 K sp)) (hbind:∀(s:ah) (u:af),DD s fd ⟨[u],[]⟩ [(x,u)])
  (hsp:∀H:aG,H T=some (.tab xt)->sp [.fl (ns.map D.int)] H (fun d _=>d=.bl true)) :
  wt (cf P w) BF (.call (.ref fa) ⟨[.ref a],[]⟩) (fun r s'=>r=.ok (.ret (.bool true))/\OldK s₁.heap s'.heap/\s'.os=s₁.os/\tI s'.gens) s₁:=by
 have rv:=lz hi
 have lenV:=hi.length
 obtain⟨bm,ob,hbm,hb1,hb2,hb3,hb4,hb5⟩:=TT.bmain
 obtain⟨vb,hvb⟩:=hbn
 have evb:=iL KX TT.g hvb
 rw[hbm] at evb
 cases evb
 have nbT:bm≠T:=fun z=>by rw[z,hC.2] at hb2;cases hb2;cases hb3
 have naT:a≠T:=fun z=>by rw[z,hC.2] at ha;cases ha
 have nab:a≠bm:=fun z=>by
  rw[z,hb2] at ha
  cases ha
  injection hb3 with z2
  exact absurd z2 (by decide)
 have core:∀H:Hp,Z3 T H->Yp K H a (ns.map V.int)->H bm=some (.frz ob (.own bm))->mV P w H s₁.heap->(∀b,H b≠none->b=a\/b=bm\/b=T)->(H a≠none->K.lookup a=none) ->
   wt (cf P w) BF (.call (.ref fa) ⟨[.ref a],[]⟩) (fun r s'=>r=.ok (.ret (.bool true))/\OldK s₁.heap s'.heap/\s'.os=s₁.os/\tI s'.gens) s₁:=by
  intro H hO hS hB hok hA hK
  have base_of:∀ {b:aE} {o:Obj},s₁.heap.get? b=some o->H b=none->(Av s₁.heap H).get? b=some o:=fun e n=>RZ e n
  have noA:∀ {b:aE} {o:Obj} {es:Array BB} {ep:Nat},s₁.heap.get? b=some o->o.data=.dict es ep->H b=none:=fun {b o es ep} e d=>by
   cases q:H b with
   |none=>rfl
   |some u=>
    rcases hA b (by rw[q];simp) with z | z | z
    ·rw[z,ha] at e;cases e;cases d
    ·rw[z,hb2] at e;cases e;rw[hb5] at d;cases d
    ·rw[z,hC.2] at e;cases e;cases d
  have nsK:∀ {b:aE} {m:Str->Option af},s₁.heap.Ns b m->(Av s₁.heap H).Ns b m:=fun {b m} ⟨o,es,ep,e,d,r⟩=>⟨o,es,ep,base_of e (noA e d),d,r⟩
  have hKb:K.In (Av s₁.heap H):=fun b o e=>base_of (KX b o e) (by
   cases q:H b with
   |none=>rfl
   |some u=>
    rcases hA b (by rw[q];simp) with z | z | z
    ·rw[z] at e q;rw[hK (by rw[q];simp)] at e;cases e
    ·rw[z] at e;exact (hbl _ _ hvb e).elim
    ·rw[z,hnt] at e;cases e)
  have hM:Mod K mg (Av s₁.heap H):=⟨hKb,nsK TT.g,⟨mb,nsK TT.b,TT.builtins⟩,let ⟨mc,h1,h2⟩:=TT.nolimit;⟨mc,nsK h1,h2⟩⟩
  have e0:Ba P w K mg (Av s₁.heap H) BF [] s₁ H:=⟨rfl,hM,fun b o e=>U4 e,Nat.le_of_eq (MF _ _),trivial,fun b hb=>absurd (show b∈([]:List aE) from hb) (by simp),hok,.of_eq hg⟩
  have tabK:Bv K H xt c T:=⟨ht,fun h kh=>?_,bm,ob,hvb,hb1,hB,hb3,hb4,hb5⟩
  ·have hq:v5 K sp [.ref a] H (fun v _=>v=.bl true) fun _ _ _=>False:=by
    refine⟨[.fl (ns.map D.int)],fun b=>if b=T then some (.tab xt) else none,fun d _=>d=.bl true,fun b o e=>?_,.cons (.fl hS (bI.ints ns)) .nil,hsp _ (if_pos rfl),fun d v H3' H' tk hr rd q=>?_⟩
    ·have e':(if b=T then some (O3.tab xt) else none)=some o:=e
     by_cases hb:b=T
     ·rw[if_pos hb] at e'
      cases e'
      rw[hb]
      exact⟨hO.1,c,tabK⟩
     ·rw[if_neg hb] at e';cases e'
    ·subst q
     cases rd
     rfl
   refine oo ((F _ hKb (nsK TT.g)).run BF [] s₁ H ⟨[.ref a],[]⟩ [.ref a] [.ref a] _ _ hr e0 (hbind s₁ (.ref a)) (.cons rfl .nil) hq) fun r s' h=>?_
   cases r with
   |error e=>exact e6 h
   |ok fl=>
    cases fl with
    |next=>exact e6 h
    |brk=>exact e6 h
    |cont=>exact e6 h
    |ret u=>
     obtain⟨v,H',os,bare,un,hok',r',q⟩:=h
     have q':v=.bl true:=q
     subst q'
     obtain rfl:u=t4 true:=r'
     have keep:∀b o,b≠T->s₁.heap.get? b=some o->s'.heap.get? b=some o:=fun b o nb e=>by
      rcases hO.2 b with z | z | ⟨o2,u2,z⟩
      ·exact (nb z).elim
      ·exact un.keep b o e z (by intro z;exact absurd (show b∈([]:List aE) from z) (by simp)) (by simp)
      ·have z2:=un.frzs b o2 _ z
       have e1:=(hok b _ z).1
       have e2:=(hok' b _ z2).1
       rw[e] at e1
       cases e1
       exact e2
     obtain⟨more,km⟩:=un.tbls T _ hO.1
     have eT:s'.heap.get? T=some (oi (#[]++more)):=hok' T _ km
     refine⟨rfl,⟨fun b o e=>?_,fun b o e=>?_⟩,os,bare⟩
     ·by_cases hb:b=T
      ·subst hb
       have e3:o=oi #[]:=Option.some.inj (e.symm.trans hC.2)
       subst e3
       exact .inr (.inl ⟨(hC.1.tab hC.2).isCodeTable,rfl,#[],more,rfl,eT⟩)
      ·exact .inl (keep b o hb e)
     ·by_cases hb:b=T
      ·exact⟨_,by rw[hb];exact eT⟩
      ·exact⟨o,keep b o hb e⟩
  ·have hkc:∃o,K.lookup c=some o:=by
    unfold nr at ht
    split at ht
    ·split at ht
     ·split at ht
      ·split at ht
       ·split at ht
        ·cases ht;exact⟨_,by assumption⟩
        ·cases ht
       ·cases ht
      ·cases ht
     ·cases ht
    ·cases ht
   obtain⟨o,hko⟩:=hkc
   obtain⟨o',r1,r2,r3,r4,r5,r6,r7,r8,e1,r9⟩:=hC.1
   rw[KX _ _ hko] at e1
   cases e1
   exact⟨_,r1,r2,r3,r4,r5,r6,r7,r8,kh _ _ hko,r9⟩
 have okB:cH P w (fun _=>none) s₁.heap bm (.frz ob (.own bm)):=⟨hb2,_,hb2⟩
 cases hk:K.lookup a with
 |some o=>
  have e:=KX a o hk
  rw[ha] at e
  cases e
  refine core (upd (upd (fun _=>none) bm (.frz ob (.own bm))) T (.tbl #[])) ⟨aO,fun b=>?_⟩ (.inr ⟨_,vs.toArray,_,hk,rfl,rfl,rfl,by rw[cw,lenV];exact hl,by simpa using rv⟩) (by rw[aC nbT,aO]) (fun b u z=>?_) (fun b z=>?_) fun z=>absurd (by rw[aC naT,aC nab]) z
  ·by_cases h1:b=T
   ·exact .inl h1
   ·by_cases h2:b=bm
    ·exact .inr (.inr ⟨ob,.own bm,by rw[aC h1,h2,aO]⟩)
    ·exact .inr (.inl (by rw[aC h1,aC h2]))
  ·by_cases h1:b=T
   ·rw[h1,aO] at z;cases z;rw[h1];exact hC.2
   ·rw[aC h1] at z
    by_cases h2:b=bm
    ·rw[h2,aO] at z;cases z;rw[h2];exact⟨hb2,_,hb2⟩
    ·rw[aC h2] at z;cases z
  ·by_cases h1:b=T
   ·exact .inr (.inr h1)
   ·rw[aC h1] at z
    by_cases h2:b=bm
    ·exact .inr (.inl h2)
    ·rw[aC h2] at z;exact (z rfl).elim
 |none=>
  refine core (upd (upd (upd (fun _=>none) a (.frz { cls:=.type "list",data:=.seq vs.toArray } (.lst (ns.map V.int)))) bm (.frz ob (.own bm))) T (.tbl #[])) ⟨aO,fun b=>?_⟩ (.inl ⟨{ cls:=.type "list",data:=.seq vs.toArray },by rw[aC naT,aC nab,aO]⟩) (by rw[aC nbT,aO]) (fun b u z=>?_) (fun b z=>?_) fun _=>hk
  ·by_cases h1:b=T
   ·exact .inl h1
   ·by_cases h2:b=bm
    ·exact .inr (.inr ⟨ob,.own bm,by rw[aC h1,h2,aO]⟩)
    ·by_cases h3:b=a
     ·exact .inr (.inr ⟨_,_,by rw[aC h1,aC h2,h3,aO]⟩)
     ·exact .inr (.inl (by rw[aC h1,aC h2,aC h3]))
  ·by_cases h1:b=T
   ·rw[h1,aO] at z;cases z;rw[h1];exact hC.2
   ·rw[aC h1] at z
    by_cases h2:b=bm
    ·rw[h2,aO] at z;cases z;rw[h2];exact⟨hb2,_,hb2⟩
    ·rw[aC h2] at z
     by_cases h3:b=a
     ·rw[h3,aO] at z;cases z;rw[h3]
      exact⟨ha,by rw[aw];exact hl,vs,_,rv,ha⟩
     ·rw[aC h3] at z;cases z
  ·by_cases h1:b=T
   ·exact .inr (.inr h1)
   ·rw[aC h1] at z
    by_cases h2:b=bm
    ·exact .inr (.inl h2)
    ·rw[aC h2] at z
     by_cases h3:b=a
     ·exact .inl h3
     ·rw[aC h3] at z;exact (z rfl).elim
theorem O5{l:FI}{n k:Nat}{q:b5}{loose:List Str}{XP:(Str->Option af)->eJ->Prop}{YP:cE->eJ->Prop}{d dt:DefRec}{K:F5->ae}{sp:mU}{x xt:Str}{c T bm:aE}
  (hn:l.most=some n) (hn2:n<=bS) (hdf:d.params.defaults=[]) (hr:cW k BF)
  (hY:∀(w:cE) (h:eJ),YP w h->(K w.params).In h)
  (hrec:(recsOf q).find? (fun e=>e.name==xt)=some dt) (ht:∀w:cE,nr (K w.params) xt=some (c,T)) (hb:∀w:cE,br (K w.params) ba "__builtins__" = some (some (.ref bm))) (hnb:∀w:cE,(K w.params).lookup bm=none) (hnt:∀w:cE,(K w.params).lookup T=none)
  (F:∀ (w:cE) (mg:Str→Option af) (fa:aE) (h:eJ),(K w.params).In h→h.Ns ba mg→mg d.name = some (.ref fa) →
   ∃fd:gc,(∀(s:ah) (u:af),DD s fd ⟨[u],[]⟩ [(x,u)]) /\
    ∀base:eJ,(K w.params).In base->base.Ns ba mg->pM l.prog w (K w.params) mg base uN k fa fd [x] (v5 (K w.params) sp))
  (hsp:∀(H:aG) (ns:List Int),ns.length<=n->H T=some (.tab xt)->sp [.fl (ns.map D.int)] H (fun d _=>d=.bl true)) :
  PySem.W.WalkO q loose XP YP l.row.toRowW d [] (fun f vs=>KI f vs):=by
 refine Att.Ck hn hdf fun w s₀ s₁ mg mb fa o pm cd doc a vs ns G Y ho hd hcd hmg hobj hints hlen hg=>?_
 have KX:=hY w _ Y
 obtain⟨fd,hbd,hF⟩:=F w mg fa _ KX G.T.g hmg
 exact Ko KX G.T hg (PySem.W.tab_of G.T KX hrec (ht w)) (ht w) ⟨_,hb w⟩ (hnt w) (fun b o e1 e2=>by rw[hb w] at e1;cases e1;rw[hnb w] at e2;cases e2) hobj hints (eh hlen hn2) hr hF hbd fun H h=>hsp H ns hlen h
theorem Rg{K:ae}{x:Str}{f c T:aE}{oc oc':af}{od od':Option aE}{sl sl':Array (Option af)}{fd:gc}{vs:Array af}(h1:br K ba x=some (some (.ref f)))(h2:K.lookup f=some ⟨oc,od,.func fd,sl⟩)(h3:fd.code=.ref c)
  (h4:K.lookup c=some ⟨oc',od',.fields vs,sl'⟩) (h5:vs[11]?=some (.ref T)):nr K x=some (c,T):=by
 unfold nr
 rw[h1]
 dsimp only
 rw[h2]
 dsimp only
 rw[h3]
 dsimp only
 rw[h4]
 dsimp only
 rw[h5]
def ezk(x:D)(H:aG)(R:List D->(aG->Prop)->aG->Prop):Prop:=match x with
 |.str z=>z.cps.all (· < 128)=true/\R (ig (pN 0 (lets z).length) (lets z)) (fun _=>True) H
 |_=>False
def iez(te:bL):Cd:=fun σ H R=>te σ H fun x H1=>ezk x H1 R
theorem aa2{te:bL}{σ:cz}{H:aG}{R:List D->(aG->Prop)->aG->Prop}(h:te σ H fun x H1=>ezk x H1 R):iez te σ H R:=h
theorem Iw{z:Str}{H:aG}{R:List D->(aG->Prop)->aG->Prop}(ha:z.cps.all (· < 128)=true)(q:R (ig (pN 0 (lets z).length) (lets z)) (fun _=>True) H):ezk (.str z) H R:=⟨ha,q⟩
def Zb(x:Str):It :=
 ⟨fun i _=>∃c,x.cps[i]?=some c,
   fun i H v H'=>∃T c,v=.ref T/\H T=none/\H'=upd H T (.tup [.int i,.str ⟨#[c]⟩])/\x.cps[i]?=some c,
   fun i _=>x.cps.size<=i⟩
theorem GD{x:Str}{t:Tok}{P:b5}{w:cE}{K:ae}{elts:List cS}{kt:Nat}{pt:Pos}(e it:aE)(hne:e≠it) :
  Turn P w K (.Tuple elts kt pt) (Zb x) [e,it] e (fun i h=>i<=x.cps.size/\(∃old,IsEnum h e it i old)/\h.IsStrIter it "str_ascii_iterator" x t i) where
 mem:=by simp
 obj:=by
  rintro i h ⟨_,⟨old,h1⟩,⟨o4,h4,c4,d4⟩⟩ c hc
  simp only[bE,gx,or_false] at hc
  rcases hc with rfl | rfl
  ·exact⟨_,h1,fun v z=>nomatch z⟩
  ·exact⟨_,h4,fun v z=>by rw[d4] at z;cases z⟩
 keep:=by
  rintro i h h' ⟨hi,⟨old,h1⟩,⟨o4,h4,r4⟩⟩ k
  exact⟨hi,⟨old,k e (by simp) _ h1⟩,o4,k it (by simp) o4 h4,r4⟩
 item:=by
  intro X hP hw hK hc i pins s σ H E I hf st hg
  subst hP hw hK
  obtain⟨c,hx⟩:=hg
  obtain⟨_,⟨old,h1⟩,h4⟩:=st
  have hT:H s.heap.objs.size=none:=I.hok.fresh (aT _)
  have hlt:i<x.cps.size:=(fS.mp hx).1
  refine wpAny_pyNext_enum_itemD (n9 (prog:=X.prog) (w:=X.w) (A:=X.A.in1) (I.ok.hd hc) it x t) h1 h4 hlt hne (by simp[hne]) fun u h' tk p a1 a2 a3 a4 a5=>?_
  obtain⟨c',u',hc',rfl⟩:=p
  have ec:c'=c:=Option.some.inj (hc'.symm.trans hx)
  subst ec
  refine⟨_,rfl,?_⟩
  refine wpAny_letOwnedTupleGo_enum (s:={ s with heap:=h',toks:=tk+1 }) a1 fun h'' b1 b2=>?_
  have lt:∀ {c o},s.heap.get? c=some o->s.heap.objs.size≠c:=fun q=>g9 (bp q)
  have new:h''.get? s.heap.objs.size=some { cls:=.type "tuple",data:=.seq #[.int i tk,.str ⟨#[c']⟩ u'] }:=(b2.2 _ (lt h1)).trans a3
  have I1:L2.Inv X pins σ (upd H s.heap.objs.size (.tup [.int i,.str ⟨#[c']⟩])) { s with heap:=h'',toks:=tk+1 }:=by
   refine tX (ch:=[e,it]) I (fun c o hcn q=>?_) hf (aT _) ⟨?_,[.int i tk,.str ⟨#[c']⟩ u'],.cons ⟨_,rfl⟩ (.cons ⟨_,rfl⟩ .nil),⟨_,new,rfl,_,rfl,rfl⟩⟩
   ·have n1:c≠e:=fun w=>hcn (by simp[w])
    exact (b2.2 c n1).trans (a5 c o n1 (fun w=>hcn (by simp[w])) q)
   ·show 2<=bS;decide
  refine⟨.ref s.heap.objs.size,_,I1,rfl,⟨_,c',rfl,hT,rfl,hx⟩,⟨hlt,⟨_,b1⟩,?_⟩,fun d hcm=>?_⟩
  ·obtain⟨o,q,r⟩:=a2
   exact⟨o,(b2.2 it (fm hne)).trans q,r⟩
  have hcn:H d=none:=(hf d hcm).1
  have:d≠s.heap.objs.size:=by
   obtain⟨o,q,_⟩:∃o,s.heap.get? d=some o/\True:=by
    simp only[bE,gx,or_false] at hcm
    rcases hcm with rfl | rfl
    ·exact⟨_,h1,trivial⟩
    ·obtain⟨o,q,_⟩:=h4;exact⟨o,q,trivial⟩
   exact (lt q).symm
  rw[aC this];exact hcn
 done:=by
  intro X hP hw hK hc i pins s σ H E I hf st hg
  subst hP hw hK
  obtain⟨hi,⟨old,h1⟩,h4⟩:=st
  have e0:i=x.cps.size:=sN hi hg
  subst e0
  refine wpAny_pyNext_enum_endD (n9 (prog:=X.prog) (w:=X.w) (A:=X.A.in1) (I.ok.hd hc) it x t) h1 h4 fun h' k=>⟨rfl,?_⟩
  exact BK (t':=s.toks) (ch:=[e,it]) I (fun c o hcn q=>k c o (fun w=>hcn (by simp[w])) q) hf
 self:=fun A i s Q E st h=>by
  obtain⟨old,h1⟩:=st.2.1
  exact DV h1 h
section
variable{X:Cx}{tg:cS}
theorem QQ{x:Str}(ha:x.cps.all (· < 128)=true):strIterType x = "str_ascii_iterator":=by unfold strIterType;rw[if_pos ha]
def Wu(te:TA):L2.TI:=fun σ H R=>te σ H fun vs H1=>∃z:Str,vs=[.str z]/\z.cps.all (· < 128)=true/\R (Zb z) H1
theorem Rq{a:cS}{ta:TA}{p pos pt:Pos}{elts:List cS}{kt:Nat}(hg:Gl X "enumerate")(hm:X.mg "enumerate" = none)(ha:PA X [a] ta)(hs:aI [a] X.env=[(false,eR a X.env)]:=by rfl) :
  PI X (.Tuple elts kt pt) (.Call (.Name "enumerate" p) [a] [] pos) (Wu ta):=by
 intro pins s σ H R I h
 refine JY (gf I hg hm Ng (fw (cC (ha pos pins s σ H _ I h) fun us s1 ⟨vs,H1,I1,r1,z,e,hz,q⟩=>?_) (by rw[hs];rfl) (by rfl)))
 subst e
 obtain⟨u,rfl,e1⟩:=vals1 r1
 obtain⟨t,rfl⟩:=e1
 refine call_enumerate_str fun h' he hit hsz hk=>?_
 rw[QQ hz] at hit
 refine DV (s:={ s1 with heap:=h' }) he ?_
 have I2:L2.Inv X pins σ H1 { s1 with heap:=h',toks:=s1.toks }:=I1.kept (t':=s1.toks) hk
 refine⟨_,_,_,_,H1,rfl,I2,GD (t:=t) _ _ (g9 (Nat.lt_succ_self _)),⟨ef _,⟨_,he⟩,hit⟩,fun b hb=>?_,q⟩
 simp only[bE,gx,or_false] at hb
 have hge:s1.heap.objs.size<=b:=by rcases hb with rfl | rfl <;> grind
 exact I1.wC (b:=b) (H':=H1) hge (I1.hok.fresh hge)
theorem HB{K:ae}{H:Hp}{z:Str}:yt K H (ig (pN 0 (lets z).length) (lets z)) (fun _=>True) (Zb z):=fun H3 H' _ hr _=>by
 have hz:(lets z).length=z.cps.size:=by unfold lets;rw[aw,d3]
 refine⟨fun i hi=>?_,?_⟩
 ·rw[zV,hz] at hi
  refine⟨⟨z.cps[i],by simp[hi]⟩,fun v H'' y=>?_⟩
  obtain⟨T,c,rfl,hT,rfl,hc⟩:=y
  have hc2:(lets z)[i]?=some (.str ⟨#[c]⟩):=by unfold lets;rw[aS,i8,hc];rfl
  refine⟨TK.fresh hT,hr.tup hT,.tup [.int i,.str ⟨#[c]⟩],?_,.tup aO (.cons (.int i) (.cons (.str _) .nil))⟩
  unfold ig
  rw[nv,hc2,vo (by rw[hz];exact hi)]
  simp only[mv]
 ·rw[zV,hz];exact aT _
theorem Es{a:cS}{ta:bL}{p pos pt:Pos}{elts:List cS}{kt:Nat}(hm:X.mg "enumerate" = none)(ha:b8 X a ta)(hg:Gl X "enumerate":=by rfl)(hs:aI [a] X.env=[(false,eR a X.env)]:=by rfl)
  (hs1:aI [a] X.env=(false,eR a X.env)::aI [] X.env:=by rfl):NZ X (.Tuple elts kt pt) (.Call (.Name "enumerate" p) [a] [] pos) (iez ta) :=
 mq (Rq hg hm (aa ha aA hs1) hs) fun _ _ _ ⟨σ3,H3,R3,sr,hr,t,k⟩=>by
  refine⟨σ3,H3,fun ds H1=>(match ds with | [x]=>ezk x H1 R3 | _=>False),sr,hr,t,fun ds vs H3a Ha tka hra rs qa=>?_⟩
  cases rs with
  |nil=>exact qa.elim
  |cons r1 r2=>
   cases r2 with
   |cons _ _=>exact qa.elim
   |nil=>
    cases r1 with
    |str z=>exact⟨z,rfl,qa.1,k _ _ _ _ _ tka hra HB qa.2⟩
    |_=>exact qa.elim
end
end L3
namespace L3
open PySem L2
def chk(r':R3)(tc:bL)(σ:cz)(y z:D)(H:aG)(Q:aX):Prop:=match z with
 |.bl k=>if k=true then tc σ H fun w H4=>r' y w H4 Q else Q (.bl false) H
 |_=>False
def ch3(r r':R3)(ta tb tc:bL):bL:=fun σ H Q=>ta σ H fun x H1=>tb σ H1 fun y H2=>r x y H2 fun z H3=>chk r' tc σ y z H3 Q
theorem Z5{r r':R3}{ta tb tc:bL}{σ:cz}{H:aG}{Q:aX}(h:ta σ H fun x H1=>tb σ H1 fun y H2=>r x y H2 fun z H3=>chk r' tc σ y z H3 Q):ch3 r r' ta tb tc σ H Q:=h
theorem abI{r':R3}{tc:bL}{σ:cz}{y:D}{k:Bool}{H:aG}{Q:aX}(h:if k=true then tc σ H fun w H4=>r' y w H4 Q else Q (.bl false) H):chk r' tc σ y (.bl k) H Q:=h
end L3
namespace L3
open PySem PySem.Spec PyProof.Rows L2
section
variable{X:Cx}{a b c:cS}{ta tb tc:bL}{pos:Pos}
theorem U6{K:ae}{r r':R3}{σ:St}{H:Hp}{Q:VK}(h:fP K (ch3 r r' ta tb tc) σ H Q):Qp (cg K r) (cg K r') (fP K ta) (fP K tb) (fP K tc) σ H Q:=by
 obtain⟨σ3,H3,Q3,sr,hr,t,k⟩:=h
 refine⟨σ3,H3,_,sr,hr,t,fun x v H3a Ha tka hra rx qa=>⟨σ3,H3a,_,sr.mono tka,hra,qa,fun y u H3b Hb tkb hrb ry qb=>
  ⟨x,y,H3b,fun z H4=>chk r' tc σ3 y z H4 Q3,hrb,rx.mono tkb,ry,qb,fun z w H3c Hc tkc hrc rz qc=>?_⟩⟩⟩
 have tk:=tka.trans (tkb.trans tkc)
 cases rz with
 |bl d=>
  refine⟨d,rfl,?_⟩
  cases d with
  |false=>rw[if_neg ip];exact k _ _ _ _ tk hrc (.bl false) qc
  |true=>
   rw[if_pos rfl]
   exact⟨σ3,H3c,_,sr.mono tk,hrc,qc,fun w' v' H3d Hd tkd hrd rw' qd=>⟨y,w',H3d,Q3,hrd,ry.mono (tkc.trans tkd),rw',qd,k.mono (tk.trans tkd)⟩⟩
 |_=>exact qc.elim
theorem zF{op op':Cc}{r r':R3}(ho:gW X (eW op) (cg X.K r))(ho':gW X (eW op') (cg X.K r'))(ha:b8 X a ta)(hb:b8 X b tb)(hc:b8 X c tc)
  (hm:lastMarks [op,op'] [b,c]=false:=by with_unfolding_all rfl):KZ X (.Compare a [op,op'] [b,c] pos) (jx (ch3 r r' ta tb tc)) :=
 wH (O1 ho ho' ha hb hc hm) fun _ _ _ zz=>zz.ex fun σ3 H3 Q3 sr hr t k=>U6 ⟨σ3,H3,_,sr,hr,t,vf k⟩
end
end L3
namespace L3
open PySem L2
def Zt(lo:Int)(n:Nat):List D:=(dc n).map fun (i:Nat)=>D.int (lo+2*(i:Int))
theorem u5(lo:Int)(n:Nat):(Zt lo n).length=n:=by simp[Zt]
theorem JL{lo:Int}{n i:Nat}(h:i<n):(Zt lo n)[i]?=some (.int (lo+2*i)):=by simp[Zt,h]
def rgu(x y z:D)(H:aG)(R:List D->(aG->Prop)->aG->Prop):Prop:=∃a b:Int,x=.int a/\y=.int b/\z=.int 2/\R (Zt a ((b-a+1) / 2).toNat) (fun _=>True) H
def iru(ta tb tc:bL):Cd:=fun σ H R=>ta σ H fun x H1=>tb σ H1 fun y H2=>tc σ H2 fun z H3=>rgu x y z H3 R
theorem abb{ta tb tc:bL}{σ:cz}{H:aG}{R:List D->(aG->Prop)->aG->Prop}(h:ta σ H fun x H1=>tb σ H1 fun y H2=>tc σ H2 fun z H3=>rgu x y z H3 R):iru ta tb tc σ H R:=h
theorem aaj{a b:Int}{H:aG}{R:List D->(aG->Prop)->aG->Prop}(q:R (Zt a ((b-a+1) / 2).toNat) (fun _=>True) H):rgu (.int a) (.int b) (.int 2) H R:=⟨a,b,rfl,rfl,rfl,q⟩
end L3
namespace L3
open PySem PySem.Spec PyProof.Rows L2
def Itu(hi:Int)(n:Nat):It:=⟨fun i _=>i<n,fun i H x H'=>H'=H/\x=.int (hi+2*i),fun i _=>n<=i⟩
theorem G6{P:b5}{w:cE}{K:ae}{tg:cS}(it:aE)(hi:Int)(n:Nat):Turn P w K tg (Itu hi n) [it] it (fun i h=>uu h it (hi+2*(i:Nat)) ((n:Int)-(i:Nat)) 2) where
 mem:=ay.mpr rfl
 obj:=fun i h st b hb=>by
  rw[ay.mp hb]
  exact⟨_,st,fun v z=>by have z':AV _=Data.cell v:=z;cases z'⟩
 keep:=fun i h h' st k=>k it (ay.mpr rfl) _ st
 item:=by
  intro X hP hw hK hc i pins s σ H E I hf st hg
  subst hP hw hK
  obtain⟨f0,f1,f2,f3,f4,f5⟩:=hf it (ay.mpr rfl)
  have hlt:i<n:=hg
  refine zd st (by grind) fun h' st' sb=>?_
  have I1:L2.Inv X pins σ H { s with heap:=h',toks:=s.toks+1 }:=I.turned (fun b o hb e=>(sb.2 b hb).trans e) f0 f1 f3 f4 f5
  have st2:uu h' it (hi+2*((i+1:Nat):Int)) ((n:Int)-((i+1:Nat):Int)) 2:=by
   have e1:hi+2*(i:Int)+2=hi+2*((i+1:Nat):Int):=by omega
   have e2:(n:Int)-(i:Int)-1=(n:Int)-((i+1:Nat):Int):=by grind
   rw[←e1,←e2];exact st'
  exact⟨_,rfl,wK (s:={ s with heap:=h',toks:=s.toks+1 }) (n := "longrange_iterator") st2 rfl rfl (by decide) ⟨.int (hi+2*i),H,I1,⟨s.toks,rfl⟩,⟨rfl,rfl⟩,st2,fun b hb=>(hf b hb).1⟩⟩
 done:=by
  intro X hP hw hK hc i pins s σ H E I hf st hg
  subst hP hw hK
  obtain⟨f0,f1,f2,f3,f4,f5⟩:=hf it (ay.mpr rfl)
  have hle:n<=i:=hg
  exact AL (I.ok.hd hc) st (by grind) fun h' eb=>⟨rfl,I.turned (t':=s.toks) (fun b o hb e=>eb b o hb e) f0 f1 f3 f4 f5⟩
 self:=fun _ _ _ _ _ st h=>AM st h
theorem EY{P:b5}{w:cE}{K:ae}{tg:cS}(it:aE)(hi:Int)(n:Nat):Turn P w K tg (Itu hi n) [it] it (fun i h=>wm h it (hi+2*(i:Nat)) ((n:Int)-(i:Nat)) 2) where
 mem:=ay.mpr rfl
 obj:=fun i h st b hb=>by
  rw[ay.mp hb]
  exact⟨_,st,fun v z=>by have z':AV _=Data.cell v:=z;cases z'⟩
 keep:=fun i h h' st k=>k it (ay.mpr rfl) _ st
 item:=by
  intro X hP hw hK hc i pins s σ H E I hf st hg
  subst hP hw hK
  obtain⟨f0,f1,f2,f3,f4,f5⟩:=hf it (ay.mpr rfl)
  have hlt:i<n:=hg
  refine wpAny_pyNext_range_item st (by grind) fun h' st' sb=>?_
  have I1:L2.Inv X pins σ H { s with heap:=h',toks:=s.toks+1 }:=I.turned (fun b o hb e=>(sb.2 b hb).trans e) f0 f1 f3 f4 f5
  have st2:wm h' it (hi+2*((i+1:Nat):Int)) ((n:Int)-((i+1:Nat):Int)) 2:=by
   have e1:hi+2*(i:Int)+2=hi+2*((i+1:Nat):Int):=by omega
   have e2:(n:Int)-(i:Int)-1=(n:Int)-((i+1:Nat):Int):=by grind
   rw[←e1,←e2];exact st'
  exact⟨_,rfl,wK (s:={ s with heap:=h',toks:=s.toks+1 }) (n := "range_iterator") st2 rfl rfl (by decide) ⟨.int (hi+2*i),H,I1,⟨s.toks,rfl⟩,⟨rfl,rfl⟩,st2,fun b hb=>(hf b hb).1⟩⟩
 done:=by
  intro X hP hw hK hc i pins s σ H E I hf st hg
  subst hP hw hK
  obtain⟨f0,f1,f2,f3,f4,f5⟩:=hf it (ay.mpr rfl)
  have hle:n<=i:=hg
  exact y4 (I.ok.hd hc) st (by grind) fun h' eb=>⟨rfl,I.turned (t':=s.toks) (fun b o hb e=>eb b o hb e) f0 f1 f3 f4 f5⟩
 self:=fun _ _ _ _ _ st h=>y6 st h
theorem Th(a b:Int):me a b 2=(((b-a+1) / 2).toNat:Int):=by
 delta me
 rw[if_pos (by decide)]
 split <;> omega
section
variable{X:Cx}{tg:cS}
theorem Hr{pins:List (aE×Obj)}{σ:St}{H:Hp}{s:ah}{R:It->Hp->Prop}{E:af->ah->Prop}{hi lo:Int}{t u v:Tok}{tk:Nat}(I:L2.Inv X pins σ H s)(q:R (Itu hi ((lo-hi+1) / 2).toNat) H) :
  bq (cf X.prog X.w) X.A (IJ (.ref s.heap.objs.size)) (PIE X pins σ tg R) E { s with heap:=s.heap.push { cls:=.type "range",data:=.fields #[.int hi t,.int lo u,.int 2 v] },toks:=tk }:=by
 have I1:L2.Inv X pins σ H { s with heap:=s.heap.push { cls:=.type "range",data:=.fields #[.int hi t,.int lo u,.int 2 v] },toks:=tk }:=I.kept fun b o e=>av _ e
 have e2:((((lo-hi+1) / 2).toNat:Nat):Int)-((0:Nat):Int)=me hi lo 2:=by rw[Th];exact DZ _
 have e1:hi+2*((0:Nat):Int)=hi:=by omega
 have hf:∀b∈[(s.heap.push { cls:=.type "range",data:=.fields #[.int hi t,.int lo u,.int 2 v] }).objs.size],j9 X pins H b:=fun b hb=>by
  rw[ay.mp hb]
  exact I1.wC (aT _) (I1.hok.fresh (aT _))
 cases hs:BI hi lo 2 with
 |true=>
  refine CM (A3 ..) hs ⟨_,_,_,_,H,rfl,I1.kept (t':=tk) fun b o e=>av _ e,EY _ hi ((lo-hi+1) / 2).toNat,?_,hf,q⟩
  show wm _ _ (hi+2*((0:Nat):Int)) (((((lo-hi+1) / 2).toNat:Nat):Int)-((0:Nat):Int)) 2
  rw[e1,e2]
  exact bP _ rfl
 |false=>
  refine ze (A3 ..) hs ⟨_,_,_,_,H,rfl,I1.kept (t':=tk) fun b o e=>av _ e,G6 _ hi ((lo-hi+1) / 2).toNat,?_,hf,q⟩
  show uu _ _ (hi+2*((0:Nat):Int)) (((((lo-hi+1) / 2).toNat:Nat):Int)-((0:Nat):Int)) 2
  rw[e1,e2]
  exact bP _ rfl
def abB(ta:TA):L2.TI:=fun σ H R=>ta σ H fun vs H1=>∃i j:Int,vs=[.int i,.int j,.int 2]/\R (Itu i ((j-i+1) / 2).toNat) H1
theorem Mm{a b c:cS}{ta:TA}{p pos:Pos}(hg:Gl X "range")(hm:X.mg "range" = none)(ha:PA X [a,b,c] ta)(hs:aI [a,b,c] X.env=(false,eR a X.env)::aI [b,c] X.env:=by rfl)
  (hs2:aI [b,c] X.env=(false,eR b X.env)::aI [c] X.env:=by rfl) (hs3:aI [c] X.env=(false,eR c X.env)::aI [] X.env:=by rfl):PI X tg (.Call (.Name "range" p) [a,b,c] [] pos) (abB ta):=by
 intro pins s σ H R I h
 refine JY (gf I hg hm GU (fw (cC (ha pos pins s σ H _ I h) fun us s1 zz=>?_) hs (by rw[hs2,hs3];rfl)))
 obtain⟨vs,H1,I1,r1,i,j,e,q⟩:=zz
 subst e
 obtain⟨u,us1,rfl,⟨t,rfl⟩,r2⟩:∃u us1,us=u::us1/\RelV (.int i) u/\Vals [.int j,.int 2] us1:=by
  cases r1 with
  |cons r1 r2=>exact⟨_,_,rfl,r1,r2⟩
 obtain⟨u2,u3,rfl,⟨t2,rfl⟩,⟨t3,rfl⟩⟩:=vals2 r2
 exact call_range_3 (by decide) (Hr I1 q) (nN (PyProof.noPylong_small (by decide)))
theorem Qh{K:ae}{H:Hp}{hi:Int}{n:Nat}:yt K H (Zt hi n) (fun _=>True) (Itu hi n):=fun H3 H' tk hr _=>by
 refine⟨fun i hi=>?_,?_⟩
 ·rw[u5] at hi
  refine⟨hi,fun x H'' y=>?_⟩
  obtain⟨e,y⟩:=y
  subst y
  subst e
  exact⟨TK.refl,hr,_,JL hi,.int _⟩
 ·rw[u5];exact aT _
theorem UT{a b c:cS}{ta tb tc:bL}{p pos:Pos}(hm:X.mg "range" = none)(ha:b8 X a ta)(hb:b8 X b tb)(hc:b8 X c tc)(hg:Gl X "range":=by rfl)
  (hs1:aI [a,b,c] X.env=(false,eR a X.env)::aI [b,c] X.env:=by rfl) (hs2:aI [b,c] X.env=(false,eR b X.env)::aI [c] X.env:=by rfl) (hs3:aI [c] X.env=(false,eR c X.env)::aI [] X.env:=by rfl) :
  NZ X tg (.Call (.Name "range" p) [a,b,c] [] pos) (iru ta tb tc) :=
 mq (Mm hg hm (aa ha (aa hb (aa hc aA hs3) hs2) hs1) hs1 hs2 hs3) fun _ _ _ ⟨σ3,H3,R3,sr,hr,t,k⟩=>by
  refine⟨σ3,H3,fun ds H1=>(match ds with | [x,y,z]=>rgu x y z H1 R3 | _=>False),sr,hr,t,fun ds vs H3a Ha tka hra rs qa=>?_⟩
  cases rs with
  |nil=>exact qa.elim
  |cons r1 rs=>cases rs with
   |nil=>exact qa.elim
   |cons r2 rs=>cases rs with
    |nil=>exact qa.elim
    |cons r3 rs=>cases rs with
     |cons _ _=>exact qa.elim
     |nil=>
      obtain⟨i,j,rfl,rfl,rfl,q⟩:=qa
      cases r1;cases r2;cases r3
      exact⟨i,j,rfl,k _ _ _ _ _ tka hra Qh q⟩
end
section
variable{X:Cx}{pins:List (aE×Obj)}{σ:St}{H:Hp}{s:ah}{a:aE}{kvs:List (Key×V)}{k:Key}{u:af}{A:dS}{E:af->ah->Prop}
theorem Q5{v:V}{r:af}{Q:af->ah->Prop}(I:L2.Inv X pins σ H s)(e:H a=some (.dK kvs))(ry:RelV (kV k) u)(rv:RelV v r)(hl:kvs.length<bS)
  (h1:∀y,jm kvs k=some y->∀w' s',L2.Inv X pins σ H s'->RelV y w'->Q w' s') (h2:jm kvs k=none->∀s',L2.Inv X pins σ (upd H a (.dK (putK kvs k v))) s'->Q r s') :
  bq (cf X.prog X.w) A (call (.builtin "dict.setdefault") [.ref a,u,r]) Q E s:=by
 obtain⟨z,hd,vs,rel,dd⟩:=Qu I.hok e
 have hz:vs.length<=bS:=by rw[←rel.length];exact z
 refine call_meetsIn tj dd.typeIs PySem.F.entry_dict_setdefault (PySem.F.args_dict_setdefault_3 _ _ _) (kt_meets_setdefault (bO X.prog X.w) a (uB ry) hd r) ⟨vs,dd,hz,fun w' hw=>?_,fun hn h' dd' hs=>?_⟩
 ·cases e2:jm kvs k with
  |none=>
   have:=nY.none_of (o:=lj vs k) (by rw[←e2];exact rel.val k)
   rw[this] at hw;cases hw
  |some y=>
   obtain⟨w2,hw2,rw2⟩:=nY.some_of (v:=y) (o:=lj vs k) (by rw[←e2];exact rel.val k)
   rw[hw] at hw2
   cases hw2
   exact h1 y e2 w' _ (I.tok _) rw2
 ·have e2:jm kvs k=none:=by
   cases e3:jm kvs k with
   |none=>rfl
   |some y=>
    obtain⟨w2,hw2,_⟩:=nY.some_of (v:=y) (o:=lj vs k) (by rw[←e3];exact rel.val k)
    rw[hn] at hw2;cases hw2
  have hlen:(putK kvs k v).length<=bS:=by have:=jJ kvs k v;omega
  have he:∃q,h'.get? a=some q:=let ⟨q,_,_,hq,_⟩:=dd';⟨q,hq⟩
  exact h2 e2 _ (uU I (by rw[e];exact lI) hs he (QS hlen hd (rel.put k rv) dd'))
end
def Z8(td ty tx:TE):TE:=fun σ H Q=>td σ H fun x H1=>∃a,x=.ref a/\IsD H1 a/\ty σ H1 fun y H2=>tx σ H2 fun z H3=>∃kvs k,H3 a=some (.dK kvs)/\y=kV k/\kvs.length<bS /\
 (∀v,jm kvs k=some v->Q v H3)/\(jm kvs k=none->Q z (upd H3 a (.dK (putK kvs k z))))
section
variable{X:Cx}{o e f:cS}{apos cpos:Pos}{td ty tx:TE}
theorem Rx(ho:PE X o td)(he:PE X e ty)(hf:PE X f tx)(m:M2 X o "setdefault" apos e f cpos):PE X (.Call (.Attribute o "setdefault" apos) [e,f] [] cpos) (Z8 td ty tx):=by
 intro pins s σ H Q I h
 refine wpAny_Call_method m.base m.few m.line PySem.F.plainAttrs_dict tj PySem.F.type_dict_setdefault (cC (ho pins s σ H _ I h) fun u s1 zz=>?_)
 obtain⟨x,H1,I1,rx,a,ex,d,q1⟩:=zz
 subst ex
 have eu:u=eK a:=rx
 subst eu
 have hD:=XC I1 d
 refine⟨hD.1,hD.2.1,?_⟩
 rw[m.trees]
 refine qo rfl (sk (i9 (cC (he pins s1 σ H1 _ I1 q1) fun iv s2 z2=>?_)))
 obtain⟨y,H2,I2,ry,q2⟩:=z2
 refine i9 (cC (hf pins s2 σ H2 _ I2 q2) fun fv s3 z3=>DB ?_)
 obtain⟨z,H3,I3,rz,kvs,k,ea,ey,hl,q3,q4⟩:=z3
 subst ey
 exact Q5 I3 ea ry rz hl (fun v l w' s4 I4 rw'=>⟨v,H3,I4,rw',q3 v l⟩) fun l s4 I4=>⟨z,_,I4,rz,q4 l⟩
end
end L3
namespace L3
open PySem L2
abbrev m8:=List (Key×D)
def d7(kvs:m8)(k:Key):Option D:=(kvs.find? fun kv=>decide (kv.1=k)).map (·.2)
def Kd(kvs:m8)(k:Key)(d:D):m8:=if (kvs.any fun kv=>decide (kv.1=k))=true then kvs.map (fun kv=>if kv.1=k then (kv.1,d) else kv) else kvs++[(k,d)]
def dnI:bL:=fun _ H Q=>∀p,H p=none->Q (.ref p) (aP H p (.dik []))
theorem abC{σ:cz}{H:aG}{Q:aX}(h:∀p,H p=none->Q (.ref p) (aP H p (.dik []))):dnI σ H Q:=h
def U5(a:aE)(y z:D)(H:aG)(Q:aX):Prop:=∃i kvs,y=.int i/\H a=some (.dik kvs)/\kvs.length<1000/\(∀d,d7 kvs (.inl i)=some d->Q d H)/\(d7 kvs (.inl i)=none->Q z (aP H a (.dik (Kd kvs (.inl i) z))))
def sdk(ty tx:bL)(σ:cz)(x:D)(H1:aG)(Q:aX):Prop:=∃a kvs,x=.ref a/\H1 a=some (.dik kvs)/\ty σ H1 fun y H2=>tx σ H2 fun z H3=>U5 a y z H3 Q
def sd3(td ty tx:bL):bL:=fun σ H Q=>td σ H fun x H1=>sdk ty tx σ x H1 Q
theorem aay{td ty tx:bL}{σ:cz}{H:aG}{Q:aX}(h:td σ H fun x H1=>sdk ty tx σ x H1 Q):sd3 td ty tx σ H Q:=h
theorem Wd{ty tx:bL}{σ:cz}{a:aE}{kvs:m8}{H:aG}{Q:aX}(e:H a=some (.dik kvs))(h:ty σ H fun y H2=>tx σ H2 fun z H3=>U5 a y z H3 Q):sdk ty tx σ (.ref a) H Q:=⟨a,kvs,rfl,e,h⟩
theorem aaN{a:aE}{i:Int}{z:D}{kvs:m8}{H:aG}{Q:aX}(e:H a=some (.dik kvs))(hl:kvs.length<1000)(h1:∀d,d7 kvs (.inl i)=some d->Q d H)(h2:d7 kvs (.inl i)=none->Q z (aP H a (.dik (Kd kvs (.inl i) z)))):U5 a (.int i) z H Q:=⟨i,kvs,rfl,e,hl,h1,h2⟩
end L3
namespace L3
open PySem PySem.Spec PyProof.Rows L2
theorem TK.dK{H:Hp}{p:aE}{o:HO}{xs:List (Key×V)}(n:H p=some (.dK xs)):TK H (upd H p o) :=
 ⟨fun a ys h=>by rw[aC (pR h n (by intro z;cases z))];exact h,fun a o' u h=>by rw[aC (pR h n (by intro z;cases z))];exact h⟩
abbrev wX(K:ae)(H:Hp):m8->List (Key×V)->Prop:=Paired (fun (p:Key×D) (q:Key×V)=>p.1=q.1/\Rep K H p.2 q.2)
section
variable{K:ae}{H:Hp}{k:Key}
theorem wX.look:∀ {kvs:m8} {ks:List (Key×V)},wX K H kvs ks->(jm ks k).isSome=(d7 kvs k).isSome/\∀d,d7 kvs k=some d->∃v,jm ks k=some v/\Rep K H d v
 |_,_,.nil=>⟨rfl,fun _ h=>nomatch h⟩
 |_,_,.cons (a:=p) (b:=q) r t=>by
  have ih:=wX.look t
  by_cases e:p.1=k
  ·have e':q.1=k:=r.1.symm.trans e
   have l1:∀rest:m8,d7 (p::rest) k=some p.2:=fun rest=>by unfold d7;rw[e7 (by simpa using e)];rfl
   rw[n8 e',l1]
   exact⟨rfl,fun d h=>⟨_,rfl,by cases h;exact r.2⟩⟩
  ·have e':¬q.1=k:=fun z=>e (r.1.trans z)
   have l1:∀rest:m8,d7 (p::rest) k=d7 rest k:=fun rest=>by unfold d7;rw[eP (by simpa using e)]
   rw[ou e',l1]
   exact ih
theorem wX.any:∀ {kvs:m8} {ks:List (Key×V)},wX K H kvs ks->(kvs.any fun kv=>decide (kv.1=k))=ks.any fun kv=>decide (kv.1=k)
 |_,_,.nil=>rfl
 |_,_,.cons r t=>by rw[gv,gv,wX.any t,r.1]
theorem wX.repl{d:D}{v:V}(rd:Rep K H d v):∀ {kvs:m8} {ks:List (Key×V)},wX K H kvs ks->wX K H (kvs.map fun kv=>if kv.1=k then (kv.1,d) else kv) (ks.map fun kv=>if kv.1=k then (kv.1,v) else kv)
 |_,_,.nil=>.nil
 |_,_,.cons (a:=p) (b:=q) r t=>by
  refine .cons ?_ (wX.repl rd t)
  dsimp only
  by_cases e:p.1=k
  ·rw[if_pos e,if_pos (r.1.symm.trans e)];exact⟨r.1,rd⟩
  ·rw[if_neg e,if_neg (fun z=>e (r.1.trans z))];exact r
theorem wX.put{d:D}{v:V}{kvs:m8}{ks:List (Key×V)}(r:wX K H kvs ks)(rd:Rep K H d v):wX K H (Kd kvs k d) (putK ks k v):=by
 unfold Kd putK
 rw[←wX.any r]
 split
 ·exact wX.repl rd r
 ·exact Paired.snoc r ⟨rfl,rd⟩
theorem wX.mono{H':Hp}(t:TK H H'){kvs:m8}{ks:List (Key×V)}(r:wX K H kvs ks):wX K H' kvs ks:=Paired.xX r fun _ _ z=>⟨z.1,z.2.mono t⟩
theorem HR.aaG{H3:aG}(h:HR K H3 H){p:aE}{ks:List (Key×V)}{kvs:m8}(t:TK H (upd H p (.dK ks)))(r:wX K (upd H p (.dK ks)) kvs ks):HR K (aP H3 p (.dik kvs)) (upd H p (.dK ks)):=h.set (o3:=.dik kvs) t ⟨ks,aO,r⟩
end
section
variable{X:Cx}
theorem W8{pos:Pos}:b8 X (.Dict [] [] pos) dnI:=bT Pq fun _ _ _ ⟨_,_,_,_,hr,t,k⟩=>fun p n=>k _ _ _ _ (TK.fresh n) (hr.aaG (TK.fresh n) .nil) (.ref p) (t p (hr.fresh n))
theorem Jb{o e f:cS}{td ty tx:bL}{apos cpos:Pos}(ho:b8 X o td)(he:b8 X e ty)(hf:b8 X f tx)(m:M2 X o "setdefault" apos e f cpos):b8 X (.Call (.Attribute o "setdefault" apos) [e,f] [] cpos) (sd3 td ty tx) :=
 bT (Rx ho he hf m) fun _ _ _ zz=>zz.ex fun σ3 H3 Q3 sr hr t k=>⟨σ3,H3,_,sr,hr,t,fun x v H3a Ha tka hra rx qa=>by
  obtain⟨a,kvs0,rfl,e0,qa⟩:=qa
  cases rx
  obtain⟨ks0,g0,r0⟩:=hra a _ e0
  refine⟨a,rfl,.inl ⟨ks0,.inl g0⟩,σ3,H3a,_,sr.mono tka,hra,qa,fun y u H3b Hb tkb hrb ry qb=>⟨σ3,H3b,_,(sr.mono tka).mono tkb,hrb,qb,fun z w H3c Hc tkc hrc rz qc=>?_⟩⟩
  obtain⟨i,kvs,rfl,ec,hl,q1,q2⟩:=qc
  cases ry
  obtain⟨ks,gd,rd⟩:=hrc a _ ec
  have tk:=tka.trans (tkb.trans tkc)
  have lk:=wX.look (k:=.inl i) rd
  refine⟨ks,.inl i,gd,rfl,by rw[←Paired.length rd];exact tR (ij hl),fun v' hv=>?_,fun hn=>?_⟩
  ·cases e2:d7 kvs (.inl i) with
   |none=>have:=lk.1;rw[hv,e2] at this;cases this
   |some d=>
    obtain⟨v2,hv2,rep⟩:=lk.2 d e2
    rw[hv] at hv2
    cases hv2
    exact k _ _ _ _ tk hrc rep (q1 d e2)
  ·have e2:d7 kvs (.inl i)=none:=by
    cases e3:d7 kvs (.inl i) with
    |none=>rfl
    |some d=>have:=lk.1;rw[hn,e3] at this;cases this
   have tt:=TK.dK (o:=.dK (putK ks (.inl i) w)) gd
   exact k _ _ _ _ (tk.trans tt) (hrc.aaG tt (wX.put (wX.mono tt rd) (rz.mono tt))) (rz.mono tt) (q2 e2)⟩
end
end L3
namespace L3
open PySem L2
def gik(x y:D)(H:aG)(Q:aX):Prop:=∃a i kvs d,x=.ref a/\y=.int i/\H a=some (.dik kvs)/\d7 kvs (.inl i)=some d/\Q d H
def gi3(ta tb:bL):bL:=fun σ H Q=>ta σ H fun x H1=>tb σ H1 fun y H2=>gik x y H2 Q
theorem aaA{ta tb:bL}{σ:cz}{H:aG}{Q:aX}(h:ta σ H fun x H1=>tb σ H1 fun y H2=>gik x y H2 Q):gi3 ta tb σ H Q:=h
theorem aa6{a:aE}{i:Int}{kvs:m8}{d:D}{H:aG}{Q:aX}(e:H a=some (.dik kvs))(l:d7 kvs (.inl i)=some d)(q:Q d H):gik (.ref a) (.int i) H Q:=⟨a,i,kvs,d,rfl,rfl,e,l,q⟩
end L3
namespace L3
open PySem PySem.Spec PyProof.Rows L2
section
variable{X:Cx}{o i:cS}{ta tb:bL}{pos:Pos}
theorem PQ(hu:X.A.units+64<md)(ho:b8 X o ta)(hi:b8 X i tb)(hs:Nu i:=by exact fun _ _=>rfl):b8 X (.Subscript o i pos) (gi3 ta tb) :=
 bT (IV (pz (BN (by decide:1<=64) _) hu) ho hi hs) fun _ _ _ zz=>zz.ex fun σ3 H3 Q3 sr hr t k=>⟨σ3,H3,_,sr,hr,t,fun x v H3a Ha tka hra rx qa=>⟨σ3,H3a,_,sr.mono tka,hra,qa,fun y u H3b Hb tkb hrb ry qb=>by
  obtain⟨a,n,kvs,d,rfl,rfl,e,l,q⟩:=qb
  cases rx
  cases ry
  obtain⟨vs,gd,rd⟩:=hrb a _ e
  obtain⟨v,hv,rv⟩:=(wX.look (k:=.inl n) rd).2 d l
  exact⟨a,v,rfl,by rw[←hv];exact sO.k (k:=.inl n) gd,k _ _ _ _ (tka.trans tkb) hrb rv q⟩⟩⟩
end
end L3
namespace L3
open PySem L2
def Al:List D->aG->aX->Prop:=fun ds H Q=>∃a ns kvs,ds=[.ref a]/\H a=some (.dik kvs)/\kvs.map (·.1)=ns.map mm/\ns.length<64/\∀(ms:List Int) (p:aE),ms.Perm ns->ms.Pairwise (·<=·)->H p=none->Q (.ref p) (aP H p (.lst (ms.map D.int)))
theorem Tr{a:aE}{ns:List Int}{kvs:m8}{H:aG}{Q:aX}(e:H a=some (.dik kvs))(en:kvs.map (·.1)=ns.map mm)(hl:ns.length<64)(h:∀(ms:List Int) (p:aE),ms.Perm ns->ms.Pairwise (·<=·)->H p=none->Q (.ref p) (aP H p (.lst (ms.map D.int)))):Al [.ref a] H Q:=⟨a,ns,kvs,rfl,e,en,hl,h⟩
def kik(kvs:List (Str×D))(neg:Bool)(x:D)(H:aG)(Q:aX):Prop:=∃z,x=.str z/\Q (.bl (neg != (kvs.lookup z).isSome)) H
def ki3(kvs:List (Str×D))(neg:Bool)(te:bL):bL:=fun σ H Q=>te σ H fun x H1=>kik kvs neg x H1 Q
theorem abu{kvs:List (Str×D)}{neg:Bool}{te:bL}{σ:cz}{H:aG}{Q:aX}(h:te σ H fun x H1=>kik kvs neg x H1 Q):ki3 kvs neg te σ H Q:=h
theorem aag{kvs:List (Str×D)}{neg:Bool}{z:Str}{H:aG}{Q:aX}(h:Q (.bl (neg != (kvs.lookup z).isSome)) H):kik kvs neg (.str z) H Q:=⟨z,rfl,h⟩
end L3
namespace L3
open PySem PySem.Spec PyProof.Rows L2
section
variable{prog:b5}{w:cE}{A:dS}{E:af->ah->Prop}{s:ah}{T:String}{r d:aE}{n:Nat}{P:Nat->af->Prop}{OK:eJ->Prop}
theorem DP{Q:List af->ah->Prop}(K:HI prog w T r d n P OK)(hh:A.handled=none)(hok:OK s.heap)(hn:n<=bS)
  (hQ:∀h' tk (acc:Array af),s.heap.objs.size<=h'.objs.size->(∀b o,s.heap.get? b=some o->h'.get? b=some o)->IS P acc n->Q acc.toList { s with heap:=h',toks:=tk }):bq (cf prog w) A (collect (.ref r)) Q E s:=by
 have code:∀R:Kt->ah->Prop,(∀h' tk (acc:Array af) c',s.heap.objs.size<=h'.objs.size->(∀b o,s.heap.get? b=some o->h'.get? b=some o)->h'.get? s.heap.objs.size=some { cls:=.type "list",dict:=none,data:=.seq acc c',slots:=#[] }->IS P acc n->R (.ok (.ret (.ref s.heap.objs.size))) { s with heap:=h',toks:=tk })->wt (cf prog w) A (.builtin "proto.collect" ⟨[.ref r],[]⟩) R s:=by
  intro R hR
  refine AA PySem.F.entry_proto_collect ?_
  rw[Bi PySem.F.plain_proto_collect _]
  show bq _ A.in1 (newList [] >>= fun l=>again (.builtin "list.__iadd__" ⟨[l,.ref r],[]⟩)) _ _ s
  refine ag (w8 (bg ⟨plainId_quiet yT _,AA PySem.F.entry_list_iadd ?_⟩))
  rw[Bi yT _]
  have hS:(s.heap.push { cls:=.type "list",data:=.seq ([]:List af).toArray }).get? s.heap.objs.size=some { cls:=.type "list",data:=.seq #[] }:=bP _ rfl
  have hlt:=K.there _ hok
  show bq _ A.in1 (F2 (.ref s.heap.objs.size) (.ref r) (.ref s.heap.objs.size)) _ _ _
  exact PySem.W.kdl_extend (R:=R) (s:={ s with heap:=s.heap.push { cls:=.type "list",data:=.seq ([]:List af).toArray } }) K hh (K.keep _ _ hok fun b _ o e=>av _ e) _ (g9 hlt.1) (g9 hlt.2) _ _ hS (fun h' tk acc' c' hk hS' hacc=>hR h' tk acc' c' (ij (bp hS')) (fun b o e=>hk b o (df (bp e)) (av _ e)) hS' hacc) hn
 unfold collect
 refine ag (wpAny_runValue (code _ fun h' tk acc c' hz hk hS' hacc=>?_))
 show bq _ A (load s.heap.objs.size >>= _) _ _ _
 refine ag (wpAny_load hS' ?_)
 exact bg (hQ h' tk acc hz hk hacc)
theorem Gy{ns:List Int}{Q:af->ah->Prop}(K:HI prog w T r d n P OK)(hh:A.in1.handled=none)(hok:OK s.heap)(hn:n<=bS)(h64:n<64)(hi:∀acc:Array af,IS P acc n->lb acc.toList ns)
  (h:∀h' tk a (out:Array af) (ms:List Int) e,s.heap.objs.size<=a->lb out.toList ms->ms.Perm ns->ms.Pairwise (·<=·)->(∀b o,s.heap.get? b=some o->h'.get? b=some o)->h'.get? a=some (gu "list" out e)->Q (.ref a) { s with heap:=h',toks:=tk }) :
  bq (cf prog w) A (call (.builtin "sorted") [.ref r]) Q E s:=by
 refine vS kind_sorted plain_sorted entry_sorted (args_sorted1 _) ?_
 unfold tN.«sorted»
 refine ag (m:=checkCount "sorted" 1 1 _) (bg (ag (DP K hh hok hn fun h' tk acc hz hk hacc=>?_)))
 have hI:=hi acc hacc
 have hl:acc.toList.length=n:=by rw[d3];exact hacc.1
 refine ag (Cn ?_ (by rw[hl];exact hn))
 have hoL:(h'.push (gu "list" acc.toList.toArray 0)).get? h'.objs.size=some (gu "list" acc.toList.toArray 0):=bP _ rfl
 show bq _ _ _ _ _ { s with heap:=h'.push (gu "list" acc.toList.toArray 0),toks:=tk }
 refine ag (kF (yA slot_list_sort ⟨_,hoL,rfl⟩ entry_list_sort (list_sort_tree hoL hI (by rw[hl];exact h64) fun out ms a1 a2 a3=>⟨_,rfl,?_⟩) (args_list_sort _)))
 obtain⟨c,hc⟩:=sortedHeap_at (vs:=acc.toList) (out:=out) hoL
 refine bg ⟨_,rfl,h _ tk h'.objs.size out ms c hz a1 a2 a3 (fun b o q=>?_) hc⟩
 have q':=hk b o q
 have lt:=bp q'
 exact (sortedHeap_old (df lt) (by rw[G0];exact qr lt)).trans (av _ q')
end
theorem Paired.keys{κ α β:Type}{R:κ×α->κ×β->Prop}(h:∀p q,R p q->p.1=q.1):∀ {xs:List (κ×α)} {ys:List (κ×β)},Paired R xs ys->xs.map (·.1)=ys.map (·.1)
 |_,_,.nil=>rfl
 |_,_,.cons r t=>by rw[ck,ck,h _ _ r,Paired.keys h t]
theorem T7{P:b5}{w:cE}{i:Int}{v:af}(h:(bO P w).is (.inl i) v=true):∃t,v=.int i t:=C4 h
theorem Ks{P:b5}{w:cE}{vs:List (Key×af)}{ns:List Int}(e:vs.map (·.1)=ns.map mm){acc:Array af}(h:IS (fun i v=>∃k x,vs[i]?=some (k,x)/\(bO P w).is k v=true) acc vs.length):lb acc.toList ns:=by
 obtain⟨hl,h⟩:=h
 have h':∀i v,acc.toList[i]?=some v->∃k x,vs[i]?=some (k,x)/\(bO P w).is k v=true:=fun i v hv=>h i v (by rw[←i8];exact hv)
 have hl':acc.toList.length=vs.length:=by rw[d3];exact hl
 clear h hl
 generalize acc.toList=us at *
 induction us generalizing vs ns with
 |nil=>
  have:vs=[]:=List.length_eq_zero_iff.mp hl'.symm
  subst this
  obtain rfl:ns=[]:=List.map_eq_nil_iff.mp e.symm
  exact .nil
 |cons u us ih=>
  obtain⟨k,x,e1,e2⟩:=h' 0 u rfl
  cases vs with
  |nil=>cases e1
  |cons q vs=>
   cases e1
   cases ns with
   |nil=>cases e
   |cons m ns=>
    rw[ck,ck] at e
    obtain⟨e3,e4⟩:=List.cons.inj e
    dsimp only at e3
    subst e3
    obtain⟨t,rfl⟩:=T7 e2
    exact .cons m t (ih e4 (fun i v hv=>h' (i+1) v hv) (Nat.succ.inj hl'))
section
variable{X:Cx}
theorem M3(hc:X.calm=true):eV X (.builtin "sorted") (g8 X.K Al):=by
 intro pins s σ H xs us Q I rs h
 obtain⟨ds,H3,Q3,hr,rd,t,k⟩:=h
 obtain⟨a,ns,kvs,rfl,ha,en,h64,t⟩:=t
 cases rd with
 |cons r1 r2=>
  cases r2
  cases r1
  obtain⟨ks,ga,ra⟩:=hr a _ ha
  obtain⟨hz,hS,vs,rv,hd⟩:=Qu I.hok ga
  obtain⟨u,rfl,ru⟩:=Vals.one rs
  obtain rfl:u=eK a:=ru
  have e1:ks.map (·.1)=ns.map mm:=by rw[←en];exact (Paired.keys (fun _ _ z=>z.1) ra).symm
  have e2:vs.map (·.1)=ns.map mm:=by rw[←e1];exact (Paired.keys (fun _ _ z=>z.1) rv).symm
  have hl:vs.length=ns.length:=by have:=congrArg AZ e2;rw[aw,aw] at this;exact this
  obtain⟨ep,hd⟩:=hd.dictAt
  refine Gy (PySem.W.kdl_dict (ep:=ep) hS) (I.ok.hd hc) hd (by rw[hl];exact qD (by omega)) (by rw[hl];exact h64) (fun acc hacc=>Ks e2 hacc) fun h' tk a' out ms e za hI hp hw hk he=>?_
  have fr:H a'=none:=I.hok.fresh za
  refine⟨.ref a',_,I.laid (t':=tk) (a:=a') (o:=.lst (ms.map V.int)) hk za ⟨by rw[aw,hp.length_eq];exact qD (by omega),out.toList,e,lz hI,?_⟩,rfl,?_⟩
  ·rw[A9];exact he
  ·exact k _ _ _ _ (TK.fresh fr) (hr.wA (TK.fresh fr) (bI.ints ms)) (.ref _) (t ms _ hp hw (hr.fresh fr))
end
section
variable{X:Cx}{x:Str}{kvs:List (Str×D)}{e:cS}{p pos:Pos}
theorem Uw{a:aE}{te:TE}(hg:Gl X x)(hm:X.mg x=some (.ref a))(c:DC X.K X.w a kvs)(he:PE X e te)(hd:(x==("__debug__" : Str))=false:=by decide):PC X .NotIn e (.Name x p) (acX kvs true te):=by
 intro pins s σ H Q I h
 refine cC (he pins s σ H _ I h) fun iv s2 ⟨y,H2,I2,ry,z,ey,q2⟩=>gC I2 hg hm ?_ hd
 subst ey
 obtain⟨vs,dd,hb⟩:=Xb I2 c ry
 refine GS (uB (k:=.inr z) ry) c.ns dd.mapOf ?_
 rw[hb]
 exact⟨.bl _,H2,I2.tok _,rfl,by simpa using q2⟩
theorem RN{te:bL}(hg:Gl X x)(hm:∃a,X.mg x=some (.ref a)/\DC X.K X.w a kvs)(he:b8 X e te)(hd:(x==("__debug__" : Str))=false:=by decide):KZ X (.Compare e [.NotIn] [.Name x p] pos) (jx (ki3 kvs true te)):=by
 obtain⟨a,hm,c⟩:=hm
 refine wH (WL (Uw hg hm c he hd)) fun _ _ _ h=>?_
 obtain⟨σ3,H3,Q3,sr,hr,t,k⟩:=h
 refine⟨σ3,H3,_,sr,hr,t,fun x v H3a Ha tka hra rx qa=>?_⟩
 obtain⟨z,rfl,qa⟩:=qa
 cases rx
 exact⟨z,rfl,vf k _ _ _ _ tka hra (.bl _) qa⟩
end
end L3
namespace L3
open PySem L2
end L3
namespace L3
open PySem PySem.Spec PyProof.Rows L2
end L3
namespace L3
open PySem L2
end L3
namespace L3
open PySem PySem.Spec PyProof.Rows L2
end L3
namespace L3
open PySem L2
end L3
namespace L3
open PySem PySem.Spec PyProof.Rows L2
end L3
namespace L3
open PySem L2
end L3
namespace L3
open PySem PySem.Spec PyProof.Rows L2
end L3
namespace L3
open PySem L2
end L3
namespace L3
open PySem PySem.Spec PyProof.Rows L2
def Z2:Nat->(List af->Prop)->Prop
 |0,P=>P []
 |n+1,P=>∀u,Z2 n fun us=>P (u::us)
theorem Z2.row{P:List af->Prop}:∀ {us:List af},Z2 us.length P->P us
 |[],h=>h
 |u::_,h=>Z2.row (P:=fun us=>P (u::us)) (h u)
def pK(x qual:Str)(st:gg)(ps:List Str):Prop:=∀(kV doc pm:af) (an:Option aE) (cdv ct:af),
 Z2 ps.length fun us=>DE (kz x qual (bh st) (aQ st) (az st) .none kV doc pm an cdv ct) ⟨us,[]⟩=pure (ps.zip us)
theorem pK.of{K:ae}{x qual:Str}{st:gg}{f:aE}{fd:gc}{ps:List Str}(b:pK x qual st ps)(F:Ca K x qual st f fd):Binds K fd ps [] :=
 F.binds fun kV doc pm an cdv ct _ e=>Z2.row (e▸b kV doc pm an cdv ct)
inductive bR(K:ae)(mg:Str->Option af)(x:Str)(st:gg)(ps:List Str):Prop
 |mk {f:aE} {fd:gc} (F:Ca K x x st f fd) (hm:mg x=some (.ref f)) (hb:Binds K fd ps [])
section
variable{P:b5}{w:cE}{K:ae}{mg:Str->Option af}{base h:eJ}{x qual c m:Str}{st:gg}{f C:aE}{fd:gc}{N ps:List Str}{k:Nat}{sp:mU}{se:OJ}{t:cI}{te:iT->cI}
theorem cU{oc:af}{od an:Option aE}{osl:Array (Option af)}{kV doc pm cdv ct:af}(X:K.In h)(G:h.Ns ba mg)(a:br K ba x=some (some (.ref f)))
  (l:K.lookup f=some ⟨oc,od,.func (kz x x (bh st) (aQ st) (az st) .none kV doc pm an cdv ct),osl⟩) (d:qk K cdv x=true) (q:gp K (.ref f)=true) (b:pK x x st ps):bR K mg x st ps :=
 ⟨tH l d q,iL X G a,b.of (tH l d q)⟩
theorem jV(q:bR K mg x st ps)(S:aR N ps (az st))(len:∀ds H Q,sp ds H Q->ds.length=ps.length)
  (hbody:∀(f:aE) (cdv:af) (A:dS) (outer:List Env) (s:ah) (H:Hp) (E:XK),cW k (A.deeper (nt x (az st) s.heap.objs.size f cdv))->nF (jn uN P w K mg base N x (az st) f cdv A outer s H E).yK (aQ st) t)
  (rd:∀ds H3 Q3,sp ds H3 Q3->t (cY Q3) (aM N ds) H3):Fn P w K mg base (k+1) x ps sp:=by
 cases q with
 |mk F hm hb=>exact fn3 F S hm hb len fun cdv A outer s H E hr=>⟨t,hbody _ cdv A outer s H E hr,rd⟩
theorem Oe(q:bR K mg x st ps)(S:aR N ps (az st))(len:∀ds H Q E,se ds H Q E->ds.length=ps.length)
  (hbody:∀(f:aE) (cdv:af) (A:dS) (outer:List Env) (s:ah) (H:Hp) (E:XK) (E3:iT),cW k (A.deeper (nt x (az st) s.heap.objs.size f cdv))->KX K H E3 E->nF (jn (G8 P w) P w K mg base N x (az st) f cdv A outer s H E) (aQ st) (te E3))
  (rd:∀ds H3 Q3 E3,se ds H3 Q3 E3->te E3 (cY Q3) (aM N ds) H3):Z1 P w K mg base (k+1) x ps se:=by
 cases q with
 |mk F hm hb=>exact aam F S hm hb len (hbody _) rd
end
end L3
namespace L3
open PySem PySem.W PySem.Spec PyProof.Rows
end L3
namespace L3
open PySem PySem.Spec PyProof.Rows L2
end L3
namespace L3
open PySem L2
end L3
namespace L3
open PySem PySem.Spec PyProof.Rows L2
end L3
namespace L3
open PySem L2
end L3
namespace L3
open PySem PySem.Spec PyProof.Rows L2
end L3
namespace L3
open PySem L2
end L3
namespace L3.ST
open PySem PySem.SetTable PySem.Spec PyProof.Rows
end L3.ST
namespace L3
open PySem PySem.Spec PyProof.Rows L2
end L3
namespace L3
open PySem L2
end L3
namespace L3
open PySem PySem.Spec PyProof.Rows L2
end L3
namespace L3
open PySem L2
end L3
namespace L3
open PySem PySem.Spec PyProof.Rows L2
def xgk(cs:List Str)(f:Str)(x:D)(H:aG)(Q:aX):Prop:=match x with
 | .ref a => (match H a with
  | some (.exc c fs) => (match fs.lookup f with
   |some d=>c∈cs/\Q d H
   |none=>False)
  |_=>False)
 |_=>False
def xg3(cs:List Str)(f:Str)(ta:bL):bL:=fun σ H Q=>ta σ H fun x H1=>xgk cs f x H1 Q
theorem aa9{cs:List Str}{f:Str}{ta:bL}{σ:cz}{H:aG}{Q:aX}(h:ta σ H fun x H1=>xgk cs f x H1 Q):xg3 cs f ta σ H Q:=h
theorem O7{cs:List Str}{f c:Str}{fs:List (Str×D)}{a:aE}{d:D}{H:aG}{Q:aX}(h:H a=some (.exc c fs))(hl:fs.lookup f=some d)(hc:c∈cs)(q:Q d H):xgk cs f (.ref a) H Q:=by
 (delta xgk;simp only[h,hl]);exact⟨hc,q⟩
end L3
namespace L3
open PySem PySem.Spec PyProof.Rows L2 PySem.Calls Builtin Builtin.ObjectAttr
abbrev bmV:List af:=[.type "ValueError",.type "Exception",.type "BaseException",.type "object"]
def T4:List af->Bool
 |.ref _::l=>T4 l
 |l=>l==bmV
theorem My(self:af)(l:List af):T4 l=true->refuseLoop self "__setattr__" l=pure ():=by
 induction l with
 |nil=>intro h;cases h
 |cons v l ih=>
  intro h
  cases v with
  |ref C=>rw[refuseLoop_ref];exact ih h
  |_=>rw[show (_::l:List af)=bmV from beq_iff_eq.mp h];exact PySem.F.store_ValueError.passes self
def zK(K:ae)(C f:aE):Bool:=(match K.lookup C with
 | some ⟨.type "type",_,.cls cd,sl⟩ => (match cd.mro,sl.toList with
  |.ref C'::bm,[_,_,_,_,some (.builtin n),_]=>C'==C&&(n == "ValueError.__new__" && (!cd.hasDel&&(cd.hasDict&&(HK K bmV bm&&T4 bm))))
  |_,_=>false)
 |_=>false)&&(bX K (.ref C) "__init__" == some (some (.ref f))&&(qA K (.ref f)==some (.type "function")&&(bX K (.ref C) "__setattr__" == some (some (.builtin "object.__setattr__"))&&dP K C (.type "object")==some true)))
structure Sv(K:ae)(C f:aE)(bm:List af):Prop where
 obj:∃N nm q bs sn sub ab col dd k0 k1 k2 k3 k5,K.lookup C=some (excClassObj nm q C N bs bm true sn sub ab col dd k0 k1 k2 k3 k5 "ValueError.__new__")
 tail:HK K bmV bm=true
 own:T4 bm=true
 ini:bX K (.ref C) "__init__" = some (some (.ref f))
 fn:qA K (.ref f)=some (.type "function")
 sa:bX K (.ref C) "__setattr__" = some (some (.builtin "object.__setattr__"))
 top:dP K C (.type "object")=some true
theorem XR{K:ae}{C f:aE}(h:zK K C f=true):∃bm,Sv K C f bm:=by
 unfold zK at h
 obtain⟨h1,h2⟩:=sC.mp h
 simp only[rq,beq_iff_eq] at h2
 obtain⟨g1,g2,g3,g4⟩:=h2
 split at h1
 ·rename_i dd cd sl ho
  split at h1
  ·rename_i C' bm k0 k1 k2 k3 n k5 hm hs
   simp only[rq,beq_iff_eq,xh] at h1
   obtain⟨rfl,rfl,hdel,hdt,ht,hw⟩:=h1
   obtain⟨nm,bs,mro,ns,qn,hd,sn,sub,ab,col,del⟩:=cd
   obtain⟨l⟩:=sl
   dsimp only at hm hdel hdt hs
   subst hm hdel hdt hs
   exact⟨bm,⟨ns,nm,qn,bs,sn,sub,ab,col,dd,k0,k1,k2,k3,k5,ho⟩,ht,hw,g1,g2,g3,g4⟩
  ·cases h1
 ·cases h1
abbrev newX(C t:aE)(dd:Option aE):Obj:={ cls:=.ref C,dict:=dd,data:=.fields #[.ref t,.none,.none,.none,.bool false,.none] }
section
variable{prog:b5}{w:cE}{A:dS}{E:af->ah->Prop}{s:ah}{K:ae}{a C f t:aE}{bm:List af}{v:af}{n:Str}
theorem aat{Q:Unit->ah->Prop}(X:K.In s.heap)(c:Sv K C f bm)(he:s.heap.get? a=some (newX C t none))(hn:bX K (.ref C) n=some none)
  (h:∀h' dx,s.heap.get? dx=none->dx≠a->h'.get? a=some (newX C t (some dx))->h'.Ns1 dx (fun y=>if y=n then some v else none)->(∀b o,b≠a->s.heap.get? b=some o->h'.get? b=some o)->∀tk,Q () { s with heap:=h',toks:=tk }) :
  bq (cf prog w) A (setAttr (.ref a) n v) Q E s:=by
 obtain⟨N,nm,q,bs,sn,sub,ab,col,dd,k0,k1,k2,k3,k5,hC⟩:=c.obj
 have SF:=PySem.F.store_object
 have I:AX s.heap a (newX C t none) C none:=⟨he,rfl,rfl,trivial⟩
 have hc:sh K C=some { name:=nm,bases:=bs,mro:=.ref C::bm,ns:=N,qualname:=q,hasDict:=true,slotNames:=sn,subclasses:=sub,abstract:=ab,collection:=col,hasDel:=false }:=by unfold sh;rw[hC]
 refine PySem.W.set_plain X I c.sa ?_
 have X1:K.In ({ s with toks:=s.toks+1 }:ah).heap:=X
 have sb:kH (cf prog w) s.heap (va (.ref a) (.type "object")) true:=I.type.andThen (ku X c.top)
 refine lp SF.slot.plain SF.entry (@PySem.W.check_slot (cf prog w) _ _ { s with toks:=s.toks+1 } "object.__setattr__" "object" "__setattr__" (.ref a) [.str n s.toks,v] [] _ SF.kind SF.split sb (SF.args (.ref a) (.str n s.toks) v) ?_)
 have hm:kH (cf prog w) s.heap (mroOf (.ref C)) (.ref C::bm):=(BO X hc).andThen .now
 rw[PySem.W.osa_eq,refuse_eq]
 refine ag (ag (mx (s:={ s with toks:=s.toks+1 }) I.type (ag (mx (s:={ s with toks:=s.toks+1 }) hm ?_))))
 rw[My _ (.ref C::bm) c.own]
 refine bg (ag (mx (s:={ s with toks:=s.toks+1 }) I.type (ag (mx (s:={ s with toks:=s.toks+1 }) (iE X hn) (ag (bg ?_))))))
 show bq _ _ (storeInOwnDict (.ref a) (.ref C) (.str n s.toks) n v false) _ _ _
 have e1:(s.heap.push { cls:=.type "dict",data:=.dict #[] }).get? a=some (newX C t none):=av _ he
 have na:a≠s.heap.objs.size:=df (bp he)
 refine ag (bg (ag (ag (A7 he (ag (mx (s:={ s with toks:=s.toks+1 }) (BO X hc) ?_))))))
 refine ag (wpAny_alloc' (ag (wpAny_update' e1 (bg ?_))))
 have e2:((s.heap.push { cls:=.type "dict",data:=.dict #[] }).update a fun o=>{ cls:=o.cls,dict:=some s.heap.objs.size,data:=o.data,slots:=o.slots }).get? s.heap.objs.size=some { cls:=.type "dict",data:=.dict #[] } :=
  (tw _ _ _ _ na.symm).trans (Heap.get?_push_at rfl rfl)
 have e3:((s.heap.push { cls:=.type "dict",data:=.dict #[] }).update a fun o=>{ cls:=o.cls,dict:=some s.heap.objs.size,data:=o.data,slots:=o.slots }).get? a=some (newX C t (some s.heap.objs.size)):=nz _ e1 rfl
 have n1:=Heap.Ns1.of_empty (h:=(s.heap.push { cls:=.type "dict",data:=.dict #[] }).update a fun o=>{ cls:=o.cls,dict:=some s.heap.objs.size,data:=o.data,slots:=o.slots }) (a:=s.heap.objs.size) ⟨_,#[],_,e2,rfl,fun e he=>absurd he (by simp),fun _=>rfl⟩
 show bq _ _ (storeInDict s.heap.objs.size (.str n s.toks) n v) _ _ _
 refine ag (bg (ag (wpAny_nsSet1 n1 fun h' n2 sm=>?_)))
 obtain⟨oD,esD,epD,g1,g2,g3⟩:=n2.count (Within.cons n v Within.nil)
 refine ag (wpAny_lookBehind g1 (by rw[g2];exact pastItsLine_dict (eh g3 (by show 1<=_;rw[hG];omega))) (bg ?_))
 refine h h' s.heap.objs.size (si (aT _)) na.symm ((sm.2 a na).trans e3) ?_ (fun b o nb q=>(sm.2 b (df (bp q))).trans ((tw _ _ _ _ nb).trans (av _ q))) _
 exact n2
theorem Yd{Q:af->ah->Prop}{rest:List af}(X:K.In s.heap)(c:Sv K C f bm)(he:s.heap.get? a=some (newX C t none))
  (h:∀h' t',h'.get? a=some (newX C t' none)->(∀b o,b≠a->s.heap.get? b=some o->h'.get? b=some o)->Q .none { s with heap:=h' }) (hrest:rest.length<=bS:=by size_fits) :
  bq (cf prog w) A (call (.builtin "ValueError.__init__") (.ref a::rest)) Q E s:=by
 obtain⟨N,nm,q,bs,sn,sub,ab,col,dd,k0,k1,k2,k3,k5,hC⟩:=c.obj
 have F:=og
 have T:=vj X c.tail
 obtain⟨hh,g,d,tk,os⟩:=s
 refine nI (lp F.init.plain F.initEntry (wpAny_check_init_subT F T (X _ _ hC) he rfl ?_))
 have e1:=av (h:=hh) { cls:=.type "tuple",data:=.seq rest.toArray } he
 wp_walk
 refine h _ hh.objs.size ?_ fun b o nb q=>(eo _ _ (fm nb)).trans (av _ q)
 exact nz _ e1 rfl
theorem aa1{b:Bool}{Q:af->ah->Prop}{ox od:Obj}{ws:Array af}{dx:aE}(X:K.In s.heap)(c:qt K C)(hd:iS K C=true)(hn:bX K (.ref C) n=some none)(hx:s.heap.get? a=some ox)(hc:ox.cls=.ref C)(hf:ox.data=.fields ws)(h1:ox.dict=some dx)(h2:s.heap.get? dx=some od)
  (hl:t9 n od=some (some v)) (hv:x6 v=true) (h:Q v { s with toks:=s.toks+1 }):bq (cf prog w) A (getAttr (.ref a) n b) Q E s:=by
 have I:AX s.heap a ox C (some od):=⟨hx,hc,by unfold PySem.W.notCls;rw[hf],by rw[h1];exact h2⟩
 have ea:ExcAt a C s.heap:=⟨ox,ws,hx,hc,hf⟩
 have hfo:PySem.W.findObj K C (some od) n=some (.value v):=PySem.W.findObj_own hd hn rfl hl
 obtain⟨hh,g,d,t,os⟩:=s
 have L0:=I.type (M:=cf prog w)
 have L1:=iE (M:=cf prog w) X c.ga
 have L2':=iE (M:=cf prog w) X c.gh
 have L3':=PySem.W.looks_find (M:=cf prog w) X I hfo
 have f3:=qB.ga.bind (.ref a)
 have L4:=ku (M:=cf prog w) X c.mb
 unfold getAttr getAttrBy
 refine ag (wpAny_mkText (kF (ag (L0.at (ag (L1.at ?_))))))
 show bq _ _ (sT _ _ _ _ _ _) _ _ _
 unfold sT
 refine ag ?_
 show bq _ _ (uk _ _) _ _ _
 refine L2'.at ?_
 refine ag (oQ (kF ?_))
 unfold callGetattribute
 rw[if_neg (by rw[show onTheHeap (Value.builtin "BaseException.__getattribute__")=false from rfl,GO];decide)]
 unfold A8
 rw[f3]
 refine ag (bg ?_)
 refine nI (lp qB.ga.plain FG (Ci (s:=⟨hh,g,d,t+1,os⟩) X c ea ?_))
 refine ag (bg (ag (bg (ag (L0.at (ag (L3'.at ?_)))))))
 refine bg ?_
 show bq _ _ (handedOut v) _ _ _
 rw[PySem.W.handedOut_of hv];exact bg h
theorem Xn{Q:af->ah->Prop}{rest:List af}(X:K.In s.heap)(c:Sv K C f bm)
  (h:∀ h' e t,s.heap.get? e = none→h'.get? e = some (newX C t none)→(∀ b o,s.heap.get? b = some o→h'.get? b = some o) →
   bq (cf prog w) (A.under (.builtin "type.__call__" ⟨.ref C::rest,[]⟩)) (call (.ref f) (.ref e::rest)) (fun r s'=>r=.none/\Q (.ref e) s') E { s with heap:=h' }) (hrest:rest.length<=bS:=by size_fits) :
  bq (cf prog w) A (call (.ref C) rest) Q E s:=by
 obtain⟨N,nm,q,bs,sn,sub,ab,col,dd,k0,k1,k2,k3,k5,hC⟩:=c.obj
 have FB:=og
 have T:=vj X c.tail
 obtain⟨hh,g,d,tk,os⟩:=s
 have hC0:=X _ _ hC
 have f1:=tc_lookup
 have f2:=tc_bind (.ref C)
 have hT:(⟨hh,g,d,tk,os⟩:ah).TypeIs (.ref C) "type":=⟨_,hC0,rfl⟩
 refine nI (codeAny_of_tree ?_)
 show bq _ _ (callAny (.ref C) _) _ _ _
 repeat (any_goals (first | assumption | (with_reducible refine nB hC0 ?_) | wp_step))
 refine⟨rfl,codeAny_call_builtin_at (vi _ (by decide +kernel)) entry_typeCall (wpAny_check_type_call_sub hC0 ?_)⟩
 repeat (first | (with_reducible refine nB hC0 ?_) | (with_reducible refine wpAny_madeBy_exc hC0 ?_) | wp_step)
 refine codeAny_call_builtin_code (vi _ FB.quiet) (wpAny_check_new_subT FB T hC0 (codeAny_exc_new_subT FB T hC0 ?_ hrest))
 show bq _ _ _ _ _ _
 have kp:∀b o,hh.get? b=some o->((hh.push { cls:=.type "tuple",data:=.seq rest.toArray }).push (newX C hh.objs.size none)).get? b=some o:=fun b o z=>av _ (av _ z)
 have hC1:=kp _ _ hC0
 have e1:((hh.push { cls:=.type "tuple",data:=.seq rest.toArray }).push (newX C hh.objs.size none)).get? (hh.objs.size+1)=some (newX C hh.objs.size none):=by heap_get
 have X1:K.In ((hh.push { cls:=.type "tuple",data:=.seq rest.toArray }).push (newX C hh.objs.size none)):=X.keeps kp
 have hCC:(eK C::bm).contains (.ref C)=true:=by simp
 have LI:=iE (M:=cf prog w) X1 c.ini
 have LB:=PySem.W.bind_fn (M:=cf prog w) X1 (.ref (hh.objs.size+1)) c.fn
 unfold va
 repeat (first | (with_reducible refine nB e1 ?_) | (show bq _ _ (isSubtype (.ref C) (.ref C)) _ _ _;refine BQ hC1 ?_;rw[hCC]) | wp_step)
 show bq _ _ (uk (.ref C) _) _ _ _
 refine LI.at ?_
 refine kF (ag (LB.at ?_))
 refine ag (eB (h _ (hh.objs.size+1) hh.objs.size (si (xc _)) e1 kp) (fun r s' z=>?_) fun _ _ z=>z)
 obtain⟨rfl,z⟩:=z
 wp_walk
 exact z
end
end L3
namespace L3
open PySem PySem.Spec PyProof.Rows L2
def uP(a C:aE):HO:=.ext fun h=>∃t,h.get? a=some (newX C t none)
def Gi(a C dx:aE):HO:=.ext fun h=>∃t,h.get? a=some (newX C t (some dx))
def spX(f:Str)(C:aE):Sp:=fun vs H Q _=>∃a v,vs=[.ref a,v]/\H a=some (uP a C)/\∀dx od,H dx=none->dx≠a->Q .non (upd (upd H a (Gi a C dx)) dx (.frz od (.xd [(f,v)])))
theorem Yn{H:Hp}{a:aE}{o:HO}(h:H a=some o):upd H a o=H:=by
 funext b
 by_cases z:b=a
 ·rw[z,aO,h]
 ·rw[aC z]
section
variable{X:Cx}{pins:List (aE×Obj)}{σ:St}{H:Hp}{s:ah}{h':eJ}{a C t dx:aE}{od:Obj}{f:Str}{y:V}{u:af}
theorem Qv{tk:Nat}(I:L2.Inv X pins σ H s)(n1:s.heap.get? a=none)(e1:h'.get? a=some (newX C t none))(kp:∀b o,s.heap.get? b=some o->h'.get? b=some o):L2.Inv X pins σ (upd H a (uP a C)) { s with heap:=h',toks:=tk }:=by
 have ua:=dY I.hok n1
 have ne:∀b o,s.heap.get? b=some o->b≠a:=fun b o q z=>by rw[z,n1] at q;cases q
 refine I.un ⟨fun b o q _ _ _=>kp b o q,fun b o q _ _ _=>⟨o.slots,kp b o q⟩,fun b o q n _=>by rw[aC (ne b o q)];exact n,fun b o q _=>⟨o,kp b o q⟩,fun b xs q=>by rw[aC (aW q ua)];exact q,fun b o v q=>by rw[aC (aW q ua)];exact q,fun b ps q=>⟨#[],by rw[aC (aW q ua),q];simp⟩⟩ fun b o q=>?_
 by_cases z:b=a
 ·subst z;rw[aO] at q;cases q
  exact⟨⟨t,e1⟩,⟨_,e1⟩,fun h1 h2 ⟨t,p⟩ k=>⟨t,k _ p⟩⟩
 ·rw[aC z] at q
  exact (I.hok b o q).stay (fun c w _ q=>kp c w q) (fun c q=>by rw[aC (aW q ua)];exact q) fun c xs q=>by rw[aC (aW q ua)];exact q
theorem N6{tk:Nat}(I:L2.Inv X pins σ H s)(hN:H a=some (uP a C))(n1:s.heap.get? dx=none)(n2:dx≠a)(e1:h'.get? a=some (newX C t (some dx)))(e2:h'.get? dx=some od)(ns:h'.Ns1 dx (fun z=>if z=f then some u else none))(r:RelV y u)(kp:∀b o,b≠a->s.heap.get? b=some o->h'.get? b=some o) :
  L2.Inv X pins σ (upd (upd H a (Gi a C dx)) dx (.frz od (.xd [(f,y)]))) { s with heap:=h',toks:=tk }:=by
 have ud:=dY I.hok n1
 have na:∀b u,H b=some u->u≠uP a C->b≠a:=fun b u q n z=>by rw[z,hN] at q;cases q;exact n rfl
 have nd:∀b u,H b=some u->b≠dx:=fun b u q=>aW q ud
 have na':∀b,H b=none->b≠a:=fun b q z=>by rw[z,hN] at q;cases q
 have nd':∀b o,s.heap.get? b=some o->b≠dx:=fun b o q z=>by rw[z,n1] at q;cases q
 have cy:∀b u,H b=some u->u≠uP a C->upd (upd H a (Gi a C dx)) dx (.frz od (.xd [(f,y)])) b=some u:=fun b u q n=>by rw[aC (nd b u q),aC (na b u q n)];exact q
 refine I.un ⟨fun b o q n _ _=>kp b o (na' b n) q,fun b o q n _ _=>⟨o.slots,kp b o (na' b n) q⟩,fun b o q n _=>by rw[aC (nd' b o q),aC (na' b n)];exact n,fun b o q _=>?_,fun b xs q=>cy b _ q fun z=>(nomatch z),fun b o v q=>cy b _ q fun z=>(nomatch z),fun b ps q=>⟨#[],by rw[cy b _ q fun z=>(nomatch z)];simp⟩⟩ fun b o q=>?_
 ·by_cases z:b=a
  ·rw[z];exact⟨_,e1⟩
  ·exact⟨o,kp b o z q⟩
 ·by_cases z:b=dx
  ·subst z;rw[aO] at q;cases q
   refine⟨e2,_,ns,fun g=>?_⟩
   by_cases z:g=f
   ·rw[if_pos z,z,List.lookup_cons_self];exact r
   ·rw[if_neg z,fR,show (g==f)=false from beq_eq_false_iff_ne.mpr z];exact trivial
  ·rw[aC z] at q
   by_cases w:b=a
   ·subst w;rw[aO] at q;cases q
    exact⟨⟨t,e1⟩,⟨_,e1⟩,fun h1 h2 ⟨t,p⟩ k=>⟨t,k _ p⟩⟩
   ·rw[aC w] at q
    refine (I.hok b o q).stay (fun c v hc q'=>kp c v ?_ q') (fun c q'=>cy c _ q' fun z=>(nomatch z)) fun c xs q'=>cy c _ q' fun z=>(nomatch z)
    rintro rfl
    rcases hc with rfl | hc
    ·exact w rfl
    ·rw[hN] at hc;cases hc
end
def N8(K:ae)(t:L2.TA):L2.TE:=fun σ H Q=>t σ H fun vs H1=>∃a C x f bm,vs=[.ref a,x]/\H1 a=some (uP a C)/\Sv K C f bm/\Q .non H1
structure XBs(K:ae)(mg:Str->Option af)(c:Str):Prop where
 ex:∃C mc,mg c=some (.ref C)/\gI K (.ref C) "__getattribute__" = some (some (.builtin "type.__getattribute__"))/\AD K C mc=true/\AE K (.ref C) mc "__init__" = some (.val (.builtin "ValueError.__init__")) /\
  x6 (.builtin "ValueError.__init__")=true
section
variable{X:Cx}{e o value:cS}{es:List cS}{t:L2.TA}{ta tv:L2.TE}{c f:Str}{pos pos' p apos:Pos}
theorem Bd{pl:Sem Bool}(B:XBs X.K X.mg c)(ha:PA X (e::es) t)
  (hg:Gl X c:=by rfl) (hdb:(c==("__debug__" : Str))=false:=by decide) (hst:aI (e::es) X.env=(false,eR e X.env)::aI es X.env:=by rfl) (hpl:(i3 pos (aI es X.env)).any (·.1)=false:=by rfl)
  (ht:eR (.Call (.Attribute (.Name c p) "__init__" apos) (e::es) [] pos) X.env = (do
   let ov ←eR (.Name c p) X.env
   FY apos.atName
   let (f,first) ←holding [ov] (getMethod ov "__init__" pl)
   callWith pos f first (i3 pos (aI (e::es) X.env)) (qh pos (la [] X.env))):=by rfl) :
  PE X (.Call (.Attribute (.Name c p) "__init__" apos) (e::es) [] pos) (N8 X.K t):=by
 obtain⟨C,mc,hC,hs,hrd,hf,hh⟩:=B.ex
 intro pins s σ H Q I h
 refine PySem.W.methodCall_KW (pl:=pl) (gC I hg hC ?_ hdb) ht
 refine PySem.W.method_cls I.lR hs (PySem.W.cls_value I.lR hrd hf hh ?_)
 have I1:=I.tok (s.toks+1)
 refine ja (cC (ha pos pins _ σ H _ I1 h) fun us s2 zz=>?_) hst hpl
 obtain⟨vs,H1,I2,r,a,C,x,g,bm,rfl,hN,cl,q⟩:=zz
 cases r with
 |cons ra rr=>
  obtain rfl:=(show _=eK a from ra)
  obtain⟨u,rfl,_⟩:=Vals.one rr
  obtain⟨t0,e0⟩:=(I2.hok a _ hN).1
  refine Yd I2.lR cl e0 (fun h' t' e1 kp=>⟨.non,H1,?_,rfl,q⟩) (by show 1<=_;rw[hG];omega)
  have:=I2.write (x:=a) (e:=a) (o:=uP a C) (t':=s2.toks) (h':=h') (by rw[hN];exact trivial) (.inl rfl) kp ⟨_,e1⟩ ⟨⟨t',e1⟩,⟨_,e1⟩,fun h1 h2 ⟨t,p⟩ k=>⟨t,k _ p⟩⟩
  rwa [Yn hN] at this
def R7(K:ae)(ta tv:L2.TE)(f:Str):L2.TS:=fun D σ H=>tv σ H fun y H1=>ta σ H1 fun x H2=>∃a C g bm,x=.ref a/\H2 a=some (uP a C)/\Sv K C g bm/\bX K (.ref C) f=some none /\
 ∀dx od,H2 dx=none->dx≠a->D.nx σ (upd (upd H2 a (Gi a C dx)) dx (.frz od (.xd [(f,y)])))
theorem BL(ha:PE X o ta)(hv:PE X value tv)(hs:om value (some (.Attribute o f pos')) pos.line X.env=pure false:=by rfl):PS X (.Assign [.Attribute o f pos'] value pos) (R7 X.K ta tv f):=by
 intro pins s σ H D I h
 refine plainObj_wpAny_Assign_Attribute (cC (hv pins s σ H _ I h) fun u s1 ⟨y,H1,I1,ry,q⟩=>cC (ha pins s1 σ H1 _ I1 q) fun ov s2 zz=>?_) hs
 obtain⟨x,H2,I2,rx,a,C,g,bm,rfl,hN,cl,hn,q2⟩:=zz
 obtain rfl:ov=eK a:=rx
 obtain⟨t0,e0⟩:=(I2.hok a _ hN).1
 refine aat I2.lR cl e0 hn fun h' dx n1 n2 e1 ns kp tk=>?_
 obtain⟨od,_,_,e2,_⟩:=id ns
 exact⟨σ,_,N6 I2 hN n1 n2 e1 e2 ns ry kp,q2 dx od (dY I2.hok n1) n2⟩
end
theorem Vi{P:b5}{w:cE}{K:ae}{mg:Str->Option af}{base:eJ}{x qual f:Str}{st:gg}{g C:aE}{fd:gc}{N ps:List Str}{k:Nat}{bm:List af}{z:Str}(F:Ca K x qual st g fd)(S:aR N ps (az st))(hps:ps.length=2)(cl:Sv K C g bm)(hn:bX K (.ref C) f=some none)
  (hbody:∀(cdv:af) (A:dS) (outer:List Env) (s:ah) (H:Hp) (E:XK),zR (jn uN P w K mg base N qual (az st) g cdv A outer s H E).yK (aQ st) (W5 (Ol (N8 K (uC (Cz 0) (uC (tC (.str z)) Mx)))) (R7 K (Cz 0) (Cz 1) f))):pM P w K mg base uN (k+1) g fd ps (spX f C):=by
 refine F.ok S (fun vs H Q E h=>?_) fun cdv A outer s H vs Q E hr h=>?_
 ·obtain⟨a,v,rfl,_⟩:=h;exact hps.symm
 ·obtain⟨a,v,rfl,hN,q⟩:=h
  refine⟨_,hbody cdv A outer s H E,?_⟩
  refine⟨_,rfl,a,C,.str z,g,bm,rfl,hN,cl,_,rfl,_,rfl,a,C,g,bm,rfl,hN,cl,hn,fun dx od n1 n2=>q dx od n1 n2⟩
section
variable{X:Cx}{pins:List (aE×Obj)}{σ:St}{H:Hp}{s:ah}{a C g dx:aE}{od:Obj}{f:Str}{v:V}{u:af}{fd:gc}{ps:List Str}{k:Nat}{bm:List af}{E:af->ah->Prop}{Q:af->ah->Prop}
theorem RD{φ:eJ->Prop}(I:L2.Inv X pins σ (upd H a (.ext φ)) s)(n:H a=none):L2.Inv X pins σ H s:=by
 have ne:∀b u,upd H a (.ext φ) b=some u->u≠.ext φ->H b=some u:=fun b u q w=>by
  by_cases z:b=a
  ·subst z;rw[aO] at q;cases q;exact absurd rfl w
  ·rwa [aC z] at q
 have nn:∀b,upd H a (.ext φ) b=none->H b=none:=fun b q=>by
  by_cases z:b=a
  ·subst z;exact n
  ·rwa [aC z] at q
 have up:∀b u,H b=some u->upd H a (.ext φ) b=some u:=fun b u q=>by rw[aC (aW q n)];exact q
 refine⟨I.ok,I.os,I.bare,⟨I.base.keep,I.base.slot,fun b o e h0 hx=>nn b (I.base.free b o e h0 hx),I.base.there,fun b xs q=>ne b _ (I.base.tups b xs q) fun z=>(nomatch z),fun b o u q=>ne b _ (I.base.frzs b o u q) fun z=>(nomatch z),fun b ps q=>?_⟩,I.loc,I.cell,nn _ I.free,fun x c e=>nn _ (I.freeC x c e),fun p hp=>?_,fun b o q=>?_,I.len⟩
 ·obtain⟨more,z⟩:=I.base.tbls b ps q
  exact⟨more,ne b _ z fun z=>(nomatch z)⟩
 ·obtain⟨h1,h2,h3⟩:=I.pin p hp
  exact⟨h1,nn _ h2,h3⟩
 ·exact (I.hok b o (up b o q)).stay (fun c w _ z=>z) (fun c z=>ne c _ z fun z=>(nomatch z)) fun c xs z=>ne c _ z fun z=>(nomatch z)
theorem Ni(cl:Sv X.K C g bm)(F:pM X.prog X.w X.K X.mg X.base uN k g fd ps (spX f C))(hr:cW (k+1) X.A)(hb:Binds X.K fd ps [])(I:L2.Inv X pins σ H s)(r:RelV v u)
  (h:∀a dx od t s',s.heap.get? a=none->H dx=none->L2.Inv X pins σ (upd H dx (.frz od (.xd [(f,v)]))) s'->s'.heap.get? a=some (newX C t (some dx))->dx≠a->Q (.ref a) s'):bq (cf X.prog X.w) X.A (call (.ref C) [u]) Q E s:=by
 refine Xn I.lR cl (fun h' e t n1 e1 kp=>?_) (by show 1<=_;rw[hG];omega)
 have I2:L2.Inv X pins σ (upd H e (uP e C)) { s with heap:=h' }:=Qv (tk:=s.toks) I n1 e1 kp
 have ue:=dY I.hok n1
 have r2:Vals [V.ref e,v] [eK e,u]:=.cons rfl (.cons r .nil)
 have hq:spX f C [V.ref e,v] (upd H e (uP e C)) (fun w H2=>w=.non/\∃dx od,H dx=none/\dx≠e/\H2=upd (upd (upd H e (uP e C)) e (Gi e C dx)) dx (.frz od (.xd [(f,v)]))) E0 :=
  ⟨e,v,rfl,aO,fun dx od n nn=>⟨rfl,dx,od,by rw[←n];exact (aC nn).symm,nn,rfl⟩⟩
 have hl:([eK e,u]++([]:List af)).length=ps.length:=by
  have:=F.len _ _ _ _ hq
  exact this
 have hb':=hb { s with heap:=h' } [eK e,u] I2.lR hl
 rw[fA] at hb'
 refine nI (oo (F.run _ X.stack _ _ ⟨[eK e,u],[]⟩ [eK e,u] _ _ E0 (hr.make C [u] []) (I2.env0.make C [u] []) hb' r2 hq) fun r s' hq'=>?_)
 cases r with
 |error e=>exact hq'.elim
 |ok fl=>
  cases fl with
  |ret w=>
   obtain⟨w',H',I3,rv,ev,dx,od,n1',n2,rfl⟩:=I2.after hq'
   subst ev
   have e3:upd (upd (upd H e (uP e C)) e (Gi e C dx)) dx (.frz od (.xd [(f,v)]))=upd (upd H dx (.frz od (.xd [(f,v)]))) e (Gi e C dx):=by
    rw[SM]
    funext b
    by_cases z:b=dx
    ·rw[z,aO,aC n2,aO]
    ·rw[aC z]
     by_cases y:b=e
     ·rw[y,aO,aO]
     ·rw[aC y,aC y,aC z]
   rw[e3] at I3
   obtain⟨t3,q3⟩:=(I3.hok e _ aO).1
   exact⟨rv,h e dx od t3 s' n1 n1' (RD I3 (by rw[aC (fm n2)];exact ue)) q3 n2⟩
  |next=>exact hq'.elim
  |brk=>exact hq'.elim
  |cont=>exact hq'.elim
end
theorem x_raise{M:C5}{A:dS}{E:af->ah->Prop}{s:ah}{env:Env}{K:ae}{e:cS}{pos:Pos}{Q:K2->ah->Prop}(hh:A.handled=none)
  (h:bq M A (eR e env) (fun v s1=>∃a C t dd g bm,v=.ref a/\K.In s1.heap/\Sv K C g bm/\s1.heap.get? a=some (newX C t dd)/\E (.ref a) s1) E s):bq M A (exec (.Raise (some e) none pos) env) Q E s:=by
 rw[arm_exec_Raise]
 refine ag (sd ?_)
 show bq M A (raiseStmt env (some (do let v ←eR e env;FY pos;pure v)) none) Q E s
 unfold raiseStmt
 refine ag (ag (eB h (fun v s1 zz=>ag (sd (bg ?_))) fun _ _ x=>x))
 obtain⟨a,C,t,dd,g,bm,rfl,X,cl,he,hE⟩:=zz
 obtain⟨N,nm,q,bs,sn,sub,ab,col,dd',k0,k1,k2,k3,k5,hC⟩:=cl.obj
 have hC0:=X _ _ hC
 have hcB:(eK C::bm).contains (.type "BaseException")=true:=by rw[List.contains_cons,(vj X cl.tail).hasType (X := "BaseException") (b:=true) rfl,Bool.or_true]
 obtain⟨hp,gs,d,tk,os⟩:=s1
 repeat (first | (with_reducible refine nB he ?_) | (with_reducible refine nB hC0 ?_) | (with_reducible refine BQ hC0 ?_;rw[hcB]) | wp_step)
 exact wpAny_raiseNew_none hh hE
structure Dt(P:b5)(w:cE)(K:ae)(mg:Str->Option af)(base:eJ)(k:Nat)(c f:Str):Prop where
 ex:∃C g fd ps bm,br K ba c=some (some (.ref C))/\gp K (.ref C)=true/\Sv K C g bm/\pM P w K mg base uN k g fd ps (spX f C)/\Binds K fd ps []
section
variable{X:Cx}{c f:Str}{e:cS}{te ta:bL}{np cpos pos:Pos}{E:XK}{E3:iT}{k:Nat}
theorem oK(hr:JM X E)(kx:KX X.K X.H₀ E3 E)(F:Dt X.prog X.w X.K X.mg X.base k c f)(hk:cW (k+1) X.A)(hc:X.calm=true)(he:b8 X e te)(hg:Gl X c:=by rfl)(hdb:(c==("__debug__" : Str))=false:=by decide)
  (hs:aI [e] X.env=(false,eR e X.env)::aI [] X.env:=by rfl) (hpl:(i3 cpos (aI [] X.env)).any (·.1)=false:=by rfl):BW X (.Raise (some (.Call (.Name c np) [e] [] cpos)) none pos) (ZL E3 c f te):=by
 obtain⟨C,g,fd,ps,bm,hC,hkp,cl,F,hb⟩:=F.ex
 intro pins s σ H D I ⟨σ3,H3,D3,sr,hr3,q,kk⟩
 have hm:=iL I.mod.kin I.mod.glob hC
 have ha:JS X [e] (aq te aK):=aa he aA hs
 refine x_raise (K:=X.K) (I.ok.hd hc) (gS (gC I hg hm ?_ hdb))
 have h1:=ha cpos pins s σ H (fun vs H1=>∃d v H3' H2,vs=[v]/\TK H H1/\HR X.K H3' H1/\Rep X.K H1 d v/\aN H2 H3'/\E3 ⟨c,[(f,d)]⟩ H2) I ⟨σ3,H3,fun ds H3'=>(match ds with | [d]=>∃H2,aN H2 H3'/\E3 ⟨c,[(f,d)]⟩ H2 | _=>False),sr,hr3,q,fun ds vs H3a Ha tka hra rs qa=>by
  cases rs with
  |nil=>exact qa.elim
  |cons r1 r2=>
   cases r2 with
   |cons _ _=>exact qa.elim
   |nil=>
    obtain⟨H2,sb,q2⟩:=qa
    exact⟨_,_,H3a,H2,rfl,tka,hra,r1,sb,q2⟩⟩
 refine pw (first:=[]) (h₀:=X.base) I.ok.mod.kin hkp (cC h1 fun us s2 zz=>?_) hs hpl
 obtain⟨vs,H1,I1,r,d,v,H3',H2,rfl,tk,hra,rd,sb,q2⟩:=zz
 refine⟨I1.lR,?_⟩
 obtain⟨u,rfl,ru⟩:=Vals.one r
 refine Ni cl F hk hb I1 ru fun a dx od t s' n1 ndx I2 e2 n2=>?_
 have t2:TK H1 (upd H1 dx (.frz od (.xd [(f,v)]))):=TK.fresh ndx
 refine⟨a,C,t,some dx,g,bm,rfl,I2.lR,cl,e2,?_⟩
 refine hr pins σ _ H1 s' s2 a C t (some dx) _ I1 n1 I2 (by rw[aC (fm n2)];exact dY I1.hok n1) e2 ?_
 refine kx ⟨c,[(f,d)]⟩ C (some dx) H2 _ ((TK.trans ⟨I.base.tups,I.base.frzs⟩ tk).trans t2) (HR.sub (fun b o z=>?_) sb) hC (.inr ⟨dx,od,[(f,v)],rfl,aO,.cons ⟨rfl,rd.mono t2⟩ .nil⟩) q2
 exact (hra b o z).keep t2 (aC (ne3 z (hra.fresh ndx)))
end
def Dm(K:ae)(cs:List Str)(f:Str):Prop:=∀c∈cs,∃C,br K ba c=some (some (.ref C))/\qt K C/\iS K C=true/\bX K (.ref C) f=some none
theorem Dm.nil{K:ae}{f:Str}:Dm K [] f:=fun _ h=>absurd h (by simp)
theorem Dm.cons{K:ae}{f c:Str}{cs:List Str}{C:aE}(h1:br K ba c=some (some (.ref C)))(h2:qt K C)(h3:iS K C=true)(h4:bX K (.ref C) f=some none)(r:Dm K cs f):Dm K (c::cs) f:=fun d h=>by
 rcases bE.mp h with rfl | h
 ·exact⟨C,h1,h2,h3,h4⟩
 ·exact r d h
section
variable{X:Cx}{f:Str}{e:cS}{ta:bL}{pos:Pos}{cs:List Str}
theorem Ae(hk:Dm X.K cs f)(he:b8 X e ta)(hb:ly e f X.env (eR e X.env)=eR e X.env:=by rfl):b8 X (.Attribute e f pos) (xg3 cs f ta):=by
 intro pins s σ H Q I ⟨σ3,H3,Q3,sr,hr3,q,kk⟩
 refine U9 hb (cC (he pins s σ H (fun x H1=>∃a C dd dx od xs v,x=.ref a/\qt X.K C/\iS X.K C=true/\bX X.K (.ref C) f=some none/\H1 a=some (Bl a C dd)/\dd=some dx/\H1 dx=some (.frz od (.xd xs))/\xs.lookup f=some v/\Q v H1) I ⟨σ3,H3,_,sr,hr3,q,fun d v H3a Ha tka hra rx qa=>?_⟩) fun u s1 ⟨x,H1,I1,r1,q1⟩=>?_)
 ·cases rx with
  |ref a=>
   (delta xgk at qa;dsimp only at qa)
   split at qa
   ·rename_i c fs hc
    split at qa
    ·rename_i y hl
     obtain⟨hcs,qa⟩:=qa
     obtain⟨C,h1,h2,h3,h4⟩:=hk c hcs
     obtain⟨C',dd,h5,h6,xf⟩:=hra a _ hc
     have eC:C'=C:=by rw[h1] at h5;cases h5;rfl
     subst eC
     rcases xf with rfl | ⟨dx,od,xs,e1,e2,pr⟩
     ·cases hl
     ·obtain⟨v,l2,rv⟩:=FsR.look pr hl
      exact⟨a,C',dd,dx,od,xs,v,rfl,h2,h3,h4,h6,e1,e2,l2,kk _ _ _ _ tka hra rv qa⟩
    ·exact qa.elim
   ·exact qa.elim
  |_=>exact qa.elim
 ·obtain⟨a,C,dd,dx,od,xs,v,rfl,h2,h3,h4,h6,rfl,e2,l2,hq⟩:=q1
  obtain rfl:u=eK a:=r1
  obtain⟨o,ws,g1,g2,g3,g4⟩:=(I1.hok a _ h6).1
  obtain⟨k1,mA,k2,k3⟩:=I1.hok dx _ e2
  obtain⟨od',k4,k5⟩:=yZ k2
  rw[k1] at k4;cases k4
  obtain⟨u,hu,ru⟩:=nY.some_of (v:=v) (o:=mA f) (by rw[←l2];exact k3 f)
  exact aa1 I1.lR h2 h3 h4 g1 g2 g3 g4 k1 (by rw[k5,hu]) (KY ru) ⟨v,H1,I1.tok _,ru,hq⟩
end
inductive Uo(K:ae)(c f qual:Str)(st:gg)(ps:List Str):Prop
 |mk {C g:aE} {fd:gc} (hC:br K ba c=some (some (.ref C))) (kp:gp K (.ref C)=true) (cl:zK K C g=true) (hn:bX K (.ref C) f=some none) (F:Ca K "__init__" qual st g fd) (hb:Binds K fd ps [])
theorem zT{P:b5}{w:cE}{K:ae}{mg:Str->Option af}{base:eJ}{qual c f z:Str}{st:gg}{N ps:List Str}{k:Nat}(q:Uo K c f qual st ps)(S:aR N ps (az st))(hps:ps.length=2)
  (hbody:∀(g:aE) (cdv:af) (A:dS) (outer:List Env) (s:ah) (H:Hp) (E:XK),zR (jn uN P w K mg base N qual (az st) g cdv A outer s H E).yK (aQ st) (W5 (Ol (N8 K (uC (Cz 0) (uC (tC (.str z)) Mx)))) (R7 K (Cz 0) (Cz 1) f))):Dt P w K mg base (k+1) c f:=by
 cases q with
 |mk hC kp cl hn F hb=>
  obtain⟨bm,cl⟩:=XR cl
  exact⟨_,_,_,ps,bm,hC,kp,cl,Vi F S hps cl hn (hbody _),hb⟩
theorem WR{K:ae}{mg:Str->Option af}{h:eJ}{c:Str}{C:aE}{mc:af}(X:K.In h)(G:h.Ns ba mg)(hC:br K ba c=some (some (.ref C)))(h2:gI K (.ref C) "__getattribute__" = some (some (.builtin "type.__getattribute__")))(h3:AD K C mc=true)
  (h4:AE K (.ref C) mc "__init__" = some (.val (.builtin "ValueError.__init__"))):XBs K mg c:=⟨_,_,iL X G hC,h2,h3,h4,rfl⟩
structure mK(k:Nat)(A:dS):Prop where
 dp:A.depth+3*k+5<AY
 un:A.units+16*k+200<md
theorem mK.mono{j k:Nat}{A:dS}(r:mK k A)(h:j<=k):mK j A:=⟨by have:=r.dp;omega,by have:=r.un;omega⟩
theorem mK.deeper{k:Nat}{A:dS}(r:mK (k+1) A)(env:Env):mK k (A.deeper env) :=
 ⟨by have:=r.dp;show A.depth+1+3*k+5<_;omega,by have:=r.un;show A.units+3+16*k+200<_;omega⟩
theorem mK.units{k:Nat}{A:dS}(r:mK k A):A.units+64<md:=by have:=r.un;omega
theorem XX{k:Nat}{A:dS}(r:cW k A)(v:Option af):mK k (A.mark v):=⟨r.dp,r.un⟩
abbrev cxH(P:b5)(w:cE)(K:ae)(mg:Str->Option af)(base:eJ)(N:List Str)(qual:Str)(scope:lP)(f:aE)(cd:af)(A:dS)(outer:List Env)(s:ah)(H:Hp):Cx :=
 rQ (jn uN P w K mg base N qual scope f cd { A with handled:=none } outer s H E0) (A.deeper (nt qual scope s.heap.objs.size f cd))
structure FnH(P:b5)(w:cE)(K:ae)(mg:Str->Option af)(base:eJ)(k:Nat)(x:Str)(ps:List Str)(sp:mU):Prop where
 ex:∃f fd,((∀ds H Q,sp ds H Q->ds.length=ps.length)/\∀(A:dS) (outer:List Env) (s:ah) (H:Hp) (args:Args) (us:List af) (vs:List V) (Q:VK),mK k A->Ba P w K mg base A outer s H->DD s fd args (ps.zip us)->Vals vs us->g8 K sp vs H Q ->
  wt (cf P w) A (.call (.ref f) args) (fun r s'=>∃u,r=.ok (.ret u)/\CE outer P w H s Q u s') s)/\mg x=some (.ref f)/\gp K (.ref f)=true/\Binds K fd ps []
theorem VH{P:b5}{w:cE}{K:ae}{mg:Str->Option af}{base:eJ}{x:Str}{st:gg}{N ps:List Str}{k:Nat}{sp:mU}{t:cI}(q:bR K mg x st ps)(S:aR N ps (az st))(len:∀ds H Q,sp ds H Q->ds.length=ps.length)
  (hbody:∀(f:aE) (cdv:af) (A:dS) (outer:List Env) (s:ah) (H:Hp),mK k (A.deeper (nt x (az st) s.heap.objs.size f cdv))->nF (cxH P w K mg base N x (az st) f cdv A outer s H) (aQ st) t)
  (rd:∀ds H3 Q3,sp ds H3 Q3->t (cY Q3) (aM N ds) H3):FnH P w K mg base (k+1) x ps sp:=by
 cases q with
 |@mk f fd F hm hb=>
  have kp:=F.kp
  obtain⟨oc,od,kV,doc,pm,an,cdv,ct,osl,rfl,lk,hcd⟩:=F.ex
  refine⟨f,_,⟨len,fun A outer s H args us vs Q hr e0 hb r h=>?_⟩,hm,kp,hb⟩
  obtain⟨ds,H3,Q3,hr3,rs,qs,kk⟩:=h
  have hl:vs.length=ps.length:=by rw[←rs.length];exact len ds H3 Q3 qs
  have KX:K.In s.heap:=e0.mod.kin.keeps fun b o e=>(e0.bs b o e).1
  have lim:s.heap.NoLimit:=e0.mod.nolimit.keeps fun b o e=>(e0.bs b o e).1
  have hkind:∀y∈ps.zip us,(az st).names.lookup y.1=some .local\/((az st).names.lookup y.1=some .cell/\((BD (s.heap.objs.size+1) (az st).names []).lookup y.1).isSome=true):=fun ⟨n,v⟩ hy=>by
   rcases S.par n (pb hy).1 with q | q
   ·exact .inl q
   ·exact .inr ⟨q,mn _ _ _ (.inl q)⟩
  refine AJ (by have:=hr.dp;omega) (KX _ _ lk) rfl S.co S.gen rfl (CH KX hcd) (hb _ _ _ _ ?_)
  refine nL S.kind hkind fun env he s1 z=>?_
  subst he
  refine⟨lim.keeps z.toInCall.keep,codeAny_func ?_⟩
  have e1:Ba P w K mg base { A with handled:=none } outer s H:=⟨e0.frames,e0.mod,e0.bs,e0.bsz,e0.pL,e0.frf,e0.hok,e0.bare⟩
  have I0:L2.Inv (jn uN P w K mg base N x (az st) f cdv { A with handled:=none } outer s H E0) [] (L2.start N vs) H s1:=sZ S rfl e1 hl r z
  have I:L2.Inv (cxH P w K mg base N x (az st) f cdv A outer s H) [] (L2.start N vs) H s1:=El I0 rfl
  refine eB (hbody f cdv A outer s H (hr.deeper _) [] s1 (L2.start N vs) H { nx:=fun _ H'=>Q .non H',rt:=Q } I ⟨aM N ds,H3,_,nQ rs,hr3,rd ds H3 Q3 qs,⟨fun σ3 σ H3' H' tk sr hr' y=>?_,fun d v H3' H' tk hr' rd' y=>?_,fun _ _ _ _ _ _ _ y=>y.elim,fun _ _ _ _ _ _ _ y=>y.elim⟩⟩) (fun fl s' hs=>?_) fun e s' hs=>e6 hs
  ·obtain⟨H'',sub,q'⟩:=y
   exact kk _ _ _ _ tk (hr'.sub sub) .non q'
  ·obtain⟨H'',sub,q'⟩:=y
   exact kk _ _ _ _ tk (hr'.sub sub) rd' q'
  ·cases fl with
   |ret u=>
    obtain⟨v,σ',H',J,rv,y⟩:=hs
    exact⟨u,rfl,v,H',J.os,J.bare,J.base,J.hok,rv,y⟩
   |next=>
    obtain⟨σ',H',J,y⟩:=hs
    exact⟨.none,rfl,.non,H',J.os,J.bare,J.base,J.hok,rfl,y⟩
   |brk=>
    obtain⟨_,_,_,y⟩:=hs
    exact e6 y
   |cont=>
    obtain⟨_,_,_,y⟩:=hs
    exact e6 y
theorem Di{X:Cx}{k:Nat}{x:Str}{ps:List Str}{sp:mU}{p pos:Pos}{e:cS}{es:List cS}{t:sG}(F:FnH X.prog X.w X.K X.mg X.base k x ps sp)(hr:mK k X.A)(ha:JS X (e::es) t)
  (hg:Gl X x:=by rfl) (hdb:(x==("__debug__" : Str))=false:=by decide) (he:aI (e::es) X.env=(false,eR e X.env)::aI es X.env:=by rfl) (hpl:(i3 pos (aI es X.env)).any (·.1)=false:=by rfl) :
  b8 X (.Call (.Name x p) (e::es) [] pos) (cR sp t):=by
 obtain⟨f,fd,⟨len,run⟩,hm,hk,hb⟩:=F.ex
 intro pins s σ H Q I zz
 refine zz.ex fun σ3 H3 Q3 sr hr3 q kk=>?_
 refine gS (gC I hg hm ?_ hdb)
 refine pw (h₀:=X.base) I.ok.mod.kin hk (cC (ha pos pins s σ H (fun vs H1=>g8 X.K sp vs H1 Q) I ⟨σ3,H3,_,sr,hr3,q,fun ds vs H3a Ha tka hra rs qa=>⟨ds,H3a,Q3,hra,rs,qa,kk.mono tka⟩⟩) fun us s1 ⟨vs,H1,I1,r,q1⟩=>⟨I1.lR,?_⟩) he hpl
 have hl:(us++[]).length=ps.length:=by
  obtain⟨ds,H3,Q3,_,rs,y,_⟩:=q1
  rw[fA,←r.length,←rs.length];exact len ds H3 Q3 y
 have hb':=hb s1 us I1.lR hl
 rw[fA] at hb'
 refine nI (oo (run X.A X.stack s1 H1 ⟨us,[]⟩ us vs Q hr I1.env0 hb' r q1) fun r s' hq=>?_)
 obtain⟨u,rfl,hq⟩:=hq
 exact I1.after hq
theorem Ve{X:Cx}{b1:gg}{t:iT->cI}{cs:List Str}{th:cI}{cx n:Str}(i:Nat){b0:gg}{suite:List gg}{np hp pos:Pos}(hN:X.N.Nodup)(he:aa0 X b1 t)(hsub:∀c∈cs,yd X.K c cx)
  (hb:∀v:Option af,nF (rQ X (X.A.mark v)) (b0::suite) th) (hi:X.N[i]?=some n:=by rfl) (hloc:X.env.scope.names.lookup n=some .local:=by rfl) (hst:X.stack=X.env::X.outer:=by rfl) (hfm:X.env.frame=some X.env.locals:=by rfl) (hg:Gl X cx:=by rfl) (hdb:(cx==("__debug__" : Str))=false:=by decide) :
  BW X (.Try [b1] [.ExceptHandler (some (.Name cx np)) (some n) (b0::suite) hp] [] [] pos) (WM t cs i th):=by
 intro pins s σ H D I ⟨σ3,H3,D3,sr,hr3,q,kk⟩
 have hkl:X.env.kindOf n=some .local:=hloc
 refine wpAny_Try_except ?_
 have hx:=he pins s σ H D (fun v dd H1=>∃c H3',c.c∈cs/\br X.K ba c.c=some (some v)/\TK H H1/\HR X.K H3' H1/\XF X.K H1 dd c.fs/\∀a,H3' a=none->th (gone i D3) (σ3.set i (some (.ref a))) (aP H3' a (.exc c.c c.fs))) I
  ⟨σ3,H3,D3,_,sr,hr3,q,kk,fun c C dd H3' H' tk hr hC xf z=>⟨c,H3',z.1,hC,tk,hr,xf,z.2⟩⟩
 refine x5 (eB hx (fun f s1 hf=>?_) (fun x s' ⟨H1,s1,I1,z⟩=>?_))
 ·cases f with
  |next=>exact mI (mI hf)
  |_=>exact hf
 obtain⟨a,T,C,dd,H',rfl,os,bare,un,hok,na,nT,ua,uT,x,c,H3',hcs,hC,tk,hr',xf,qth⟩:=z
 have I':L2.Inv X pins σ H' s':=I1.call' os un hok bare (fun b z=>by cases z)
 have hfr:X.A.frames=some (X.env::X.outer):=by rw[←hst];exact I'.ok.frames
 have hl:s'.heap.FunFrames X.base (X.env::X.outer):=by rw[←hst];exact I'.stack
 have stf:∀b∈frs (X.env::X.outer),H' b=none:=fun b hb=>I'.vA b (by rw[hst];exact hb)
 rw[hst] at un
 have up:∀b,s'.heap.get? b=none->s1.heap.get? b=none:=fun b q=>by
  cases z:s1.heap.get? b with
  |none=>rfl
  |some o=>obtain⟨o',r⟩:=un.there b o z (by simp);rw[q] at r;cases r
 refine zA hfr hfm hl x fun h2 T2 k12 x2 nT2=>?_
 have un2:=Jw un na nT k12
 have hok2:=Cg hok ua uT stf k12
 have nT2':s1.heap.get? T2=none/\H' T2=none:=by
  rcases nT2 with z | z
  ·exact⟨up _ z,dY hok z⟩
  ·subst z;exact⟨nT,uT⟩
 have I2:L2.Inv X pins σ H' { s' with heap:=h2 }:=I1.call' (s':={ s' with heap:=h2 }) os (by rw[hst];exact un2) hok2 bare (fun b z=>by cases z)
 obtain⟨C',Cx,hC',hCx,m1,m2,m3⟩:=hsub c.c hcs
 have eC:C'=C:=by rw[hC] at hC';cases hC';rfl
 subst eC
 refine wpAny_handleBy_cons (codeAny_handlers_test (nE I2.ok.kind hg (x4 (by rw[I2.ok.glob];exact I2.mod.glob.keeps I2.bk) (iL I2.mod.kin I2.mod.glob hCx) ?_) hdb)) (by intro q;cases q)
 have x2':=x2
 obtain⟨oe,_,_,_,hoe,hcl,_⟩:=x2'
 refine Fe I2.lR hoe hcl.1 m1 m2 m3 ?_
 have hl2:h2.FunFrames X.base (X.env::X.outer):=by have:=I2.stack;rwa [hst] at this
 refine codeAny_handlers_suite_as (Be (s:={ s' with heap:=h2 }) x2 fun x3=>?_)
 have k3:=Jm (v:=.none) x2 hl2
 have un3:=Jw un2 na nT2'.1 k3
 have hok3:=Cg hok2 ua nT2'.2 stf k3
 generalize h2.update T2 (iF (·.setIfInBounds 3 .none))=h3 at x3 un3 hok3
 have I3:L2.Inv X pins σ (upd H' a (Bl a C' dd)) { s' with heap:=h3 }:=I1.call' (s':={ s' with heap:=h3 }) os (by rw[hst];exact X6 un3 na (dY I1.hok na)) (Tw hok3 ua x3) bare (fun b z=>by cases z)
 have tk2:TK H (upd H' a (Bl a C' dd)):=tk.trans (TK.fresh ua)
 have n3:H3' a=none:=hr'.fresh ua
 have hr4:HR X.K (aP H3' a (.exc c.c c.fs)) (upd H' a (Bl a C' dd)):=hr'.set (o3:=.exc c.c c.fs) (TK.fresh ua) ⟨C',dd,hC,aO,xf.mono (TK.fresh ua)⟩
 have hiσ:i<σ.length:=by rw[I.len];exact (bb.mp hi).1
 refine nO I3 hN hi (.inl hloc) (v:=.ref a) rfl (fun s4 I4=>?_) (.inr hloc)
 refine eB (hb (some (.ref a)) pins _ _ _ { nx:=fun σ' H'=>D.nx (σ'.set i none) H',rt:=D.rt,bk:=fun σ' H'=>D.bk (σ'.set i none) H',ct:=fun σ' H'=>D.ct (σ'.set i none) H' } (El I4 rfl)
  ⟨σ3.set i (some (.ref a)),aP H3' a (.exc c.c c.fs),gone i D3,(sr.mono tk2).set i (.ref a),hr4,qth a n3,?_⟩) (fun f s5 hf=>?_) fun _ _ z=>e6 z
 ·exact⟨fun σ3' σ' H3' H' tk' sr' hr' z=>kk.nx _ _ _ _ (tk2.trans tk') (sr'.Yq i) hr' z,kk.rt.mono tk2,fun σ3' σ' H3' H' tk' sr' hr' z=>kk.bk _ _ _ _ (tk2.trans tk') (sr'.Yq i) hr' z,fun σ3' σ' H3' H' tk' sr' hr' z=>kk.ct _ _ _ _ (tk2.trans tk') (sr'.Yq i) hr' z⟩
 ·have hf':=Lz I3.ok hf
  cases f with
  |next=>obtain⟨σ',H'',I5,q5⟩:=hf';exact lZ I5 hN hi hkl fun s6 I6=>⟨_,H'',I6,q5⟩
  |brk=>obtain⟨σ',H'',I5,q5⟩:=hf';exact lZ I5 hN hi hkl fun s6 I6=>⟨_,H'',I6,q5⟩
  |cont=>obtain⟨σ',H'',I5,q5⟩:=hf';exact lZ I5 hN hi hkl fun s6 I6=>⟨_,H'',I6,q5⟩
  |ret u=>obtain⟨v,σ',H'',I5,r5,q5⟩:=hf';exact lZ I5 hN hi hkl fun s6 I6=>⟨v,_,H'',I6,r5,q5⟩
end L3
namespace Law
open PySem PySem.Spec PyProof.Rows L2 L3
set_option maxHeartbeats 8000000
abbrev vC:List Str:=["one", "other"]
abbrev oR:List Str:=["one", "other"]
abbrev mj:List Str:=["corner", "word", "corners", "letter"]
abbrev dO:List Str:=["corner", "word"]
abbrev xK:List Str:=["word"]
abbrev kI:List Str:=["word"]
abbrev tD:List Str:=["word", "area", "corner", "letter"]
abbrev iG:List Str:=["word"]
abbrev eE:List Str:=["word", "place", "letter"]
abbrev cJ:List Str:=["word"]
abbrev fO:List Str:=["word", "corners", "seen", "place", "corner"]
abbrev bZ:List Str:=["word"]
abbrev gO:List Str:=["corner", "word", "rows", "here", "letter"]
abbrev cN:List Str:=["corner", "word"]
abbrev fM:List Str:=["corner", "word", "rows", "cells", "y", "xs", "k"]
abbrev cV:List Str:=["corner", "word"]
abbrev jG:List Str:=["corner", "word", "way", "area"]
abbrev fj:List Str:=["corner", "word"]
abbrev oA:List Str:=["_law_script", "_law_k"]
abbrev eY:List Str:=["_law_script", "_law_k"]
abbrev pX:List Str:=["_law_cell", "_law_other"]
abbrev fZ:List Str:=["_law_cell", "_law_other"]
abbrev xr:List Str:=["_law_letter"]
abbrev lg:List Str:=["_law_letter"]
abbrev wg:List Str:=["_law_corner_here", "_law_word_here", "_law_path_here", "_law_letter", "_law_step_here"]
abbrev lD:List Str:=["_law_corner_here", "_law_word_here"]
abbrev wz:List Str:=["_law_word_here", "_law_made", "_law_letter"]
abbrev lH:List Str:=["_law_word_here"]
abbrev qQ:List Str:=["_law_script", "_law_at", "_law_size"]
abbrev lK:List Str:=["_law_script", "_law_at", "_law_size"]
abbrev gk:List Str:=["_law_cells", "_law_east", "_law_west", "_law_north", "_law_south", "_law_met", "_law_known", "_law_cell", "_law_at", "_law_step_here", "_law_new"]
abbrev iC:List Str:=["_law_cells"]
abbrev sJ:List Str:=["_law_script", "_law_at", "_law_many", "_law_cells", "_law_k", "_law_cell", "_law_x", "_law_y", "_law_turn", "_law_step_here", "_law_new"]
abbrev iz:List Str:=["_law_script", "_law_at", "_law_many"]
abbrev o9:List Str:=["_law_cells", "_law_shift", "_law_moved_cells"]
abbrev iB:List Str:=["_law_cells", "_law_shift"]
abbrev sV:List Str:=["_law_piece_here", "_law_sides", "_law_x", "_law_y", "_law_letter", "_law_corner_here", "_law_other", "_law_word_here", "_law_k", "_law_step_here"]
abbrev iI:List Str:=["_law_piece_here"]
abbrev jY:List Str:=["_law_cell", "_law_wide", "_law_high"]
abbrev di:List Str:=["_law_cell"]
abbrev sW:List Str:=["_law_script", "_law_cell", "_law_word_here", "_law_at"]
abbrev iQ:List Str:=["_law_script"]
abbrev oE:List Str:=["_law_word_here", "_law_cell", "_law_at"]
abbrev fB:List Str:=["_law_word_here", "_law_cell"]
abbrev vR:List Str:=["_law_word_here", "_law_path_here", "_law_area_here", "_law_letter", "_law_corner_here"]
abbrev lQ:List Str:=["_law_word_here", "_law_path_here"]
abbrev vp:List Str:=["_law_word_here", "_law_place", "_law_letter", "_law_path_here", "_law_area_here"]
abbrev oN:List Str:=["_law_word_here"]
abbrev tY:List Str:=["_law_e", "_law_kinds"]
abbrev iH:List Str:=["_law_e"]
abbrev nM:List Str:=["_law_e"]
abbrev eZ:List Str:=["_law_e"]
abbrev xH:List Str:=["_law_corner_here", "_law_word_here", "_law_found", "_law_told_here", "_law_e"]
abbrev j8:List Str:=["_law_corner_here", "_law_word_here"]
abbrev RQ:List Str:=["_law_script", "_law_corner_here", "_law_word_here", "_law_due_here"]
abbrev OD:List Str:=["_law_script"]
abbrev xN:List Str:=["self", "place"]
abbrev jt:List Str:=["self", "place"]
abbrev yh:List Str:=["self", "place"]
abbrev jZ:List Str:=["self", "place"]
abbrev Cj:List Str:=["self", "way"]
abbrev m9:List Str:=["self", "way"]
def pG:List (Str×D):=[("e",.ktup (([1,0]:List Int).map D.int)),("n",.ktup (([0,1]:List Int).map D.int)),("w",.ktup (([-1,0]:List Int).map D.int)),("s",.ktup (([0,-1]:List Int).map D.int))]
local macro_rules | `(tactic| walk_at "l3h")=>`(tactic| first
 |with_reducible exact aF
 |assumption
 |exact bB (by walk_at "l3h") (by assumption))
local macro_rules | `(tactic| walk_at "l3a")=>`(tactic| first
 |with_reducible assumption
 |decide
 |omega
 |exact⟨by decide,by decide⟩
 |exact nN ⟨by decide,by decide⟩
 |exact nV ⟨by decide,by decide⟩
 |exact⟨by decide,by decide,by decide⟩
 |exact nN ⟨by omega,by omega⟩
 |exact nV ⟨by omega,by omega⟩
 |exact⟨by omega,by omega⟩)
local macro_rules | `(tactic| walk_at "l3t")=>`(tactic| simp only[aM,ck,y8,e8,pe,Nat.reduceAdd,Nat.reduceSub,kC,fF,EJ,List.nil_append])
local macro_rules | `(tactic| walk_at "l3b")=>`(tactic| first
 |with_reducible assumption
 |((with_reducible show Bt _ (_+_));exact Bt.add (by walk_at "l3b") (by walk_at "l3b"))
 |((with_reducible show Bt _ (_-_));exact Bt.sub (by walk_at "l3b") (by walk_at "l3b"))
 |((with_reducible show Bt _ (_*_));exact Bt.mul (by walk_at "l3b") (by walk_at "l3b"))
 |((with_reducible show Bt _ (-_));exact Bt.neg (by walk_at "l3b"))
 |((with_reducible show Bt _ (_ / _));exact Bt.div (by walk_at "l3b"))
 |exact Bt.lit (n:=64) (by decide)
 |exact Bt.lit (n:=256) (by decide))
local macro_rules | `(tactic| walk_at "l3w")=>`(tactic| first
 |((with_reducible show Oz _ _);exact And.intro (by walk_at "l3a") (Bt.mono (by walk_at "l3b") (by decide)))
 |exact nN (by walk_at "l3a")
 |exact yI.of (by walk_at "l3b") (by walk_at "l3b") (by decide))
local macro_rules | `(tactic| walk_at "l3s")=>`(tactic| first
 |with_reducible refine abZ ?_
 |((with_reducible show v3 _ _ _ _);refine Xc rfl ?_)
 |(with_reducible first | refine Xy ?_ | refine Yt ?_ | refine acK ?_)
 |((with_reducible refine YM ?_);(try dsimp only[mB,mE]))
 |((fail_if_success (with_reducible show dF.nx (cY _) _ _));(with_reducible refine Ry ?_);(try dsimp only[mB,mE]))
 |(with_reducible first | refine acP ?_ | refine GQ ?_ | refine Wh ?_ | refine acx ?_ | refine abO ?_ | refine ab3 ?_ | refine aac ?_)
 |with_reducible refine abn ?_
 |((with_reducible show AZ _<=1000/\_);refine aaW rfl ?_)
 |(with_reducible first | refine aa8 ?_ | refine Z4 ?_ | refine aau ?_ | refine aaS ?_ | refine acw ?_ | refine acy ?_ | refine adm ?_ | refine aaO ?_ | refine adb ?_)
 |((with_reducible show my _ _ _ _);refine Pu (by walk_at "l3w") ?_)
 |((with_reducible show gj _ _ _ _);refine Ww (by walk_at "l3w") ?_)
 |((with_reducible show cP _ _ _ _);refine VN (by walk_at "l3a") ?_)
 |((with_reducible show yD _ _ _ _);refine abx (by walk_at "l3a") ?_)
 |((with_reducible show bD (D.tup _) (D.int _) _ _);refine Ip rfl ?_)
 |(with_reducible first | refine abW ?_ | refine aci ?_ | refine ado ?_ | refine abj ?_ | refine YZ ?_ | refine acv ?_ | refine Yc ?_ | refine Xu ?_)
 |((with_reducible show fK [D.ref _] _ _);refine Wx (by walk_at "l3h") ?_)
 |((with_reducible show jR [D.ref _] _ _);refine Zc (by walk_at "l3h") ?_)
 |(with_reducible first | refine acF ?_ | refine acf ?_ | refine acR ?_ | refine aaE ?_)
 |((with_reducible show Lq (D.ref _) _ _ _ _);refine aaT (by walk_at "l3h") ?_)
 |(with_reducible first | refine Dn ?_ | refine aap ?_ | refine abQ ?_ | refine ade ?_)
 |((with_reducible refine ady ?_);(try dsimp only[mB,mE]))
 |((with_reducible refine ac4 ?_);(try dsimp only[mB,mE]))
 |((with_reducible refine ack ?_);(try dsimp only[mB,mE]))
 |(with_reducible first | refine adG ?_ | refine adh ?_ | refine aaC ?_ | refine aaF ?_ | refine abb ?_ | refine aaj ?_ | refine aa2 ?_ | refine abh ?_ | refine abi ?_ | refine ab8 ?_)
 |((with_reducible show ilk (D.ref _) _ _);refine VD (by walk_at "l3h") ?_)
 |(with_reducible first | refine abX ?_ | refine aby ?_)
 |((with_reducible show Yy _ _ _ _ _ _);refine ac0 rfl ?_)
 |(with_reducible first | refine Zf ?_ | refine Zo ?_ | refine acn ?_ | refine Z5 ?_ | refine abI ?_)
 |((with_reducible show bD (D.ktup _) (D.int _) _ _);refine Z6 rfl ?_)
 |(with_reducible first | refine Wv ?_ | refine aaH ?_ | refine abS ?_ | refine adq ?_ | refine aa9 ?_)
 |with_reducible refine Wm ?_
 |((with_reducible show Hu _ (D.ref _) _ _);refine YX (by walk_at "l3h") rfl ?_)
 |(with_reducible first | refine aaa ?_ | refine aae ?_)
 |(with_reducible first | refine abf ?_ | refine abq ?_ | refine adH ?_ | refine aaX ?_ | refine adi ?_ | refine abk ?_ | refine adB ?_)
 |((with_reducible show mtk _ _ _ (D.ref _) _ _);refine Ja (by walk_at "l3h") ?_)
 |(with_reducible first | refine ac5 ?_ | refine acL ?_ | refine adw ?_ | refine abC ?_ | refine aay ?_ | refine aaA ?_ | refine abu ?_ | refine aag ?_ | refine ab4 ?_ | refine aaL ?_ | refine aca ?_)
 |((with_reducible show wQ [_,D.ty _] _ _);refine abG rfl (by simp[kinds]) ?_)
 |walk_at "l3c")
local macro_rules | `(tactic| walk_at "l3")=>`(tactic| repeat walk_at "l3s")
abbrev Lt:=Fin 4
def cp(l:Lt):Nat:=match l with
 |0=>101
 |1=>110
 |2=>119
 |3=>115
def step(l:Lt):Pt:=match l with
 |0=>(1,0)
 |1=>(0,1)
 |2=>(-1,0)
 |3=>(0,-1)
def qz(l:Lt):Str:=⟨#[cp l]⟩
def aY(ls:List Lt):Str:=⟨(ls.map cp).toArray⟩
theorem ni(ls:List Lt):lets (aY ls)=ls.map fun l=>D.str (qz l):=by
 unfold lets aY qz;rw[lT,eA];rfl
theorem gJ(ls:List Lt):(aY ls).length=ls.length:=by
 show (ls.map cp).toArray.size=_;rw[cw,aw]
theorem Yv:∀ {a b:Lt},cp a=cp b->a=b:=by decide
theorem Q6{as bs:List Lt}(h:aY as=aY bs):as=bs:=by
 have e:as.map cp=bs.map cp:=by
  have:=congrArg (fun z:Str=>z.cps.toList) h
  simpa [aY] using this
 exact (List.map_inj_right fun a b hab=>Yv hab).mp e
def pB(s p:Pt):Pt:=(p.1+s.1,p.2+s.2)
def bC(c:Pt)(ls:List Lt):Pt:=ls.foldl (fun p l=>pB (step l) p) c
def path(c:Pt)(ls:List Lt):List Pt:=(dc (ls.length+1)).map fun i=>bC c (ls.take i)
theorem pI(c:Pt)(ls:List Lt)(l:Lt):bC c (ls++[l])=pB (step l) (bC c ls):=by unfold bC;rw[D4];rfl
theorem fW(c:Pt)(ls:List Lt):(path c ls).length=ls.length+1:=by unfold path;simp
theorem zm(c:Pt)(ls:List Lt)(l:Lt):path c (ls++[l])=path c ls++[pB (step l) (bC c ls)]:=by
 unfold path
 rw[bo,gE,pj (n:=ls.length+1),d0]
 congr 1
 ·refine gz fun i hi=>?_
  rw[d6] at hi
  rw[List.take_append_of_le_length (by omega)]
 ·rw[List.map_singleton,ez (by simp),pI]
theorem kO(c:Pt)(ls:List Lt)(i:Nat):(path c ls)[i]?=if i<=ls.length then some (bC c (ls.take i)) else none:=by
 unfold path
 rw[aS]
 split
 ·rw[kq (by omega)];rfl
 ·rw[fx (by rw[fT];omega)];rfl
theorem o7(c:Pt)(ls:List Lt):j7 ((path c ls).map cF) (-1)=some (.tup [.int (bC c ls).1,.int (bC c ls).2]):=by
 unfold j7 K6
 rw[aw,fW,if_neg (by omega),if_pos (by omega),gy,aS,show (-1+((ls.length+1:Nat):Int)).toNat=ls.length from by omega,kO,if_pos (aT _),mh]
 rfl
theorem Ei(as bs:List Lt):aY as++aY bs=aY (as++bs):=by
 show (⟨(as.map cp).toArray++(bs.map cp).toArray⟩:Str)=⟨_⟩
 congr 1
 rw[d0];simp
theorem wL{y z:Str}{H:aG}{Q:aX}(hl:y.length+z.length<=bS)(q:Q (.str (y++z)) H):bc (.str y) (.str z) H Q:=⟨hl,q⟩
theorem Jr{z:Str}{i:Int}{c:Nat}{H:aG}{Q:aX}(hz:z.length<=bS)(h:j7 z.cps.toList i=some c)(q:Q (.str ⟨#[c]⟩) H):bD (.str z) (.int i) H Q:=by
 simp only[bD,h];exact⟨hz,q⟩
theorem Q4(l:Lt):cp l<0x110000:=by revert l;decide
theorem Jp(ls:List Lt):iX (aY ls)=true:=by
 show (ls.map cp).toArray.all (· < 0x110000)=true
 rw[ow,qE,yv]
 intro l _
 exact decide_eq_true (Q4 l)
theorem Wb(H:aG)(ls:List Lt):MT H (.str (aY ls))=some (.str (aY ls)):=by
 show (if iX (aY ls)=true then some (uS (aY ls)) else none)=_
 rw[if_pos (Jp ls)]
theorem We(as bs:List Lt):fN (.str (aY as)) (.str (aY bs))=decide (as=bs):=by
 simp only[fN]
 by_cases h:as=bs
 ·subst h;simp
 ·rw[decide_eq_false h]
  exact beq_eq_false_iff_ne.mpr fun z=>h (Q6 z)
theorem Jg{as bs:List Lt}{H:aG}{Q:aX}(q:Q (.bl (decide (as=bs))) H):eO (.str (aY as)) (.str (aY bs)) H Q:=by
 simp only[eO,Wb,We];exact q
def opp(l:Lt):Lt:=match l with
 |0=>2
 |1=>3
 |2=>0
 |3=>1
def bk(ls:List Lt):List Lt:=(ls.map opp).reverse
theorem Zy(as bs:List Lt):bk (as++bs)=bk bs++bk as:=by unfold bk;rw[d0,List.reverse_append]
theorem vH(ls:List Lt):(bk ls).length=ls.length:=by unfold bk;rw[List.length_reverse,aw]
theorem abM(l:Lt)(p:Pt):pB (step (opp l)) (pB (step l) p)=p:=by
 obtain⟨x,y⟩:=p
 match l with
 |0=>exact de (by show x+1 + -1=x;omega) (by show y+0+0=y;omega)
 |1=>exact de (by show x+0+0=x;omega) (by show y+1 + -1=y;omega)
 |2=>exact de (by show x + -1+1=x;omega) (by show y+0+0=y;omega)
 |3=>exact de (by show x+0+0=x;omega) (by show y + -1+1=y;omega)
theorem vm(ls:List Lt)(h:ls.length<=1000):(aY ls).length<=bS:=by rw[gJ,bJ];omega
theorem yQ{α β:Type}(xs:List α)(f:α->β)(lo hi:Option Int):mQ (xs.map f) lo hi=(mQ xs lo hi).map f:=by
 unfold mQ
 rw[aw,←HV,←xp]
theorem DR(ls:List Lt)(n:Nat):yj (aY ls) none (some (n:Int))=aY (ls.take n):=by
 unfold yj aY
 rw[lT,yQ]
 congr 2
 unfold mQ HT.tL
 simp only[]
 rw[if_neg (by omega),fe,A4,IT]
 by_cases h:n<=ls.length
 ·rw[mM h]
 ·rw[ya (by omega),mh,ez (by omega)]
theorem rJ(ls:List Lt)(n:Nat):yj (aY ls) (some (n:Int)) none=aY (ls.drop n):=by
 unfold yj aY
 rw[lT,yQ]
 congr 2
 unfold mQ HT.tL
 simp only[]
 rw[if_neg (by omega),fe]
 by_cases h:n<=ls.length
 ·rw[mM h,ez (by rw[fI];exact aT _)]
 ·rw[ya (by omega),List.drop_length,List.drop_of_length_le (by omega)];simp
def rot(q:Nat)(l:Lt):Lt:=match q with
 |0=>l
 |1=>l+1
 |2=>l+2
 |_=>l+3
def mir(l:Lt):Lt:=match l with
 |0=>2
 |1=>1
 |2=>0
 |3=>3
def tl(k:Int)(l:Lt):Lt:=rot (k%4).toNat (if 4<=k then mir l else l)
theorem k8{k:Int}(h0:0<=k)(h1:k<8):k=0\/k=1\/k=2\/k=3\/k=4\/k=5\/k=6\/k=7:=by
 obtain⟨n,rfl⟩:=gL h0
 have:∀n:Fin 8,((n.val:Nat):Int)=0\/((n.val:Nat):Int)=1\/((n.val:Nat):Int)=2\/((n.val:Nat):Int)=3\/((n.val:Nat):Int)=4\/((n.val:Nat):Int)=5\/((n.val:Nat):Int)=6\/((n.val:Nat):Int)=7:=by decide
 exact this ⟨n,Int.ofNat_lt.mp h1⟩
theorem vP(c:Pt)(ls:List Lt):bC c ls=pB (bC (0,0) ls) c:=by
 induction ls generalizing c with
 |nil=>exact de (by show c.1=c.1+0;omega) (by show c.2=c.2+0;omega)
 |cons l ls ih=>
  show bC (pB (step l) c) ls=pB (bC (pB (step l) (0,0)) ls) c
  rw[ih,ih (pB (step l) (0,0))]
  exact de (by show c.1+(step l).1+_=c.1+(0+(step l).1+_);omega) (by show c.2+(step l).2+_=c.2+(0+(step l).2+_);omega)
theorem zW{ls:List Lt}{H:aG}{Q:aX}(hl:ls.length<=1000)(q:Q (.int ls.length) H):fK [.str (aY ls)] H Q:=⟨vm ls hl,by rw[gJ];exact q⟩
def stp:Nat->Pt
 |0=>(1,0)
 |1=>(0,1)
 |2=>(-1,0)
 |_=>(0,-1)
def jB(p:Pt):Nat->Pt
 |0=>(p.1,p.2)
 |1=>(p.1-1,p.2)
 |2=>(p.1-1,p.2-1)
 |_=>(p.1,p.2-1)
def qw(p:Pt):Nat->Pt
 |0=>(p.1,p.2-1)
 |1=>(p.1,p.2)
 |2=>(p.1-1,p.2)
 |_=>(p.1-1,p.2-1)
def mW(p:Pt)(d:Nat):Pt:=(p.1+(stp d).1,p.2+(stp d).2)
structure qY(S:List Pt)(p:Pt)(d:Nat):Prop where
 lt:d<4
 l:jB p d∈S
 r:qw p d∉S
inductive BZ(R:Pt->Pt->Prop)(p:Pt):Pt->Prop where
 |refl:BZ R p p
 |step {q r:Pt}:BZ R p q->R q r->BZ R p r
theorem BZ.trans{R:Pt->Pt->Prop}{p q r:Pt}(h:BZ R p q)(g:BZ R q r):BZ R p r:=by
 induction g with
 |refl=>exact h
 |step _ s ih=>exact .step ih s
def xQ(S:List Pt)(p:Pt):Prop:=∃d,qY S p d
theorem swap{R R':Pt->Pt->Prop}{C C' I:Pt->Prop}{a b:Pt}(h1:BZ R' a b)(h2:∀p q,R p q->(R' p q/\¬I p/\¬I q)\/((p=a\/I p)/\(q=b\/I q)))(ha:¬I a)(hb:¬I b)
  (h4:∀q,C' q->¬I q/\(C q\/(BZ R' a q/\BZ R' q b))) (ca:C a) (cb:C b) (hS:∀p q,C p->C q->BZ R p q):∀p q,C' p->C' q->BZ R' p q:=by
 have A:∀p q,¬I p->BZ R p q->(¬I q/\BZ R' p q)\/(I q/\BZ R' p a):=by
  intro p q hp h
  induction h with
  |refl=>exact .inl ⟨hp,.refl⟩
  |@step q r _ s ih=>
   rcases h2 q r s with ⟨s1,s2,s3⟩ | ⟨s1,s2⟩
   ·rcases ih with ⟨_,i⟩ | ⟨i,_⟩
    ·exact .inl ⟨s3,.step i s1⟩
    ·exact absurd i s2
   ·have pa:BZ R' p a:=by
     rcases ih with ⟨i1,i2⟩ | ⟨_,i⟩
     ·rcases s1 with rfl | s1
      ·exact i2
      ·exact absurd s1 i1
     ·exact i
    rcases s2 with rfl | s2
    ·exact .inl ⟨hb,pa.trans h1⟩
    ·exact .inr ⟨s2,pa⟩
 have B:∀p q,C p->C q->¬I p->¬I q->BZ R' p q:=fun p q cp cq np nq=>by
  rcases A p q np (hS p q cp cq) with z | z
  ·exact z.2
  ·exact absurd z.1 nq
 intro p q cp cq
 obtain⟨np,zp⟩:=h4 p cp
 obtain⟨nq,zq⟩:=h4 q cq
 have D:∀p,C p->¬I p->BZ R' p q:=fun p cp np=>by
  rcases zq with zq | zq
  ·exact B p q cp zq np nq
  ·exact (B p a cp ca np ha).trans zq.1
 rcases zp with zp | zp
 ·exact D p zp np
 ·exact zp.2.trans (D b cb hb)
def JF:Nat->Nat
 |0=>1
 |1=>2
 |2=>3
 |_=>0
def nb(c:Pt)(j:Nat):Pt:=(c.1+(stp j).1,c.2+(stp j).2)
def NP(c:Pt):Nat->Pt
 |0=>(c.1+1,c.2)
 |1=>(c.1+1,c.2+1)
 |2=>(c.1,c.2+1)
 |_=>(c.1,c.2)
def dgl(c:Pt):Nat->Pt
 |0=>(c.1+1,c.2+1)
 |1=>(c.1-1,c.2+1)
 |2=>(c.1-1,c.2-1)
 |_=>(c.1+1,c.2-1)
theorem Um:stp 0=(1,0):=rfl
theorem Tc:stp 1=(0,1):=rfl
theorem Xv:stp 2=(-1,0):=rfl
theorem Xj:stp 3=(0,-1):=rfl
theorem ada:JF 0=1:=rfl
theorem ac8:JF 1=2:=rfl
theorem adD:JF 2=3:=rfl
theorem acB:JF 3=0:=rfl
theorem abz(p:Pt):jB p 0=(p.1,p.2):=rfl
theorem O9(p:Pt):jB p 1=(p.1-1,p.2):=rfl
theorem adv(p:Pt):jB p 2=(p.1-1,p.2-1):=rfl
theorem W2(p:Pt):jB p 3=(p.1,p.2-1):=rfl
theorem YD(p:Pt):qw p 0=(p.1,p.2-1):=rfl
theorem O2(p:Pt):qw p 1=(p.1,p.2):=rfl
theorem acq(p:Pt):qw p 2=(p.1-1,p.2):=rfl
theorem Yl(p:Pt):qw p 3=(p.1-1,p.2-1):=rfl
theorem ab7(p:Pt):NP p 0=(p.1+1,p.2):=rfl
theorem abV(p:Pt):NP p 1=(p.1+1,p.2+1):=rfl
theorem ab5(p:Pt):NP p 2=(p.1,p.2+1):=rfl
theorem acC(p:Pt):NP p 3=(p.1,p.2):=rfl
theorem adt(p:Pt):dgl p 0=(p.1+1,p.2+1):=rfl
theorem ab9(p:Pt):dgl p 1=(p.1-1,p.2+1):=rfl
theorem adx(p:Pt):dgl p 2=(p.1-1,p.2-1):=rfl
theorem ac9(p:Pt):dgl p 3=(p.1+1,p.2-1):=rfl
local macro_rules | `(tactic| walk_at "pp")=>`(tactic| (refine de ?_ ?_ <;> (simp only[Um,Tc,Xv,Xj,ada,ac8,adD,acB,abz,O9,adv,W2,YD,O2,acq,Yl,ab7,abV,ab5,acC,adt,ab9,adx,ac9,nb,mW];try omega)))
theorem c4{j:Nat}(h:j<4):j=0\/j=1\/j=2\/j=3:=(by decide:∀j:Fin 4,j.val=0\/j.val=1\/j.val=2\/j.val=3) ⟨j,h⟩
section
variable{S T:List Pt}{c p:Pt}{d j:Nat}
theorem ac7:JF j<4:=by unfold JF;split <;> omega
theorem adJ(hd:d<4)(h:qw p d=c):∃j,j<4/\p=NP c (JF j)/\mW p d=NP c j/\jB p d=nb c j:=by
 subst h
 rcases c4 hd with rfl | rfl | rfl | rfl
 ·exact⟨1,by omega,by walk_at "pp",by walk_at "pp",by walk_at "pp"⟩
 ·exact⟨2,by omega,by walk_at "pp",by walk_at "pp",by walk_at "pp"⟩
 ·exact⟨3,by omega,by walk_at "pp",by walk_at "pp",by walk_at "pp"⟩
 ·exact⟨0,by omega,by walk_at "pp",by walk_at "pp",by walk_at "pp"⟩
theorem abN(hj:j<4):∃d,d<4/\jB (NP c j) d=c/\qw (NP c j) d=nb c j/\mW (NP c j) d=NP c (JF j):=by
 rcases c4 hj with rfl | rfl | rfl | rfl
 ·exact⟨1,by omega,by walk_at "pp",by walk_at "pp",by walk_at "pp"⟩
 ·exact⟨2,by omega,by walk_at "pp",by walk_at "pp",by walk_at "pp"⟩
 ·exact⟨3,by omega,by walk_at "pp",by walk_at "pp",by walk_at "pp"⟩
 ·exact⟨0,by omega,by walk_at "pp",by walk_at "pp",by walk_at "pp"⟩
def Meet(p q:Pt):Prop:=q=(p.1,p.2)\/q=(p.1-1,p.2)\/q=(p.1-1,p.2-1)\/q=(p.1,p.2-1)
theorem Vf(hd:d<4):Meet (mW p d) (qw p d):=by
 rcases c4 hd with rfl | rfl | rfl | rfl
 ·exact .inr (.inr (.inl (by walk_at "pp")))
 ·exact .inr (.inr (.inr (by walk_at "pp")))
 ·exact .inl (by walk_at "pp")
 ·exact .inr (.inl (by walk_at "pp"))
end
section
variable{S T:List Pt}{c p:Pt}{d j:Nat}
theorem J1{u v:Pt}(hu:Meet p u)(hv:Meet p v)(iu:u∈S)(iv:v∉S):xQ S p:=by
 refine cm fun h=>?_
 have e0:(p.1,p.2)∈S->(p.1,p.2-1)∈S:=fun z=>cm fun y=>h ⟨0,by omega,z,y⟩
 have e1:(p.1-1,p.2)∈S->(p.1,p.2)∈S:=fun z=>cm fun y=>h ⟨1,by omega,z,y⟩
 have e2:(p.1-1,p.2-1)∈S->(p.1-1,p.2)∈S:=fun z=>cm fun y=>h ⟨2,by omega,z,y⟩
 have e3:(p.1,p.2-1)∈S->(p.1-1,p.2-1)∈S:=fun z=>cm fun y=>h ⟨3,by omega,z,y⟩
 have all:(p.1,p.2)∈S:=by
  rcases hu with rfl | rfl | rfl | rfl
  ·exact iu
  ·exact e1 iu
  ·exact e1 (e2 iu)
  ·exact e1 (e2 (e3 iu))
 rcases hv with rfl | rfl | rfl | rfl
 ·exact iv all
 ·exact iv (e2 (e3 (e0 all)))
 ·exact iv (e3 (e0 all))
 ·exact iv (e0 all)
def Dg(S:List Pt):Prop:=∀p:Pt,¬((p.1,p.2)∈S/\(p.1-1,p.2-1)∈S/\(p.1-1,p.2)∉S/\(p.1,p.2-1)∉S)/\¬((p.1-1,p.2)∈S/\(p.1,p.2-1)∈S/\(p.1,p.2)∉S/\(p.1-1,p.2-1)∉S)
theorem lL(h:Dg S){e:Nat}(a:qY S p d)(b:qY S p e):d=e:=by
 obtain⟨h1,h2⟩:=h p
 obtain⟨a0,a1,a2⟩:=a
 obtain⟨b0,b1,b2⟩:=b
 rcases c4 a0 with rfl | rfl | rfl | rfl <;> rcases c4 b0 with rfl | rfl | rfl | rfl
 ·rfl
 ·exact absurd a1 b2
 ·exact absurd ⟨a1,b1,b2,a2⟩ h1
 ·exact absurd b1 a2
 ·exact absurd b1 a2
 ·rfl
 ·exact absurd a1 b2
 ·exact absurd ⟨a1,b1,a2,b2⟩ h2
 ·exact absurd ⟨b1,a1,a2,b2⟩ h1
 ·exact absurd b1 a2
 ·rfl
 ·exact absurd a1 b2
 ·exact absurd a1 b2
 ·exact absurd ⟨b1,a1,b2,a2⟩ h2
 ·exact absurd b1 a2
 ·rfl
theorem Pz(e:qY S p d):xQ S (mW p d):=by
 refine J1 (u:=jB p d) (v:=qw p d) ?_ (Vf e.lt) e.l e.r
 rcases c4 e.lt with rfl | rfl | rfl | rfl
 ·exact .inr (.inl (by walk_at "pp"))
 ·exact .inr (.inr (.inl (by walk_at "pp")))
 ·exact .inr (.inr (.inr (by walk_at "pp")))
 ·exact .inl (by walk_at "pp")
end
section
variable{S T:List Pt}{p q:Pt}{d:Nat}
def outD(S:List Pt)(p:Pt):Nat:=if jB p 0∈S/\qw p 0∉S then 0 else if jB p 1∈S/\qw p 1∉S then 1 else if jB p 2∈S/\qw p 2∉S then 2 else 3
theorem fY(h:xQ S p):qY S p (outD S p):=by
 obtain⟨d,e⟩:=h
 unfold outD
 by_cases h0:jB p 0∈S/\qw p 0∉S
 ·rw[if_pos h0];exact⟨by omega,h0.1,h0.2⟩
 rw[if_neg h0]
 by_cases h1:jB p 1∈S/\qw p 1∉S
 ·rw[if_pos h1];exact⟨by omega,h1.1,h1.2⟩
 rw[if_neg h1]
 by_cases h2:jB p 2∈S/\qw p 2∉S
 ·rw[if_pos h2];exact⟨by omega,h2.1,h2.2⟩
 rw[if_neg h2]
 rcases c4 e.lt with rfl | rfl | rfl | rfl
 ·exact absurd ⟨e.l,e.r⟩ h0
 ·exact absurd ⟨e.l,e.r⟩ h1
 ·exact absurd ⟨e.l,e.r⟩ h2
 ·exact e
def uw(S:List Pt)(p:Pt):Nat->Pt
 |0=>p
 |n+1=>mW (uw S p n) (outD S (uw S p n))
theorem qO(h:xQ S p):∀n,xQ S (uw S p n)
 |0=>h
 |n+1=>Pz (fY (qO h n))
theorem least{P:Nat->Prop}(h:∃n,P n):∃n,P n/\∀m,m<n->¬P m:=by
 obtain⟨n,hn⟩:=h
 have:∀k n,n<=k->P n->∃n,P n/\∀m,m<n->¬P m:=by
  intro k
  induction k with
  |zero=>intro n hk hP;exact⟨n,hP,fun m hm=>by omega⟩
  |succ k ih=>
   intro n hk hP
   by_cases z:∃m,m<n/\P m
   ·obtain⟨m,hm,hPm⟩:=z
    exact ih m (by omega) hPm
   ·exact⟨n,hP,fun m hm hPm=>z ⟨m,hm,hPm⟩⟩
 exact this n n (aT _) hn
structure Zd(S:List Pt)(p:Pt)(t:Nat):Prop where
 pos:0<t
 back:uw S p t=p
 not:∀m,0<m->m<t->uw S p m≠p
 all:∀q,xQ S q->∃m,m<t/\q=uw S p m
 inj:∀i j,i<j->j<t->uw S p i≠uw S p j
theorem sub_len{α:Type}[DecidableEq α]:∀ {xs ys:List α},xs.Nodup->(∀x∈xs,x∈ys)->xs.length<=ys.length
 |[],_,_,_=>ef _
 |x::xs,ys,nd,h=>by
  have nd':=kg.mp nd
  have hx:=h x eg
  have:=sub_len (xs:=xs) (ys:=ys.erase x) nd'.2 fun y hy=>(List.mem_erase_of_ne (fun e:y=x=>nd'.1 (e▸hy))).mpr (h y (dQ _ hy))
  rw[List.length_erase_of_mem hx] at this
  have hpos:=qS hx
  show xs.length+1<=_
  omega
end
def du(p:Pt):List Pt:=[(p.1+1,p.2),(p.1,p.2+1),(p.1-1,p.2),(p.1,p.2-1)]
inductive mF(S:List Pt)(s:Pt):Pt->Prop
 |refl:mF S s s
 |step {c n:Pt}:mF S s c->n∈du c->n∈S->mF S s n
theorem Ym{c n:Pt}:n∈du c↔n=(c.1+1,c.2)\/n=(c.1,c.2+1)\/n=(c.1-1,c.2)\/n=(c.1,c.2-1):=by simp[du]
theorem Jq{a b:Pt}:a=b↔a.1=b.1/\a.2=b.2:=Prod.ext_iff
theorem pU{c n:Pt}:n∈du c↔(n.1=c.1+1/\n.2=c.2)\/(n.1=c.1/\n.2=c.2+1)\/(n.1=c.1-1/\n.2=c.2)\/(n.1=c.1/\n.2=c.2-1):=by
 rw[Ym,Jq,Jq,Jq,Jq]
theorem abJ{c n:Pt}(h:n∈du c):c∈du n:=by
 rcases Ym.mp h with rfl | rfl | rfl | rfl
 ·exact pU.mpr (.inr (.inr (.inl ⟨(ix c.1 1).symm,rfl⟩)))
 ·exact pU.mpr (.inr (.inr (.inr ⟨rfl,(ix c.2 1).symm⟩)))
 ·exact pU.mpr (.inl ⟨(vk c.1 1).symm,rfl⟩)
 ·exact pU.mpr (.inr (.inl ⟨rfl,(vk c.2 1).symm⟩))
theorem mF.mem{S:List Pt}{s c:Pt}(hs:s∈S)(h:mF S s c):c∈S:=by
 induction h with
 |refl=>exact hs
 |step _ _ h _=>exact h
theorem mF.trans{S:List Pt}{a b c:Pt}(h1:mF S a b)(h2:mF S b c):mF S a c:=by
 induction h2 with
 |refl=>exact h1
 |step _ h h' ih=>exact .step ih h h'
theorem mF.symm{S:List Pt}{a b:Pt}(ha:a∈S)(h:mF S a b):mF S b a:=by
 induction h with
 |refl=>exact .refl
 |step k h h' ih=>exact mF.trans (.step .refl (abJ h) (k.mem ha)) ih
theorem mF.mono{S T:List Pt}{a b:Pt}(hs:∀x∈S,x∈T)(h:mF S a b):mF T a b:=by
 induction h with
 |refl=>exact .refl
 |step _ h h' ih=>exact .step ih h (hs _ h')
inductive Way(S:List Pt)(a:Pt):Pt->Prop
 |refl:Way S a a
 |step {b n:Pt}:Way S a b->n∈du b->n∉S->Way S a n
theorem Way.off{S:List Pt}{a b:Pt}(ha:a∉S)(h:Way S a b):b∉S:=by
 cases h with
 |refl=>exact ha
 |step _ _ h=>exact h
theorem Way.trans{S:List Pt}{a b c:Pt}(h1:Way S a b)(h2:Way S b c):Way S a c:=by
 induction h2 with
 |refl=>exact h1
 |step _ h h' ih=>exact .step ih h h'
def Esc(S:List Pt)(a:Pt):Prop:=∃b,Way S a b/\∀c∈S,c.2<b.2
def hp(p a b:Pt):Bool:=decide ((a.1=p.1/\b.1=p.1+1/\p.2<a.2)\/(b.1=p.1/\a.1=p.1+1/\p.2<b.2))
def par(h:Pt->Pt->Bool):Pt->List Pt->Bool
 |_,[]=>false
 |a,b::l=>h a b ^^ par h b l
def endL:Pt->List Pt->Pt
 |a,[]=>a
 |_,b::l=>endL b l
structure Sc(S:List Pt):Prop where
 con:∀a∈S,∀b∈S,mF S a b
 esc:∀a,a∉S->Esc S a
section
variable{S T:List Pt}
theorem MP{c:Pt}{w:Pt}(h:w∈du c):∃i,i<4/\nb c i=w:=by
 rw[Ym] at h
 rcases h with rfl | rfl | rfl | rfl
 ·exact⟨0,by omega,de rfl (by show c.2+0=c.2;omega)⟩
 ·exact⟨1,by omega,de (by show c.1+0=c.1;omega) rfl⟩
 ·exact⟨2,by omega,de rfl (by show c.2+0=c.2;omega)⟩
 ·exact⟨3,by omega,de (by show c.1+0=c.1;omega) rfl⟩
end
def ltN(d:Nat):Lt:=match d with
 |0=>0
 |1=>1
 |2=>2
 |_=>3
theorem vN{d:Nat}(h:d<4):step (ltN d)=stp d:=by
 rcases c4 h with rfl | rfl | rfl | rfl <;> rfl
def yO(c:Pt)(d:Nat):Pt:=match d with
 |0=>(c.1,c.2)
 |1=>(c.1+1,c.2)
 |2=>(c.1+1,c.2+1)
 |_=>(c.1,c.2+1)
def BX(c:Pt)(d:Nat):Pt:=match d with
 |0=>(c.1,c.2-1)
 |1=>(c.1+1,c.2)
 |2=>(c.1,c.2+1)
 |_=>(c.1-1,c.2)
theorem Ti{c:Pt}{d:Nat}(h:d<4):jB (yO c d) d=c:=by
 rcases c4 h with rfl | rfl | rfl | rfl
 ·rfl
 ·exact de (by show c.1+1-1=c.1;omega) rfl
 ·exact de (by show c.1+1-1=c.1;omega) (by show c.2+1-1=c.2;omega)
 ·exact de rfl (by show c.2+1-1=c.2;omega)
theorem S8{c:Pt}{d:Nat}(h:d<4):qw (yO c d) d=BX c d:=by
 rcases c4 h with rfl | rfl | rfl | rfl
 ·rfl
 ·rfl
 ·exact de (by show c.1+1-1=c.1;omega) rfl
 ·exact de rfl (by show c.2+1-1=c.2;omega)
theorem Jh{p:Pt}{d:Nat}(h:d<4):p=yO (jB p d) d:=by
 rcases c4 h with rfl | rfl | rfl | rfl
 ·rfl
 ·exact de (by show p.1=p.1-1+1;omega) rfl
 ·exact de (by show p.1=p.1-1+1;omega) (by show p.2=p.2-1+1;omega)
 ·exact de rfl (by show p.2=p.2-1+1;omega)
structure Lb(S:List Pt)(val:Pt->Nat->D)(i k:Nat)(kvs:List (Pt×D)):Prop where
 nd:(kvs.map (·.1)).Nodup
 sub:∀q∈kvs.map (·.1),xQ S q
 has:∀(j d:Nat) (c:Pt),S[j]?=some c->d<4->(j<i\/(j=i/\d<k))->BX c d∉S->yO c d∈kvs.map (·.1)
 look:∀q∈kvs.map (·.1),iY kvs q=some (val q (outD S q))
 len:kvs.length<=4*i+k
section
variable{S:List Pt}{val:Pt->Nat->D}{i k:Nat}{kvs:List (Pt×D)}{c:Pt}
theorem Lb.nil:Lb S val 0 0 []:=⟨by simp,by simp,fun j d c _ _ h=>by omega,by simp,by simp⟩
theorem Lb.skip(h:Lb S val i k kvs)(hc:S[i]?=some c)(hin:BX c k∈S):Lb S val i (k+1) kvs :=
 ⟨h.nd,h.sub,fun j d c' hj hd hjk ho=>by
  by_cases e:j=i/\d=k
  ·obtain⟨rfl,rfl⟩:=e
   rw[hc] at hj;cases hj
   exact absurd hin ho
  ·exact h.has j d c' hj hd (hjk.imp_right fun ⟨a,b⟩=>⟨a,vn (AF.mp b) fun z=>e ⟨a,z⟩⟩) ho,h.look,D5 h.len⟩
theorem Lb.next(h:Lb S val i 4 kvs):Lb S val (i+1) 0 kvs :=
 ⟨h.nd,h.sub,fun j d c hj hd hjk ho=>h.has j d c hj hd (by omega) ho,h.look,by have:=h.len;omega⟩
end
theorem QJ{S:List Pt}{s:Pt}(h:S[0]?=some s):j7 (S.map cF) 0=some (.tup [.int s.1,.int s.2]):=by
 have:=(bb.mp h).1
 unfold j7 K6
 rw[aw,if_pos (by omega),if_pos (by omega),gy,aS]
 show (S[0]?).map cF=_
 rw[h];rfl
theorem BV{S:List Pt}{p:Pt}:outD S p<4:=by unfold outD;repeat (first | omega | split)
def wd(S:List Pt)(p:Pt)(t:Nat):List Lt:=(dc t).map fun i=>ltN (outD S (uw S p i))
theorem Fz(S:List Pt)(p:Pt)(t:Nat):(wd S p t).length=t:=by unfold wd;rw[aw,fT]
theorem Ji(S:List Pt)(p:Pt)(t:Nat):wd S p (t+1)=wd S p t++[ltN (outD S (uw S p t))]:=by unfold wd;rw[pj,d0];rfl
theorem SQ(S:List Pt)(p:Pt){t i:Nat}(h:i<=t):(wd S p t).take i=wd S p i:=by unfold wd;rw[←xp,FK,mM h]
theorem Bu(S:List Pt)(p:Pt):∀t,bC p (wd S p t)=uw S p t
 |0=>rfl
 |t+1=>by
  rw[Ji,pI,Bu S p t,vN BV]
  exact de rfl rfl
def uQ(S cs:List Pt):List Pt:=(cs.map fun c=>((dc 4).filter fun d=>!decide (BX c d∈S)).map (yO c)).flatten
theorem Eo{S cs:List Pt}{q:Pt}:q∈uQ S cs↔∃c∈cs,∃d,d<4/\BX c d∉S/\q=yO c d:=by
 unfold uQ
 simp only[rS,cn,fE,d6,xh,decide_eq_false_iff_not]
 constructor
 ·rintro⟨_,⟨c,hc,rfl⟩,h⟩
  obtain⟨d,hd,rfl⟩:=cn.mp h
  have:=fE.mp hd
  exact⟨c,hc,d,d6.mp this.1,by simpa using this.2,rfl⟩
 ·rintro⟨c,hc,d,h1,h2,rfl⟩
  exact⟨_,⟨c,hc,rfl⟩,cn.mpr ⟨d,fE.mpr ⟨d6.mpr h1,by simpa using h2⟩,rfl⟩⟩
theorem oY{S:List Pt}{c:Pt}{d:Nat}(hc:c∈S)(hd:d<4)(ho:BX c d∉S):qY S (yO c d) d:=⟨hd,by rw[Ti hd];exact hc,by rw[S8 hd];exact ho⟩
theorem Jl{S:List Pt}(g:Dg S):∀ {cs:List Pt},cs.Nodup->(∀c∈cs,c∈S)->(uQ S cs).Nodup
 |[],_,_=>by simp[uQ]
 |c::cs,nd,sub=>by
  have h1:=kg.mp nd
  have e:uQ S (c::cs)=((dc 4).filter fun d=>!decide (BX c d∈S)).map (yO c)++uQ S cs:=by simp[uQ]
  have hc:=sub c (by simp)
  rw[e,hV]
  refine⟨?_,Jl g h1.2 fun x hx=>sub x (by simp[hx]),fun a ha b hb z=>?_⟩
  ·rw[cK,f7]
   refine oS (fun {a b} ha hb hne z=>?_) (cK.mp (rV.filter _))
   have ka:=fE.mp ha
   have kb:=fE.mp hb
   have ea:=oY hc (d6.mp ka.1) (by simpa using ka.2)
   have eb:=oY hc (d6.mp kb.1) (by simpa using kb.2)
   rw[←z] at eb
   exact hne (lL g ea eb)
  ·subst z
   obtain⟨d,hd,rfl⟩:=cn.mp ha
   have kd:=fE.mp hd
   obtain⟨c',hc',d',h1',h2',e'⟩:=Eo.mp hb
   have ea:=oY hc (d6.mp kd.1) (by simpa using kd.2)
   have eb:=oY (sub c' (by simp[hc'])) h1' h2'
   have e2:=e'
   rw[←e'] at eb
   have ed:=lL g ea eb
   subst ed
   have:c=c':=by rw[←Ti (c:=c) ea.lt,e',Ti ea.lt]
   exact h1.1 (this▸hc')
def ar(c:Pt):List Lt->Int
 |[]=>0
 |l::ls=>c.1*(step l).2+ar (pB (step l) c) ls
theorem Yh(c:Pt)(as bs:List Lt):ar c (as++bs)=ar c as+ar (bC c as) bs:=by
 induction as generalizing c with
 |nil=>show ar c bs=0+ar c bs;omega
 |cons l as ih=>
  show c.1*(step l).2+ar (pB (step l) c) (as++bs)=c.1*(step l).2+ar (pB (step l) c) as+ar (bC (pB (step l) c) as) bs
  rw[ih];omega
theorem u9(c:Pt)(ls:List Lt)(l:Lt):ar c (ls++[l])=ar c ls+(bC c ls).1*(step l).2:=by
 rw[Yh]
 show _+((bC c ls).1*(step l).2+0)=_
 omega
theorem T9(c:Pt)(ls:List Lt):ar c ls=ar (0,0) ls+c.1*(bC (0,0) ls).2:=by
 have key:∀(ls:List Lt) (c d:Pt),ar (pB d c) ls=ar c ls+d.1*((bC c ls).2-c.2):=by
  intro ls
  induction ls with
  |nil=>intro c d;show (0:Int)=0+d.1*(c.2-c.2);rw[lx,i0];rfl
  |cons l ls ih=>
   intro c d
   have e:pB (step l) (pB d c)=pB d (pB (step l) c):=de (by show c.1+d.1+(step l).1=c.1+(step l).1+d.1;omega) (by show c.2+d.2+(step l).2=c.2+(step l).2+d.2;omega)
   show (pB d c).1*(step l).2+ar (pB (step l) (pB d c)) ls=c.1*(step l).2+ar (pB (step l) c) ls+d.1*((bC (pB (step l) c) ls).2-c.2)
   rw[e,ih (pB (step l) c) d]
   have e2:(pB d c).1*(step l).2=c.1*(step l).2+d.1*(step l).2:=by show (c.1+d.1)*_=_;rw[E2]
   have e3:d.1*((bC (pB (step l) c) ls).2-(pB (step l) c).2)=d.1*(bC (pB (step l) c) ls).2-d.1*c.2-d.1*(step l).2:=by
    show d.1*(_-(c.2+(step l).2))=_
    rw[E4,E5];omega
   rw[e2,e3,E4];omega
 have:=key ls (0,0) c
 rw[show pB c (0,0)=c from de (by show 0+c.1=c.1;omega) (by show 0+c.2=c.2;omega)] at this
 rw[this]
 show _+c.1*(_-0)=_
 rw[DZ]
theorem Fl(ls:List Lt):asc (aY ls):=by
 show (ls.map cp).toArray.all (· < 128)=true
 rw[ow,qE,yv]
 intro l _
 have:∀l:Lt,cp l<128:=by decide
 exact decide_eq_true (this l)
theorem VJ{l:Lt}{H:aG}{Q:aX}(q:Q (.bl (decide (l=1))) H):eO (.str (qz l)) (.str (eS "n")) H Q:=by
 have:=Jg (as:=[l]) (bs:=[1]) (H:=H) (Q:=Q) (by rw[show decide ([l]=[(1:Lt)])=decide (l=1) from by simp];exact q)
 exact this
theorem I9{l:Lt}{H:aG}{Q:aX}(q:Q (.bl (decide (l=3))) H):eO (.str (qz l)) (.str (eS "s")) H Q:=by
 have:=Jg (as:=[l]) (bs:=[3]) (H:=H) (Q:=Q) (by rw[show decide ([l]=[(3:Lt)])=decide (l=3) from by simp];exact q)
 exact this
theorem Ss{c:Pt}{ls:List Lt}{i:Nat}{p:Pt×Lt}(h:((path c ls).zip ls)[i]?=some p):p.1=bC c (ls.take i)/\ls[i]?=some p.2:=by
 rw[vT] at h
 refine⟨?_,h.2⟩
 have h1:=h.1
 rw[kO] at h1
 split at h1
 ·exact (Option.some.inj h1).symm
 ·cases h1
theorem Us{c:Pt}{ls:List Lt}{i:Nat}{p:Lt×Pt}(h:(ls.zip (path c ls))[i]?=some p):p.2=bC c (ls.take i)/\ls[i]?=some p.1:=by
 rw[vT] at h
 refine⟨?_,h.1⟩
 have h1:=h.2
 rw[kO] at h1
 split at h1
 ·exact (Option.some.inj h1).symm
 ·cases h1
theorem Jt(c:Pt)(ls:List Lt):((path c ls).zip ls).length=ls.length:=by rw[FL,fW];omega
theorem Ro(c:Pt)(ls:List Lt):(ls.zip (path c ls)).length=ls.length:=by rw[FL,fW];omega
theorem acN{l:Lt}{x:Int}(h:l=1):x*(step l).2=x:=by subst h;show x*1=x;omega
theorem ab1{l:Lt}{x:Int}(h:l=3):x*(step l).2 = -x:=by subst h;show x * -1 = -x;omega
theorem abU{l:Lt}{x:Int}(h:¬l=1)(g:¬l=3):x*(step l).2=0:=by
 match l with
 |0=>exact i0 x
 |1=>exact absurd rfl h
 |2=>exact i0 x
 |3=>exact absurd rfl g
def Fv(a b:Int):List Int:=(dc (b-a).toNat).map fun i:Nat=>a+(i:Int)
theorem Jy{a b x:Int}:x∈Fv a b↔a<=x/\x<b:=by
 unfold Fv
 rw[cn]
 constructor
 ·rintro⟨i,hi,rfl⟩
  have:=d6.mp hi
  omega
 ·rintro⟨h1,h2⟩
  exact⟨(x-a).toNat,d6.mpr (by omega),by omega⟩
theorem QC(a b:Int):(Fv a b).Pairwise (· < ·):=by
 unfold Fv
 rw[f7]
 exact qV.imp fun h=>by omega
def fill:List Int->List Int
 |a::b::r=>Fv a b++fill r
 |_=>[]
theorem wO{f:Int->Bool}{m:Int}{v:Bool}(h0:f (m-1)=v):∀n:Nat,(∀x,m<=x->x<m+(n:Int)->f x=f (x-1))->∀x,m-1<=x->x<m+(n:Int)->f x=v
 |0,_,x,h1,h2=>by rw[show x=m-1 by omega];exact h0
 |n+1,h,x,h1,h2=>by
  by_cases e:x=m+(n:Int)
  ·rw[h x (by omega) (by omega)]
   exact wO h0 n (fun y a b=>h y a (by omega)) (x-1) (by omega) (by omega)
  ·exact wO h0 n (fun y a b=>h y a (by omega)) x h1 (by omega)
theorem nj{f:Int->Bool}{m k:Int}{v:Bool}(h0:f (m-1)=v)(h:∀x,m<=x->x<k->f x=f (x-1))(x:Int)(h1:m-1<=x)(h2:x<k):f x=v :=
 wO h0 (k-m).toNat (fun y a b=>h y a (by omega)) x h1 (by omega)
theorem JC:∀(n:Nat) (L:List Int) (f:Int->Bool) (m k:Int),L.length<=n->L.Pairwise (· < ·)->(∀x,x<m->f x=false)->(∀x,k<=x->f x=false)->(∀x,x∈L↔m<=x/\f x≠f (x-1)) ->
  L.length%2=0/\(∀x,x∈fill L↔f x=true)/\(fill L).Pairwise (· < ·)
 |n,[],f,m,k,_,_,hm,hk,hL=>by
  have z:∀x,f x=false:=fun x=>by
   by_cases h:x<m
   ·exact hm x h
   ·refine nj (m:=m) (k:=x+1) (hm (m-1) (by omega)) (fun y a b=>?_) x (by omega) (by omega)
    exact cm fun q=>absurd ((hL y).mpr ⟨a,q⟩) (by simp)
  refine⟨rfl,fun x=>?_,qq⟩
  rw[z x]
  simp[fill]
 |n,[a],f,m,k,_,_,hm,hk,hL=>by
  exfalso
  have ha:=(hL a).mp (by simp)
  have fa:f (a-1)=false:=nj (m:=m) (k:=a) (hm (m-1) (by omega)) (fun y p q=>cm fun r=>by
   have:=(hL y).mpr ⟨p,r⟩
   rw[ay] at this
   omega) (a-1) (by omega) (by omega)
  have fa1:f a=true:=by
   cases e:f a with
   |true=>rfl
   |false=>rw[e,fa] at ha;exact absurd rfl ha.2
  have big:f (max a k)=true:=nj (m:=a+1) (k:=max a k+1) (by rw[ix];exact fa1) (fun y p q=>cm fun r=>by
   have:=(hL y).mpr ⟨by omega,r⟩
   rw[ay] at this
   omega) (max a k) (by omega) (by omega)
  rw[hk (max a k) (by omega)] at big
  cases big
 |0,a::b::r,_,_,_,h,_,_,_,_=>by simp at h
 |n+1,a::b::r,f,m,k,hn,hp,hm,hk,hL=>by
  have hp1:=kL.mp hp
  have hp2:=kL.mp hp1.2
  have hab:=hp1.1 b (by simp)
  have ha:=(hL a).mp (by simp)
  have hb:=(hL b).mp (by simp)
  have nol:∀y,m<=y->y<b->y≠a->f y=f (y-1):=fun y p q ne=>cm fun z=>by
   have:=(hL y).mpr ⟨p,z⟩
   rcases bE.mp this with e | e
   ·exact ne e
   ·rcases bE.mp e with e | e
    ·omega
    ·have:=hp2.1 y e;omega
  have lowf:∀x,x<a->f x=false:=fun x hx=>by
   by_cases h:x<m
   ·exact hm x h
   ·exact nj (m:=m) (k:=a) (hm (m-1) (by omega)) (fun y p q=>nol y p (by omega) (by omega)) x (by omega) hx
  have fa1:f a=true:=by
   cases e:f a with
   |true=>rfl
   |false=>rw[e,lowf (a-1) (by omega)] at ha;exact absurd rfl ha.2
  have mid:∀x,a<=x->x<b->f x=true:=fun x h1 h2=>nj (m:=a+1) (k:=b) (by rw[ix];exact fa1) (fun y p q=>nol y (by omega) q (by omega)) x (by omega) h2
  have fb:f b=false:=by
   cases e:f b with
   |false=>rfl
   |true=>rw[e,mid (b-1) (by omega) (by omega)] at hb;exact absurd rfl hb.2
  obtain⟨k1,k2,k3⟩:=JC n r (fun x=>if x<b then false else f x) b k (by simp at hn;omega) hp2.2 (fun x hx=>if_pos hx) (fun x hx=>by
   show (if x<b then false else f x)=false
   split
   ·rfl
   ·exact hk x hx) (fun x=>by
   show x∈r↔b<=x/\(if x<b then false else f x)≠(if x-1<b then false else f (x-1))
   constructor
   ·intro hx
    have h1:=hp2.1 x hx
    have h2:=(hL x).mp (by simp[hx])
    rw[if_neg (by omega),if_neg (by omega)]
    exact⟨by omega,h2.2⟩
   ·rintro⟨h1,h2⟩
    rw[if_neg (by omega)] at h2
    by_cases e:x=b
    ·subst e
     rw[if_pos (by omega),fb] at h2
     exact absurd rfl h2
    ·rw[if_neg (by omega)] at h2
     have:=(hL x).mpr ⟨by omega,h2⟩
     rcases bE.mp this with z | z
     ·omega
     ·rcases bE.mp z with z | z
      ·exact absurd z e
      ·exact z)
  refine⟨by simp only[e8];omega,fun x=>?_,?_⟩
  ·show x∈Fv a b++fill r↔_
   rw[dE,Jy,k2]
   constructor
   ·rintro (h | h)
    ·exact mid x h.1 h.2
    ·split at h
     ·cases h
     ·exact h
   ·intro h
    by_cases h1:x<b
    ·refine .inl ⟨cm fun z=>?_,h1⟩
     rw[lowf x (by omega)] at h
     cases h
    ·exact .inr (by rw[if_neg h1];exact h)
  ·show (Fv a b++fill r).Pairwise (· < ·)
   refine ll.mpr ⟨QC a b,k3,fun x hx y hy=>?_⟩
   have h1:=Jy.mp hx
   have h2:=(k2 y).mp hy
   split at h2
   ·cases h2
   ·omega
theorem abp{as bs:List Int}(h:as.Perm bs):as.sum=bs.sum:=by
 induction h with
 |nil=>rfl
 |cons x _ ih=>rw[gT,gT,ih]
 |swap x y l=>rw[gT,gT,gT,gT];omega
 |trans _ _ i1 i2=>exact i1.trans i2
theorem rn{α:Type}(p:α->Bool)(g:α->Int):∀l:List α,((l.filter p).map g).sum=(l.map fun c=>if p c=true then g c else 0).sum
 |[]=>rfl
 |c::l=>by
  have ih:=rn p g l
  rw[ck,gT,←ih]
  by_cases h:p c=true
  ·rw[List.filter_cons_of_pos h,ck,gT,if_pos h]
  ·rw[List.filter_cons_of_neg h,if_neg h];omega
theorem sum_add{α:Type}(f g:α->Int):∀l:List α,(l.map fun c=>f c+g c).sum=(l.map f).sum+(l.map g).sum
 |[]=>rfl
 |c::l=>by rw[ck,ck,ck,gT,gT,gT,sum_add f g l];omega
section
variable{S:List Pt}
theorem Oj(nd:S.Nodup):(S.map fun c=>if decide ((c.1+1,c.2)∈S)=true then c.1+1 else 0).sum=(S.map fun c=>if decide ((c.1-1,c.2)∈S)=true then c.1 else 0).sum:=by
 rw[←rn (fun c:Pt=>decide ((c.1+1,c.2)∈S)) (fun c=>c.1+1),←rn (fun c:Pt=>decide ((c.1-1,c.2)∈S)) (fun c=>c.1)]
 have hp:((S.filter fun c=>decide ((c.1+1,c.2)∈S)).map fun c=>(c.1+1,c.2)).Perm (S.filter fun c=>decide ((c.1-1,c.2)∈S)):=by
  refine (oj ?_ (nd.filter _)).mpr fun q=>?_
  ·rw[cK,f7]
   refine (cK.mp (nd.filter _)).imp fun {a b} hne z=>hne ?_
   have z1:a.1+1=b.1+1:=(Prod.mk.inj z).1
   exact de (by omega) (Prod.mk.inj z).2
  ·rw[cn,fE,decide_eq_true_iff]
   constructor
   ·rintro⟨c,hc,rfl⟩
    have:=fE.mp hc
    refine⟨by simpa using this.2,?_⟩
    show (c.1+1-1,c.2)∈S
    rw[ix];exact this.1
   ·rintro⟨h1,h2⟩
    refine⟨(q.1-1,q.2),fE.mpr ⟨h2,?_⟩,de (by show q.1-1+1=q.1;omega) rfl⟩
    rw[decide_eq_true_iff]
    show (q.1-1+1,q.2)∈S
    rw[vk];exact h1
 have:=abp (hp.map mi)
 rw[eA] at this
 exact this
def gq(S:List Pt)(q:Pt):Int:=q.1*(stp (outD S q)).2
theorem Wg(q:Pt):∀n,ar q (wd S q n)=((dc n).map fun i=>gq S (uw S q i)).sum
 |0=>rfl
 |n+1=>by
  rw[Ji,u9,Wg q n,Bu,pj,d0,FO,vN BV]
  simp[gq]
theorem Px(g:Dg S){c:Pt}(hc:c∈S):((((dc 4).filter fun d=>!decide (BX c d∈S)).map (yO c)).map (gq S)).sum=(if decide ((c.1+1,c.2)∈S)=true then 0 else c.1+1)+(if decide ((c.1-1,c.2)∈S)=true then 0 else -c.1):=by
 rw[eA]
 have e:(((dc 4).filter fun d=>!decide (BX c d∈S)).map (gq S∘yO c))=(((dc 4).filter fun d=>!decide (BX c d∈S)).map fun d=>(yO c d).1*(stp d).2):=by
  refine gz fun d hd=>?_
  have k:=fE.mp hd
  have ed:=oY hc (d6.mp k.1) (by simpa using k.2)
  show (yO c d).1*(stp (outD S (yO c d))).2=_
  rw[lL g (fY ⟨d,ed⟩) ed]
 rw[e,rn (fun d=>!decide (BX c d∈S)) (fun d=>(yO c d).1*(stp d).2)]
 show (if (!decide (BX c 0∈S))=true then (c.1*0:Int) else 0)+((if (!decide ((c.1+1,c.2)∈S))=true then ((c.1+1)*1:Int) else 0)+((if (!decide (BX c 2∈S))=true then ((c.1+1)*0:Int) else 0)+((if (!decide ((c.1-1,c.2)∈S))=true then (c.1 * -1:Int) else 0)+0)))=_
 rw[i0,i0,sj]
 cases decide ((c.1+1,c.2)∈S) <;> cases decide ((c.1-1,c.2)∈S) <;> simp <;> omega
theorem CW(g:Dg S):∀ {cs:List Pt},(∀c∈cs,c∈S)->((uQ S cs).map (gq S)).sum=(cs.map fun c=>(if decide ((c.1+1,c.2)∈S)=true then 0 else c.1+1)+(if decide ((c.1-1,c.2)∈S)=true then 0 else -c.1)).sum
 |[],_=>rfl
 |c::cs,h=>by
  have e:uQ S (c::cs)=((dc 4).filter fun d=>!decide (BX c d∈S)).map (yO c)++uQ S cs:=by simp[uQ]
  rw[e,d0,FO,Px g (h c (by simp)),CW g fun x hx=>h x (by simp[hx]),ck,gT]
theorem Q7(g:Dg S)(nd:S.Nodup){q:Pt}{t:Nat}(hq:xQ S q)(r:Zd S q t):ar q (wd S q t)=S.length:=by
 have hp:((dc t).map (uw S q)).Perm (uQ S S):=by
  refine (oj ?_ (Jl g nd fun _ h=>h)).mpr fun p=>?_
  ·rw[cK,f7]
   refine oS (fun {a b} _ hb hlt=>r.inj a b hlt (d6.mp hb)) qV
  ·rw[Eo,cn]
   constructor
   ·rintro⟨i,_,rfl⟩
    obtain⟨d,e⟩:=qO hq i
    exact⟨_,e.l,d,e.lt,by rw[←S8 e.lt,←Jh e.lt];exact e.r,Jh e.lt⟩
   ·rintro⟨c,hc,d,h1,h2,rfl⟩
    obtain⟨m,hm,e⟩:=r.all _ ⟨d,oY hc h1 h2⟩
    exact⟨m,d6.mpr hm,e.symm⟩
 have e1:=abp (hp.map (gq S))
 rw[eA] at e1
 rw[Wg]
 show ((dc t).map (gq S∘uw S q)).sum=_
 rw[e1,CW g fun _ h=>h]
 have e2:=Oj nd
 have e3:(S.map fun c:Pt=>(if decide ((c.1+1,c.2)∈S)=true then 0 else c.1+1)+(if decide ((c.1-1,c.2)∈S)=true then 0 else -c.1)).sum+(S.map fun c:Pt=>if decide ((c.1+1,c.2)∈S)=true then c.1+1 else 0).sum=(S.map fun c:Pt=>(1:Int)+if decide ((c.1-1,c.2)∈S)=true then c.1 else 0).sum:=by
  rw[←sum_add]
  congr 1
  refine gz fun c _=>?_
  cases decide ((c.1+1,c.2)∈S) <;> cases decide ((c.1-1,c.2)∈S) <;> simp <;> omega
 rw[sum_add (fun _=>(1:Int)) (fun c:Pt=>if decide ((c.1-1,c.2)∈S)=true then c.1 else 0),e2] at e3
 have e4:∀l:List Pt,(l.map fun _=>(1:Int)).sum=l.length:=by
  intro l
  induction l with
  |nil=>rfl
  |cons c l ih=>rw[ck,gT,ih,e8];omega
 rw[e4] at e3
 omega
end
section
variable{S:List Pt}
def K3(S:List Pt)(x y:Int):Prop:=decide ((x,y)∈S)≠decide ((x-1,y)∈S)
def yz(S:List Pt)(p:Pt):Option Pt:=if outD S p=1 then some (p.1,p.2) else if outD S p=3 then some (p.1,p.2-1) else none
theorem R4{p c:Pt}(hp:xQ S p)(h:yz S p=some c):K3 S c.1 c.2:=by
 have e:=fY hp
 unfold yz at h
 split at h
 ·rename_i z
  cases h
  rw[z] at e
  have l:(p.1-1,p.2)∈S:=e.l
  have r:(p.1,p.2)∉S:=e.r
  unfold K3
  rw[decide_eq_true l,decide_eq_false r];decide
 ·split at h
  ·rename_i z
   cases h
   rw[z] at e
   have l:(p.1,p.2-1)∈S:=e.l
   have r:(p.1-1,p.2-1)∉S:=e.r
   unfold K3
   rw[decide_eq_true l,decide_eq_false r];decide
  ·cases h
theorem yJ{p c:Pt}(hp:xQ S p)(h:yz S p=some c):(c∈S->p=(c.1,c.2+1))/\(c∉S->p=c):=by
 have e:=fY hp
 unfold yz at h
 split at h
 ·rename_i z
  cases h
  rw[z] at e
  exact⟨fun k=>absurd k e.r,fun _=>rfl⟩
 ·split at h
  ·rename_i z
   cases h
   rw[z] at e
   exact⟨fun _=>de rfl (by show p.2=p.2-1+1;omega),fun k=>absurd e.l k⟩
  ·cases h
theorem YJ(g:Dg S){x y:Int}(h:K3 S x y):∃p,xQ S p/\yz S p=some (x,y):=by
 unfold K3 at h
 by_cases c:(x,y)∈S
 ·have d:(x-1,y)∉S:=fun z=>h (by rw[decide_eq_true c,decide_eq_true z])
  have e:qY S (x,y+1) 3:=⟨by omega,by rw[W2];show (x,y+1-1)∈S;rw[ix];exact c,by rw[Yl];show (x-1,y+1-1)∉S;rw[ix];exact d⟩
  refine⟨(x,y+1),⟨3,e⟩,?_⟩
  unfold yz
  rw[lL g (fY ⟨3,e⟩) e,if_neg (by omega),if_pos rfl]
  show some (x,y+1-1)=_
  rw[ix]
 ·have d:(x-1,y)∈S:=cm fun z=>h (by rw[decide_eq_false c,decide_eq_false z])
  have e:qY S (x,y) 1:=⟨by omega,by rw[O9];exact d,by rw[O2];exact c⟩
  refine⟨(x,y),⟨1,e⟩,?_⟩
  unfold yz
  rw[lL g (fY ⟨1,e⟩) e,if_pos rfl]
def pJ(S:List Pt)(q:Pt)(n:Nat):List Pt:=(dc n).filterMap fun i=>yz S (uw S q i)
theorem Qa(g:Dg S){q:Pt}{t:Nat}(hq:xQ S q)(r:Zd S q t){c:Pt}:c∈pJ S q t↔K3 S c.1 c.2:=by
 unfold pJ
 rw[t5]
 constructor
 ·rintro⟨i,_,e⟩;exact R4 (qO hq i) e
 ·intro h
  obtain⟨p,hp,e⟩:=YJ g h
  obtain⟨m,hm,rfl⟩:=r.all p hp
  exact⟨m,d6.mpr hm,e⟩
theorem Tj{q:Pt}{t:Nat}(hq:xQ S q)(r:Zd S q t):(pJ S q t).Nodup:=by
 unfold pJ
 rw[cK,List.pairwise_filterMap]
 refine oS (fun {i j} _ hj hlt a ha b hb z=>?_) qV
 subst z
 have k1:=yJ (qO hq i) ha
 have k2:=yJ (qO hq j) hb
 have hjt:=d6.mp hj
 by_cases c:a∈S
 ·exact r.inj i j hlt hjt ((k1.1 c).trans (k2.1 c).symm)
 ·exact r.inj i j hlt hjt ((k1.2 c).trans (k2.2 c).symm)
structure abD(S:List Pt)(rws:List (Int×List Int)):Prop where
 ys:rws.Pairwise (fun a b=>a.1<b.1)
 xs:∀w∈rws,w.2.Pairwise (· < ·)
 mem:∀w∈rws,∀x,x∈w.2↔K3 S x w.1
 all:∀x y,K3 S x y->∃w∈rws,w.1=y
theorem Ce{S:List Pt}{y:Int}{xs:List Int}(hs:xs.Pairwise (· < ·))(hm:∀x,x∈xs↔K3 S x y):xs.length%2=0/\(∀x,x∈fill xs↔(x,y)∈S)/\(fill xs).Pairwise (· < ·):=by
 obtain⟨M,m0,hM⟩:=rK S
 have key:=JC xs.length xs (fun x=>decide ((x,y)∈S)) (-M) (M+1) (aT _) hs (fun x hx=>decide_eq_false fun z=>by have:=hM _ z;dsimp only at this;omega) (fun x hx=>decide_eq_false fun z=>by have:=hM _ z;dsimp only at this;omega) (fun x=>by
  rw[hm x]
  constructor
  ·intro h
   refine⟨cm fun z=>h ?_,h⟩
   rw[decide_eq_false fun k=>by have:=hM _ k;dsimp only at this;omega,decide_eq_false fun k=>by have:=hM _ k;dsimp only at this;omega]
  ·exact fun h=>h.2)
 refine⟨key.1,fun x=>?_,key.2.2⟩
 rw[key.2.1 x,decide_eq_true_iff]
def KD(w:Int×List Int):List Pt:=(fill w.2).map fun x=>(x,w.1)
theorem Hs(nd:S.Nodup){rws:List (Int×List Int)}(h:abD S rws):(rws.map KD).flatten=jw S:=by
 have ok:=fun w hw=>Ce (h.xs w hw) (h.mem w hw)
 have mr:∀ {c:Pt} {w:Int×List Int},c∈KD w↔c.2=w.1/\c.1∈fill w.2:=fun {c w}=>by
  unfold KD
  rw[cn]
  constructor
  ·rintro⟨x,hx,rfl⟩;exact⟨rfl,hx⟩
  ·rintro⟨h1,h2⟩;exact⟨c.1,h2,de rfl h1.symm⟩
 have lt:((rws.map KD).flatten).Pairwise fun a b=>a.2<b.2\/(a.2=b.2/\a.1<b.1):=by
  have go:∀ {l:List (Int×List Int)},l.Pairwise (fun a b=>a.1<b.1)->(∀w∈l,w∈rws)->((l.map KD).flatten).Pairwise fun a b=>a.2<b.2\/(a.2=b.2/\a.1<b.1):=by
   intro l
   induction l with
   |nil=>intro _ _;exact qq
   |cons w l ih=>
    intro hp hsub
    have hp':=kL.mp hp
    rw[ck,qv]
    refine ll.mpr ⟨?_,ih hp'.2 fun v hv=>hsub v (by simp[hv]),fun a ha b hb=>.inl ?_⟩
    ·unfold KD
     rw[f7]
     exact (ok w (hsub w (by simp))).2.2.imp fun k=>.inr ⟨rfl,k⟩
    ·obtain⟨k,hk,hbk⟩:=rS.mp hb
     obtain⟨v,hv,rfl⟩:=cn.mp hk
     rw[(mr.mp ha).1,(mr.mp hbk).1]
     exact hp'.1 v hv
  exact go h.ys fun _ z=>z
 refine (Eb ?_ ?_).symm
 ·refine (oj ?_ nd).mpr fun c=>?_
  ·rw[cK]
   refine lt.imp fun {a b} k z=>?_
   subst z
   omega
  ·rw[rS]
   constructor
   ·rintro⟨k,hk,hc⟩
    obtain⟨w,hw,rfl⟩:=cn.mp hk
    have:=mr.mp hc
    have k2:=((ok w hw).2.1 c.1).mp this.2
    rw[←this.1] at k2
    exact k2
   ·intro hc
    have ex:∃x,K3 S x c.2:=cm fun z=>by
     have e:∀n:Nat,(c.1-(n:Int),c.2)∈S:=fun n=>by
      induction n with
      |zero=>rw[show c.1-((0:Nat):Int)=c.1 by omega];exact hc
      |succ n ih=>
       refine cm fun k=>z ⟨c.1-(n:Int),?_⟩
       unfold K3
       rw[decide_eq_true ih,decide_eq_false (by rw[show c.1-(n:Int)-1=c.1-((n+1:Nat):Int) by omega];exact k)]
       decide
     obtain⟨M,m0,hM⟩:=rK S
     have:=hM _ (e (c.1+M+1).toNat)
     have h0:=hM _ hc
     dsimp only at this
     omega
    obtain⟨x,hx⟩:=ex
    obtain⟨w,hw,ew⟩:=h.all x c.2 hx
    refine⟨KD w,cn.mpr ⟨w,hw,rfl⟩,mr.mpr ⟨ew.symm,?_⟩⟩
    rw[(ok w hw).2.1,ew]
    exact hc
 ·refine lt.imp fun {a b} k=>?_
  unfold xR
  rw[lO]
  omega
end
section
variable{S T:List Pt}{p:Pt}
def mvP(v p:Pt):Pt:=(p.1+v.1,p.2+v.2)
variable{v:Pt}(h:∀c:Pt,mvP v c∈T↔c∈S)
include h
end
def sm(G:Nat->Int)(a:Nat):Nat->Int
 |0=>0
 |n+1=>sm G a n+G (a+n)
theorem gD{G:Nat->Int}{a:Nat}:∀ {n:Nat},(∀k,k<n->G (a+k)=0)->sm G a n=0
 |0,_=>rfl
 |n+1,h=>by
  show sm G a n+G (a+n)=0
  rw[gD fun k hk=>h k (by omega),h n (by omega)];rfl
theorem cX{G K:Nat->Int}{a:Nat}:∀ {n:Nat},(∀k,k<n->G (a+k)=K (a+k))->sm G a n=sm K a n
 |0,_=>rfl
 |n+1,h=>by
  show sm G a n+G (a+n)=sm K a n+K (a+n)
  rw[cX fun k hk=>h k (by omega),h n (by omega)]
theorem Af(Y:Nat->Int)(v:Int)(a:Nat):∀n,sm (fun k=>v*(Y (k+1)-Y k)) a n=v*(Y (a+n)-Y a)
 |0=>by show 0=v*(Y a-Y a);rw[lx,i0]
 |n+1=>by
  show sm _ a n+v*(Y (a+n+1)-Y (a+n))=_
  rw[Af Y v a n,←E5]
  congr 1
  rw[Nat.add_assoc a n 1];omega
def od:Nat->Nat
 |0=>2
 |1=>3
 |2=>0
 |_=>1
def Og(a d:Nat):List Pt:=((dc a).map fun x:Nat=>(dc d).map fun y:Nat=>((x:Int),(y:Int))).flatten
theorem Uu(a d:Nat):(Og a d).Nodup:=by
 unfold Og
 rw[cK,List.pairwise_flatten]
 refine⟨fun l hl=>?_,?_⟩
 ·obtain⟨x,_,rfl⟩:=cn.mp hl
  rw[f7]
  exact (cK.mp rV).imp fun {i j} hne z=>hne (by have:=(Prod.mk.inj z).2;omega)
 ·rw[f7]
  refine (cK.mp rV).imp fun {i j} hne u hu v hv z=>hne ?_
  obtain⟨_,_,rfl⟩:=cn.mp hu
  obtain⟨_,_,rfl⟩:=cn.mp hv
  have:=(Prod.mk.inj z).1
  omega
theorem Vz{d:Nat}(hd:d<4):od (od d)=d:=by rcases c4 hd with rfl | rfl | rfl | rfl <;> rfl
def Mv(c q:Pt)(d:Nat):Int:=if d=1 then (if q.2=c.2/\c.1<q.1 then 1 else 0) else if d=3 then (if q.2=c.2+1/\c.1<q.1 then -1 else 0) else 0
def wn(P:Nat->Pt)(D:Nat->Nat)(n:Nat)(c:Pt):Int:=sm (fun i=>Mv c (P i) (D i)) 0 n
def sg(p:Pt)(d:Nat)(q:Pt)(e:Nat):Int:=(if q=p/\e=d then 1 else 0)-(if q=mW p d/\e=od d then 1 else 0)
def sgn(P:Nat->Pt)(D:Nat->Nat)(n:Nat)(p:Pt)(d:Nat):Int:=sm (fun i=>sg p d (P i) (D i)) 0 n
theorem Gb(F G:Nat->Int)(a:Nat):∀n,sm (fun i=>F i-G i) a n=sm F a n-sm G a n
 |0=>rfl
 |n+1=>by
  show sm (fun i=>F i-G i) a n+(F (a+n)-G (a+n))=sm F a n+F (a+n)-(sm G a n+G (a+n))
  rw[Gb F G a n];omega
theorem Q0{q p:Pt}:q=p↔q.1=p.1/\q.2=p.2:=⟨fun h=>by rw[h];exact⟨rfl,rfl⟩,fun h=>de h.1 h.2⟩
theorem Bj(p:Pt){d:Nat}(hd:d<4):mW (mW p d) (od d)=p:=by
 rcases c4 hd with rfl | rfl | rfl | rfl
 ·exact de (by show p.1+1 + -1=p.1;omega) (by show p.2+0+0=p.2;omega)
 ·exact de (by show p.1+0+0=p.1;omega) (by show p.2+1 + -1=p.2;omega)
 ·exact de (by show p.1 + -1+1=p.1;omega) (by show p.2+0+0=p.2;omega)
 ·exact de (by show p.1+0+0=p.1;omega) (by show p.2 + -1+1=p.2;omega)
theorem aaq(p:Pt){d:Nat}(hd:d<4)(q:Pt)(e:Nat):sg (mW p d) (od d) q e = - sg p d q e:=by
 unfold sg
 rw[Bj p hd,Vz hd];omega
section
variable{P:Nat->Pt}{D:Nat->Nat}{n:Nat}
theorem RC(F:Nat->Int)(a:Nat):∀n,sm (fun i=>- F i) a n = - sm F a n
 |0=>rfl
 |n+1=>by
  show sm (fun i=>- F i) a n + - F (a+n) = -(sm F a n+F (a+n))
  rw[RC F a n];omega
theorem GP(p:Pt){d:Nat}(hd:d<4):sgn P D n (mW p d) (od d) = - sgn P D n p d:=by
 unfold sgn
 rw[←RC]
 exact cX fun k _=>aaq p hd _ _
theorem aar(p:Pt):wn P D n (jB p 1)-wn P D n (qw p 1)=sgn P D n p 1:=by
 unfold wn sgn
 rw[←Gb]
 refine cX fun k _=>?_
 generalize P (0+k)=q
 generalize D (0+k)=e
 rw[O9,O2]
 unfold Mv sg
 simp only[Q0,mW,Tc]
 have ho:od 1=3:=rfl
 rw[ho]
 by_cases h1:e=1
 ·subst h1
  simp only[if_true]
  (repeat' split) <;> first | omega | grind
 ·by_cases h3:e=3
  ·subst h3
   simp only[if_neg h1,if_true]
   (repeat' split) <;> first | omega | grind
  ·simp only[if_neg h1,if_neg h3]
   (repeat' split) <;> first | omega | grind
theorem Aw(F G:Nat->Int)(a:Nat):∀n,sm (fun i=>F i+G i) a n=sm F a n+sm G a n
 |0=>rfl
 |n+1=>by
  show sm (fun i=>F i+G i) a n+(F (a+n)+G (a+n))=sm F a n+F (a+n)+(sm G a n+G (a+n))
  rw[Aw F G a n];omega
theorem aaD(go:∀i,P (i+1)=mW (P i) (D i))(lt:∀i,D i<4)(cl:P n=P 0)(p:Pt):wn P D n (jB p 0)-wn P D n (qw p 0)=sgn P D n p 0:=by
 have tel:=Af (fun i=>if p.1<(P i).1/\(P i).2=p.2 then (1:Int) else 0) (-1) 0 n
 rw[kC,cl,lx,i0] at tel
 have key:sm (fun i=>Mv (jB p 0) (P i) (D i)-Mv (qw p 0) (P i) (D i)) 0 n=sm (fun i=>sg p 0 (P i) (D i) + -1*((if p.1<(P (i+1)).1/\(P (i+1)).2=p.2 then (1:Int) else 0)-(if p.1<(P i).1/\(P i).2=p.2 then (1:Int) else 0))) 0 n:=by
  refine cX fun k _=>?_
  rw[go]
  have hd:=lt (0+k)
  generalize P (0+k)=q
  generalize D (0+k)=e at hd
  rw[abz,YD]
  unfold Mv sg
  simp only[Q0,mW,Um]
  have ho:od 0=2:=rfl
  rw[ho]
  rcases c4 hd with rfl | rfl | rfl | rfl
  ·simp only[Um];(repeat' split) <;> first | omega | grind
  ·simp only[Tc];(repeat' split) <;> first | omega | grind
  ·simp only[Xv];(repeat' split) <;> first | omega | grind
  ·simp only[Xj];(repeat' split) <;> first | omega | grind
 unfold wn sgn
 rw[←Gb,key,Aw,tel,fz]
theorem T6(go:∀i,P (i+1)=mW (P i) (D i))(lt:∀i,D i<4)(cl:P n=P 0)(p:Pt){d:Nat}(hd:d<4):wn P D n (jB p d)-wn P D n (qw p d)=sgn P D n p d:=by
 rcases c4 hd with rfl | rfl | rfl | rfl
 ·exact aaD go lt cl p
 ·exact aar p
 ·have h:=aaD go lt cl (mW p 2)
  have e:=GP (P:=P) (D:=D) (n:=n) p (d:=2) (by omega)
  have e0:od 2=0:=rfl
  rw[e0] at e
  have l1:jB (mW p 2) 0=qw p 2:=de (by show p.1 + -1=p.1-1;omega) (by show p.2+0=p.2;omega)
  have l2:qw (mW p 2) 0=jB p 2:=de (by show p.1 + -1=p.1-1;omega) (by show p.2+0-1=p.2-1;omega)
  rw[l1,l2,e] at h
  omega
 ·have h:=aar (P:=P) (D:=D) (n:=n) (mW p 3)
  have e:=GP (P:=P) (D:=D) (n:=n) p (d:=3) (by omega)
  have e0:od 3=1:=rfl
  rw[e0] at e
  have l1:jB (mW p 3) 1=qw p 3:=de (by show p.1+0-1=p.1-1;omega) (by show p.2 + -1=p.2-1;omega)
  have l2:qw (mW p 3) 1=jB p 3:=de (by show p.1+0=p.1;omega) (by show p.2 + -1=p.2-1;omega)
  rw[l1,l2,e] at h
  omega
end
structure iD(P:Nat->Pt)(D:Nat->Nat)(n:Nat):Prop where
 go:∀i,P (i+1)=mW (P i) (D i)
 lt:∀i,D i<4
 per:∀i,P (i+n)=P i
 pd:∀i,D (i+n)=D i
 inj:∀i j,i<n->j<n->P i=P j->i=j
 n3:3<=n
theorem jL{α:Type}{f:Nat->α}{n:Nat}(h:∀i,f (i+n)=f i)(i:Nat):f (i%n)=f i:=by
 have key:∀k m,f (m+k*n)=f m:=by
  intro k
  induction k with
  |zero=>intro m;rw[Nat.zero_mul];rfl
  |succ k ih=>intro m;rw[show m+(k+1)*n=m+k*n+n from by rw[Nat.add_mul];omega,h,ih]
 have:=key (i / n) (i%n)
 rw[show i%n+i / n*n=i from by rw[Nat.mul_comm];exact AG i n] at this
 exact this.symm
theorem Gm{m:Nat}:∀ {n:Nat},sm (fun j=>if j=m then (1:Int) else 0) 0 n=if m<n then 1 else 0
 |0=>by rw[if_neg (by omega)];rfl
 |n+1=>by
  show sm _ 0 n+(if 0+n=m then (1:Int) else 0)=_
  rw[Gm]
  (repeat' split) <;> omega
section
variable{P:Nat->Pt}{D:Nat->Nat}{n:Nat}
theorem iD.idx(s:iD P D n){i j:Nat}(h:P i=P j):i%n=j%n:=by
 have hn:=s.n3
 rw[←jL s.per i,←jL s.per j] at h
 exact s.inj _ _ (zC _ (by omega)) (zC _ (by omega)) h
theorem iD.aaB(s:iD P D n){i j:Nat}(h:P i=P j):D i=D j:=by
 rw[←jL s.pd i,←jL s.pd j,s.idx h]
theorem Rh{n i j:Nat}(hn:1<=n)(h:(i+1)%n=(j+1)%n):i%n=j%n:=by
 have h1:=AG (i+1) n
 have h2:=AG (j+1) n
 have:((i:Int))%n=(j:Int)%n:=by
  have e:((i+1:Nat):Int)%(n:Int)=((j+1:Nat):Int)%(n:Int):=by exact_mod_cast h
  have e2:=Int.emod_emod_of_dvd
  rw[oy] at e ⊢
  rw[show (i:Int)-j=((i+1:Nat):Int)-((j+1:Nat):Int) from by omega]
  exact e
 exact_mod_cast this
theorem iD.ahead(s:iD P D n)(i:Nat):D (i+1)≠od (D i):=fun z=>by
 have hn:=s.n3
 have e:P (i+1+1)=P i:=by rw[s.go,z,s.go,Bj _ (s.lt i)]
 have h:=s.idx e
 have:((i+2:Nat):Int)%(n:Int)=((i:Nat):Int)%(n:Int):=by exact_mod_cast h
 rw[oy,show ((i+2:Nat):Int)-((i:Nat):Int)=2 from by omega,Int.emod_eq_of_lt (by omega) (by omega)] at this
 omega
theorem iD.zero(s:iD P D n){i k:Nat}(hk:k<4)(h1:k≠D (i+1))(h2:k≠od (D i)):sgn P D n (P (i+1)) k=0:=by
 have hn:=s.n3
 refine gD fun j _=>?_
 unfold sg
 rw[if_neg (fun z=>h1 (by rw[←z.2,s.aaB z.1])),if_neg (fun z=>h2 ?_)]
 ·rfl
 ·have e:P (0+j+1)=P (i+1):=by rw[s.go,z.2,z.1,Bj _ hk]
  have e2:=Rh (by omega) (s.idx e)
  have:D (0+j)=D i:=by rw[←jL s.pd (0+j),e2,jL s.pd]
  rw[←this,z.2,Vz hk]
theorem iD.one(s:iD P D n)(i:Nat):sgn P D n (P i) (D i)=1:=by
 have hn:=s.n3
 have hm:=zC i (show 0<n by omega)
 have e:=Gm (m:=i%n) (n:=n)
 rw[if_pos hm] at e
 rw[←e]
 refine cX fun j hj=>?_
 rw[kC]
 unfold sg
 have z2:¬(P j=mW (P i) (D i)/\D j=od (D i)):=fun z=>s.ahead i (by
  rw[←s.go] at z
  rw[←z.2,s.aaB z.1])
 rw[if_neg z2,DZ]
 by_cases h:j=i%n
 ·rw[if_pos h,if_pos]
  subst h
  exact⟨jL s.per i,jL s.pd i⟩
 ·rw[if_neg h,if_neg]
  exact fun z=>h (by rw[←s.idx z.1,rX hj])
theorem iD.cl(s:iD P D n):P n=P 0:=by have:=s.per 0;rwa [kC] at this
theorem iD.side(s:iD P D n)(p:Pt){d:Nat}(hd:d<4):wn P D n (jB p d)-wn P D n (qw p d)=sgn P D n p d:=T6 s.go s.lt s.cl p hd
theorem XH(p:Pt){d:Nat}(hd:d<4):jB p d=jB (mW p d) (JF d):=by
 rcases c4 hd with rfl | rfl | rfl | rfl
 ·exact de (by show p.1=p.1+1-1;omega) (by show p.2=p.2+0;omega)
 ·exact de (by show p.1-1=p.1+0-1;omega) (by show p.2=p.2+1-1;omega)
 ·exact de (by show p.1-1=p.1 + -1;omega) (by show p.2-1=p.2+0-1;omega)
 ·exact de (by show p.1=p.1+0;omega) (by show p.2-1=p.2 + -1;omega)
theorem XQ(p:Pt){d:Nat}(hd:d<4):qw p (JF d)=jB p d:=by
 rcases c4 hd with rfl | rfl | rfl | rfl <;> rfl
theorem iD.same(s:iD P D n)(i:Nat):wn P D n (jB (P i) (D i))=wn P D n (jB (P (i+1)) (D (i+1))):=by
 have hd:=s.lt i
 have he:=s.lt (i+1)
 have hb:=s.ahead i
 have F:∀k,k<4->JF k<4->JF k≠D (i+1)->JF k≠od (D i)->wn P D n (jB (P (i+1)) (JF k))=wn P D n (jB (P (i+1)) k):=fun k hk hk' h1 h2=>by
  have a:=s.side (P (i+1)) hk'
  rw[XQ _ hk,s.zero hk' h1 h2] at a
  omega
 rw[XH _ hd,←s.go]
 generalize D i=d at *
 generalize D (i+1)=e at *
 generalize P (i+1)=q at *
 rcases c4 hd with rfl | rfl | rfl | rfl <;> rcases c4 he with rfl | rfl | rfl | rfl <;> first
  |rfl
  |exact absurd rfl hb
  |exact F 0 (by decide) (by decide) (by decide) (by decide)
  |exact F 1 (by decide) (by decide) (by decide) (by decide)
  |exact F 2 (by decide) (by decide) (by decide) (by decide)
  |exact F 3 (by decide) (by decide) (by decide) (by decide)
  |exact (F 0 (by decide) (by decide) (by decide) (by decide)).trans (F 3 (by decide) (by decide) (by decide) (by decide))
  |exact (F 1 (by decide) (by decide) (by decide) (by decide)).trans (F 0 (by decide) (by decide) (by decide) (by decide))
  |exact (F 2 (by decide) (by decide) (by decide) (by decide)).trans (F 1 (by decide) (by decide) (by decide) (by decide))
  |exact (F 3 (by decide) (by decide) (by decide) (by decide)).trans (F 2 (by decide) (by decide) (by decide) (by decide))
theorem iD.left(s:iD P D n):∀i,wn P D n (jB (P i) (D i))=wn P D n (jB (P 0) (D 0))
 |0=>rfl
 |i+1=>by rw[←s.same i,iD.left s i]
theorem iD.right(s:iD P D n)(i:Nat):wn P D n (qw (P i) (D i))=wn P D n (jB (P 0) (D 0))-1:=by
 have:=s.side (P i) (s.lt i)
 rw[s.one,s.left] at this
 omega
end
section
variable{P:Nat->Pt}{D:Nat->Nat}{n:Nat}
theorem Bh{G:Nat->Int}{a n:Nat}(h:sm G a n≠0):∃k,k<n/\G (a+k)≠0 :=
 cm fun z=>h (gD fun k hk=>cm fun y=>z ⟨k,hk,y⟩)
theorem iD.vals(s:iD P D n){M:Int}(hM:∀i,(P i).1<=M):∀(m:Nat) (c:Pt),M-c.1<=m ->
  wn P D n c=0\/(wn P D n (jB (P 0) (D 0))=0\/wn P D n (jB (P 0) (D 0))=1)/\(wn P D n c=wn P D n (jB (P 0) (D 0))\/wn P D n c=wn P D n (jB (P 0) (D 0))-1):=by
 intro m
 induction m with
 |zero=>
  intro c hc
  refine .inl (gD fun k _=>?_)
  have:=hM (0+k)
  unfold Mv
  (repeat' split) <;> omega
 |succ m ih=>
  intro c hc
  have hs:=s.side (c.1+1,c.2) (d:=1) (by omega)
  rw[O9,O2] at hs
  dsimp only at hs
  rw[show ((c.1+1-1,c.2):Pt)=c from de (by show c.1+1-1=c.1;omega) rfl] at hs
  have ih':=ih (c.1+1,c.2) (by show M-(c.1+1)<=m;omega)
  by_cases z:sgn P D n (c.1+1,c.2) 1=0
  ·have:wn P D n c=wn P D n (c.1+1,c.2):=by omega
   rw[this];exact ih'
  ·obtain⟨j,_,hj⟩:=Bh z
   unfold sg at hj
   by_cases y:P (0+j)=(c.1+1,c.2)/\D (0+j)=1
   ·have l:=s.left (0+j)
    have r:=s.right (0+j)
    rw[y.1,y.2,O9] at l
    rw[y.1,y.2,O2] at r
    dsimp only at l r
    rw[show ((c.1+1-1,c.2):Pt)=c from de (by show c.1+1-1=c.1;omega) rfl] at l
    rcases ih' with w | w
    ·exact .inr ⟨by omega,by omega⟩
    ·exact .inr ⟨w.1,by omega⟩
   ·rw[if_neg y] at hj
    by_cases x:P (0+j)=mW (c.1+1,c.2) 1/\D (0+j)=od 1
    ·have l:=s.left (0+j)
     have r:=s.right (0+j)
     have ho:od 1=3:=rfl
     rw[x.1,x.2,ho,W2] at l
     rw[x.1,x.2,ho,Yl] at r
     rw[show (((mW (c.1+1,c.2) 1).1,(mW (c.1+1,c.2) 1).2-1):Pt)=(c.1+1,c.2) from de (by show c.1+1+0=c.1+1;omega) (by show c.2+1-1=c.2;omega)] at l
     rw[show (((mW (c.1+1,c.2) 1).1-1,(mW (c.1+1,c.2) 1).2-1):Pt)=c from de (by show c.1+1+0-1=c.1;omega) (by show c.2+1-1=c.2;omega)] at r
     rcases ih' with w | w
     ·exact .inr ⟨by omega,by omega⟩
     ·exact .inr ⟨w.1,by omega⟩
    ·rw[if_neg x] at hj
     exact absurd rfl hj
theorem iD.sign(s:iD P D n){M:Int}(hM:∀i,(P i).1<=M):(∀c,0<=wn P D n c)\/∀c,wn P D n c<=0:=by
 have v:∀c,wn P D n c=0\/(wn P D n (jB (P 0) (D 0))=0\/wn P D n (jB (P 0) (D 0))=1)/\(wn P D n c=wn P D n (jB (P 0) (D 0))\/wn P D n c=wn P D n (jB (P 0) (D 0))-1):=fun c=>s.vals hM (M-c.1).toNat c (by omega)
 by_cases z:wn P D n (jB (P 0) (D 0))=1
 ·exact .inl fun c=>by rcases v c with w | w <;> omega
 ·exact .inr fun c=>by rcases v c with w | w <;> omega
theorem Bc(F:Nat->Nat->Int)(a b n:Nat):∀m,sm (fun k=>sm (fun i=>F k i) a n) b m=sm (fun i=>sm (fun k=>F k i) b m) a n
 |0=>(gD fun _ _=>rfl).symm
 |m+1=>by
  show sm (fun k=>sm (fun i=>F k i) a n) b m+sm (fun i=>F (b+m) i) a n=sm (fun i=>sm (fun k=>F k i) b m+F (b+m) i) a n
  rw[Aw,Bc F a b n m]
theorem abg{x0 x:Int}(h:x0<=x):∀ {m:Nat},x<=x0+m->sm (fun k:Nat=>if x0+(k:Int)<x then (1:Int) else 0) 0 m=x-x0:=by
 have key:∀m:Nat,sm (fun k:Nat=>if x0+(k:Int)<x then (1:Int) else 0) 0 m=if x<=x0+m then x-x0 else (m:Int):=by
  intro m
  induction m with
  |zero=>
   show (0:Int)=_
   split <;> omega
  |succ m ih=>
   show sm _ 0 m+(if x0+((0+m:Nat):Int)<x then (1:Int) else 0)=_
   rw[ih]
   (repeat' split) <;> omega
 intro m hm
 rw[key,if_pos hm]
theorem Rz{G:Nat->Int}{a:Nat}:∀ {n:Nat},(∀k,G k<=0)->sm G a n<=0
 |0,_=>fy _
 |n+1,h=>by
  show sm G a n+G (a+n)<=0
  have:=Rz (a:=a) (n:=n) h
  have:=h (a+n)
  omega
theorem Gk(G:Nat->Int)(v:Int)(a:Nat):∀n,sm (fun i=>v*G i) a n=v*sm G a n
 |0=>by show 0=v*0;rw[i0]
 |n+1=>by
  show sm (fun i=>v*G i) a n+v*G (a+n)=v*(sm G a n+G (a+n))
  rw[Gk G v a n,E5]
end
section
variable{P:Nat->Pt}{D:Nat->Nat}{n:Nat}
theorem TQ{q:Pt}{d:Nat}{x0 y0:Int}{M L:Nat}(hd:d<4)(hx:x0<=q.1/\q.1<=x0+M)(hy:y0<=q.2/\q.2<=y0+L)(hy':y0<=(mW q d).2/\(mW q d).2<=y0+L) :
  sm (fun k:Nat=>sm (fun l:Nat=>Mv (x0+(k:Int),y0+(l:Int)) q d) 0 L) 0 M=(stp d).2*(q.1-x0):=by
 have row:∀(r v:Int),y0<=r->r<y0+L->sm (fun k:Nat=>sm (fun l:Nat=>if r=y0+(l:Int)/\x0+(k:Int)<q.1 then v else 0) 0 L) 0 M=v*(q.1-x0):=by
  intro r v h1 h2
  rw[←abg hx.1 hx.2,←Gk]
  refine cX fun k _=>?_
  rw[kC]
  have e:=Gm (m:=(r-y0).toNat) (n:=L)
  rw[if_pos (by omega)] at e
  by_cases z:x0+(k:Int)<q.1
  ·rw[if_pos z,sj]
   have e':sm (fun j=>v*if j=(r-y0).toNat then (1:Int) else 0) 0 L=v:=by rw[Gk,e,sj]
   refine Kb (cX fun l _=>?_) e'
   rw[kC]
   by_cases y:l=(r-y0).toNat
   ·rw[if_pos y,if_pos ⟨by omega,z⟩,sj]
   ·rw[if_neg y,if_neg (fun w=>y (by omega)),i0]
  ·rw[if_neg z,i0]
   exact gD fun l _=>if_neg fun w=>z w.2
 rcases c4 hd with rfl | rfl | rfl | rfl
 ·rw[show (stp 0).2=0 from rfl,IU]
  exact gD fun k _=>gD fun l _=>rfl
 ·have b:(mW q 1).2=q.2+1:=rfl
  have:=row q.2 1 hy.1 (by omega)
  exact this
 ·rw[show (stp 2).2=0 from rfl,IU]
  exact gD fun k _=>gD fun l _=>rfl
 ·have b:(mW q 3).2=q.2 + -1:=rfl
  have:=row (q.2-1) (-1) (by omega) (by omega)
  rw[show (stp 3).2 = -1 from rfl,←this]
  refine cX fun k _=>cX fun l _=>?_
  show (if q.2=y0+((0+l:Nat):Int)+1/\x0+((0+k:Nat):Int)<q.1 then (-1:Int) else 0)=_
  (repeat' split) <;> omega
theorem iD.area(s:iD P D n){x0 y0:Int}{M L:Nat}(hx:∀i,x0<=(P i).1/\(P i).1<=x0+M)(hy:∀i,y0<=(P i).2/\(P i).2<=y0+L) :
  sm (fun k:Nat=>sm (fun l:Nat=>wn P D n (x0+(k:Int),y0+(l:Int))) 0 L) 0 M=sm (fun i=>(P i).1*(stp (D i)).2) 0 n:=by
 have e1:sm (fun k:Nat=>sm (fun l:Nat=>wn P D n (x0+(k:Int),y0+(l:Int))) 0 L) 0 M=sm (fun i=>sm (fun k:Nat=>sm (fun l:Nat=>Mv (x0+(k:Int),y0+(l:Int)) (P i) (D i)) 0 L) 0 M) 0 n:=by
  have a:∀k:Nat,sm (fun l:Nat=>wn P D n (x0+(k:Int),y0+(l:Int))) 0 L=sm (fun i=>sm (fun l:Nat=>Mv (x0+(k:Int),y0+(l:Int)) (P i) (D i)) 0 L) 0 n:=fun k=>Bc (fun l i=>Mv (x0+(k:Int),y0+(l:Int)) (P i) (D i)) 0 0 n L
  exact (cX fun k _=>a _).trans (Bc (fun k i=>sm (fun l:Nat=>Mv (x0+(k:Int),y0+(l:Int)) (P i) (D i)) 0 L) 0 0 n M)
 have dy:=Af (fun i=>(P i).2) x0 0 n
 rw[kC,s.cl,lx,i0] at dy
 have e2:sm (fun i=>(P i).1*(stp (D i)).2) 0 n=sm (fun i=>(stp (D i)).2*((P i).1-x0)+x0*((P (i+1)).2-(P i).2)) 0 n:=by
  refine cX fun i _=>?_
  rw[s.go]
  show _=_+x0*((P (0+i)).2+(stp (D (0+i))).2-(P (0+i)).2)
  rw[show (P (0+i)).2+(stp (D (0+i))).2-(P (0+i)).2=(stp (D (0+i))).2 from by omega,E4,D6 x0,D6 (P (0+i)).1]
  omega
 rw[e1,e2,Aw,dy,fz]
 refine cX fun i _=>?_
 exact TQ (s.lt _) (hx _) (hy _) (by rw[←s.go];exact hy _)
theorem iD.pos(s:iD P D n){x0 y0:Int}{M L:Nat}(hx:∀i,x0<=(P i).1/\(P i).1<=x0+M)(hy:∀i,y0<=(P i).2/\(P i).2<=y0+L)(ha:1<=sm (fun i=>(P i).1*(stp (D i)).2) 0 n)(c:Pt):0<=wn P D n c:=by
 rcases s.sign fun i=>(hx i).2 with z | z
 ·exact z c
 ·exfalso
  rw[←s.area hx hy] at ha
  have:sm (fun k:Nat=>sm (fun l:Nat=>wn P D n (x0+(k:Int),y0+(l:Int))) 0 L) 0 M<=0:=Rz fun k=>Rz fun l=>z _
  omega
end
section
variable{P:Nat->Pt}{D:Nat->Nat}{n:Nat}{S:List Pt}
theorem iD.zo(s:iD P D n){M:Int}(hM:∀i,(P i).1<=M)(hp:∀c,0<=wn P D n c)(c:Pt):wn P D n c=0\/wn P D n c=1:=by
 have:=hp c
 have k:=hp (qw (P 0) (D 0))
 rw[s.right] at k
 rcases s.vals hM (M-c.1).toNat c (by omega) with w | w
 ·exact .inl w
 ·omega
theorem iD.edge(s:iD P D n)(zo:∀c,wn P D n c=0\/wn P D n c=1)(hS:∀c,c∈S↔wn P D n c=1)(i:Nat):qY S (P i) (D i):=by
 have l:=s.left i
 have r:=s.right i
 have z1:=zo (jB (P 0) (D 0))
 have z2:=zo (qw (P i) (D i))
 refine⟨s.lt i,?_,?_⟩
 ·rw[hS];omega
 ·rw[hS];omega
theorem iD.on(s:iD P D n)(zo:∀c,wn P D n c=0\/wn P D n c=1)(hS:∀c,c∈S↔wn P D n c=1){p:Pt}{d:Nat}(e:qY S p d):∃j,j<n/\P j=p/\D j=d:=by
 have hs:=s.side p e.lt
 have h1:=(hS _).mp e.l
 have h2:wn P D n (qw p d)=0:=(zo _).resolve_right fun z=>e.r ((hS _).mpr z)
 have h3:sgn P D n p d=1:=by omega
 have h4:sgn P D n p d≠0:=by omega
 obtain⟨j,hj,hne⟩:=Bh h4
 rw[kC] at hne
 unfold sg at hne
 by_cases y:P j=p/\D j=d
 ·exact⟨j,hj,y⟩
 ·rw[if_neg y] at hne
  by_cases x:P j=mW p d/\D j=od d
  ·exfalso
   have o:=s.one j
   rw[x.1,x.2,GP p e.lt] at o
   omega
  ·rw[if_neg x] at hne
   exact absurd rfl hne
theorem iD.dg(s:iD P D n)(zo:∀c,wn P D n c=0\/wn P D n c=1)(hS:∀c,c∈S↔wn P D n c=1):Dg S:=by
 have two:∀ {p:Pt} {d e:Nat},qY S p d->qY S p e->d=e:=fun {p d e} a b=>by
  obtain⟨i,hi,i1,i2⟩:=s.on zo hS a
  obtain⟨j,hj,j1,j2⟩:=s.on zo hS b
  have:=s.inj i j hi hj (by rw[i1,j1])
  rw[←i2,←j2,this]
 intro p
 refine⟨fun z=>?_,fun z=>?_⟩
 ·have:=two (p:=p) (d:=0) (e:=2) ⟨by omega,z.1,z.2.2.2⟩ ⟨by omega,z.2.1,z.2.2.1⟩
  omega
 ·have:=two (p:=p) (d:=1) (e:=3) ⟨by omega,z.1,z.2.2.1⟩ ⟨by omega,z.2.1,z.2.2.2⟩
  omega
theorem iD.uw(s:iD P D n)(zo:∀c,wn P D n c=0\/wn P D n c=1)(hS:∀c,c∈S↔wn P D n c=1):∀i,Law.uw S (P 0) i=P i/\outD S (P i)=D i:=by
 have od1:∀i,outD S (P i)=D i:=fun i=>lL (s.dg zo hS) (fY ⟨_,s.edge zo hS i⟩) (s.edge zo hS i)
 intro i
 refine⟨?_,od1 i⟩
 induction i with
 |zero=>rfl
 |succ i ih=>
  show mW (Law.uw S (P 0) i) (outD S (Law.uw S (P 0) i))=_
  rw[ih,od1,s.go]
theorem iD.rnd(s:iD P D n)(zo:∀c,wn P D n c=0\/wn P D n c=1)(hS:∀c,c∈S↔wn P D n c=1):Zd S (P 0) n:=by
 have hn:=s.n3
 have e:=fun i=>(s.uw zo hS i).1
 refine⟨by omega,by rw[e];exact s.cl,fun m h1 h2=>?_,fun q hq=>?_,fun i j h1 h2=>?_⟩
 ·rw[e]
  exact fun z=>by have:=s.inj m 0 h2 (by omega) z;omega
 ·obtain⟨d,ed⟩:=hq
  obtain⟨j,hj,j1,_⟩:=s.on zo hS ed
  exact⟨j,hj,by rw[e,j1]⟩
 ·rw[e,e]
  exact fun z=>by have:=s.inj i j (by omega) h2 z;omega
theorem iD.NP(s:iD P D n)(zo:∀c,wn P D n c=0\/wn P D n c=1)(hS:∀c,c∈S↔wn P D n c=1):xQ S (P 0):=⟨_,s.edge zo hS 0⟩
end
theorem CG(l:Lt):step l=stp l.val:=by revert l;decide
theorem Yr(l:Lt):ltN l.val=l:=by revert l;decide
def Yu(W:List Lt)(i:Nat):Lt:=W.getD (i%W.length) 0
def dW(W:List Lt)(i:Nat):Nat:=(Yu W i).val
def pc(c:Pt)(W:List Lt)(i:Nat):Pt:=bC c (W.take (i%W.length))
theorem CQ{c:Pt}{W:List Lt}{i:Nat}(h:i<W.length):pc c W i=bC c (W.take i):=by
 unfold pc;rw[rX h]
theorem Pa{W:List Lt}{i:Nat}(h:i<W.length):W[i]?=some (Yu W i):=by
 unfold Yu;rw[rX h,fh,dA h];rfl
theorem Vm{c:Pt}{W:List Lt}(hW:bC c W=c)(h0:0<W.length)(i:Nat):pc c W (i+1)=pB (step (Yu W i)) (pc c W i):=by
 have hr:=zC i h0
 have e1:(i+1)%W.length=(i%W.length+1)%W.length:=by rw[Nat.mod_add_mod]
 unfold pc Yu
 rw[e1]
 generalize i%W.length=k at hr
 have ek:W[k]?=some (W.getD k 0):=by rw[fh,dA hr];rfl
 have et:W.take (k+1)=W.take k++[W.getD k 0]:=by rw[ff,ek];rfl
 by_cases z:k+1<W.length
 ·rw[rX z,et,pI]
 ·have z':k+1=W.length:=by omega
  rw[z',Nat.mod_self,Bn]
  show c=_
  rw[←pI,←et,z',mh,hW]
section
variable{c:Pt}{W:List Lt}
theorem Py(hW:bC c W=c)(h3:3<=W.length)(inj:∀i j,i<j->j<W.length->bC c (W.take i)≠bC c (W.take j)):iD (pc c W) (dW W) W.length:=by
 refine⟨fun i=>?_,fun i=>(Yu W i).isLt,fun i=>?_,fun i=>?_,fun i j hi hj e=>?_,h3⟩
 ·rw[Vm hW (by omega),CG];rfl
 ·unfold pc;rw[D7]
 ·unfold dW Yu;rw[D7]
 ·rw[CQ hi,CQ hj] at e
  rcases DO i j with z | z | z
  ·exact absurd e (inj i j z hj)
  ·exact z
  ·exact absurd e.symm (inj j i z hi)
theorem Ov(l:Lt):(step l).1.natAbs<=1/\(step l).2.natAbs<=1:=by revert l;decide
theorem DX(c:Pt)(ls:List Lt):(c.1-ls.length<=(bC c ls).1/\(bC c ls).1<=c.1+ls.length)/\c.2-ls.length<=(bC c ls).2/\(bC c ls).2<=c.2+ls.length:=by
 induction ls generalizing c with
 |nil=>show (c.1-_<=c.1/\c.1<=_)/\_<=c.2/\c.2<=_;simp
 |cons l ls ih=>
  have h:=ih (pB (step l) c)
  have hs:=Ov l
  have e:bC c (l::ls)=bC (pB (step l) c) ls:=rfl
  rw[e,e8]
  unfold pB at h ⊢
  dsimp only at h ⊢
  omega
theorem WD(hl:W.length<=60)(i:Nat):(c.1-60<=(pc c W i).1/\(pc c W i).1<=c.1+60)/\c.2-60<=(pc c W i).2/\(pc c W i).2<=c.2+60:=by
 have:=DX c (W.take (i%W.length))
 rw[d2] at this
 unfold pc
 omega
theorem aab:ar c W=sm (fun i=>(pc c W i).1*(stp (dW W i)).2) 0 W.length:=by
 have key:∀k,k<=W.length->ar c (W.take k)=sm (fun i=>(pc c W i).1*(stp (dW W i)).2) 0 k:=by
  intro k
  induction k with
  |zero=>intro _;rfl
  |succ k ih=>
   intro hk
   rw[ff,Pa (by omega),Option.toList_some,u9,ih (by omega),CG,←CQ (by omega)]
   show _=sm _ 0 k+(pc c W (0+k)).1*(stp (dW W (0+k))).2
   rw[kC];rfl
 have:=key W.length (aT _)
 rwa [mh] at this
end
section
variable{P:Nat->Pt}{D:Nat->Nat}{n:Nat}
theorem iD.abl(s:iD P D n){c:Pt}(h:∀i,c.1<(P i).1):wn P D n c=0:=by
 have tel:=Af (fun i=>if c.2<(P i).2 then (1:Int) else 0) 1 0 n
 rw[kC,s.cl,lx,i0] at tel
 unfold wn
 refine Kb (cX fun k _=>?_) tel
 rw[s.go]
 have hd:=s.lt (0+k)
 have hx:=h (0+k)
 generalize P (0+k)=q at hx
 generalize D (0+k)=e at hd
 unfold Mv
 simp only[mW]
 rcases c4 hd with rfl | rfl | rfl | rfl
 ·simp only[Um,fz,lx];rfl
 ·simp only[Tc];(repeat' split) <;> first | omega | grind
 ·simp only[Xv,fz,lx];rfl
 ·simp only[Xj];(repeat' split) <;> first | omega | grind
theorem iD.exS(s:iD P D n){o:Pt}(hb:∀i,(o.1-60<=(P i).1/\(P i).1<=o.1+60)/\o.2-60<=(P i).2/\(P i).2<=o.2+60):∃S:List Pt,S.Nodup/\∀c,c∈S↔wn P D n c=1:=by
 refine⟨((Og 140 140).map fun c=>(c.1+o.1-70,c.2+o.2-70)).filter fun c=>decide (wn P D n c=1),?_,fun c=>?_⟩
 ·have key:((Og 140 140).map fun c=>((c.1+o.1-70,c.2+o.2-70):Pt)).Nodup:=?_
  ·exact key.filter _
  rw[cK,f7]
  refine (cK.mp (Uu 140 140)).imp fun {a b} hne z=>hne ?_
  have z1:a.1+o.1-70=b.1+o.1-70:=congrArg mi z
  have z2:a.2+o.2-70=b.2+o.2-70:=congrArg nh z
  exact de (by omega) (by omega)
 ·rw[fE,decide_eq_true_iff]
  refine⟨fun z=>z.2,fun z=>⟨?_,z⟩⟩
  have h1:o.1-60<=c.1:=by
   apply cm
   intro y
   have:=s.abl (c:=c) fun i=>by have:=hb i;omega
   omega
  have h2:∃i,(c.1<(P i).1)/\((P i).2=c.2\/(P i).2=c.2+1):=by
   have hne:wn P D n c≠0:=by omega
   obtain⟨k,_,hk⟩:=Bh hne
   refine⟨0+k,?_⟩
   unfold Mv at hk
   split at hk
   ·split at hk
    ·omega
    ·exact absurd rfl hk
   ·split at hk
    ·split at hk
     ·omega
     ·exact absurd rfl hk
    ·exact absurd rfl hk
  obtain⟨i,i1,i2⟩:=h2
  have:=hb i
  refine cn.mpr ⟨(c.1-o.1+70,c.2-o.2+70),?_,de (by show c.1-o.1+70+o.1-70=c.1;omega) (by show c.2-o.2+70+o.2-70=c.2;omega)⟩
  unfold Og
  rw[rS]
  refine⟨_,cn.mpr ⟨(c.1-o.1+70).toNat,d6.mpr (by omega),rfl⟩,cn.mpr ⟨(c.2-o.2+70).toNat,d6.mpr (by omega),de ?_ ?_⟩⟩
  ·show (((c.1-o.1+70).toNat:Nat):Int)=c.1-o.1+70;omega
  ·show (((c.2-o.2+70).toNat:Nat):Int)=c.2-o.2+70;omega
end
theorem aan{c:Pt}{W:List Lt}{S:List Pt}(e:∀i,uw S (pc c W 0) i=pc c W i/\outD S (pc c W i)=dW W i):wd S (pc c W 0) W.length=W:=by
 refine xb fun i=>?_
 unfold wd
 rw[aS]
 by_cases h:i<W.length
 ·rw[kq h,Pa h,ng,(e i).1,(e i).2]
  exact congrArg some (Yr _)
 ·rw[fx (by rw[fT];omega),fx (by omega)];rfl
theorem adl{c:Pt}{W:List Lt}(hW:bC (0,0) W=(0,0))(hl:W.length<=60)(inj:∀i j,i<j->j<W.length->bC (0,0) (W.take i)≠bC (0,0) (W.take j))(ha:1<=ar (0,0) W):∃S:List Pt,S.Nodup/\Dg S/\xQ S c/\Zd S c W.length/\wd S c W.length=W/\(S.length:Int)=ar (0,0) W:=by
 have h3:3<=W.length:=by
  apply cm
  intro z
  have k1:∀a:Lt,bC (0,0) [a]=(0,0)->False:=by decide
  have k2:∀a b:Lt,bC (0,0) [a,b]=(0,0)->1<=ar (0,0) [a,b]->False:=by decide
  match W,z,ha,hW with
  |[],_,ha,_=>exact absurd ha (by decide)
  |[a],_,_,hW=>exact k1 a hW
  |[a,b],_,ha,hW=>exact k2 a b hW ha
  |_::_::_::_,z,_,_=>exact z (by simp)
 have hW':bC c W=c:=by rw[vP,hW];exact de (by show c.1+0=c.1;omega) (by show c.2+0=c.2;omega)
 have s:=Py hW' h3 fun i j hij hj e=>inj i j hij hj (by
  rw[vP,vP c] at e
  have e1:c.1+(bC (0,0) (W.take i)).1=c.1+(bC (0,0) (W.take j)).1:=congrArg mi e
  have e2:c.2+(bC (0,0) (W.take i)).2=c.2+(bC (0,0) (W.take j)).2:=congrArg nh e
  exact de (by omega) (by omega))
 have ea:ar c W=ar (0,0) W:=by rw[T9,hW];show _+c.1*0=_;omega
 have bx:=fun i=>WD (c:=c) hl i
 have pos:=s.pos (x0:=c.1-60) (y0:=c.2-60) (M:=120) (L:=120) (fun i=>by have:=bx i;omega) (fun i=>by have:=bx i;omega) (by rw[←aab,ea];exact ha)
 have zo:=s.zo (M:=c.1+60) (fun i=>(bx i).1.2) pos
 obtain⟨S,nS,hS⟩:=s.exS bx
 have r:=s.rnd zo hS
 have dg:=s.dg zo hS
 have cr:=s.NP zo hS
 have e0:pc c W 0=c:=by rw[CQ (by omega)];rfl
 have ew:=aan (s.uw zo hS)
 rw[e0] at r cr ew
 have al:=Q7 dg nS cr r
 rw[ew,ea] at al
 exact⟨S,nS,dg,cr,r,ew,al.symm⟩
def mY(l1:List Lt)(c:Nat)(l2:List Lt):Str:=⟨(l1.map cp++c::l2.map cp).toArray⟩
def uH:List Nat:=[69,78,87,83,32,97,98,100,102,120,121,122,46,48,35,47,126]
def Wn(ls:List Lt)(k:Nat):Bool:=decide (bC (0,0) (ls.take (k+1))∈(dc (k+1)).map fun j=>bC (0,0) (ls.take j))
def bY(ls:List Lt):Option Nat:=(dc (ls.length-1)).find? (Wn ls)
def t8(ls:List Lt):D:=if ls=[] then .tup [.str "word",.int 0] else if ¬bC (0,0) ls=(0,0) then .tup [.str "open",.tup [.int (bC (0,0) ls).1,.int (bC (0,0) ls).2]] else match bY ls with
 |some k=>.tup [.str "crossed",.int k]
 |none=>if ar (0,0) ls<=0 then .tup [.str "backward",.int 0] else if 10<ar (0,0) ls then .tup [.str "many",.int 0] else .tup [.str "taken",.int (ar (0,0) ls)]
inductive Wz:Str->D->Prop
 |ok (ls:List Lt) (h:ls.length<=60):Wz (aY ls) (t8 ls)
 |no (l1 l2:List Lt) (c:Nat) (h:c∈uH) (h1:l1.length<=60) (h2:l2.length<=60):Wz (mY l1 c l2) (.tup [.str "word",.int l1.length])
section
variable{ls:List Lt}
theorem VF(h:ls≠[])(h1:¬bC (0,0) ls=(0,0)):t8 ls=.tup [.str "open",.tup [.int (bC (0,0) ls).1,.int (bC (0,0) ls).2]]:=by unfold t8;rw[if_neg h,if_pos h1]
theorem V3{k:Nat}(h:ls≠[])(h1:bC (0,0) ls=(0,0))(h2:bY ls=some k):t8 ls=.tup [.str "crossed",.int k]:=by unfold t8;rw[if_neg h,if_neg (fun z=>z h1),h2]
theorem VM(h:ls≠[])(h1:bC (0,0) ls=(0,0))(h2:bY ls=none)(h3:ar (0,0) ls<=0):t8 ls=.tup [.str "backward",.int 0]:=by unfold t8;rw[if_neg h,if_neg (fun z=>z h1),h2];exact if_pos h3
theorem Vu(h:ls≠[])(h1:bC (0,0) ls=(0,0))(h2:bY ls=none)(h3:¬ar (0,0) ls<=0)(h4:10<ar (0,0) ls):t8 ls=.tup [.str "many",.int 0]:=by unfold t8;rw[if_neg h,if_neg (fun z=>z h1),h2];show (if _ then _ else _)=_;rw[if_neg h3,if_pos h4]
theorem VP(h:ls≠[])(h1:bC (0,0) ls=(0,0))(h2:bY ls=none)(h3:¬ar (0,0) ls<=0)(h4:¬10<ar (0,0) ls):t8 ls=.tup [.str "taken",.int (ar (0,0) ls)]:=by unfold t8;rw[if_neg h,if_neg (fun z=>z h1),h2];show (if _ then _ else _)=_;rw[if_neg h3,if_neg h4]
theorem xG{i:Nat}(hi:i<ls.length-1)(hall:∀k<i,Wn ls k=false)(hx:Wn ls i=true):bY ls=some i:=by
 unfold bY
 rw[xy]
 exact⟨hx,d6.mpr hi,fun j hj=>by rw[hall j hj];rfl⟩
theorem vL(hall:∀k<ls.length-1,Wn ls k=false):bY ls=none:=by
 unfold bY
 rw[mw]
 intro k hk
 rw[hall k (d6.mp hk)];simp
theorem Lf(h:bY ls=none):∀i j,i<j->j<ls.length->bC (0,0) (ls.take i)≠bC (0,0) (ls.take j):=fun i j hij hj e=>by
 unfold bY at h
 rw[mw] at h
 have:=h (j-1) (d6.mpr (by omega))
 unfold Wn at this
 rw[show j-1+1=j by omega] at this
 exact this (decide_eq_true (cn.mpr ⟨i,d6.mpr hij,e⟩))
end
theorem Qj(l1 l2:List Lt)(c:Nat):lets (mY l1 c l2)=l1.map (fun l=>D.str (qz l))++D.str ⟨#[c]⟩::l2.map fun l=>D.str (qz l):=by
 unfold lets mY qz;rw[lT,d0,ck,eA,eA];rfl
theorem uh:∀c∈uH,c<128:=by decide
theorem V8{l1 l2:List Lt}{c:Nat}(hc:c∈uH):asc (mY l1 c l2):=by
 show (l1.map cp++c::l2.map cp).toArray.all (· < 128)=true
 rw[ow,FR,Ic,qE,qE]
 have:∀l:Lt,cp l<128:=by decide
 simp[D8,this,uh c hc]
theorem aaw{l1 l2:List Lt}{c:Nat}{H:aG}{Q:aX}(hc:c∈uH)(q:Q (.bl false) H):eO (.str (mY l1 c l2)) (.str (eS "")) H Q:=by
 have ok:iX (mY l1 c l2)=true:=by
  show (l1.map cp++c::l2.map cp).toArray.all (· < 0x110000)=true
  rw[ow,FR,Ic,qE,qE]
  have:=uh c hc
  have h2:c<1114112:=by omega
  have h3:∀l:Lt,cp l<1114112:=by decide
  simp[D8,h2,h3]
 have e1:MT H (.str (mY l1 c l2))=some (.str (mY l1 c l2)):=by
  show (if iX (mY l1 c l2)=true then some (uS (mY l1 c l2)) else none)=_
  rw[if_pos ok]
 have e2:MT H (.str (eS ""))=some (.str (eS "")):=Wb H []
 have e3:fN (.str (mY l1 c l2)) (.str (eS ""))=false:=by
  simp only[fN]
  refine beq_eq_false_iff_ne.mpr fun z=>?_
  have h1:=congrArg (fun z:Str=>z.cps.toList) z
  have h2:l1.map cp++c::l2.map cp=[]:=h1
  simp at h2
 simp only[eO,e1,e2,e3];exact q
def mX:mU:=fun ds H Q=>∃a b c d x,ds=[.tup [.int a,.int b],x]/\(x=.tup [.int c,.int d]\/x=.ktup [.int c,.int d])/\Q (.tup [.int (a+c),.int (b+d)]) H
theorem Q9{a b c d:Int}{H:aG}{Q:aX}(h:Q (.tup [.int (a+c),.int (b+d)]) H):mX [.tup [.int a,.int b],.ktup [.int c,.int d]] H Q:=⟨a,b,c,d,_,rfl,.inr rfl,h⟩
local macro_rules | `(tactic| walk_at "l3c")=>`(tactic| first | (with_reducible refine u_added ?_) | (with_reducible refine Q9 ?_))
theorem Lh:∀(ds:List D) (H:aG) (Q:aX),mX ds H Q->ds.length=oR.length:=by
 intro ds H Q h
 obtain⟨_,_,_,_,_,rfl,_⟩:=h
 rfl
def vy:cI:=(gR (fX (aq (o3 bc (o3 bD (v3 0) (c3 (.int 0))) (o3 bD (v3 1) (c3 (.int 0)))) (aq (o3 bc (o3 bD (v3 0) (c3 (.int 1))) (o3 bD (v3 1) (c3 (.int 1)))) aK))))
theorem Pj:∀(ds:List D) (H:aG) (Q:aX),mX ds H Q->vy (cY Q) (aM vC ds) H:=by
 intro ds H Q h
 obtain⟨a,b,c,d,x,rfl,hx,h⟩:=h
 rcases hx with rfl | rfl
 ·(simp only[vy,aM,vC];walk_at "l3t")
  walk_at "l3"
  exact bF h aN.refl
 ·(simp only[vy,aM,vC];walk_at "l3t")
  walk_at "l3"
  exact bF h aN.refl
def cat(ns:List Int)(k:Nat):Int:=if k<ns.length then ns.getD k 0 else if ns.length=0 then 0 else ns.getD (k%ns.length) 0*(48271+(k:Int)*(k:Int))%1000003
def bz:mU:=fun ds H Q=>∃xs k,ds=[.fl xs,.int k]/\((match intsOf xs with
  |some ns=>(0<=k/\k<100000/\ns.length<=63)/\Q (.int (cat ns k.toNat)) H
  |none=>False))
theorem Eh{ns:List Int}{k:Int}{H:aG}{Q:aX}(hk:0<=k)(hk1:k<100000)(hl:ns.length<=63)(h:Q (.int (cat ns k.toNat)) H):bz [.fl (ns.map D.int),.int k] H Q:=by
 refine⟨_,_,rfl,?_⟩
 simp only[eN];exact⟨⟨hk,hk1,hl⟩,h⟩
local macro_rules | `(tactic| walk_at "l3c")=>`(tactic| ((with_reducible show bz _ _ _);refine Eh (by walk_at "l3a") (by walk_at "l3a") (by assumption) ?_))
theorem yo:∀(ds:List D) (H:aG) (Q:aX),bz ds H Q->ds.length=eY.length:=by
 intro ds H Q h
 obtain⟨_,_,rfl,_⟩:=h
 rfl
def nu:cI:=(bV (mC (jx (o3 M6 (v3 1) (cR fK (aq (v3 0) aK)))) (gR (o3 bD (v3 0) (v3 1))) lW)
  (bV (mC (jx (o3 eO (cR fK (aq (v3 0) aK)) (c3 (.int 0)))) (gR (c3 (.int 0))) lW)
  (gR (o3 cP (o3 my (o3 bD (v3 0) (o3 cP (v3 1) (cR fK (aq (v3 0) aK)))) (o3 bc (c3 (.int 48271)) (o3 my (v3 1) (v3 1)))) (c3 (.int 1000003))))))
theorem Ac:∀(ds:List D) (H:aG) (Q:aX),bz ds H Q->nu (cY Q) (aM oA ds) H:=by
 intro ds H Q h
 obtain⟨xs,k,rfl,h⟩:=h
 split at h
 case h_2=>exact h.elim
 rename_i ns e
 have e':=dG e
 subst e'
 obtain⟨⟨hk,hk1,hns⟩,h⟩:=h
 obtain⟨n,rfl⟩:=gL hk
 rw[fe] at h
 (simp only[nu,aM,oA];walk_at "l3t")
 unfold cat at h
 walk_at "l3"
 rw[aw]
 refine qX (fun hlt=>?_) fun hlt=>?_
 ·have hl:n<ns.length:=by omega
  rw[if_pos hl] at h
  have ha:j7 (ns.map D.int) (n:Int)=some (.int (ns.getD n 0)):=by
   rw[Ak (by omega) (by rw[fe];exact hl)]
   simp only[fe,fh,dA hl];rfl
  walk_at "l3"
  refine Wa ha ?_
  walk_at "l3"
  exact bF h aN.refl
 ·have hl:¬n<ns.length:=by omega
  rw[if_neg hl] at h
  walk_at "l3"
  rw[aw]
  refine qX (fun h0=>?_) fun h0=>?_
  ·walk_at "l3"
   rw[if_pos (by omega)] at h
   exact bF h aN.refl
  ·rw[if_neg (by omega)] at h
   have hp:(0:Int)<ns.length:=by omega
   have hm:n%ns.length<ns.length:=zC _ (by omega)
   walk_at "l3"
   rw[aw]
   refine VN hp ?_
   have ha:j7 (ns.map D.int) ((n:Int)%(ns.length:Int))=some (.int (ns.getD (n%ns.length) 0)):=by
    rw[←Int.natCast_emod,Ak (by omega) (by rw[fe];exact hm)]
    simp only[fe,fh,dA hm];rfl
   refine Wa ha ?_
   walk_at "l3"
   have hq:(n:Int)*(n:Int)<=100000*100000:=Int.mul_le_mul (by omega) (by omega) (by omega) (by omega)
   have hq0:0<=(n:Int)*(n:Int):=Int.mul_nonneg (by omega) (by omega)
   refine Pu (.inl (.inr ⟨by omega,by omega⟩)) ?_
   walk_at "l3"
   exact bF h aN.refl
def gK:mU:=fun ds H Q=>∃w0_ w1_,ds=[.int w0_,.int w1_]/\(∀x y,Q (.tup [.int x,.int y]) H)
theorem Hz{c d:Int}{H:aG}{Q:aX}(h:∀x y,Q (.tup [.int x,.int y]) H):gK [.int c,.int d] H Q:=⟨_,_,rfl,h⟩
theorem Ar:∀(ds:List D) (H:aG) (Q:aX),gK ds H Q->ds.length=fZ.length:=by
 intro ds H Q h
 obtain⟨_,_,rfl,_⟩:=h
 rfl
def qg:cI:=(bV (mC (jx (o3 eO (o3 cP (v3 0) (c3 (.int 3))) (c3 (.int 0)))) (gR (fX (aq (o3 jf (o3 cP (o3 gj (v3 0) (c3 (.int 3))) (c3 (.int 41))) (c3 (.int 20))) (aq (o3 jf (o3 cP (o3 gj (v3 1) (c3 (.int 3))) (c3 (.int 41))) (c3 (.int 20))) aK)))) lW)
  (gR (fX (aq (o3 jf (o3 cP (v3 0) (o3 bc (o3 my (c3 (.int 2)) (o3 yD (c3 (.int 10)) (c3 (.int 40)))) (c3 (.int 1)))) (o3 yD (c3 (.int 10)) (c3 (.int 40)))) (aq (o3 jf (o3 cP (v3 1) (o3 bc (o3 my (c3 (.int 2)) (o3 yD (c3 (.int 10)) (c3 (.int 40)))) (c3 (.int 1)))) (o3 yD (c3 (.int 10)) (c3 (.int 40)))) aK)))))
theorem Er:∀(ds:List D) (H:aG) (Q:aX),gK ds H Q->qg (cY Q) (aM pX ds) H:=by
 intro ds H Q h
 obtain⟨_,_,rfl,h⟩:=h
 (simp only[qg,aM,pX];walk_at "l3t")
 walk_at "l3"
 refine qX (fun hc=>?_) fun hc=>?_
 ·walk_at "l3"
  exact bF (h _ _) aN.refl
 ·walk_at "l3"
  exact bF (h _ _) aN.refl
def fu:mU:=fun ds H Q=>∃z,ds=[.str z]/\(∃l:Lt,z=qz l/\Q (.tup [.int (step l).1,.int (step l).2]) H)
theorem rB(l:Lt){H:aG}{Q:aX}(h:Q (.tup [.int (step l).1,.int (step l).2]) H):fu [.str (qz l)] H Q:=⟨_,rfl,⟨l,rfl,h⟩⟩
theorem SN(l:Lt):pC "enws" (qz l)=some l.val:=by
 match l with
 |0=>rfl
 |1=>rfl
 |2=>rfl
 |3=>rfl
theorem step_at(l:Lt):j7 [D.tup [.int 1,.int 0],.tup [.int 0,.int 1],.tup [.int (-1),.int 0],.tup [.int 0,.int (-1)]] (l.val:Int)=some (.tup [.int (step l).1,.int (step l).2]):=by
 match l with
 |0=>rfl
 |1=>rfl
 |2=>rfl
 |3=>rfl
theorem Hw:∀(ds:List D) (H:aG) (Q:aX),fu ds H Q->ds.length=lg.length:=by
 intro ds H Q h
 obtain⟨_,rfl,_⟩:=h
 rfl
def vY:cI:=(gR (o3 bD (JT (aq (fX (aq (c3 (.int 1)) (aq (c3 (.int 0)) aK))) (aq (fX (aq (c3 (.int 0)) (aq (c3 (.int 1)) aK))) (aq (fX (aq (u3 mL (c3 (.int 1))) (aq (c3 (.int 0)) aK))) (aq (fX (aq (c3 (.int 0)) (aq (u3 mL (c3 (.int 1))) aK))) aK))))) (mz3 oJ (c3 (.str "enws")) (aq (v3 0) aK))))
theorem Lx:∀(ds:List D) (H:aG) (Q:aX),fu ds H Q->vY (cY Q) (aM xr ds) H:=by
 intro ds H Q h
 obtain⟨z,rfl,h⟩:=h
 obtain⟨l,rfl,h⟩:=h
 (simp only[vY,aM,xr];walk_at "l3t")
 walk_at "l3"
 intro p hp
 walk_at "l3"
 refine Je (SN l) ?_
 walk_at "l3"
 refine gY aF (step_at l) ?_
 walk_at "l3"
 exact bF h (aN.fresh hp)
def iy:mU:=fun ds H Q=>∃z,ds=[.str z]/\(∃ls:List Lt,(z=aY ls/\ls.length<=500)/\Q (.str (aY (bk ls))) H)
theorem En(ls:List Lt){H:aG}{Q:aX}(hl:ls.length<=500)(h:Q (.str (aY (bk ls))) H):iy [.str (aY ls)] H Q:=⟨_,rfl,⟨ls,⟨rfl,hl⟩,h⟩⟩
theorem Gp(l:Lt):pC "enws" (qz l)=some l.val:=by
 match l with
 |0=>rfl
 |1=>rfl
 |2=>rfl
 |3=>rfl
theorem Ub(l:Lt):j7 (eS "wsen").cps.toList (l.val:Int)=some (cp (opp l)):=by
 match l with
 |0=>rfl
 |1=>rfl
 |2=>rfl
 |3=>rfl
theorem Ia:∀(ds:List D) (H:aG) (Q:aX),iy ds H Q->ds.length=lH.length:=by
 intro ds H Q h
 obtain⟨_,rfl,_⟩:=h
 rfl
def uq:cI:=yw (iz3 (v3 0)) (vB 2) (st3 1 (o3 bc (o3 bD (c3 (.str "wsen")) (mz3 oJ (c3 (.str "enws")) (aq (v3 2) aK))) (v3 1)))
def wJ:cI:=(bV (st3 1 (c3 (.str "")))
  (bV uq
  (gR (v3 1))))
theorem Kz:∀(ds:List D) (H:aG) (Q:aX),iy ds H Q->wJ (cY Q) (aM wz ds) H:=by
 intro ds H Q h
 obtain⟨z,rfl,h⟩:=h
 obtain⟨ls,⟨rfl,hl⟩,h⟩:=h
 (simp only[wJ,aM,wz];walk_at "l3t")
 walk_at "l3"
 unfold uq
 walk_at "l3"
 rw[ni]
 refine Lp.by (fun i σ H2=>H2=H/\∃c,σ=[some (.str (aY ls)),some (.str (aY (bk (ls.take i)))),c]) ⟨rfl,_,rfl⟩ (fun _ _ _ _ _=>trivial) ?_ ?_
 ·rintro i d σ H2 hd ⟨rfl,c,rfl⟩
  rw[aS,b6] at hd
  obtain⟨l,hl2,rfl⟩:=hd
  walk_at "l3"
  refine Je (Gp l) ?_
  walk_at "l3"
  refine Jr (by rw[bJ];decide) (Ub l) ?_
  walk_at "l3"
  refine wL (by rw[gJ,vH,d2,bJ];show 1+_<=_;omega) ?_
  have ht:ls.take (i+1)=ls.take i++[l]:=by rw[ff,hl2];rfl
  have e:(⟨#[cp (opp l)]⟩:Str)++aY (bk (ls.take i))=aY (bk (ls.take (i+1))):=by
   rw[ht,Zy]
   exact Ei [opp l] _
  rw[e]
  walk_at "l3"
  exact⟨rfl,_,rfl⟩
 ·rintro σ H2 ⟨rfl,c,rfl⟩
  rw[aw,ez (aT _)]
  walk_at "l3"
  exact bF h aN.refl
def yE(w s:Int)(nx ny:Nat)(c:Pt):Prop:=(w<=c.1/\c.1<w+(nx:Int))/\s<=c.2/\c.2<s+(ny:Int)
def bxR(w y:Int)(nx:Nat):List Pt:=(dc nx).map fun i:Nat=>(w+(i:Int),y)
def RT(w s:Int)(nx:Nat):Nat->List Pt
 |0=>[]
 |n+1=>RT w s nx n++bxR w (s+(n:Int)) nx
theorem u6(w s:Int)(nx:Nat):∀ny,(RT w s nx ny).length=ny*nx
 |0=>by simp[RT]
 |n+1=>by rw[RT,bo,u6,Nat.succ_mul];simp[bxR]
theorem Ir{w y:Int}{nx:Nat}{c:Pt}:c∈bxR w y nx↔(w<=c.1/\c.1<w+(nx:Int))/\c.2=y:=by
 unfold bxR
 rw[cn]
 constructor
 ·rintro⟨i,hi,rfl⟩
  have:=d6.mp hi
  exact⟨⟨by dsimp only;omega,by dsimp only;omega⟩,rfl⟩
 ·rintro⟨⟨h1,h2⟩,h3⟩
  exact⟨(c.1-w).toNat,d6.mpr (by omega),de (by dsimp only;omega) h3.symm⟩
theorem rC{w s:Int}{nx:Nat}{c:Pt}:∀ {ny:Nat},c∈RT w s nx ny↔yE w s nx ny c
 |0=>by
  unfold yE
  constructor
  ·intro h;cases h
  ·intro h;omega
 |n+1=>by
  rw[RT,dE,rC,Ir]
  unfold yE
  omega
theorem Rb(w s:Int)(nx:Nat):∀ny,(RT w s nx ny).Nodup
 |0=>by simp[RT]
 |n+1=>by
  rw[RT,hV]
  refine⟨Rb w s nx n,?_,fun a ha b hb z=>?_⟩
  ·unfold bxR
   refine rV.map _ ?_
   intro a b hab z
   exact hab (by have:=congrArg mi z;dsimp only at this;omega)
  ·subst z
   have h1:=rC.mp ha
   have h2:=(Ir.mp hb).2
   unfold yE at h1
   omega
structure Bf(ps:List Pt)(w s:Int)(nx ny:Nat)(met kn:List Pt)(at0:Nat):Prop where
 st:(w,s)∈met
 nd:kn.Nodup
 iff:∀c,c∈kn↔c∈ps\/c∈met
 bx:∀c∈met,yE w s nx ny c/\c∉ps/\Way ps (w,s) c
 ml:met.length<=kn.length
 al:at0<=met.length
 cl:∀i,i<at0->∀c,met[i]?=some c->∀n∈du c,yE w s nx ny n->n∈kn
section
variable{ps met kn:List Pt}{w s:Int}{nx ny at0:Nat}
theorem Bf.len(h:Bf ps w s nx ny met kn at0)(hb:∀c∈ps,yE w s nx ny c):kn.length<=ny*nx:=by
 rw[←u6 w s nx ny]
 refine sub_len h.nd fun c hc=>rC.mpr ?_
 rcases (h.iff c).mp hc with z | z
 ·exact hb c z
 ·exact (h.bx c z).1
theorem Bf.grow{c n:Pt}(h:Bf ps w s nx ny met kn at0)(hc:c∈met)(hn:n∈du c)(hb:yE w s nx ny n)(hk:n∉kn):Bf ps w s nx ny (met++[n]) (kn++[n]) at0:=by
 have hnp:n∉ps:=fun z=>hk ((h.iff n).mpr (.inl z))
 refine⟨fo _ h.st,?_,fun d=>?_,fun d hd=>?_,by have:=h.ml;simp;exact this,by have:=h.al;simp;omega,fun i hi d hd m hm hmb=>?_⟩
 ·rw[hV]
  exact⟨h.nd,by simp,fun a ha b hb=>by rw[ay.mp hb];exact fun z=>hk (z▸ha)⟩
 ·rw[dE,dE,h.iff]
  exact or_assoc
 ·rcases dE.mp hd with hd | hd
  ·exact h.bx d hd
  ·rw[ay.mp hd]
   exact⟨hb,hnp,.step (h.bx c hc).2.2 hn hnp⟩
 ·have hl:=h.al
  rw[eL (by omega)] at hd
  exact fo _ (h.cl i hi d hd m hm hmb)
theorem Bf.next{c:Pt}(h:Bf ps w s nx ny met kn at0)(hc:met[at0]?=some c)(hn:∀n∈du c,yE w s nx ny n->n∈kn):Bf ps w s nx ny met kn (at0+1):=by
 have:=(bb.mp hc).1
 refine⟨h.st,h.nd,h.iff,h.bx,h.ml,by omega,fun i hi d hd m hm hmb=>?_⟩
 by_cases e:i=at0
 ·subst e
  rw[hc] at hd
  cases hd
  exact hn m hm hmb
 ·exact h.cl i (by omega) d hd m hm hmb
def Rim(ps:List Pt)(w s:Int)(nx ny:Nat):Prop:=∀c∈ps,(w<c.1/\c.1+1<w+(nx:Int))/\s<c.2/\c.2+1<s+(ny:Int)
theorem Qk{x:Int}(hx:∀c∈ps,c.1≠x)(y:Int):∀n:Nat,Way ps (x,y) (x,y+(n:Int))
 |0=>by rw[show (x,y+((0:Nat):Int))=(x,y) from de rfl (by dsimp only;omega)];exact .refl
 |n+1=>.step (Qk hx y n) (by rw[pU];dsimp only;omega) fun z=>hx _ z rfl
theorem DW{y:Int}(hy:∀c∈ps,c.2≠y)(x:Int):∀n:Nat,Way ps (x,y) (x-(n:Int),y)
 |0=>by rw[show (x-((0:Nat):Int),y)=(x,y) from de (by dsimp only;omega) rfl];exact .refl
 |n+1=>.step (DW hy x n) (by rw[pU];dsimp only;omega) fun z=>hy _ z rfl
theorem Way.symm{a b:Pt}(ha:a∉ps)(h:Way ps a b):Way ps b a:=by
 induction h with
 |refl=>exact .refl
 |step k h h' ih=>exact Way.trans (.step .refl (abJ h) (k.off ha)) ih
theorem UW(hr:Rim ps w s nx ny)(hw:∀z,yE w s nx ny z->z∉ps->Way ps (w,s) z)(z:Pt)(hz:z∉ps):Esc ps z:=by
 have col:∀ {x:Int} (y:Int),(x<=w\/w+(nx:Int)<=x+1)->Esc ps (x,y):=fun {x} y hx=>
  ⟨(x,y+((s+(ny:Int)-y).toNat:Int)),Qk (fun c hc e=>by have:=hr c hc;omega) y _,fun c hc=>by have:=hr c hc;dsimp only;omega⟩
 have hws:(w,s)∉ps:=fun y=>by have:=hr _ y;dsimp only at this;omega
 by_cases c1:z.1<=w\/w+(nx:Int)<=z.1+1
 ·exact col z.2 c1
 by_cases c2:s+(ny:Int)<=z.2+1
 ·exact⟨z,.refl,fun c hc=>by have:=hr c hc;omega⟩
 by_cases c3:z.2<=s
 ·obtain⟨b,k,hb⟩:=col (x:=w) z.2 (.inl (fy _))
  have:=DW (ps:=ps) (y:=z.2) (fun c hc e=>by have:=hr c hc;omega) z.1 (z.1-w).toNat
  rw[show z.1-((z.1-w).toNat:Int)=w by omega] at this
  exact⟨b,this.trans k,hb⟩
 ·obtain⟨b,k,hb⟩:=col (x:=w) s (.inl (fy _))
  exact⟨b,((hw z ⟨by omega,by omega⟩ hz).symm hws).trans k,hb⟩
theorem Bf.full(h:Bf ps w s nx ny met kn met.length)(hb:∀c∈ps,yE w s nx ny c)(hr:Rim ps w s nx ny)(hl:ny*nx<=kn.length)(z:Pt)(hz:z∉ps):Esc ps z:=by
 refine UW hr (fun z hb' hz'=>?_) z hz
 have:z∈kn:=cm fun k=>by
  have:=sub_len (xs:=z::kn) (ys:=RT w s nx ny) (kg.mpr ⟨k,h.nd⟩) fun c hc=>rC.mpr (by
   rcases bE.mp hc with rfl | hc
   ·exact hb'
   ·rcases (h.iff c).mp hc with y | y
    ·exact hb c y
    ·exact (h.bx c y).1)
  rw[u6,e8] at this
  omega
 exact (h.bx z (((h.iff z).mp this).resolve_left hz')).2.2
theorem Bf.lone{c:Pt}(h:Bf [c] (c.1-1) (c.2-1) 3 3 met kn met.length):9<=kn.length:=by
 have st:∀x y x' y':Int,(c.1+x,c.2+y)∈met->((x'=x+1/\y'=y)\/(x'=x/\y'=y+1)\/(x'=x-1/\y'=y)\/(x'=x/\y'=y-1))->(-1<=x'/\x'<=1)->(-1<=y'/\y'<=1)->¬(x'=0/\y'=0)->(c.1+x',c.2+y')∈met:=fun x y x' y' ha hn bx yb hne=>by
  obtain⟨i,hi⟩:=AS.mp ha
  have:=h.cl i (bb.mp hi).1 _ hi (c.1+x',c.2+y') (by
   rw[pU]
   rcases hn with ⟨rfl,rfl⟩ | ⟨rfl,rfl⟩ | ⟨rfl,rfl⟩ | ⟨rfl,rfl⟩
   ·exact .inl ⟨(Iq ..).symm,rfl⟩
   ·exact .inr (.inl ⟨rfl,(Iq ..).symm⟩)
   ·exact .inr (.inr (.inl ⟨(D9 ..).symm,rfl⟩))
   ·exact .inr (.inr (.inr ⟨rfl,(D9 ..).symm⟩)))
   ⟨by clear hn yb hne;dsimp only;omega,by clear hn bx hne;dsimp only;omega⟩
  exact ((h.iff _).mp this).resolve_left fun z=>hne (by
   have z:=ay.mp z
   exact⟨BS ((congrArg mi z).trans (fz _).symm),BS ((congrArg nh z).trans (fz _).symm)⟩)
 have m0:(c.1 + -1,c.2 + -1)∈met:=by have:=h.st;rw[vt,vt] at this;exact this
 have m1:=st (-1) (-1) 0 (-1) m0 (by decide) (by decide) (by decide) (by decide)
 have m2:=st 0 (-1) 1 (-1) m1 (by decide) (by decide) (by decide) (by decide)
 have m3:=st 1 (-1) 1 0 m2 (by decide) (by decide) (by decide) (by decide)
 have m4:=st 1 0 1 1 m3 (by decide) (by decide) (by decide) (by decide)
 have m5:=st 1 1 0 1 m4 (by decide) (by decide) (by decide) (by decide)
 have m6:=st 0 1 (-1) 1 m5 (by decide) (by decide) (by decide) (by decide)
 have m7:=st (-1) 1 (-1) 0 m6 (by decide) (by decide) (by decide) (by decide)
 have:=sub_len (xs:=RT (c.1-1) (c.2-1) 3 3) (ys:=kn) (Rb _ _ _ _) fun p hp=>(h.iff p).mpr (by
  have key:∀x y:Int,p.1=c.1+x->p.2=c.2+y->(c.1+x,c.2+y)∈met->p∈met:=fun x y h1 h2 hm=>by rw[show p=(c.1+x,c.2+y) from de h1 h2];exact hm
  have one:∀ {u v:Int},v-1<=u/\u<v-1+(3:Nat)->u=v + -1\/u=v+0\/u=v+1:=fun z=>by omega
  have hp:=rC.mp hp
  rcases one hp.1 with hx | hx | hx <;> rcases one hp.2 with hy | hy | hy
  ·exact .inr (key _ _ hx hy m0)
  ·exact .inr (key _ _ hx hy m7)
  ·exact .inr (key _ _ hx hy m6)
  ·exact .inr (key _ _ hx hy m1)
  ·exact .inl (ay.mpr (de (hx.trans (fz _)) (hy.trans (fz _))))
  ·exact .inr (key _ _ hx hy m5)
  ·exact .inr (key _ _ hx hy m2)
  ·exact .inr (key _ _ hx hy m3)
  ·exact .inr (key _ _ hx hy m4))
 rw[u6] at this
 exact this
end
theorem Zw{j:Nat}{d:D}(h:[D.tup [.int 1,.int 0],.tup [.int 0,.int 1],.tup [.int (-1),.int 0],.tup [.int 0,.int (-1)]][j]?=some d):j<4/\d=.tup [.int (stp j).1,.int (stp j).2]:=by
 match j with
 |0=>cases h;exact⟨by omega,rfl⟩
 |1=>cases h;exact⟨by omega,rfl⟩
 |2=>cases h;exact⟨by omega,rfl⟩
 |3=>cases h;exact⟨by omega,rfl⟩
 |j+4=>simp at h
theorem nb4{c:Pt}{j:Nat}(h:j<4):nb c j∈du c:=by
 rw[pU]
 rcases c4 h with rfl | rfl | rfl | rfl
 ·exact .inl ⟨rfl,fz _⟩
 ·exact .inr (.inl ⟨fz _,rfl⟩)
 ·exact .inr (.inr (.inl ⟨rfl,fz _⟩))
 ·exact .inr (.inr (.inr ⟨fz _,rfl⟩))
def atN(n i:Nat)(σ:cz):Nat:=match σ[i]? with
 |some (some (.int k))=>n-k.toNat
 |_=>0
section
variable(H:aG)(ps:List Pt)(a p5 p6:aE)(xm xn ym yn:Int)
inductive HoA(i:Nat):cz->aG->Prop
 |mk {H2:aG} (cc:Option D) (sb:aN H H2) (k5:H2 p5=some (.lst [.tup [.int (xn-1),.int (yn-1)]])) (k6:H2 p6=some (.dic (dN ((ps.take i).foldl jy [(xn-1,yn-1)])))):HoA i [some (.ref a),some (.int (xm+1)),some (.int (xn-1)),some (.int (ym+1)),some (.int (yn-1)),some (.ref p5),some (.ref p6),cc,none,none,none] H2
inductive HoB(nx ny:Nat):cz->aG->Prop
 |mk {H3:aG} (met kn:List Pt) (at0:Nat) (cc dd ee:Option D) (sb:aN H H3) (j5:H3 p5=some (.lst (met.map cF))) (j6:H3 p6=some (.dic (dN kn))) (bf:Bf ps (xn-1) (yn-1) nx ny met kn at0):HoB nx ny [some (.ref a),some (.int (xm+1)),some (.int (xn-1)),some (.int (ym+1)),some (.int (yn-1)),some (.ref p5),some (.ref p6),cc,some (.int (at0:Nat)),dd,ee] H3
inductive HoC(nx ny:Nat)(p7:aE)(c:Pt)(at0:Nat)(cc:Option D)(j:Nat):cz->aG->Prop
 |mk {H4:aG} (met kn:List Pt) (dd ee:Option D) (sb:aN H H4) (i7:H4 p7=some (.lst [.tup [.int 1,.int 0],.tup [.int 0,.int 1],.tup [.int (-1),.int 0],.tup [.int 0,.int (-1)]])) (j5:H4 p5=some (.lst (met.map cF))) (j6:H4 p6=some (.dic (dN kn))) (bf:Bf ps (xn-1) (yn-1) nx ny met kn at0) (hc:met[at0]?=some c) (hk:∀k,k<j->yE (xn-1) (yn-1) nx ny (nb c k)->nb c k∈kn):HoC nx ny p7 c at0 cc j [some (.ref a),some (.int (xm+1)),some (.int (xn-1)),some (.int (ym+1)),some (.int (yn-1)),some (.ref p5),some (.ref p6),cc,some (.int (at0:Nat)),dd,ee] H4
end
def jb:mU:=fun ds H Q=>∃a,ds=[.ref a]/\(∃ps:List Pt,(H a=some (.lst (ps.map cF))/\ps≠[]/\ps.length<=100/\∀x∈ps,∀y∈ps,x.1-y.1<=18/\x.2-y.2<=18)/\∀b:Bool,(b=false->∀z,z∉ps->Esc ps z)->(ps.length=1->b=false)->Q (.bl b) H)
theorem Mt{ps:List Pt}{a:aE}{H:aG}{Q:aX}(ha:H a=some (.lst (ps.map cF)))(hn:ps≠[])(hl:ps.length<=100)(hb:∀x∈ps,∀y∈ps,x.1-y.1<=18/\x.2-y.2<=18)(h:∀b:Bool,(b=false->∀z,z∉ps->Esc ps z)->(ps.length=1->b=false)->Q (.bl b) H):jb [.ref a] H Q:=⟨_,rfl,⟨ps,⟨ha,hn,hl,hb⟩,h⟩⟩
theorem Dh:∀(ds:List D) (H:aG) (Q:aX),jb ds H Q->ds.length=iC.length:=by
 intro ds H Q h
 obtain⟨_,rfl,_⟩:=h
 rfl
def rR:cI:=yw (O6 (v3 0)) (vB 7) (ZD (v3 6) (v3 7) (c3 (.bl true)))
def rE:cI:=yw (O6 (JT (aq (fX (aq (c3 (.int 1)) (aq (c3 (.int 0)) aK))) (aq (fX (aq (c3 (.int 0)) (aq (c3 (.int 1)) aK))) (aq (fX (aq (u3 mL (c3 (.int 1))) (aq (c3 (.int 0)) aK))) (aq (fX (aq (c3 (.int 0)) (aq (u3 mL (c3 (.int 1))) aK))) aK)))))) (vB 9) (bV (st3 10 (fX (aq (o3 bc (o3 bD (o3 bD (v3 5) (v3 8)) (c3 (.int 0))) (o3 bD (v3 9) (c3 (.int 0)))) (aq (o3 bc (o3 bD (o3 bD (v3 5) (v3 8)) (c3 (.int 1))) (o3 bD (v3 9) (c3 (.int 1)))) aK))))
  (mC (an3 (jx (ch3 Ga Ga (v3 2) (o3 bD (v3 10) (c3 (.int 0))) (v3 1))) (an3 (jx (ch3 Ga Ga (v3 4) (o3 bD (v3 10) (c3 (.int 1))) (v3 3))) (jx (o3 (jM true) (v3 10) (v3 6))))) (bV (ZD (v3 6) (v3 10) (c3 (.bl true)))
  (Nz (m3 nZ (v3 5) (aq (v3 10) aK)))) lW))
def rY:cI:=wh3 (jx (o3 M6 (v3 8) (cR fK (aq (v3 5) aK)))) (bV rE
  (st3 8 (o3 bc (v3 8) (c3 (.int 1)))))
def tQ:cI:=(bV (st3 1 (o3 bc (cR Fq (aq (R9 (O6 (v3 0)) (vB 0) yu (o3 bD (v3 0) (c3 (.int 0))) ["_law_cell"] []) aK)) (c3 (.int 1))))
  (bV (st3 2 (o3 jf (cR Fo (aq (R9 (O6 (v3 0)) (vB 0) yu (o3 bD (v3 0) (c3 (.int 0))) ["_law_cell"] []) aK)) (c3 (.int 1))))
  (bV (st3 3 (o3 bc (cR Fq (aq (R9 (O6 (v3 0)) (vB 0) yu (o3 bD (v3 0) (c3 (.int 1))) ["_law_cell"] []) aK)) (c3 (.int 1))))
  (bV (st3 4 (o3 jf (cR Fo (aq (R9 (O6 (v3 0)) (vB 0) yu (o3 bD (v3 0) (c3 (.int 1))) ["_law_cell"] []) aK)) (c3 (.int 1))))
  (bV (st3 5 (JT (aq (fX (aq (v3 2) (aq (v3 4) aK))) aK)))
  (bV (st3 6 (dd3 (fX (aq (v3 2) (aq (v3 4) aK))) (c3 (.bl true))))
  (bV rR
  (bV (st3 8 (c3 (.int 0)))
  (bV rY
  (gR (o3 M6 (cR sH (aq (v3 6) aK)) (o3 my (o3 bc (o3 jf (v3 1) (v3 2)) (c3 (.int 1))) (o3 bc (o3 jf (v3 3) (v3 4)) (c3 (.int 1)))))))))))))))
theorem FP:∀(ds:List D) (H:aG) (Q:aX),jb ds H Q->tQ (cY Q) (aM gk ds) H:=by
 intro ds H Q h
 obtain⟨a,rfl,h⟩:=h
 obtain⟨ps,⟨ha,hn,hl,hbd⟩,h⟩:=h
 have hne1:ps.map mi≠[]:=by simpa using hn
 have hne2:ps.map nh≠[]:=by simpa using hn
 obtain⟨e1,he1,ee1⟩:=cn.mp (lM hne1)
 obtain⟨e2,he2,ee2⟩:=cn.mp (t7 hne1)
 obtain⟨e3,he3,ee3⟩:=cn.mp (lM hne2)
 obtain⟨e4,he4,ee4⟩:=cn.mp (t7 hne2)
 have b1:=(hbd e1 he1 e2 he2).1
 have b2:=(hbd e3 he3 e4 he4).2
 rw[ee1,ee2] at b1
 rw[ee3,ee4] at b2
 have b3:=nC (lM hne1)
 have b4:=nC (lM hne2)
 have cmn:∀c∈ps,(jz (ps.map mi)<=c.1/\c.1<=jA (ps.map mi))/\jz (ps.map nh)<=c.2/\c.2<=jA (ps.map nh):=fun c hc=>⟨⟨nC (cn.mpr ⟨c,hc,rfl⟩),wZ (cn.mpr ⟨c,hc,rfl⟩)⟩,nC (cn.mpr ⟨c,hc,rfl⟩),wZ (cn.mpr ⟨c,hc,rfl⟩)⟩
 have lone:∀c:Pt,ps=[c]->jz (ps.map mi)=c.1/\jA (ps.map mi)=c.1/\jz (ps.map nh)=c.2/\jA (ps.map nh)=c.2:=fun c e=>by subst e;exact⟨rfl,rfl,rfl,rfl⟩
 (simp only[tQ,aM,gk];walk_at "l3t")
 walk_at "l3"
 refine Cp.map (fun p=>D.int p.1) (fun H2 hs=>hs _ _ ha) (by omega) ?_ ?_
 ·intro i p hp R H2 hs hR
  unfold cF
  walk_at "l3"
  exact hR H2 aN.refl
 intro p1 hp1
 walk_at "l3"
 refine V1 (ns:=ps.map mi) (by rw[aF,eA];rfl) hne1 ?_
 walk_at "l3"
 refine Cp.map (fun p=>D.int p.1) (fun H2 hs=>hs _ _ (bB ha hp1)) (by omega) ?_ ?_
 ·intro i p hp R H2 hs hR
  unfold cF
  walk_at "l3"
  exact hR H2 aN.refl
 intro p2 hp2
 walk_at "l3"
 refine Wj (ns:=ps.map mi) (by rw[aF,eA];rfl) hne1 ?_
 walk_at "l3"
 refine Cp.map (fun p=>D.int p.2) (fun H2 hs=>hs _ _ (by walk_at "l3h")) (by omega) ?_ ?_
 ·intro i p hp R H2 hs hR
  unfold cF
  walk_at "l3"
  exact hR H2 aN.refl
 intro p3 hp3
 walk_at "l3"
 refine V1 (ns:=ps.map nh) (by rw[aF,eA];rfl) hne2 ?_
 walk_at "l3"
 refine Cp.map (fun p=>D.int p.2) (fun H2 hs=>hs _ _ (by walk_at "l3h")) (by omega) ?_ ?_
 ·intro i p hp R H2 hs hR
  unfold cF
  walk_at "l3"
  exact hR H2 aN.refl
 intro p4 hp4
 walk_at "l3"
 refine Wj (ns:=ps.map nh) (by rw[aF,eA];rfl) hne2 ?_
 have hs:aN H (aP (aP (aP (aP H p1 (.lst (ps.map fun p=>D.int p.1))) p2 (.lst (ps.map fun p=>D.int p.1))) p3 (.lst (ps.map fun p=>D.int p.2))) p4 (.lst (ps.map fun p=>D.int p.2))):=(((aN.fresh hp1).trans (aN.fresh hp2)).trans (aN.fresh hp3)).trans (aN.fresh hp4)
 revert hs
 generalize aP (aP (aP (aP H p1 (.lst (ps.map fun p=>D.int p.1))) p2 (.lst (ps.map fun p=>D.int p.1))) p3 (.lst (ps.map fun p=>D.int p.2))) p4 (.lst (ps.map fun p=>D.int p.2))=H0
 intro hs
 clear hp1 hp2 hp3 hp4 he1 he2 he3 he4 ee1 ee2 ee3 ee4 hbd hne1 hne2
 generalize jA (ps.map mi)=xm at *
 generalize jz (ps.map mi)=xn at *
 generalize jA (ps.map nh)=ym at *
 generalize jz (ps.map nh)=yn at *
 have enx:((xm-xn+3).toNat:Int)=xm-xn+3:=BU (by omega)
 have eny:((ym-yn+3).toNat:Int)=ym-yn+3:=BU (by omega)
 have hrim:Rim ps (xn-1) (yn-1) (xm-xn+3).toNat (ym-yn+3).toNat:=fun c hc=>by
  obtain⟨⟨c1,c2⟩,c3,c4⟩:=cmn c hc
  rw[enx,eny]
  clear enx eny b1 b2 b3 b4
  exact⟨⟨by omega,by omega⟩,by omega,by omega⟩
 have hbox:∀c∈ps,yE (xn-1) (yn-1) (xm-xn+3).toNat (ym-yn+3).toNat c:=fun c hc=>by obtain⟨⟨c1,c2⟩,c3,c4⟩:=hrim c hc;exact⟨⟨lh c1,by omega⟩,lh c3,by omega⟩
 have hws:(xn-1,yn-1)∉ps:=fun z=>by have:=hrim _ z;dsimp only at this;omega
 have hnx:(xm-xn+3).toNat<=21:=by omega
 have hny:(ym-yn+3).toNat<=21:=by omega
 have hlon:∀c:Pt,ps=[c]->xn=c.1/\(xm-xn+3).toNat=3/\yn=c.2/\(ym-yn+3).toNat=3:=fun c e=>by
  obtain⟨e1,e2,e3,e4⟩:=lone c e
  rw[e1,e2,e3,e4,lx,lx]
  exact⟨rfl,rfl,rfl,rfl⟩
 have hst:yE (xn-1) (yn-1) (xm-xn+3).toNat (ym-yn+3).toNat (xn-1,yn-1):=⟨⟨fy _,by dsimp only;rw[enx];clear enx eny;omega⟩,fy _,by dsimp only;rw[eny];clear enx eny;omega⟩
 clear b1 b2 b3 b4 cmn lone
 generalize (xm-xn+3).toNat=nx at *
 generalize (ym-yn+3).toNat=ny at *
 have harea:ny*nx<=441:=A6 hny hnx
 walk_at "l3"
 intro p5 hp5
 walk_at "l3"
 intro p6 hp6
 walk_at "l3"
 refine V0 aF ?_
 rw[kZ]
 have n6:H p6=none:=dJ (hs.trans (aN.fresh hp5)) hp6
 have n5:H p5=none:=dJ hs hp5
 have n56:p5≠p6:=ne3 aF hp6
 have hs6:aN H (aP (aP H0 p5 (.lst [.tup [.int (xn-1),.int (yn-1)]])) p6 (.dic (dN [(xn-1,yn-1)]))):=(hs.trans (aN.fresh hp5)).trans (aN.fresh hp6)
 have h5:aP (aP H0 p5 (.lst [.tup [.int (xn-1),.int (yn-1)]])) p6 (.dic (dN [(xn-1,yn-1)])) p5=some (.lst [.tup [.int (xn-1),.int (yn-1)]]):=bB aF hp6
 have h6:aP (aP H0 p5 (.lst [.tup [.int (xn-1),.int (yn-1)]])) p6 (.dic (dN [(xn-1,yn-1)])) p6=some (.dic (dN [(xn-1,yn-1)])):=aF
 revert hs6 h5 h6
 generalize aP (aP H0 p5 (.lst [.tup [.int (xn-1),.int (yn-1)]])) p6 (.dic (dN [(xn-1,yn-1)]))=H1
 intro hs6 h5 h6
 walk_at "l3"
 unfold rR
 walk_at "l3"
 refine VD (hs6 _ _ ha) ?_
 refine Lp.by (HoA H ps a p5 p6 xm xn ym yn) (.mk _ hs6 h5 h6) (fun i σ H2 _ z=>by cases z with | mk _ sb=>exact sb _ _ ha) ?_ ?_
 ·rintro i d σ H2 hd ⟨cc,hs2,k5,k6⟩
  rw[aS] at hd
  obtain⟨c,hc,rfl⟩:=b6.mp hd
  have hfl:=yS (ps.take i) [(xn-1,yn-1)]
  have htl:=List.length_take_le i ps
  rw[gE] at hfl
  have hi:=(bb.mp hc).1
  unfold cF
  walk_at "l3"
  refine Rt k6 (by rw[d2] at hfl;omega) ?_
  walk_at "l3"
  exact .mk _ (fun b o hb=>by rw[bA (ne3 hb n6)];exact hs2 b o hb) (by rw[bA n56];exact k5) (by rw[aF,ff,hc,D4];rfl)
 rintro σ H2 ⟨cc,hs2,k5,k6⟩
 rw[aw,mh] at k6
 have hkm:∀c,c∈ps.foldl jy [(xn-1,yn-1)]↔c∈ps\/c∈[(xn-1,yn-1)]:=fun c=>by rw[zr];exact Or.comm
 have hknd:(ps.foldl jy [(xn-1,yn-1)]).Nodup:=by
  have:∀(qs acc:List Pt),acc.Nodup->(qs.foldl jy acc).Nodup:=by
   intro qs
   induction qs with
   |nil=>exact fun _ z=>z
   |cons q qs ih=>
    intro acc z
    refine ih _ ?_
    unfold jy
    split
    ·exact z
    ·rename_i y
     rw[hV]
     exact⟨z,by simp,fun a ha b hb=>by rw[ay.mp hb];exact fun e=>y (e▸ha)⟩
  exact this ps _ (by simp)
 have hk1:1<=(ps.foldl jy [(xn-1,yn-1)]).length:=qS ((hkm _).mpr (.inr (ay.mpr rfl)))
 generalize ps.foldl jy [(xn-1,yn-1)]=kn0 at *
 have hbf:Bf ps (xn-1) (yn-1) nx ny [(xn-1,yn-1)] kn0 0:=⟨by simp,hknd,hkm,fun c hc=>by
  rw[ay.mp hc]
  exact⟨hst,hws,.refl⟩,hk1,ef _,fun i hi=>absurd hi (tm _)⟩
 walk_at "l3"
 unfold rY
 refine abA (HoB H ps a p5 p6 xm xn ym yn nx ny) (fun σ _=>atN (ny*nx) 8 σ) (.mk [(xn-1,yn-1)] kn0 0 _ _ _ hs2 k5 k6 hbf) ?_
 rintro σ H3 ⟨met,kn,at0,cc3,dd3,ee3,hs3,j5,j6,bf⟩
 have hkl:=bf.len hbox
 have hml:=bf.ml
 have hal:=bf.al
 walk_at "l3"
 refine qX (fun hlt=>?_) fun hlt=>?_
 ·rw[aw] at hlt
  have hlt':at0<met.length:=by omega
  have hcm:met[at0]?=some met[at0]:=dA hlt'
  have hcmm:=iA hcm
  generalize met[at0]=c at hcm hcmm
  walk_at "l3"
  unfold rE
  walk_at "l3"
  intro p7 hp7
  walk_at "l3"
  have n57:p5≠p7:=ne3 j5 hp7
  have n67:p6≠p7:=ne3 j6 hp7
  have n7:H p7=none:=dJ hs3 hp7
  refine Lp.by (HoC H ps a p5 p6 xm xn ym yn nx ny p7 c at0 cc3) (.mk met kn _ _ (hs3.trans (aN.fresh hp7)) aF (bB j5 hp7) (bB j6 hp7) bf hcm fun k hk=>absurd hk (tm _)) (fun j σ H4 _ z=>by cases z with | mk _ _ _ _ _ i7=>exact i7) ?_ ?_
  ·rintro j d σ H4 hd ⟨met2,kn2,dd4,ee4,hs4,i7,i5,i6,bf2,hc2,hkk⟩
   obtain⟨hj,rfl⟩:=Zw hd
   have hkl2:=bf2.len hbox
   have hml2:=bf2.ml
   have hcm2:c∈met2:=iA hc2
   have hat:j7 (met2.map cF) (at0:Int)=some (.tup [.int c.1,.int c.2]):=by
    have hl2:=(bb.mp hc2).1
    unfold j7 K6
    rw[aw,if_pos (by omega),if_pos (by omega),gy,aS,fe,hc2]
    rfl
   have fin:∀kn3:List Pt,(∀m∈kn2,m∈kn3)->(yE (xn-1) (yn-1) nx ny (nb c j)->nb c j∈kn3)->∀k,k<j+1->yE (xn-1) (yn-1) nx ny (nb c k)->nb c k∈kn3:=fun kn3 h1 h2 k hk hb=>by
    by_cases e:k=j
    ·subst e;exact h2 hb
    ·exact h1 _ (hkk k (by omega) hb)
   walk_at "l3"
   refine gY i5 hat ?_
   walk_at "l3"
   refine gY i5 hat ?_
   walk_at "l3"
   have enb:(c.1+(stp j).1,c.2+(stp j).2)=nb c j:=rfl
   have eIn:yE (xn-1) (yn-1) nx ny (nb c j)↔((xn-1<=c.1+(stp j).1/\c.1+(stp j).1<=xm+1)/\yn-1<=c.2+(stp j).2/\c.2+(stp j).2<=ym+1):=by
    rw[←enb]
    unfold yE
    dsimp only
    rw[enx,eny]
    exact and_congr (and_congr_right fun _=>by omega) (and_congr_right fun _=>by omega)
   have nope:¬yE (xn-1) (yn-1) nx ny (nb c j)->∀ {dd ee:Option D},HoC H ps a p5 p6 xm xn ym yn nx ny p7 c at0 cc3 (j+1) _ H4:=fun z {dd ee}=>.mk met2 kn2 dd ee hs4 i7 i5 i6 bf2 hc2 (fin kn2 (fun m hm=>hm) fun y=>absurd y z)
   refine qX (fun q1=>?_) fun q1=>?_
   rotate_left
   ·walk_at "l3"
    refine vg rfl ?_
    walk_at "l3"
    exact nope fun y=>q1 (eIn.mp y).1.1
   walk_at "l3"
   refine qX (fun q2=>?_) fun q2=>?_
   rotate_left
   ·refine vg rfl ?_
    walk_at "l3"
    exact nope fun y=>q2 (eIn.mp y).1.2
   walk_at "l3"
   refine qX (fun q3=>?_) fun q3=>?_
   rotate_left
   ·walk_at "l3"
    refine vg rfl ?_
    walk_at "l3"
    exact nope fun y=>q3 (eIn.mp y).2.1
   walk_at "l3"
   refine qX (fun q4=>?_) fun q4=>?_
   rotate_left
   ·refine vg rfl ?_
    walk_at "l3"
    exact nope fun y=>q4 (eIn.mp y).2.2
   have hin:yE (xn-1) (yn-1) nx ny (nb c j):=eIn.mpr ⟨⟨q1,q2⟩,q3,q4⟩
   walk_at "l3"
   refine Xf i6 ?_
   walk_at "l3"
   refine ifN (fun hnk=>?_) fun hnk=>?_
   ·rw[enb] at hnk
    walk_at "l3"
    refine Rt i6 (by omega) ?_
    rw[enb,show jy kn2 (nb c j)=kn2++[nb c j] from by unfold jy;exact if_neg hnk]
    walk_at "l3"
    refine Ja (ds:=met2.map cF) (by rw[bA n56];exact i5) ?_
    walk_at "l3"
    refine zL (ds:=met2.map cF) (by rw[bA n56];exact i5) (by rw[bJ,aw];omega) ?_
    walk_at "l3"
    refine .mk (met2++[nb c j]) (kn2++[nb c j]) _ _ (fun b o hb=>?_) ?_ ?_ ?_ (bf2.grow hcm2 (nb4 hj) hin hnk) ?_ (fin _ (fun m hm=>fo _ hm) fun _=>by simp)
    ·rw[bA (ne3 hb n5),bA (ne3 hb n6)];exact hs4 b o hb
    ·rw[bA (fm n57),bA (fm n67)];exact i7
    ·rw[aF,d0];rfl
    ·rw[bA (fm n56),aF]
    ·rw[eL (bb.mp hc2).1];exact hc2
   ·rw[enb] at hnk
    walk_at "l3"
    exact .mk met2 kn2 _ _ hs4 i7 i5 i6 bf2 hc2 (fin kn2 (fun m hm=>hm) fun _=>hnk)
  ·rintro σ H4 ⟨met2,kn2,dd4,ee4,hs4,i7,i5,i6,bf2,hc2,hkk⟩
   have bf3:=bf2.next hc2 fun n hn hb=>by
    obtain⟨k,hk,rfl⟩:=MP hn
    exact hkk k hk hb
   have h3l:=bf3.len hbox
   have h3a:=bf3.al
   have h3m:=bf3.ml
   walk_at "l3"
   refine⟨.mk met2 kn2 (at0+1) _ _ _ hs4 i5 i6 bf3,?_⟩
   exact Nat.sub_succ_lt_self _ _ (b9 h3a (eh h3m h3l))
 ·rw[aw] at hlt
  have hea:at0=met.length:=by omega
  subst hea
  walk_at "l3"
  refine Qq j6 ?_
  walk_at "l3"
  have e1:(xm+1-(xn-1)+1)*(ym+1-(yn-1)+1)=((ny*nx:Nat):Int):=by
   rw[Int.natCast_mul,enx,eny,D6]
   congr 1 <;> omega
  rw[e1]
  refine bF (h _ (fun hb z hz=>bf.full hbox hrim ?_ z hz) fun h1=>?_) hs3
  ·have:=of_decide_eq_false hb
   unfold dN at this
   rw[aw] at this
   omega
  ·obtain⟨c,rfl⟩:=List.length_eq_one_iff.mp h1
   obtain⟨o1,o2,o3,o4⟩:=hlon c rfl
   subst o1 o2 o3 o4
   have:=bf.lone
   refine decide_eq_false ?_
   unfold dN
   rw[aw]
   omega
def dD:mU:=fun ds H Q=>∃w0_,ds=[.int w0_]/\(∀ls:List Lt,0<ls.length->ls.length<=26->Q (.str (aY ls)) H)
theorem xY{c:Int}{H:aG}{Q:aX}(h:∀ls:List Lt,0<ls.length->ls.length<=26->Q (.str (aY ls)) H):dD [.int c] H Q:=⟨_,rfl,h⟩
theorem aas(l:Lt)(n:Nat):Bb (qz l) n=aY (fF n l):=by
 unfold Bb aY
 congr 1
 show (fF n [cp l]).flatten.toArray=_
 rw[C0]
 congr 1
 induction n with
 |zero=>rfl
 |succ n ih=>rw[oC,qv,ih,oC];rfl
theorem aaJ(a b:List Lt):aY a++aY b=aY (a++b):=by
 show (⟨(a.map cp).toArray++(b.map cp).toArray⟩:Str)=⟨_⟩
 congr 1;simp
theorem oH{a b:List Lt}{H:aG}{Q:aX}(hl:a.length+b.length<=1000)(q:Q (.str (aY (a++b))) H):bc (.str (aY a)) (.str (aY b)) H Q:=by
 refine wL (by rw[gJ,gJ,bJ];omega) ?_
 rw[aaJ];exact q
theorem An(l:Lt){n:Int}{H:aG}{Q:aX}(h0:0<=n)(h1:n<=1000)(q:Q (.str (aY (fF n.toNat l))) H):qp (.str (qz l)) (.int n) H Q:=by
 refine Zh h0 h1 (by show 1<=1000;decide) ?_
 rw[aas];exact q
theorem uL:∀(ds:List D) (H:aG) (Q:aX),dD ds H Q->ds.length=di.length:=by
 intro ds H Q h
 obtain⟨_,rfl,_⟩:=h
 rfl
def jX:cI:=(bV (st3 1 (o3 bc (c3 (.int 1)) (o3 cP (v3 0) (c3 (.int 7)))))
  (bV (st3 2 (o3 bc (c3 (.int 1)) (o3 cP (o3 gj (v3 0) (c3 (.int 7))) (c3 (.int 6)))))
  (gR (o3 bc (o3 bc (o3 bc (o3 qp (c3 (.str "e")) (v3 1)) (o3 qp (c3 (.str "n")) (v3 2))) (o3 qp (c3 (.str "w")) (v3 1))) (o3 qp (c3 (.str "s")) (v3 2))))))
theorem wG:∀(ds:List D) (H:aG) (Q:aX),dD ds H Q->jX (cY Q) (aM jY ds) H:=by
 intro ds H Q h
 obtain⟨c,rfl,h⟩:=h
 have w0:=gX c (b:=7) (by omega)
 have w1:=gi c (b:=7) (by omega)
 have v0:=gX (c / 7) (b:=6) (by omega)
 have v1:=gi (c / 7) (b:=6) (by omega)
 (simp only[jX,aM,jY];walk_at "l3t")
 walk_at "l3"
 generalize c%7=w at w0 w1
 generalize c / 7%6=v at v0 v1
 refine An 0 (by omega) (by omega) ?_
 walk_at "l3"
 refine An 1 (by omega) (by omega) ?_
 walk_at "l3"
 refine oH (by rw[eM,eM];omega) ?_
 walk_at "l3"
 refine An 2 (by omega) (by omega) ?_
 walk_at "l3"
 refine oH (by rw[bo,eM,eM,eM];omega) ?_
 walk_at "l3"
 refine An 3 (by omega) (by omega) ?_
 walk_at "l3"
 refine oH (by rw[bo,bo,eM,eM,eM,eM];omega) ?_
 exact bF (h _ (by simp only[bo,eM];omega) (by simp only[bo,eM];omega)) aN.refl
def xNm(j:Nat):Str:=match j with
 |0 => "NoWord"
 |1 => "Open"
 |2 => "Crossed"
 |3 => "Backward"
 |_ => "TooMany"
def ju:mU:=fun ds H Q=>∃a,ds=[.ref a]/\(∃(j:Nat) (fs:List (Str×D)),(j<5/\H a=some (.exc (xNm j) fs))/\Q (.bl true) H)
theorem lF(j:Nat){fs:List (Str×D)}{a:aE}{H:aG}{Q:aX}(hj:j<5)(ha:H a=some (.exc (xNm j) fs))(h:Q (.bl true) H):ju [.ref a] H Q:=⟨_,rfl,⟨j,fs,⟨hj,ha⟩,h⟩⟩
theorem Du:∀(ds:List D) (H:aG) (Q:aX),ju ds H Q->ds.length=iH.length:=by
 intro ds H Q h
 obtain⟨_,rfl,_⟩:=h
 rfl
def sY:cI:=(bV (st3 1 (o3 bc (o3 bc (cR ie (aq (jk [("NoWord",true),("Open",false),("Crossed",false),("Backward",false),("TooMany",false)] (v3 0)) aK)) (cR ie (aq (jk [("NoWord",false),("Open",true),("Crossed",false),("Backward",false),("TooMany",false)] (v3 0)) aK))) (cR ie (aq (jk [("NoWord",false),("Open",false),("Crossed",true),("Backward",false),("TooMany",false)] (v3 0)) aK))))
  (bV (st3 1 (o3 bc (o3 bc (o3 bc (v3 1) (cR ie (aq (jk [("NoWord",false),("Open",false),("Crossed",false),("Backward",true),("TooMany",false)] (v3 0)) aK))) (cR ie (aq (jk [("NoWord",false),("Open",false),("Crossed",false),("Backward",false),("TooMany",true)] (v3 0)) aK))) (cR ie (aq (jk [("NoWord",false),("Open",false),("Crossed",false),("Backward",false),("TooMany",false)] (v3 0)) aK))))
  (bV (st3 1 (o3 bc (o3 bc (o3 bc (v3 1) (cR ie (aq (jk [("NoWord",false),("Open",false),("Crossed",false),("Backward",false),("TooMany",false)] (v3 0)) aK))) (cR ie (aq (jk [("NoWord",false),("Open",false),("Crossed",false),("Backward",false),("TooMany",false)] (v3 0)) aK))) (cR ie (aq (jk [("NoWord",false),("Open",false),("Crossed",false),("Backward",false),("TooMany",false)] (v3 0)) aK))))
  (bV (st3 1 (o3 bc (o3 bc (o3 bc (v3 1) (cR ie (aq (jk [("NoWord",false),("Open",false),("Crossed",false),("Backward",false),("TooMany",false)] (v3 0)) aK))) (cR ie (aq (jk [("NoWord",false),("Open",false),("Crossed",false),("Backward",false),("TooMany",false)] (v3 0)) aK))) (cR ie (aq (jk [("NoWord",false),("Open",false),("Crossed",false),("Backward",false),("TooMany",false)] (v3 0)) aK))))
  (bV (st3 1 (o3 bc (o3 bc (v3 1) (cR ie (aq (jk [("NoWord",false),("Open",false),("Crossed",false),("Backward",false),("TooMany",false)] (v3 0)) aK))) (cR ie (aq (jk [("NoWord",false),("Open",false),("Crossed",false),("Backward",false),("TooMany",false)] (v3 0)) aK))))
  (gR (av3 (o3 eO (v3 1) (c3 (.int 1))) (jk [("NoWord",true),("Open",true),("Crossed",true),("Backward",true),("TooMany",true)] (v3 0)))))))))
theorem FZ:∀(ds:List D) (H:aG) (Q:aX),ju ds H Q->sY (cY Q) (aM tY ds) H:=by
 intro ds H Q h
 obtain⟨a,rfl,h⟩:=h
 obtain⟨j,fs,⟨hj,ha⟩,h⟩:=h
 have hj4:j=0\/j=1\/j=2\/j=3\/j=4:=by omega
 (simp only[sY,aM,tY];walk_at "l3t")
 rcases hj4 with rfl | rfl | rfl | rfl | rfl
 all_goals
  unfold xNm at ha
  walk_at "l3"
  refine Iv (by decide) ?_
  walk_at "l3"
  exact bF h aN.refl
def cj:mU:=fun ds H Q=>∃x y z,ds=[.tup [.int x,.int y],.str z]/\(∃ls:List Lt,(z=aY ls/\ls.length<=500)/\∀p,H p=none->Q (.ref p) (aP H p (.lst ((path (x,y) ls).map cF))))
theorem il{x y:Int}(ls:List Lt){H:aG}{Q:aX}(hl:ls.length<=500)(h:∀p,H p=none->Q (.ref p) (aP H p (.lst ((path (x,y) ls).map cF)))):cj [.tup [.int x,.int y],.str (aY ls)] H Q:=⟨_,_,_,rfl,⟨ls,⟨rfl,hl⟩,h⟩⟩
theorem Qd(l:Lt):pG.lookup (qz l)=some (.ktup [.int (step l).1,.int (step l).2]):=by
 revert l;intro l;match l with
 |0=>rfl
 |1=>rfl
 |2=>rfl
 |3=>rfl
theorem vI:∀(ds:List D) (H:aG) (Q:aX),cj ds H Q->ds.length=dO.length:=by
 intro ds H Q h
 obtain⟨_,_,_,rfl,_⟩:=h
 rfl
def mJ:cI:=yw (iz3 (v3 1)) (vB 3) (Nz (m3 nZ (v3 2) (aq (cR mX (aq (o3 bD (v3 2) (u3 mL (c3 (.int 1)))) (aq (kd3 pG (v3 3)) aK))) aK)))
def mz:cI:=(bV (st3 2 (JT (aq (v3 0) aK)))
  (bV mJ
  (gR (v3 2))))
theorem yl:∀(ds:List D) (H:aG) (Q:aX),cj ds H Q->mz (cY Q) (aM mj ds) H:=by
 intro ds H Q h
 obtain⟨x,y,z,rfl,h⟩:=h
 obtain⟨ls,⟨rfl,hl⟩,h⟩:=h
 (simp only[mz,aM,mj];walk_at "l3t")
 walk_at "l3"
 intro p hp
 walk_at "l3"
 unfold mJ
 walk_at "l3"
 rw[ni]
 refine Lp.by (fun i σ H2=>H2=aP H p (.lst ((path (x,y) (ls.take i)).map cF))/\∃c,σ=[some (.tup [.int x,.int y]),some (.str (aY ls)),some (.ref p),c]) ⟨by rw[Bn];rfl,_,rfl⟩ (fun _ _ _ _ _=>trivial) ?_ ?_
 ·rintro i d σ H2 hd ⟨rfl,c,rfl⟩
  rw[aS,b6] at hd
  obtain⟨l,hl2,rfl⟩:=hd
  walk_at "l3"
  refine gY aF (o7 _ _) ?_
  walk_at "l3"
  refine aaf (Qd l) ?_
  walk_at "l3"
  refine zL aF (pY (by rw[aw,fW,d2];omega)) ?_
  rw[kZ]
  walk_at "l3"
  have ht:ls.take (i+1)=ls.take i++[l]:=by rw[ff,hl2];rfl
  refine⟨?_,_,rfl⟩
  rw[ht,zm,d0]
  rfl
 ·rintro σ H2 ⟨rfl,c,rfl⟩
  rw[aw,ez (aT _)]
  walk_at "l3"
  exact bF (h p hp) aN.refl
def lN:mU:=fun ds H Q=>∃x y z,ds=[.tup [.int x,.int y],.str z]/\(∃ls:List Lt,(z=aY ls/\ls.length<=500)/\∀p,H p=none->Q (.ref p) (aP H p (.lst ((path (x,y) ls).map cF))))
theorem PL{x y:Int}(ls:List Lt){H:aG}{Q:aX}(hl:ls.length<=500)(h:∀p,H p=none->Q (.ref p) (aP H p (.lst ((path (x,y) ls).map cF)))):lN [.tup [.int x,.int y],.str (aY ls)] H Q:=⟨_,_,_,rfl,⟨ls,⟨rfl,hl⟩,h⟩⟩
theorem Gn:∀(ds:List D) (H:aG) (Q:aX),lN ds H Q->ds.length=lD.length:=by
 intro ds H Q h
 obtain⟨_,_,_,rfl,_⟩:=h
 rfl
def uy:cI:=yw (iz3 (v3 1)) (vB 3) (bV (st3 4 (cR fu (aq (v3 3) aK)))
  (Nz (m3 nZ (v3 2) (aq (fX (aq (o3 bc (o3 bD (o3 bD (v3 2) (u3 mL (c3 (.int 1)))) (c3 (.int 0))) (o3 bD (v3 4) (c3 (.int 0)))) (aq (o3 bc (o3 bD (o3 bD (v3 2) (u3 mL (c3 (.int 1)))) (c3 (.int 1))) (o3 bD (v3 4) (c3 (.int 1)))) aK))) aK))))
def xq:cI:=(bV (st3 2 (JT (aq (v3 0) aK)))
  (bV uy
  (gR (v3 2))))
theorem KC:∀(ds:List D) (H:aG) (Q:aX),lN ds H Q->xq (cY Q) (aM wg ds) H:=by
 intro ds H Q h
 obtain⟨x,y,z,rfl,h⟩:=h
 obtain⟨ls,⟨rfl,hl⟩,h⟩:=h
 (simp only[xq,aM,wg];walk_at "l3t")
 walk_at "l3"
 intro p hp
 walk_at "l3"
 unfold uy
 walk_at "l3"
 rw[ni]
 refine Lp.by (fun i σ H2=>H2=aP H p (.lst ((path (x,y) (ls.take i)).map cF))/\∃c d,σ=[some (.tup [.int x,.int y]),some (.str (aY ls)),some (.ref p),c,d]) ⟨by rw[Bn];rfl,_,_,rfl⟩ (fun _ _ _ _ _=>trivial) ?_ ?_
 ·rintro i d σ H2 hd ⟨rfl,c,e,rfl⟩
  rw[aS,b6] at hd
  obtain⟨l,hl2,rfl⟩:=hd
  walk_at "l3"
  refine rB l ?_
  walk_at "l3"
  refine gY aF (o7 _ _) ?_
  walk_at "l3"
  refine gY aF (o7 _ _) ?_
  walk_at "l3"
  refine zL aF (pY (by rw[aw,fW,d2];omega)) ?_
  rw[kZ]
  walk_at "l3"
  have ht:ls.take (i+1)=ls.take i++[l]:=by rw[ff,hl2];rfl
  refine⟨?_,_,_,rfl⟩
  rw[ht,zm,d0]
  rfl
 ·rintro σ H2 ⟨rfl,c,e,rfl⟩
  rw[aw,ez (aT _)]
  walk_at "l3"
  exact bF (h p hp) aN.refl
def iw:mU:=fun ds H Q=>∃xs a n,ds=[.fl xs,.int a,.int n]/\((match intsOf xs with
  |some ns=>(0<=a/\a<1000/\0<=n/\n<=200/\ns.length<=63)/\∀ls:List Lt,(ls.length:Int)=n->Q (.str (aY ls)) H
  |none=>False))
theorem CN{ns:List Int}{a n:Int}{H:aG}{Q:aX}(h0:0<=a)(h1:a<1000)(h2:0<=n)(h3:n<=200)(hl:ns.length<=63)(h:∀ls:List Lt,(ls.length:Int)=n->Q (.str (aY ls)) H):iw [.fl (ns.map D.int),.int a,.int n] H Q:=by
 refine⟨_,_,_,rfl,?_⟩
 simp only[eN];exact⟨⟨h0,h1,h2,h3,hl⟩,h⟩
def zX(c:Int):Lt:=match (c%4).toNat with
 |0=>0
 |1=>1
 |2=>2
 |_=>3
theorem TJ(c:Int):j7 (eS "enws").cps.toList (c%4)=some (cp (zX c)):=by
 have:c%4=0\/c%4=1\/c%4=2\/c%4=3:=by omega
 unfold zX
 rcases this with e | e | e | e <;> rw[e] <;> rfl
theorem GK:∀(ds:List D) (H:aG) (Q:aX),iw ds H Q->ds.length=lK.length:=by
 intro ds H Q h
 obtain⟨_,_,_,rfl,_⟩:=h
 rfl
def wM:cI:=(gR (mz3 wU (c3 (.str "")) (aq (R9 (V9 (v3 2)) (vB 0) yu (o3 bD (c3 (.str "enws")) (o3 cP (cR bz (aq (v3 1) (aq (o3 bc (v3 2) (v3 0)) aK))) (c3 (.int 4)))) ["_law_k"] [(0, "_law_script"),(1, "_law_at")]) aK)))
theorem LQ:∀(ds:List D) (H:aG) (Q:aX),iw ds H Q->wM (cY Q) (aM qQ ds) H:=by
 intro ds H Q h
 obtain⟨xs,a,n,rfl,h⟩:=h
 split at h
 case h_2=>exact h.elim
 rename_i ns e
 have e':=dG e
 subst e'
 obtain⟨⟨h0,h1,h2,h3,hns⟩,h⟩:=h
 obtain⟨m,rfl⟩:=gL h2
 (simp only[wM,aM,qQ];walk_at "l3t")
 walk_at "l3"
 rw[fe]
 refine Cp.pN (fun k=>.str (qz (zX (cat ns (a+(k:Int)).toNat)))) (by omega) ?_ ?_
 ·intro k hk R H2 hs hR
  rw[mv]
  walk_at "l3"
  refine Jr (by rw[bJ];decide) (TJ _) ?_
  exact hR H2 aN.refl
 intro p hp
 walk_at "l3"
 have ej:uA (eS "") ((dc m).map fun k:Nat=>qz (zX (cat ns (a+(k:Int)).toNat)))=aY ((dc m).map fun k:Nat=>zX (cat ns (a+(k:Int)).toNat)):=by
  have:=Hg (z:=eS "") rfl (((dc m).map fun k:Nat=>zX (cat ns (a+(k:Int)).toNat)).map cp)
  rw[eA,eA] at this
  exact this
 refine WY (ys:=(dc m).map fun k:Nat=>qz (zX (cat ns (a+(k:Int)).toNat))) (by rw[aF,eA];rfl) ?_ ?_
 ·rw[eA,aw,fT]
  have:((dc m).map ((fun y:Str=>y.cps.size)∘fun k:Nat=>qz (zX (cat ns (a+(k:Int)).toNat)))).sum=m:=by
   rw[show ((fun y:Str=>y.cps.size)∘fun k:Nat=>qz (zX (cat ns (a+(k:Int)).toNat)))=fun _=>1 from rfl,List.map_const',zt,fT];omega
  rw[this]
  have:(eS "").cps.size=0:=rfl
  rw[this]
  omega
 rw[ej]
 exact bF (h _ (by rw[aw,fT])) (aN.fresh hp)
inductive Gw:List Pt->Prop
 |one:Gw [(0,0)]
 |add {ps:List Pt} {c d:Pt}:Gw ps->c∉ps->d∈ps->c∈du d->Gw (ps++[c])
section
variable{ps:List Pt}
theorem Gw.z(g:Gw ps):(0,0)∈ps:=by
 induction g with
 |one=>simp
 |add _ _ _ _ ih=>exact fo _ ih
theorem Gw.bnd(g:Gw ps):∀c∈ps,(-(ps.length:Int)<c.1/\c.1<ps.length)/\-(ps.length:Int)<c.2/\c.2<ps.length:=by
 induction g with
 |one=>intro c hc;rw[ay.mp hc];simp
 |@add ps e d _ _ hd ha ih=>
  intro c hc
  rw[bo,gE]
  rcases dE.mp hc with hc | hc
  ·have:=ih c hc;omega
  ·rw[ay.mp hc]
   have:=ih d hd
   rw[pU] at ha
   omega
theorem Gw.con(g:Gw ps):∀c∈ps,mF ps (0,0) c:=by
 induction g with
 |one=>intro c hc;rw[ay.mp hc];exact .refl
 |@add ps e d _ _ hd ha ih=>
  intro c hc
  rcases dE.mp hc with hc | hc
  ·exact (ih c hc).mono fun x hx=>fo _ hx
  ·rw[ay.mp hc]
   exact .step ((ih d hd).mono fun x hx=>fo _ hx) ha (by simp)
theorem Gw.aco(g:Gw ps):∀a∈ps,∀b∈ps,mF ps a b:=fun a ha b hb=>((g.con a ha).symm g.z).trans (g.con b hb)
theorem Gw.pop{c:Pt}(g:Gw (ps++[c]))(h:ps≠[]):Gw ps:=by
 generalize e:ps++[c]=qs at g
 cases g with
 |one=>
  have:=congrArg AZ e
  rw[bo,gE,gE] at this
  exact absurd (sD (by omega)) h
 |add g _ _ _=>rw[(List.append_inj' e rfl).1];exact g
end
def Y6(c:Int):Lt:=match (c%4).toNat with
 |0=>0
 |1=>1
 |2=>2
 |_=>3
theorem Tz(c:Int):j7 (eS "enws").cps.toList (c%4)=some (cp (Y6 c)):=by
 have:c%4=0\/c%4=1\/c%4=2\/c%4=3:=by omega
 unfold Y6
 rcases this with e | e | e | e <;> rw[e] <;> rfl
theorem aaM(l:Lt)(x y:Int):(x+(step l).1,y+(step l).2)∈du (x,y):=by
 rw[pU]
 match l with
 |0=>exact .inl ⟨rfl,fz _⟩
 |1=>exact .inr (.inl ⟨fz _,rfl⟩)
 |2=>exact .inr (.inr (.inl ⟨rfl,fz _⟩))
 |3=>exact .inr (.inr (.inr ⟨fz _,rfl⟩))
def abH(H:aG)(a:aE):Nat:=match H a with
 |some (.lst l)=>l.length
 |_=>0
def jj:mU:=fun ds H Q=>∃xs at0 many,ds=[.fl xs,.int at0,.int many]/\(∃ns:List Int,(xs=ns.map D.int/\ns.length<=63/\(0<=at0/\at0<=500)/\1<=many/\many<=10)/\∀ps p,H p=none->Gw ps->ps.length<=10->Sc ps->Q (.ref p) (aP H p (.lst (ps.map cF))))
theorem Mz{ns:List Int}{at0 many:Int}{H:aG}{Q:aX}(hl:ns.length<=63)(h1:0<=at0/\at0<=500)(h2:1<=many/\many<=10)(h:∀ps p,H p=none->Gw ps->ps.length<=10->Sc ps->Q (.ref p) (aP H p (.lst (ps.map cF)))):jj [.fl (ns.map D.int),.int at0,.int many] H Q:=⟨_,_,_,rfl,⟨ns,⟨rfl,hl,h1,h2⟩,h⟩⟩
theorem Ft:∀(ds:List D) (H:aG) (Q:aX),jj ds H Q->ds.length=iz.length:=by
 intro ds H Q h
 obtain⟨_,_,_,rfl,_⟩:=h
 rfl
def rN:cI:=yw (V9 (c3 (.int 4))) (vB 8) (bV (st3 9 (cR fu (aq (o3 bD (c3 (.str "enws")) (o3 cP (o3 bc (o3 gj (v3 5) (c3 (.int 60))) (v3 8)) (c3 (.int 4)))) aK)))
  (bV (st3 10 (fX (aq (o3 bc (v3 6) (o3 bD (v3 9) (c3 (.int 0)))) (aq (o3 bc (v3 7) (o3 bD (v3 9) (c3 (.int 1)))) aK))))
  (mC (jx (o3 (jM true) (v3 10) (v3 3))) (bV (Nz (m3 nZ (v3 3) (aq (v3 10) aK)))
  br3) lW)))
def rM:cI:=yw (V9 (o3 jf (v3 2) (c3 (.int 1)))) (vB 4) (bV (st3 5 (cR bz (aq (v3 0) (aq (o3 bc (v3 1) (v3 4)) aK))))
  (bV (as3 (o3 bD (v3 3) (o3 cP (v3 5) (cR fK (aq (v3 3) aK)))) (tO 6 7))
  rN))
def rO:cI:=wh3 (jx (cR jb (aq (v3 3) aK))) (Nz (m3 Dl (v3 3) aK))
def tV:cI:=(bV (st3 3 (JT (aq (fX (aq (c3 (.int 0)) (aq (c3 (.int 0)) aK))) aK)))
  (bV rM
  (bV rO
  (gR (v3 3)))))
theorem Fy:∀(ds:List D) (H:aG) (Q:aX),jj ds H Q->tV (cY Q) (aM sJ ds) H:=by
 intro ds H Q h
 obtain⟨xs,at0,many,rfl,h⟩:=h
 obtain⟨ns,⟨rfl,hl,⟨a0,a1⟩,m0,m1⟩,h⟩:=h
 (simp only[tV,aM,sJ];walk_at "l3t")
 walk_at "l3"
 intro p hp
 walk_at "l3"
 unfold rM
 walk_at "l3"
 refine Lp.pN (fun i σ H2=>aN H H2/\∃ps:List Pt,(H2 p=some (.lst (ps.map cF))/\Gw ps/\ps.length<=i+1)/\∃k c x y t s n,σ=[some (.fl (ns.map D.int)),some (.int at0),some (.int many),some (.ref p),k,c,x,y,t,s,n]) ⟨aN.fresh hp,[(0,0)],⟨aF,.one,aT _⟩,_,_,_,_,_,_,_,rfl⟩ ?_ ?_
 ·rintro i σ H2 hi ⟨hs,ps,⟨hH,g,hgl⟩,k,c,x,y,t,s,n,rfl⟩
  have hpos:0<ps.length:=qS g.z
  have hl0:(0:Int)<((ps.map cF).length:Int):=by rw[aw];omega
  walk_at "l3"
  rw[mv]
  generalize cat ns (at0+(i:Int)).toNat=cc
  rw[aw] at *
  have n0:0<=cc%(ps.length:Int):=gX _ (by omega)
  have n1:(cc%(ps.length:Int)).toNat<ps.length:=by have:=gi cc hl0;omega
  refine gY hH (Ak n0 n1) ?_
  have hqm:=rp n1
  generalize ps[(cc%(ps.length:Int)).toNat]=q at hqm
  obtain⟨qx,qy⟩:=q
  unfold cF
  walk_at "l3"
  unfold rN
  walk_at "l3"
  refine Lp.pN (fun j σ H3=>H3=H2/\∃t s n,σ=[some (.fl (ns.map D.int)),some (.int at0),some (.int many),some (.ref p),some (.int (i:Int)),some (.int cc),some (.int qx),some (.int qy),t,s,n]) ⟨rfl,_,_,_,by first | rfl | (rw[mv])⟩ ?_ ?_
  ·rintro j σ H3 hj ⟨rfl,t,s,n,rfl⟩
   walk_at "l3"
   refine Jr (by rw[bJ];decide) (Tz _) ?_
   generalize Y6 _=l
   walk_at "l3"
   refine rB l ?_
   walk_at "l3"
   refine N5 (ps:=ps) (Bs hH) ?_
   walk_at "l3"
   refine ifN (fun hnin=>?_) fun _=>?_
   ·walk_at "l3"
    refine zL hH (pY (by rw[aw];omega)) ?_
    walk_at "l3"
    refine⟨fun b o hb=>?_,ps++[(qx+(step l).1,qy+(step l).2)],⟨?_,g.add hnin hqm (aaM l qx qy),by simp;omega⟩,_,_,_,_,_,_,_,rfl⟩
    ·rw[bA (ne3 hb hp)];exact hs b o hb
    ·rw[aF,d0];rfl
   ·walk_at "l3"
    exact⟨rfl,_,_,_,rfl⟩
  ·rintro σ H3 ⟨rfl,t,s,n,rfl⟩
   walk_at "l3"
   exact⟨hs,ps,⟨hH,g,by omega⟩,_,_,_,_,_,_,_,rfl⟩
 ·rintro σ H2 ⟨hs,ps,⟨hH,g,hgl⟩,k,c,x,y,t,s,n,rfl⟩
  have hpl:ps.length<=10:=by omega
  walk_at "l3"
  unfold rO
  refine abA (fun σ H3=>aN H H3/\∃qs:List Pt,(H3 p=some (.lst (qs.map cF))/\Gw qs/\qs.length<=10)/\σ=[some (.fl (ns.map D.int)),some (.int at0),some (.int many),some (.ref p),k,c,x,y,t,s,n]) (fun _ H3=>abH H3 p) ⟨hs,ps,⟨hH,g,hpl⟩,rfl⟩ ?_
  rintro σ H3 ⟨hs3,qs,⟨hq,g3,hl3⟩,rfl⟩
  have hb3:=g3.bnd
  walk_at "l3"
  refine Mt hq (vv g3.z) (by omega) (fun x hx y hy=>by have:=hb3 x hx;have:=hb3 y hy;omega) fun b hb0 hb1=>?_
  walk_at "l3"
  refine ifB (fun hb=>?_) fun hb=>?_
  ·have h2:qs.length≠1:=fun z=>by rw[hb1 z] at hb;cases hb
   have hqn:qs≠[]:=vv g3.z
   obtain⟨rs,e,rfl⟩:∃rs e,qs=rs++[e]:=⟨qs.dropLast,qs.getLast hqn,(List.dropLast_concat_getLast hqn).symm⟩
   have hrn:rs≠[]:=fun z=>h2 (by rw[z];rfl)
   walk_at "l3"
   refine abF hq (y:=cF e) (by simp) ?_
   rw[show ((rs++[e]).map cF).dropLast=rs.map cF by simp]
   walk_at "l3"
   refine⟨⟨fun b o hb=>?_,rs,⟨aF,g3.pop hrn,by simp at hl3;omega⟩,rfl⟩,?_⟩
   ·rw[bA (ne3 hb hp)];exact hs3 b o hb
   ·unfold abH
    rw[aF,hq]
    simp
  ·walk_at "l3"
   exact bF (h qs p hp g3 hl3 ⟨g3.aco,hb0 hb⟩) (Tf hs3 hq)
def sdT(c:Pt)(d:Nat):D:=.tup [.str (qz (ltN d)),cF (yO c d),cF (BX c d)]
structure Lw(S:List Pt)(i k:Nat)(kvs:List (Pt×D)):Prop where
 has:∀(j d:Nat) (c:Pt),S[j]?=some c->d<4->(j<i\/(j=i/\d<k))->BX c d∉S->yO c d∈kvs.map (·.1)
 look:∀q∈kvs.map (·.1),∃d,qY S q d/\iY kvs q=some (.str (qz (ltN d)))
 len:kvs.length<=4*i+k
section
variable{S:List Pt}{i k:Nat}{kvs:List (Pt×D)}{c:Pt}
theorem Lw.nil:Lw S 0 0 []:=⟨fun j d c _ _ h=>by omega,by simp,by simp⟩
theorem Lw.skip(h:Lw S i k kvs)(hc:S[i]?=some c)(hin:BX c k∈S):Lw S i (k+1) kvs :=
 ⟨fun j d c' hj hd hjk ho=>by
  by_cases e:j=i/\d=k
  ·obtain⟨rfl,rfl⟩:=e
   rw[hc] at hj;cases hj
   exact absurd hin ho
  ·exact h.has j d c' hj hd (hjk.imp_right fun ⟨a,b⟩=>⟨a,vn (AF.mp b) fun z=>e ⟨a,z⟩⟩) ho,h.look,D5 h.len⟩
theorem Lw.put(h:Lw S i k kvs)(hc:S[i]?=some c)(hk:k<4)(hin:BX c k∉S):Lw S i (k+1) (yr kvs (yO c k) (.str (qz (ltN k)))):=by
 have ed:qY S (yO c k) k:=⟨hk,by rw[Ti hk];exact iA hc,by rw[S8 hk];exact hin⟩
 refine⟨fun j d c' hj hd hjk ho=>?_,fun q hq=>?_,?_⟩
 ·by_cases e:j=i/\d=k
  ·obtain⟨rfl,rfl⟩:=e
   rw[hc] at hj;cases hj
   exact v7.mpr (.inr rfl)
  ·exact v7.mpr (.inl (h.has j d c' hj hd (hjk.imp_right fun ⟨a,b⟩=>⟨a,vn (AF.mp b) fun z=>e ⟨a,z⟩⟩) ho))
 ·rw[K4]
  by_cases e:q=yO c k
  ·subst e;rw[if_pos rfl];exact⟨k,ed,rfl⟩
  ·rw[if_neg e]
   exact h.look q ((v7.mp hq).resolve_right e)
 ·have hl:=h.len
  unfold yr
  split
  ·rw[aw];omega
  ·rw[bo,gE];omega
theorem Lw.next(h:Lw S i 4 kvs):Lw S (i+1) 0 kvs :=
 ⟨fun j d c hj hd hjk ho=>h.has j d c hj hd (by omega) ho,h.look,by have:=h.len;omega⟩
theorem Lw.in(h:Lw S S.length 0 kvs){q:Pt}(hq:xQ S q):q∈kvs.map (·.1):=by
 obtain⟨d,e⟩:=hq
 obtain⟨j,hj⟩:=AS.mp e.l
 have:=h.has j d _ hj e.lt (.inl (bb.mp hj).1) (by rw[←S8 e.lt,←Jh e.lt];exact e.r)
 rw[←Jh e.lt] at this
 exact this
end
section
variable(H:aG)(S:List Pt)(p:aE)
inductive RoA(i:Nat):cz->aG->Prop
 |mk {H2:aG} (kvs:List (Pt×D)) (x y z u v:Option D) (sb:aN H H2) (hb:Lw S i 0 kvs) (hH:H2 p=some (.dic (mR kvs))):RoA i [some (.tup (S.map cF)),some (.ref p),x,y,z,u,v,none,none,none] H2
inductive RoB(i:Nat)(c:Pt)(p2:aE)(k:Nat):cz->aG->Prop
 |mk {H3:aG} (kvs:List (Pt×D)) (z u v:Option D) (sb:aN H H3) (h2:H3 p2=some (.lst ((dc 4).map (sdT c)))) (hb:Lw S i k kvs) (hH:H3 p=some (.dic (mR kvs))):RoB i c p2 k [some (.tup (S.map cF)),some (.ref p),some (.int c.1),some (.int c.2),z,u,v,none,none,none] H3
inductive RoC(kvs:List (Pt×D))(x y z:Option D)(i:Nat):cz->aG->Prop
 |mk {H3:aG} (q:Pt) (w:List Lt) (v k s:Option D) (sb:aN H H3) (hq:xQ S q) (hw:w.length=i) (hH:H3 p=some (.dic (mR kvs))):RoC kvs x y z i [some (.tup (S.map cF)),some (.ref p),x,y,z,some (.tup [.int q.1,.int q.2]),v,some (.str (aY w)),k,s] H3
end
def jr:mU:=fun ds H Q=>∃xs,ds=[.tup xs]/\(∃S s0,(xs=S.map cF/\S[0]?=some s0/\S.length<=10/\xQ S s0)/\∀ls:List Lt,0<ls.length->ls.length<=40->Q (.str (aY ls)) H)
theorem K1{S:List Pt}{s0:Pt}{H:aG}{Q:aX}(h0:S[0]?=some s0)(hl:S.length<=10)(hcr:xQ S s0)(h:∀ls:List Lt,0<ls.length->ls.length<=40->Q (.str (aY ls)) H):jr [.tup (S.map cF)] H Q:=⟨_,rfl,⟨S,s0,⟨rfl,h0,hl,hcr⟩,h⟩⟩
theorem DN:∀(ds:List D) (H:aG) (Q:aX),jr ds H Q->ds.length=iI.length:=by
 intro ds H Q h
 obtain⟨_,rfl,_⟩:=h
 rfl
def qZ:cI:=yw (O6 (JT (aq (fX (aq (c3 (.str "e")) (aq (fX (aq (v3 2) (aq (v3 3) aK))) (aq (fX (aq (v3 2) (aq (o3 jf (v3 3) (c3 (.int 1))) aK))) aK)))) (aq (fX (aq (c3 (.str "n")) (aq (fX (aq (o3 bc (v3 2) (c3 (.int 1))) (aq (v3 3) aK))) (aq (fX (aq (o3 bc (v3 2) (c3 (.int 1))) (aq (v3 3) aK))) aK)))) (aq (fX (aq (c3 (.str "w")) (aq (fX (aq (o3 bc (v3 2) (c3 (.int 1))) (aq (o3 bc (v3 3) (c3 (.int 1))) aK))) (aq (fX (aq (v3 2) (aq (o3 bc (v3 3) (c3 (.int 1))) aK))) aK)))) (aq (fX (aq (c3 (.str "s")) (aq (fX (aq (v3 2) (aq (o3 bc (v3 3) (c3 (.int 1))) aK))) (aq (fX (aq (o3 jf (v3 2) (c3 (.int 1))) (aq (v3 3) aK))) aK)))) aK)))))) (XD 4 5 6) (mC (jx (o3 (jM true) (v3 6) (v3 0))) (ZD (v3 1) (v3 5) (v3 4)) lW)
def qW:cI:=yw (it3 (v3 0)) (tO 2 3) qZ
def rT:cI:=yw (V9 (cR sH (aq (v3 1) aK))) (vB 8) (bV (st3 7 (o3 bc (v3 7) (dg3 (v3 1) (v3 5))))
  (bV (st3 9 (cR fu (aq (dg3 (v3 1) (v3 5)) aK)))
  (st3 5 (fX (aq (o3 bc (o3 bD (v3 5) (c3 (.int 0))) (o3 bD (v3 9) (c3 (.int 0)))) (aq (o3 bc (o3 bD (v3 5) (c3 (.int 1))) (o3 bD (v3 9) (c3 (.int 1)))) aK))))))
def um:cI:=(bV (st3 1 dn3)
  (bV qW
  (bV (st3 5 (o3 bD (v3 0) (c3 (.int 0))))
  (bV (st3 7 (c3 (.str "")))
  (bV rT
  (gR (v3 7)))))))
theorem Hf:∀(ds:List D) (H:aG) (Q:aX),jr ds H Q->um (cY Q) (aM sV ds) H:=by
 intro ds H Q h
 obtain⟨_,rfl,h⟩:=h
 obtain⟨S,s0,⟨rfl,h0,hl,hcr⟩,h⟩:=h
 (simp only[um,aM,sV];walk_at "l3t")
 walk_at "l3"
 intro p hp
 walk_at "l3"
 unfold qW
 walk_at "l3"
 refine Lp.by (RoA H S p) (.mk [] _ _ _ _ _ (aN.fresh hp) Lw.nil aF) (fun _ _ _ _ _=>trivial) ?_ ?_
 ·rintro i d σ H2 hd ⟨kvs,x,y,z,u,v,sb,hb,hH⟩
  rw[aS,b6] at hd
  obtain⟨c,hc,rfl⟩:=hd
  have hi:=(bb.mp hc).1
  obtain⟨c1,c2⟩:=c
  unfold cF
  walk_at "l3"
  unfold qZ
  walk_at "l3"
  intro p2 hp2
  walk_at "l3"
  have n2:p≠p2:=ne3 hH hp2
  refine Lp.by (RoB H S p i (c1,c2) p2) (.mk kvs _ _ _ (sb.trans (aN.fresh hp2)) aF hb (bB hH hp2)) (fun k σ H3 _ z=>by cases z with | mk _ _ _ _ _ h2=>exact h2) ?_ ?_
  ·rintro k d σ H3 hd ⟨kvs,z,u,v,sb3,h2,hb,hH⟩
   have hd':((dc 4).map (sdT (c1,c2)))[k]?=some d:=hd
   have hk:k<4:=by have:=(bb.mp hd').1;simpa using this
   rw[aS,kq hk,ng] at hd'
   cases hd'
   unfold sdT
   walk_at "l3"
   unfold cF
   refine N5 (ps:=S) rfl ?_
   refine ifN (fun z=>?_) fun z=>?_
   ·walk_at "l3"
    refine abr hH (by have:=hb.len;omega) ?_
    walk_at "l3"
    exact .mk _ _ _ _ (fun q o hq=>by rw[bA (fun e=>by rw[e,hp] at hq;cases hq)];exact sb3 q o hq) (by rw[bA n2.symm];exact h2) (hb.put hc hk z) aF
   ·walk_at "l3"
    exact .mk kvs _ _ _ sb3 h2 (hb.skip hc z) hH
  ·rintro σ H3 ⟨kvs,z,u,v,sb3,h2,hb,hH⟩
   walk_at "l3"
   exact .mk kvs _ _ _ _ _ sb3 hb.next hH
 ·rintro σ H2 ⟨kvs,x,y,z,u,v,sb,hb,hH⟩
  rw[aw] at hb
  have hkl:=hb.len
  walk_at "l3"
  refine Ip (QJ h0) ?_
  walk_at "l3"
  unfold rT
  walk_at "l3"
  refine Qq hH ?_
  walk_at "l3"
  have ekl:(mR kvs).length=kvs.length:=by unfold mR;rw[aw]
  have ht0:0<kvs.length:=by
   have:=hb.in hcr
   cases kvs with
   |nil=>cases this
   |cons a b=>simp
  have ht40:kvs.length<=40:=by omega
  rw[ekl]
  refine Lp.pN (RoC H S p kvs x y z) (.mk s0 [] _ _ _ sb hcr rfl hH) ?_ ?_
  ·rintro i σ H3 hi ⟨q,w,v3_,k,s,sb3,hq,hw,hH3⟩
   obtain⟨d,ed,el⟩:=hb.look q (hb.in hq)
   have hg:=Pz ed
   unfold mW at hg
   have es:=vN ed.lt
   walk_at "l3"
   refine VR hH3 el ?_
   walk_at "l3"
   refine wL (by rw[gJ,bJ];show _+1<=_;omega) ?_
   rw[show aY w++qz (ltN d)=aY (w++[ltN d]) from by rw[←Ei];rfl]
   walk_at "l3"
   refine VR hH3 el ?_
   walk_at "l3"
   refine rB _ ?_
   walk_at "l3"
   rw[es]
   exact .mk (q.1+(stp d).1,q.2+(stp d).2) _ _ _ _ sb3 hg (by rw[bo,hw];rfl) hH3
  ·rintro σ H3 ⟨q,w,v3_,k,s,sb3,hq,hw,hH3⟩
   walk_at "l3"
   exact bF (h w (by omega) (by omega)) sb3
def fH:mU:=fun ds H Q=>∃z w1_,ds=[.str z,.int w1_]/\(∃ls:List Lt,(z=aY ls/\ls.length<=50)/\∀z2 r,Wz z2 r->Q (.str z2) H)
theorem CZ{ls:List Lt}{c:Int}{H:aG}{Q:aX}(hl:ls.length<=50)(h:∀z2 r,Wz z2 r->Q (.str z2) H):fH [.str (aY ls),.int c] H Q:=⟨_,_,rfl,⟨ls,⟨rfl,hl⟩,h⟩⟩
theorem Yz{i:Int}(h0:0<=i)(h1:i<6):∃l2:List Lt,j7 [D.str "ew",.str "ns",.str "we",.str "sn",.str "en",.str "ee"] i=some (.str (aY l2))/\l2.length=2:=by
 have:i=0\/i=1\/i=2\/i=3\/i=4\/i=5:=by omega
 rcases this with rfl | rfl | rfl | rfl | rfl | rfl
 ·exact⟨[0,2],rfl,rfl⟩
 ·exact⟨[1,3],rfl,rfl⟩
 ·exact⟨[2,0],rfl,rfl⟩
 ·exact⟨[3,1],rfl,rfl⟩
 ·exact⟨[0,1],rfl,rfl⟩
 ·exact⟨[0,0],rfl,rfl⟩
theorem Xh{i:Int}(h0:0<=i)(h1:i<17):∃c,j7 (eS "ENWS abdfxyz.0#/~").cps.toList i=some c/\c∈uH:=by
 have:i=0\/i=1\/i=2\/i=3\/i=4\/i=5\/i=6\/i=7\/i=8\/i=9\/i=10\/i=11\/i=12\/i=13\/i=14\/i=15\/i=16:=by omega
 rcases this with rfl | rfl | rfl | rfl | rfl | rfl | rfl | rfl | rfl | rfl | rfl | rfl | rfl | rfl | rfl | rfl | rfl <;> exact⟨_,rfl,by decide⟩
theorem Ug(a b:List Lt)(c:Nat):aY a++⟨#[c]⟩++aY b=mY a c b:=by
 show (⟨(a.map cp).toArray++#[c]++(b.map cp).toArray⟩:Str)=⟨_⟩
 congr 1;simp
theorem xU:∀(ds:List D) (H:aG) (Q:aX),fH ds H Q->ds.length=fB.length:=by
 intro ds H Q h
 obtain⟨_,_,rfl,_⟩:=h
 rfl
def nW:cI:=(bV (st3 2 (o3 cP (o3 gj (v3 1) (c3 (.int 6))) (o3 bc (cR fK (aq (v3 0) aK)) (c3 (.int 1)))))
  (bV (mC (jx (o3 eO (o3 cP (v3 1) (c3 (.int 6))) (c3 (.int 1)))) (gR (cR iy (aq (v3 0) aK))) lW)
  (bV (mC (jx (o3 eO (o3 cP (v3 1) (c3 (.int 6))) (c3 (.int 2)))) (gR (o3 bc (NK oG (v3 0) Gj (NQ (v3 2))) (NK oG (v3 0) (NQ (o3 bc (v3 2) (c3 (.int 1)))) Gj))) lW)
  (bV (mC (jx (o3 eO (o3 cP (v3 1) (c3 (.int 6))) (c3 (.int 3)))) (gR (o3 bc (o3 bc (NK oG (v3 0) Gj (NQ (v3 2))) (o3 bD (JT (aq (c3 (.str "ew")) (aq (c3 (.str "ns")) (aq (c3 (.str "we")) (aq (c3 (.str "sn")) (aq (c3 (.str "en")) (aq (c3 (.str "ee")) aK))))))) (o3 cP (o3 gj (v3 1) (c3 (.int 240))) (c3 (.int 6))))) (NK oG (v3 0) (NQ (v3 2)) Gj))) lW)
  (bV (mC (jx (o3 eO (o3 cP (v3 1) (c3 (.int 6))) (c3 (.int 4)))) (gR (o3 bc (o3 bc (NK oG (v3 0) Gj (NQ (v3 2))) (o3 bD (c3 (.str "ENWS abdfxyz.0#/~")) (o3 cP (o3 gj (v3 1) (c3 (.int 240))) (c3 (.int 17))))) (NK oG (v3 0) (NQ (v3 2)) Gj))) lW)
  (gR (v3 0)))))))
theorem Ag:∀(ds:List D) (H:aG) (Q:aX),fH ds H Q->nW (cY Q) (aM oE ds) H:=by
 intro ds H Q h
 obtain⟨z,c,rfl,h⟩:=h
 obtain⟨ls,⟨rfl,hl⟩,h⟩:=h
 have hz:=vm ls (by omega)
 (simp only[nW,aM,oE];walk_at "l3t")
 walk_at "l3"
 refine zW (by omega) ?_
 walk_at "l3"
 obtain⟨pl,hpe⟩:=gL (gX (c / 6) (b:=(ls.length:Int)+1) (by omega))
 have hplt:pl<=ls.length:=by have:=gi (c / 6) (b:=(ls.length:Int)+1) (by omega);omega
 rw[hpe]
 have cc1:=DR ls pl
 have cc2:=rJ ls (pl+1)
 have cc3:=rJ ls pl
 have ep:(pl:Int)+1=((pl+1:Nat):Int):=by omega
 walk_at "l3"
 refine qX (fun m=>?_) fun m=>?_
 ·walk_at "l3"
  refine En ls (by omega) ?_
  walk_at "l3"
  exact bF (h _ _ (.ok (bk ls) (by rw[vH];omega))) aN.refl
 walk_at "l3"
 refine qX (fun m2=>?_) fun m2=>?_
 ·walk_at "l3"
  refine rH hz ?_
  rw[cc1]
  walk_at "l3"
  refine rH hz ?_
  rw[ep,cc2]
  walk_at "l3"
  refine oH (by rw[d2,fI];omega) ?_
  exact bF (h _ _ (.ok _ (by rw[bo,d2,fI];omega))) aN.refl
 walk_at "l3"
 refine qX (fun m3=>?_) fun m3=>?_
 ·walk_at "l3"
  refine rH hz ?_
  rw[cc1]
  walk_at "l3"
  intro p hp
  walk_at "l3"
  obtain⟨l2,e2,g2⟩:=Yz (i:=c / 240%6) (gX _ (by omega)) (gi _ (by omega))
  refine gY aF e2 ?_
  walk_at "l3"
  refine oH (by rw[d2];omega) ?_
  walk_at "l3"
  refine rH hz ?_
  rw[cc3]
  walk_at "l3"
  refine oH (by rw[bo,d2,fI];omega) ?_
  exact bF (h _ _ (.ok _ (by rw[bo,bo,d2,fI];omega))) (aN.fresh hp)
 walk_at "l3"
 refine qX (fun m4=>?_) fun m4=>?_
 ·walk_at "l3"
  refine rH hz ?_
  rw[cc1]
  walk_at "l3"
  obtain⟨b,e2,g2⟩:=Xh (i:=c / 240%17) (gX _ (by omega)) (gi _ (by omega))
  refine Jr (by rw[bJ];decide) e2 ?_
  walk_at "l3"
  refine wL (by rw[gJ,d2,bJ];show _+1<=_;omega) ?_
  walk_at "l3"
  refine rH hz ?_
  rw[cc3]
  walk_at "l3"
  refine wL (by
   have e:(aY (ls.take pl)++(⟨#[b]⟩:Str)).length=(ls.take pl).length+1:=by
    show (((ls.take pl).map cp).toArray++#[b]).size=_
    simp
   rw[e,gJ,d2,fI,bJ];omega) ?_
  rw[Ug]
  exact bF (h _ _ (.no _ _ b g2 (by rw[d2];omega) (by rw[fI];omega))) aN.refl
 refine Dn (Ry ?_)
 walk_at "l3"
 exact bF (h _ _ (.ok ls (by omega))) aN.refl
def lq:mU:=fun ds H Q=>∃z a,ds=[.str z,.ref a]/\(∃ls:List Lt,(z=aY ls/\ls.length<=500/\H a=some (.lst ((path (0,0) ls).map cF)))/\Q (.int (ar (0,0) ls)) H)
theorem QR(ls:List Lt){a:aE}{H:aG}{Q:aX}(hl:ls.length<=500)(ha:H a=some (.lst ((path (0,0) ls).map cF)))(h:Q (.int (ar (0,0) ls)) H):lq [.str (aY ls),.ref a] H Q:=⟨_,_,rfl,⟨ls,⟨rfl,hl,ha⟩,h⟩⟩
theorem HD:∀(ds:List D) (H:aG) (Q:aX),lq ds H Q->ds.length=lQ.length:=by
 intro ds H Q h
 obtain⟨_,_,rfl,_⟩:=h
 rfl
def uD:cI:=yw (itz (v3 0) (v3 1)) (tO 3 4) (st3 2 (o3 bc (v3 2) (o3 my (o3 bD (v3 4) (c3 (.int 0))) (o3 bD (cR fu (aq (v3 3) aK)) (c3 (.int 1))))))
def vZ:cI:=(bV (st3 2 (c3 (.int 0)))
  (bV uD
  (gR (v3 2))))
theorem K9:∀(ds:List D) (H:aG) (Q:aX),lq ds H Q->vZ (cY Q) (aM vR ds) H:=by
 intro ds H Q h
 obtain⟨z,a,rfl,h⟩:=h
 obtain⟨ls,⟨rfl,hl,ha⟩,h⟩:=h
 (simp only[vZ,aM,vR];walk_at "l3t")
 walk_at "l3"
 unfold uD
 walk_at "l3"
 refine aad ha (Fl ls) ?_
 rw[ni,lE]
 refine Lp.by (fun i σ H2=>H2=H/\∃c d,σ=[some (.str (aY ls)),some (.ref a),some (.int (ar (0,0) (ls.take i))),c,d]) ⟨rfl,_,_,rfl⟩ (fun i σ H2 _ z=>by rw[z.1];exact ha) ?_ ?_
 ·rintro i dd σ H2 hd ⟨rfl,c,d,rfl⟩
  rw[aS,b6] at hd
  obtain⟨⟨l,q⟩,hq,rfl⟩:=hd
  obtain⟨e1,e2⟩:=Us hq
  dsimp only at e1 e2
  subst e1
  have ht:ls.take (i+1)=ls.take i++[l]:=by rw[ff,e2];rfl
  have hi:=(bb.mp e2).1
  have bx:=DX (0,0) (ls.take i)
  rw[d2] at bx
  have st:=Ov l
  unfold cF
  walk_at "l3"
  refine rB l ?_
  walk_at "l3"
  rw[ht,u9]
  exact⟨rfl,_,_,rfl⟩
 ·rintro σ H2 ⟨rfl,c,d,rfl⟩
  rw[aw,Ro,ez (aT _)]
  walk_at "l3"
  exact bF h aN.refl
inductive Rf:Str->List (Str×D)->D->Prop
 |word (i:Int):Rf "NoWord" [("place",.int i)] (.tup [.str "word",.int i])
 |opn (x y:Int):Rf "Open" [("way",.tup [.int x,.int y])] (.tup [.str "open",.tup [.int x,.int y]])
 |crs (i:Int):Rf "Crossed" [("place",.int i)] (.tup [.str "crossed",.int i])
 |bkw:Rf "Backward" [] (.tup [.str "backward",.int 0])
 |mny:Rf "TooMany" [] (.tup [.str "many",.int 0])
def fG:mU:=fun ds H Q=>∃a,ds=[.ref a]/\(∃(c:Str) (fs:List (Str×D)) (r:D),(Rf c fs r/\H a=some (.exc c fs))/\Q r H)
theorem eX{c:Str}{fs:List (Str×D)}{r:D}{a:aE}{H:aG}{Q:aX}(hr:Rf c fs r)(ha:H a=some (.exc c fs))(h:Q r H):fG [.ref a] H Q:=⟨_,rfl,⟨c,fs,r,⟨hr,ha⟩,h⟩⟩
theorem xV:∀(ds:List D) (H:aG) (Q:aX),fG ds H Q->ds.length=eZ.length:=by
 intro ds H Q h
 obtain⟨_,rfl,_⟩:=h
 rfl
def nJ:cI:=(bV (mC (no3 (jx (cR ju (aq (v3 0) aK)))) (gR (fX (aq (c3 (.str "otherwise")) (aq (c3 (.int 0)) aK)))) lW)
  (bV (mC (jx (jk [("NoWord",true),("Open",false),("Crossed",false),("Backward",false),("TooMany",false)] (v3 0))) (gR (fX (aq (c3 (.str "word")) (aq (xg3 ["NoWord", "Crossed"] "place" (v3 0)) aK)))) lW)
  (bV (mC (jx (jk [("NoWord",false),("Open",true),("Crossed",false),("Backward",false),("TooMany",false)] (v3 0))) (gR (fX (aq (c3 (.str "open")) (aq (xg3 ["Open"] "way" (v3 0)) aK)))) lW)
  (bV (mC (jx (jk [("NoWord",false),("Open",false),("Crossed",true),("Backward",false),("TooMany",false)] (v3 0))) (gR (fX (aq (c3 (.str "crossed")) (aq (xg3 ["NoWord", "Crossed"] "place" (v3 0)) aK)))) lW)
  (bV (mC (jx (jk [("NoWord",false),("Open",false),("Crossed",false),("Backward",true),("TooMany",false)] (v3 0))) (gR (fX (aq (c3 (.str "backward")) (aq (c3 (.int 0)) aK)))) lW)
  (bV (mC (jx (jk [("NoWord",false),("Open",false),("Crossed",false),("Backward",false),("TooMany",true)] (v3 0))) (gR (fX (aq (c3 (.str "many")) (aq (c3 (.int 0)) aK)))) lW)
  (gR (fX (aq (c3 (.str "otherwise")) (aq (c3 (.int 0)) aK))))))))))
theorem Bx:∀(ds:List D) (H:aG) (Q:aX),fG ds H Q->nJ (cY Q) (aM nM ds) H:=by
 intro ds H Q h
 obtain⟨a,rfl,h⟩:=h
 obtain⟨c,fs,r,⟨hr,ha⟩,h⟩:=h
 (simp only[nJ,aM,nM];walk_at "l3t")
 walk_at "l3"
 cases hr with
 |word i=>
  refine lF 0 (by decide) ha ?_
  walk_at "l3"
  refine vg rfl ?_
  walk_at "l3"
  refine Iv rfl ?_
  walk_at "l3"
  refine O7 ha rfl (by simp) ?_
  walk_at "l3"
  exact bF h aN.refl
 |opn x y=>
  refine lF 1 (by decide) ha ?_
  walk_at "l3"
  refine vg rfl ?_
  walk_at "l3"
  refine vg rfl ?_
  walk_at "l3"
  refine Iv rfl ?_
  walk_at "l3"
  refine O7 ha rfl (by simp) ?_
  walk_at "l3"
  exact bF h aN.refl
 |crs i=>
  refine lF 2 (by decide) ha ?_
  walk_at "l3"
  refine vg rfl ?_
  walk_at "l3"
  refine vg rfl ?_
  walk_at "l3"
  refine vg rfl ?_
  walk_at "l3"
  refine Iv rfl ?_
  walk_at "l3"
  refine O7 ha rfl (by simp) ?_
  walk_at "l3"
  exact bF h aN.refl
 |bkw=>
  refine lF 3 (by decide) ha ?_
  walk_at "l3"
  refine vg rfl ?_
  walk_at "l3"
  refine vg rfl ?_
  walk_at "l3"
  refine vg rfl ?_
  walk_at "l3"
  refine vg rfl ?_
  walk_at "l3"
  refine Iv rfl ?_
  walk_at "l3"
  exact bF h aN.refl
 |mny=>
  refine lF 4 (by decide) ha ?_
  walk_at "l3"
  refine vg rfl ?_
  walk_at "l3"
  refine vg rfl ?_
  walk_at "l3"
  refine vg rfl ?_
  walk_at "l3"
  refine vg rfl ?_
  walk_at "l3"
  refine vg rfl ?_
  walk_at "l3"
  refine Iv rfl ?_
  walk_at "l3"
  exact bF h aN.refl
def lA:mU:=fun ds H Q=>∃z,ds=[.str z]/\(∃ls:List Lt,(z=aY ls/\ls.length<=500)/\Q (.tup [.int (bC (0,0) ls).1,.int (bC (0,0) ls).2]) H)
theorem RK(ls:List Lt){H:aG}{Q:aX}(hl:ls.length<=500)(h:Q (.tup [.int (bC (0,0) ls).1,.int (bC (0,0) ls).2]) H):lA [.str (aY ls)] H Q:=⟨_,rfl,⟨ls,⟨rfl,hl⟩,h⟩⟩
theorem Hl:∀(ds:List D) (H:aG) (Q:aX),lA ds H Q->ds.length=kI.length:=by
 intro ds H Q h
 obtain⟨_,rfl,_⟩:=h
 rfl
def vQ:cI:=(gR (o3 bD (cR cj (aq (fX (aq (c3 (.int 0)) (aq (c3 (.int 0)) aK))) (aq (v3 0) aK))) (u3 mL (c3 (.int 1)))))
theorem Nb:∀(ds:List D) (H:aG) (Q:aX),lA ds H Q->vQ (cY Q) (aM xK ds) H:=by
 intro ds H Q h
 obtain⟨z,rfl,h⟩:=h
 obtain⟨ls,⟨rfl,hl⟩,h⟩:=h
 (simp only[vQ,aM,xK];walk_at "l3t")
 walk_at "l3"
 refine il ls hl fun p hp=>?_
 walk_at "l3"
 refine gY aF (o7 _ _) ?_
 walk_at "l3"
 exact bF h (aN.fresh hp)
def jd:mU:=fun ds H Q=>∃z,ds=[.str z]/\(∃ls:List Lt,(z=aY ls/\ls.length<=500)/\Q (.int (ar (0,0) ls)) H)
theorem Lk(ls:List Lt){H:aG}{Q:aX}(hl:ls.length<=500)(h:Q (.int (ar (0,0) ls)) H):jd [.str (aY ls)] H Q:=⟨_,rfl,⟨ls,⟨rfl,hl⟩,h⟩⟩
theorem DG:∀(ds:List D) (H:aG) (Q:aX),jd ds H Q->ds.length=iG.length:=by
 intro ds H Q h
 obtain⟨_,rfl,_⟩:=h
 rfl
def qP:cI:=yw (izt (cR cj (aq (fX (aq (c3 (.int 0)) (aq (c3 (.int 0)) aK))) (aq (v3 0) aK))) (v3 0)) (tO 2 3) (bV (mC (jx (o3 eO (v3 3) (c3 (.str "n")))) (Yy 1 GJ (o3 bD (v3 2) (c3 (.int 0)))) lW)
  (mC (jx (o3 eO (v3 3) (c3 (.str "s")))) (Yy 1 GX (o3 bD (v3 2) (c3 (.int 0)))) lW))
def tE:cI:=(bV (st3 1 (c3 (.int 0)))
  (bV qP
  (gR (v3 1))))
theorem HQ:∀(ds:List D) (H:aG) (Q:aX),jd ds H Q->tE (cY Q) (aM tD ds) H:=by
 intro ds H Q h
 obtain⟨z,rfl,h⟩:=h
 obtain⟨ls,⟨rfl,hl⟩,h⟩:=h
 (simp only[tE,aM,tD];walk_at "l3t")
 walk_at "l3"
 unfold qP
 walk_at "l3"
 refine il ls hl fun p hp=>?_
 walk_at "l3"
 refine Wc aF (Fl ls) ?_
 rw[ni,lE]
 refine Lp.by (fun i σ H2=>H2=aP H p (.lst ((path (0,0) ls).map cF))/\∃c d,σ=[some (.str (aY ls)),some (.int (ar (0,0) (ls.take i))),c,d]) ⟨rfl,_,_,rfl⟩ (fun i σ H2 _ z=>by rw[z.1];exact aF) ?_ ?_
 ·rintro i dd σ H2 hd ⟨rfl,c,d,rfl⟩
  rw[aS,b6] at hd
  obtain⟨⟨q,l⟩,hq,rfl⟩:=hd
  obtain⟨e1,e2⟩:=Ss hq
  dsimp only at e1 e2
  subst e1
  have ht:ls.take (i+1)=ls.take i++[l]:=by rw[ff,e2];rfl
  unfold cF
  walk_at "l3"
  refine VJ ?_
  walk_at "l3"
  rw[ht,u9]
  refine qX (fun h1=>?_) fun h1=>?_
  ·walk_at "l3"
   refine I9 ?_
   walk_at "l3"
   refine qX (fun h3=>absurd (h1.symm.trans h3) (by decide)) fun h3=>?_
   walk_at "l3"
   rw[acN h1]
   exact⟨rfl,_,_,rfl⟩
  ·walk_at "l3"
   refine I9 ?_
   walk_at "l3"
   refine qX (fun h3=>?_) fun h3=>?_
   ·walk_at "l3"
    rw[ab1 h3,←vt]
    exact⟨rfl,_,_,rfl⟩
   ·walk_at "l3"
    rw[abU h1 h3,fz]
    exact⟨rfl,_,_,rfl⟩
 ·rintro σ H2 ⟨rfl,c,d,rfl⟩
  rw[aw,Jt,ez (aT _)]
  walk_at "l3"
  exact bF h (aN.fresh hp)
def cu:OJ:=fun ds H Q E=>∃z,ds=[.str z]/\((∃ls:List Lt,(z=aY ls/\ls.length<=500)/\(ls=[]->E ⟨"NoWord",[("place",.int 0)]⟩ H)/\(ls≠[]->Q .non H))\/∃(l1 l2:List Lt) (c:Nat),(z=mY l1 c l2/\c∈uH/\l1.length<=60/\l2.length<=60)/\E ⟨"NoWord",[("place",.int (l1.length:Int))]⟩ H)
theorem uG{ls:List Lt}{H:aG}{Q:aX}{E:iT}(hl:ls.length<=500)(h0:ls=[]->E ⟨"NoWord",[("place",.int 0)]⟩ H)(h:ls≠[]->Q .non H):cu [.str (aY ls)] H Q E:=⟨_,rfl,.inl ⟨ls,⟨rfl,hl⟩,h0,h⟩⟩
theorem Dq{l1 l2:List Lt}{c:Nat}{H:aG}{Q:aX}{E:iT}(hc:c∈uH)(h1:l1.length<=60)(h2:l2.length<=60)(h:E ⟨"NoWord",[("place",.int (l1.length:Int))]⟩ H):cu [.str (mY l1 c l2)] H Q E:=⟨_,rfl,.inr ⟨l1,l2,c,⟨rfl,hc,h1,h2⟩,h⟩⟩
theorem Dp(l:Lt):(pG.lookup (qz l)).isSome=true:=by
 revert l;intro l;match l with
 |0=>rfl
 |1=>rfl
 |2=>rfl
 |3=>rfl
theorem QW:∀c∈uH,(pG.lookup (⟨#[c]⟩:Str)).isSome=false:=by
 intro c hc
 unfold uH at hc
 simp only[bE,gx,or_false] at hc
 rcases hc with rfl | rfl | rfl | rfl | rfl | rfl | rfl | rfl | rfl | rfl | rfl | rfl | rfl | rfl | rfl | rfl | rfl <;> rfl
theorem qI:∀(ds:List D) (H:aG) (Q:aX) (E:iT),cu ds H Q E->ds.length=cJ.length:=by
 intro ds H Q E h
 obtain⟨_,rfl,_⟩:=h
 rfl
def eQ(E:iT):cI:=yw (iez (v3 0)) (tO 1 2) (mC (jx (ki3 pG true (v3 2))) (ZL E "NoWord" "place" (v3 1)) lW)
def eF(E:iT):cI:=(bV (mC (jx (o3 eO (v3 0) (c3 (.str "")))) (ZL E "NoWord" "place" (c3 (.int 0))) lW)
  (eQ E))
theorem tW:∀(ds:List D) (H:aG) (Q:aX) (E:iT),cu ds H Q E->eF E (cY Q) (aM eE ds) H:=by
 intro ds H Q E h
 obtain⟨z,rfl,h⟩:=h
 rcases h with ⟨ls,⟨rfl,hl⟩,h0,h⟩ | ⟨l1,l2,c,⟨rfl,hc,g1,g2⟩,h⟩
 ·(simp only[eF,aM,eE];walk_at "l3t")
  walk_at "l3"
  refine Jg (bs:=[]) ?_
  walk_at "l3"
  refine qX (fun z=>?_) fun hn=>?_
  ·walk_at "l3"
   exact⟨H,aN.refl,h0 z⟩
  walk_at "l3"
  unfold eQ
  walk_at "l3"
  refine Iw (Fl ls) ?_
  rw[ni]
  refine Lp.by (fun i σ H2=>H2=H/\∃a b,σ=[some (.str (aY ls)),a,b]) ⟨rfl,_,_,rfl⟩ (fun _ _ _ _ _=>trivial) ?_ ?_
  ·rintro i d σ H2 hd ⟨rfl,a,b,rfl⟩
   obtain⟨n,l,rfl⟩:∃(n:Int) (l:Lt),d=.tup [.int n,.str (qz l)]:=by
    unfold pN at hd
    rw[lE,aS] at hd
    obtain⟨⟨n,l⟩,_,rfl⟩:=b6.mp hd
    exact⟨_,l,rfl⟩
   walk_at "l3"
   rw[Dp l]
   walk_at "l3"
   exact⟨rfl,_,_,rfl⟩
  ·rintro σ H2 ⟨rfl,a,b,rfl⟩
   walk_at "l3"
   exact Rk (h hn) aN.refl
 ·(simp only[eF,aM,eE];walk_at "l3t")
  walk_at "l3"
  refine aaw hc ?_
  walk_at "l3"
  refine vg rfl ?_
  walk_at "l3"
  unfold eQ
  walk_at "l3"
  refine Iw (V8 hc) ?_
  rw[Qj]
  refine Lp.by (fun i σ H2=>(H2=H/\i<=l1.length)/\∃a b,σ=[some (.str (mY l1 c l2)),a,b]) ⟨⟨rfl,ef _⟩,_,_,rfl⟩ (fun _ _ _ _ _=>trivial) ?_ ?_
  ·rintro i d σ H2 hd ⟨⟨rfl,hi⟩,a,b,rfl⟩
   obtain⟨x,hx,rfl⟩:=RJ hd
   by_cases z:i<l1.length
   ·rw[eL (by rw[aw];exact z),aS] at hx
    obtain⟨l,_,rfl⟩:=b6.mp hx
    show tO 1 2 (D.tup [.int i,D.str (qz l)]) _ _ _
    walk_at "l3"
    rw[Dp l]
    walk_at "l3"
    exact⟨⟨rfl,z⟩,_,_,rfl⟩
   ·have zi:i=l1.length:=by omega
    rw[fg (by rw[aw];omega),aw,zi,IX] at hx
    obtain rfl:D.str ⟨#[c]⟩=x:=by simpa using hx
    show tO 1 2 (D.tup [.int i,D.str ⟨#[c]⟩]) _ _ _
    walk_at "l3"
    rw[QW c hc]
    walk_at "l3"
    rw[zi]
    exact⟨_,aN.refl,h⟩
  ·rintro σ H2 ⟨⟨rfl,hi⟩,a,b,rfl⟩
   rw[zV,bo,aw,e8] at hi
   omega
def cG:OJ:=fun ds H Q E=>∃ls:List Lt,ds=[.str (aY ls)]/\(ls≠[]/\ls.length<=100)/\(∀k:Nat,bY ls=some k->E ⟨"Crossed",[("place",.int (k:Int))]⟩ H)/\(bY ls=none->Q .non H)
theorem qM{ls:List Lt}{H:aG}{Q:aX}{E:iT}(hn:ls≠[])(hl:ls.length<=100)(h0:∀k:Nat,bY ls=some k->E ⟨"Crossed",[("place",.int (k:Int))]⟩ H)(h:bY ls=none->Q .non H):cG [.str (aY ls)] H Q E:=⟨ls,rfl,⟨hn,hl⟩,h0,h⟩
theorem pP:∀(ds:List D) (H:aG) (Q:aX) (E:iT),cG ds H Q E->ds.length=bZ.length:=by
 intro ds H Q E h
 obtain⟨_,rfl,_⟩:=h
 rfl
def gM(E:iT):cI:=yw (V9 (o3 jf (cR fK (aq (v3 0) aK)) (c3 (.int 1)))) (vB 3) (bV (st3 4 (o3 bD (v3 1) (o3 bc (v3 3) (c3 (.int 1)))))
  (bV (mC (jx (o3 (jM false) (v3 4) (v3 2))) (ZL E "Crossed" "place" (v3 3)) lW)
  (ZD (v3 2) (v3 4) (c3 (.bl true)))))
def fJ(E:iT):cI:=(bV (st3 1 (cR cj (aq (fX (aq (c3 (.int 0)) (aq (c3 (.int 0)) aK))) (aq (v3 0) aK))))
  (bV (st3 2 (dd3 (o3 bD (v3 1) (c3 (.int 0))) (c3 (.bl true))))
  (gM E)))
theorem pW:∀(ds:List D) (H:aG) (Q:aX) (E:iT),cG ds H Q E->fJ E (cY Q) (aM fO ds) H:=by
 intro ds H Q E h
 obtain⟨ls,rfl,⟨hn,hl⟩,h0,h⟩:=h
 have hpos:0<ls.length:=List.length_pos_iff.mpr hn
 (simp only[fJ,aM,fO];walk_at "l3t")
 walk_at "l3"
 refine il ls (by omega) fun p hp=>?_
 have at_:∀j:Nat,j<=ls.length->j7 ((path (0,0) ls).map cF) (j:Int)=some (.tup [.int (bC (0,0) (ls.take j)).1,.int (bC (0,0) (ls.take j)).2]):=fun j hj=>by
  unfold j7 K6
  rw[aw,fW,if_pos (by omega),if_pos (by omega),gy,aS,fe,kO,if_pos hj]
  rfl
 walk_at "l3"
 intro p2 hp2
 walk_at "l3"
 refine gY (bB aF hp2) (at_ 0 (ef _)) ?_
 walk_at "l3"
 refine V0 aF ?_
 rw[kZ]
 have n12:p≠p2:=ne3 aF hp2
 have hpl:aP (aP H p (.lst ((path (0,0) ls).map cF))) p2 (.dic (dN [(0,0)])) p=some (.lst ((path (0,0) ls).map cF)):=bB aF hp2
 have hs:aN H (aP (aP H p (.lst ((path (0,0) ls).map cF))) p2 (.dic (dN [(0,0)]))):=(aN.fresh hp).trans (aN.fresh hp2)
 have n2:H p2=none:=dJ (aN.fresh hp) hp2
 walk_at "l3"
 unfold gM
 walk_at "l3"
 refine zW (by omega) ?_
 walk_at "l3"
 refine Lp.pN (fun i σ H2=>aN H H2/\H2 p=some (.lst ((path (0,0) ls).map cF))/\H2 p2=some (.dic (dN ((dc (i+1)).map fun j=>bC (0,0) (ls.take j))))/\(∀k<i,Wn ls k=false)/\∃a b,σ=[some (.str (aY ls)),some (.ref p),some (.ref p2),a,b]) ⟨hs,hpl,aF,fun _ z=>absurd z (tm _),_,_,rfl⟩ ?_ ?_
 ·rintro i σ H2 hlt ⟨hs2,k1,k2,hall,a,b,rfl⟩
  have hi1:i+1<ls.length:=by omega
  rw[mv]
  walk_at "l3"
  refine gY k1 (i:=(i:Int)+1) (at_ (i+1) (ij hi1)) ?_
  walk_at "l3"
  refine aaK k2 ?_
  walk_at "l3"
  refine qX (fun z=>?_) fun nin=>?_
  ·walk_at "l3"
   exact⟨H,hs2,h0 i (xG (by omega) hall (decide_eq_true z))⟩
  walk_at "l3"
  refine Rt k2 (by rw[aw,fT];omega) ?_
  rw[show jy ((dc (i+1)).map fun j=>bC (0,0) (ls.take j)) ((bC (0,0) (ls.take (i+1))).1,(bC (0,0) (ls.take (i+1))).2)=(dc (i+1+1)).map fun j=>bC (0,0) (ls.take j) from by
   unfold jy
   rw[if_neg nin,pj (n:=i+1),d0];rfl]
  walk_at "l3"
  refine⟨fun q o hq=>by rw[bA (ne3 hq n2)];exact hs2 q o hq,by rw[bA n12];exact k1,aF,fun k hk=>?_,_,_,rfl⟩
  rcases xB.mp hk with z | rfl
  ·exact hall k z
  ·exact decide_eq_false nin
 ·rintro σ H2 ⟨hs2,k1,k2,hall,a,b,rfl⟩
  walk_at "l3"
  exact Rk (h (vL fun k hk=>hall k (by omega))) hs2
abbrev Row:=Int×aE×List Int
def GR(ks:List Row):m8:=ks.map fun k=>(.inl k.1,.ref k.2.1)
theorem wj{ks:List Row}{y:Int}:d7 (GR ks) (.inl y)=(ks.find? fun k=>decide (k.1=y)).map fun k=>.ref k.2.1:=by
 unfold d7 GR
 rw[List.find?_map,Option.map_map]
 have:((fun kv:L2.Key×D=>decide (kv.1=.inl y))∘fun k:Row=>((.inl k.1:L2.Key),D.ref k.2.1))=fun k:Row=>decide (k.1=y):=by
  funext k
  exact decide_eq_decide.mpr ⟨fun z=>Sum.inl.inj z,fun z=>by rw[←z]⟩
 rw[this]
 rfl
theorem Rm{ks:List Row}{y:Int}{d:D}(h:d7 (GR ks) (.inl y)=some d):∃k∈ks,k.1=y/\d=.ref k.2.1:=by
 rw[wj] at h
 obtain⟨k,hk,rfl⟩:=b6.mp h
 exact⟨k,wa hk,by simpa using FU hk,rfl⟩
theorem RL{ks:List Row}{y:Int}(h:d7 (GR ks) (.inl y)=none):∀k∈ks,k.1≠y:=by
 rw[wj,zw,mw] at h
 intro k hk z
 exact h k hk (decide_eq_true z)
theorem Vh{ks:List Row}{y:Int}{r:aE}(h:∀k∈ks,k.1≠y)(xs:List Int):Kd (GR ks) (.inl y) (.ref r)=GR (ks++[(y,r,xs)]):=by
 unfold Kd
 rw[if_neg]
 ·unfold GR;rw[d0];rfl
 ·intro z
  obtain⟨kv,hkv,e⟩:=yB.mp z
  obtain⟨k,hk,rfl⟩:=cn.mp hkv
  exact h k hk (Sum.inl.inj (of_decide_eq_true e))
theorem BP{α β:Type}{f:α->β}:∀ {l:List α},(l.map f).Nodup->∀ {a b:α},a∈l->b∈l->f a=f b->a=b
 |c::l,nd,a,b,ha,hb,e=>by
  rw[ck,kg] at nd
  rcases bE.mp ha with h1 | h1
  ·rcases bE.mp hb with h2 | h2
   ·rw[h1,h2]
   ·exact absurd (cn.mpr ⟨b,h2,by rw[←e,h1]⟩) nd.1
  ·rcases bE.mp hb with h2 | h2
   ·exact absurd (cn.mpr ⟨a,h1,by rw[e,h2]⟩) nd.1
   ·exact BP nd.2 h1 h2 e
structure Rw(H H2:aG)(p:aE)(ks:List Row)(U:List Pt):Prop where
 sub:aN H H2
 new:H p=none
 dic:H2 p=some (.dik (GR ks))
 lst:∀k∈ks,H2 k.2.1=some (.lst (k.2.2.map D.int))/\H k.2.1=none
 nda:(ks.map (·.2.1)).Nodup
 ndk:(ks.map (·.1)).Nodup
 mem:∀k∈ks,∀x,x∈k.2.2↔(x,k.1)∈U
 ndx:∀k∈ks,k.2.2.Nodup
 all:∀c∈U,c.2∈ks.map (·.1)
 len:ks.length<=U.length
 lnx:∀k∈ks,k.2.2.length<=U.length
section
variable{H H2:aG}{p r:aE}{ks:List Row}{U:List Pt}{x y:Int}
def Ii(y x:Int)(j:Row):Row:=if j.1=y then (j.1,j.2.1,j.2.2++[x]) else j
theorem RG(j:Row):(Ii y x j).1=j.1:=by unfold Ii;split <;> rfl
theorem QG(j:Row):(Ii y x j).2.1=j.2.1:=by unfold Ii;split <;> rfl
theorem Rw.more(w:Rw H H2 p ks U)(hr:H2 r=none){k:Row}(hk:k∈ks)(nc:(x,k.1)∉U):Rw H (aP (aP H2 r (.lst [])) k.2.1 (.lst (k.2.2.map D.int++[.int x]))) p (ks.map (Ii k.1 x)) (U++[(x,k.1)]):=by
 have e1:(ks.map (Ii k.1 x)).map (·.1)=ks.map (·.1):=by rw[eA];exact gz fun j _=>RG j
 have e2:(ks.map (Ii k.1 x)).map (·.2.1)=ks.map (·.2.1):=by rw[eA];exact gz fun j _=>QG j
 have npk:p≠k.2.1:=fun z=>by have:=(w.lst k hk).1;rw[←z,w.dic] at this;cases this
 have old:∀ {b o},H2 b=some o->b≠k.2.1->aP (aP H2 r (.lst [])) k.2.1 (.lst (k.2.2.map D.int++[.int x])) b=some o:=fun h hn=>by rw[bA hn];exact bB h hr
 refine⟨fun b o hb=>old (w.sub b o hb) (ne3 hb (w.lst k hk).2),w.new,?_,?_,by rw[e2];exact w.nda,by rw[e1];exact w.ndk,?_,?_,?_,?_,?_⟩
 ·rw[old w.dic npk]
  congr 2
  unfold GR
  rw[eA]
  exact gz fun j _=>by show _=(mm (Ii k.1 x j).1,D.ref (Ii k.1 x j).2.1);rw[RG,QG]
 ·intro j' hj'
  obtain⟨j,hj,rfl⟩:=cn.mp hj'
  rw[QG]
  refine⟨?_,(w.lst j hj).2⟩
  by_cases e:j.1=k.1
  ·obtain rfl:=BP w.ndk hj hk e
   unfold Ii
   rw[aF,if_pos rfl,d0];rfl
  ·unfold Ii
   rw[if_neg e]
   exact old (w.lst j hj).1 fun z=>e (congrArg (·.1) (BP w.nda hj hk z))
 ·intro j' hj' x'
  obtain⟨j,hj,rfl⟩:=cn.mp hj'
  rw[RG,dE,ay,←w.mem j hj x']
  unfold Ii
  by_cases e:j.1=k.1
  ·rw[if_pos e,dE,ay,e]
   exact or_congr_right ⟨fun z=>by rw[z],fun z=>(Prod.mk.inj z).1⟩
  ·rw[if_neg e]
   exact⟨.inl,fun z=>z.elim id fun z=>absurd (Prod.mk.inj z).2 e⟩
 ·intro j' hj'
  obtain⟨j,hj,rfl⟩:=cn.mp hj'
  unfold Ii
  by_cases e:j.1=k.1
  ·rw[if_pos e,hV]
   exact⟨w.ndx j hj,by simp,fun a ha b hb z=>by rw[ay.mp hb] at z;rw[z,w.mem j hj,e] at ha;exact nc ha⟩
  ·rw[if_neg e];exact w.ndx j hj
 ·intro c hc
  rw[e1]
  rcases dE.mp hc with hc | hc
  ·exact w.all c hc
  ·rw[ay.mp hc];exact cn.mpr ⟨k,hk,rfl⟩
 ·rw[aw,bo];exact eh w.len (yY ..)
 ·intro j' hj'
  obtain⟨j,hj,rfl⟩:=cn.mp hj'
  have:=w.lnx j hj
  unfold Ii
  split
  ·rw[bo,bo];exact Bz this 1
  ·rw[bo];exact eh this (yY ..)
theorem Rw.row(w:Rw H H2 p ks U)(hr:H2 r=none)(hy:∀k∈ks,k.1≠y):Rw H (aP (aP (aP H2 r (.lst [])) p (.dik (GR (ks++[(y,r,[x])])))) r (.lst [.int x])) p (ks++[(y,r,[x])]) (U++[(x,y)]):=by
 have npr:p≠r:=ne3 w.dic hr
 have old:∀ {b o},H2 b=some o->b≠p->aP (aP (aP H2 r (.lst [])) p (.dik (GR (ks++[(y,r,[x])])))) r (.lst [.int x]) b=some o:=fun h hn=>by rw[bA (ne3 h hr),bA hn];exact bB h hr
 have nU:∀x',(x',y)∉U:=fun x' z=>by obtain⟨k,hk,e⟩:=cn.mp (w.all _ z);exact hy k hk e
 have hr0:H r=none:=dJ w.sub hr
 refine⟨fun b o hb=>old (w.sub b o hb) (ne3 hb w.new),w.new,by rw[bA npr,aF],?_,?_,?_,?_,?_,?_,?_,?_⟩
 ·intro k hk
  rcases dE.mp hk with hk | hk
  ·exact⟨old (w.lst k hk).1 (fun z=>by have:=(w.lst k hk).1;rw[z,w.dic] at this;cases this),(w.lst k hk).2⟩
  ·rw[ay.mp hk];exact⟨aF,hr0⟩
 ·rw[d0,hV]
  exact⟨w.nda,by simp,fun a ha b hb z=>by
   obtain⟨k,hk,rfl⟩:=cn.mp ha
   rw[ay.mp hb] at z
   exact ne3 (w.lst k hk).1 hr z⟩
 ·rw[d0,hV]
  exact⟨w.ndk,by simp,fun a ha b hb z=>by
   obtain⟨k,hk,rfl⟩:=cn.mp ha
   rw[ay.mp hb] at z
   exact hy k hk z⟩
 ·intro k hk x'
  rw[dE,ay]
  rcases dE.mp hk with hk | hk
  ·rw[←w.mem k hk x']
   exact⟨.inl,fun z=>z.elim id fun z=>absurd (Prod.mk.inj z).2 (hy k hk)⟩
  ·rw[ay.mp hk]
   exact⟨fun z=>.inr (by rw[ay.mp z]),fun z=>z.elim (fun z=>absurd z (nU x')) fun z=>by rw[(Prod.mk.inj z).1];exact ay.mpr rfl⟩
 ·intro k hk
  rcases dE.mp hk with hk | hk
  ·exact w.ndx k hk
  ·rw[ay.mp hk];simp
 ·intro c hc
  rw[d0,dE]
  rcases dE.mp hc with hc | hc
  ·exact .inl (w.all c hc)
  ·rw[ay.mp hc];exact .inr (ay.mpr rfl)
 ·rw[bo,bo];exact Bz w.len 1
 ·intro k hk
  rw[bo]
  rcases dE.mp hk with hk | hk
  ·exact eh (w.lnx k hk) (yY ..)
  ·rw[ay.mp hk];exact Nat.le_add_left ..
theorem Rw.put{tr:sG}{σ:cz}{Q:aX}(w:Rw H H2 p ks U)(hr:H2 r=none)(nc:(x,y)∉U)(hl:U.length<500)(htr:∀(H3:aG) (R:List D->aG->Prop),R [.int x] H3->tr σ H3 R)(h:∀(H3:aG) (ks':List Row),Rw H H3 p ks' (U++[(x,y)])->Q .non H3) :
  U5 p (.int y) (.ref r) (aP H2 r (.lst [])) (fun d H1=>mtk nZ tr σ d H1 Q):=by
 have hkl:=w.len
 refine aaN (bB w.dic hr) (by unfold GR;rw[aw];omega) (fun d hd=>?_) fun hn=>?_
 ·obtain⟨k,hk,rfl,rfl⟩:=Rm hd
  have hk2:aP H2 r (.lst []) k.2.1=some (.lst (k.2.2.map D.int)):=bB (w.lst k hk).1 hr
  have hxl:=w.lnx k hk
  exact Ja hk2 (htr _ _ (zL hk2 (by rw[aw,bJ];omega) (h _ _ (w.more hr hk nc))))
 ·have hy:=RL hn
  rw[Vh hy [x]]
  have e:aP (aP H2 r (.lst [])) p (.dik (GR (ks++[(y,r,[x])]))) r=some (.lst []):=by rw[bA (ne3 w.dic hr).symm];exact aF
  exact Ja e (htr _ _ (zL e (by rw[bJ];decide) (h _ _ (w.row hr hy))))
theorem Rw.weak{H0:aG}(hs:aN H0 H)(w:Rw H H2 p ks U):Rw H0 H2 p ks U:=⟨hs.trans w.sub,dJ hs w.new,w.dic,fun k hk=>⟨(w.lst k hk).1,dJ hs (w.lst k hk).2⟩,w.nda,w.ndk,w.mem,w.ndx,w.all,w.len,w.lnx⟩
end
def cT:mU:=fun ds H Q=>∃x y z,ds=[.tup [.int x,.int y],.str z]/\(∃S t,(z=aY (wd S (x,y) t)/\t<=400/\(pJ S (x,y) t).Nodup)/\∀(p:aE) (H':aG) (ks:List Row),Rw H H' p ks (pJ S (x,y) t)->Q (.ref p) H')
theorem uM{S:List Pt}{x y:Int}{t:Nat}{H:aG}{Q:aX}(hl:t<=400)(nd:(pJ S (x,y) t).Nodup)(h:∀(p:aE) (H':aG) (ks:List Row),Rw H H' p ks (pJ S (x,y) t)->Q (.ref p) H'):cT [.tup [.int x,.int y],.str (aY (wd S (x,y) t))] H Q:=⟨_,_,_,rfl,⟨S,t,⟨rfl,hl,nd⟩,h⟩⟩
theorem yH(S:List Pt)(q:Pt)(n:Nat):pJ S q (n+1)=pJ S q n++(yz S (uw S q n)).toList:=by
 unfold pJ
 rw[pj,AN]
 congr 1
theorem Dj(S:List Pt)(q:Pt)(n:Nat):(pJ S q n).length<=n:=by
 unfold pJ
 exact eh (xl ..) (by rw[fT];exact aT _)
theorem Rp(S:List Pt)(q:Pt){i t:Nat}(h:i<=t):pJ S q i <+: pJ S q t:=by
 induction t with
 |zero=>rw[Nat.le_zero.mp h];exact EW _
 |succ t ih=>
  by_cases e:i=t+1
  ·rw[e];exact EW _
  ·rw[yH]
   exact (ih (by omega)).trans (List.prefix_append ..)
theorem Ws{S:List Pt}{q:Pt}{t i:Nat}{l:Lt}(h:(wd S q t)[i]?=some l):i<t/\l=ltN (outD S (uw S q i)):=by
 have hi:i<t:=by have:=(bb.mp h).1;rwa [Fz] at this
 refine⟨hi,?_⟩
 unfold wd at h
 rw[aS,kq hi,ng] at h
 exact (Option.some.inj h).symm
theorem Vt{d:Nat}(h:d<4):ltN d=1↔d=1:=by rcases c4 h with rfl | rfl | rfl | rfl <;> decide
theorem V6{d:Nat}(h:d<4):ltN d=3↔d=3:=by rcases c4 h with rfl | rfl | rfl | rfl <;> decide
theorem qF:∀(ds:List D) (H:aG) (Q:aX),cT ds H Q->ds.length=cN.length:=by
 intro ds H Q h
 obtain⟨_,_,_,rfl,_⟩:=h
 rfl
def jg:cI:=yw (izt (cR cj (aq (v3 0) (aq (v3 1) aK))) (v3 1)) (tO 3 4) (bV (mC (jx (o3 eO (v3 4) (c3 (.str "n")))) (Nz (m3 nZ (sd3 (v3 2) (o3 bD (v3 3) (c3 (.int 1))) (JT aK)) (aq (o3 bD (v3 3) (c3 (.int 0))) aK))) lW)
  (mC (jx (o3 eO (v3 4) (c3 (.str "s")))) (Nz (m3 nZ (sd3 (v3 2) (o3 jf (o3 bD (v3 3) (c3 (.int 1))) (c3 (.int 1))) (JT aK)) (aq (o3 bD (v3 3) (c3 (.int 0))) aK))) lW))
def gQ:cI:=(bV (st3 2 dnI)
  (bV jg
  (gR (v3 2))))
theorem ug:∀(ds:List D) (H:aG) (Q:aX),cT ds H Q->gQ (cY Q) (aM gO ds) H:=by
 intro ds H Q h
 obtain⟨x,y,z,rfl,h⟩:=h
 obtain⟨S,t,⟨rfl,hl,nd⟩,h⟩:=h
 (simp only[gQ,aM,gO];walk_at "l3t")
 walk_at "l3"
 intro p hp
 walk_at "l3"
 unfold jg
 walk_at "l3"
 refine il _ (by rw[Fz];omega) fun p2 hp2=>?_
 walk_at "l3"
 refine Wc aF (Fl _) ?_
 rw[ni,lE]
 have n12:p≠p2:=ne3 aF hp2
 have h20:H p2=none:=dJ (aN.fresh hp) hp2
 generalize hv:O3.lst ((path (x,y) (wd S (x,y) t)).map cF)=v
 have hs0:aN (aP H p2 v) (aP (aP H p (.dik [])) p2 v):=fun b o hb=>by
  by_cases e:b=p2
  ·rw[e,aF] at hb ⊢;exact hb
  ·rw[bA e] at hb ⊢;exact bB hb hp
 refine Lp.by (fun i σ H2=>(∃ks,Rw (aP H p2 v) H2 p ks (pJ S (x,y) i))/\∃c d,σ=[some (.tup [.int x,.int y]),some (.str (aY (wd S (x,y) t))),some (.ref p),c,d]) ⟨⟨[],hs0,by rw[bA n12];exact hp,bB aF hp2,by simp,by simp,by simp,by simp,by simp,(fun c hc=>by cases hc),by simp,by simp⟩,_,_,rfl⟩ (fun i σ H2 _ z=>by obtain⟨⟨ks,w⟩,_⟩:=z;exact w.sub _ _ aF) ?_ ?_
 ·rintro i dd σ H2 hd ⟨⟨ks,w⟩,c,d,rfl⟩
  rw[aS,b6] at hd
  obtain⟨⟨q,l⟩,hq,rfl⟩:=hd
  obtain⟨e1,e2⟩:=Ss hq
  obtain⟨hi,e3⟩:=Ws e2
  dsimp only at e1 e3
  rw[SQ S (x,y) (ij hi),Bu] at e1
  subst e1 e3
  have hd4:=BV (S:=S) (p:=uw S (x,y) i)
  have hul:=Dj S (x,y) i
  have ndi:=(Rp S (x,y) (show i+1<=t from hi)).sublist.nodup nd
  have hsn:=yH S (x,y) i
  unfold yz at hsn
  rw[hsn] at ndi
  unfold cF
  walk_at "l3"
  refine VJ ?_
  walk_at "l3"
  refine qX (fun h1=>?_) fun h1=>?_
  ·have h1':=(Vt hd4).mp h1
   rw[if_pos h1'] at hsn ndi
   walk_at "l3"
   refine Wd w.dic ?_
   walk_at "l3"
   intro r hr
   walk_at "l3"
   refine w.put hr (fun z=>(hV.mp ndi).2.2 _ z _ (ay.mpr rfl) rfl) (by omega) (fun H3 R q=>by walk_at "l3";exact q) fun H3 ks' w'=>?_
   walk_at "l3"
   refine I9 ?_
   walk_at "l3"
   refine qX (fun h3=>absurd (h1.symm.trans h3) (by decide)) fun h3=>?_
   walk_at "l3"
   exact⟨⟨ks',by rw[hsn];exact w'⟩,_,_,rfl⟩
  ·have h1':¬outD S (uw S (x,y) i)=1:=fun z=>h1 ((Vt hd4).mpr z)
   rw[if_neg h1'] at hsn ndi
   walk_at "l3"
   refine I9 ?_
   walk_at "l3"
   refine qX (fun h3=>?_) fun h3=>?_
   ·have h3':=(V6 hd4).mp h3
    rw[if_pos h3'] at hsn ndi
    walk_at "l3"
    refine Wd w.dic ?_
    walk_at "l3"
    intro r hr
    walk_at "l3"
    refine w.put hr (fun z=>(hV.mp ndi).2.2 _ z _ (ay.mpr rfl) rfl) (by omega) (fun H3 R q=>by walk_at "l3";exact q) fun H3 ks' w'=>?_
    walk_at "l3"
    exact⟨⟨ks',by rw[hsn];exact w'⟩,_,_,rfl⟩
   ·rw[if_neg fun z=>h3 ((V6 hd4).mpr z)] at hsn
    walk_at "l3"
    exact⟨⟨ks,by rw[hsn,show (none:Option Pt).toList=[] from rfl,fA];exact w⟩,_,_,rfl⟩
 ·rintro σ H2 ⟨⟨ks,w⟩,c,d,rfl⟩
  rw[aw,Jt,Fz] at w
  walk_at "l3"
  exact bF (h p H2 ks (w.weak (aN.fresh h20))) aN.refl
def mZ:mU:=fun ds H Q=>∃z,ds=[.str z]/\(∃r,Wz z r/\Q r H)
theorem Tp{z:Str}{r:D}{H:aG}{Q:aX}(hw:Wz z r)(h:Q r H):mZ [.str z] H Q:=⟨_,rfl,⟨r,hw,h⟩⟩
def four:List D:=[.str (aY [0]),.str (aY [1]),.str (aY [2]),.str (aY [3])]
theorem V5(ls:List Lt):su 4 (.str (aY ls))=some (.str (aY ls)):=by
 show (if iX (aY ls)=true then some (uS (aY ls)) else none)=_
 rw[if_pos (Jp ls)]
theorem Em{a:aE}{H:aG}(ha:H a=some (.lst four)):(yq H (.ref a)).bind (jW (su 4))=some [.str (aY [0]),.str (aY [1]),.str (aY [2]),.str (aY [3])]:=by
 rw[Bs ha,gy]
 simp only[four,jW,V5]
theorem Vx(l:Lt){a:aE}{H:aG}{Q:aX}(ha:H a=some (.lst four))(q:Q (.bl false) H):jM true (.str (qz l)) (.ref a) H Q:=by
 refine .inl ?_
 have e:su 4 (.str (qz l))=some (.str (aY [l])):=V5 [l]
 (delta wY;simp only[e,Em ha,if_true,gv,IY,We])
 have k:∀l:Lt,(!(decide ([(0:Lt)]=[l])||(decide ([(1:Lt)]=[l])||(decide ([(2:Lt)]=[l])||(decide ([(3:Lt)]=[l])||false)))))=false:=by decide
 rw[k l];exact q
theorem aao{c:Nat}(hc:c∈uH){a:aE}{H:aG}{Q:aX}(ha:H a=some (.lst four))(q:Q (.bl true) H):jM true (.str ⟨#[c]⟩) (.ref a) H Q:=by
 refine .inl ?_
 have e:su 4 (.str ⟨#[c]⟩)=some (.str ⟨#[c]⟩):=by
  show (if iX ⟨#[c]⟩=true then some (uS ⟨#[c]⟩) else none)=_
  rw[if_pos]
  show ([c]:List Nat).toArray.all (· < 0x110000)=true
  have:=uh c hc
  rw[ow]
  simp;omega
 have ne:∀k:Lt,fN (.str (aY [k])) (.str ⟨#[c]⟩)=false:=fun k=>by
  simp only[fN]
  refine beq_eq_false_iff_ne.mpr fun z=>?_
  have h1:=congrArg (fun z:Str=>z.cps.toList) z
  have h2:cp k=c:=by simpa [aY] using h1
  have h3:∀k:Lt,∀c∈uH,cp k≠c:=by decide
  exact h3 k c hc h2
 (delta wY;simp only[e,Em ha,if_true,gv,IY,ne]);exact q
theorem M7:∀(ds:List D) (H:aG) (Q:aX),mZ ds H Q->ds.length=oN.length:=by
 intro ds H Q h
 obtain⟨_,rfl,_⟩:=h
 rfl
def ql:cI:=yw (iez (v3 0)) (tO 1 2) (mC (jx (o3 (jM true) (v3 2) (JT (aq (c3 (.str "e")) (aq (c3 (.str "n")) (aq (c3 (.str "w")) (aq (c3 (.str "s")) aK))))))) (gR (fX (aq (c3 (.str "word")) (aq (v3 1) aK)))) lW)
def xJ:cI:=yw (V9 (o3 jf (cR fK (aq (v3 0) aK)) (c3 (.int 1)))) (vB 1) (mC (jx (o3 (jM false) (o3 bD (v3 3) (o3 bc (v3 1) (c3 (.int 1)))) (NK Lq (v3 3) Gj (NQ (o3 bc (v3 1) (c3 (.int 1))))))) (gR (fX (aq (c3 (.str "crossed")) (aq (v3 1) aK)))) lW)
def uZ:cI:=(bV ql
  (bV (mC (jx (o3 eO (v3 0) (c3 (.str "")))) (gR (fX (aq (c3 (.str "word")) (aq (c3 (.int 0)) aK)))) lW)
  (bV (st3 3 (cR lN (aq (fX (aq (c3 (.int 0)) (aq (c3 (.int 0)) aK))) (aq (v3 0) aK))))
  (bV (mC (jx (o3 Kr (o3 bD (v3 3) (u3 mL (c3 (.int 1)))) (fX (aq (c3 (.int 0)) (aq (c3 (.int 0)) aK))))) (gR (fX (aq (c3 (.str "open")) (aq (o3 bD (v3 3) (u3 mL (c3 (.int 1)))) aK)))) lW)
  (bV xJ
  (bV (st3 4 (cR lq (aq (v3 0) (aq (v3 3) aK))))
  (bV (mC (jx (o3 Ga (v3 4) (c3 (.int 0)))) (gR (fX (aq (c3 (.str "backward")) (aq (c3 (.int 0)) aK)))) lW)
  (bV (mC (jx (o3 YG (v3 4) (c3 (.int 10)))) (gR (fX (aq (c3 (.str "many")) (aq (c3 (.int 0)) aK)))) lW)
  (gR (fX (aq (c3 (.str "taken")) (aq (v3 4) aK))))))))))))
theorem R8:∀(ds:List D) (H:aG) (Q:aX),mZ ds H Q->uZ (cY Q) (aM vp ds) H:=by
 intro ds H Q h
 obtain⟨z,rfl,h⟩:=h
 obtain⟨r,hw,h⟩:=h
 cases hw with
 |no l1 l2 c hc g1 g2=>
  (simp only[uZ,aM,vp];walk_at "l3t")
  walk_at "l3"
  unfold ql
  walk_at "l3"
  refine Iw (V8 hc) ?_
  rw[Qj]
  refine Lp.by (fun i σ H2=>(aN H H2/\i<=l1.length)/\∃a b,σ=[some (.str (mY l1 c l2)),a,b,none,none]) ⟨⟨aN.refl,ef _⟩,_,_,rfl⟩ (fun _ _ _ _ _=>trivial) ?_ ?_
  ·rintro i d σ H2 hd ⟨⟨sb,hi⟩,a,b,rfl⟩
   obtain⟨x,hx,rfl⟩:=RJ hd
   by_cases z:i<l1.length
   ·rw[eL (by rw[aw];exact z),aS] at hx
    obtain⟨l,_,rfl⟩:=b6.mp hx
    show tO 1 2 (D.tup [.int i,D.str (qz l)]) _ _ _
    walk_at "l3"
    intro p hp
    walk_at "l3"
    refine Vx l aF ?_
    walk_at "l3"
    refine vg rfl ?_
    walk_at "l3"
    exact⟨⟨sb.trans (aN.fresh hp),z⟩,_,_,rfl⟩
   ·have zi:i=l1.length:=by omega
    rw[fg (by rw[aw];omega),aw,zi,IX] at hx
    obtain rfl:D.str ⟨#[c]⟩=x:=by simpa using hx
    show tO 1 2 (D.tup [.int i,D.str ⟨#[c]⟩]) _ _ _
    walk_at "l3"
    intro p hp
    walk_at "l3"
    refine aao hc aF ?_
    walk_at "l3"
    refine Iv rfl ?_
    walk_at "l3"
    rw[zi]
    exact bF h (sb.trans (aN.fresh hp))
  ·rintro σ H2 ⟨⟨sb,hi⟩,a,b,rfl⟩
   rw[zV,bo,aw,e8] at hi
   omega
 |ok ls hl=>
  (simp only[uZ,aM,vp];walk_at "l3t")
  walk_at "l3"
  unfold ql
  walk_at "l3"
  refine Iw (Fl ls) ?_
  rw[ni]
  refine Lp.by (fun i σ H2=>aN H H2/\∃a b,σ=[some (.str (aY ls)),a,b,none,none]) ⟨aN.refl,_,_,rfl⟩ (fun _ _ _ _ _=>trivial) ?_ ?_
  ·rintro i d σ H2 hd ⟨sb,a,b,rfl⟩
   obtain⟨n,l,rfl⟩:∃(n:Int) (l:Lt),d=.tup [.int n,.str (qz l)]:=by
    unfold pN at hd
    rw[lE,aS] at hd
    obtain⟨⟨n,l⟩,_,rfl⟩:=b6.mp hd
    exact⟨_,l,rfl⟩
   walk_at "l3"
   intro p hp
   walk_at "l3"
   refine Vx l aF ?_
   walk_at "l3"
   refine vg rfl ?_
   walk_at "l3"
   exact⟨sb.trans (aN.fresh hp),_,_,rfl⟩
  rintro σ H2 ⟨sb,a,b,rfl⟩
  walk_at "l3"
  refine Jg (bs:=[]) ?_
  walk_at "l3"
  refine qX (fun hn=>?_) fun hn=>?_
  ·walk_at "l3"
   subst hn
   exact bF h sb
  walk_at "l3"
  refine PL ls (by omega) fun p hp=>?_
  have k1:aP H2 p (.lst ((path (0,0) ls).map cF)) p=some (.lst ((path (0,0) ls).map cF)):=aF
  have sb1:aN H (aP H2 p (.lst ((path (0,0) ls).map cF))):=sb.trans (aN.fresh hp)
  generalize aP H2 p (.lst ((path (0,0) ls).map cF))=H3 at k1 sb1
  have at_:∀j:Nat,j<=ls.length->j7 ((path (0,0) ls).map cF) (j:Int)=some (.tup [.int (bC (0,0) (ls.take j)).1,.int (bC (0,0) (ls.take j)).2]):=fun j hj=>by
   unfold j7 K6
   rw[aw,fW,if_pos (by omega),if_pos (by omega),gy,aS,fe,kO,if_pos hj]
   rfl
  have last_:j7 ((path (0,0) ls).map cF) (-1)=some (.tup [.int (bC (0,0) ls).1,.int (bC (0,0) ls).2]):=by
   unfold j7 K6
   rw[aw,fW,if_neg (by omega),if_pos (by omega),gy,aS,show (-1+((ls.length+1:Nat):Int)).toNat=ls.length by omega,kO,if_pos (aT _),mh]
   rfl
  walk_at "l3"
  refine gY k1 last_ ?_
  walk_at "l3"
  refine ifN (fun z=>?_) fun z=>?_
  ·walk_at "l3"
   refine gY k1 last_ ?_
   walk_at "l3"
   rw[VF hn z] at h
   exact bF h sb1
  replace z:bC (0,0) ls=(0,0):=z
  refine Dn (Ry ?_)
  walk_at "l3"
  unfold xJ
  walk_at "l3"
  refine zW (by omega) ?_
  walk_at "l3"
  refine Lp.pN (fun i σ H4=>(aN H H4/\H4 p=some (.lst ((path (0,0) ls).map cF))/\∀k<i,Wn ls k=false)/\∃a b,σ=[some (.str (aY ls)),a,b,some (.ref p),none]) ⟨⟨sb1,k1,fun _ z=>absurd z (tm _)⟩,_,_,rfl⟩ ?_ ?_
  ·rintro i σ H4 hi ⟨⟨sb4,k4,hall⟩,a,b,rfl⟩
   have hi1:i+1<ls.length:=by omega
   rw[mv]
   walk_at "l3"
   refine gY k4 (i:=(i:Int)+1) (at_ (i+1) (ij hi1)) ?_
   walk_at "l3"
   intro p5 hp5
   have ec:mQ (path (0,0) ls) none (some ((i:Int)+1))=(dc (i+1)).map fun j=>bC (0,0) (ls.take j):=by
    unfold mQ HT.tL
    dsimp only
    rw[if_neg (by omega),fW,mM (by omega),A4,IT,show ((i:Int)+1).toNat=i+1 by omega]
    unfold path
    rw[←xp,FK,mM (by omega)]
   rw[Qz,ec]
   walk_at "l3"
   refine abE (Bs aF) ?_
   walk_at "l3"
   refine qX (fun hx=>?_) fun hx=>?_
   ·walk_at "l3"
    rw[V3 hn z (xG (by omega) hall (decide_eq_true hx))] at h
    exact bF h (sb4.trans (aN.fresh hp5))
   refine Dn (Ry ?_)
   refine⟨⟨sb4.trans (aN.fresh hp5),bB k4 hp5,fun k hk=>?_⟩,_,_,rfl⟩
   rcases xB.mp hk with y | rfl
   ·exact hall k y
   ·exact decide_eq_false hx
  rintro σ H4 ⟨⟨sb4,k4,hall⟩,a,b,rfl⟩
  have hx:bY ls=none:=vL fun k hk=>hall k (by omega)
  walk_at "l3"
  refine QR ls (by omega) k4 ?_
  walk_at "l3"
  refine qX (fun ha=>?_) fun ha=>?_
  ·walk_at "l3"
   rw[VM hn z hx ha] at h
   exact bF h sb4
  walk_at "l3"
  refine qX (fun hb=>?_) fun hb=>?_
  ·walk_at "l3"
   rw[Vu hn z hx ha hb] at h
   exact bF h sb4
  walk_at "l3"
  rw[VP hn z hx ha hb] at h
  exact bF h sb4
theorem Vq{ks:List Row}(nd:(ks.map (·.1)).Nodup){k:Row}(hk:k∈ks):d7 (GR ks) (.inl k.1)=some (.ref k.2.1):=by
 rw[wj]
 cases h:ks.find? fun j=>decide (j.1=k.1) with
 |none=>exact absurd (decide_eq_true rfl) (mw.mp h k hk)
 |some j=>
  have e:j.1=k.1:=by simpa using FU h
  rw[BP nd (wa h) hk e];rfl
theorem wy:∀ {l1:List Int} (l2:List Int),l1.length%2=0->fill (l1++l2)=fill l1++fill l2
 |[],_,_=>rfl
 |[_],_,h=>by simp at h
 |a::b::r,l2,h=>by
  show Fv a b++fill (r++l2)=Fv a b++fill r++fill l2
  rw[wy l2 (by simp at h;omega),xi]
theorem M5{l:List Int}{j:Nat}{a b:Int}(ha:l[2*j]?=some a)(hb:l[2*j+1]?=some b):fill (l.take (2*(j+1)))=fill (l.take (2*j))++Fv a b:=by
 have hl:=(bb.mp hb).1
 rw[show 2*(j+1)=2*j+1+1 by omega,ff,ff,ha,hb,xi,wy _ (by rw[d2];omega)]
 congr 1
 show Fv a b++[]=Fv a b
 rw[fA]
theorem Qo{l:List Int}(j:Nat)(hj:2*j<=l.length){x:Int}(h:x∈fill (l.take (2*j))):x∈fill l:=by
 have e:=wy (l1:=l.take (2*j)) (l.drop (2*j)) (by rw[d2];omega)
 rw[List.take_append_drop] at e
 rw[e]
 exact fo _ h
theorem JG(a b:Int):(Fv a b).length=(b-a).toNat:=by unfold Fv;rw[aw,fT]
theorem Tq{S:List Pt}{y a b:Int}(h:∀x∈Fv a b,(x,y)∈S):(b-a).toNat<=S.length:=by
 rw[←JG,←aw (f:=fun x=>(x,y))]
 refine sub_len ?_ fun c hc=>by obtain⟨x,hx,rfl⟩:=cn.mp hc;exact h x hx
 rw[cK,f7]
 exact (QC a b).imp fun hlt z=>by have:=(Prod.mk.inj z).1;omega
theorem ur{l:List Int}(h:l.Pairwise (·<=·))(nd:l.Nodup):l.Pairwise (· < ·):=(h.and (cK.mp nd)).imp fun z=>by omega
section
variable(G:aG)(S:List Pt)(x y:Int)(z:Str)(p p3 p4:aE)(ms:List Int)
inductive CwA(i:Nat):cz->aG->Prop
 |mk {H2:aG} (rws:List (Int×List Int)) (a b c:Option D) (sb:aN G H2) (k4:H2 p4=some (.lst (ms.map D.int))) (h1:rws.map (·.1)=ms.take i) (h2:∀v∈rws,v.2.Pairwise (· < ·)/\∀x',x'∈v.2↔K3 S x' v.1) (h3:H2 p3=some (.lst (((rws.map KD).flatten).map cF))) (h4:((rws.map KD).flatten).length<=i*10000):CwA i [some (.tup [.int x,.int y]),some (.str z),some (.ref p),some (.ref p3),a,b,c] H2
inductive CwB(cs:List Pt)(m:Int)(xs:List Int)(p5:aE)(j:Nat):cz->aG->Prop
 |mk {H3:aG} (c:Option D) (sb:aN G H3) (k4:H3 p4=some (.lst (ms.map D.int))) (k5:H3 p5=some (.lst (xs.map D.int))) (k3:H3 p3=some (.lst ((cs++(fill (xs.take (2*j))).map fun x'=>(x',m)).map cF))) (kl:(fill (xs.take (2*j))).length<=j*100):CwB cs m xs p5 j [some (.tup [.int x,.int y]),some (.str z),some (.ref p),some (.ref p3),some (.int m),some (.ref p5),c] H3
end
def cM:mU:=fun ds H Q=>∃x y z,ds=[.tup [.int x,.int y],.str z]/\(∃S t,(z=aY (wd S (x,y) t)/\t<=60/\Dg S/\S.Nodup/\S.length<=100/\xQ S (x,y)/\Zd S (x,y) t)/\∀p,H p=none->Q (.ref p) (aP H p (.lst ((jw S).map cF))))
theorem v9{S:List Pt}{x y:Int}{t:Nat}{H:aG}{Q:aX}(hl:t<=60)(g:Dg S)(nd:S.Nodup)(hS:S.length<=100)(hcr:xQ S (x,y))(r:Zd S (x,y) t)(h:∀p,H p=none->Q (.ref p) (aP H p (.lst ((jw S).map cF)))):cM [.tup [.int x,.int y],.str (aY (wd S (x,y) t))] H Q:=⟨_,_,_,rfl,⟨S,t,⟨rfl,hl,g,nd,hS,hcr,r⟩,h⟩⟩
theorem tG:∀(ds:List D) (H:aG) (Q:aX),cM ds H Q->ds.length=cV.length:=by
 intro ds H Q h
 obtain⟨_,_,_,rfl,_⟩:=h
 rfl
def jP:cI:=yw (iru (c3 (.int 0)) (cR fK (aq (v3 5) aK)) (c3 (.int 2))) (vB 6) (Nz (m3 Dw (v3 3) (aq (R9 (ir2 (o3 bD (v3 5) (v3 6)) (o3 bD (v3 5) (o3 bc (v3 6) (c3 (.int 1))))) (vB 0) yu (fX (aq (v3 0) (aq (v3 1) aK))) ["x"] [(4, "y")]) aK)))
def jC:cI:=yw (O6 (cR Al (aq (v3 2) aK))) (vB 4) (bV (st3 5 (cR rG (aq (gi3 (v3 2) (v3 4)) aK)))
  jP)
def iZ:cI:=(bV (st3 2 (cR cT (aq (v3 0) (aq (v3 1) aK))))
  (bV (st3 3 (JT aK))
  (bV jC
  (gR (v3 3)))))
theorem uR:∀(ds:List D) (H:aG) (Q:aX),cM ds H Q->iZ (cY Q) (aM fM ds) H:=by
 intro ds H Q h
 obtain⟨x,y,z,rfl,h⟩:=h
 obtain⟨S,t,⟨rfl,hl,g,nd,hS,hcr,r⟩,h⟩:=h
 have hmu:=fun c:Pt=>Qa g hcr r (c:=c)
 have hul:=Dj S (x,y) t
 (simp only[iZ,aM,fM];walk_at "l3t")
 walk_at "l3"
 refine uM (by omega) (Tj hcr r) fun p G ks w=>?_
 have hkl:=w.len
 walk_at "l3"
 intro p3 hp3
 walk_at "l3"
 unfold jC
 walk_at "l3"
 refine Tr (ns:=ks.map (·.1)) (bB w.dic hp3) (by unfold GR;rw[eA,eA];rfl) (by rw[aw];omega) fun ms p4 hpm hpw hp4=>?_
 have n34:p3≠p4:=ne3 aF hp4
 have h4:G p4=none:=dJ (aN.fresh hp3) hp4
 have hmn:ms.Nodup:=hpm.nodup_iff.mpr w.ndk
 have hml:ms.length<=60:=by rw[hpm.length_eq,aw];omega
 walk_at "l3"
 refine Lp.by (CwA G S x y _ p p3 p4 ms) (.mk [] _ _ _ ((aN.fresh hp3).trans (aN.fresh hp4)) aF rfl (by simp) (bB aF hp4) (ef _)) (fun i σ H2 _ z=>by cases z with | mk _ _ _ _ _ k4=>exact k4) ?_ ?_
 ·rintro i d σ H2 hd ⟨rws,a,b,c,hs,k4,hr1,hr2,k3,hrl⟩
  rw[aS] at hd
  obtain⟨m,hm,rfl⟩:=b6.mp hd
  have hi:=(bb.mp hm).1
  obtain⟨k,hk,rfl⟩:=cn.mp (hpm.mem_iff.mp (iA hm))
  have hkx:=w.lnx k hk
  walk_at "l3"
  refine aa6 (hs _ _ w.dic) (Vq w.ndk hk) ?_
  walk_at "l3"
  refine Vc (hs _ _ (w.lst k hk).1) (by omega) fun xs p5 hxp hxw hp5=>?_
  have hxl:xs.length<=60:=by rw[hxp.length_eq];omega
  have hx1:=ur hxw (hxp.nodup_iff.mpr (w.ndx k hk))
  have hx2:∀x',x'∈xs↔K3 S x' k.1:=fun x'=>by rw[hxp.mem_iff,w.mem k hk,hmu]
  obtain⟨hev,hfm,hfl⟩:=Ce hx1 hx2
  have n35:p3≠p5:=ne3 k3 hp5
  have n45:p4≠p5:=ne3 k4 hp5
  have h5:G p5=none:=dJ hs hp5
  walk_at "l3"
  unfold jP
  walk_at "l3"
  rw[aw,show ((((xs.length:Nat):Int)-0+1) / 2).toNat=xs.length / 2 by omega]
  refine Lp.by (CwB G x y _ p p3 p4 ms (rws.map KD).flatten k.1 xs p5) (.mk _ (hs.trans (aN.fresh hp5)) (bB k4 hp5) aF (by rw[bB k3 hp5];show _=some (O3.lst ((_++[]).map cF));rw[fA]) (ef _)) (fun _ _ _ _ _=>trivial) ?_ ?_
  ·rintro j d σ H3 hd ⟨c,hs3,j4,j5,j3,jl⟩
   have hj:j<xs.length / 2:=by have:=(bb.mp hd).1;rwa [u5] at this
   rw[JL hj] at hd
   cases hd
   have ha:xs[2*j]?=some xs[2*j]:=dA (by omega)
   have hb:xs[2*j+1]?=some xs[2*j+1]:=dA (by omega)
   generalize xs[2*j]=u at ha
   generalize xs[2*j+1]=v at hb
   have hft:=M5 ha hb
   have hfew:(v-u).toNat<=S.length:=Tq fun x' hx'=>(hfm x').mp (Qo (j+1) (by omega) (by rw[hft];exact eD _ hx'))
   have at_:∀(q:Nat) (e:Int),xs[q]?=some e->j7 (xs.map D.int) (q:Int)=some (.int e):=fun q e he=>by
    have:=(bb.mp he).1
    unfold j7 K6
    rw[aw,if_pos (by omega),if_pos (by omega),gy,aS,fe,he];rfl
   walk_at "l3"
   refine gY j5 (i:=0+2*(j:Int)) (by rw[show (0+2*(j:Int))=((2*j:Nat):Int) by omega];exact at_ _ _ ha) ?_
   walk_at "l3"
   refine gY j5 (i:=0+2*(j:Int)+1) (by rw[show (0+2*(j:Int)+1)=((2*j+1:Nat):Int) by omega];exact at_ _ _ hb) ?_
   walk_at "l3"
   refine Cp.pN (fun e=>.tup [.int (u+(e:Int)),.int k.1]) (by omega) ?_ ?_
   ·intro e he R H4 hs4 hR
    walk_at "l3"
    exact hR H4 aN.refl
   intro p6 hp6
   have n36:p3≠p6:=ne3 j3 hp6
   walk_at "l3"
   refine aa5 (bB j3 hp6) aF (by rw[aw,bo,aw,aw,fT,bJ];omega) ?_
   walk_at "l3"
   refine .mk _ (fun q o hq=>by rw[bA (ne3 hq hp3)];exact bB (hs3 q o hq) hp6) (by rw[bA n34.symm];exact bB j4 hp6) (by rw[bA n35.symm];exact bB j5 hp6) ?_ ?_
   ·rw[aF,hft]
    unfold Fv
    simp only[d0,eA,xi]
    rfl
   ·rw[hft,bo,JG];omega
  ·rintro σ H3 ⟨c,hs3,j4,j5,j3,jl⟩
   rw[u5,ez (by omega)] at j3 jl
   walk_at "l3"
   have efl:((rws++[(k.1,xs)]).map KD).flatten=(rws.map KD).flatten++(fill xs).map fun x'=>(x',k.1):=by
    rw[d0,List.flatten_append]
    congr 1
    show [KD (k.1,xs)].flatten=_
    rw[List.flatten_singleton];rfl
   refine .mk (rws++[(k.1,xs)]) _ _ _ hs3 j4 ?_ ?_ ?_ ?_
   ·rw[d0,hr1,ff,hm];rfl
   ·intro v hv
    rcases dE.mp hv with hv | hv
    ·exact hr2 v hv
    ·rw[ay.mp hv];exact⟨hx1,hx2⟩
   ·rw[efl];exact j3
   ·rw[efl,bo,aw];omega
 ·rintro σ H2 ⟨rws,a,b,c,hs,k4,hr1,hr2,k3,hrl⟩
  rw[aw,ez (aT _)] at hr1
  have ok:abD S rws:=⟨by rw[←f7 (f:=fun v:Int×List Int=>v.1) (R:=(· < ·)),hr1];exact ur hpw hmn,fun v hv=>(hr2 v hv).1,fun v hv=>(hr2 v hv).2,fun x' y' hu=>by
   have h1:=w.all _ ((hmu (x',y')).mpr hu)
   rw[←hpm.mem_iff,←hr1] at h1
   obtain⟨v,hv,e⟩:=cn.mp h1
   exact⟨v,hv,e⟩⟩
  rw[Hs nd ok] at k3
  walk_at "l3"
  refine bF (h p3 (dJ w.sub hp3)) fun q o hq=>?_
  by_cases e:q=p3
  ·rw[e,aF] at hq;rw[e,k3];exact hq
  ·rw[bA e] at hq;exact hs _ _ (w.sub _ _ hq)
def JX(s:Pt)(p:Pt):Pt:=(p.1+s.1,p.2+s.2)
def TF(s:Pt)(ps:List Pt):List Pt:=jw (ps.map (JX s))
def jq:mU:=fun ds H Q=>∃a sx sy,ds=[.ref a,.tup [.int sx,.int sy]]/\(∃(ps:List Pt) (T:aE),(H a=some (.lst (ps.map cF))/\ps.length<=60/\H T=some (.tab "_law_piece"))/\∀o:O3,Q (.tup ((TF (sx,sy) ps).map cF)) (aP H T o))
theorem JZ{ps:List Pt}{a T:aE}{sx sy:Int}{H:aG}{Q:aX}(ha:H a=some (.lst (ps.map cF)))(hl:ps.length<=60)(hT:H T=some (.tab "_law_piece"))(h:∀o:O3,Q (.tup ((TF (sx,sy) ps).map cF)) (aP H T o)):jq [.ref a,.tup [.int sx,.int sy]] H Q:=⟨_,_,_,rfl,⟨ps,T,⟨ha,hl,hT⟩,h⟩⟩
theorem Uk{H:aG}{p q T:aE}{o u v w0:O3}(hp:H p=none)(hT:H T=some w0)(hq0:aP H p u q=none):aN (aP H T o) (aP (aP (aP H p u) T o) q v):=by
 have hq:aP (aP H p u) T o q=none:=by
  by_cases z:q=T
  ·rw[z,bB hT hp] at hq0;cases hq0
  ·rw[bA z];exact hq0
 intro b w e
 have hb:aP (aP H p u) T o b=some w:=by
  by_cases z:b=T
  ·rw[z,aF] at e ⊢;exact e
  ·rw[bA z] at e ⊢;exact bB e hp
 exact bB hb hq
theorem Fb:∀(ds:List D) (H:aG) (Q:aX),jq ds H Q->ds.length=iB.length:=by
 intro ds H Q h
 obtain⟨_,_,_,rfl,_⟩:=h
 rfl
def uo:cI:=(bV (st3 2 (R9 (O6 (v3 0)) (vB 0) yu (fX (aq (o3 bc (o3 bD (v3 0) (c3 (.int 0))) (o3 bD (v3 1) (c3 (.int 0)))) (aq (o3 bc (o3 bD (v3 0) (c3 (.int 1))) (o3 bD (v3 1) (c3 (.int 1)))) aK))) ["_law_cell"] [(1, "_law_shift")]))
  (gR (cR jR (aq (soL "_law_piece" 177 46 (v3 2)) aK))))
theorem Gd:∀(ds:List D) (H:aG) (Q:aX),jq ds H Q->uo (cY Q) (aM o9 ds) H:=by
 intro ds H Q h
 obtain⟨a,sx,sy,rfl,h⟩:=h
 obtain⟨ps,T,⟨ha,hl,hT⟩,h⟩:=h
 (simp only[uo,aM,o9];walk_at "l3t")
 walk_at "l3"
 refine Cp.map (E:=cF) (as:=ps) (fun p=>cF (JX (sx,sy) p)) (fun H2 hs2=>hs2 _ _ ha) (by omega) ?_ ?_
 ·intro i c hc R H2 hs2 hR
  unfold cF
  walk_at "l3"
  exact hR H2 aN.refl
 intro p hp
 walk_at "l3"
 refine Ze (T:=T) (ps:=ps.map (JX (sx,sy))) (by rw[aF,eA];rfl) (by rw[aw];omega) (.inl (bB hT hp)) fun q hq=>?_
 walk_at "l3"
 exact bF (h _) (Uk hp hT hq)
inductive InO(E:iT)(Q:aX)(H:aG):Str->Prop
 |bad (l1 l2:List Lt) (c:Nat) (hc:c∈uH) (g1:l1.length<=60) (g2:l2.length<=60) (h:∀H2,aN H H2->E ⟨"NoWord",[("place",.int (l1.length:Int))]⟩ H2):InO E Q H (mY l1 c l2)
 |word (ls:List Lt) (hl:ls.length<=60) (h0:ls=[]->∀H2,aN H H2->E ⟨"NoWord",[("place",.int 0)]⟩ H2) (h1:ls≠[]->¬bC (0,0) ls=(0,0)->∀H2,aN H H2->E ⟨"Open",[("way",.tup [.int (bC (0,0) ls).1,.int (bC (0,0) ls).2])]⟩ H2)
  (h2:∀k:Nat,ls≠[]->bC (0,0) ls=(0,0)->bY ls=some k->∀H2,aN H H2->E ⟨"Crossed",[("place",.int (k:Int))]⟩ H2)
  (h3:ls≠[]->bC (0,0) ls=(0,0)->bY ls=none->ar (0,0) ls<=0->∀H2,aN H H2->E ⟨"Backward",[]⟩ H2) (h4:ls≠[]->bC (0,0) ls=(0,0)->bY ls=none->¬ar (0,0) ls<=0->10<ar (0,0) ls->∀H2,aN H H2->E ⟨"TooMany",[]⟩ H2)
  (h5:ls≠[]->bC (0,0) ls=(0,0)->bY ls=none->¬ar (0,0) ls<=0->¬10<ar (0,0) ls->∀ps:List Pt,(ps.length:Int)=ar (0,0) ls->Q (.tup (ps.map cF)) H):InO E Q H (aY ls)
def fV:OJ:=fun ds H Q E=>∃x y z,ds=[.tup [.int x,.int y],.str z]/\InO E Q H z
theorem uz{x y:Int}{z:Str}{H:aG}{Q:aX}{E:iT}(h:InO E Q H z):fV [.tup [.int x,.int y],.str z] H Q E:=⟨x,y,z,rfl,h⟩
theorem yp:∀(ds:List D) (H:aG) (Q:aX) (E:iT),fV ds H Q E->ds.length=fj.length:=by
 intro ds H Q E h
 obtain⟨_,_,_,rfl,_⟩:=h
 rfl
def jD(E:iT):cI:=(bV (Nz (cbE cu (aq (v3 1) aK) E))
  (bV (st3 2 (cR lA (aq (v3 1) aK)))
  (bV (mC (jx (o3 Kr (v3 2) (fX (aq (c3 (.int 0)) (aq (c3 (.int 0)) aK))))) (ZL E "Open" "way" (v3 2)) lW)
  (bV (Nz (cbE cG (aq (v3 1) aK) E))
  (bV (st3 3 (cR jd (aq (v3 1) aK)))
  (bV (mC (jx (o3 Ga (v3 3) (c3 (.int 0)))) (rz3 E "Backward" (c3 (.str "the word does not go round cells at its left hand"))) lW)
  (bV (mC (jx (o3 YG (v3 3) (c3 (.int 10)))) (rz3 E "TooMany" (c3 (.str "the word goes round more than ten cells"))) lW)
  (gR (cR jR (aq (cR cM (aq (v3 0) (aq (v3 1) aK))) aK))))))))))
theorem Ah:∀(ds:List D) (H:aG) (Q:aX) (E:iT),fV ds H Q E->jD E (cY Q) (aM jG ds) H:=by
 intro ds H Q E h
 obtain⟨x,y,z,rfl,h⟩:=h
 cases h with
 |bad l1 l2 c hc g1 g2 h=>
  (simp only[jD,aM,jG];walk_at "l3t")
  walk_at "l3"
  exact Dq hc g1 g2 (h _ aN.refl)
 |word ls hl h0 h1 h2 h3 h4 h5=>
  (simp only[jD,aM,jG];walk_at "l3t")
  walk_at "l3"
  refine uG (by omega) (fun z=>h0 z _ aN.refl) fun hn=>?_
  walk_at "l3"
  refine RK _ (by omega) ?_
  walk_at "l3"
  refine ifN (fun z=>?_) fun z=>?_
  ·walk_at "l3"
   exact⟨_,aN.refl,h1 hn z _ aN.refl⟩
  replace z:bC (0,0) ls=(0,0):=z
  walk_at "l3"
  refine qM hn (by omega) (fun k hk=>h2 k hn z hk _ aN.refl) fun hx=>?_
  walk_at "l3"
  refine Lk _ (by omega) ?_
  walk_at "l3"
  refine qX (fun ha=>?_) fun ha=>?_
  ·walk_at "l3"
   exact⟨_,aN.refl,h3 hn z hx ha _ aN.refl⟩
  walk_at "l3"
  refine qX (fun hb=>?_) fun hb=>?_
  ·walk_at "l3"
   exact⟨_,aN.refl,h4 hn z hx ha hb _ aN.refl⟩
  walk_at "l3"
  obtain⟨S,nS,dg,cr,r,ew,al⟩:=adl (c:=(x,y)) z hl (Lf hx) (by omega)
  have hu:cM [.tup [.int x,.int y],.str (aY (wd S (x,y) ls.length))] H fun d H1=>jR [d] H1 (fun d H1=>(cY Q).rt d H1):=?_
  ·rw[ew] at hu;exact hu
  refine v9 hl dg nS (by omega) cr r fun p hp=>?_
  walk_at "l3"
  exact bF (h5 hn z hx ha hb (jw S) (by rw[sU];exact al)) (aN.fresh hp)
theorem LR{ps:List Pt}(s:Pt)(hn:ps≠[]):∃s0,(TF s ps)[0]?=some s0/\xQ (TF s ps) s0:=by
 have hs:=qC (ps.map (JX s))
 have hl:=sU (ps.map (JX s))
 have e:TF s ps=jw (ps.map (JX s)):=rfl
 rw[←e] at hs hl
 cases h:TF s ps with
 |nil=>rw[h,aw] at hl;exact absurd (sD hl.symm) hn
 |cons m r=>
  rw[h] at hs
  refine⟨m,rfl,0,by omega,eg,fun z=>?_⟩
  rw[YD] at z
  rcases bE.mp z with z | z
  ·have:=congrArg nh z;dsimp only at this;omega
  ·have:=(kL.mp hs).1 _ z
   unfold xR at this
   rw[lO] at this
   dsimp only at this
   omega
theorem Va(s:Pt)(ps:List Pt):(TF s ps).length=ps.length:=by unfold TF;rw[sU,aw]
def jc:mU:=fun ds H Q=>∃xs,ds=[.fl xs]/\(∃(ns:List Int) (T:aE),(xs=ns.map D.int/\ns.length<=63/\H T=some (.tab "_law_piece"))/\∀(ls:List Lt) (H2:aG),ls.length<=50->Q (.str (aY ls)) H2)
theorem Mp{ns:List Int}{T:aE}{H:aG}{Q:aX}(hl:ns.length<=63)(hT:H T=some (.tab "_law_piece"))(h:∀(ls:List Lt) (H2:aG),ls.length<=50->Q (.str (aY ls)) H2):jc [.fl (ns.map D.int)] H Q:=⟨_,rfl,⟨ns,T,⟨rfl,hl,hT⟩,h⟩⟩
theorem Ek:∀(ds:List D) (H:aG) (Q:aX),jc ds H Q->ds.length=iQ.length:=by
 intro ds H Q h
 obtain⟨_,rfl,_⟩:=h
 rfl
def sI:cI:=(bV (st3 1 (cR bz (aq (v3 0) (aq (c3 (.int 0)) aK))))
  (bV (mC (jx (o3 eO (o3 cP (v3 1) (c3 (.int 4))) (c3 (.int 0)))) (gR (cR iw (aq (v3 0) (aq (c3 (.int 4)) (aq (o3 cP (cR bz (aq (v3 0) (aq (c3 (.int 1)) aK))) (c3 (.int 17))) aK))))) lW)
  (bV (mC (jx (o3 eO (o3 cP (v3 1) (c3 (.int 4))) (c3 (.int 1)))) (bV (st3 2 (cR iw (aq (v3 0) (aq (c3 (.int 4)) (aq (o3 cP (cR bz (aq (v3 0) (aq (c3 (.int 1)) aK))) (c3 (.int 9))) aK)))))
  (gR (o3 bc (v3 2) (NK oG (cR iy (aq (v3 2) aK)) (NQ (o3 cP (o3 gj (cR bz (aq (v3 0) (aq (c3 (.int 1)) aK))) (c3 (.int 9))) (c3 (.int 3)))) Gj)))) lW)
  (bV (st3 2 (cR dD (aq (cR bz (aq (v3 0) (aq (c3 (.int 1)) aK))) aK)))
  (bV (mC (jx (o3 eO (o3 cP (v3 1) (c3 (.int 4))) (c3 (.int 2)))) (st3 2 (cR jr (aq (cR jq (aq (cR jj (aq (v3 0) (aq (c3 (.int 4)) (aq (o3 bc (c3 (.int 1)) (o3 cP (cR bz (aq (v3 0) (aq (c3 (.int 1)) aK))) (c3 (.int 10)))) aK)))) (aq (fX (aq (c3 (.int 0)) (aq (c3 (.int 0)) aK))) aK))) aK))) lW)
  (bV (st3 3 (o3 cP (o3 gj (v3 1) (c3 (.int 4))) (cR fK (aq (v3 2) aK))))
  (gR (o3 bc (NK oG (v3 2) (NQ (v3 3)) Gj) (NK oG (v3 2) Gj (NQ (v3 3)))))))))))
theorem G5:∀(ds:List D) (H:aG) (Q:aX),jc ds H Q->sI (cY Q) (aM sW ds) H:=by
 intro ds H Q h
 obtain⟨xs,rfl,h⟩:=h
 obtain⟨ns,T,⟨rfl,hl,hT⟩,h⟩:=h
 (simp only[sI,aM,sW];walk_at "l3t")
 walk_at "l3"
 refine qX (fun m=>?_) fun m=>?_
 ·walk_at "l3"
  have v0:=gX (cat ns (pT 1)) (b:=17) (by omega)
  have v1:=gi (cat ns (pT 1)) (b:=17) (by omega)
  refine CN (by omega) (by omega) v0 (by omega) hl fun ls e=>?_
  walk_at "l3"
  exact bF (h ls H (by omega)) aN.refl
 walk_at "l3"
 refine qX (fun m1=>?_) fun m1=>?_
 ·walk_at "l3"
  have v0:=gX (cat ns (pT 1)) (b:=9) (by omega)
  have v1:=gi (cat ns (pT 1)) (b:=9) (by omega)
  refine CN (by omega) (by omega) v0 (by omega) hl fun ls e=>?_
  walk_at "l3"
  refine En ls (by omega) ?_
  walk_at "l3"
  obtain⟨k,ek⟩:=gL (gX (cat ns (pT 1) / 9) (b:=3) (by omega))
  rw[ek]
  refine rH (vm _ (by rw[vH];omega)) ?_
  rw[rJ]
  walk_at "l3"
  refine oH (by rw[fI,vH];omega) ?_
  exact bF (h _ H (by rw[bo,fI,vH];omega)) aN.refl
 walk_at "l3"
 refine xY fun lr h0 h26=>?_
 walk_at "l3"
 refine qX (fun m2=>?_) fun m2=>?_
 case' refine_1=>
  walk_at "l3"
  have v0:=gX (cat ns (pT 1)) (b:=10) (by omega)
  have v1:=gi (cat ns (pT 1)) (b:=10) (by omega)
  refine Mz hl ⟨by decide,by decide⟩ ⟨by omega,by omega⟩ fun ps p hp gw hpl sc=>?_
  walk_at "l3"
  refine JZ aF (by omega) (bB hT hp) fun o=>?_
  have hne:=vv gw.z
  obtain⟨s0,hs0,hcr⟩:=LR (0,0) hne
  have hlS:(TF (0,0) ps).length<=10:=by rw[Va];omega
  walk_at "l3"
  refine K1 hs0 hlS hcr fun ls q0 q1=>?_
  generalize aP (aP H p (.lst (ps.map cF))) T o=H2
 case' refine_2=>
  refine Dn (Ry ?_)
  obtain⟨ls,els⟩:∃ls,ls=lr:=⟨_,rfl⟩
  obtain⟨H2,eH⟩:∃H2,H2=H:=⟨_,rfl⟩
  rw[←els,←eH]
  have q0:0<ls.length:=by rw[els];exact h0
  have q1:ls.length<=40:=by rw[els];omega
 all_goals
  have hz:=vm ls (by omega)
  have q2:(0:Int)<(ls.length:Int):=by omega
  walk_at "l3"
  refine zW (by omega) ?_
  walk_at "l3"
  obtain⟨k,ek⟩:=gL (gX (cat ns (pT 0) / 4) (b:=(ls.length:Int)) (by omega))
  have kl:k<ls.length:=by have:=gi (cat ns (pT 0) / 4) q2;omega
  rw[ek]
  refine rH hz ?_
  rw[rJ]
  walk_at "l3"
  refine rH hz ?_
  rw[DR]
  walk_at "l3"
  refine oH (by rw[fI,d2];omega) ?_
  exact bF (h _ H2 (by rw[bo,fI,d2];omega)) aN.refl
def iK:mU:=fun ds H Q=>∃w0_ w1_ z,ds=[.tup [.int w0_,.int w1_],.str z]/\(∃r,Wz z r/\Q r H)
theorem Cq{x y:Int}{z:Str}{r:D}{H:aG}{Q:aX}(hw:Wz z r)(h:Q r H):iK [.tup [.int x,.int y],.str z] H Q:=⟨_,_,_,rfl,⟨r,hw,h⟩⟩
theorem FJ:∀(ds:List D) (H:aG) (Q:aX),iK ds H Q->ds.length=j8.length:=by
 intro ds H Q h
 obtain⟨_,_,_,rfl,_⟩:=h
 rfl
def vU:cI:=(bV (st3 2 (c3 .non))
  (bV (st3 3 (c3 .non))
  (bV (WM (sxS 2 (cbE fV (aq (v3 0) (aq (v3 1) aK)))) ["NoWord", "Open", "Crossed", "Backward", "TooMany"] 4 (st3 3 (cR fG (aq (v3 4) aK))))
  (bV (mC (jx (o3 Fw (v3 3) (c3 .non))) (gR (v3 3)) lW)
  (bV (mC (no3 (jx (cR wQ (aq (v3 2) (aq (c3 (.ty "tuple")) aK))))) (gR (fX (aq (c3 (.str "otherwise")) (aq (c3 (.int 0)) aK)))) lW)
  (gR (fX (aq (c3 (.str "taken")) (aq (cR fK (aq (v3 2) aK)) aK)))))))))
theorem MJ:∀(ds:List D) (H:aG) (Q:aX),iK ds H Q->vU (cY Q) (aM xH ds) H:=by
 intro ds H Q h
 obtain⟨x,y,z,rfl,h⟩:=h
 obtain⟨r,hw,h⟩:=h
 (simp only[vU,aM,xH];walk_at "l3t")
 walk_at "l3"
 cases hw with
 |no l1 l2 c hc g1 g2=>
  refine uz (.bad l1 l2 c hc g1 g2 fun H2 s2=>⟨by simp,fun a hx=>?_⟩)
  walk_at "l3"
  refine eX (.word _) aF ?_
  walk_at "l3"
  refine Iv rfl ?_
  walk_at "l3"
  exact bF h (s2.trans (aN.fresh hx))
 |ok ls hl=>
  refine uz (.word ls hl (fun e H2 s2=>⟨by simp,fun a hx=>?_⟩) (fun hn e H2 s2=>⟨by simp,fun a hx=>?_⟩) (fun k hn e hc H2 s2=>⟨by simp,fun a hx=>?_⟩) (fun hn e hc h3 H2 s2=>⟨by simp,fun a hx=>?_⟩) (fun hn e hc h3 h4 H2 s2=>⟨by simp,fun a hx=>?_⟩) (fun hn e hc h3 h4 ps hp=>?_))
  ·subst e
   walk_at "l3"
   refine eX (.word _) aF ?_
   walk_at "l3"
   refine Iv rfl ?_
   walk_at "l3"
   exact bF h (s2.trans (aN.fresh hx))
  ·rw[VF hn e] at h
   walk_at "l3"
   refine eX (.opn _ _) aF ?_
   walk_at "l3"
   refine Iv rfl ?_
   walk_at "l3"
   exact bF h (s2.trans (aN.fresh hx))
  ·rw[V3 hn e hc] at h
   walk_at "l3"
   refine eX (.crs _) aF ?_
   walk_at "l3"
   refine Iv rfl ?_
   walk_at "l3"
   exact bF h (s2.trans (aN.fresh hx))
  ·rw[VM hn e hc h3] at h
   walk_at "l3"
   refine eX .bkw aF ?_
   walk_at "l3"
   refine Iv rfl ?_
   walk_at "l3"
   exact bF h (s2.trans (aN.fresh hx))
  ·rw[Vu hn e hc h3 h4] at h
   walk_at "l3"
   refine eX .mny aF ?_
   walk_at "l3"
   refine Iv rfl ?_
   walk_at "l3"
   exact bF h (s2.trans (aN.fresh hx))
  ·rw[VP hn e hc h3 h4,←hp] at h
   walk_at "l3"
   refine vg rfl ?_
   walk_at "l3"
   refine vg rfl ?_
   walk_at "l3"
   rw[aw]
   exact bF h aN.refl
inductive Rv:D->Prop
 |int (s:Str) (hs:iX s=true) (i:Int):Rv (.tup [.str s,.int i])
 |pr (s:Str) (hs:iX s=true) (x y:Int):Rv (.tup [.str s,.tup [.int x,.int y]])
theorem X7(ls:List Lt):Rv (t8 ls):=by
 unfold t8
 split
 ·exact .int _ (by decide +kernel) _
 ·split
  ·exact .pr _ (by decide +kernel) _ _
  ·split
   ·exact .int _ (by decide +kernel) _
   ·split
    ·exact .int _ (by decide +kernel) _
    ·split
     ·exact .int _ (by decide +kernel) _
     ·exact .int _ (by decide +kernel) _
theorem Wz.rv{z:Str}{r:D}(h:Wz z r):Rv r:=by
 cases h with
 |ok ls _=>exact X7 ls
 |no=>exact .int _ (by decide +kernel) _
theorem VG{r:D}{H:aG}{Q:aX}(hr:Rv r)(q:Q (.bl true) H):eO r r H Q:=by
 cases hr with
 |int s hs i=>(delta eO MT;simp only[su,jW,hs,if_true,ng,fN,sf,xo,beq_self_eq_true]);exact q
 |pr s hs x y=>(delta eO MT;simp only[su,jW,hs,if_true,ng,fN,sf,xo,beq_self_eq_true]);exact q
def tu:mU:=fun ds H Q=>∃xs,ds=[.fl xs]/\((match intsOf xs with
  |some ns=>(ns.length<=63/\∃T,H T=some (.tab "_law_piece"))/\∀H':aG,Q (.bl true) H'
  |none=>False))
theorem Ka{ns:List Int}{T:aE}{H:aG}(h:ns.length<=63)(hT:H T=some (.tab "_law_piece")):tu [.fl (ns.map D.int)] H (fun d _=>d=.bl true):=by
 refine⟨_,rfl,?_⟩
 simp only[eN]
 exact⟨⟨h,T,hT⟩,fun _=>trivial⟩
theorem Vd:∀(ds:List D) (H:aG) (Q:aX),tu ds H Q->ds.length=OD.length:=by
 intro ds H Q h
 obtain⟨_,rfl,_⟩:=h
 rfl
def O4:cI:=(bV (st3 1 (cR gK (aq (cR bz (aq (v3 0) (aq (c3 (.int 2)) aK))) (aq (cR bz (aq (v3 0) (aq (c3 (.int 3)) aK))) aK))))
  (bV (st3 2 (cR fH (aq (cR jc (aq (v3 0) aK)) (aq (o3 bc (o3 gj (cR bz (aq (v3 0) (aq (c3 (.int 0)) aK))) (c3 (.int 4))) (cR bz (aq (v3 0) (aq (c3 (.int 3)) aK)))) aK))))
  (bV (st3 3 (cR mZ (aq (v3 2) aK)))
  (gR (av3 (o3 eO (cR iK (aq (v3 1) (aq (v3 2) aK))) (v3 3)) (o3 eO (cR iK (aq (v3 1) (aq (v3 2) aK))) (v3 3)))))))
theorem Xi:∀(ds:List D) (H:aG) (Q:aX),tu ds H Q->O4 (cY Q) (aM RQ ds) H:=by
 intro ds H Q h
 obtain⟨xs,rfl,h⟩:=h
 split at h
 case h_2=>exact h.elim
 rename_i ns e
 have e':=dG e
 subst e'
 obtain⟨⟨hl,T,hT⟩,h⟩:=h
 (simp only[O4,aM,RQ];walk_at "l3t")
 walk_at "l3"
 refine Hz fun x y=>?_
 walk_at "l3"
 refine Mp hl hT fun ls H2 hls=>?_
 walk_at "l3"
 refine CZ hls fun z r hw=>?_
 walk_at "l3"
 refine Tp hw ?_
 walk_at "l3"
 refine Cq hw ?_
 walk_at "l3"
 refine VG hw.rv ?_
 walk_at "l3"
 refine Iv rfl ?_
 walk_at "l3"
 refine Cq hw ?_
 walk_at "l3"
 refine VG hw.rv ?_
 walk_at "l3"
 exact bF (h _) aN.refl
abbrev vq:gg:=top 1
abbrev ik:gg:=top 21
abbrev rP:gg:=top 22
abbrev oX:gg:=top 23
abbrev d9:gg:=top 25
abbrev dB:gg:=top 26
abbrev eG:gg:=top 27
abbrev dH:gg:=top 28
abbrev jT:gg:=top 29
abbrev jN:gg:=top 31
abbrev mD:gg:=top 32
abbrev qG:gg:=top 33
abbrev qR:gg:=top 36
abbrev qU:gg:=top 37
abbrev nP:gg:=top 38
abbrev fc:gg:=top 39
abbrev pq:gg:=top 40
abbrev lC:gg:=top 41
abbrev oZ:gg:=top 42
abbrev gG:gg:=top 43
abbrev ph:gg:=top 44
abbrev jH:gg:=top 45
abbrev rA:gg:=top 46
abbrev vz:gg:=top 47
abbrev pF:gg:=top 48
abbrev jK:gg:=top 49
abbrev rD:gg:=top 50
abbrev qJ:gg:=top 51
abbrev fQ:gg:=inClass (top 16) 0
abbrev gH:gg:=inClass (top 15) 0
abbrev jF:gg:=inClass (top 17) 0
theorem RM:aR vC oR (az vq):=⟨rfl,rfl,rfl,by decide +kernel,rfl,by decide +kernel,by decide +kernel⟩
theorem j0:aR mj dO (az ik):=⟨rfl,rfl,rfl,by decide +kernel,rfl,by decide +kernel,by decide +kernel⟩
theorem Ln:aR xK kI (az rP):=⟨rfl,rfl,rfl,by decide +kernel,rfl,by decide +kernel,by decide +kernel⟩
theorem ji:aR tD iG (az oX):=⟨rfl,rfl,rfl,by decide +kernel,rfl,by decide +kernel,by decide +kernel⟩
theorem kW:aR eE cJ (az d9):=⟨rfl,rfl,rfl,by decide +kernel,rfl,by decide +kernel,by decide +kernel⟩
theorem cD:aR fO bZ (az dB):=⟨rfl,rfl,rfl,by decide +kernel,rfl,by decide +kernel,by decide +kernel⟩
theorem f9:aR gO cN (az eG):=⟨rfl,rfl,rfl,by decide +kernel,rfl,by decide +kernel,by decide +kernel⟩
theorem cL:aR fM cV (az dH):=⟨rfl,rfl,rfl,by decide +kernel,rfl,by decide +kernel,by decide +kernel⟩
theorem mH:aR jG fj (az jT):=⟨rfl,rfl,rfl,by decide +kernel,rfl,by decide +kernel,by decide +kernel⟩
theorem Bq:aR oA eY (az jN):=⟨rfl,rfl,rfl,by decide +kernel,rfl,by decide +kernel,by decide +kernel⟩
theorem Dk:aR pX fZ (az mD):=⟨rfl,rfl,rfl,by decide +kernel,rfl,by decide +kernel,by decide +kernel⟩
theorem KH:aR xr lg (az qG):=⟨rfl,rfl,rfl,by decide +kernel,rfl,by decide +kernel,by decide +kernel⟩
theorem pA:aR wg lD (az qR):=⟨rfl,rfl,rfl,by decide +kernel,rfl,by decide +kernel,by decide +kernel⟩
theorem o6:aR wz lH (az qU):=⟨rfl,rfl,rfl,by decide +kernel,rfl,by decide +kernel,by decide +kernel⟩
theorem Kl:aR qQ lK (az nP):=⟨rfl,rfl,rfl,by decide +kernel,rfl,by decide +kernel,by decide +kernel⟩
theorem b7:aR gk iC (az fc):=⟨rfl,rfl,rfl,by decide +kernel,rfl,by decide +kernel,by decide +kernel⟩
theorem dM:aR sJ iz (az pq):=⟨rfl,rfl,rfl,by decide +kernel,rfl,by decide +kernel,by decide +kernel⟩
theorem xu:aR o9 iB (az lC):=⟨rfl,rfl,rfl,by decide +kernel,rfl,by decide +kernel,by decide +kernel⟩
theorem cQ:aR sV iI (az oZ):=⟨rfl,rfl,rfl,by decide +kernel,rfl,by decide +kernel,by decide +kernel⟩
theorem jo:aR jY di (az gG):=⟨rfl,rfl,rfl,by decide +kernel,rfl,by decide +kernel,by decide +kernel⟩
theorem gm:aR sW iQ (az ph):=⟨rfl,rfl,rfl,by decide +kernel,rfl,by decide +kernel,by decide +kernel⟩
theorem rZ:aR oE fB (az jH):=⟨rfl,rfl,rfl,by decide +kernel,rfl,by decide +kernel,by decide +kernel⟩
theorem oV:aR vR lQ (az rA):=⟨rfl,rfl,rfl,by decide +kernel,rfl,by decide +kernel,by decide +kernel⟩
theorem oF:aR vp oN (az vz):=⟨rfl,rfl,rfl,by decide +kernel,rfl,by decide +kernel,by decide +kernel⟩
theorem gn:aR tY iH (az pF):=⟨rfl,rfl,rfl,by decide +kernel,rfl,by decide +kernel,by decide +kernel⟩
theorem By:aR nM eZ (az jK):=⟨rfl,rfl,rfl,by decide +kernel,rfl,by decide +kernel,by decide +kernel⟩
theorem iJ:aR xH j8 (az rD):=⟨rfl,rfl,rfl,by decide +kernel,rfl,by decide +kernel,by decide +kernel⟩
theorem BJ:aR RQ OD (az qJ):=⟨rfl,rfl,rfl,by decide +kernel,rfl,by decide +kernel,by decide +kernel⟩
theorem uE:aR xN jt (az fQ):=⟨rfl,rfl,rfl,by decide +kernel,rfl,by decide +kernel,by decide +kernel⟩
theorem wF:aR yh jZ (az gH):=⟨rfl,rfl,rfl,by decide +kernel,rfl,by decide +kernel,by decide +kernel⟩
theorem zY:aR Cj m9 (az jF):=⟨rfl,rfl,rfl,by decide +kernel,rfl,by decide +kernel,by decide +kernel⟩
theorem Pr:pK "added" "added" vq oR:=fun _ _ _ _ _ _ _ _=>rfl
theorem yc:pK "corners_of" "corners_of" ik dO:=fun _ _ _ _ _ _ _ _=>rfl
theorem M8:pK "way_of" "way_of" rP kI:=fun _ _ _ _ _ _ _=>rfl
theorem Hk:pK "area_of" "area_of" oX iG:=fun _ _ _ _ _ _ _=>rfl
theorem sX:pK "check_letters" "check_letters" d9 cJ:=fun _ _ _ _ _ _ _=>rfl
theorem pZ:pK "check_crossings" "check_crossings" dB bZ:=fun _ _ _ _ _ _ _=>rfl
theorem sS:pK "upright_sides" "upright_sides" eG cN:=fun _ _ _ _ _ _ _ _=>rfl
theorem uJ:pK "cells_within" "cells_within" dH cV:=fun _ _ _ _ _ _ _ _=>rfl
theorem Bk:pK "inside_of" "inside_of" jT fj:=fun _ _ _ _ _ _ _ _=>rfl
theorem zU:pK "_law_cell_at" "_law_cell_at" jN eY:=fun _ _ _ _ _ _ _ _=>rfl
theorem CT:pK "_law_corner" "_law_corner" mD fZ:=fun _ _ _ _ _ _ _ _=>rfl
theorem K7:pK "_law_step" "_law_step" qG lg:=fun _ _ _ _ _ _ _=>rfl
theorem Nr:pK "_law_path" "_law_path" qR lD:=fun _ _ _ _ _ _ _ _=>rfl
theorem Nt:pK "_law_back" "_law_back" qU lH:=fun _ _ _ _ _ _ _=>rfl
theorem Mg:pK "_law_word" "_law_word" nP lK:=fun _ _ _ _ _ _ _ _ _=>rfl
theorem Hx:pK "_law_holed" "_law_holed" fc iC:=fun _ _ _ _ _ _ _=>rfl
theorem FQ:pK "_law_grown" "_law_grown" pq iz:=fun _ _ _ _ _ _ _ _ _=>rfl
theorem HS:pK "_law_piece" "_law_piece" lC iB:=fun _ _ _ _ _ _ _ _=>rfl
theorem Gq:pK "_law_round" "_law_round" oZ iI:=fun _ _ _ _ _ _ _=>rfl
theorem wV:pK "_law_rectangle" "_law_rectangle" gG di:=fun _ _ _ _ _ _ _=>rfl
theorem HX:pK "_law_drawn" "_law_drawn" ph iQ:=fun _ _ _ _ _ _ _=>rfl
theorem Ai:pK "_law_changed" "_law_changed" jH fB:=fun _ _ _ _ _ _ _ _=>rfl
theorem J4:pK "_law_area" "_law_area" rA lQ:=fun _ _ _ _ _ _ _ _=>rfl
theorem Oa:pK "_law_due" "_law_due" vz oN:=fun _ _ _ _ _ _ _=>rfl
theorem FT:pK "_law_alone" "_law_alone" pF iH:=fun _ _ _ _ _ _ _=>rfl
theorem Bm:pK "_law_refusal" "_law_refusal" jK eZ:=fun _ _ _ _ _ _ _=>rfl
theorem Kp:pK "_law_told" "_law_told" rD j8:=fun _ _ _ _ _ _ _ _=>rfl
theorem uF:pK "__init__" "Crossed.__init__" fQ jt:=fun _ _ _ _ _ _ _ _=>rfl
theorem vJ:pK "__init__" "NoWord.__init__" gH jZ:=fun _ _ _ _ _ _ _ _=>rfl
theorem Br:pK "__init__" "Open.__init__" jF m9:=fun _ _ _ _ _ _ _ _=>rfl
structure Tx(K:ae)(mg:Str->Option af)(w:cE):Prop where
 f_added:bR K mg "added" vq oR
 f_corners_of:bR K mg "corners_of" ik dO
 f_way_of:bR K mg "way_of" rP kI
 f_area_of:bR K mg "area_of" oX iG
 f_check_letters:bR K mg "check_letters" d9 cJ
 f_check_crossings:bR K mg "check_crossings" dB bZ
 f_upright_sides:bR K mg "upright_sides" eG cN
 f_cells_within:bR K mg "cells_within" dH cV
 f_inside_of:bR K mg "inside_of" jT fj
 f_l_cell_at:bR K mg "_law_cell_at" jN eY
 f_l_corner:bR K mg "_law_corner" mD fZ
 f_l_step:bR K mg "_law_step" qG lg
 f_l_path:bR K mg "_law_path" qR lD
 f_l_back:bR K mg "_law_back" qU lH
 f_l_word:bR K mg "_law_word" nP lK
 f_l_holed:bR K mg "_law_holed" fc iC
 f_l_grown:bR K mg "_law_grown" pq iz
 f_l_piece:bR K mg "_law_piece" lC iB
 f_l_round:bR K mg "_law_round" oZ iI
 f_l_rectangle:bR K mg "_law_rectangle" gG di
 f_l_drawn:bR K mg "_law_drawn" ph iQ
 f_l_changed:bR K mg "_law_changed" jH fB
 f_l_area:bR K mg "_law_area" rA lQ
 f_l_due:bR K mg "_law_due" vz oN
 f_l_alone:bR K mg "_law_alone" pF iH
 f_l_refusal:bR K mg "_law_refusal" jK eZ
 f_l_told:bR K mg "_law_told" rD j8
 m_ValueError:mg "ValueError" = none
 m_enumerate:mg "enumerate" = none
 m_int:mg "int" = none
 m_isinstance:mg "isinstance" = none
 m_len:mg "len" = none
 m_max:mg "max" = none
 m_min:mg "min" = none
 m_range:mg "range" = none
 m_sorted:mg "sorted" = none
 m_tuple:mg "tuple" = none
 m_zip:mg "zip" = none
 x_Backward:QK K "Backward"
 x_TooMany:QK K "TooMany"
 s_Backward_FloorError:yd K "Backward" "FloorError"
 s_Crossed_FloorError:yd K "Crossed" "FloorError"
 s_NoWord_FloorError:yd K "NoWord" "FloorError"
 s_Open_FloorError:yd K "Open" "FloorError"
 s_TooMany_FloorError:yd K "TooMany" "FloorError"
 i_Backward_Apart:dI K "Backward" "Apart" false
 i_Backward_Backward:dI K "Backward" "Backward" true
 i_Backward_Crossed:dI K "Backward" "Crossed" false
 i_Backward_Hole:dI K "Backward" "Hole" false
 i_Backward_NoDrawing:dI K "Backward" "NoDrawing" false
 i_Backward_NoFloor:dI K "Backward" "NoFloor" false
 i_Backward_NoGrid:dI K "Backward" "NoGrid" false
 i_Backward_NoLine:dI K "Backward" "NoLine" false
 i_Backward_NoPiece:dI K "Backward" "NoPiece" false
 i_Backward_NoWord:dI K "Backward" "NoWord" false
 i_Backward_NotAsMany:dI K "Backward" "NotAsMany" false
 i_Backward_Nothing:dI K "Backward" "Nothing" false
 i_Backward_Open:dI K "Backward" "Open" false
 i_Backward_TooMany:dI K "Backward" "TooMany" false
 i_Backward_ValueError:ZZ K "Backward" "ValueError" true
 i_Crossed_Apart:dI K "Crossed" "Apart" false
 i_Crossed_Backward:dI K "Crossed" "Backward" false
 i_Crossed_Crossed:dI K "Crossed" "Crossed" true
 i_Crossed_Hole:dI K "Crossed" "Hole" false
 i_Crossed_NoDrawing:dI K "Crossed" "NoDrawing" false
 i_Crossed_NoFloor:dI K "Crossed" "NoFloor" false
 i_Crossed_NoGrid:dI K "Crossed" "NoGrid" false
 i_Crossed_NoLine:dI K "Crossed" "NoLine" false
 i_Crossed_NoPiece:dI K "Crossed" "NoPiece" false
 i_Crossed_NoWord:dI K "Crossed" "NoWord" false
 i_Crossed_NotAsMany:dI K "Crossed" "NotAsMany" false
 i_Crossed_Nothing:dI K "Crossed" "Nothing" false
 i_Crossed_Open:dI K "Crossed" "Open" false
 i_Crossed_TooMany:dI K "Crossed" "TooMany" false
 i_Crossed_ValueError:ZZ K "Crossed" "ValueError" true
 i_NoWord_Apart:dI K "NoWord" "Apart" false
 i_NoWord_Backward:dI K "NoWord" "Backward" false
 i_NoWord_Crossed:dI K "NoWord" "Crossed" false
 i_NoWord_Hole:dI K "NoWord" "Hole" false
 i_NoWord_NoDrawing:dI K "NoWord" "NoDrawing" false
 i_NoWord_NoFloor:dI K "NoWord" "NoFloor" false
 i_NoWord_NoGrid:dI K "NoWord" "NoGrid" false
 i_NoWord_NoLine:dI K "NoWord" "NoLine" false
 i_NoWord_NoPiece:dI K "NoWord" "NoPiece" false
 i_NoWord_NoWord:dI K "NoWord" "NoWord" true
 i_NoWord_NotAsMany:dI K "NoWord" "NotAsMany" false
 i_NoWord_Nothing:dI K "NoWord" "Nothing" false
 i_NoWord_Open:dI K "NoWord" "Open" false
 i_NoWord_TooMany:dI K "NoWord" "TooMany" false
 i_NoWord_ValueError:ZZ K "NoWord" "ValueError" true
 i_Open_Apart:dI K "Open" "Apart" false
 i_Open_Backward:dI K "Open" "Backward" false
 i_Open_Crossed:dI K "Open" "Crossed" false
 i_Open_Hole:dI K "Open" "Hole" false
 i_Open_NoDrawing:dI K "Open" "NoDrawing" false
 i_Open_NoFloor:dI K "Open" "NoFloor" false
 i_Open_NoGrid:dI K "Open" "NoGrid" false
 i_Open_NoLine:dI K "Open" "NoLine" false
 i_Open_NoPiece:dI K "Open" "NoPiece" false
 i_Open_NoWord:dI K "Open" "NoWord" false
 i_Open_NotAsMany:dI K "Open" "NotAsMany" false
 i_Open_Nothing:dI K "Open" "Nothing" false
 i_Open_Open:dI K "Open" "Open" true
 i_Open_TooMany:dI K "Open" "TooMany" false
 i_Open_ValueError:ZZ K "Open" "ValueError" true
 i_TooMany_Apart:dI K "TooMany" "Apart" false
 i_TooMany_Backward:dI K "TooMany" "Backward" false
 i_TooMany_Crossed:dI K "TooMany" "Crossed" false
 i_TooMany_Hole:dI K "TooMany" "Hole" false
 i_TooMany_NoDrawing:dI K "TooMany" "NoDrawing" false
 i_TooMany_NoFloor:dI K "TooMany" "NoFloor" false
 i_TooMany_NoGrid:dI K "TooMany" "NoGrid" false
 i_TooMany_NoLine:dI K "TooMany" "NoLine" false
 i_TooMany_NoPiece:dI K "TooMany" "NoPiece" false
 i_TooMany_NoWord:dI K "TooMany" "NoWord" false
 i_TooMany_NotAsMany:dI K "TooMany" "NotAsMany" false
 i_TooMany_Nothing:dI K "TooMany" "Nothing" false
 i_TooMany_Open:dI K "TooMany" "Open" false
 i_TooMany_TooMany:dI K "TooMany" "TooMany" true
 i_TooMany_ValueError:ZZ K "TooMany" "ValueError" true
 xk_Crossed:Uo K "Crossed" "place" "Crossed.__init__" fQ jt
 xk_NoWord:Uo K "NoWord" "place" "NoWord.__init__" gH jZ
 xk_Open:Uo K "Open" "way" "Open.__init__" jF m9
 xb_FloorError:XBs K mg "FloorError"
 xf_place:Dm K ["NoWord", "Crossed"] "place"
 xf_way:Dm K ["Open"] "way"
 d_STEPS:∃a,mg "STEPS" = some (.ref a)/\DC K w a pG
 c_MOST_CELLS:∃tk,mg "MOST_CELLS" = some (.int 10 tk)
section
variable{P:b5}{w:cE}{K:ae}{mg:Str->Option af}{base:eJ}
theorem Dc(T:Tx K mg w):Dt P w K mg base 1 "Crossed" "place" :=
 zT T.xk_Crossed uE rfl fun g cdv A outer s H E=>rF (uV (Bd (pl:=_) T.xb_FloorError (jO (pv 0) (jO zZ vK)))) (vh (BL (pv 0) (pv 1)))
theorem wR(T:Tx K mg w):Dt P w K mg base 1 "NoWord" "place" :=
 zT T.xk_NoWord wF rfl fun g cdv A outer s H E=>rF (uV (Bd (pl:=_) T.xb_FloorError (jO (pv 0) (jO zZ vK)))) (vh (BL (pv 0) (pv 1)))
theorem Oo(T:Tx K mg w):Dt P w K mg base 1 "Open" "way" :=
 zT T.xk_Open zY rfl fun g cdv A outer s H E=>rF (uV (Bd (pl:=_) T.xb_FloorError (jO (pv 0) (jO zZ vK)))) (vh (BL (pv 0) (pv 1)))
theorem Ou(T:Tx K mg w):Fn P w K mg base 1 "added" oR mX :=
 jV (t:=vy) T.f_added RM Lh (fun f cdv A outer s H E hr=>(aJ (bu (aV (aa (aH aL (bw fC (ao 0) au) (bw fC (ao 1) au)) (aa (aH aL (bw fC (ao 0) au) (bw fC (ao 1) au)) aA)))))) Pj
theorem bM(T:Tx K mg w):Fn P w K mg base 1 "_law_cell_at" eY bz :=
 jV (t:=nu) T.f_l_cell_at Bq yo (fun f cdv A outer s H E hr=>(aD (bU (bG (Hm hr.xg) (ao 1) (bN fU rfl T.m_len (by rfl) (aa (ao 0) aA))) (aJ (bu (bw fC (ao 0) (ao 1)))) bH)
   (aD (bU (bG (dq hr.units) (bN fU rfl T.m_len (by rfl) (aa (ao 0) aA)) au) (aJ (bu au)) bH)
   (aJ (bu (aH bK (aH lJ (bw fC (ao 0) (aH bK (ao 1) (bN fU rfl T.m_len (by rfl) (aa (ao 0) aA)))) (aH aL au (aH lJ (ao 1) (ao 1)))) au)))))) Ac
theorem Ea(T:Tx K mg w):Fn P w K mg base 1 "_law_corner" fZ gK :=
 jV (t:=qg) T.f_l_corner Dk Ar (fun f cdv A outer s H E hr=>(aD (bU (bG (dq hr.units) (aH bK (ao 0) au) au) (aJ (bu (aV (aa (aH dC (aH bK (aH dj (ao 0) au) au) au) (aa (aH dC (aH bK (aH dj (ao 1) au) au) au) aA))))) bH)
   (aJ (bu (aV (aa (aH dC (aH bK (ao 0) (aH aL (aH lJ au (aH uY au au)) au)) (aH uY au au)) (aa (aH dC (aH bK (ao 1) (aH aL (aH lJ au (aH uY au au)) au)) (aH uY au au)) aA))))))) Er
theorem oU(T:Tx K mg w):Fn P w K mg base 1 "_law_step" lg fu :=
 jV (t:=vY) T.f_l_step KH Hw (fun f cdv A outer s H E hr=>(aJ (bu (bw fC (gU (aa (aV (aa au (aa au aA))) (aa (aV (aa au (aa au aA))) (aa (aV (aa (pQ gA au) (aa au aA))) (aa (aV (aa au (aa (pQ gA au) aA))) aA))))) (Qy zD zI zO bj (aa (ao 0) aA)))))) Lx
theorem yX(T:Tx K mg w):Fn P w K mg base 1 "_law_back" lH iy :=
 jV (t:=wJ) T.f_l_back o6 Ia (fun f cdv A outer s H E hr=>(aD (aU 1 o6.nd bj)
   (aD (dh eI rfl (Bo (ao 0)) (d8 2 o6.nd) (aJ (aU 1 o6.nd (aH aL (bw fC bj (Qy zD zI zO bj (aa (ao 2) aA))) (ao 1)))))
   (aJ (bu (ao 1)))))) Kz
theorem G7(T:Tx K mg w):Fn P w K mg base 1 "_law_holed" iC jb :=
 jV (t:=tQ) T.f_l_holed b7 Dh (fun f cdv A outer s H E hr=>(aD (aU 1 b7.nd (aH aL (bN (Jz rfl) rfl T.m_max (by rfl) (aa (oM (fv:=[]) (by show dR (az fc) gk _ _ _ _;exact⟨rfl,by decide +kernel,by decide +kernel,by decide +kernel,rfl,by decide +kernel,by decide +kernel⟩) rfl (ir (ao 0)) (fun pins cl s1 H1 fp=>iV) (fun pins cl s1 H1 fp=>(bw fC (ao 0) au))) aA)) au))
   (aD (aU 2 b7.nd (aH dC (bN (Il rfl) rfl T.m_min (by rfl) (aa (oM (fv:=[]) (by show dR (az fc) gk _ _ _ _; exact ⟨rfl,by decide +kernel,by decide +kernel,by decide +kernel,rfl,by decide +kernel,by decide +kernel⟩) rfl (ir (ao 0)) (fun pins cl s1 H1 fp => iV) (fun pins cl s1 H1 fp => (bw fC (ao 0) au))) aA)) au))
   (aD (aU 3 b7.nd (aH aL (bN (Jz rfl) rfl T.m_max (by rfl) (aa (oM (fv:=[]) (by show dR (az fc) gk _ _ _ _; exact ⟨rfl,by decide +kernel,by decide +kernel,by decide +kernel,rfl,by decide +kernel,by decide +kernel⟩) rfl (ir (ao 0)) (fun pins cl s1 H1 fp => iV) (fun pins cl s1 H1 fp => (bw fC (ao 0) au))) aA)) au))
   (aD (aU 4 b7.nd (aH dC (bN (Il rfl) rfl T.m_min (by rfl) (aa (oM (fv:=[]) (by show dR (az fc) gk _ _ _ _; exact ⟨rfl,by decide +kernel,by decide +kernel,by decide +kernel,rfl,by decide +kernel,by decide +kernel⟩) rfl (ir (ao 0)) (fun pins cl s1 H1 fp => iV) (fun pins cl s1 H1 fp => (bw fC (ao 0) au))) aA)) au))
   (aD (aU 5 b7.nd (gU (aa (aV (aa (ao 2) (aa (ao 4) aA))) aA)))
   (aD (aU 6 b7.nd (Ey hr.xg (aV (aa (ao 2) (aa (ao 4) aA))) CP))
   (aD (dh eI rfl (ir (ao 0)) (d8 7 b7.nd) (aJ (vG hr.units (ao 6) (ao 7) CP)))
   (aD (aU 8 b7.nd au)
   (aD (Dr eI (bG (Hm hr.xg) (ao 8) (bN fU rfl T.m_len (by rfl) (aa (ao 5) aA))) (aD (dh eI rfl (ir (gU (aa (aV (aa au (aa au aA))) (aa (aV (aa au (aa au aA))) (aa (aV (aa (pQ gA au) (aa au aA))) (aa (aV (aa au (aa (pQ gA au) aA))) aA)))))) (d8 9 b7.nd) (aD (aU 10 b7.nd (aV (aa (aH aL (bw fC (bw fC (ao 5) (ao 8)) au) (bw fC (ao 9) au)) (aa (aH aL (bw fC (bw fC (ao 5) (ao 8)) au) (bw fC (ao 9) au)) aA))))
   (aJ (bU (aaz (JP (zF tU tU (ao 2) (bw fC (ao 10) au) (ao 1)) (JP (zF tU tU (ao 4) (bw fC (ao 10) au) (ao 3)) (QD (bG (mG hr.units) (ao 10) (ao 6)))))) (aD (vG hr.units (ao 6) (ao 10) CP)
   (aJ (gr (wB hZ ia oW (ao 5) (aa (ao 10) aA))))) bH))))
   (aJ (aU 8 b7.nd (aH aL (ao 8) au)))))
   (aJ (bu (Ax (Hm hr.xg) (bN Ep rfl T.m_len (by rfl) (aa (ao 6) aA)) (aH lJ (aH aL (aH dC (ao 1) (ao 2)) au) (aH aL (aH dC (ao 3) (ao 4)) au))))))))))))))) FP
theorem wN(T:Tx K mg w):Fn P w K mg base 1 "_law_rectangle" di dD :=
 jV (t:=jX) T.f_l_rectangle jo uL (fun f cdv A outer s H E hr=>(aD (aU 1 jo.nd (aH aL au (aH bK (ao 0) au)))
   (aD (aU 2 jo.nd (aH aL au (aH bK (aH dj (ao 0) au) au)))
   (aJ (bu (aH aL (aH aL (aH aL (aH qT bj (ao 1)) (aH qT bj (ao 2))) (aH qT bj (ao 1))) (aH qT bj (ao 2)))))))) wG
theorem Ew(T:Tx K mg w):FnH P w K mg base 1 "_law_alone" iH ju :=
 VH (t:=sY) T.f_l_alone gn Du (fun f cdv A outer s H hr=>(aD (aU 1 gn.nd (aH aL (aH aL (bQ dw rfl T.m_int (by rfl) (aa (cZ (aB T.i_NoWord_NoWord (aB T.i_Open_NoWord (aB T.i_Crossed_NoWord (aB T.i_Backward_NoWord (aB T.i_TooMany_NoWord bW))))) T.m_isinstance (ao 0)) aA)) (bQ dw rfl T.m_int (by rfl) (aa (cZ (aB T.i_NoWord_Open (aB T.i_Open_Open (aB T.i_Crossed_Open (aB T.i_Backward_Open (aB T.i_TooMany_Open bW))))) T.m_isinstance (ao 0)) aA))) (bQ dw rfl T.m_int (by rfl) (aa (cZ (aB T.i_NoWord_Crossed (aB T.i_Open_Crossed (aB T.i_Crossed_Crossed (aB T.i_Backward_Crossed (aB T.i_TooMany_Crossed bW))))) T.m_isinstance (ao 0)) aA))))
   (aD (aU 1 gn.nd (aH aL (aH aL (aH aL (ao 1) (bQ dw rfl T.m_int (by rfl) (aa (cZ (aB T.i_NoWord_Backward (aB T.i_Open_Backward (aB T.i_Crossed_Backward (aB T.i_Backward_Backward (aB T.i_TooMany_Backward bW))))) T.m_isinstance (ao 0)) aA))) (bQ dw rfl T.m_int (by rfl) (aa (cZ (aB T.i_NoWord_TooMany (aB T.i_Open_TooMany (aB T.i_Crossed_TooMany (aB T.i_Backward_TooMany (aB T.i_TooMany_TooMany bW))))) T.m_isinstance (ao 0)) aA))) (bQ dw rfl T.m_int (by rfl) (aa (cZ (aB T.i_NoWord_NoPiece (aB T.i_Open_NoPiece (aB T.i_Crossed_NoPiece (aB T.i_Backward_NoPiece (aB T.i_TooMany_NoPiece bW))))) T.m_isinstance (ao 0)) aA))))
   (aD (aU 1 gn.nd (aH aL (aH aL (aH aL (ao 1) (bQ dw rfl T.m_int (by rfl) (aa (cZ (aB T.i_NoWord_NoDrawing (aB T.i_Open_NoDrawing (aB T.i_Crossed_NoDrawing (aB T.i_Backward_NoDrawing (aB T.i_TooMany_NoDrawing bW))))) T.m_isinstance (ao 0)) aA))) (bQ dw rfl T.m_int (by rfl) (aa (cZ (aB T.i_NoWord_NoGrid (aB T.i_Open_NoGrid (aB T.i_Crossed_NoGrid (aB T.i_Backward_NoGrid (aB T.i_TooMany_NoGrid bW))))) T.m_isinstance (ao 0)) aA))) (bQ dw rfl T.m_int (by rfl) (aa (cZ (aB T.i_NoWord_NotAsMany (aB T.i_Open_NotAsMany (aB T.i_Crossed_NotAsMany (aB T.i_Backward_NotAsMany (aB T.i_TooMany_NotAsMany bW))))) T.m_isinstance (ao 0)) aA))))
   (aD (aU 1 gn.nd (aH aL (aH aL (aH aL (ao 1) (bQ dw rfl T.m_int (by rfl) (aa (cZ (aB T.i_NoWord_NoFloor (aB T.i_Open_NoFloor (aB T.i_Crossed_NoFloor (aB T.i_Backward_NoFloor (aB T.i_TooMany_NoFloor bW))))) T.m_isinstance (ao 0)) aA))) (bQ dw rfl T.m_int (by rfl) (aa (cZ (aB T.i_NoWord_NoLine (aB T.i_Open_NoLine (aB T.i_Crossed_NoLine (aB T.i_Backward_NoLine (aB T.i_TooMany_NoLine bW))))) T.m_isinstance (ao 0)) aA))) (bQ dw rfl T.m_int (by rfl) (aa (cZ (aB T.i_NoWord_Nothing (aB T.i_Open_Nothing (aB T.i_Crossed_Nothing (aB T.i_Backward_Nothing (aB T.i_TooMany_Nothing bW))))) T.m_isinstance (ao 0)) aA))))
   (aD (aU 1 gn.nd (aH aL (aH aL (ao 1) (bQ dw rfl T.m_int (by rfl) (aa (cZ (aB T.i_NoWord_Apart (aB T.i_Open_Apart (aB T.i_Crossed_Apart (aB T.i_Backward_Apart (aB T.i_TooMany_Apart bW))))) T.m_isinstance (ao 0)) aA))) (bQ dw rfl T.m_int (by rfl) (aa (cZ (aB T.i_NoWord_Hole (aB T.i_Open_Hole (aB T.i_Crossed_Hole (aB T.i_Backward_Hole (aB T.i_TooMany_Hole bW))))) T.m_isinstance (ao 0)) aA))))
   (aJ (bu (Qw (Ax (dq hr.units) (ao 1) au) (Ri (Y7 (T := "ValueError") (aB T.i_NoWord_ValueError (aB T.i_Open_ValueError (aB T.i_Crossed_ValueError (aB T.i_Backward_ValueError (aB T.i_TooMany_ValueError bW))))) T.m_isinstance (ao 0) T.m_ValueError (by rfl)))))))))))) FZ
theorem gF(T:Tx K mg w):Fn P w K mg base 2 "corners_of" dO cj :=
 jV (t:=mz) T.f_corners_of j0 vI (fun f cdv A outer s H E hr=>(aD (aU 2 j0.nd (gU (aa (ao 0) aA)))
   (aD (dh eI rfl (Bo (ao 1)) (d8 3 j0.nd) (aJ (gr (wB hZ ia oW (ao 2) (aa (aZ (Ou T) (hr.mono (by decide)) (aa (bw fC (ao 2) (pQ gA au)) (aa (aaP rfl T.d_STEPS (ao 3)) aA))) aA)))))
   (aJ (bu (ao 2)))))) yl
theorem Nx(T:Tx K mg w):Fn P w K mg base 2 "_law_path" lD lN :=
 jV (t:=xq) T.f_l_path pA Gn (fun f cdv A outer s H E hr=>(aD (aU 2 pA.nd (gU (aa (ao 0) aA)))
   (aD (dh eI rfl (Bo (ao 1)) (d8 3 pA.nd) (aD (aU 4 pA.nd (aZ (oU T) (hr.mono (by decide)) (aa (ao 3) aA)))
   (aJ (gr (wB hZ ia oW (ao 2) (aa (aV (aa (aH aL (bw fC (bw fC (ao 2) (pQ gA au)) au) (bw fC (ao 4) au)) (aa (aH aL (bw fC (bw fC (ao 2) (pQ gA au)) au) (bw fC (ao 4) au)) aA))) aA))))))
   (aJ (bu (ao 2)))))) KC
theorem zM(T:Tx K mg w):Fn P w K mg base 2 "_law_word" lK iw :=
 jV (t:=wM) T.f_l_word Kl GK (fun f cdv A outer s H E hr=>(aJ (bu (Qy PySem.F.slot_str_join PySem.F.type_str_join Rn bj (aa (oM (fv:=[(0, "_law_script"),(1, "_law_at")]) (by show dR (az nP) qQ _ _ _ _;exact⟨rfl,by decide +kernel,by decide +kernel,by decide +kernel,rfl,by decide +kernel,by decide +kernel⟩) rfl (pH T.m_range (ao 2)) (fun pins cl s1 H1 fp=>iV) (fun pins cl s1 H1 fp=>(bw fC bj (aH bK (aZ (bM T) (hr.mono (by decide)) (aa (ao 1) (aa (aH aL (ao 2) (ao 0)) aA))) au)))) aA))))) LQ
theorem G9(T:Tx K mg w):Fn P w K mg base 2 "_law_grown" iz jj :=
 jV (t:=tV) T.f_l_grown dM Ft (fun f cdv A outer s H E hr=>(aD (aU 3 dM.nd (gU (aa (aV (aa au (aa au aA))) aA)))
   (aD (dh eI rfl (pH T.m_range (aH dC (ao 2) au)) (d8 4 dM.nd) (aD (aU 5 dM.nd (aZ (bM T) (hr.mono (by decide)) (aa (ao 0) (aa (aH aL (ao 1) (ao 4)) aA))))
   (aD (Zm (bw fC (ao 3) (aH bK (ao 5) (bN fU rfl T.m_len (by rfl) (aa (ao 3) aA)))) (lX 6 7 rfl dM.nd))
   (aJ (dh eI rfl (pH T.m_range au) (d8 8 dM.nd) (aD (aU 9 dM.nd (aZ (oU T) (hr.mono (by decide)) (aa (bw fC bj (aH bK (aH aL (aH dj (ao 5) au) (ao 8)) au)) aA)))
   (aD (aU 10 dM.nd (aV (aa (aH aL (ao 6) (bw fC (ao 9) au)) (aa (aH aL (ao 7) (bw fC (ao 9) au)) aA))))
   (aJ (bU (bG (mG hr.units) (ao 10) (ao 3)) (aD (gr (wB hZ ia oW (ao 3) (aa (ao 10) aA)))
   (aJ Ow)) bH)))))))))
   (aD (Dr eI (jE (aZ (G7 T) (hr.mono (by decide)) (aa (ao 3) aA))) (aJ (gr (Ys PySem.F.slot_list_pop PySem.F.type_list_pop Td (ao 3)))))
   (aJ (bu (ao 3))))))) Fy
theorem Gr(T:Tx K mg w):Fn P w K mg base 2 "_law_round" iI jr :=
 jV (t:=um) T.f_l_round cQ DN (fun f cdv A outer s H E hr=>(aD (aU 1 cQ.nd Ua)
   (aD (dh eI rfl (Yw (ao 0)) (lX 2 3 rfl cQ.nd) (aJ (dh eI rfl (ir (gU (aa (aV (aa bj (aa (aV (aa (ao 2) (aa (ao 3) aA))) (aa (aV (aa (ao 2) (aa (aH dC (ao 3) au) aA))) aA)))) (aa (aV (aa bj (aa (aV (aa (aH aL (ao 2) au) (aa (ao 3) aA))) (aa (aV (aa (aH aL (ao 2) au) (aa (ao 3) aA))) aA)))) (aa (aV (aa bj (aa (aV (aa (aH aL (ao 2) au) (aa (aH aL (ao 3) au) aA))) (aa (aV (aa (ao 2) (aa (aH aL (ao 3) au) aA))) aA)))) (aa (aV (aa bj (aa (aV (aa (ao 2) (aa (aH aL (ao 3) au) aA))) (aa (aV (aa (aH dC (ao 2) au) (aa (ao 3) aA))) aA)))) aA)))))) (R5 4 5 6 rfl cQ.nd) (aJ (bU (bG (mG hr.units) (ao 6) (ao 0)) (aJ (vG hr.units (ao 1) (ao 5) (ao 4))) bH)))))
   (aD (aU 5 cQ.nd (bw fC (ao 0) au))
   (aD (aU 7 cQ.nd bj)
   (aD (dh eI rfl (pH T.m_range (bN Ep rfl T.m_len (by rfl) (aa (ao 1) aA))) (d8 8 cQ.nd) (aD (aU 7 cQ.nd (aH aL (ao 7) (Jo hr.units (ao 1) (ao 5))))
   (aD (aU 9 cQ.nd (aZ (oU T) (hr.mono (by decide)) (aa (Jo hr.units (ao 1) (ao 5)) aA)))
   (aJ (aU 5 cQ.nd (aV (aa (aH aL (bw fC (ao 5) au) (bw fC (ao 9) au)) (aa (aH aL (bw fC (ao 5) au) (bw fC (ao 9) au)) aA))))))))
   (aJ (bu (ao 7))))))))) Hf
theorem Bw(T:Tx K mg w):Fn P w K mg base 2 "_law_changed" fB fH :=
 jV (t:=nW) T.f_l_changed rZ xU (fun f cdv A outer s H E hr=>(aD (aU 2 rZ.nd (aH bK (aH dj (ao 1) au) (aH aL (bN fU rfl T.m_len (by rfl) (aa (ao 0) aA)) au)))
   (aD (bU (bG (dq hr.units) (aH bK (ao 1) au) au) (aJ (bu (aZ (yX T) (hr.mono (by decide)) (aa (ao 0) aA)))) bH)
   (aD (bU (bG (dq hr.units) (aH bK (ao 1) au) au) (aJ (bu (aH aL (dZ fL (ao 0) dX (dU (ao 2))) (dZ fL (ao 0) (dU (aH aL (ao 2) au)) dX)))) bH)
   (aD (bU (bG (dq hr.units) (aH bK (ao 1) au) au) (aJ (bu (aH aL (aH aL (dZ fL (ao 0) dX (dU (ao 2))) (bw fC (gU (aa bj (aa bj (aa bj (aa bj (aa bj (aa bj aA))))))) (aH bK (aH dj (ao 1) au) au))) (dZ fL (ao 0) (dU (ao 2)) dX)))) bH)
   (aD (bU (bG (dq hr.units) (aH bK (ao 1) au) au) (aJ (bu (aH aL (aH aL (dZ fL (ao 0) dX (dU (ao 2))) (bw fC bj (aH bK (aH dj (ao 1) au) au))) (dZ fL (ao 0) (dU (ao 2)) dX)))) bH)
   (aJ (bu (ao 0))))))))) Ag
theorem Mf(T:Tx K mg w):Fn P w K mg base 2 "_law_area" lQ lq :=
 jV (t:=vZ) T.f_l_area oV HD (fun f cdv A outer s H E hr=>(aD (aU 2 oV.nd au)
   (aD (dh eI rfl (Lr T.m_zip (ao 0) (ao 1)) (lX 3 4 rfl oV.nd) (aJ (aU 2 oV.nd (aH aL (ao 2) (aH lJ (bw fC (ao 4) au) (bw fC (aZ (oU T) (hr.mono (by decide)) (aa (ao 3) aA)) au))))))
   (aJ (bu (ao 2)))))) K9
theorem xZ(T:Tx K mg w):FnH P w K mg base 2 "_law_refusal" eZ fG :=
 VH (t:=nJ) T.f_l_refusal By xV (fun f cdv A outer s H hr=>(aD (bU (I8 (jE (Di (Ew T) (hr.mono (by decide)) (aa (ao 0) aA)))) (aJ (bu (aV (aa bj (aa au aA))))) bH)
   (aD (bU (jE (cZ (aB T.i_NoWord_NoWord (aB T.i_Open_NoWord (aB T.i_Crossed_NoWord (aB T.i_Backward_NoWord (aB T.i_TooMany_NoWord bW))))) T.m_isinstance (ao 0))) (aJ (bu (aV (aa bj (aa (Ae T.xf_place (ao 0)) aA))))) bH)
   (aD (bU (jE (cZ (aB T.i_NoWord_Open (aB T.i_Open_Open (aB T.i_Crossed_Open (aB T.i_Backward_Open (aB T.i_TooMany_Open bW))))) T.m_isinstance (ao 0))) (aJ (bu (aV (aa bj (aa (Ae T.xf_way (ao 0)) aA))))) bH)
   (aD (bU (jE (cZ (aB T.i_NoWord_Crossed (aB T.i_Open_Crossed (aB T.i_Crossed_Crossed (aB T.i_Backward_Crossed (aB T.i_TooMany_Crossed bW))))) T.m_isinstance (ao 0))) (aJ (bu (aV (aa bj (aa (Ae T.xf_place (ao 0)) aA))))) bH)
   (aD (bU (jE (cZ (aB T.i_NoWord_Backward (aB T.i_Open_Backward (aB T.i_Crossed_Backward (aB T.i_Backward_Backward (aB T.i_TooMany_Backward bW))))) T.m_isinstance (ao 0))) (aJ (bu (aV (aa bj (aa au aA))))) bH)
   (aD (bU (jE (cZ (aB T.i_NoWord_TooMany (aB T.i_Open_TooMany (aB T.i_Crossed_TooMany (aB T.i_Backward_TooMany (aB T.i_TooMany_TooMany bW))))) T.m_isinstance (ao 0))) (aJ (bu (aV (aa bj (aa au aA))))) bH)
   (aJ (bu (aV (aa bj (aa au aA)))))))))))) Bx
theorem Nv(T:Tx K mg w):Fn P w K mg base 3 "way_of" kI lA :=
 jV (t:=vQ) T.f_way_of Ln Hl (fun f cdv A outer s H E hr=>(aJ (bu (bw fC (aZ (gF T) (hr.mono (by decide)) (aa (aV (aa au (aa au aA))) (aa (ao 0) aA))) (pQ gA au))))) Nb
theorem Hy(T:Tx K mg w):Fn P w K mg base 3 "area_of" iG jd :=
 jV (t:=tE) T.f_area_of ji DG (fun f cdv A outer s H E hr=>(aD (aU 1 ji.nd au)
   (aD (dh eI rfl (yR T.m_zip (aZ (gF T) (hr.mono (by decide)) (aa (aV (aa au (aa au aA))) (aa (ao 0) aA))) (ao 0)) (lX 2 3 rfl ji.nd) (aD (bU (bG (dq hr.units) (ao 3) bj) (aJ (Rj (i:=1) ji.nd O8 (bw fC (ao 2) au))) bH)
   (aJ (bU (bG (dq hr.units) (ao 3) bj) (aJ (Rj (i:=1) ji.nd R0 (bw fC (ao 2) au))) bH))))
   (aJ (bu (ao 1)))))) HQ
theorem qN(T:Tx K mg w):Z1 P w K mg base 3 "check_letters" cJ cu :=
 Oe (te:=eF) T.f_check_letters kW qI (fun f cdv A outer s H E E3 hr kx=>(aD (bU (tK (bG (dq hr.units) (ao 0) bj)) (aJ (oK iM kx (wR T) (hr.mono (by decide)) rfl au)) bH)
   (aJ (dh Ee rfl (Es T.m_enumerate (ao 0)) (lX 1 2 rfl kW.nd) (aJ (bU (tK (RN rfl T.d_STEPS (ao 2))) (aJ (oK iM kx (wR T) (hr.mono (by decide)) rfl (ao 1))) bH)))))) tW
theorem pO(T:Tx K mg w):Z1 P w K mg base 3 "check_crossings" bZ cG :=
 Oe (te:=fJ) T.f_check_crossings cD pP (fun f cdv A outer s H E E3 hr kx=>(aD (qe (aU 1 cD.nd (aZ (gF T) (hr.mono (by decide)) (aa (aV (aa au (aa au aA))) (aa (ao 0) aA)))))
   (aD (qe (aU 2 cD.nd (Ey hr.xg (bw fC (ao 1) au) CP)))
   (aJ (dh Ee rfl (pH T.m_range (aH dC (bN fU rfl T.m_len (by rfl) (aa (ao 0) aA)) au)) (d8 3 cD.nd) (aD (qe (aU 4 cD.nd (bw fC (ao 1) (aH aL (ao 3) au))))
   (aD (bU (tK (bG (Js hr.units) (ao 4) (ao 2))) (aJ (oK iM kx (Dc T) (hr.mono (by decide)) rfl (ao 3))) bH)
   (aJ (qe (vG hr.units (ao 2) (ao 4) CP)))))))))) pW
theorem tM(T:Tx K mg w):Fn P w K mg base 3 "upright_sides" cN cT :=
 jV (t:=gQ) T.f_upright_sides f9 qF (fun f cdv A outer s H E hr=>(aD (aU 2 f9.nd W8)
   (aD (dh eI rfl (yR T.m_zip (aZ (gF T) (hr.mono (by decide)) (aa (ao 0) (aa (ao 1) aA))) (ao 1)) (lX 3 4 rfl f9.nd) (aD (bU (bG (dq hr.units) (ao 4) bj) (aJ (gr (wB hZ ia oW (Jb (ao 2) (bw fC (ao 3) au) (gU aA) ⟨rfl,rfl,rfl,rfl⟩) (aa (bw fC (ao 3) au) aA)))) bH)
   (aJ (bU (bG (dq hr.units) (ao 4) bj) (aJ (gr (wB hZ ia oW (Jb (ao 2) (aH dC (bw fC (ao 3) au) au) (gU aA) ⟨rfl,rfl,rfl,rfl⟩) (aa (bw fC (ao 3) au) aA)))) bH))))
   (aJ (bu (ao 2)))))) ug
theorem Qg(T:Tx K mg w):Fn P w K mg base 3 "_law_due" oN mZ :=
 jV (t:=uZ) T.f_l_due oF M7 (fun f cdv A outer s H E hr=>(aD (dh eI rfl (Es T.m_enumerate (ao 0)) (lX 1 2 rfl oF.nd) (aJ (bU (bG (mG hr.units) (ao 2) (gU (aa bj (aa bj (aa bj (aa bj aA)))))) (aJ (bu (aV (aa bj (aa (ao 1) aA))))) bH)))
   (aD (bU (bG (dq hr.units) (ao 0) bj) (aJ (bu (aV (aa bj (aa au aA))))) bH)
   (aD (aU 3 oF.nd (aZ (Nx T) (hr.mono (by decide)) (aa (aV (aa au (aa au aA))) (aa (ao 0) aA))))
   (aD (bU (bG (Qc hr.units) (bw fC (ao 3) (pQ gA au)) (aV (aa au (aa au aA)))) (aJ (bu (aV (aa bj (aa (bw fC (ao 3) (pQ gA au)) aA))))) bH)
   (aD (dh eI rfl (pH T.m_range (aH dC (bN fU rfl T.m_len (by rfl) (aa (ao 0) aA)) au)) (d8 1 oF.nd) (aJ (bU (bG (Js hr.units) (bw fC (ao 3) (aH aL (ao 1) au)) (dZ Zx (ao 3) dX (dU (aH aL (ao 1) au)))) (aJ (bu (aV (aa bj (aa (ao 1) aA))))) bH)))
   (aD (aU 4 oF.nd (aZ (Mf T) (hr.mono (by decide)) (aa (ao 0) (aa (ao 3) aA))))
   (aD (bU (bG tU (ao 4) au) (aJ (bu (aV (aa bj (aa au aA))))) bH)
   (aD (bU (bG R1 (ao 4) au) (aJ (bu (aV (aa bj (aa au aA))))) bH)
   (aJ (bu (aV (aa bj (aa (ao 4) aA)))))))))))))) R8
theorem uK(T:Tx K mg w):Fn P w K mg base 4 "cells_within" cV cM :=
 jV (t:=iZ) T.f_cells_within cL tG (fun f cdv A outer s H E hr=>(aD (aU 2 cL.nd (aZ (tM T) (hr.mono (by decide)) (aa (ao 0) (aa (ao 1) aA))))
   (aD (aU 3 cL.nd (gU aA))
   (aD (dh eI rfl (ir (bN (M3 rfl) rfl T.m_sorted (by rfl) (aa (ao 2) aA))) (d8 4 cL.nd) (aD (aU 5 cL.nd (bN Ml rfl T.m_sorted (by rfl) (aa (PQ hr.units (ao 2) (ao 4)) aA)))
   (aJ (dh eI rfl (UT T.m_range au (bN fU rfl T.m_len (by rfl) (aa (ao 5) aA)) au) (d8 6 cL.nd) (aJ (gr (wB PySem.F.slot_list_extend PySem.F.type_list_extend T5 (ao 3) (aa (oM (fv:=[(4, "y")]) (by show dR (az dH) fM _ _ _ _;exact⟨rfl,by decide +kernel,by decide +kernel,by decide +kernel,rfl,by decide +kernel,by decide +kernel⟩) rfl (TV T.m_range (bw fC (ao 5) (ao 6)) (bw fC (ao 5) (aH aL (ao 6) au))) (fun pins cl s1 H1 fp=>iV) (fun pins cl s1 H1 fp=>(aV (aa (ao 0) (aa (ao 1) aA))))) aA))))))))
   (aJ (bu (ao 3))))))) uR
theorem Gg(T:Tx K mg w):Fn P w K mg base 4 "_law_piece" iB jq:=by
 cases T.f_l_piece with
 | mk F hm hb => exact ac6 F xu hm hb Fb fun oc od sl lk A outer s H E hr => ⟨uo,(aD (Fx (fv:=[(1, "_law_shift")]) 2 xu.nd (by show dR (az lC) o9 _ _ _ _; exact ⟨rfl,by decide +kernel,by decide +kernel,by decide +kernel,rfl,by decide +kernel,by decide +kernel⟩) rfl (ir (ao 0)) (fun pins cl s1 H1 fp => iV) (fun pins cl s1 H1 fp => (aV (aa (aH aL (bw fC (ao 0) au) (bw fC (ao 1) au)) (aa (aH aL (bw fC (ao 0) au) (bw fC (ao 1) au)) aA)))))
   (aJ (bu (bQ yV rfl T.m_tuple (by rfl) (aa (Hq (x := "_law_piece") (y := "_law_cell") (q:=0) hm lk rfl ⟨rfl,rfl,rfl,by decide +kernel,rfl,by decide +kernel,by decide +kernel⟩ (hr.mono (by decide)) T.m_sorted (ao 2) (fun _ _ _ _ _ _=>aV (aa (bw fC (ao 0) au) (aa (bw fC (ao 0) au) aA))) Uq (fun _ _ _ _=>rfl)) aA))))),Gd⟩
theorem yg(T:Tx K mg w):Z1 P w K mg base 5 "inside_of" fj fV :=
 Oe (te:=jD) T.f_inside_of mH yp (fun f cdv A outer s H E E3 hr kx=>(aD (gr (Iz (v8 (qN T) (hr.mono (by decide)) (aa (ao 1) aA)) wk kx))
   (aD (qe (aU 2 mH.nd (aZ (Nv T) (hr.mono (by decide)) (aa (ao 1) aA))))
   (aD (bU (tK (bG (Qc hr.units) (ao 2) (aV (aa au (aa au aA))))) (aJ (oK iM kx (Oo T) (hr.mono (by decide)) rfl (ao 2))) bH)
   (aD (gr (Iz (v8 (pO T) (hr.mono (by decide)) (aa (ao 1) aA)) wk kx))
   (aD (qe (aU 3 mH.nd (aZ (Hy T) (hr.mono (by decide)) (aa (ao 1) aA))))
   (aD (bU (tK (bG tU (ao 3) au)) (aJ (Fj iM kx T.x_Backward rfl bj)) bH)
   (aD (bU (tK (bG R1 (ao 3) (Sq rfl T.c_MOST_CELLS))) (aJ (Fj iM kx T.x_TooMany rfl bj)) bH)
   (aJ (qe (bu (bQ yV rfl T.m_tuple (by rfl) (aa (aZ (uK T) (hr.mono (by decide)) (aa (ao 0) (aa (ao 1) aA))) aA))))))))))))) Ah
theorem Ie(T:Tx K mg w):Fn P w K mg base 5 "_law_drawn" iQ jc :=
 jV (t:=sI) T.f_l_drawn gm Ek (fun f cdv A outer s H E hr=>(aD (aU 1 gm.nd (aZ (bM T) (hr.mono (by decide)) (aa (ao 0) (aa au aA))))
   (aD (bU (bG (dq hr.units) (aH bK (ao 1) au) au) (aJ (bu (aZ (zM T) (hr.mono (by decide)) (aa (ao 0) (aa au (aa (aH bK (aZ (bM T) (hr.mono (by decide)) (aa (ao 0) (aa au aA))) au) aA)))))) bH)
   (aD (bU (bG (dq hr.units) (aH bK (ao 1) au) au) (aD (aU 2 gm.nd (aZ (zM T) (hr.mono (by decide)) (aa (ao 0) (aa au (aa (aH bK (aZ (bM T) (hr.mono (by decide)) (aa (ao 0) (aa au aA))) au) aA)))))
   (aJ (bu (aH aL (ao 2) (dZ fL (aZ (yX T) (hr.mono (by decide)) (aa (ao 2) aA)) (dU (aH bK (aH dj (aZ (bM T) (hr.mono (by decide)) (aa (ao 0) (aa au aA))) au) au)) dX))))) bH)
   (aD (aU 2 gm.nd (aZ (wN T) (hr.mono (by decide)) (aa (aZ (bM T) (hr.mono (by decide)) (aa (ao 0) (aa au aA))) aA)))
   (aD (bU (bG (dq hr.units) (aH bK (ao 1) au) au) (aJ (aU 2 gm.nd (aZ (Gr T) (hr.mono (by decide)) (aa (aZ (Gg T) (hr.mono (by decide)) (aa (aZ (G9 T) (hr.mono (by decide)) (aa (ao 0) (aa au (aa (aH aL au (aH bK (aZ (bM T) (hr.mono (by decide)) (aa (ao 0) (aa au aA))) au)) aA)))) (aa (aV (aa au (aa au aA))) aA))) aA)))) bH)
   (aD (aU 3 gm.nd (aH bK (aH dj (ao 1) au) (bN fU rfl T.m_len (by rfl) (aa (ao 2) aA))))
   (aJ (bu (aH aL (dZ fL (ao 2) (dU (ao 3)) dX) (dZ fL (ao 2) dX (dU (ao 3))))))))))))) G5
theorem zB(T:Tx K mg w):Fn P w K mg base 6 "_law_told" j8 iK :=
 jV (t:=vU) T.f_l_told iJ FJ (fun f cdv A outer s H E hr=>(aD (aU 2 iJ.nd Gu)
   (aD (aU 3 iJ.nd Gu)
   (aD (Ve 4 iJ.nd (W9 2 iJ.nd (v8 (yg T) (hr.mono (by decide)) (aa (ao 0) (aa (ao 1) aA)))) (kY T.s_NoWord_FloorError (kY T.s_Open_FloorError (kY T.s_Crossed_FloorError (kY T.s_Backward_FloorError (kY T.s_TooMany_FloorError RX))))) (fun A2 => (aJ (aU 3 iJ.nd (Di (xZ T) ((XX hr A2).mono (by decide)) (aa (ao 4) aA))))))
   (aD (bU (bG R6 (ao 3) Gu) (aJ (bu (ao 3))) bH)
   (aD (bU (I8 (jE (bN Vl rfl T.m_isinstance (by rfl) (aa (ao 2) (aa (aba rfl T.m_tuple (by rfl)) aA))))) (aJ (bu (aV (aa bj (aa au aA))))) bH)
   (aJ (bu (aV (aa bj (aa (bN fU rfl T.m_len (by rfl) (aa (ao 2) aA)) aA))))))))))) MJ
theorem Xo(T:Tx K mg w){f:aE}{fd:gc}(F:Ca K "law" "law" qJ f fd):pM P w K mg base uN 7 f fd OD (v5 K tu) :=
 V4 F BJ Vd fun cdv A outer s H E hr=>⟨O4,(aD (aU 1 BJ.nd (aZ (Ea T) (hr.mono (by decide)) (aa (aZ (bM T) (hr.mono (by decide)) (aa (ao 0) (aa au aA))) (aa (aZ (bM T) (hr.mono (by decide)) (aa (ao 0) (aa au aA))) aA))))
   (aD (aU 2 BJ.nd (aZ (Bw T) (hr.mono (by decide)) (aa (aZ (Ie T) (hr.mono (by decide)) (aa (ao 0) aA)) (aa (aH aL (aH dj (aZ (bM T) (hr.mono (by decide)) (aa (ao 0) (aa au aA))) au) (aZ (bM T) (hr.mono (by decide)) (aa (ao 0) (aa au aA)))) aA))))
   (aD (aU 3 BJ.nd (aZ (Qg T) (hr.mono (by decide)) (aa (ao 2) aA)))
   (aJ (bu (Qw (Ax (dq hr.units) (aZ (zB T) (hr.mono (by decide)) (aa (ao 1) (aa (ao 2) aA))) (ao 3)) (Ri (Ax (dq hr.units) (aZ (zB T) (hr.mono (by decide)) (aa (ao 1) (aa (ao 2) aA))) (ao 3))))))))),Xi⟩
end
theorem all_mk{l:FI}{w:cE}{K:ae}{h:eJ}{mg:Str->Option af}{fa f27:aE}(X:K.In h)(G:h.Ns ba mg)(hfa:mg "law" = some (.ref fa))
  {od27 an27:Option aE} {sl27:Array (Option af)} {oc27 kV27 dc27 pm27 cd27 ct27:af}
  {tk0:Tok}
  (q0:bR K mg "added" vq oR)
  (q1:bR K mg "corners_of" ik dO)
  (q2:bR K mg "way_of" rP kI)
  (q3:bR K mg "area_of" oX iG)
  (q4:bR K mg "check_letters" d9 cJ)
  (q5:bR K mg "check_crossings" dB bZ)
  (q6:bR K mg "upright_sides" eG cN)
  (q7:bR K mg "cells_within" dH cV)
  (q8:bR K mg "inside_of" jT fj)
  (q9:bR K mg "_law_cell_at" jN eY)
  (q10:bR K mg "_law_corner" mD fZ)
  (q11:bR K mg "_law_step" qG lg)
  (q12:bR K mg "_law_path" qR lD)
  (q13:bR K mg "_law_back" qU lH)
  (q14:bR K mg "_law_word" nP lK)
  (q15:bR K mg "_law_holed" fc iC)
  (q16:bR K mg "_law_grown" pq iz)
  (q17:bR K mg "_law_piece" lC iB)
  (q18:bR K mg "_law_round" oZ iI)
  (q19:bR K mg "_law_rectangle" gG di)
  (q20:bR K mg "_law_drawn" ph iQ)
  (q21:bR K mg "_law_changed" jH fB)
  (q22:bR K mg "_law_area" rA lQ)
  (q23:bR K mg "_law_due" vz oN)
  (q24:bR K mg "_law_alone" pF iH)
  (q25:bR K mg "_law_refusal" jK eZ)
  (q26:bR K mg "_law_told" rD j8)
  (a27:br K ba "law" = some (some (.ref f27))) (l27:K.lookup f27=some ⟨oc27,od27,.func (kz "law" "law" (bh qJ) (aQ qJ) (az qJ) .none kV27 dc27 pm27 an27 cd27 ct27),sl27⟩) (c27:qk K cd27 "law" = true) (k27:gp K (.ref f27)=true)
  (z0:br K ba "ValueError" = some none)
  (z1:br K ba "enumerate" = some none)
  (z2:br K ba "int" = some none)
  (z3:br K ba "isinstance" = some none)
  (z4:br K ba "len" = some none)
  (z5:br K ba "max" = some none)
  (z6:br K ba "min" = some none)
  (z7:br K ba "range" = some none)
  (z8:br K ba "sorted" = some none)
  (z9:br K ba "tuple" = some none)
  (z10:br K ba "zip" = some none)
  (y0:br K ba "MOST_CELLS" = some (some (.int 10 tk0)))
  {dA0 dB0_0 dB0_1 dB0_2 dB0_3:aE} {dT0_0 dX0_0_0 dX0_0_1 dT0_1 dX0_1_0 dX0_1_1 dT0_2 dX0_2_0 dX0_2_1 dT0_3 dX0_3_0 dX0_3_1:Tok} {dE0 dN0_0 dN0_1 dN0_2 dN0_3:Nat}
  (dQ0:br K ba "STEPS" = some (some (.ref dA0))) (dR0:K.lookup dA0=some ⟨.type "dict",none,.dict #[⟨p9 w.params "e",.str "e" dT0_0,.ref dB0_0⟩,⟨p9 w.params "n",.str "n" dT0_1,.ref dB0_1⟩,⟨p9 w.params "w",.str "w" dT0_2,.ref dB0_2⟩,⟨p9 w.params "s",.str "s" dT0_3,.ref dB0_3⟩] dE0,#[]⟩) (dU0:(dA0==iO)=false)
  (dS0_0:K.lookup dB0_0=some ⟨.type "tuple",none,.seq #[.int 1 dX0_0_0,.int 0 dX0_0_1] dN0_0,#[]⟩)
  (dS0_1:K.lookup dB0_1=some ⟨.type "tuple",none,.seq #[.int 0 dX0_1_0,.int 1 dX0_1_1] dN0_1,#[]⟩)
  (dS0_2:K.lookup dB0_2=some ⟨.type "tuple",none,.seq #[.int (-1) dX0_2_0,.int 0 dX0_2_1] dN0_2,#[]⟩)
  (dS0_3:K.lookup dB0_3=some ⟨.type "tuple",none,.seq #[.int 0 dX0_3_0,.int (-1) dX0_3_1] dN0_3,#[]⟩)
  {XC_Apart XC_Backward XC_Crossed XC_FloorError XC_Hole XC_NoDrawing XC_NoFloor XC_NoGrid XC_NoLine XC_NoPiece XC_NoWord XC_NotAsMany XC_Nothing XC_Open XC_TooMany:aE}
  (xa_Apart:br K ba "Apart" = some (some (.ref XC_Apart)))
  (xa_Backward:br K ba "Backward" = some (some (.ref XC_Backward)))
  (xa_Crossed:br K ba "Crossed" = some (some (.ref XC_Crossed)))
  (xa_FloorError:br K ba "FloorError" = some (some (.ref XC_FloorError)))
  (xa_Hole:br K ba "Hole" = some (some (.ref XC_Hole)))
  (xa_NoDrawing:br K ba "NoDrawing" = some (some (.ref XC_NoDrawing)))
  (xa_NoFloor:br K ba "NoFloor" = some (some (.ref XC_NoFloor)))
  (xa_NoGrid:br K ba "NoGrid" = some (some (.ref XC_NoGrid)))
  (xa_NoLine:br K ba "NoLine" = some (some (.ref XC_NoLine)))
  (xa_NoPiece:br K ba "NoPiece" = some (some (.ref XC_NoPiece)))
  (xa_NoWord:br K ba "NoWord" = some (some (.ref XC_NoWord)))
  (xa_NotAsMany:br K ba "NotAsMany" = some (some (.ref XC_NotAsMany)))
  (xa_Nothing:br K ba "Nothing" = some (some (.ref XC_Nothing)))
  (xa_Open:br K ba "Open" = some (some (.ref XC_Open)))
  (xa_TooMany:br K ba "TooMany" = some (some (.ref XC_TooMany)))
  (xe_Backward:Co K XC_Backward [.type "ValueError",.type "Exception",.type "BaseException",.type "object"] "ValueError.__new__" = true)
  (xe_TooMany:Co K XC_TooMany [.type "ValueError",.type "Exception",.type "BaseException",.type "object"] "ValueError.__new__" = true)
  (xs_Backward_FloorError:dP K XC_Backward (.ref XC_FloorError)=some true)
  (xs_Crossed_FloorError:dP K XC_Crossed (.ref XC_FloorError)=some true)
  (xs_NoWord_FloorError:dP K XC_NoWord (.ref XC_FloorError)=some true)
  (xs_Open_FloorError:dP K XC_Open (.ref XC_FloorError)=some true)
  (xs_TooMany_FloorError:dP K XC_TooMany (.ref XC_FloorError)=some true)
  (xb_FloorError:dP K XC_FloorError (.type "BaseException")=some true) (xt_FloorError:qA K (.ref XC_FloorError)=some (.type "type"))
  (x1_Backward:bX K (.ref XC_Backward) "__getattribute__" = some (some (.builtin "BaseException.__getattribute__")))
  (x2_Backward:bX K (.ref XC_Backward) "__getattr__" = some none)
  (x3_Backward:bX K (.ref XC_Backward) "__class__" = some (some (.builtin "object.__class__")))
  (x4_Backward:gI K (.builtin "object.__class__") "__get__" = some (some (.builtin "getset_descriptor.__get__")))
  (x5_Backward:kQ K (.builtin "object.__class__")=some true)
  (x6_Backward:dP K XC_Backward (.type "object")=some true)
  (x7_Backward:dP K XC_Backward (.type "BaseException")=some true)
  (x1_Crossed:bX K (.ref XC_Crossed) "__getattribute__" = some (some (.builtin "BaseException.__getattribute__")))
  (x2_Crossed:bX K (.ref XC_Crossed) "__getattr__" = some none)
  (x3_Crossed:bX K (.ref XC_Crossed) "__class__" = some (some (.builtin "object.__class__")))
  (x4_Crossed:gI K (.builtin "object.__class__") "__get__" = some (some (.builtin "getset_descriptor.__get__")))
  (x5_Crossed:kQ K (.builtin "object.__class__")=some true)
  (x6_Crossed:dP K XC_Crossed (.type "object")=some true)
  (x7_Crossed:dP K XC_Crossed (.type "BaseException")=some true)
  (x1_NoWord:bX K (.ref XC_NoWord) "__getattribute__" = some (some (.builtin "BaseException.__getattribute__")))
  (x2_NoWord:bX K (.ref XC_NoWord) "__getattr__" = some none)
  (x3_NoWord:bX K (.ref XC_NoWord) "__class__" = some (some (.builtin "object.__class__")))
  (x4_NoWord:gI K (.builtin "object.__class__") "__get__" = some (some (.builtin "getset_descriptor.__get__")))
  (x5_NoWord:kQ K (.builtin "object.__class__")=some true)
  (x6_NoWord:dP K XC_NoWord (.type "object")=some true)
  (x7_NoWord:dP K XC_NoWord (.type "BaseException")=some true)
  (x1_Open:bX K (.ref XC_Open) "__getattribute__" = some (some (.builtin "BaseException.__getattribute__")))
  (x2_Open:bX K (.ref XC_Open) "__getattr__" = some none)
  (x3_Open:bX K (.ref XC_Open) "__class__" = some (some (.builtin "object.__class__")))
  (x4_Open:gI K (.builtin "object.__class__") "__get__" = some (some (.builtin "getset_descriptor.__get__")))
  (x5_Open:kQ K (.builtin "object.__class__")=some true)
  (x6_Open:dP K XC_Open (.type "object")=some true)
  (x7_Open:dP K XC_Open (.type "BaseException")=some true)
  (x1_TooMany:bX K (.ref XC_TooMany) "__getattribute__" = some (some (.builtin "BaseException.__getattribute__")))
  (x2_TooMany:bX K (.ref XC_TooMany) "__getattr__" = some none)
  (x3_TooMany:bX K (.ref XC_TooMany) "__class__" = some (some (.builtin "object.__class__")))
  (x4_TooMany:gI K (.builtin "object.__class__") "__get__" = some (some (.builtin "getset_descriptor.__get__")))
  (x5_TooMany:kQ K (.builtin "object.__class__")=some true)
  (x6_TooMany:dP K XC_TooMany (.type "object")=some true)
  (x7_TooMany:dP K XC_TooMany (.type "BaseException")=some true)
  (xi_Backward_Apart:ax K (.ref XC_Backward) (.ref XC_Apart)=some false)
  (xi_Backward_Backward:ax K (.ref XC_Backward) (.ref XC_Backward)=some true)
  (xi_Backward_Crossed:ax K (.ref XC_Backward) (.ref XC_Crossed)=some false)
  (xi_Backward_Hole:ax K (.ref XC_Backward) (.ref XC_Hole)=some false)
  (xi_Backward_NoDrawing:ax K (.ref XC_Backward) (.ref XC_NoDrawing)=some false)
  (xi_Backward_NoFloor:ax K (.ref XC_Backward) (.ref XC_NoFloor)=some false)
  (xi_Backward_NoGrid:ax K (.ref XC_Backward) (.ref XC_NoGrid)=some false)
  (xi_Backward_NoLine:ax K (.ref XC_Backward) (.ref XC_NoLine)=some false)
  (xi_Backward_NoPiece:ax K (.ref XC_Backward) (.ref XC_NoPiece)=some false)
  (xi_Backward_NoWord:ax K (.ref XC_Backward) (.ref XC_NoWord)=some false)
  (xi_Backward_NotAsMany:ax K (.ref XC_Backward) (.ref XC_NotAsMany)=some false)
  (xi_Backward_Nothing:ax K (.ref XC_Backward) (.ref XC_Nothing)=some false)
  (xi_Backward_Open:ax K (.ref XC_Backward) (.ref XC_Open)=some false)
  (xi_Backward_TooMany:ax K (.ref XC_Backward) (.ref XC_TooMany)=some false)
  (xi_Backward_ValueError:ax K (.ref XC_Backward) (.type "ValueError")=some true)
  (xi_Crossed_Apart:ax K (.ref XC_Crossed) (.ref XC_Apart)=some false)
  (xi_Crossed_Backward:ax K (.ref XC_Crossed) (.ref XC_Backward)=some false)
  (xi_Crossed_Crossed:ax K (.ref XC_Crossed) (.ref XC_Crossed)=some true)
  (xi_Crossed_Hole:ax K (.ref XC_Crossed) (.ref XC_Hole)=some false)
  (xi_Crossed_NoDrawing:ax K (.ref XC_Crossed) (.ref XC_NoDrawing)=some false)
  (xi_Crossed_NoFloor:ax K (.ref XC_Crossed) (.ref XC_NoFloor)=some false)
  (xi_Crossed_NoGrid:ax K (.ref XC_Crossed) (.ref XC_NoGrid)=some false)
  (xi_Crossed_NoLine:ax K (.ref XC_Crossed) (.ref XC_NoLine)=some false)
  (xi_Crossed_NoPiece:ax K (.ref XC_Crossed) (.ref XC_NoPiece)=some false)
  (xi_Crossed_NoWord:ax K (.ref XC_Crossed) (.ref XC_NoWord)=some false)
  (xi_Crossed_NotAsMany:ax K (.ref XC_Crossed) (.ref XC_NotAsMany)=some false)
  (xi_Crossed_Nothing:ax K (.ref XC_Crossed) (.ref XC_Nothing)=some false)
  (xi_Crossed_Open:ax K (.ref XC_Crossed) (.ref XC_Open)=some false)
  (xi_Crossed_TooMany:ax K (.ref XC_Crossed) (.ref XC_TooMany)=some false)
  (xi_Crossed_ValueError:ax K (.ref XC_Crossed) (.type "ValueError")=some true)
  (xi_NoWord_Apart:ax K (.ref XC_NoWord) (.ref XC_Apart)=some false)
  (xi_NoWord_Backward:ax K (.ref XC_NoWord) (.ref XC_Backward)=some false)
  (xi_NoWord_Crossed:ax K (.ref XC_NoWord) (.ref XC_Crossed)=some false)
  (xi_NoWord_Hole:ax K (.ref XC_NoWord) (.ref XC_Hole)=some false)
  (xi_NoWord_NoDrawing:ax K (.ref XC_NoWord) (.ref XC_NoDrawing)=some false)
  (xi_NoWord_NoFloor:ax K (.ref XC_NoWord) (.ref XC_NoFloor)=some false)
  (xi_NoWord_NoGrid:ax K (.ref XC_NoWord) (.ref XC_NoGrid)=some false)
  (xi_NoWord_NoLine:ax K (.ref XC_NoWord) (.ref XC_NoLine)=some false)
  (xi_NoWord_NoPiece:ax K (.ref XC_NoWord) (.ref XC_NoPiece)=some false)
  (xi_NoWord_NoWord:ax K (.ref XC_NoWord) (.ref XC_NoWord)=some true)
  (xi_NoWord_NotAsMany:ax K (.ref XC_NoWord) (.ref XC_NotAsMany)=some false)
  (xi_NoWord_Nothing:ax K (.ref XC_NoWord) (.ref XC_Nothing)=some false)
  (xi_NoWord_Open:ax K (.ref XC_NoWord) (.ref XC_Open)=some false)
  (xi_NoWord_TooMany:ax K (.ref XC_NoWord) (.ref XC_TooMany)=some false)
  (xi_NoWord_ValueError:ax K (.ref XC_NoWord) (.type "ValueError")=some true)
  (xi_Open_Apart:ax K (.ref XC_Open) (.ref XC_Apart)=some false)
  (xi_Open_Backward:ax K (.ref XC_Open) (.ref XC_Backward)=some false)
  (xi_Open_Crossed:ax K (.ref XC_Open) (.ref XC_Crossed)=some false)
  (xi_Open_Hole:ax K (.ref XC_Open) (.ref XC_Hole)=some false)
  (xi_Open_NoDrawing:ax K (.ref XC_Open) (.ref XC_NoDrawing)=some false)
  (xi_Open_NoFloor:ax K (.ref XC_Open) (.ref XC_NoFloor)=some false)
  (xi_Open_NoGrid:ax K (.ref XC_Open) (.ref XC_NoGrid)=some false)
  (xi_Open_NoLine:ax K (.ref XC_Open) (.ref XC_NoLine)=some false)
  (xi_Open_NoPiece:ax K (.ref XC_Open) (.ref XC_NoPiece)=some false)
  (xi_Open_NoWord:ax K (.ref XC_Open) (.ref XC_NoWord)=some false)
  (xi_Open_NotAsMany:ax K (.ref XC_Open) (.ref XC_NotAsMany)=some false)
  (xi_Open_Nothing:ax K (.ref XC_Open) (.ref XC_Nothing)=some false)
  (xi_Open_Open:ax K (.ref XC_Open) (.ref XC_Open)=some true)
  (xi_Open_TooMany:ax K (.ref XC_Open) (.ref XC_TooMany)=some false)
  (xi_Open_ValueError:ax K (.ref XC_Open) (.type "ValueError")=some true)
  (xi_TooMany_Apart:ax K (.ref XC_TooMany) (.ref XC_Apart)=some false)
  (xi_TooMany_Backward:ax K (.ref XC_TooMany) (.ref XC_Backward)=some false)
  (xi_TooMany_Crossed:ax K (.ref XC_TooMany) (.ref XC_Crossed)=some false)
  (xi_TooMany_Hole:ax K (.ref XC_TooMany) (.ref XC_Hole)=some false)
  (xi_TooMany_NoDrawing:ax K (.ref XC_TooMany) (.ref XC_NoDrawing)=some false)
  (xi_TooMany_NoFloor:ax K (.ref XC_TooMany) (.ref XC_NoFloor)=some false)
  (xi_TooMany_NoGrid:ax K (.ref XC_TooMany) (.ref XC_NoGrid)=some false)
  (xi_TooMany_NoLine:ax K (.ref XC_TooMany) (.ref XC_NoLine)=some false)
  (xi_TooMany_NoPiece:ax K (.ref XC_TooMany) (.ref XC_NoPiece)=some false)
  (xi_TooMany_NoWord:ax K (.ref XC_TooMany) (.ref XC_NoWord)=some false)
  (xi_TooMany_NotAsMany:ax K (.ref XC_TooMany) (.ref XC_NotAsMany)=some false)
  (xi_TooMany_Nothing:ax K (.ref XC_TooMany) (.ref XC_Nothing)=some false)
  (xi_TooMany_Open:ax K (.ref XC_TooMany) (.ref XC_Open)=some false)
  (xi_TooMany_TooMany:ax K (.ref XC_TooMany) (.ref XC_TooMany)=some true)
  (xi_TooMany_ValueError:ax K (.ref XC_TooMany) (.type "ValueError")=some true)
  {XG_Crossed XG_NoWord XG_Open:aE} {XD_Crossed XD_NoWord XD_Open:gc}
  (xkf_Crossed:bX K (.ref XC_Crossed) "__init__" = some (some (.ref XG_Crossed))) (xkk_Crossed:gp K (.ref XC_Crossed)=true) (xkc_Crossed:zK K XC_Crossed XG_Crossed=true) (xkn_Crossed:bX K (.ref XC_Crossed) "place" = some none)
  (XF_Crossed:Ca K "__init__" "Crossed.__init__" fQ XG_Crossed XD_Crossed)
  (xkf_NoWord:bX K (.ref XC_NoWord) "__init__" = some (some (.ref XG_NoWord))) (xkk_NoWord:gp K (.ref XC_NoWord)=true) (xkc_NoWord:zK K XC_NoWord XG_NoWord=true) (xkn_NoWord:bX K (.ref XC_NoWord) "place" = some none)
  (XF_NoWord:Ca K "__init__" "NoWord.__init__" gH XG_NoWord XD_NoWord)
  (xkf_Open:bX K (.ref XC_Open) "__init__" = some (some (.ref XG_Open))) (xkk_Open:gp K (.ref XC_Open)=true) (xkc_Open:zK K XC_Open XG_Open=true) (xkn_Open:bX K (.ref XC_Open) "way" = some none)
  (XF_Open:Ca K "__init__" "Open.__init__" jF XG_Open XD_Open)
  (xbu_FloorError:gI K (.ref XC_FloorError) "__getattribute__" = some (some (.builtin "type.__getattribute__"))) (xbv_FloorError:AD K XC_FloorError (.type "type")=true) (xbz_FloorError:AE K (.ref XC_FloorError) (.type "type") "__init__" = some (.val (.builtin "ValueError.__init__")))
  (xfd_place_NoWord:iS K XC_NoWord=true) (xfn_place_NoWord:bX K (.ref XC_NoWord) "place" = some none)
  (xfd_place_Crossed:iS K XC_Crossed=true) (xfn_place_Crossed:bX K (.ref XC_Crossed) "place" = some none)
  (xfd_way_Open:iS K XC_Open=true) (xfn_way_Open:bX K (.ref XC_Open) "way" = some none)
  : ∃fd:gc,(∀(s:ah) (v:af),DD s fd ⟨[v],[]⟩ [("_law_script",v)])/\∀base:eJ,K.In base->base.Ns ba mg->pM l.prog w K mg base uN 7 fa fd ["_law_script"] (v5 K tu):=by
 have F27:=tH (st:=qJ) l27 c27 k27
 have T:Tx K mg w:=⟨q0,q1,q2,q3,q4,q5,q6,q7,q8,q9,q10,q11,q12,q13,q14,q15,q16,q17,q18,q19,q20,q21,q22,q23,q24,q25,q26,fq X G z0,fq X G z1,fq X G z2,fq X G z3,fq X G z4,fq X G z5,fq X G z6,fq X G z7,fq X G z8,fq X G z9,fq X G z10,⟨_,xa_Backward,xe_Backward⟩,⟨_,xa_TooMany,xe_TooMany⟩,⟨_,_,xa_Backward,xa_FloorError,xs_Backward_FloorError,xb_FloorError,xt_FloorError⟩,⟨_,_,xa_Crossed,xa_FloorError,xs_Crossed_FloorError,xb_FloorError,xt_FloorError⟩,⟨_,_,xa_NoWord,xa_FloorError,xs_NoWord_FloorError,xb_FloorError,xt_FloorError⟩,⟨_,_,xa_Open,xa_FloorError,xs_Open_FloorError,xb_FloorError,xt_FloorError⟩,⟨_,_,xa_TooMany,xa_FloorError,xs_TooMany_FloorError,xb_FloorError,xt_FloorError⟩,⟨_,_,xa_Backward,xa_Apart,⟨x1_Backward,x2_Backward,x3_Backward,x4_Backward,x5_Backward,x6_Backward,x7_Backward⟩,xi_Backward_Apart⟩,⟨_,_,xa_Backward,xa_Backward,⟨x1_Backward,x2_Backward,x3_Backward,x4_Backward,x5_Backward,x6_Backward,x7_Backward⟩,xi_Backward_Backward⟩,⟨_,_,xa_Backward,xa_Crossed,⟨x1_Backward,x2_Backward,x3_Backward,x4_Backward,x5_Backward,x6_Backward,x7_Backward⟩,xi_Backward_Crossed⟩,⟨_,_,xa_Backward,xa_Hole,⟨x1_Backward,x2_Backward,x3_Backward,x4_Backward,x5_Backward,x6_Backward,x7_Backward⟩,xi_Backward_Hole⟩,⟨_,_,xa_Backward,xa_NoDrawing,⟨x1_Backward,x2_Backward,x3_Backward,x4_Backward,x5_Backward,x6_Backward,x7_Backward⟩,xi_Backward_NoDrawing⟩,⟨_,_,xa_Backward,xa_NoFloor,⟨x1_Backward,x2_Backward,x3_Backward,x4_Backward,x5_Backward,x6_Backward,x7_Backward⟩,xi_Backward_NoFloor⟩,⟨_,_,xa_Backward,xa_NoGrid,⟨x1_Backward,x2_Backward,x3_Backward,x4_Backward,x5_Backward,x6_Backward,x7_Backward⟩,xi_Backward_NoGrid⟩,⟨_,_,xa_Backward,xa_NoLine,⟨x1_Backward,x2_Backward,x3_Backward,x4_Backward,x5_Backward,x6_Backward,x7_Backward⟩,xi_Backward_NoLine⟩,⟨_,_,xa_Backward,xa_NoPiece,⟨x1_Backward,x2_Backward,x3_Backward,x4_Backward,x5_Backward,x6_Backward,x7_Backward⟩,xi_Backward_NoPiece⟩,⟨_,_,xa_Backward,xa_NoWord,⟨x1_Backward,x2_Backward,x3_Backward,x4_Backward,x5_Backward,x6_Backward,x7_Backward⟩,xi_Backward_NoWord⟩,⟨_,_,xa_Backward,xa_NotAsMany,⟨x1_Backward,x2_Backward,x3_Backward,x4_Backward,x5_Backward,x6_Backward,x7_Backward⟩,xi_Backward_NotAsMany⟩,⟨_,_,xa_Backward,xa_Nothing,⟨x1_Backward,x2_Backward,x3_Backward,x4_Backward,x5_Backward,x6_Backward,x7_Backward⟩,xi_Backward_Nothing⟩,⟨_,_,xa_Backward,xa_Open,⟨x1_Backward,x2_Backward,x3_Backward,x4_Backward,x5_Backward,x6_Backward,x7_Backward⟩,xi_Backward_Open⟩,⟨_,_,xa_Backward,xa_TooMany,⟨x1_Backward,x2_Backward,x3_Backward,x4_Backward,x5_Backward,x6_Backward,x7_Backward⟩,xi_Backward_TooMany⟩,⟨_,xa_Backward,⟨x1_Backward,x2_Backward,x3_Backward,x4_Backward,x5_Backward,x6_Backward,x7_Backward⟩,xi_Backward_ValueError⟩,⟨_,_,xa_Crossed,xa_Apart,⟨x1_Crossed,x2_Crossed,x3_Crossed,x4_Crossed,x5_Crossed,x6_Crossed,x7_Crossed⟩,xi_Crossed_Apart⟩,⟨_,_,xa_Crossed,xa_Backward,⟨x1_Crossed,x2_Crossed,x3_Crossed,x4_Crossed,x5_Crossed,x6_Crossed,x7_Crossed⟩,xi_Crossed_Backward⟩,⟨_,_,xa_Crossed,xa_Crossed,⟨x1_Crossed,x2_Crossed,x3_Crossed,x4_Crossed,x5_Crossed,x6_Crossed,x7_Crossed⟩,xi_Crossed_Crossed⟩,⟨_,_,xa_Crossed,xa_Hole,⟨x1_Crossed,x2_Crossed,x3_Crossed,x4_Crossed,x5_Crossed,x6_Crossed,x7_Crossed⟩,xi_Crossed_Hole⟩,⟨_,_,xa_Crossed,xa_NoDrawing,⟨x1_Crossed,x2_Crossed,x3_Crossed,x4_Crossed,x5_Crossed,x6_Crossed,x7_Crossed⟩,xi_Crossed_NoDrawing⟩,⟨_,_,xa_Crossed,xa_NoFloor,⟨x1_Crossed,x2_Crossed,x3_Crossed,x4_Crossed,x5_Crossed,x6_Crossed,x7_Crossed⟩,xi_Crossed_NoFloor⟩,⟨_,_,xa_Crossed,xa_NoGrid,⟨x1_Crossed,x2_Crossed,x3_Crossed,x4_Crossed,x5_Crossed,x6_Crossed,x7_Crossed⟩,xi_Crossed_NoGrid⟩,⟨_,_,xa_Crossed,xa_NoLine,⟨x1_Crossed,x2_Crossed,x3_Crossed,x4_Crossed,x5_Crossed,x6_Crossed,x7_Crossed⟩,xi_Crossed_NoLine⟩,⟨_,_,xa_Crossed,xa_NoPiece,⟨x1_Crossed,x2_Crossed,x3_Crossed,x4_Crossed,x5_Crossed,x6_Crossed,x7_Crossed⟩,xi_Crossed_NoPiece⟩,⟨_,_,xa_Crossed,xa_NoWord,⟨x1_Crossed,x2_Crossed,x3_Crossed,x4_Crossed,x5_Crossed,x6_Crossed,x7_Crossed⟩,xi_Crossed_NoWord⟩,⟨_,_,xa_Crossed,xa_NotAsMany,⟨x1_Crossed,x2_Crossed,x3_Crossed,x4_Crossed,x5_Crossed,x6_Crossed,x7_Crossed⟩,xi_Crossed_NotAsMany⟩,⟨_,_,xa_Crossed,xa_Nothing,⟨x1_Crossed,x2_Crossed,x3_Crossed,x4_Crossed,x5_Crossed,x6_Crossed,x7_Crossed⟩,xi_Crossed_Nothing⟩,⟨_,_,xa_Crossed,xa_Open,⟨x1_Crossed,x2_Crossed,x3_Crossed,x4_Crossed,x5_Crossed,x6_Crossed,x7_Crossed⟩,xi_Crossed_Open⟩,⟨_,_,xa_Crossed,xa_TooMany,⟨x1_Crossed,x2_Crossed,x3_Crossed,x4_Crossed,x5_Crossed,x6_Crossed,x7_Crossed⟩,xi_Crossed_TooMany⟩,⟨_,xa_Crossed,⟨x1_Crossed,x2_Crossed,x3_Crossed,x4_Crossed,x5_Crossed,x6_Crossed,x7_Crossed⟩,xi_Crossed_ValueError⟩,⟨_,_,xa_NoWord,xa_Apart,⟨x1_NoWord,x2_NoWord,x3_NoWord,x4_NoWord,x5_NoWord,x6_NoWord,x7_NoWord⟩,xi_NoWord_Apart⟩,⟨_,_,xa_NoWord,xa_Backward,⟨x1_NoWord,x2_NoWord,x3_NoWord,x4_NoWord,x5_NoWord,x6_NoWord,x7_NoWord⟩,xi_NoWord_Backward⟩,⟨_,_,xa_NoWord,xa_Crossed,⟨x1_NoWord,x2_NoWord,x3_NoWord,x4_NoWord,x5_NoWord,x6_NoWord,x7_NoWord⟩,xi_NoWord_Crossed⟩,⟨_,_,xa_NoWord,xa_Hole,⟨x1_NoWord,x2_NoWord,x3_NoWord,x4_NoWord,x5_NoWord,x6_NoWord,x7_NoWord⟩,xi_NoWord_Hole⟩,⟨_,_,xa_NoWord,xa_NoDrawing,⟨x1_NoWord,x2_NoWord,x3_NoWord,x4_NoWord,x5_NoWord,x6_NoWord,x7_NoWord⟩,xi_NoWord_NoDrawing⟩,⟨_,_,xa_NoWord,xa_NoFloor,⟨x1_NoWord,x2_NoWord,x3_NoWord,x4_NoWord,x5_NoWord,x6_NoWord,x7_NoWord⟩,xi_NoWord_NoFloor⟩,⟨_,_,xa_NoWord,xa_NoGrid,⟨x1_NoWord,x2_NoWord,x3_NoWord,x4_NoWord,x5_NoWord,x6_NoWord,x7_NoWord⟩,xi_NoWord_NoGrid⟩,⟨_,_,xa_NoWord,xa_NoLine,⟨x1_NoWord,x2_NoWord,x3_NoWord,x4_NoWord,x5_NoWord,x6_NoWord,x7_NoWord⟩,xi_NoWord_NoLine⟩,⟨_,_,xa_NoWord,xa_NoPiece,⟨x1_NoWord,x2_NoWord,x3_NoWord,x4_NoWord,x5_NoWord,x6_NoWord,x7_NoWord⟩,xi_NoWord_NoPiece⟩,⟨_,_,xa_NoWord,xa_NoWord,⟨x1_NoWord,x2_NoWord,x3_NoWord,x4_NoWord,x5_NoWord,x6_NoWord,x7_NoWord⟩,xi_NoWord_NoWord⟩,⟨_,_,xa_NoWord,xa_NotAsMany,⟨x1_NoWord,x2_NoWord,x3_NoWord,x4_NoWord,x5_NoWord,x6_NoWord,x7_NoWord⟩,xi_NoWord_NotAsMany⟩,⟨_,_,xa_NoWord,xa_Nothing,⟨x1_NoWord,x2_NoWord,x3_NoWord,x4_NoWord,x5_NoWord,x6_NoWord,x7_NoWord⟩,xi_NoWord_Nothing⟩,⟨_,_,xa_NoWord,xa_Open,⟨x1_NoWord,x2_NoWord,x3_NoWord,x4_NoWord,x5_NoWord,x6_NoWord,x7_NoWord⟩,xi_NoWord_Open⟩,⟨_,_,xa_NoWord,xa_TooMany,⟨x1_NoWord,x2_NoWord,x3_NoWord,x4_NoWord,x5_NoWord,x6_NoWord,x7_NoWord⟩,xi_NoWord_TooMany⟩,⟨_,xa_NoWord,⟨x1_NoWord,x2_NoWord,x3_NoWord,x4_NoWord,x5_NoWord,x6_NoWord,x7_NoWord⟩,xi_NoWord_ValueError⟩,⟨_,_,xa_Open,xa_Apart,⟨x1_Open,x2_Open,x3_Open,x4_Open,x5_Open,x6_Open,x7_Open⟩,xi_Open_Apart⟩,⟨_,_,xa_Open,xa_Backward,⟨x1_Open,x2_Open,x3_Open,x4_Open,x5_Open,x6_Open,x7_Open⟩,xi_Open_Backward⟩,⟨_,_,xa_Open,xa_Crossed,⟨x1_Open,x2_Open,x3_Open,x4_Open,x5_Open,x6_Open,x7_Open⟩,xi_Open_Crossed⟩,⟨_,_,xa_Open,xa_Hole,⟨x1_Open,x2_Open,x3_Open,x4_Open,x5_Open,x6_Open,x7_Open⟩,xi_Open_Hole⟩,⟨_,_,xa_Open,xa_NoDrawing,⟨x1_Open,x2_Open,x3_Open,x4_Open,x5_Open,x6_Open,x7_Open⟩,xi_Open_NoDrawing⟩,⟨_,_,xa_Open,xa_NoFloor,⟨x1_Open,x2_Open,x3_Open,x4_Open,x5_Open,x6_Open,x7_Open⟩,xi_Open_NoFloor⟩,⟨_,_,xa_Open,xa_NoGrid,⟨x1_Open,x2_Open,x3_Open,x4_Open,x5_Open,x6_Open,x7_Open⟩,xi_Open_NoGrid⟩,⟨_,_,xa_Open,xa_NoLine,⟨x1_Open,x2_Open,x3_Open,x4_Open,x5_Open,x6_Open,x7_Open⟩,xi_Open_NoLine⟩,⟨_,_,xa_Open,xa_NoPiece,⟨x1_Open,x2_Open,x3_Open,x4_Open,x5_Open,x6_Open,x7_Open⟩,xi_Open_NoPiece⟩,⟨_,_,xa_Open,xa_NoWord,⟨x1_Open,x2_Open,x3_Open,x4_Open,x5_Open,x6_Open,x7_Open⟩,xi_Open_NoWord⟩,⟨_,_,xa_Open,xa_NotAsMany,⟨x1_Open,x2_Open,x3_Open,x4_Open,x5_Open,x6_Open,x7_Open⟩,xi_Open_NotAsMany⟩,⟨_,_,xa_Open,xa_Nothing,⟨x1_Open,x2_Open,x3_Open,x4_Open,x5_Open,x6_Open,x7_Open⟩,xi_Open_Nothing⟩,⟨_,_,xa_Open,xa_Open,⟨x1_Open,x2_Open,x3_Open,x4_Open,x5_Open,x6_Open,x7_Open⟩,xi_Open_Open⟩,⟨_,_,xa_Open,xa_TooMany,⟨x1_Open,x2_Open,x3_Open,x4_Open,x5_Open,x6_Open,x7_Open⟩,xi_Open_TooMany⟩,⟨_,xa_Open,⟨x1_Open,x2_Open,x3_Open,x4_Open,x5_Open,x6_Open,x7_Open⟩,xi_Open_ValueError⟩,⟨_,_,xa_TooMany,xa_Apart,⟨x1_TooMany,x2_TooMany,x3_TooMany,x4_TooMany,x5_TooMany,x6_TooMany,x7_TooMany⟩,xi_TooMany_Apart⟩,⟨_,_,xa_TooMany,xa_Backward,⟨x1_TooMany,x2_TooMany,x3_TooMany,x4_TooMany,x5_TooMany,x6_TooMany,x7_TooMany⟩,xi_TooMany_Backward⟩,⟨_,_,xa_TooMany,xa_Crossed,⟨x1_TooMany,x2_TooMany,x3_TooMany,x4_TooMany,x5_TooMany,x6_TooMany,x7_TooMany⟩,xi_TooMany_Crossed⟩,⟨_,_,xa_TooMany,xa_Hole,⟨x1_TooMany,x2_TooMany,x3_TooMany,x4_TooMany,x5_TooMany,x6_TooMany,x7_TooMany⟩,xi_TooMany_Hole⟩,⟨_,_,xa_TooMany,xa_NoDrawing,⟨x1_TooMany,x2_TooMany,x3_TooMany,x4_TooMany,x5_TooMany,x6_TooMany,x7_TooMany⟩,xi_TooMany_NoDrawing⟩,⟨_,_,xa_TooMany,xa_NoFloor,⟨x1_TooMany,x2_TooMany,x3_TooMany,x4_TooMany,x5_TooMany,x6_TooMany,x7_TooMany⟩,xi_TooMany_NoFloor⟩,⟨_,_,xa_TooMany,xa_NoGrid,⟨x1_TooMany,x2_TooMany,x3_TooMany,x4_TooMany,x5_TooMany,x6_TooMany,x7_TooMany⟩,xi_TooMany_NoGrid⟩,⟨_,_,xa_TooMany,xa_NoLine,⟨x1_TooMany,x2_TooMany,x3_TooMany,x4_TooMany,x5_TooMany,x6_TooMany,x7_TooMany⟩,xi_TooMany_NoLine⟩,⟨_,_,xa_TooMany,xa_NoPiece,⟨x1_TooMany,x2_TooMany,x3_TooMany,x4_TooMany,x5_TooMany,x6_TooMany,x7_TooMany⟩,xi_TooMany_NoPiece⟩,⟨_,_,xa_TooMany,xa_NoWord,⟨x1_TooMany,x2_TooMany,x3_TooMany,x4_TooMany,x5_TooMany,x6_TooMany,x7_TooMany⟩,xi_TooMany_NoWord⟩,⟨_,_,xa_TooMany,xa_NotAsMany,⟨x1_TooMany,x2_TooMany,x3_TooMany,x4_TooMany,x5_TooMany,x6_TooMany,x7_TooMany⟩,xi_TooMany_NotAsMany⟩,⟨_,_,xa_TooMany,xa_Nothing,⟨x1_TooMany,x2_TooMany,x3_TooMany,x4_TooMany,x5_TooMany,x6_TooMany,x7_TooMany⟩,xi_TooMany_Nothing⟩,⟨_,_,xa_TooMany,xa_Open,⟨x1_TooMany,x2_TooMany,x3_TooMany,x4_TooMany,x5_TooMany,x6_TooMany,x7_TooMany⟩,xi_TooMany_Open⟩,⟨_,_,xa_TooMany,xa_TooMany,⟨x1_TooMany,x2_TooMany,x3_TooMany,x4_TooMany,x5_TooMany,x6_TooMany,x7_TooMany⟩,xi_TooMany_TooMany⟩,⟨_,xa_TooMany,⟨x1_TooMany,x2_TooMany,x3_TooMany,x4_TooMany,x5_TooMany,x6_TooMany,x7_TooMany⟩,xi_TooMany_ValueError⟩,⟨xa_Crossed,xkk_Crossed,xkc_Crossed,xkn_Crossed,XF_Crossed,uF.of XF_Crossed⟩,⟨xa_NoWord,xkk_NoWord,xkc_NoWord,xkn_NoWord,XF_NoWord,vJ.of XF_NoWord⟩,⟨xa_Open,xkk_Open,xkc_Open,xkn_Open,XF_Open,Br.of XF_Open⟩,WR X G xa_FloorError xbu_FloorError xbv_FloorError xbz_FloorError,(.cons xa_NoWord ⟨x1_NoWord,x2_NoWord,x3_NoWord,x4_NoWord,x5_NoWord,x6_NoWord,x7_NoWord⟩ xfd_place_NoWord xfn_place_NoWord (.cons xa_Crossed ⟨x1_Crossed,x2_Crossed,x3_Crossed,x4_Crossed,x5_Crossed,x6_Crossed,x7_Crossed⟩ xfd_place_Crossed xfn_place_Crossed .nil)),(.cons xa_Open ⟨x1_Open,x2_Open,x3_Open,x4_Open,x5_Open,x6_Open,x7_Open⟩ xfd_way_Open xfn_way_Open .nil),⟨_,iL X G dQ0,⟨⟨_,_,_,dR0,⟨rfl,rfl,rfl⟩,rfl,.cons (.tupI ⟨_,_,_,dS0_0,rfl,rfl,(by show 2<=bS;decide),.cons ⟨_,rfl⟩ (.cons ⟨_,rfl⟩ (.nil))⟩) (.cons (.tupI ⟨_,_,_,dS0_1,rfl,rfl,(by show 2<=bS;decide),.cons ⟨_,rfl⟩ (.cons ⟨_,rfl⟩ (.nil))⟩) (.cons (.tupI ⟨_,_,_,dS0_2,rfl,rfl,(by show 2<=bS;decide),.cons ⟨_,rfl⟩ (.cons ⟨_,rfl⟩ (.nil))⟩) (.cons (.tupI ⟨_,_,_,dS0_3,rfl,rfl,(by show 2<=bS;decide),.cons ⟨_,rfl⟩ (.cons ⟨_,rfl⟩ (.nil))⟩) (.nil))))⟩,by decide,dU0⟩⟩,⟨_,iL X G y0⟩⟩
 have e:=hfa.symm.trans (iL X G a27)
 cases e
 refine⟨kz "law" "law" (bh qJ) (aQ qJ) (az qJ) .none kV27 dc27 pm27 an27 cd27 ct27,fun s v=>.of_eq rfl,fun base _ _=>?_⟩
 exact Xo T F27
end Law
open PySem PySem.W PyProof.Rows
set_option maxRecDepth 100000 in
set_option maxHeartbeats 0 in
theorem PySem.Challenge.cw_borderfloor_k15_words_that_go_round_noth_holds : PySem.Challenge.rw_borderfloor_k15_words_that_go_round_noth.Holds := by
 w_on;o_law
 refine holds_open (r:=OpenLaw.row PySem.Challenge.rw_borderfloor_k15_words_that_go_round_noth) (q:=Law.vw) (loose:=Law.lo) (Xt:=Law.xT) (XP:=XL Law.vw []) (YP:=(ma Law.K0 Law.kA Law.kE [364]).says)
  (N:=20100) Law.ld (Hook.of _) (Hook.keeps _) (fun s z=>xl_of s (sC.mp z).1) XL.keeps (by rfl) (by rfl) (by rfl) (fun s z=>recFacts_of (sC.mp z).2) (by rfl) (by assumption)
  (by decide +kernel) ⟨rfl,rfl,rfl,rfl,rfl,by decide +kernel⟩ ?hw ?hc
 case hw=>w_witness2
 k_fill
 refine' L3.O5 (l:=PySem.Challenge.rw_borderfloor_k15_words_that_go_round_noth) (n:=63) (k:=7) (x := "_law_script") (xt := "_law_piece") (sp:=Law.tu) rfl (by decide) rfl ⟨rfl,by decide,by decide⟩ (fun w h Y=>PySem.W.km_in_of Y) ?R ?T ?B ?NB ?NT ?F ?S
 case R=>rfl
 case T=>
  intro w
  refine' L3.Rg ?h1 ?h2 ?h3 ?h4 ?h5
  (case h1=>k_is)
  (case h2=>k_is)
  (case h3=>rfl)
  (case h4=>k_is)
  (case h5=>rfl)
 case B=>intro w;k_is
 case NB=>intro w;kernel_rfl
 case NT=>intro w;kernel_rfl
 case F=>
  intro w mg fa h KX G hmg
  refine' Law.all_mk KX G hmg (L3.cU KX G ?a0 ?l0 ?c0 ?k0 Law.Pr) (L3.cU KX G ?a1 ?l1 ?c1 ?k1 Law.yc) (L3.cU KX G ?a2 ?l2 ?c2 ?k2 Law.M8) (L3.cU KX G ?a3 ?l3 ?c3 ?k3 Law.Hk) (L3.cU KX G ?a4 ?l4 ?c4 ?k4 Law.sX) (L3.cU KX G ?a5 ?l5 ?c5 ?k5 Law.pZ) (L3.cU KX G ?a6 ?l6 ?c6 ?k6 Law.sS) (L3.cU KX G ?a7 ?l7 ?c7 ?k7 Law.uJ) (L3.cU KX G ?a8 ?l8 ?c8 ?k8 Law.Bk) (L3.cU KX G ?a9 ?l9 ?c9 ?k9 Law.zU) (L3.cU KX G ?a10 ?l10 ?c10 ?k10 Law.CT) (L3.cU KX G ?a11 ?l11 ?c11 ?k11 Law.K7) (L3.cU KX G ?a12 ?l12 ?c12 ?k12 Law.Nr) (L3.cU KX G ?a13 ?l13 ?c13 ?k13 Law.Nt) (L3.cU KX G ?a14 ?l14 ?c14 ?k14 Law.Mg) (L3.cU KX G ?a15 ?l15 ?c15 ?k15 Law.Hx) (L3.cU KX G ?a16 ?l16 ?c16 ?k16 Law.FQ) (L3.cU KX G ?a17 ?l17 ?c17 ?k17 Law.HS) (L3.cU KX G ?a18 ?l18 ?c18 ?k18 Law.Gq) (L3.cU KX G ?a19 ?l19 ?c19 ?k19 Law.wV) (L3.cU KX G ?a20 ?l20 ?c20 ?k20 Law.HX) (L3.cU KX G ?a21 ?l21 ?c21 ?k21 Law.Ai) (L3.cU KX G ?a22 ?l22 ?c22 ?k22 Law.J4) (L3.cU KX G ?a23 ?l23 ?c23 ?k23 Law.Oa) (L3.cU KX G ?a24 ?l24 ?c24 ?k24 Law.FT) (L3.cU KX G ?a25 ?l25 ?c25 ?k25 Law.Bm) (L3.cU KX G ?a26 ?l26 ?c26 ?k26 Law.Kp) ?a27 ?l27 ?c27 ?k27 ?z0 ?z1 ?z2 ?z3 ?z4 ?z5 ?z6 ?z7 ?z8 ?z9 ?z10 ?y0 ?dQ0 ?dR0 ?dU0 ?dS0_0 ?dS0_1 ?dS0_2 ?dS0_3 ?xa_Apart ?xa_Backward ?xa_Crossed ?xa_FloorError ?xa_Hole ?xa_NoDrawing ?xa_NoFloor ?xa_NoGrid ?xa_NoLine ?xa_NoPiece ?xa_NoWord ?xa_NotAsMany ?xa_Nothing ?xa_Open ?xa_TooMany ?xe_Backward ?xe_TooMany ?xs_Backward_FloorError ?xs_Crossed_FloorError ?xs_NoWord_FloorError ?xs_Open_FloorError ?xs_TooMany_FloorError ?xb_FloorError ?xt_FloorError ?x1_Backward ?x2_Backward ?x3_Backward ?x4_Backward ?x5_Backward ?x6_Backward ?x7_Backward ?x1_Crossed ?x2_Crossed ?x3_Crossed ?x4_Crossed ?x5_Crossed ?x6_Crossed ?x7_Crossed ?x1_NoWord ?x2_NoWord ?x3_NoWord ?x4_NoWord ?x5_NoWord ?x6_NoWord ?x7_NoWord ?x1_Open ?x2_Open ?x3_Open ?x4_Open ?x5_Open ?x6_Open ?x7_Open ?x1_TooMany ?x2_TooMany ?x3_TooMany ?x4_TooMany ?x5_TooMany ?x6_TooMany ?x7_TooMany ?xi_Backward_Apart ?xi_Backward_Backward ?xi_Backward_Crossed ?xi_Backward_Hole ?xi_Backward_NoDrawing ?xi_Backward_NoFloor ?xi_Backward_NoGrid ?xi_Backward_NoLine ?xi_Backward_NoPiece ?xi_Backward_NoWord ?xi_Backward_NotAsMany ?xi_Backward_Nothing ?xi_Backward_Open ?xi_Backward_TooMany ?xi_Backward_ValueError ?xi_Crossed_Apart ?xi_Crossed_Backward ?xi_Crossed_Crossed ?xi_Crossed_Hole ?xi_Crossed_NoDrawing ?xi_Crossed_NoFloor ?xi_Crossed_NoGrid ?xi_Crossed_NoLine ?xi_Crossed_NoPiece ?xi_Crossed_NoWord ?xi_Crossed_NotAsMany ?xi_Crossed_Nothing ?xi_Crossed_Open ?xi_Crossed_TooMany ?xi_Crossed_ValueError ?xi_NoWord_Apart ?xi_NoWord_Backward ?xi_NoWord_Crossed ?xi_NoWord_Hole ?xi_NoWord_NoDrawing ?xi_NoWord_NoFloor ?xi_NoWord_NoGrid ?xi_NoWord_NoLine ?xi_NoWord_NoPiece ?xi_NoWord_NoWord ?xi_NoWord_NotAsMany ?xi_NoWord_Nothing ?xi_NoWord_Open ?xi_NoWord_TooMany ?xi_NoWord_ValueError ?xi_Open_Apart ?xi_Open_Backward ?xi_Open_Crossed ?xi_Open_Hole ?xi_Open_NoDrawing ?xi_Open_NoFloor ?xi_Open_NoGrid ?xi_Open_NoLine ?xi_Open_NoPiece ?xi_Open_NoWord ?xi_Open_NotAsMany ?xi_Open_Nothing ?xi_Open_Open ?xi_Open_TooMany ?xi_Open_ValueError ?xi_TooMany_Apart ?xi_TooMany_Backward ?xi_TooMany_Crossed ?xi_TooMany_Hole ?xi_TooMany_NoDrawing ?xi_TooMany_NoFloor ?xi_TooMany_NoGrid ?xi_TooMany_NoLine ?xi_TooMany_NoPiece ?xi_TooMany_NoWord ?xi_TooMany_NotAsMany ?xi_TooMany_Nothing ?xi_TooMany_Open ?xi_TooMany_TooMany ?xi_TooMany_ValueError ?xkf_Crossed ?xkk_Crossed ?xkc_Crossed ?xkn_Crossed (L2.tH ?xl_Crossed ?xd_Crossed ?xq_Crossed) ?xkf_NoWord ?xkk_NoWord ?xkc_NoWord ?xkn_NoWord (L2.tH ?xl_NoWord ?xd_NoWord ?xq_NoWord) ?xkf_Open ?xkk_Open ?xkc_Open ?xkn_Open (L2.tH ?xl_Open ?xd_Open ?xq_Open) ?xbu_FloorError ?xbv_FloorError ?xbz_FloorError ?xfd_place_NoWord ?xfn_place_NoWord ?xfd_place_Crossed ?xfn_place_Crossed ?xfd_way_Open ?xfn_way_Open
  (case a0=>k_is)
  (case l0=>k_is)
  (case c0=>k_is)
  (case k0=>k_is)
  (case a1=>k_is)
  (case l1=>k_is)
  (case c1=>k_is)
  (case k1=>k_is)
  (case a2=>k_is)
  (case l2=>k_is)
  (case c2=>k_is)
  (case k2=>k_is)
  (case a3=>k_is)
  (case l3=>k_is)
  (case c3=>k_is)
  (case k3=>k_is)
  (case a4=>k_is)
  (case l4=>k_is)
  (case c4=>k_is)
  (case k4=>k_is)
  (case a5=>k_is)
  (case l5=>k_is)
  (case c5=>k_is)
  (case k5=>k_is)
  (case a6=>k_is)
  (case l6=>k_is)
  (case c6=>k_is)
  (case k6=>k_is)
  (case a7=>k_is)
  (case l7=>k_is)
  (case c7=>k_is)
  (case k7=>k_is)
  (case a8=>k_is)
  (case l8=>k_is)
  (case c8=>k_is)
  (case k8=>k_is)
  (case a9=>k_is)
  (case l9=>k_is)
  (case c9=>k_is)
  (case k9=>k_is)
  (case a10=>k_is)
  (case l10=>k_is)
  (case c10=>k_is)
  (case k10=>k_is)
  (case a11=>k_is)
  (case l11=>k_is)
  (case c11=>k_is)
  (case k11=>k_is)
  (case a12=>k_is)
  (case l12=>k_is)
  (case c12=>k_is)
  (case k12=>k_is)
  (case a13=>k_is)
  (case l13=>k_is)
  (case c13=>k_is)
  (case k13=>k_is)
  (case a14=>k_is)
  (case l14=>k_is)
  (case c14=>k_is)
  (case k14=>k_is)
  (case a15=>k_is)
  (case l15=>k_is)
  (case c15=>k_is)
  (case k15=>k_is)
  (case a16=>k_is)
  (case l16=>k_is)
  (case c16=>k_is)
  (case k16=>k_is)
  (case a17=>k_is)
  (case l17=>k_is)
  (case c17=>k_is)
  (case k17=>k_is)
  (case a18=>k_is)
  (case l18=>k_is)
  (case c18=>k_is)
  (case k18=>k_is)
  (case a19=>k_is)
  (case l19=>k_is)
  (case c19=>k_is)
  (case k19=>k_is)
  (case a20=>k_is)
  (case l20=>k_is)
  (case c20=>k_is)
  (case k20=>k_is)
  (case a21=>k_is)
  (case l21=>k_is)
  (case c21=>k_is)
  (case k21=>k_is)
  (case a22=>k_is)
  (case l22=>k_is)
  (case c22=>k_is)
  (case k22=>k_is)
  (case a23=>k_is)
  (case l23=>k_is)
  (case c23=>k_is)
  (case k23=>k_is)
  (case a24=>k_is)
  (case l24=>k_is)
  (case c24=>k_is)
  (case k24=>k_is)
  (case a25=>k_is)
  (case l25=>k_is)
  (case c25=>k_is)
  (case k25=>k_is)
  (case a26=>k_is)
  (case l26=>k_is)
  (case c26=>k_is)
  (case k26=>k_is)
  (case a27=>k_is)
  (case l27=>k_is)
  (case c27=>k_is)
  (case k27=>k_is)
  (case z0=>k_is)
  (case z1=>k_is)
  (case z2=>k_is)
  (case z3=>k_is)
  (case z4=>k_is)
  (case z5=>k_is)
  (case z6=>k_is)
  (case z7=>k_is)
  (case z8=>k_is)
  (case z9=>k_is)
  (case z10=>k_is)
  (case y0=>k_is)
  (case dQ0=>k_is)
  (case dR0=>k_is)
  (case dU0=>rfl)
  (case dS0_0=>k_is)
  (case dS0_1=>k_is)
  (case dS0_2=>k_is)
  (case dS0_3=>k_is)
  (case xa_Apart=>k_is)
  (case xa_Backward=>k_is)
  (case xa_Crossed=>k_is)
  (case xa_FloorError=>k_is)
  (case xa_Hole=>k_is)
  (case xa_NoDrawing=>k_is)
  (case xa_NoFloor=>k_is)
  (case xa_NoGrid=>k_is)
  (case xa_NoLine=>k_is)
  (case xa_NoPiece=>k_is)
  (case xa_NoWord=>k_is)
  (case xa_NotAsMany=>k_is)
  (case xa_Nothing=>k_is)
  (case xa_Open=>k_is)
  (case xa_TooMany=>k_is)
  (case xe_Backward=>k_exc)
  (case xe_TooMany=>k_exc)
  (case xs_Backward_FloorError=>k_is)
  (case xs_Crossed_FloorError=>k_is)
  (case xs_NoWord_FloorError=>k_is)
  (case xs_Open_FloorError=>k_is)
  (case xs_TooMany_FloorError=>k_is)
  (case xb_FloorError=>k_is)
  (case xt_FloorError=>k_is)
  (case x1_Backward=>k_is)
  (case x2_Backward=>k_is)
  (case x3_Backward=>k_is)
  (case x4_Backward=>k_is)
  (case x5_Backward=>k_is)
  (case x6_Backward=>k_is)
  (case x7_Backward=>k_is)
  (case x1_Crossed=>k_is)
  (case x2_Crossed=>k_is)
  (case x3_Crossed=>k_is)
  (case x4_Crossed=>k_is)
  (case x5_Crossed=>k_is)
  (case x6_Crossed=>k_is)
  (case x7_Crossed=>k_is)
  (case x1_NoWord=>k_is)
  (case x2_NoWord=>k_is)
  (case x3_NoWord=>k_is)
  (case x4_NoWord=>k_is)
  (case x5_NoWord=>k_is)
  (case x6_NoWord=>k_is)
  (case x7_NoWord=>k_is)
  (case x1_Open=>k_is)
  (case x2_Open=>k_is)
  (case x3_Open=>k_is)
  (case x4_Open=>k_is)
  (case x5_Open=>k_is)
  (case x6_Open=>k_is)
  (case x7_Open=>k_is)
  (case x1_TooMany=>k_is)
  (case x2_TooMany=>k_is)
  (case x3_TooMany=>k_is)
  (case x4_TooMany=>k_is)
  (case x5_TooMany=>k_is)
  (case x6_TooMany=>k_is)
  (case x7_TooMany=>k_is)
  (case xi_Backward_Apart=>kit_is)
  (case xi_Backward_Backward=>kit_is)
  (case xi_Backward_Crossed=>kit_is)
  (case xi_Backward_Hole=>kit_is)
  (case xi_Backward_NoDrawing=>kit_is)
  (case xi_Backward_NoFloor=>kit_is)
  (case xi_Backward_NoGrid=>kit_is)
  (case xi_Backward_NoLine=>kit_is)
  (case xi_Backward_NoPiece=>kit_is)
  (case xi_Backward_NoWord=>kit_is)
  (case xi_Backward_NotAsMany=>kit_is)
  (case xi_Backward_Nothing=>kit_is)
  (case xi_Backward_Open=>kit_is)
  (case xi_Backward_TooMany=>kit_is)
  (case xi_Backward_ValueError=>kit_is)
  (case xi_Crossed_Apart=>kit_is)
  (case xi_Crossed_Backward=>kit_is)
  (case xi_Crossed_Crossed=>kit_is)
  (case xi_Crossed_Hole=>kit_is)
  (case xi_Crossed_NoDrawing=>kit_is)
  (case xi_Crossed_NoFloor=>kit_is)
  (case xi_Crossed_NoGrid=>kit_is)
  (case xi_Crossed_NoLine=>kit_is)
  (case xi_Crossed_NoPiece=>kit_is)
  (case xi_Crossed_NoWord=>kit_is)
  (case xi_Crossed_NotAsMany=>kit_is)
  (case xi_Crossed_Nothing=>kit_is)
  (case xi_Crossed_Open=>kit_is)
  (case xi_Crossed_TooMany=>kit_is)
  (case xi_Crossed_ValueError=>kit_is)
  (case xi_NoWord_Apart=>kit_is)
  (case xi_NoWord_Backward=>kit_is)
  (case xi_NoWord_Crossed=>kit_is)
  (case xi_NoWord_Hole=>kit_is)
  (case xi_NoWord_NoDrawing=>kit_is)
  (case xi_NoWord_NoFloor=>kit_is)
  (case xi_NoWord_NoGrid=>kit_is)
  (case xi_NoWord_NoLine=>kit_is)
  (case xi_NoWord_NoPiece=>kit_is)
  (case xi_NoWord_NoWord=>kit_is)
  (case xi_NoWord_NotAsMany=>kit_is)
  (case xi_NoWord_Nothing=>kit_is)
  (case xi_NoWord_Open=>kit_is)
  (case xi_NoWord_TooMany=>kit_is)
  (case xi_NoWord_ValueError=>kit_is)
  (case xi_Open_Apart=>kit_is)
  (case xi_Open_Backward=>kit_is)
  (case xi_Open_Crossed=>kit_is)
  (case xi_Open_Hole=>kit_is)
  (case xi_Open_NoDrawing=>kit_is)
  (case xi_Open_NoFloor=>kit_is)
  (case xi_Open_NoGrid=>kit_is)
  (case xi_Open_NoLine=>kit_is)
  (case xi_Open_NoPiece=>kit_is)
  (case xi_Open_NoWord=>kit_is)
  (case xi_Open_NotAsMany=>kit_is)
  (case xi_Open_Nothing=>kit_is)
  (case xi_Open_Open=>kit_is)
  (case xi_Open_TooMany=>kit_is)
  (case xi_Open_ValueError=>kit_is)
  (case xi_TooMany_Apart=>kit_is)
  (case xi_TooMany_Backward=>kit_is)
  (case xi_TooMany_Crossed=>kit_is)
  (case xi_TooMany_Hole=>kit_is)
  (case xi_TooMany_NoDrawing=>kit_is)
  (case xi_TooMany_NoFloor=>kit_is)
  (case xi_TooMany_NoGrid=>kit_is)
  (case xi_TooMany_NoLine=>kit_is)
  (case xi_TooMany_NoPiece=>kit_is)
  (case xi_TooMany_NoWord=>kit_is)
  (case xi_TooMany_NotAsMany=>kit_is)
  (case xi_TooMany_Nothing=>kit_is)
  (case xi_TooMany_Open=>kit_is)
  (case xi_TooMany_TooMany=>kit_is)
  (case xi_TooMany_ValueError=>kit_is)
  (case xkf_Crossed=>k_is)
  (case xkk_Crossed=>k_is)
  (case xkc_Crossed=>kernel_rfl)
  (case xkn_Crossed=>k_is)
  (case xl_Crossed=>k_is)
  (case xd_Crossed=>k_is)
  (case xq_Crossed=>k_is)
  (case xkf_NoWord=>k_is)
  (case xkk_NoWord=>k_is)
  (case xkc_NoWord=>kernel_rfl)
  (case xkn_NoWord=>k_is)
  (case xl_NoWord=>k_is)
  (case xd_NoWord=>k_is)
  (case xq_NoWord=>k_is)
  (case xkf_Open=>k_is)
  (case xkk_Open=>k_is)
  (case xkc_Open=>kernel_rfl)
  (case xkn_Open=>k_is)
  (case xl_Open=>k_is)
  (case xd_Open=>k_is)
  (case xq_Open=>k_is)
  (case xbu_FloorError=>k_is)
  (case xbv_FloorError=>k_is)
  (case xbz_FloorError=>k_is)
  (case xfd_place_NoWord=>k_is)
  (case xfn_place_NoWord=>k_is)
  (case xfd_place_Crossed=>k_is)
  (case xfn_place_Crossed=>k_is)
  (case xfd_way_Open=>k_is)
  (case xfn_way_Open=>k_is)
 case S=>exact fun H ns hl h=>Law.Ka hl h
end
