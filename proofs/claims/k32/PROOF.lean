import PyProof.Rows.All
import Wide.All
import OpenK.AllK
import Wide.FinOn
import Lean
import PyProof.EqAt
import PyProof.EqKinds
import PyProof.TupleCall
import PySem.Challenge.RW_dots_k32_no_sign
set_option tactic.hygienic false
open Option renaming some->Y,none->L
open _root_ renaming List->O,Option->a5,Nat->T,if_pos->cb,Bool->cc,if_neg->cv,Int->cx,decide_eq_true->c0,Array->c4,decide_eq_true_eq->c5,decide_eq_false->c6,congrArg->c7,of_decide_eq_true->c8,or_false->dy,StateT->eb,DecidableEq->ed,beq_iff_eq->ef,if_false->eg,Decidable->ei,if_true->ek,decide_eq_false_iff_not->er,String->et,bne_self_eq_false->ew,beq_self_eq_true->e8,ForInStep->fb,instDecidableEqSum->hA,dif_pos->hQ,Unit->k8
open PySem renaming mainGlobals->c9,compareOp->dk,bootBuiltins->dt,binaryOp->ea,assignEach->ej,foldedSetIterable->eu,isSubtype->ez,codeAny->eH,backTo->eI,sliceBounds->eL,ofAClassStatement->eX,wpAny_pyIter_enum->e6,excClassObj->fc,swapsWith->fo,wpAny_letOwnedTupleGo_enum->fw,strIterType->fy,swapsWithSole->fC,swappedStores->f7,attributeBase->f9,pickOrder->gc,entryFor_of_tree->gg,wpAny_pyNext_enum_itemD->gi,getItem->gk,wpAny_pyNext_enum_endD->gq,letOwnedTupleGo->gs,hashByValue->gv,bindArgs->gw,relayAll->gN,setSearchFrom->g7,isInstance->g8,sysModules->hB,assign->hD,pyNext->hF,wpAny_pyIter_tuple->hG,wpAny_pyIter_range->hH,cameBackBy->hK,wpAny_assign_Name->hL,wpAny_Assign_Name->hM,wpAny_sequenceKey->hO,valueAt->hP,fits_of_scanBound->hR,entryFor->hS,intItems->hT,seqIndex?->hU,typeOf->hW,noteFrame->hY,setFlight->h9,callerA->iy,setNext->iI,builtinsNs->i0,wpAny_Name->i1,wpAny_load->jn,typeIs_str->j0,execs->j_,setItem->kl,leaving->kn,Keyword->kx,OsState->ky,OwnTail->k6,notedBy->k7,collect->k9,bindL->l6,bindC->l_,field->ma,Meets->mh
open PyProof.Rows renaming envOfC->fe,seqObj->ft,entry_tuple_getitem->gU,args_tuple_getitem->hI,pendingOf->iv,gallopOf->j1,sortedHeap->j2,tuples'->lh
open PySem.W renaming findIn->ih
open Bool renaming true->U,false->J
noncomputable section
set_option bootstrap.genMatcherCode false
set_option genInjectivity false
set_option genSizeOf false
open And renaming intro->wq
open Array renaming getElem?_eq_getElem->a8,length_toList->bo,getElem?_eq_some_iff->bq,getElem?_eq_none->ja,getElem?_toList->jA,forIn_toList->ni,getElem_toList->qR,replicate->wo,getD_eq_getD_getElem?->yv,getD->JN,ext_getElem?->JO,toList_push->Ln
open Bool renaming and_eq_true->ah,false_eq_true->dh,and_eq_true_iff->eP,not_eq_true'->jG,or_eq_true->kj,and_true->mo,or_true->p6,and_self->sS,and_assoc->zk,eq_false_iff->LN,eq_iff_iff->QL,decide_and->QM,not_false->Vi
open Classical renaming propDecidable->nW,em->LM
open Eq renaming symm->vS
open False renaming elim->bK
open ForInStep renaming yield->jZ
open Int renaming ofNat->fN,ofNat_le->fQ,ofNat_zero_le->fY,le_trans->gH,lt_of_le_of_lt->gZ,eq_ofNat_of_zero_le->kO,not_le->nV,le_of_eq->qb,ofNat_lt->vq,toNat->wj,not_le_of_gt->wm,negSucc->yu,natCast_pos->yK,toNat_natCast->Qg,not_lt_of_ge->QK,le_antisymm->Vg,emod_nonneg->Vh
open Int.ofNat renaming inj->Lm
open List renaming length->Z,getElem?_eq_getElem->ag,mem_cons->ak,mem_singleton->ax,map_cons->az,mem_append_right->aB,length_map->aE,getElem?_append_right->aG,mem_append->aH,mem_append_left->aJ,length_append->aL,getElem?_eq_some_iff->aM,getElem?_append_left->aO,range->aR,getElem?_map->aS,append_assoc->aT,append_nil->aW,mem_range->aX,mem_of_getElem?->aY,nodup_cons->a6,length_range->ba,all_eq_true->bc,take_append_drop->bp,not_mem_nil->bu,getElem_mem->bw,size_toArray->bB,length_cons->bG,replicate->bH,mem_filter->bI,mem_map->bT,mem_iff_getElem->cF,nodup_append->cG,pairwise_cons->cJ,getElem?_take->cL,getElem?_replicate->cO,mem_of_mem_take->cY,map_map->cZ,getElem?_set_ne->dc,exists_cons_of_length_eq_add_one->di,length_filter_le->dv,lookup_cons->dP,map_congr_left->dS,mem_map_of_mem->eh,perm_append_comm->eD,nodup_nil->eE,all_cons->eF,pairwise_append->eN,getElem?_set_self->fh,getD_eq_getElem?_getD->fi,length_pos_iff->fu,pairwise_iff_getElem->fD,drop_eq_getElem_cons->fE,length_take->fL,mem_of_mem_drop->fS,pairwise_map->fT,getElem?_cons_succ->fU,drop_sublist->fV,map_append->fX,take_of_length_le->gC,length_eq_one_iff->gD,nodup_range->gJ,isEmpty_iff->gP,perm_ext_iff_of_nodup->gR,length_replicate->gW,getElem?_eq_none->gY,reverse_perm->iA,mem_of_mem_tail->iC,length->iD,getElem?_of_mem->iE,flatMap_append->iS,mem_filterMap->jh,of_mem_zip->jv,take_sublist->jD,getElem?_inj->jE,length_drop->jW,ext_getElem->jX,any_eq_true->jY,getElem_of_mem->j6,getElem?_drop->ku,length_eq_zero_iff->kG,take_take->kU,flatMap_singleton->kW,ext_getElem?->kX,drop_left->kY,drop_eq_nil_of_le->kZ,drop_drop->lg,pairwise_reverse->lQ,mem_iff_getElem?->lR,getElem?_toArray->lS,mem_flatMap->l5,take_zero->nH,take_left->nJ,reverse_cons->oj,getElem?_set->om,prefix_iff_eq_take->pJ,pairwise_singleton->pK,cons_append->pL,pairwise_lt_range->p5,zipIdx_map_fst->sy,filterMap_cons->sD,any_cons->sQ,getElem_range->tY,filter_append->tZ,set_eq_take_append_cons_drop->uf,zipWith->uU,map_inj_left->uV,flatMap_cons->uW,zipIdx_cons->vN,take_length->vO,getElem_map->vP,flatMap_nil->vQ,drop_length->vR,take_append_of_le_length->we,eq_nil_of_length_eq_zero->wg,length_zip->yr,forIn_cons->yt,drop_take->zi,map_take->BV,find?_range_eq_none->BW,pairwise_filterMap->B8,zipWith_cons_cons->Es,range_succ_eq_map->Et,filter_eq_nil_iff->Eu,append_eq_nil_iff->Ew,getElem?_reverse->EY,map_id->G8,filter_sublist->JM,zip_cons_cons->Li,map_inj_right->Lj,length_modify->Lk,contains_cons->Ll,tail_sublist->LL,reverse_nil->Qc,range'_succ->Qd,perm_middle->Qe,filter_cons->Qf,zip_append->QF,zipIdx_nil->QG,length_set->QH,head?_cons->QI,foldl_cons->QJ,map->Vd,forIn_nil->Ve,drop_zero->Vf
open List.Nodup renaming sublist->BX
open List.Pairwise renaming imp_of_mem->jF,imp->qa,nil->zj
open List.Perm renaming append_left->kN,eq_of_pairwise->ng,trans->G9
open List.cons renaming inj->eO,injEq->gV
open Nat renaming le_trans->aa,le_of_eq->af,le_refl->ao,lt_of_le_of_lt->aA,le_antisymm->aI,le_of_lt->aK,lt_of_lt_of_le->aQ,zero_le->aU,ne_of_lt->a7,not_le_of_lt->a9,le_of_succ_le_succ->bb,le_add_right->be,succ_le_succ->bf,lt_of_le_of_ne->bD,lt_irrefl->bE,le_of_not_lt->cB,pos_of_ne_zero->cC,lt_trans->de,le_succ_of_le->dA,add_sub_cancel_left->dW,lt_of_not_le->eT,zero_add->fj,min_eq_left->gf,add_sub_of_le->iF,add_le_of_le_sub->iG,lt_succ_self->iX,sub_self->jl,ne_of_gt->jm,lt_or_ge->jo,add_right_comm->jq,le_add_left->jy,add_assoc->ki,min_le_left->kr,mod_lt->kF,lt_succ_of_lt->lz,add_le_add_left->m8,add_le_add->nU,lt_trichotomy->oQ,le_succ->oR,min_le_right->pS,sub_le->p9,add_lt_of_lt_sub->rN,sub_add_cancel->ue,add_comm->vp,not_lt_zero->yJ,le_of_add_le_add_left->BU,lt_add_of_pos_right->Er,le_add_right_of_le->EX,lt_sub_of_add_lt->JK,le_sub_of_add_le->JL,testBit_two_pow->Lh,add_sub_cancel->LK,lt_succ_of_le->Qb,sub_lt_of_lt->QC,not_lt_of_le->QD,lt_add_right->QE,testBit_and->Vc
open Nat.succ renaming inj->dO
open Ne renaming symm->dn
open Option renaming bind_some->bS,bind->bV,map_some->cT,isNone_iff_eq_none->dC,isSome_iff_exists->iw,getD_some->lK,map->pI,bind_eq_some_iff->Au,map_eq_some_iff->BS,getD_none->Lg,map_map->Qa,isSome->QB
open Option.some renaming inj->bh,injEq->i6
open Prod renaming ext->G7
open Prod.mk renaming injEq->qW
open PyProof.Rows renaming SortSt->cg,callWith_type1->cU,slot_tuple_getitem->dR,Keyed->ko,AllBare->mn,lt_int->pH,SortKind->qQ,callWith_builtin1->qV,StrsAre->rM,getItem_tuple->tX,len_tuple->vM,IsTup->BR,IntsAre->Ep,listUpdate_at->JJ,subscriptTail_builtinR->LH,tail_any->Qz,seqEpoch_at->QA
open PyProof.Rows.F renaming plain_set_update_loop->oO,entry_set_update_loop->oP
open PyProof.Rows.IsTup renaming new->LJ
open PyProof.Rows.SortSt renaming mk'->m7
open PySem renaming Value->ai,Shared->aj,model->aq,wpAny->aw,Addr->aD,sizeLine->aF,starEach->aN,Str->aV,Expr->aZ,wpAny_mono->bC,SetTable->bF,Around->bJ,Heap->bP,wpAny_holding->bQ,wpAny_setField_rec->bW,wpAny_call_entry->bY,Program->ck,wpAny_field->cD,wpAny_callSpecial?_slot->cR,World->cW,wpAny_seqItems->dB,wpAny_newObj_type->dI,wpAny_isInstance->dU,wpAny_setState_of->dX,cLine->eC,sizeLine_eq->eG,wpAny_Call_Name_kw->eV,codeAny_builtin->fK,Stmt->fP,codeAny_call_builtin->fZ,wpAny_truthy_bool->gp,Builtin->gu,wpAny_specialOf->gG,wpAny_rule->ip,mem_of_lookup->iP,codeAny_mono->iQ,FuncData->iR,wpAny_attempt->iV,plainId_quiet->iW,wpAny_forIn_list->jk,wpAny_typeOf->jC,wpAny_updateSeq->jN,wpAny_passesOwn->jO,wpAny_execs_nil->jP,Paired->kB,wpAny_tupleItemsOf->lu,wpAny_of_eq->lH,wpAny_getItem_str_slice->lI,Obj->lO,KeyKind->lZ,wpAny_loadPart_at->l9,NameKind->mj,wpAny_standAt->m6,wpAny_letGo->m9,GenState->nc,Scope->n9,wpAny_setField->oV,wpAny_pyIter_strU->pX,wpAny_pyIter_list->pY,wpAny_pyIter_enum->pZ,wpAny_execs_cons->qM,PassesOwn->qO,wpAny_call->rH,Pos->rJ,IsPair->rK,wpAny_loadPart'->sr,post_val_or_str->su,isSubtype_tuple_tuple->sL,wpAny_updateSeq_pair->t6,wpAny_loadPart->t7,isSubtype_stop->t8,IsPart->ub,wpAny_onRaise->vH,ExceptHandler->vL,wpAny_pyIter_slot->yz,concat_meets->yB,callType_new->yD,wpAny_askSetting->Aj,scanBound->Ak,noFill_tuple_add->Al,placed->BZ,Sem->B3,Env->B6,wpAny_richCompare_same_room->El,BindsTo->Eo,wpAny_tryCatch->EG,wpAny_runValue->EH,wpAny_newTuple->EI,wpAny_letOwnedTupleGo_enum->EJ,pyIter->EK,entryFor_alias->EL,Operator->ET,MulOk->EU,wpAny_newList->Jz,wpAny_comprehension_free->JA,seq_tuple_add->JB,call->JC,Tok->JE,wpAny_pyNext_enum_itemD->Lf,wpAny_pyNext_range_end->Lz,wpAny_pyNext_enum_endD->LA,wpAny_pyIter_rangeiter->LB,seqIndex_neg->LC,ExcBaseFacts->LF,seqIndex_of->Qr,codeAny_extend_loopS->Qs,Slot->Qv,wpAny_setEntries_of->U6,wpAny_isSubtype_exc->U7,ElemsOf->Vb
open PySem.Around renaming under->BQ
open PySem.Builtin renaming bitNot->iM,bitOr->qU,bitAnd->LG
open PySem.Builtin.Frozenset renaming updateFrom->Qw,sizeOf->Qx,isAnySet->Qy
open PySem.Builtin.List renaming listTooLong->jM,listLengthHint->lJ,listExtendWith->sP,listSameRef->uS
open PySem.Builtin.Range renaming rangeSize->jR,small->yq
open PySem.Builtin.Slice renaming slicePlaces->ju,sliceAdjust->tW
open PySem.Builtin.SmallTypes renaming nextOf->i9
open PySem.Builtin.Str renaming occurrences->jV
open PySem.Builtin.Tuple renaming tupleHashOf->eU,tupleItemsOf->lP
open PySem.Calls renaming spliced_nil->ud,Name_function_global->yI,call_function_entry->zh,callWith_builtin->B7,evalArgs_plain->EW,spliced_cons->JI
open PySem.Challenge renaming rw_dots_k32_no_sign->oM,pw_dots_k32_no_sign->oN
open PySem.Code renaming quiet_builtin->nG,isFrame->En
open PySem.EntryCells renaming newEntry->As
open PySem.Env renaming kindOf->uc
open PySem.F renaming slot_tuple_iterator_next->ic,slot_tuple_hash->iL,plain_min_loop->kE,slot_zip_next->kT,args_object_init_2->mO,slot_list_extend->nP,slot_list_append->nQ,args_tuple_add_2->nR,plainAttrs_list->oh,entry_tuple_add->oi,slot_tuple_add->oX,plainAttrs_str->oY,slot_tuple_eq->pQ,args_tuple_iterator_next_1->rL,entry_tuple_iterator_next->sx,typeCall_enumerate_1->vo,newCall_enumerate_1->vI,entry_proto_collect->vJ,entry_enumerate_new->vK,slot_tuple_getitem->wa,excBase_ValueError->wb,excAttr_ValueError->wc,slot_dict_getitem->ym,plain_extend_loop->yo,type_list_append->yG,called_enumerate->yH,plain_list_iadd->ze,entry_list_iadd->zf,args_zip_next_1->zg,entry_zip_next->Ao,entry_set_init->Ap,entry_min_loop->Aq,slot_tuple_lt->BM,slot_set_iter->BN,slot_dict_get->BO,entry_bexc_ga->BP,args_bexc_ga->B5,called_set->EV,args_list_extend_2->LD,entry_list_extend->P9
open PySem.Heap renaming get?_push_size->aC,get?_update_other->cy,SameBut->cM,get?_update_self->du,size_push->fR,get?_none_of_le->mD,get?_update_ne->sv,ExtBut->G6
open PySem.Heap.SameBut renaming update->pG,refl->An
open PySem.IsRange renaming new->Va
open PySem.ItemsOf renaming nil->U9
open PySem.NameKind renaming free->eR,cell->nF
open PySem.Obj renaming mapSeq->fM,data_mapFields->kC,mapFields->mz,isFreed_of_fields->qP,cls_mapFields->P8
open PySem.Paired renaming length->y8
open PySem.ScopeKind renaming function->B4
open PySem.SeqAt renaming RcNeAt->B2,RcAt->JG,EqAt->JH
open PySem.SetTable renaming below->aP,Probe->bR,insertAt->dz,grown->ee,runEnd->eB,advance->eJ,bits->eQ,toList_insertAt->fH,sizeAbove->gr,leap->i8,turns->mH,slot->nA,laid->nD,fits->nE,fill->qN,has->y7,layClean->ES,tooFull->G5,relaid->JF,Met->P7
open PySem.SetTable.below renaming go->mf
open PySem.SetTable.layClean renaming free->dQ
open PySem.SetTable.probe renaming go->cu
open PySem.Str renaming ofString->ae
open PySem.StrLaws renaming found_one->G4
open PySem.Txt renaming slice->dH,startswith3->i7,upper->ua,join->vn,slice_le->B1
open PySem.Unicode renaming upperOf->vm
open PySem.Value renaming ref->bZ,none->dG,type->gQ,bool->yF,isStrOf->U8
open PySem.W renaming Frag->au,keepIn->dJ,nsIn->fJ,Looks->gm,kia_one->hV,exmOne->iJ,OpenLaw->j5,looks_findIn->me,hideAll_get->my,kitOne->mL,findIn->mM,mg_of->nO,fnOf->oW,hideAll->pE,codeIn->p8,isFn->sO,WalkO->yE,cellsFrom_some->Am,looks_mroIn->BL,hideAll_none->B0,of_hideAll->EM,mg_none_of->EN,isNs_of_in->EO,callWith_K->ER,looks_clsIn->Qt,kas_item->Qu
open PySem.W.KF renaming type_class->Em
open PySem.W.Looks renaming ld->kh
open PySem.Walks renaming list->JD
open PySem.pickOrder renaming go->yA
open Sum renaming inr->bM,inl->yZ
open Sum.inl renaming inj->uR
open Sum.inr renaming inj->p7
open True renaming intro->lY
set_option Elab.async false
set_option compiler.extract_closed false
set_option linter.all false
set_option maxRecDepth 100000
set_option maxHeartbeats 4000000
def bX{α g:Type _}{x:a5 α}{f:α->a5 g}{b:g}(h:x.bind f=Y b):∃a,x=Y a/\f a=Y b:=Au.mp h
def dY{α g:Type _}{x:a5 α}{f:α->g}{b:g}(h:x.map f=Y b):∃a,x=Y a/\f a=b:=BS.mp h
open PySem PySem.Spec in def wb9:=@wpAny_bind
open PySem PySem.Spec in def wu9:=@wpAny_pure
open PySem in def hp9:=@Heap.get?_push_of_some
open PySem in def hl9:=@Heap.lt_size
def jB{α:Type _}{a:α}{l:O α}:a∈a::l:=List.mem_cons_self
def jU{α:Type _}(y:α){a:α}{l:O α}(h:a∈l):a∈y::l:=List.mem_cons_of_mem y h
def cV{p:Prop}[ei p](h:decide p=U:=by rfl):p:=c8 h
theorem W:a=a:=rfl
theorem ac{G:Prop}(h:∀P:Prop,(G->P)->P):G:=h G id
def lw0{e f:T}(h:e<=f:=by simp +arith):e<=f:=h
def lwq{e f:T}(h:e=f:=by simp +arith):e=f:=h
def jj{a b e f:T}(g:a<=b)(h:e+b<=f+a:=by simp +arith):e<=f:=Nat.le_of_add_le_add_right (aa h (m8 g f))
def nZ{a b c d e f:T}(g:a<=b)(y:c<=d)(h:e+b+d<=f+a+c:=by simp +arith):e<=f:=jj (nU g y) (by simpa only[ki]using h)
def rP{a b c d i j e f:T}(g:a<=b)(y:c<=d)(B:i<=j)(h:e+b+d+j<=f+a+c+i:=by simp +arith):e<=f:=jj (nU (nU g y) B) (by simpa only[ki]using h)
def Yy{a b c d i j k l e f:T}(g:a<=b)(y:c<=d)(C:i<=j)(B:k<=l)(h:e+b+d+j+l<=f+a+c+i+k:=by simp +arith):e<=f:=jj (nU (nU (nU g y) C) B) (by simpa only[ki]using h)
def adV{a b:T}(g:a<=b)(h:b+1<=a:=by simp +arith):False:=a9 h g
def Yx{a b c d:T}(g:a<=b)(y:c<=d)(h:b+d+1<=a+c:=by simp +arith):False:=a9 h (nU g y)
def Yw{a b c d i j:T}(g:a<=b)(y:c<=d)(B:i<=j)(h:b+d+j+1<=a+c+i:=by simp +arith):False:=a9 h (nU (nU g y) B)
def Yv{a b c d i j k l:T}(g:a<=b)(y:c<=d)(C:i<=j)(B:k<=l)(h:b+d+j+l+1<=a+c+i+k:=by simp +arith):False:=a9 h (nU (nU (nU g y) C) B)
def ws{a b:T}(h:b<=a):a - b+b<=a:=iG h (ao _)
def wt{a b:T}(h:b<=a):a<=a - b+b:=af (ue h).symm
def iw0{e f:cx}(h:e<=f:=by simp +arith):e<=f:=h
def Lp{a b e f:cx}(g:a<=b)(h:e+b<=f+a:=by simp +arith):e<=f:=Int.le_of_add_le_add_right (gH h (Int.add_le_add_left g f))
def iw2{a b c d e f:cx}(g:a<=b)(y:c<=d)(h:e+b+d<=f+a+c:=by simp +arith):e<=f:=Lp (Int.add_le_add g y) (by simpa only[Int.add_assoc]using h)
def iw3{a b c d i j e f:cx}(g:a<=b)(y:c<=d)(B:i<=j)(h:e+b+d+j<=f+a+c+i:=by simp +arith):e<=f:=Lp (Int.add_le_add (Int.add_le_add g y) B) (by simpa only[Int.add_assoc]using h)
def afW{a b:cx}(g:a<=b)(h:b+1<=a:=by simp +arith):False:=Int.not_le.mpr h g
def afV{a b c d:cx}(g:a<=b)(y:c<=d)(h:b+d+1<=a+c:=by simp +arith):False:=Int.not_le.mpr h (Int.add_le_add g y)
def afU{a b c d i j:cx}(g:a<=b)(y:c<=d)(B:i<=j)(h:b+d+j+1<=a+c+i:=by simp +arith):False:=Int.not_le.mpr h (Int.add_le_add (Int.add_le_add g y) B)
def ad{a b:T}(h:b<=a):a-b+b<=a:=by simp_all
def am{a b:T}(h:b<=a):a<=a-b+b:=by simp_all
def ar(a b:T)(h:b<=a):a-b+b<=a:=ad h
def ay(a b:T):a<=a-b+b:=by omega
def a0(a b:T)(h:a<=b):a<=min a b:=by simp_all
def a1(a b:T)(h:b<=a):b<=min a b:=by simp_all
def a2(l r:T)(h:l+1<=r):l<=(l+r)/2/\(l+r)/2+1<=r:=by grind
def a3(l r:T)(h:l+1<=r):(r-l)/2+1<=r-l:=by grind
def a4{a b c d i j k l m n e f:T}(g:a<=b)(y:c<=d)(B:i<=j)(C:k<=l)(F:m<=n)(h:e+b+d+j+l+n<=f+a+c+i+k+m:=by simp +arith):e<=f:=by grind
def wS(a b:T)(h:b<=a):a - b+b<=a:=ws h
def wT(a b:T):a<=a - b+b:=by omega
def wd(a:T):2 * (a / 2)<=a:=by grind
open PySem PySem.Spec PyProof.Rows
namespace L2
abbrev Key:=Sum cx aV
noncomputable def u7:Key->ai->cc
 |.inl k,v=>Value.isInt k v
 |.inr x,v=>U8 x v
noncomputable def ad5(w:cW):Key->cx
 |.inl k=>hashInt k
 |.inr x=>hashStr w x
def dm:∀{k:Key}{v:ai},u7 k v=U->(∃i t,k=yZ i/\v=Value.int i t)\/(∃x t,k=bM x/\v=Value.str x t)
 |.inl i,v,h=>by
   obtain⟨t,e⟩:=Value.isInt_shape h;exact .inl ⟨i,t,W,e⟩
 |.inr x,v,h=>by
   obtain⟨t,e⟩:=Value.isStrOf_shape h;exact .inr ⟨x,t,W,e⟩
def zN(x:aV)(t:JE):u7 (.inr x) (.str x t)=U:=by simp[u7,U8]
def YN(a b:cx):decide ((yZ a:Key)=yZ b)=(a == b):=by
 grind
def YK(a b:aV):decide ((bM a:Key)=bM b)=decide (a=b):=by
 simp
def YM(a:cx)(b:aV):decide ((yZ a:Key)=bM b)=J:=c6 (λq=>nomatch q)
def YL(a:aV)(b:cx):decide ((bM a:Key)=yZ b)=J:=c6 (λq=>nomatch q)
def dE(prog:ck)(w:cW):lZ prog w Key where
 is:=u7
 hash:=ad5 w
 inj:=λv a b f d=>by
  rcases dm f with⟨i,t,rfl,rfl⟩|⟨x,t,rfl,rfl⟩
  .rcases dm d with⟨j,u,rfl,e⟩|⟨y,u,rfl,e⟩
   .injection e with e1 _;rw[e1]
   .exact nomatch e
  .rcases dm d with⟨j,u,rfl,e⟩|⟨y,u,rfl,e⟩
   .exact nomatch e
   .injection e with e1 _;rw[e1]
 byValue:=λk v h=>by
  rcases dm h with⟨i,t,rfl,rfl⟩|⟨x,t,rfl,rfl⟩<;>rfl
 pyHash:=λhv h=>by
  rcases dm hv with⟨i,t,rfl,rfl⟩|⟨x,t,rfl,rfl⟩
  .exact wpAny_pyHash_int h
  .exact wpAny_pyHash_str h
 eqBool:=λc hv h=>by
  rcases dm c with⟨i,t,rfl,rfl⟩|⟨x,t,rfl,rfl⟩
  .rcases dm hv with⟨j,u,rfl,rfl⟩|⟨y,u,rfl,rfl⟩
   .rw[YN]at h;exact wpAny_eqBool_int h
   .rw[YM]at h;exact SeqAt.EqAt.int_str i t y u _ _ _ _ h
  .rcases dm hv with⟨j,u,rfl,rfl⟩|⟨y,u,rfl,rfl⟩
   .rw[YL]at h;exact SeqAt.EqAt.str_int x t j u _ _ _ _ h
   .rw[YK]at h;exact wpAny_eqBool_str h
 «strs» :=λk x t v h=>by
  rcases dm h with⟨i,u,rfl,e⟩|⟨y,u,rfl,e⟩
  .exact nomatch e
  .injection e with e1 _
   subst e1;cases v<;>rfl
def UX(h g:bP):Prop:=∀b o,h.get? b=Y o->o.cls=.type "tuple"->(∃a n,o.data=.seq a n)->g.get? b=Y o
structure Ik(P:ck)(w:cW) where
 κ:Type
 d:T
 is:bP->κ->ai->Prop
 hash:κ->cx
 draw:κ->T
 inj:∀{h:bP}{x y:κ}{v:ai},is h x v->is h y v->x=y
 nj:∀{h h':bP}{k:κ}{v:ai},UX h h'->is h k v->is h' k v
 hsh:∀{A:bJ}{E:ai->aj->Prop}{s:aj}{k:κ}{v:ai}{Q:cx->aj->Prop},A.units+d<=eC->is s.heap k v->Q (hash k) { s with toks:=s.toks+draw k }->aw (aq P w) A (pyHash v) Q E s
 eqb:∀{A:bJ}{E:ai->aj->Prop}{s:aj}{x y:κ}{u v:ai}{Q:cc->aj->Prop},A.units+d<=eC->is s.heap x u->is s.heap y v->(x=y->Q U s)->(x≠y->Q J s)->aw (aq P w) A (eqBool u v) Q E s
 qui:∀{A:bJ}{E:ai->aj->Prop}{s:aj}{k:κ}{v:ai}{Q:cc->aj->Prop}{n:T},d<=n->is s.heap k v->Q U s->aw (aq P w) A (eqIsQuiet n v) Q E s
 cla:∀{A:bJ}{E:ai->aj->Prop}{s:aj}{k:κ}{v:ai}{Q:cc->aj->Prop}{n:T},d<=n->is s.heap k v->Q J s->aw (aq P w) A (eX n v) Q E s
 hbv:∀{A:bJ}{E:ai->aj->Prop}{s:aj}{k:κ}{v:ai}{Q:cc->aj->Prop}{n:T},d<=n->is s.heap k v->(∀b,Q b s)->aw (aq P w) A (gv n v) Q E s
section
variable{P:ck}{w:cW}{A:bJ}{E:ai->aj->Prop}{z0:aj}{I:Ik P w}
def Pq(B:carriedByValue v=U)(h:Q J z0):aw (aq P w) A (eX n v) Q E z0:=by
 cases v<;>first|(cases B;done)|(exact wu9 h)|(cases n<;>(exact wu9 h))
def Y3(B:carriedByValue v=U)(h:∀b,Q b z0):aw (aq P w) A (gv n v) Q E z0:=by
 cases v<;>first|(cases B;done)|(unfold gv;exact wu9 (h _))|simp
abbrev Ky(P:ck)(w:cW):Ik P w where
 κ:=Key
 d:=0
 is:=λ_ k v=>(dE P w).is k v=U
 hash:=(dE P w).hash
 draw:=λ_=>1
 inj:=λex b=>(dE P w).inj _ _ _ ex b
 nj:=λ_ x=>x
 hsh:=λ_ a h=>(dE P w).pyHash a h
 eqb:=λ{A E s x y u v Q}_ ex b h1 h2=>(dE P w).eqBool ex b (by
  by_cases e:x=y
  .rw[c0 e];exact h1 e
  .rw[c6 e];exact h2 e)
 qui:=λ_ a h=>by rw[eqIsQuiet_byValue _ ((dE P w).byValue _ _ a)];exact wu9 h
 cla:=λ_ a h=>Pq ((dE P w).byValue _ _ a) h
 hbv:=λ_ a h=>Y3 ((dE P w).byValue _ _ a) h
inductive t4 (I:Ik P w) (h:bP):O I.κ->O ai->Prop
 |nil:t4 I h [] []
 |cons {k:I.κ} {v:ai} {ks:O I.κ} {vs:O ai}:I.is h k v->t4 I h ks vs->t4 I h (k::ks) (v::vs)
def t5(I:Ik P w)(h:bP)(g:O I.κ)(p:aD):Prop:=∃o a n,h.get? p=Y o/\o.cls=.type "tuple"/\o.data=.seq a n/\t4 I h g a.toList
def t4.inj(g:t4 I h x C)(B:t4 I h y C):x=y:=by
 induction g generalizing y with
 |nil=>cases B;rfl
 |cons c _ a=>
   cases B with
   |cons d b=>rw[I.inj c d,a b]
def t4.length(x:t4 I h g y):Z y=Z g:=by
 induction x with
 |nil=>rfl
 |cons _ _ a=>simp[a]
def t4.nj(k:UX h g)(x:t4 I h y B):t4 I g y B:=by
 induction x with
 |nil=>exact .nil
 |cons b _ a=>exact .cons (I.nj k b) a
def t5.typeIs(x:t5 I z0.heap g p):z0.TypeIs (.ref p) "tuple":=by obtain⟨o,_,_,a,b,_⟩:=x;exact⟨o,a,b⟩
def t5.inj(C:t5 I h x p)(B:t5 I h y p):x=y:=by
 refine ac λ_ j=>?_;obtain⟨o,e,n,k,_,f,g⟩:=C;obtain⟨l,b,i,c,_,a,d⟩:=B;obtain rfl:o=l:=bh (k.symm.trans c);apply j;rw[f]at a
 injection a with h1 _
 subst h1;exact g.inj d
def t5.nj(k:UX h g)(x:t5 I h y p):t5 I g y p:=
 by obtain⟨o,c,n,d,a,b,e⟩:=x;exact⟨o,_,n,k p o d a ⟨_,_,b⟩,a,b,e.nj k⟩
noncomputable def II(I:Ik P w)(g:O I.κ):cx:=reduceHash (eU (g.map I.hash))
def Gp(O':A.units+(I.d+1)<=eC)(B:t5 I z0.heap y p)(h:Q (II I y) { z0 with toks:=z0.toks+((y.map I.draw).sum+1) }) :
  aw (aq P w) A (pyHash (.ref p)) Q E z0:=by
 have gt:=B.typeIs;obtain⟨o,j,n,t,_,l,m⟩:=B
 first|unfold pyHashByItsType|skip
 first|refine wb9 (wpAny_cRoomFor_or (.inr (aA (be _ _) O')) ?_)|skip
 refine wb9 (gG gt iL.lookup ?_);refine wb9 (gG gt iL.lookup ?_);refine wb9 (wpAny_callSpecialIfBoundUnlessNone?_slot gt iL (bY iL gt PySem.F.entry_tuple_hash ?_ (PySem.F.args_tuple_hash_1 _)));refine (?_ : aw _ _ (lP _ >>= _) _ _ z0);refine wb9 (lu t l ?_);apply wb9;rw[<-ni]
 refine jk _
  (λr(b)c=>∃pre a,y=pre++a/\t4 I _ a r/\b.toList=pre.map I.hash/\c={ z0 with toks:=z0.toks+(pre.map I.draw).sum })
  _ ?_ ?_ _ _ ⟨[],y,W,m,W,W⟩
 .rintro x r b c ⟨pre,a,rfl,e,f,rfl⟩
  cases e with
  | @cons k _ g _ u i=>
    refine wb9 (I.hsh ?_ u ?_)
    .grind
    first
     |exact wu9 ⟨pre++[k],g,by simp,i,by simp[f],by simp[ki]⟩
     |simp
 .rintro b c ⟨pre,a,rfl,e,f,rfl⟩;refine ac λ_ q=>?_;cases e;apply q;rw[aW]at h;show aw _ _ (retInt (eU _)) ..;rw[f];apply wpAny_ret_mkInt;refine (?_ : aw _ _ (if(decide (-(2) ^ 63<=eU (pre.map _)) && decide (eU (pre.map _)<2 ^ 63))=U then _ else _) Q E _);unfold II reduceHash at h;by_cases ge:(decide (-(2) ^ 63<=eU (pre.map I.hash)) && decide (eU (pre.map I.hash)<2 ^ 63))=U
  .rw[cb ge];rw[cb ge]at h;exact wu9 (by simpa [ki]using h)
  .rw[cv ge];rw[cv ge]at h;exact wb9 (ip (wu9 (by simpa [ki]using h)))
def O7(c3:A.units+I.d<=eC)(ex:t5 I z0.heap x p)(O':t5 I z0.heap y b)(h1:x=y->R (.done (.ret (.bool U))) z0)(h2:x≠y->R (.done (.ret (.bool J))) z0) :
  aw (aq P w) A (gu.«tuple.__eq__» ⟨[.ref p,.ref b],[]⟩) R E z0:=by
 have l:=O'.typeIs;refine ac λ_ N=>?_;obtain⟨G,xs,na,m,_,n,o⟩:=ex;obtain⟨H,ys,nb,q,_,s,t⟩:=O';apply N;refine (?_ : aw _ _ (g8 _ (.type _) >>= _) _ _ z0);refine wb9 (dU l sL ?_);refine wb9 (lu m n ?_);refine wb9 (lu q s ?_);apply wb9
 refine jk _
  (λtl r j=>r.1=L/\j=z0/\∃x' k a c,tl=List.zip a c/\t4 I _ x' a/\t4 I _ k c/\(x'=k↔x=y)/\(Z a == Z c)=(xs.size == ys.size))
  _ ?_ ?_ _ _ ⟨W,W,x,y,_,_,W,o,t,Iff.rfl,by simp⟩
 .rintro⟨u,v⟩ tl r j ⟨ge,rfl,x',k,a,c,gz,V,X,Q,S⟩
  cases V with
  |nil=>simp at gz
  | @cons J' K z f D g=>
    cases X with
    |nil=>simp at gz
    | @cons L' M B h F i=>
      refine ac λ_ N=>?_;obtain⟨⟨rfl,rfl⟩,rfl⟩:=gz;apply N;refine wb9 (I.eqb c3 D F (λC=>?_) λC=>(wb9 (wu9 (wu9 (wu9 (h2 λe=>C (eO (Q.mpr e)).1))))))
      .refine wu9 ⟨W,W,z,B,f,h,W,g,i,?_,by simpa using S⟩
       simp_all
 .rintro⟨r1,r2⟩ j ⟨rfl,rfl,x',k,a,c,gz,V,X,Q,S⟩;apply wu9;show R (.done (.ret (.bool (xs.size == ys.size)))) j;rw[<-S]
  cases V with
  |nil=>
    cases X with
    |nil=>exact h1 (Q.mp W)
    |cons _ _=>simp_all
  |cons _ _=>
    cases X with
    |nil=>simp_all
    |cons _ _=>simp at gz
def abX{x y:O I.κ}{p b:aD}{Q:cc->aj->Prop}(O':A.units+(I.d+1)<=eC)(g:t5 I z0.heap x p)(B:t5 I z0.heap y b)(C:x=y->Q U z0)(R:x≠y->Q J z0) :
  aw (aq P w) A (eqBool (.ref p) (.ref b)) Q E z0:=by
 unfold eqBool
 try with_reducible apply bQ
 by_cases a:(bZ p == bZ b)=U
 .rw[cb a];have e:p=b:=by simp_all
  clear O' R a; subst e;obtain rfl:=g.inj B;exact wb9 (ip (wu9 (C W)))
 .rw[cv a]
  exact wb9 (El g.typeIs B.typeIs pQ
   (bY pQ g.typeIs PySem.F.entry_tuple_eq (O7 (by exact jj O') g B (λe=>⟨_,W,(λe=>nomatch e),gp (C e)⟩) λe=>⟨_,W,(λe=>nomatch e),gp (R e)⟩) (PySem.F.args_tuple_eq_2 _ _)) (aA (be _ _) O'))
def vV(O':I.d<=n)(B:t5 I z0.heap y p)(h:Q U z0):aw (aq P w) A (eqIsQuiet (n+1) (.ref p)) Q E z0:=by
 have gt:=B.typeIs;obtain⟨o,e,m,q,_,f,g⟩:=B;unfold eqIsQuiet;refine wb9 (gG gt pQ.lookup ?_);refine wb9 (dU gt sL ?_);refine wb9 (dB q f ?_);apply wb9;rw[<-ni];refine jk _ (λj r a=>r.1=L/\a=z0/\∃l,t4 I _ l j) _ ?_ ?_ _ _ ⟨W,W,_,g⟩
 .rintro v j r a ⟨ge,rfl,l,i⟩
  cases i with
  | @cons k _ b _ t c=>
    exact wb9 (I.qui O' t (wu9 ⟨W,W,b,c⟩))
 .rintro⟨u,x⟩ a ⟨rfl,rfl,_⟩;exact wu9 h
def Bw(B:I.d<=n)(O':t5 I z0.heap y p)(h:Q J z0):aw (aq P w) A (eX (n+1) (.ref p)) Q E z0:=by
 obtain⟨o,e,m,q,f,g,i⟩:=O';unfold eX;refine wb9 (wpAny_typeOf_ref q ?_);rw[f];refine wb9 (wu9 ?_);refine wb9 (dB q g ?_);apply wb9;rw[<-ni];refine jk _ (λt r a=>r.1=L/\a=z0/\∃l,t4 I _ l t) _ ?_ ?_ _ _ ⟨W,W,_,i⟩
 .rintro v t r a ⟨ge,rfl,l,j⟩
  cases j with
  | @cons k _ b _ u c=>
    exact wb9 (I.cla B u (wu9 ⟨W,W,b,c⟩))
 .rintro⟨x,C⟩ a ⟨rfl,rfl,_⟩;exact wu9 h
def VJ(O':I.d<=n)(B:t5 I z0.heap y p)(h:∀b,Q b z0):aw (aq P w) A (gv (n+1) (.ref p)) Q E z0:=by
 have gt:=B.typeIs;obtain⟨o,f,m,u,q,g,i⟩:=B;refine wb9 (gG gt iL.lookup ?_);refine wb9 (dB u g ?_);apply wb9;rw[<-ni];refine jk _ (λt r a=>r.1=L/\a=z0/\∃l,t4 I _ l t) _ ?_ ?_ _ _ ⟨W,W,_,i⟩
 .rintro v t r a ⟨ge,rfl,l,j⟩
  cases j with
  | @cons k _ c _ x e=>
    refine wb9 (I.hbv O' x λb=>?_);cases b
    .exact wu9 (wu9 (h _))
    .exact wu9 ⟨W,W,c,e⟩
 .rintro⟨C,F⟩ a ⟨rfl,rfl,_⟩;exact wu9 (h _)
abbrev tupI(I:Ik P w):Ik P w where
 κ:=Sum Key (O I.κ)
 d:=I.d+1
 is:=λh k v=>match k with
  |.inl k=>(dE P w).is k v=U
  |.inr r=>∃b,v=.ref b/\t5 I h r b
 hash:=λk=>match k with
  |.inl k=>(dE P w).hash k
  |.inr r=>II I r
 draw:=λk=>match k with
  |.inl _=>1
  |.inr r=>(r.map I.draw).sum+1
 inj:=λ{h x y v}ex c=>by
  cases x with
  |inl k=>
    cases y with
    |inl C=>exact c7 _ ((dE P w).inj _ _ _ ex c)
    |inr r=>obtain⟨b,rfl,_⟩:=c;exact nomatch ((dE P w).byValue _ _ ex)
  |inr r=>
    obtain⟨b,rfl,q⟩:=ex
    cases y with
    |inl C=>exact nomatch ((dE P w).byValue _ _ c)
    |inr j=>obtain⟨p,e,l⟩:=c;cases e;exact c7 _ (q.inj l)
 nj:=λ{h D k v}q x=>by
  cases k with
  |inl k=>exact x
  |inr r=>obtain⟨b,e,z⟩:=x;exact⟨b,e,z.nj q⟩
 hsh:=λ{A E s k v Q}g a h=>by
  cases k with
  |inl k=>exact(dE P w).pyHash a h
  |inr r=>obtain⟨b,rfl,z⟩:=a;exact Gp g z h
 eqb:=λ{A E s x y u v Q}g ex c h1 h2=>by
  cases x with
  |inl k=>
    cases y with
    |inl C=>exact(Ky P w).eqb (by show A.units+0<=eC;exact aa (be _ _) g) ex c (λe=>h1 (by rw[e])) λe=>h2 λz=>e (uR z)
    |inr r=>
      obtain⟨b,rfl,o,B,n,go,m,gd,_⟩:=c;have ht:s.heap.IsTuple b B:=⟨o,go,m,n,gd⟩
      rcases dm ex with⟨i,t,rfl,rfl⟩|⟨z,t,rfl,rfl⟩
      .exact SeqAt.EqAt.int_tuple i t ht (aA (be _ _) g) _ _ _ _ (h2 λe=>nomatch e)
      .exact SeqAt.EqAt.str_tuple z t ht (aA (be _ _) g) _ _ _ _ (h2 λe=>nomatch e)
  |inr r=>
    obtain⟨b,rfl,q⟩:=ex
    cases y with
    |inl C=>
      obtain⟨o,B,n,go,m,gd,_⟩:=q;have ht:s.heap.IsTuple b B:=⟨o,go,m,n,gd⟩
      rcases dm c with⟨i,t,rfl,rfl⟩|⟨z,t,rfl,rfl⟩
      .exact SeqAt.EqAt.tuple_int i t ht (aA (be _ _) g) _ _ _ _ (h2 λe=>nomatch e)
      .exact SeqAt.EqAt.tuple_str z t ht (aA (be _ _) g) _ _ _ _ (h2 λe=>nomatch e)
    |inr j=>
      obtain⟨p,rfl,l⟩:=c;exact abX g q l (λe=>h1 (by rw[e])) λe=>h2 λz=>e (p7 z)
 qui:=λ{A E s k v Q n}f a h=>by
  cases k with
  |inl k=>exact(Ky P w).qui (aU _) a h
  |inr r=>
    obtain⟨b,rfl,z⟩:=a
    cases n with
    |zero=>exact((a9 f (aU _))).elim
    |succ n=>exact vV (bb f) z h
 cla:=λ{A E s k v Q n}f a h=>by
  cases k with
  |inl k=>exact(Ky P w).cla (aU _) a h
  |inr r=>
    obtain⟨b,rfl,z⟩:=a
    cases n with
    |zero=>exact ((a9 f (aU _))).elim
    |succ n=>exact Bw (bb f) z h
 hbv:=λ{A E s k v Q n}f a h=>by
  cases k with
  |inl k=>exact(Ky P w).hbv (aU _) a h
  |inr r=>
    obtain⟨b,rfl,z⟩:=a
    cases n with
    |zero=>exact ((a9 f (aU _))).elim
    |succ n=>exact VJ (bb f) z h
end
abbrev N2:=Sum Key (O Key)
abbrev NK:=Sum Key (O N2)
noncomputable instance ae9:ed N2:=hA
instance ae8:ed NK:=hA
abbrev i2(P:ck)(w:cW):Ik P w:=tupI (Ky P w)
abbrev i3(P:ck)(w:cW):Ik P w:=tupI (i2 P w)
abbrev nIs(P:ck)(w:cW):bP->NK->ai->Prop:=(i3 P w).is
abbrev ZY(P:ck)(w:cW):bP->O NK->O ai->Prop:=t4 (i3 P w)
abbrev sG(P:ck)(w:cW):bP->O NK->aD->Prop:=t5 (i3 P w)
abbrev eM(P:ck)(w:cW):O NK->cx:=II (i3 P w)
section
variable{A:bJ}{z0:aj}
def JQ:(i3 P w).d<=7:=by show 2<=7;simp
def abW(B:A.units+3<=eC)(g:sG P w z0.heap x p)(O':sG P w z0.heap y b)(h:Q (decide (x=y)) z0) :
  aw (aq P w) A (eqBool (.ref p) (.ref b)) Q E z0:=
 abX B g O' (λe=>by simp_all) λe=>by simp_all
end
def abl(P:ck)(w:cW):HeapKind P w (O NK) where
 is:=sG P w
 hash:=eM P w
 draws:=λn=>(n.map (i3 P w).draw).sum+1
 room:=λA=>A.units+3<=eC
 inj:=λm c=>m.inj c
 keeps:=λ{h r k a d o t u}x p gd f=>x.nj λb y e _ ⟨j,l,q⟩=>(f.2 b λz=>by
  subst z;rw[p]at e;cases e
  rw[gd]at q;cases q).trans e
 pyHash:=λg i h=>Gp g i h
 eqBool:=λg m c h=>abW g m c h
 quiet:=λi h=>vV JQ i h
inductive V where
 |non|bl (b:cc)|int (i:cx)|str (x:aV)|byt (b:c4 UInt8)|flt (b:UInt64)|ref (a:aD)|ty (n:et)
 deriving ed
def RelV:V->ai->Prop
 |.non,u=>u=dG
 |.bl b,u=>u=yF b
 |.int i,u=>∃t,u=Value.int i t
 |.str x,u=>∃t,u=Value.str x t
 |.byt b,u=>∃t,u=Value.bytes b t
 |.flt b,u=>∃t,u=Value.float b t
 |.ref a,u=>u=bZ a
 |.ty n,u=>u=gQ n
abbrev cX:O V->O ai->Prop:=kB RelV
def cX.length(r:cX xs us):Z xs=Z us:=y8 r
theorem cX.get:∀{xs:O V}{g:O ai}{i:T}{x:V},cX xs g->xs[i]?=Y x->∃u,g[i]?=Y u/\RelV x u
 |_,_,_,_,.nil,e=>by simp at e
 |_,_,0,_,.cons r _,e=>by simp at e;subst e;exact⟨_,W,r⟩
 |_,_,i+1,x,.cons _ t,e=>by
   obtain⟨u,a,b⟩:=cX.get t (by simpa using e);exact⟨u,by simpa using a,b⟩
theorem cX.set(r:RelV x u):∀{xs:O V}{g:O ai}(i:T),cX xs g->cX (xs.set i x) (g.set i u)
 |_,_,_,.nil=>.nil
 |_,_,0,.cons _ t=>.cons r t
 |_,_,i+1,.cons q t=>.cons q (cX.set r i t)
def cX.append(h:cX xs us)(s:cX g y):cX (xs++g) (us++y):=by
 induction h with
 |nil=>exact s
 |cons r _ i=>exact .cons r i
theorem cX.take:∀{xs:O V}{g:O ai}(n:T),cX xs g->cX (xs.take n) (g.take n)
 |_,_,0,_=>.nil
 |_,_,_+1,.nil=>.nil
 |_,_,n+1,.cons r t=>.cons r (cX.take n t)
theorem cX.drop:∀{xs:O V}{g:O ai}(n:T),cX xs g->cX (xs.drop n) (g.drop n)
 |_,_,0,r=>r
 |_,_,_+1,.nil=>.nil
 |_,_,n+1,.cons _ t=>cX.drop n t
def yX:a5 V->a5 ai->Prop
 |some v,Y u=>RelV v u
 |none,L=>True
 |_,_=>False
def KV{g:Type}:O (g×V)->O (g×ai)->Prop:=kB λ(p:g×V)(q:g×ai)=>p.1=q.1/\RelV p.2 q.2
noncomputable def kV:Key->V
 |.inl i=>.int i
 |.inr x=>.str x
inductive HO where
 |lst (xs:O V)
 |tup (xs:O V)
 |dK (k_:O (Key×V))
 |xd (fs:O (aV×V))
 |l8 (o:lO) (u:HO)
 |ext (φ:bP->Prop)
abbrev Hp:=aD->a5 HO
noncomputable def upd(H:Hp)(a:aD)(o:HO):Hp:=λb=>if b=a then Y o else H b
def bN:upd H a o a=Y o:=by unfold upd;rw[cb W]
def cA(h:b≠a):upd H a o b=H b:=by unfold upd;rw[cv h]
def iq{H:Hp}{a b:aD}{o:HO}(h:H a=Y o)(g:H b=L):a≠b:=by
 intro e;simp_all
section
variable(P:ck)(w:cW)
def kL(H:Hp)(h:bP)(a:aD):HO->Prop
 |.lst d=>Z d<=aF/\∃(c:O ai) (n:T),cX d c/\h.get? a=Y { cls:=.type "list",data:=.seq c.toArray n }
 |.tup d=>Z d<=aF/\∃c:O ai,cX d c/\BR h a c.toArray
 |.dK g=>Z g<=aF/\(a == hB)=J/\∃i,KV g i/\h.DictOf (dE P w) a i
 |.xd l=>∃b,h.Ns1 a b/\∀f,yX (l.lookup f) (b f)
 |.l8 o u=>h.get? a=Y o/\kL H h a u
 |.ext e=>e h/\(∃o,h.get? a=Y o)/\∀j k:bP,e j->(∀o,j.get? a=Y o->k.get? a=Y o)->e k
def sH(H:Hp)(h:bP):Prop:=∀a o,H a=Y o->kL P w H h a o
end
section
variable{P:ck}{w:cW}{H:Hp}{h h':bP}{a:aD}{o:HO}
def kL.lt(x:kL P w H h a o):a<h.objs.size:=by
 cases o with
 |lst c=>obtain⟨_,_,_,_,e⟩:=x;exact hl9 e
 |tup c=>obtain⟨_,_,_,p⟩:=x;exact p.lt
 |dK d=>obtain⟨_,_,_,_,o,_,_,e,_⟩:=x;exact hl9 e
 |xd f=>obtain⟨_,⟨_,_,_,e,_⟩,_⟩:=x;exact hl9 e
 |l8 b u=>exact hl9 x.1
 |ext g=>obtain⟨_,⟨_,e⟩,_⟩:=x;exact hl9 e
def kL.nj(x:kL P w H h a o)(k:∀u,h.get? a=Y u->h'.get? a=Y u):kL P w B h' a o:=by
 induction o with
 |lst m=>obtain⟨z,g,n,r,e⟩:=x;exact⟨z,_,n,r,k _ e⟩
 |tup m=>obtain⟨z,g,r,b,e,c⟩:=x;exact⟨z,_,r,b,k _ e,c⟩
 |dK A=>obtain⟨z,y,q,r,b,i,j,e,c⟩:=x;exact⟨z,y,q,r,b,i,j,k _ e,c⟩
 |xd C=>obtain⟨d,⟨t,i,j,e,c⟩,r⟩:=x;exact⟨d,⟨t,i,j,k _ e,c⟩,r⟩
 |l8 b u f=>exact⟨k _ x.1,f x.2⟩
 |ext E=>obtain⟨p,⟨o,e⟩,l⟩:=x;exact⟨l _ _ p k,⟨o,k _ e⟩,l⟩
def sH.lt(x:sH P w H h)(e:H a=Y o):a<h.objs.size:=(x a o e).lt
def sH.fresh(x:sH P w H h)(e:h.objs.size<=a):H a=L:=by
 cases q:H a with
 |none=>rfl
 |some u=>exact absurd (aQ (x.lt q) e) (bE _)
def sH.kept(x:sH P w H h)(k:∀b u,h.get? b=Y u->h'.get? b=Y u):sH P w H h':=λa o e=>
 (x a o e).nj (k a)
def sH.laid(x:sH P w H h)(k:∀b u,h.get? b=Y u->h'.get? b=Y u)(y:h.objs.size<=a)(g:kL P w (upd H a o) h' a o):sH P w (upd H a o) h':=λb u e=>by
 by_cases c:b=a
 .subst c;rw[bN]at e;cases e;exact g
 .rw[cA c]at e;exact(x b u e).nj (k b)
end
def Rd(H:Hp)(a:aD)(u:HO):Prop:=H a=Y u\/∃o,H a=Y (.l8 o u)
def Rd.ok(r:Rd H a u)(x:sH P w H h):kL P w H h a u:=by
 rcases r with r|⟨o,r⟩
 .exact x a u r
 .exact (x a _ r).2
def Mut:a5 HO->Prop
 |some (.lst _)=>True
 |some (.dK _)=>True
 |some (.ext _)=>True
 |_=>False
section
variable{h':bP}
def sH.write(ok:sH P w H h)(k:∀b u,b≠x->h.get? b=Y u->h'.get? b=Y u)(g:kL P w (upd H x y) h' x y):sH P w (upd H x y) h':=λb u q=>by
 by_cases a:b=x
 .clear ok k; subst a;rw[bN]at q;cases q;exact g
 .rw[cA a]at q;exact(ok b u q).nj λv=>k b v a
end
structure Un(fs ex:O aD)(H H':Hp)(h h':bP):Prop where
 keep:∀b o,h.get? b=Y o->H b=L->b∉fs->b∉ex->h'.get? b=Y o
 slot:∀b o,h.get? b=Y o->H b=L->b∈fs->b∉ex->∃sl,h'.get? b=Y { o with slots:=sl }
 free:∀b o,h.get? b=Y o->H b=L->b∉ex->H' b=L
 there:∀b o,h.get? b=Y o->b∉ex->∃o',h'.get? b=Y o'
 tups:∀b xs,H b=Y (.tup xs)->H' b=Y (.tup xs)
 frzs:∀b o u,H b=Y (.l8 o u)->H' b=Y (.l8 o u)
section
variable{h h':bP}
def Un.any(u:Un y ex H F h C)(q:h.get? b=Y g)(n:H b=L)(B:b∉ex):∃sl,C.get? b=Y { g with slots:=sl }:=by
 by_cases a:b∈y
 .exact u.slot b g q n a B
 .exact⟨_,u.keep b g q n a B⟩
def Un.kept(k:∀b u,h.get? b=Y u->h'.get? b=Y u):Un g ex H H h h':=
 ⟨λb a q _ _ _=>k b a q,λb a q _ _ _=>⟨_,k b a q⟩,λ_ _ _ n _=>n,λb a q _=>⟨a,k b a q⟩,λ_ _ q=>q,λ_ _ _ q=>q⟩
def Un.refl:Un g ex H H h h:=Un.kept λ_ _ q=>q
def Un.laid(k:∀b u,h.get? b=Y u->h'.get? b=Y u)(g:h.objs.size<=a)(B:H a=L):Un y ex H (upd H a o) h h' where
 keep:=λb u q _ _ _=>k b u q
 slot:=λb u q _ _ _=>⟨u.slots,k b u q⟩
 free:=λb u q n _=>by rw[cA (a7 (aQ (hl9 q) g))];exact n
 there:=λb u q _=>⟨u,k b u q⟩
 tups:=λb c q=>by rw[cA (iq q B)];exact q
 frzs:=λb u c q=>by rw[cA (iq q B)];exact q
def Un.write(B:Mut (H x))(k:∀b u,b≠x->h.get? b=Y u->h'.get? b=Y u)(O':∃u,h'.get? x=Y u):Un g ex H (upd H x o) h h':=by
 have c:∀b,H b=L->b≠x:=λb n z=>by clear k O'; subst z;rwa[n]at B
 have d:∀b u,H b=Y u->¬Mut (Y u)->b≠x:=λb u q e z=>by clear k O' c; subst z;rw[q]at B;exact e B
 refine⟨λb u q n _ _=>k b u (c b n) q,λb u q n _ _=>⟨_,k b u (c b n) q⟩,λb u q n _=>by rwa[cA (c b n)],λb u q _=>?_,
  λb f q=>by rwa[cA (d b _ q λz=>z)],λb u f q=>by rwa[cA (d b _ q λz=>z)]⟩
 by_cases a:b=x
 .clear B k c d q; subst a;exact O'
 .exact⟨u,k b u a q⟩
end
noncomputable def trk(h:bP)(H:Hp):O aD:=(aR h.objs.size).filter λa=>(H a).isSome
def DA(h:bP)(H:Hp):bP:=pE h (trk h H)
noncomputable def UW(g h:bP)(L':aD):O (aD×lO):=(aR h.objs.size).filterMap λa=>if a=L'\/(g.get? a).isSome=U then L else(h.get? a).map λo=>(a,o)
def rest(g h:bP)(L' d:aD):O (aD×lO):=(UW g h L').filter λp=>decide (p.1≠d)
structure Mod(K:au)(mg:aV->a5 ai)(base:bP):Prop where
 kin:K.In base
 glob:base.Ns c9 mg
 blt:∃mb,base.Ns i0 mb/\∀x:aV,x≠"__name__"->mb x=dt x
 nolimit:base.NoLimit
structure Cx where
 prog:ck
 w:cW
 K:au
 mg:aV->a5 ai
 base:bP
 A:bJ
 N:O aV
 s₀:aj
 H₀:Hp
 env:B6
 outer:O B6
 stack:O B6
 ex:O aD
 fn:aV->cc
 calm:cc
 pn:O (aD×lO)
 xe:ai->aj->Prop
noncomputable def pP(l:O B6):O aD:=l.filterMap (·.frame)
abbrev Cx.fs(X:Cx):O aD:=pP X.outer
def P1(g:n9)(x:aV):Prop:=g.names.lookup x=Y .local\/g.names.lookup x=Y .cell\/g.names.lookup x=Y .free
def Loc(g:n9)(x:aV):Prop:=g.names.lookup x=Y .local\/g.names.lookup x=Y .cell
def Look(env:B6)(h:bP)(m:aV->a5 ai)(x:aV)(u:ai):Prop:=
 (env.kindOf x=Y .local/\m x=Y u)\/((env.kindOf x=Y .cell\/env.kindOf x=Y .free)/\∃c,env.cells.lookup x=Y c/\h.IsCell c (Y u))
structure Cx.Ok(X:Cx):Prop where
 mod:Mod X.K X.mg X.base
 kind:X.env.scope.kind=.function
 glob:X.env.globals=c9
 blt:X.env.builtins=i0
 above:X.s₀.heap.objs.size<=X.env.locals
 inj:∀x y c,X.env.cells.lookup x=Y c->X.env.cells.lookup y=Y c->x=y
 has:∀x,(X.env.kindOf x=Y .cell\/X.env.kindOf x=Y .free)->∃c,X.env.cells.lookup x=Y c
 cab:∀x c,X.fn x=U->X.env.cells.lookup x=Y c->X.s₀.heap.objs.size<=c
 hd:X.calm=U->X.A.handled=L
 frames:X.A.frames=Y X.stack
 Qh:X.stack=X.outer\/(X.stack=X.env::X.outer/\X.env.frame=Y X.env.locals)
 exf:∀b∈X.ex,b≠X.env.locals/\∀x c,X.env.cells.lookup x=Y c->c≠b
 bs:∀b o,X.base.get? b=Y o->X.s₀.heap.get? b=Y o/\X.H₀ b=L
 bsz:X.base.objs.size<=X.s₀.heap.objs.size
 noex:∀b o,X.base.get? b=Y o->b∉X.ex
 exfs:∀b∈X.ex,b∉X.fs
 rW:X.s₀.heap.FunFrames X.base X.outer
 frf:∀b∈X.fs,X.H₀ b=L
structure Inv(X:Cx)(h_:O (aD×lO))(σ:O (a5 V))(H:Hp)(s:aj):Prop where
 ok:X.Ok
 os:s.os=X.s₀.os
 bare:mn s.gens
 base:Un X.fs X.ex X.H₀ H X.s₀.heap s.heap
 loc:∃m,s.heap.Ns X.env.locals m/\∀(i:T)(x:aV)(v:V),X.N[i]?=Y x->σ[i]?=Y (Y v)->P1 X.env.scope x->∃u,RelV v u/\Look X.env s.heap m x u
 cell:∀x c,X.env.cells.lookup x=Y c->∃v,s.heap.IsCell c v
 free:H X.env.locals=L
 freeC:∀x c,X.env.cells.lookup x=Y c->H c=L
 pin:∀p∈X.pn++h_,s.heap.get? p.1=Y p.2/\H p.1=L/\p.1≠X.env.locals/\p.1∉X.fs/\∀v,p.2.data≠.cell v
 hok:sH X.prog X.w H s.heap
 len:Z σ=Z X.N
section
variable{X:Cx}{h_:O (aD×lO)}{σ:O (a5 V)}{H:Hp}{s:aj}{h':bP}
def Cx.Ok.Yd(ok:X.Ok)(e:X.base.get? b=Y o):b∉X.fs:=λa=>by
 have:=(ok.rW.mem a).1
 simp_all
def Inv.bs(I:Inv X h_ σ H s):∀b o,X.base.get? b=Y o->s.heap.get? b=Y o/\H b=L:=λb o e=>
 ⟨I.base.keep b o (I.ok.bs b o e).1 (I.ok.bs b o e).2 (I.ok.Yd e) (I.ok.noex b o e),I.base.free b o (I.ok.bs b o e).1 (I.ok.bs b o e).2 (I.ok.noex b o e)⟩
def Inv.bk(I:Inv X h_ σ H s):∀b o,X.base.get? b=Y o->s.heap.get? b=Y o:=λb o e=>(I.bs b o e).1
def Inv.mod(I:Inv X h_ σ H s):Mod X.K X.mg X.base:=I.ok.mod
def Inv.xE(I:Inv X h_ σ H s):X.K.In s.heap:=I.ok.mod.kin.keeps I.bk
def Inv.fr(I:Inv X h_ σ H s):∃m,Fr X.base X.env.locals s.heap m:=
 let ⟨m,a,_⟩:=I.loc
 ⟨m,a,I.bk,aa I.ok.bsz I.ok.above⟩
def Inv.lt(I:Inv X h_ σ H s):X.env.locals<s.heap.objs.size:=by obtain⟨_,a,_⟩:=I.loc;exact a.lt
def Inv.sz(I:Inv X h_ σ H s):X.s₀.heap.objs.size<=s.heap.objs.size:=aa I.ok.above (aK I.lt)
def Inv.abj(I:Inv X h_ σ H s)(h:s.heap.objs.size<=a):a∉X.fs:=λb=>by
 obtain⟨_,o,c,_⟩:=I.ok.rW.mem b;exact absurd (aQ (hl9 c) (aa I.sz h)) (bE _)
def Inv.VU(I:Inv X h_ σ H s):∀x c,X.env.cells.lookup x=Y c->c≠X.env.locals:=λx c e z=>by
 obtain⟨v,o,d,f⟩:=I.cell x c e;obtain⟨m,⟨g,h,i,a,b,_⟩,_⟩:=I.loc
 grind
def Inv.rW(I:Inv X h_ σ H s):s.heap.FunFrames X.base X.outer:=by
 have g:∀(l:O B6),(∀b∈pP l,b∈X.fs)->X.s₀.heap.FunFrames X.base l->s.heap.FunFrames X.base l:=by
  intro l
  induction l with
  |nil=>intro _ _;trivial
  |cons k r c=>
    intro i m;obtain⟨n,⟨t,o,j,d,p,q⟩,f⟩:=m;have a :=i t (by unfold pP;simp_all);obtain⟨sl,e⟩:=I.base.slot t o p (I.ok.frf t a) a λz=>I.ok.exfs t z a;exact⟨n,⟨t,_,j,d,e,q⟩,c (λb h=>i b (by unfold pP;rw[sD,j];exact jU _ h)) f⟩
 exact g _ (λ_ h=>h) I.ok.rW
def Inv.stack(I:Inv X h_ σ H s):s.heap.FunFrames X.base X.stack:=by
 rcases I.ok.Qh with e|⟨e,b⟩
 .rw[e];exact I.rW
 .rw[e];obtain⟨m,a,_⟩:=I.loc;exact .cons (by rw[I.ok.kind];decide) b a (mD (aa I.ok.bsz I.ok.above)) I.rW
def Inv.wF(I:Inv X h_ σ H s):∀b∈pP X.stack,b∈X.env.locals::X.fs:=λb a=>by
 rcases I.ok.Qh with e|⟨e,c⟩
 .simp_all
 .rw[e]at a;unfold pP at a;rwa[sD,c]at a
def Inv.AB(I:Inv X h_ σ H s):∀b∈pP X.stack,H b=L:=λb a=>by
 rcases ak.mp (I.wF b a)with e|a
 .rw[e];exact I.free
 .obtain⟨_,o,c,_⟩:=I.ok.rW.mem a;exact I.base.free b o c (I.ok.frf b a) λz=>I.ok.exfs b z a
def Inv.step{g':c4 nc}{t':T}{d':Drawn}{ch:O aD}(I:Inv X h_ σ H s)
  (B:∀b∈ch,(b∈X.ex\/X.s₀.heap.objs.size<=b)/\b≠X.env.locals/\(∀x c,X.env.cells.lookup x=Y c->c≠b)/\∀p∈X.pn++h_,p.1≠b)
  (keep:∀b o,b≠X.env.locals->b∉X.fs->b∉ch->s.heap.get? b=Y o->H b=L->h'.get? b=Y o)
  (slot:∀b o,b≠X.env.locals->b∈X.fs->b∉ch->s.heap.get? b=Y o->H b=L->∃sl,h'.get? b=Y { o with slots:=sl })(free:∀b o,b∉ch->s.heap.get? b=Y o->H b=L->R b=L)
  (there:∀b o,b∉ch->s.heap.get? b=Y o->∃C,h'.get? b=Y C)
  (F:∀b xs,H b=Y (.tup xs)->R b=Y (.tup xs))(P:∀b o u,H b=Y (.l8 o u)->R b=Y (.l8 o u))
  (ns:∀m,s.heap.Ns X.env.locals m->h'.Ns X.env.locals m)(S:sH X.prog X.w R h')(O':mn g') :
  Inv X h_ σ R { s with heap:=h',gens:=g',drawn:=d',toks:=t' }:=by
 have g:∀b o,X.s₀.heap.get? b=Y o->b∉X.ex->b∉ch:=λb o e a h=>by
  rcases(B b h).1 with z|z
  .exact a z
  .exact absurd (aQ (hl9 e) z) (bE _)
 have cellK:∀x c,X.env.cells.lookup x=Y c->∀v,s.heap.IsCell c v->h'.IsCell c v:=λx c e v D=>by
  obtain⟨o,A,E⟩:=D;have f :=λz=>(B c z).2.2.1 x c e W;by_cases N:c∈X.fs
  .obtain⟨sl,q⟩:=slot c o (I.VU x c e) N f A (I.freeC x c e);exact⟨_,q,E⟩
  .exact⟨o,keep c o (I.VU x c e) N f A (I.freeC x c e),E⟩
 refine⟨I.ok,I.os,O',⟨λb o e n h a=>(keep b o ((λb o e=>a7 (aQ (hl9 e) I.ok.above)) b o e) h (g b o e a) (I.base.keep b o e n h a) (I.base.free b o e n a)),λb o e n h a=>?_,λb o e n a=>?_,λb o e a=>?_,λb xs e=>F b xs (I.base.tups b xs e),λb o xs e=>P b o xs (I.base.frzs b o xs e)⟩,?_,λx c e=>?_,?_,λx c e=>?_,λp Q=>?_,S,I.len⟩
 .obtain⟨sl,y⟩:=I.base.slot b o e n h a;obtain⟨j,K⟩:=slot b _ ((λb o e=>a7 (aQ (hl9 e) I.ok.above)) b o e) h (g b o e a) y (I.base.free b o e n a);exact⟨j,K⟩
 .obtain⟨C,y⟩:=I.base.there b o e a;exact free b C (g b o e a) y (I.base.free b o e n a)
 .obtain⟨C,y⟩:=I.base.there b o e a;exact there b C (g b o e a) y
 .obtain⟨m,t,hl⟩:=I.loc;refine⟨m,ns m t,λi x v y K G=>?_⟩;obtain⟨u,r,l⟩:=hl i x v y K G;refine⟨u,r,?_⟩
  rcases l with l|⟨k,c,e,z⟩
  .exact .inl l
  .exact .inr ⟨k,c,e,cellK x c e _ z⟩
 .obtain⟨v,z⟩:=I.cell x c e;exact⟨v,cellK x c e v z⟩
 .obtain⟨m,⟨o,_,_,A,_⟩,_⟩:=I.loc;exact free _ o (λz=>(B _ z).2.1 W) A I.free
 .obtain⟨v,o,A,E⟩:=I.cell x c e;exact free c o (λz=>(B c z).2.2.1 x c e W) A (I.freeC x c e)
 .obtain⟨e,n,ne,nf,d⟩:=I.pin p Q;have f :=λz=>(B _ z).2.2.2 p Q W;exact⟨keep _ _ ne nf f e n,free _ _ f e n,ne,nf,d⟩
def Inv.un(I:Inv X h_ σ H s)(u:Un X.fs [] H B s.heap h')(y:sH X.prog X.w B h'):Inv X h_ σ B { s with heap:=h',toks:=t' }:=by
 refine ac λ_ i=>?_;obtain⟨m,⟨o,p,q,k,r⟩,_⟩:=id I.loc;obtain⟨sl,d⟩:=u.any k I.free (by simp)
 apply i;exact I.step (ch:=[]) (λ_ z=>nomatch z) (λb o _ j _ e n=>u.keep b o e n j (by simp)) (λb o _ j _ e n=>u.slot b o e n j (by simp)) (λb o _ e n=>u.free b o e n (by simp)) (λb o _ e=>u.there b o e (by simp)) u.tups u.frzs (λh f=>by
  obtain⟨t,l,c,a,g⟩:=f;rw[k]at a;cases a
  exact⟨_,_,c,d,g⟩) y I.bare
def Inv.call(I:Inv X h_ σ H s)(u:Un (pP X.stack) ch H C s.heap h')(y:sH X.prog X.w C h')(O':mn g')
  (B:∀b∈ch,(b∈X.ex\/X.s₀.heap.objs.size<=b)/\b≠X.env.locals/\(∀x c,X.env.cells.lookup x=Y c->c≠b)/\∀p∈X.pn++h_,p.1≠b) :
  Inv X h_ σ C { s with heap:=h',gens:=g',drawn:=F,toks:=t' }:=by
 refine ac λ_ j=>?_;obtain⟨m,⟨o,A,E,l,r⟩,_⟩:=id I.loc;obtain⟨sl,d⟩:=u.any l I.free λz=>(B _ z).2.1 W
 apply j;exact I.step B (λb o d q k e n=>u.keep b o e n (λz=>(ak.mp (I.wF b z)).elim d q) k) (λb o _ _ k e n=>u.any e n k) (λb o k e n=>u.free b o e n k) (λb o k e=>u.there b o e k) u.tups u.frzs (λi g=>by
  obtain⟨K,t,f,a,h⟩:=g;rw[l]at a;cases a
  exact⟨_,_,f,d,h⟩) y O'
def Inv.turned(I:Inv X h_ σ H s)(k:∀b o,b≠it->s.heap.get? b=Y o->h'.get? b=Y o)(O':H it=L)(B:it≠X.env.locals)
  (g:it∈X.ex\/X.s₀.heap.objs.size<=it)(y:∀x c,X.env.cells.lookup x=Y c->c≠it)(C:∀p∈X.pn++h_,p.1≠it):Inv X h_ σ H { s with heap:=h',toks:=t' }:=by
 refine I.step (ch:=[it]) (λb f=>?_) (λb o _ _ a e _=>k b o (λz=>a (by simp[z])) e) (λb o _ _ a e _=>⟨_,k b o (λz=>a (by simp[z])) e⟩) (λ_ _ _ _ n=>n)
  (λb o a e=>⟨o,k b o (λz=>a (by simp[z])) e⟩) (λ_ _ e=>e) (λ_ _ _ e=>e) (λm d=>?_) (λb u e=>((I.hok b u e).nj λv=>k b v ((λb u e z=>by simp_all) b u e))) I.bare
 .have e:b=it:=by simpa using f
  clear I k O' f; subst e;exact⟨g,B,y,C⟩
 .obtain⟨o,h,i,j,r⟩:=d;exact⟨o,h,i,k _ o (dn B) j,r⟩
def Inv.tok(I:Inv X h_ σ H s)(t:T):Inv X h_ σ H { s with toks:=t }:=I.un Un.refl I.hok
def Inv.kept(I:Inv X h_ σ H s)(k:∀b u,s.heap.get? b=Y u->h'.get? b=Y u):Inv X h_ σ H { s with heap:=h',toks:=t' }:=I.un (Un.kept k) (I.hok.kept k)
def Inv.laid(I:Inv X h_ σ H s)(k:∀b u,s.heap.get? b=Y u->h'.get? b=Y u)(g:s.heap.objs.size<=a)(y:kL X.prog X.w (upd H a o) h' a o) :
  Inv X h_ σ (upd H a o) { s with heap:=h',toks:=t' }:=I.un (Un.laid k g (I.hok.fresh g)) (I.hok.laid k g y)
def Inv.write(I:Inv X h_ σ H s)(O':Mut (H x))(k:∀b u,b≠x->s.heap.get? b=Y u->h'.get? b=Y u)(B:∃u,h'.get? x=Y u)
  (g:kL X.prog X.w (upd H x o) h' x o):Inv X h_ σ (upd H x o) { s with heap:=h',toks:=t' }:=I.un (Un.write O' k B) (I.hok.write k g)
def Inv.weak{B:O (a5 V)}(I:Inv X h_ σ H s)(g:Z B=Z σ)(w:∀(i:T)v,B[i]?=Y (Y v)->σ[i]?=Y (Y v)):Inv X h_ B H s:=
 ⟨I.ok,I.os,I.bare,I.base,let ⟨m,b,a⟩:=I.loc;⟨m,b,λi x v c d e=>a i x v c (w i v d) e⟩,I.cell,I.free,I.freeC,I.pin,I.hok,g.trans I.len⟩
def Inv.tj(I:Inv X h_ σ H s)(h:∀p∈g,s.heap.get? p.1=Y p.2/\H p.1=L/\p.1≠X.env.locals/\p.1∉X.fs/\∀v,p.2.data≠.cell v):Inv X g σ H s:=
 ⟨I.ok,I.os,I.bare,I.base,I.loc,I.cell,I.free,I.freeC,λp a=>(aH.mp a).elim (λz=>I.pin p (aJ _ z)) (h p),I.hok,I.len⟩
def JX(I:Inv X h_ σ H s)(c3:X.N.Nodup)(hi:X.N[i]?=Y x)(B:Loc X.env.scope x)(r:RelV v u)
  (h:∀s',Inv X h_ (σ.set i (Y v)) H s'->(∃a,cM a s.heap s'.heap/\(a=X.env.locals\/X.env.cells.lookup x=Y a))->Q () s')(hf:X.fn x=U\/X.env.scope.names.lookup x=Y .local):aw M A (storeName X.env x u) Q E s:=by
 obtain⟨m,G,hl⟩:=id I.loc;have f:i<Z σ:=by rw[I.len];exact(aM.mp hi).1
 have tracked:∀{a:aD}{h':bP},(∃o,s.heap.get? a=Y o/\H a=L)->cM a _ h'->sH _ _ H h':=λ{a h'}ha t b e0 e=>by
  obtain⟨_,_,J'⟩:=ha;refine(I.hok b e0 e).nj λK q=>(t.2 b ?_).trans q;rintro rfl
  simp_all
 rcases B with hk|hk
 .refine wpAny_storeName_local hk G (λh' L' t=>?_) (by rw[I.ok.kind];rfl);obtain⟨e1,_,_,O',_⟩:=id G;refine h _ ⟨I.ok,I.os,I.bare,⟨λb o e n hb B=>((t.2 b (a7 (aQ (hl9 e) I.ok.above))).trans (I.base.keep b o e n hb B)),λb o e n hb B=>?_,I.base.free,λb o e B=>?_,I.base.tups,I.base.frzs⟩,⟨_,L',λj y P w e2 e3=>?_⟩,λy c e=>?_,I.free,I.freeC,λp hp=>?_,tracked ⟨e1,O',I.free⟩ t,by simpa using I.len⟩ ⟨_,t,.inl rfl⟩
  .obtain⟨sl,w⟩:=I.base.slot b o e n hb B;exact⟨sl,(t.2 b (a7 (aQ (hl9 e) I.ok.above))).trans w⟩
  .obtain⟨o',w⟩:=I.base.there b o e B;exact⟨o',(t.2 b (a7 (aQ (hl9 e) I.ok.above))).trans w⟩
  .by_cases g:j=i
   .subst g;rw[hi]at w;cases w;rw[fh f]at e2;cases e2;exact⟨u,r,.inl ⟨hk,by simp⟩⟩
   .rw[dc (dn g)]at e2;obtain⟨R,S,q⟩:=hl j y P w e2 e3;refine⟨R,S,?_⟩
    rcases q with⟨k,e⟩|⟨k,c,e,z⟩
    .refine .inl ⟨k,?_⟩;have:y≠x:=λe=>g ((List.getElem_inj c3).mp ((aM.mp w).2.trans (aM.mp (e▸hi)).2.symm));simp[this,e]
    .exact .inr ⟨k,c,e,z.sameBut t (I.VU y c e)⟩
  .obtain⟨K,z⟩:=I.cell y c e;exact⟨K,z.sameBut t (I.VU y c e)⟩
  .obtain⟨e,n,ne,nf,d⟩:=I.pin p hp;exact⟨(t.2 _ ne).trans e,n,ne,nf,d⟩
 .have l:X.fn x=U:=by
   grind
  obtain⟨c,hc⟩:=I.ok.has x (.inl hk);obtain⟨K,z⟩:=I.cell x c hc;refine wpAny_storeName_cell I.ok.kind hk hc z (λh' C t=>?_);obtain⟨oc,T',U'⟩:=id z;refine h _ ⟨I.ok,I.os,I.bare,⟨λb o e n hb B=>((t.2 b (a7 (aQ (hl9 e) (I.ok.cab x c l hc)))).trans (I.base.keep b o e n hb B)),λb o e n hb B=>?_,I.base.free,λb o e B=>?_,I.base.tups,I.base.frzs⟩,⟨m,G.sameBut t (dn (I.VU x c hc)),λj y P w e2 e3=>?_⟩,λy F e=>?_,I.free,I.freeC,λp hp=>?_,tracked ⟨oc,T',I.freeC x c hc⟩ t,by simpa using I.len⟩ ⟨c,t,.inr hc⟩
  .obtain⟨sl,w⟩:=I.base.slot b o e n hb B;exact⟨sl,(t.2 b (a7 (aQ (hl9 e) (I.ok.cab x c l hc)))).trans w⟩
  .obtain⟨o',w⟩:=I.base.there b o e B;exact⟨o',(t.2 b (a7 (aQ (hl9 e) (I.ok.cab x c l hc)))).trans w⟩
  .by_cases g:j=i
   .subst g;rw[hi]at w;cases w;rw[fh f]at e2;cases e2;exact⟨u,r,.inr ⟨.inl hk,c,hc,C⟩⟩
   .rw[dc (dn g)]at e2;obtain⟨R,S,q⟩:=hl j y P w e2 e3;refine⟨R,S,?_⟩
    rcases q with q|⟨k,F,e,z'⟩
    .exact .inl q
    .refine .inr ⟨k,F,e,z'.sameBut t ?_⟩;rintro rfl;exact g ((List.getElem_inj c3).mp ((aM.mp w).2.trans (aM.mp (I.ok.inj _ _ _ e hc▸hi)).2.symm))
  .by_cases D:F=c
   .subst D;exact⟨_,C⟩
   .obtain⟨w2,z2⟩:=I.cell y F e;exact⟨w2,z2.sameBut t D⟩
  .obtain⟨e,n,ne,nf,d⟩:=I.pin p hp;refine⟨(t.2 _ ?_).trans e,n,ne,nf,d⟩
   grind
def qg(I:Inv X h_ σ H s)(B:X.N.Nodup)(hi:X.N[i]?=Y x)(O':Loc X.env.scope x)(r:RelV v u)
  (h:∀g,Inv X h_ (σ.set i (Y v)) H g->Q () g)(y:X.fn x=U\/X.env.scope.names.lookup x=Y .local):aw M A (storeName X.env x u) Q E s:=
 JX I B hi O' r (λg a _=>h g a) y
def Inv.VV{g:aj}(I:Inv X h_ σ H s)(F:g.os=s.os)(u:Un (pP X.stack) ch H C s.heap g.heap)(y:sH X.prog X.w C g.heap)(O':mn g.gens)
  (B:∀b∈ch,(b∈X.ex\/X.s₀.heap.objs.size<=b)/\b≠X.env.locals/\(∀x c,X.env.cells.lookup x=Y c->c≠b)/\∀p∈X.pn++h_,p.1≠b):Inv X h_ σ C g:=by
 obtain⟨h',a,d,e,f⟩:=g;subst F;exact I.call u y O' B
end
abbrev XK:=ai->a5 aD->Hp->Prop
abbrev St:=O (a5 V)
abbrev VK:=V->Hp->Prop
abbrev TE:=St->Hp->VK->Prop
abbrev TT:=St->Hp->(cc->Hp->Prop)->Prop
abbrev TA:=St->Hp->(O V->Hp->Prop)->Prop
structure Ends where
 nx:St->Hp->Prop
 rt:VK
 bk:St->Hp->Prop:=λ_ _=>False
 ct:St->Hp->Prop:=λ_ _=>False
abbrev TS:=Ends->St->Hp->Prop
def EP(X:Cx)(g:O (aD×lO))(y:St)(Q:VK)(u:ai)(B:aj):Prop:=∃v a,Inv X g y a B/\RelV v u/\Q v a
def TP(X:Cx)(g:O (aD×lO))(y:St)(Q:cc->Hp->Prop)(b:cc)(B:aj):Prop:=∃a,Inv X g y a B/\Q b a
def AP(X:Cx)(g:O (aD×lO))(y:St)(Q:O V->Hp->Prop)(B:O ai)(C:aj):Prop:=∃a b,Inv X g y b C/\cX a B/\Q a b
def SP(X:Cx)(g:O (aD×lO))(D:Ends)(f:Flow)(y:aj):Prop:=
 match f with
 |.next=>∃a b,Inv X g a b y/\D.nx a b
 |.brk=>∃a b,Inv X g a b y/\D.bk a b
 |.cont=>∃a b,Inv X g a b y/\D.ct a b
 |.ret u=>∃v a b,Inv X g a b y/\RelV v u/\D.rt v b
def PE(X:Cx)(e:aZ)(t:TE):Prop:=
 ∀(b:O (aD×lO))(s:aj)(a:St)(H:Hp)(Q:VK),Inv X b a H s->t a H Q->aw (aq X.prog X.w) X.A (eval e X.env) (EP X b a Q) X.xe s
def PT(X:Cx)(e:aZ)(t:TT):Prop:=
 ∀(b:O (aD×lO))(s:aj)(a:St)(H:Hp)(Q:cc->Hp->Prop),Inv X b a H s->t a H Q->aw (aq X.prog X.w) X.A (isTrue e X.env (eval e X.env)) (TP X b a Q) X.xe s
def PW(X:Cx)(e:aZ)(t:TT):Prop:=
 ∀(whole:B3 ai)(b:O (aD×lO))(s:aj)(a:St)(H:Hp)(Q:cc->Hp->Prop),Inv X b a H s->t a H Q->aw (aq X.prog X.w) X.A (isTrue e X.env whole) (TP X b a Q) X.xe s
def PW.pt(h:PW X e t):PT X e t:=h _
def PA(X:Cx)(es:O aZ)(t:TA):Prop:=
 ∀(a:rJ)(c:O (aD×lO))(s:aj)(b:St)(H:Hp)(Q:O V->Hp->Prop),Inv X c b H s->t b H Q->aw (aq X.prog X.w) X.A (spliced (eI a (aN es X.env))) (AP X c b Q) X.xe s
def PS(X:Cx)(st:fP)(t:TS):Prop:=
 ∀(a:O (aD×lO))(s:aj)(b:St)(H:Hp)(D:Ends),Inv X a b H s->t D b H->aw (aq X.prog X.w) X.A (exec st X.env) (SP X a D) X.xe s
def yY(X:Cx)(st:O fP)(t:TS):Prop:=
 ∀(a:O (aD×lO))(s:aj)(b:St)(H:Hp)(D:Ends),Inv X a b H s->t D b H->aw (aq X.prog X.w) X.A (j_ st X.env) (SP X a D) X.xe s
def jc (h:aw M A t Q E s)(B:∀a s,Q a s->g a s):aw M A t g E s:=bC h B λ_ _ x=>x
section
variable{X:Cx}
def bin{a b:aZ}{c3 tb:TE}(ha:PE X a c3)(hb:PE X b tb){S:O (aD×lO)}{s:aj}{C:St}{H:Hp}{R:V->V->Hp->Prop}(I:Inv X S C H s)(h:c3 C H λx O'=>tb C O' λy F=>R x y F)
  {α:Type}{Q:α->aj->Prop}{f:ai->ai->B3 α}
  (hf:∀v u s2 x y F,Inv X S C F s2->RelV x v->RelV y u->R x y F->aw (aq X.prog X.w) X.A (f v u) Q X.xe s2) :
  aw (aq X.prog X.w) X.A (eval a X.env) (λv P=>aw (aq X.prog X.w) X.A (eval b X.env) (λu B=>aw (aq X.prog X.w) X.A (f v u) Q X.xe B) X.xe P) X.xe s:=by
 refine jc (ha S s C H _ I h) λv s1 l=>?_;obtain⟨x,O',c,d,e⟩:=l;exact jc (hb S s1 C O' _ c e) λu s2 z=>by obtain⟨y,F,g,i,j⟩:=z;exact hf v u s2 x y F g d i j
def vx(i:T):TE:=λa H Q=>∃v,a[i]?=Y (Y v)/\Q v H
def tC(v:V):TE:=λ_ H Q=>Q v H
def mr(O':X.N[i]?=Y x)(y:P1 X.env.scope x)(g:(x == ("__debug__":aV))=J)(B:(x == ("__classdict__":aV))=J):PE X (.Name x pos) (vx i):=by
 intro k s n H Q I h;obtain⟨v,e,h⟩:=h;obtain⟨m,b,o⟩:=I.loc;obtain⟨u,r,l⟩:=o i x v O' e y;have fin:EP X k n Q u s:=⟨v,H,I,r,h⟩
 rcases l with⟨f,d⟩|⟨f,c,j,a⟩
 .exact i1 (wpAny_loadName_local I.ok.kind f b d fin) g
 .rcases f with f|f
  .exact i1 (wpAny_loadName_cell I.ok.kind f j a fin) g
  .exact i1 (wpAny_loadName_free I.ok.kind f j a fin B) g
def Gl(X:Cx)(x:aV):Prop:=X.env.kindOf x=Y .globalImplicit
def qH(I:Inv X y σ H s)(B:Gl X x)(O':X.mg x=Y u)(h:Q u s)
  (g:(x == ("__debug__":aV))=J):aw (aq X.prog X.w) X.A (eval (.Name x pos) X.env) Q E s:=
 yI I.ok.kind B (Calls.loadGlobal_global (by rw[I.ok.glob];exact I.mod.glob.keeps I.bk) O' h) g
def mx(I:Inv X y σ H s)(B:Gl X x)(O':X.mg x=L)(C:dt x=Y u)(h:Q u s)
  (F:x≠"__name__":=by decide)(g:(x == ("__debug__":aV))=J:=by decide):aw (aq X.prog X.w) X.A (eval (.Name x pos) X.env) Q E s:=by
 obtain⟨c,a,b⟩:=I.mod.blt;exact yI I.ok.kind B (Calls.loadGlobal_builtin (by rw[I.ok.glob];exact I.mod.glob.keeps I.bk) O' (by rw[I.ok.blt];exact a.keeps I.bk) ((b x F).trans C) h) g
variable{ta tb:TE}
def tB(t:TE):TT:=λb H Q=>t b H λx a=>∃c,x=.bl c/\Q c a
variable{rest:O aZ}
def adm(t u:TT):TT:=λb H Q=>t b H λc a=>if c=U then u b a Q else Q J a
def tOr(t u:TT):TT:=λb H Q=>t b H λc a=>if c=U then Q U a else u b a Q
def adi(t:TT):TT:=λb H Q=>t b H λc a=>Q (!c) a
def aaz(ta tb:TE):TE:=λb H Q=>ta b H λx a=>∃c,x=.bl c/\if c=U then tb b a Q else Q (.bl J) a
def adh(ta tb:TE):TE:=λb H Q=>ta b H λx a=>∃c,x=.bl c/\if c=U then Q (.bl U) a else tb b a Q
def tIf(t:TT)(ta tb:TE):TE:=λb H Q=>t b H λc a=>if c=U then ta b a Q else tb b a Q
end
def pC(K:au)(H:Hp)(a:aD)(xs:O V):Prop:=
 Rd H a (.lst xs)\/
  ∃(o:lO) (b:c4 ai) (n:T),K.lookup a=Y o/\o.cls=.type "list"/\o.dict=L/\o.data=.seq b n/\b.size<=aF/\cX xs b.toList
def vj(K:au)(H:Hp)(a:aD)(xs:O V):Prop:=
 Rd H a (.tup xs)\/
  ∃(o:lO) (b:c4 ai) (n:T),K.lookup a=Y o/\o.cls=.type "tuple"/\o.data=.seq b n/\b.size<=aF/\cX xs b.toList
noncomputable def aeA:ai->a5 V
 |.none=>Y .non
 |.bool b=>Y (.bl b)
 |.int i _=>Y (.int i)
 |.str x _=>Y (.str x)
 |.bytes b _=>Y (.byt b)
 |.float b _=>Y (.flt b)
 |.ref a=>Y (.ref a)
 |.type n=>Y (.ty n)
 |_=>L
def RelV.abs(r:RelV x u):aeA u=Y x:=by
 cases x with
 |non=>cases r;rfl
 |bl _=>cases r;rfl
 |int _=>obtain⟨t,rfl⟩:=r;rfl
 |str _=>obtain⟨t,rfl⟩:=r;rfl
 |byt _=>obtain⟨t,rfl⟩:=r;rfl
 |flt _=>obtain⟨t,rfl⟩:=r;rfl
 |ref _=>cases r;rfl
 |ty _=>cases r;rfl
def RelV.inj(r:RelV x u)(q:RelV y u):x=y:=bh (r.abs.symm.trans q.abs)
def cX.inj{xs g:O V}(h:cX xs us):cX g us->xs=g:=by
 induction h generalizing g with
 |nil=>intro h;cases h;rfl
 |cons r _ i=>intro h;cases h with|cons a b=>rw[r.inj a,i b]
section
def pC.of{K:au}(h:H a=Y (.lst xs)):pC K H a xs:=.inl (.inl h)
def Inv.list(I:Inv X y σ H s)(h:pC X.K H a xs):∃its:O ai,cX xs its/\PlainL s.heap a its.toArray/\Z xs<=aF:=by
 rcases h with h|⟨o,its,n,c,d,f,g,b,r⟩
 .obtain⟨z,its,n,r,e⟩:=h.ok I.hok;exact⟨_,r,⟨_,n,e,W,W,W⟩,z⟩
 .refine⟨_,r,⟨o,n,I.xE a o c,d,f,by simpa using g⟩,?_⟩;have e:=r.length
  simp_all
def Inv.tuple(I:Inv X g σ H s)(h:vj X.K H a xs):∃its:O ai,cX xs its/\BR s.heap a its.toArray/\Z xs<=aF:=by
 rcases h with h|⟨o,its,n,c,d,f,b,r⟩
 .obtain⟨z,its,r,p⟩:=h.ok I.hok;exact⟨_,r,p,z⟩
 .refine⟨_,r,⟨o,I.xE a o c,d,n,by simpa using f⟩,?_⟩;have e:=r.length
  simp_all
def Inv.ql(I:Inv X C σ H s)(h:pC X.K H a xs)(y:pC X.K H a B):xs=B:=by
 obtain⟨i,r,⟨o,n,e,_,_,d⟩,_⟩:=I.list h;obtain⟨b,f,⟨k,g,c,_,_,j⟩,_⟩:=I.list y;rw[e]at c;cases c;rw[d]at j
 injection j with d1 _
 have:i=b:=by simp_all
 subst this;exact r.inj f
def Inv.qz(I:Inv X C σ H s)(h:vj X.K H a xs)(y:vj X.K H a B):xs=B:=by
 obtain⟨i,r,⟨o,e,_,n,d⟩,_⟩:=I.tuple h;obtain⟨b,f,⟨k,c,_,g,j⟩,_⟩:=I.tuple y;rw[e]at c;cases c;rw[d]at j
 injection j with d1 _
 have:i=b:=by simp_all
 subst this;exact r.inj f
end
noncomputable abbrev Cx.oZ(X:Cx)(E:ai->aj->Prop):Cx:={ X with xe:=E }
abbrev Cx.j3(X:Cx):Cx:=X.oZ λ_ _=>False
def Cx.Ok.oZ{X:Cx}(ok:X.Ok)(E:ai->aj->Prop):(X.oZ E).Ok:=
 ⟨ok.mod,ok.kind,ok.glob,ok.blt,ok.above,ok.inj,ok.has,ok.cab,ok.hd,ok.frames,ok.Qh,ok.exf,ok.bs,ok.bsz,ok.noex,ok.exfs,ok.rW,ok.frf⟩
def Cx.Ok.iY{X:Cx}(ok:(X.oZ E).Ok):X.Ok:=
 ⟨ok.mod,ok.kind,ok.glob,ok.blt,ok.above,ok.inj,ok.has,ok.cab,ok.hd,ok.frames,ok.Qh,ok.exf,ok.bs,ok.bsz,ok.noex,ok.exfs,ok.rW,ok.frf⟩
section
variable{X:Cx}
def Inv.oZ(I:Inv X g σ H s)(E:ai->aj->Prop):Inv (X.oZ E) g σ H s:=⟨I.ok.oZ E,I.os,I.bare,I.base,I.loc,I.cell,I.free,I.freeC,I.pin,I.hok,I.len⟩
def Inv.iY(I:Inv (X.oZ E) g σ H s):Inv X g σ H s:=⟨I.ok.iY,I.os,I.bare,I.base,I.loc,I.cell,I.free,I.freeC,I.pin,I.hok,I.len⟩
def SP.iY{D:Ends}(h:SP (X.oZ E) g D f y):SP X g D f y:=by
 cases f with
 |next=>obtain⟨a,b,I,q⟩:=h;exact⟨a,b,I.iY,q⟩
 |brk=>obtain⟨a,b,I,q⟩:=h;exact⟨a,b,I.iY,q⟩
 |cont=>obtain⟨a,b,I,q⟩:=h;exact⟨a,b,I.iY,q⟩
 |ret u=>obtain⟨v,a,b,I,r,q⟩:=h;exact⟨v,a,b,I.iY,r,q⟩
def yY.j3{st:O fP}(h:yY X.j3 st t):yY X st t:=λb s c H D I a=>
 bC (h b s c H D (I.oZ _) a) (λ_ _ q=>q.iY) λ_ _ z=>bK z
end
section
variable{st:fP}{rest:O fP}{t u:TS}{te:TE}{pos:rJ}
def aaw:TS:=λD a H=>D.nx a H
def adg(t u:TS):TS:=λD a H=>t { D with nx:=u D } a H
def wY(g:PS X st t)(y:yY X rest u):yY X (st::rest) (adg t u):=by
 intro b s c H D I h;refine wpAny_execs_cons (jc (g b s c H _ I h) λf s1 q=>?_)
 cases f with
 |next=>
   obtain⟨a,d,e,q⟩:=q;exact y b s1 a d D e q
 |ret v=>exact q
 |brk=>exact q
 |cont=>exact q
def Inv.quiet(I:Inv X g σ H s):interactive X.env=J:=by simp[interactive,I.ok.kind]
def Hg(te:TE):TS:=λD b H=>te b H λ_ a=>D.nx b a
def tf(y:PE X e te)(hs:fo e L pos.line X.env=pure J):PS X (.Expr e pos) (Hg te):=by
 intro i s f H D I h;exact wpAny_Expr_any (jc (y i s f H _ I h) λv s1 g=>by obtain⟨x,a,b,d,c⟩:=g;exact⟨f,a,b,c⟩) I.quiet hs
def aat(te:TE):TS:=λD a H=>te a H D.rt
def M7(g:PE X e te):PS X (.Return (Y e) pos) (aat te):=by
 intro i s f H D I h;exact wpAny_Return_some (jc (g i s f H _ I h) λv s1 l=>by obtain⟨x,a,b,c,d⟩:=l;exact ⟨x,f,a,b,c,d⟩)
def Wp(c:TT)(t u:TS):TS:=λD d H=>c d H λb a=>if b=U then t D d a else u D d a
def aa6(y:PT X c B)(ha:yY X a t)(C:yY X b u):PS X (.If c a b pos) (Wp B t u):=by
 intro i s k H D I h;refine wpAny_If (jc (y i s k H _ I h) λd s1 j=>?_)
 obtain⟨e,f,g⟩:=j;cases d with
 |true=>exact ha i s1 k e D f g
 |false=>exact C i s1 k e D f g
end
abbrev TG:=V->St->Hp->(St->Hp->Prop)->Prop
abbrev V5:=O V->St->Hp->(St->Hp->Prop)->Prop
def PG(X:Cx)(target:aZ)(t:TG):Prop:=
 ∀(b:O (aD×lO))(s:aj)(c:St)(H:Hp)(v:V)(u:ai)(Q:St->Hp->Prop),Inv X b c H s->RelV v u->t v c H Q->
  aw (aq X.prog X.w) X.A (hD target X.env u) (λ_ e=>∃a d,Inv X b a d e/\Q a d) X.xe s
def PGs(X:Cx)(g:O aZ)(t:V5):Prop:=
 ∀(b:O (aD×lO))(s:aj)(c:St)(H:Hp)(d:O V)(e:O ai)(Q:St->Hp->Prop),Inv X b c H s->cX d e->t d c H Q->
  aw (aq X.prog X.w) X.A (assignInOrder ((ej g X.env).map (·.2)) e) (λ_ h=>∃a f,Inv X b a f h/\Q a f) X.xe s
abbrev acv:=V->V->V->Hp->(Hp->Prop)->Prop
def ZW(X:Cx)(t:acv):Prop:=
 ∀(c:O (aD×lO))(s:aj)(d:St)(H:Hp)(o i v:V)(a b u:ai)(Q:Hp->Prop),Inv X c d H s->RelV o a->RelV i b->RelV v u->t o i v H Q->
  aw (aq X.prog X.w) X.A (kl a b u) (λ_ f=>∃e,Inv X c d e f/\Q e) X.xe s
section
variable{X:Cx}{pos:rJ}
def lp(i:T):TG:=λv a H Q=>Q (a.set i (Y v)) H
def HN(B:X.N.Nodup)(hi:X.N[i]?=Y x)(O':Loc X.env.scope x)(g:X.fn x=U\/X.env.scope.names.lookup x=Y .local):PG X (.Name x pos) (lp i):=by
 intro b s c H v u Q I r h;exact hL (qg I B hi O' r (λd a=>⟨_,H,a,h⟩) g)
def KP:V5:=λa b H Q=>a=[]/\Q b H
def zT(t:TG)(u:V5):V5:=λb c H Q=>∃v r,b=v::r/\t v c H λa d=>u r a d Q
def HM:PGs X [] KP:=by
 intro b s a H c d Q I r h;obtain⟨rfl,h⟩:=h;cases r;exact assignInOrder_nil ⟨a,H,I,h⟩
def CY(y:PG X e t)(B:PGs X es u)
  (hs:(ej (e::es) X.env).map (·.2)=hD e X.env::(ej es X.env).map (·.2):=by rfl):PGs X (e::es) (zT t u):=by
 intro i s j H k l Q I r h;obtain⟨v,g,rfl,h⟩:=h;cases r with
 |cons r b=>
   rw[hs];exact assignInOrder_cons (jc (y i s j H _ _ _ I r h) λ_ s1 z=>by obtain⟨a,c,d,f⟩:=z;exact B i s1 a c _ _ Q d b f)
def OO(K:au)(n:T)(t:V5):TG:=λv c H Q=>∃a b,v=.ref a/\vj K H a b/\Z b=n/\t b c H Q
def Nj(y:X.calm=U)(h:PGs X es t)
  (O':Z (ej es X.env)=n)(B:(ej es X.env).findIdx? (·.1)=L):PG X (.Tuple es k pos) (OO X.K n t):=by
 intro l s m H v u Q I r c;refine ac λ_ i=>?_;obtain⟨a,p,rfl,f,q,c⟩:=c;cases r;obtain⟨w,d,x,j⟩:=I.tuple f;apply i;refine assign_Tuple_tuple (I.ok.hd y) x (by simp[O',<-q,d.length]) B λA g=>?_;exact h l _ m H p _ Q (I.kept λb o e=>g b o (a7 (hl9 e)) e) (by simpa using d) c
def TZ(g O':TE)(t:acv):TG:=λv c H Q=>g c H λo a=>O' c a λi d=>t o i v d λb=>Q c b
def FP(C:PE X o to)(hi:PE X i F)(hs:ZW X t)
  (ha:∀v,hD (.Subscript o i pos) X.env v=(do
   let B <-holding [v] (eval o X.env);let O' <-holding [v,B] (eval i X.env)
   standAt pos
   holding [v,B,O'] (kl B O' v)
   release [v,B,O'] []):=by intro _;rfl):PG X (.Subscript o i pos) (TZ to F t):=by
 intro n s m H v u Q I r h;rw[ha];refine wb9 (bQ (jc (C n s m H _ I h) λB s1 z=>?_));obtain⟨x,a,b,c,d⟩:=z;refine wb9 (bQ (jc (hi n s1 m a _ b d) λO' s2 D=>?_));obtain⟨y,p,e,f,g⟩:=D;exact wb9 (m6 (wb9 (bQ (jc (hs n s2 m p x y v B O' u _ e c f r g) λ_ s3 q=>by obtain⟨j,k,l⟩:=q;exact wpAny_release ⟨m,j,k,l⟩))))
def Az(y:TE)(g:TG):TS:=λD b H=>y b H λx a=>g x b a D.nx
def wZ(y:PE X e C)(B:PG X tg g)(hs:fC [tg] e pos.line X.env=pure J)(O':f7 [tg] e X.env=pure L)
  (F:(ej [tg] X.env).map (·.2)=[hD tg X.env]):PS X (.Assign [tg] e pos) (Az C g):=by
 intro f s i H D I h;refine wpAny_Assign_stores (jc (y f s i H _ I h) λv s1 j=>?_) hs O';obtain⟨x,a,b,c,d⟩:=j;rw[F];exact jc (B f s1 i a x v _ b c d) λ_ s2 q=>q
def M6(B:X.N.Nodup)(hi:X.N[i]?=Y x)(O':Loc X.env.scope x)(C:PE X e F)(hs:fo e (Y (.Name x pos')) pos.line X.env=pure J)(P:X.fn x=U\/X.env.scope.names.lookup x=Y .local) :
  PS X (.Assign [.Name x pos'] e pos) (Az F (lp i)):=by
 intro j s k H D I h;exact hM (jc (C j s k H _ I h) λv s1 g=>by obtain⟨y,a,b,c,d⟩:=g;exact qg b B hi O' c (λs2 f=>⟨_,a,f,d⟩) P) hs
end
section
variable{X:Cx}
def Wo(c:TT)(tb:TS):TS:=λD f H=>∃h:T->St->Hp->Prop,(∃m,h m f H)/\∀m f H,h m f H->
 c f H λb d=>if b=U then ∃N:St->Hp->Prop,(∀a g,N a g->∃e,e<m/\h e a g)/\tb { D with nx:=N,ct:=N,bk:=D.nx } f d else D.nx f d
end
structure It where
 go:T->Hp->Prop
 yld:T->Hp->V->Hp->Prop
 stop:T->Hp->Prop
def sk(X:Cx)(g:O (aD×lO))(H:Hp)(b:aD):Prop:=
 H b=L/\b≠X.env.locals/\b∉X.fs/\(b∈X.ex\/X.s₀.heap.objs.size<=b)/\(∀x c,X.env.cells.lookup x=Y c->c≠b)/\∀p∈X.pn++g,p.1≠b
def Inv.vC(I:Inv X y σ H s)(g:s.heap.objs.size<=b)(B:C b=L):sk X y C b:=by
 refine⟨B,jm (aQ I.lt g),I.abj g,.inr (aa I.sz g),λx c e z=>?_,λp a z=>(absurd (aQ (hl9 (I.pin p a).1) (by rwa[z])) (bE _))⟩
 .obtain⟨v,q⟩:=I.cell x c e;exact absurd (aQ q.lt (by rwa[z])) (bE _)
structure Turn(P:ck)(w:cW)(K:au)(tg:aZ)(J':It)(fp:O aD)(it:aD)(tn:T->bP->Prop):Prop where
 mem:it∈fp
 obj:∀i h,tn i h->∀b∈fp,∃o,h.get? b=Y o/\∀v,o.data≠.cell v
 keep:∀i h h',tn i h->(∀b∈fp,∀o,h.get? b=Y o->h'.get? b=Y o)->tn i h'
 item:∀(X:Cx),X.prog=P->X.w=w->X.K=K->X.calm=U->∀(i:T)(h_:O (aD×lO))(s:aj)(σ:St)(H:Hp)(E:ai->aj->Prop),Inv X h_ σ H s->(∀b∈fp,sk X h_ H b)->tn i s.heap->J'.go i H->
  aw (aq P w) X.A (hF (.ref it)) (λr s1=>∃u,r=Y u/\
   aw (aq P w) X.A (gs tg (.ref it) u) (λ_ s2=>∃x H',Inv X h_ σ H' s2/\RelV x u/\J'.yld i H x H'/\tn (i+1) s2.heap/\∀b∈fp,H' b=L) E s1) E s
 done:∀(X:Cx),X.prog=P->X.w=w->X.K=K->X.calm=U->∀(i:T)(h_:O (aD×lO))(s:aj)(σ:St)(H:Hp)(E:ai->aj->Prop),Inv X h_ σ H s->(∀b∈fp,sk X h_ H b)->tn i s.heap->J'.stop i H->
  aw (aq P w) X.A (hF (.ref it)) (λr s1=>r=L/\Inv X h_ σ H s1) E s
 self:∀(A:bJ)(i:T)(s:aj)(Q:ai->aj->Prop)(E:ai->aj->Prop),tn i s.heap->Q (.ref it) s->aw (aq P w) A (EK (.ref it)) Q E s
abbrev TI:=St->Hp->(It->Hp->Prop)->Prop
def PIE(X:Cx)(g:O (aD×lO))(y:St)(tg:aZ)(R:It->Hp->Prop)(itv:ai)(s2:aj):Prop:=
 ∃(c:aD) (d:O aD) (e:T->bP->Prop) (f:It) (a:Hp),itv=.ref c/\Inv X g y a s2/\Turn X.prog X.w X.K tg f d c e/\e 0 s2.heap/\(∀b∈d,sk X g a b)/\R f a
def PI(X:Cx)(tg iter:aZ)(g:TI):Prop:=
 ∀(b:O (aD×lO))(s:aj)(a:St)(H:Hp)(R:It->Hp->Prop),Inv X b a H s->g a H R->
  aw (aq X.prog X.w) X.A (eval iter X.env) (λv s1=>aw (aq X.prog X.w) X.A (EK v) (PIE X b a tg R) X.xe s1) X.xe s
def xK{s:aj}(g:s.heap.get? it=Y o)(y:o.cls=.type n)(C:o.data=.fields F)
  (O':["enumerate","zip","dict_itemiterator","dict_reverseitemiterator","odict_iterator","itertools.zip_longest","itertools.pairwise"].contains n=J)(B:Q () s):aw M A (gs tg (.ref it) u) Q E s:=by
 cases tg<;>first
  |exact wu9 B
  | (cases u<;>first
    |exact wu9 B
    | (refine wb9 (jn g ?_)
       rw[y,C];show aw M A (if(["enumerate","zip","dict_itemiterator","dict_reverseitemiterator","odict_iterator","itertools.zip_longest","itertools.pairwise"].contains n && F[0]? == Y _)=U then _ else _) Q E s;rw[cv (by grind)]
       exact wu9 B))
noncomputable def Itl(K:au)(a:aD):It:=
 ⟨λi H=>∃b x,pC K H a b/\b[i]?=Y x,λi H x c=>c=H/\∀b,pC K H a b->b[i]?=Y x,λi H=>∃b,pC K H a b/\Z b<=i⟩
noncomputable def Itt(K:au)(a:aD):It:=
 ⟨λi H=>∃b x,vj K H a b/\b[i]?=Y x,λi H x c=>c=H/\∀b,vj K H a b->b[i]?=Y x,λi H=>∃b,vj K H a b/\Z b<=i⟩
noncomputable def Itr(lo:cx)(n:T):It:=⟨λi _=>i<n,λi H x a=>a=H/\x=.int (lo+i),λi _=>n<=i⟩
def JS{K:au}(a it:aD):Turn P w K tg (Itl K a) [it] it (λi h=>h.IsListIter it a i) where
 mem:=by simp
 obj:=λi h Q b R=>by
  have e:b=it:=by simpa using R
  subst e;obtain⟨o,e,c,d⟩:=Q;exact⟨o,e,λv z=>by rw[d]at z;cases z⟩
 keep:=λi h S Q k=>Q.at λo e=>k it (by simp) o e
 item:=by
  intro X l m n hc i h_ s σ H E I hf Q q;subst l m n;obtain⟨xs,x,g,j⟩:=q;obtain⟨V,r,p,D⟩:=I.list g;obtain⟨u,F,G⟩:=r.get j;obtain⟨t,y,J',A,B,C⟩:=hf it (by simp);refine wpAny_pyNext_list_item Q p.isList (x:=u) (by simpa using F) λS f L'=>?_;have M:Inv X h_ σ H { s with heap:=S }:=I.turned (t':=s.toks) (λb o R e=>(L'.2 b R).trans e) t y A B C;obtain⟨o,e,c,d⟩:=id f;exact⟨u,W,xK (s:={ s with heap:=S }) e c d cV ⟨x,H,M,G,⟨W,λys N=>by rw[I.ql N g];exact j⟩,f,λb R=>(hf b R).1⟩⟩
 done:=by
  intro X l m n hc i h_ s σ H E I hf Q q;subst l m n;obtain⟨xs,g,j⟩:=q;obtain⟨V,r,p,D⟩:=I.list g;obtain⟨t,y,J',A,B,C⟩:=hf it (by simp);have hl:=r.length;exact wpAny_pyNext_list_end (I.ok.hd hc) Q p.isList (by simp;exact aa (af hl.symm) j) λS O'=>⟨W,I.turned (t':=s.toks) (λb o R e=>O' b o R e) t y A B C⟩
 self:=λ_ _ _ _ _ Q h=>wpAny_pyIter_listiter Q h
def E8{K:au}(a it:aD):Turn P w K tg (Itt K a) [it] it (λi h=>h.IsTupleIter it a i) where
 mem:=by simp
 obj:=λi h Q b R=>by
  have e:b=it:=by simpa using R
  subst e;obtain⟨o,e,c,d⟩:=Q;exact⟨o,e,λv z=>by rw[d]at z;cases z⟩
 keep:=λi h V Q k=>Q.at λo e=>k it (by simp) o e
 item:=by
  intro X l m n hc i h_ s σ H E I hf Q q;subst l m n;obtain⟨xs,x,g,j⟩:=q;obtain⟨S,r,p,D⟩:=I.tuple g;obtain⟨u,F,G⟩:=r.get j;obtain⟨t,y,J',A,B,C⟩:=hf it (by simp);refine wpAny_pyNext_tuple_item Q (show s.heap.IsTuple a S.toArray from p) (x:=u) (by simpa using F) λV f L'=>?_;have M:Inv X h_ σ H { s with heap:=V }:=I.turned (t':=s.toks) (λb o R e=>(L'.2 b R).trans e) t y A B C;obtain⟨o,e,c,d⟩:=id f;exact⟨u,W,xK (s:={ s with heap:=V }) e c d cV ⟨x,H,M,G,⟨W,λys N=>by rw[I.qz N g];exact j⟩,f,λb R=>(hf b R).1⟩⟩
 done:=by
  intro X l m n hc i h_ s σ H E I hf Q q;subst l m n;obtain⟨xs,g,j⟩:=q;obtain⟨S,r,p,D⟩:=I.tuple g;obtain⟨t,y,J',A,B,C⟩:=hf it (by simp);have hl:=r.length;exact wpAny_pyNext_tuple_end (I.ok.hd hc) Q (show s.heap.IsTuple a S.toArray from p) (by simp;exact aa (af hl.symm) j) λV O'=>⟨W,I.turned (t':=s.toks) (λb o R e=>O' b o R e) t y A B C⟩
 self:=λ_ _ _ _ _ Q h=>wpAny_pyIter_tupleiter Q h
def E9{K:au}(it:aD)(lo:cx)(n:T):Turn P w K tg (Itr lo n) [it] it (λi h=>IsRangeIter h it (lo+(i:T) * 1) ((n:cx) - (i:T)) 1) where
 mem:=by simp
 obj:=λi h C b F=>by
  have e:b=it:=by simpa using F
  subst e
  exact⟨_,C,λv z=>by
   have u:Data.fields _=Data.cell v:=z
   cases u⟩
 keep:=λi h N C k=>k it (by simp) _ C
 item:=by
  intro X c d f R i S s σ H E I Q C g;subst c d f;obtain⟨j,l,x,m,p,q⟩:=Q it (by simp);have D:=Walks.range (prog:=X.prog) (w:=X.w) (I.ok.hd R) it lo 1 n;refine D.item i s _ _ g C λv N r y a G=>?_;obtain⟨t,rfl⟩:=y;have A:Inv X S σ H { s with heap:=N,toks:=r }:=I.turned (λb o F e=>G b o (by simpa using F) e) j l m p q;refine⟨_,W,xK (s:={ s with heap:=N,toks:=r }) (n:="range_iterator") a W rfl cV ⟨.int (lo+i),H,A,⟨t,?_⟩,⟨W,W⟩,a,λb F=>(Q b F).1⟩⟩;rw[Int.mul_one]
 done:=by
  intro X c d f R i S s σ H E I Q C g;subst c d f;obtain⟨j,l,x,m,p,q⟩:=Q it (by simp);exact PySem.wpAny_pyNext_range_end (I.ok.hd R) C (by have:n<=i:=g;omega) λN B=>⟨W,I.turned (t':=s.toks) (λb o F e=>B b o F e) j l m p q⟩
 self:=λ_ _ _ _ _ C h=>PySem.wpAny_pyIter_rangeiter C h
section
variable{X:Cx}
def abQ(K:au)(g:TE):TI:=λc H R=>g c H λx b=>∃a,x=.ref a/\(∃d,pC K b a d)/\R (Itl K a) b
def aec(K:au)(g:TE):TI:=λc H R=>g c H λx b=>∃a,x=.ref a/\(∃d,vj K b a d)/\R (Itt K a) b
def HL(B:PE X l C):PI X tg l (abQ X.K C):=by
 intro n s r H R I h;refine jc (B n s r H _ I h) λv s1 y=>?_;obtain⟨x,d,c,f,g⟩:=y;refine ac λ_ m=>?_;obtain⟨a,rfl,⟨w,i⟩,q⟩:=g;cases f;obtain⟨t,j,p,k⟩:=c.list i;apply m;apply pY p.isList;refine⟨_,_,_,_,d,W,c.kept λb o e=>hp9 _ e,JS a _,⟨_,aC _ W,W,W⟩,λb u=>?_,q⟩;have e:b=s1.heap.objs.size:=by simpa using u
 subst e;exact c.vC (ao _) (c.hok.fresh (ao _))
def Nh(B:PE X l C):PI X tg l (aec X.K C):=by
 intro n s r H R I h;refine jc (B n s r H _ I h) λv s1 y=>?_;obtain⟨x,d,c,f,g⟩:=y;refine ac λ_ m=>?_;obtain⟨a,rfl,⟨w,i⟩,q⟩:=g;cases f;obtain⟨t,j,p,k⟩:=c.tuple i;apply m;apply hG (p);refine⟨_,_,_,_,d,W,c.kept λb o e=>hp9 _ e,E8 a _,⟨_,aC _ W,W,W⟩,λb u=>?_,q⟩;have e:b=s1.heap.objs.size:=by simpa using u
 subst e;exact c.vC (ao _) (c.hok.fresh (ao _))
def M0{lo:cx}(I:Inv X g σ H s)(y:-(2 ^ 62)<=lo)(C:lo<2 ^ 62)(F:-(2 ^ 62)<=hi)(B:hi<2 ^ 62)
  (q:R (Itr lo (hi - lo).toNat) H):aw (aq X.prog X.w) X.A (EK (.ref s.heap.objs.size)) (PIE X g σ tg R) E { s with heap:=s.heap.push { cls:=.type "range",data:=.fields #[.int lo t,.int hi u,.int 1 v] },toks:=P }:=by
 apply hH (PySem.IsRange.new ..) (small_one y C F B);have a:Inv X g σ H { s with heap:=s.heap.push { cls:=.type "range",data:=.fields #[.int lo t,.int hi u,.int 1 v] },toks:=P }:=I.kept λb o e=>hp9 _ e
 refine⟨(s.heap.push { cls:=.type _,data:=.fields _ }).objs.size,[(s.heap.push { cls:=.type _,data:=.fields _ }).objs.size],_,_,H,W,
  a.kept λb o e=>hp9 _ e,E9 _ lo _,?_,λb c=>?_,q⟩
 .have d:lo+((0:T)) * 1=lo:=by simp
  have f:(((hi - lo).toNat)) - ((0:T))=PySem.Builtin.Range.rangeSize lo hi 1:=by rw[rangeSize_one];split<;>grind
  rw[d,f];exact aC _ W
 .have e:b=(s.heap.push { cls:=.type "range",data:=.fields #[.int lo t,.int hi u,.int 1 v] }).objs.size:=by simpa using c
  subst e;exact a.vC (ao _) (a.hok.fresh (ao _))
def abO(O':TA):TI:=λb H R=>O' b H λc a=>∃j:cx,c=[.int j]/\-(2 ^ 62)<=j/\j<2 ^ 62/\R (Itr 0 j.toNat) a
def adk(y:TI)(g:TG)(tb:TS):TS:=λD d H=>y d H λk c=>∃j:T->T->St->Hp->Prop,(∃m,j 0 m d c)/\∀i m d H,j i m d H->
 (k.stop i H/\D.nx d H)\/(k.go i H/\∃N:St->Hp->Prop,(∀a e,N a e->∃b,b<m/\j (i+1) b a e)/\∀x e,k.yld i H x e->g x d e λf h=>tb { D with nx:=N,ct:=N,bk:=D.nx } f h)
noncomputable def nX(g:O aD)(h:bP):O (aD×lO):=g.filterMap λb=>(h.get? b).map λo=>(b,o)
def ph{h:bP}(g:b∈y)(e:h.get? b=Y o):(b,o)∈nX y h:=jh.mpr ⟨b,g,by rw[e];rfl⟩
def zH(g:p∈nX y h):p.1∈y/\h.get? p.1=Y p.2:=by
 obtain⟨b,c,e⟩:=jh.mp g
 cases q:h.get? b with
 |none=>rw[q]at e;cases e
 |some o=>
   rw[q]at e;have a :=bh e;clear e; subst a;exact⟨c,q⟩
def Inv.pinned(I:Inv X y σ H s)(C:∀b∈B,sk X y H b)(F:∀b∈B,∃o,s.heap.get? b=Y o/\∀v,o.data≠.cell v):Inv X (y++nX B s.heap) σ H s:=
 I.tj λp j=>(aH.mp j).elim (λz=>I.pin p (aB _ z)) λz=>by
  refine ac λ_ h=>?_;obtain⟨i,e⟩:=zH z;obtain⟨a,c,f,_⟩:=C _ i;obtain⟨o,g,d⟩:=F _ i
  apply h;simp_all
def Inv.oo(I:Inv X (g++pl) σ H s):Inv X g σ H s:=I.tj λp a=>I.pin p (aB _ (aJ _ a))
def M9{iter:aZ}{tb:TS}(hp:qO (aq X.prog X.w) X.A X.env X.xe)(hc:X.calm=U)(hi:PI X tg iter wi)(c3:PG X tg g)(hb:yY X body tb)
  (hs:∀x,eu iter X.env x=pure x):PS X (.For tg iter body [] pos) (adk wi g tb):=by
 intro h_ s σ H D I h;refine wpAny_For (jc (hi h_ s σ H _ I h) λv s1 h1=>jc h1 λitv s2 h2=>?_) hs;refine ac λ_ K=>?_;obtain⟨it,fp,tn,J',H2,rfl,S,T',E,O',e0,⟨m0,U'⟩,turn⟩:=h2;apply K;have c:∀{H':Hp},(∀b∈fp,H' b=L)->∀b∈fp,sk X h_ H' b:=λV b hb=>⟨V b hb,(O' b hb).2⟩
 refine codeAny_forLoop_any (λn s'=>∃i j H',Inv X h_ j H' s'/\tn i s'.heap/\(∀b∈fp,H' b=L)/\e0 i n j H') ?_ m0 ⟨0,σ,H2,S,E,λb hb=>(O' b hb).1,U'⟩;rintro n s3 ⟨i,k,C,P,y,z,e1⟩
 rcases turn i n k C e1 with⟨stop,qn⟩|⟨go,N,hN,step⟩
 .refine jO hp (jc (T'.done X W rfl rfl hc i h_ s3 k C _ P (c z) y stop) λr s4 q0=>?_);obtain⟨F,I4⟩:=q0;subst F;exact jP ⟨k,C,I4,qn⟩
 .refine jO hp (jc (T'.item X W rfl rfl hc i h_ s3 k C _ P (c z) y go) λr s4 z0=>?_);obtain⟨u,F,h4⟩:=z0;subst F;refine jO hp (jc h4 λ_ Q z1=>?_);refine ac λ_ kq=>?_;obtain⟨x,R,I5,r5,y5,t,G⟩:=z1;apply kq;refine jO hp (jc (c3 _ Q k R x u _ (I5.pinned (c G) (T'.obj _ _ t)) r5 (step x R y5)) λ_ s6 z7=>?_);refine ac λ_ kq=>?_;obtain⟨L',H6,I6,q6⟩:=z7;apply kq;refine jO hp (jc (hb _ s6 L' H6 _ I6 q6) λf M q=>?_)
  have again:∀{a:St}{l:Hp},Inv X (h_++nX fp _) a l M->N a l->∃m,m<n/\∃i j H',Inv X h_ j H' M/\tn i _/\(∀b∈fp,H' b=L)/\e0 i m j H':=λ{a l}p B=>by
   obtain⟨m',hm,w7⟩:=hN a l B;refine⟨m',hm,_,a,l,p.oo,T'.keep _ _ _ t λb hb o e=>(p.pin _ (aB _ (aB _ (ph hb e)))).1,λb hb=>?_,w7⟩;obtain⟨o,e,d⟩:=T'.obj _ _ t b hb;exact(p.pin _ (aB _ (aB _ (ph hb e)))).2.1
  cases f with
  |next=>obtain⟨a,l,p,B⟩:=q;exact again p B
  |cont=>obtain⟨a,l,p,B⟩:=q;exact again p B
  |brk=>obtain⟨a,l,p,q⟩:=q;exact⟨a,l,p.oo,q⟩
  |ret v=>refine ac λ_ K=>?_;obtain⟨x7,a,l,p,r7,q⟩:=q;apply K;exact⟨x7,a,l,p.oo,r7,q⟩
end
abbrev R2:=V->V->Hp->VK->Prop
def kR(X:Cx)(f:ai->ai->B3 ai)(r:R2):Prop:=
 ∀(a:O (aD×lO))(s:aj)(b:St)(H:Hp)(x y:V)(v u:ai)(Q:VK),Inv X a b H s->RelV x v->RelV y u->r x y H Q->
  aw (aq X.prog X.w) X.A (f v u) (EP X a b Q) X.xe s
def UnR(X:Cx)(f:ai->B3 ai)(r:V->Hp->VK->Prop):Prop:=
 ∀(a:O (aD×lO))(s:aj)(b:St)(H:Hp)(x:V)(v:ai)(Q:VK),Inv X a b H s->RelV x v->r x H Q->
  aw (aq X.prog X.w) X.A (f v) (EP X a b Q) X.xe s
def lX(X:Cx)(f:ai)(r:O V->Hp->VK->Prop):Prop:=
 ∀(a:O (aD×lO))(s:aj)(b:St)(H:Hp)(c:O V)(d:O ai)(Q:VK),Inv X a b H s->cX c d->r c H Q->
  aw (aq X.prog X.w) X.A (call f d) (EP X a b Q) X.xe s
def aeD(X:Cx)(r:V->Hp->(cc->Hp->Prop)->Prop):Prop:=
 ∀(a:O (aD×lO))(s:aj)(b:St)(H:Hp)(x:V)(v:ai)(Q:cc->Hp->Prop),Inv X a b H s->RelV x v->r x H Q->
  aw (aq X.prog X.w) X.A (truthy v) (TP X a b Q) X.xe s
def Vl(r:R2)(O' tb:TE):TE:=λb H Q=>O' b H λx a=>tb b a λy c=>r x y c Q
def tUn(r:V->Hp->VK->Prop)(O':TE):TE:=λb H Q=>O' b H λx a=>r x a Q
def rI(C:cx->cx->Prop)(g:cx->cx->V):R2:=λx y H Q=>∃i j,x=.int i/\y=.int j/\C i j/\Q (g i j) H
def Qk(g:cx->cx->V):R2:=λx y H Q=>∃i j,x=.int i/\y=.int j/\Q (g i j) H
def rU(g:cx->V):V->Hp->VK->Prop:=λx H Q=>∃i,x=.int i/\Q (g i) H
section
variable{X:Cx}{tb:TE}
def ZL(ha:PE X a ta)(hb:PE X b tb){S:O (aD×lO)}{s:aj}{C:St}{H:Hp}{R:V->V->Hp->Prop}(I:Inv X S C H s)
  (h:ta C H λx O'=>tb C O' λy F=>R x y F){Q:ai->aj->Prop}{f:ai->ai->B3 ai}
  (hf:∀v u s2 x y F,Inv X S C F s2->RelV x v->RelV y u->R x y F->aw (aq X.prog X.w) X.A (f v u) Q X.xe s2) :
  aw (aq X.prog X.w) X.A (eval a X.env) (λv P=>aw (aq X.prog X.w) X.A (eval b X.env) (λu B=>aw (aq X.prog X.w) X.A (f v u) Q X.xe B) X.xe P) X.xe s:=by
 refine jc (ha S s C H _ I h) λv s1 l=>?_;obtain⟨x,O',c,d,e⟩:=l;exact jc (hb S s1 C O' _ c e) λu s2 z=>by obtain⟨y,F,g,i,j⟩:=z;exact hf v u s2 x y F g d i j
def Vu(g:kR X (ea op) r)(ha:PE X a B)(C:PE X b tb):PE X (.BinOp a op b pos) (Vl r B tb):=by
 intro f s i H Q I h;exact wpAny_BinOp (ZL ha C I h λv u s2 x y j c d e q=>g f s2 i j x y v u Q c d e q)
def opI{f:ai->ai->B3 ai}{C:cx->cx->Prop}{g:cx->cx->cx}
  (rule:∀(i j:cx)(t u:JE)(s:aj)(Q:ai->aj->Prop)(E:ai->aj->Prop),C i j->Q (.int (g i j) s.toks) { s with toks:=s.toks+1 }->aw (aq X.prog X.w) X.A (f (.int i t) (.int j u)) Q E s) :
  kR X f (rI C λi j=>.int (g i j)):=by
 intro e s k H x y v u Q I a b h;obtain⟨i,j,rfl,rfl,c,q⟩:=h;obtain⟨t,rfl⟩:=a;obtain⟨d,rfl⟩:=b;exact rule i j t d s _ _ c ⟨.int _,H,I.tok _,⟨_,W⟩,q⟩
def Sq{f:ai->ai->B3 ai}{g:cx->cx->cx}
  (rule:∀(i j:cx)(t u:JE)(s:aj)(Q:ai->aj->Prop)(E:ai->aj->Prop),Q (.int (g i j) s.toks) { s with toks:=s.toks+1 }->aw (aq X.prog X.w) X.A (f (.int i t) (.int j u)) Q E s) :
  kR X f (Qk λi j=>.int (g i j)):=by
 intro d s e H x y v u Q I a b h;obtain⟨i,j,rfl,rfl,q⟩:=h;obtain⟨t,rfl⟩:=a;obtain⟨c,rfl⟩:=b;exact rule i j t c s _ _ ⟨.int _,H,I.tok _,⟨_,W⟩,q⟩
def abh{f:ai->ai->B3 ai}{g:cx->cx->cc}
  (rule:∀(i j:cx)(t u:JE)(s:aj)(Q:ai->aj->Prop)(E:ai->aj->Prop),Q (.bool (g i j)) s->aw (aq X.prog X.w) X.A (f (.int i t) (.int j u)) Q E s) :
  kR X f (Qk λi j=>.bl (g i j)):=by
 intro d s e H x y v u Q I a b h;obtain⟨i,j,rfl,rfl,q⟩:=h;obtain⟨t,rfl⟩:=a;obtain⟨c,rfl⟩:=b;exact rule i j t c s _ _ ⟨.bl _,H,I,W,q⟩
def acF(i j:cx):Prop:=0<j/\j<1073741824
def Le(i j:cx):Prop:=(-(2 ^ 64)<i/\i<2 ^ 64)\/(-(2 ^ 64)<j/\j<2 ^ 64)
def Le.ok(h:Le i j):IntMulOk i j:=by
 rcases h with⟨a,b⟩|⟨a,b⟩
 .exact .of_left (intBits_le_64 a b)
 .exact .of_right (intBits_le_64 a b)
def X8:kR X (ea .Add) (Qk λi j=>.int (i+j)):=Sq λ_ _ _ _ _ _ _ q=>add_int q
def XZ:kR X (ea .Mult) (rI Le λi j=>.int (i * j)):=opI λ_ _ _ _ _ _ _ a q=>mul_int q a.ok
def unI{f:ai->B3 ai}{g:cx->cx}
  (rule:∀(i:cx)(t:JE)(s:aj)(Q:ai->aj->Prop)(E:ai->aj->Prop),Q (.int (g i) s.toks) { s with toks:=s.toks+1 }->aw (aq X.prog X.w) X.A (f (.int i t)) Q E s) :
  UnR X f (rU λi=>.int (g i)):=by
 intro b s c H x v Q I a h;obtain⟨i,rfl,q⟩:=h;obtain⟨t,rfl⟩:=a;exact rule i t s _ _ ⟨.int _,H,I.tok _,⟨_,W⟩,q⟩
end
section
variable{b:aZ}{tb:TE}
def Gv(I:Inv X g σ H s)(q:Q (.bl k) H)(e:k=k'):EP X g σ Q (.bool k') s:=by
 subst e;exact⟨.bl k,H,I,W,q⟩
def Kp:kR X (dk .In) (λx y H Q=>∃i j,x=.str i/\y=.str j/\Q (.bl (!(jV j i 0 j.length 1).isEmpty)) H):=by
 intro d s e H x y v u Q I a c h;obtain⟨i,j,rfl,rfl,q⟩:=h;obtain⟨t,rfl⟩:=a;obtain⟨f,rfl⟩:=c;exact in_str (Gv I q W)
def X2:kR X (dk .Is) (λx y H Q=>y=.non/\Q (.bl (decide (x=.non))) H):=by
 intro d s e H x y v u Q I a c h;obtain⟨rfl,q⟩:=h;cases c;refine is_none_gen (Gv I q ?_)
 cases x<;>first
  |(cases a;rfl)
  |(obtain⟨t,rfl⟩:=a;rfl)
def Sf:kR X (dk .IsNot) (λx y H Q=>y=.non/\Q (.bl (!decide (x=.non))) H):=by
 intro d s e H x y v u Q I a c h;obtain⟨rfl,q⟩:=h;cases c;refine isnot_none_gen (Gv I q ?_)
 cases x<;>first
  |(cases a;rfl)
  |(obtain⟨t,rfl⟩:=a;rfl)
def aas(t:TE):TT:=λa H Q=>t a H λx c=>∃k,x=.bl k/\Q k c
def ZS(K:au)(x:V)(H:Hp)(k:cc):Prop:=
 match x with
 |.non=>k=J
 |.bl b=>k=b
 |.int i=>k=(i != 0)
 |.str y=>y.length<=aF/\k=((y.length:cx) != 0)
 |.byt y=>y.size<=aF/\k=((y.size:cx) != 0)
 |.ref p=>(∃a,pC K H p a/\k=!a.isEmpty)\/(∃a,vj K H p a/\k=!a.isEmpty)\/∃c,H p=Y (.dK c)/\k=!c.isEmpty
 |_=>False
def xG(r:cX xs its):(!its.toArray.isEmpty)=!xs.isEmpty:=by
 cases r<;>rfl
def uF:(aF:T)<2 ^ 63:=cV
def Md:aeD X (λx H Q=>∃k,ZS X.K x H k/\Q k H):=by
 intro w s A H x v Q I c h;obtain⟨k,e,q⟩:=h;have B :=eG
 cases x with
 |non=>
   cases c;subst e;exact truthy_none ⟨H,I,q⟩
 |bl b=>
   cases c;subst e;exact gp ⟨H,I,q⟩
 |int i=>
   obtain⟨t,rfl⟩:=c;subst e;exact PySem.P.truthy_int ⟨H,I,q⟩
 |str y=>
   obtain⟨t,rfl⟩:=c;obtain⟨f,rfl⟩:y.length<=aF/\k=((y.length:cx) != 0):=e;exact PySem.P.truthy_str (by omega) ⟨H,I.tok _,q⟩
 |byt y=>
   obtain⟨t,rfl⟩:=c;obtain⟨f,rfl⟩:y.size<=aF/\k=((y.size:cx) != 0):=e;exact PySem.W.truthy_bytes (aa f cV) ⟨H,I.tok _,q⟩
 |ref p=>
   cases c;have a :=e
   clear e; rcases a with⟨u,d,a⟩|⟨u,d,a⟩|⟨n,d,a⟩
   .subst a;obtain⟨o,r,pl,g⟩:=I.list d;have hlen:=r.length;exact wpAny_truthy_list pl.isList (by simp only[bB];omega) ⟨H,I.tok _,by rwa[xG r]⟩
   .subst a;obtain⟨o,r,pl,g⟩:=I.tuple d;have hlen:=r.length;exact truthy_tuple pl (by simp only[bB];omega) ⟨H,I.tok _,by rwa[xG r]⟩
   .subst a;obtain⟨g,j,l,r,m⟩:n.length<=aF/\(p == hB)=J/\∃l,KV n l/\s.heap.DictOf _ p l:=I.hok p _ d;have hlen :=y8 r;exact wpAny_truthy_dict j m (by omega) ⟨H,I.tok _,by rwa[(show (!l.isEmpty)=!n.isEmpty by cases r<;>rfl)]⟩
 |_=>exact(e).elim
def FU:kR X (ea .Add) (λx y H Q=>∃i j,x=.str i/\y=.str j/\i.length+j.length<=aF/\Q (.str (i++j)) H):=by
 intro g s k H x y v u Q I a c h;obtain⟨i,j,rfl,rfl,d,q⟩:=h;obtain⟨t,rfl⟩:=a;obtain⟨f,rfl⟩:=c;exact add_str (λf e=>⟨.str _,H,I.tok _,⟨_,W⟩,q⟩) d
def vals1(r:cX [x] us):∃u,us=[u]/\RelV x u:=by
 cases r with
 |cons a c=>cases c;exact⟨_,W,a⟩
def vals2(r:cX [x,y] us):∃u B,us=[u,B]/\RelV x u/\RelV y B:=by
 cases r with
 |cons a c=>
   cases c with
   |cons d e=>cases e;exact⟨_,_,W,a,d⟩
def K8:lX X (.type "int") (λxs H Q=>(∃i,xs=[.int i]/\Q (.int i) H)\/∃k,xs=[.bl k]/\Q (.int (if k then 1 else 0)) H):=by
 intro c s d H xs e Q I r h
 rcases h with⟨i,rfl,q⟩|⟨k,rfl,q⟩
 .obtain⟨u,rfl,t,rfl⟩:=vals1 r;exact call_int_int ⟨.int i,H,I,⟨_,W⟩,q⟩
 .obtain⟨u,rfl,a⟩:=vals1 r;clear r; cases a;exact call_int_bool ⟨.int _,H,I.tok _,⟨_,W⟩,q⟩
def Bx:lX X (.type "str") (λxs H Q=>∃i,xs=[.int i]/\i.natAbs.log2<1920/\Q (.str (toString i)) H):=by
 intro c s d H xs e Q I r h;obtain⟨i,rfl,a,q⟩:=h;obtain⟨u,rfl,t,rfl⟩:=vals1 r;exact PySem.P.str_of_int a ⟨.str _,H,I.tok _,⟨_,W⟩,q⟩
end
section
variable{K:au}
end
noncomputable def ur(f:aV)(v:V):O (aV×V)->O (aV×V)
 |[]=>[(f,v)]
 |(g,x)::r=>if g=f then(g,v)::r else(g,x)::ur f v r
def yX.some_of(r:yX (Y v) o):∃u,o=Y u/\RelV v u:=by
 cases o with
 |none=>exact(r).elim
 |some u=>exact⟨u,W,r⟩
section
end
section
end
section
end
section
end
structure i5(k:T)(A:bJ):Prop where
 hd:A.handled=L
 dp:A.depth+3 * k+5<recursionLimit
 un:A.units+16 * k+200<eC
def i5.deeper(r:i5 (k+1) A)(env:B6):i5 k (A.deeper env):=
 ⟨r.hd,by refine (?_ : A.depth+1+3 * k+5<_);exact jj r.dp,by exact jj r.un⟩
def i5.depth(r:i5 k A):A.depth<recursionLimit:=jj r.dp
def i5.units(r:i5 k A):A.units+64<eC:=jj r.un
def aav:TA:=λ_ H Q=>Q [] H
def aax(O':TE)(g:TA):TA:=λb H Q=>O' b H λx a=>g b a λc d=>Q (x::c) d
section
variable{t:TA}
def AW:PA X [] aav:=λ_ _ _ _ H Q I h=>ud ⟨[],H,I,.nil,h⟩
def o9(ha:PE X e y)(B:PA X es t)(hs:aN (e::es) X.env=(J,eval e X.env)::aN es X.env:=by rfl):PA X (e::es) (aax y t):=by
 intro m j s k H Q I h;rw[hs];exact JI (jc (ha j s k H _ I h) λu s1 l=>by obtain⟨x,a,b,c,d⟩:=l;exact jc (B _ j s1 k a _ b d) λo s2 v=>by obtain⟨p,n,f,g,i⟩:=v;exact⟨_,n,f,.cons c g,i⟩)
def adf(t:TA):TE:=λc H Q=>t c H λb a=>Z b<=aF/\∀p,a p=L->Q (.ref p) (upd a p (.tup b))
def adj(t:TA):TE:=λc H Q=>t c H λb a=>Z b<=aF/\∀p,a p=L->Q (.ref p) (upd a p (.lst b))
end
abbrev Sp:=O V->Hp->VK->XK->Prop
abbrev U4:=O B6->Hp->aj->XK->ai->aj->Prop
structure iO(P:ck)(w:cW)(K:au)(mg:aV->a5 ai)(base:bP)(A:bJ)(outer:O B6)(s:aj)(H:Hp):Prop where
 frames:A.frames=Y outer
 mod:Mod K mg base
 bs:∀b o,base.get? b=Y o->s.heap.get? b=Y o/\H b=L
 bsz:base.objs.size<=s.heap.objs.size
 rW:s.heap.FunFrames base outer
 frf:∀b∈pP outer,H b=L
 hok:sH P w H s.heap
 bare:mn s.gens
def CE(outer:O B6)(P:ck)(w:cW)(H:Hp)(s:aj)(Q:VK)(u:ai)(g:aj):Prop:=
 ∃v a,g.os=s.os/\mn g.gens/\Un (pP outer) [] H a s.heap g.heap/\sH P w a g.heap/\RelV v u/\Q v a
def CR(y:U4)(outer:O B6)(P:ck)(w:cW)(H:Hp)(s:aj)(Q:VK)(E:XK)(r:Result)(g:aj):Prop:=
 match r with
 |.ok (.ret u)=>CE outer P w H s Q u g
 |.ok _=>False
 |.error e=>y outer H s E e g
structure jt(P:ck)(w:cW)(K:au)(mg:aV->a5 ai)(base:bP)(CX:U4)(k:T)(f:aD)(fd:iR)(ps:O aV)(sp:Sp):Prop where
 len:∀vs H Q E,sp vs H Q E->Z vs=Z ps
 run:∀(A:bJ)(outer:O B6)(s:aj)(H:Hp)(args:Args)(us:O ai)(vs:O V)(Q:VK)(E:XK),i5 k A->iO P w K mg base A outer s H->Eo s fd args (ps.zip us)->cX vs us->sp vs H Q E->
  eH (aq P w) A (.call (.ref f) args) (CR CX outer P w H s Q E) s
def jt.imp{K:au}{base:bP}(F:jt P w K B base C k f fd I sp)
  (h:∀g H Q E,y g H Q E->sp g H Q E):jt P w K B base C k f fd I y:=
 ⟨λg H Q E q=>F.len g H Q E (h _ _ _ _ q),λA outer s H args c g Q E a d e b i=>F.run A _ s H _ c g Q E a d e b (h _ _ _ _ i)⟩
section
def Inv.Zh(I:Inv X g σ H s):iO X.prog X.w X.K X.mg X.base X.A X.stack s H:=
 ⟨I.ok.frames,I.ok.mod,I.bs,aa I.ok.bsz I.sz,I.stack,I.AB,I.hok,I.bare⟩
def Inv.after(I:Inv X B σ H s)(h:CE X.stack X.prog X.w H s Q u y):EP X B σ Q u y:=by
 obtain⟨v,e,f,bare,i,c,r,q⟩:=h;obtain⟨j,g,d,t,a⟩:=y;obtain rfl:a=s.os:=f;exact⟨v,e,I.call i c bare (λb z=>absurd z (by simp)),r,q⟩
end
def Ml(sp:Sp)(O':O V)(E:XK)(t:TA):TE:=λb H Q=>t b H λc a=>sp (c++O') a Q E
def Binds(K:au)(y:iR)(g:O aV)(ds:O ai):Prop:=
 ∀(s:aj)(a:O ai),K.In s.heap->Z (a++ds)=Z g->Eo s y ⟨a,[]⟩ (g.zip (a++ds))
def Binds.all{K:au}{y:O aV}(h:∀g:O ai,Z g=Z y->gw fd ⟨g,[]⟩=pure (y.zip g)):Binds K fd y []:=λs g _ a=>by
 rw[aW]at a ⊢;exact .of_eq (h g a)
def qx(g:U4)(X:Cx)(E:XK):Prop:=∀(b:O (aD×lO))(c:St)(H:Hp)(s:aj)(e:ai)(a:aj),Inv X b c H s->g X.stack H s E e a->X.xe e a
section
variable{X:Cx}{f C:aD}
def MP(F:jt X.prog X.w X.K X.mg X.base P k f fd R sp)(B:i5 k X.A)(S:Binds X.K fd R ds)(hd:cX g ds)(O':qx P X E)
  (I:Inv X y σ H s)(r:cX vs us)(h:sp (vs++g) H Q E):aw (aq X.prog X.w) X.A (call (.ref f) us) (EP X y σ Q) X.xe s:=by
 have b :=r.append hd;refine wpAny_call (iQ (F.run _ _ s H _ _ _ Q E B I.Zh (S s us I.xE (by rw[<-b.length];exact F.len _ _ _ _ h)) b h) λr c a=>?_)
 cases r with
 |error e=>exact O' y σ H s e c I a
 |ok d=>
   cases d with
   |ret u=>exact I.after a
   |next=>exact bK a
   |brk=>exact bK a
   |cont=>exact bK a
def AV(F:jt X.prog X.w X.K X.mg X.base y k f fd P sp)(c3:i5 k X.A)(e0:Gl X x)(R:X.mg x=Y (.ref f))(S:dJ X.K (.ref f)=U)(hb:Binds X.K fd P ds)(hd:cX g ds)(hx:qx y X E)
  (ha:PA X (e::es) t)(B:(x == ("__debug__":aV))=J)(he:aN (e::es) X.env=(J,eval e X.env)::aN es X.env)(O':(eI pos (aN es X.env)).any (·.1)=J) :
  PE X (.Call (.Name x p) (e::es) [] pos) (Ml sp g E t):=by
 intro d s i H Q I h;refine eV (qH I e0 R ?_ B);exact PySem.W.callWith_K I.ok.mod.kin S (jc (ha _ d s i H _ I h) λj s1 c=>by obtain⟨l,b,a,r,q⟩:=c;exact⟨a.xE,(MP F c3 hb hd hx a r q)⟩) he O'
structure Mk(K:au)(C f:aD):Prop where
 makes:PySem.W.makesIn K C=U
 init:mM K (.ref C) "__init__"=Y (Y (.ref f))
 fn:sO K (.ref f)=U
 kp:dJ K (.ref C)=U
end
section
end
structure mG(N P:O aV)(sc:n9):Prop where
 kind:sc.kind=.function
 co:sc.isCoroutine=J
 gen:sc.isGenerator=J
 nd:N.Nodup
 pre:N.take (Z P)=P
 par:∀x∈P,sc.names.lookup x=Y .local\/sc.names.lookup x=Y .cell
 nofree:∀y∈sc.names,y.2≠.free
theorem Ae{kindOf:aV->a5 mj}:∀{binds:O (aV×ai)}{m:aV->a5 ai},(∀v,(x,v)∉binds)->l6 kindOf binds m x=m x
 |[],_,_=>rfl
 |(n,v)::r,m,h=>by
   unfold l6;rw[Ae λw a=>h w (jU _ a)];split
   .grind
   .rfl
theorem Ag{kindOf:aV->a5 mj}:∀{binds:O (aV×ai)}{m:aV->a5 ai},(∀v,(x,v)∉binds)->l_ kindOf binds m x=m x
 |[],_,_=>rfl
 |(n,v)::r,m,h=>by
   unfold l_;rw[Ag λw a=>h w (jU _ a)];split
   .rfl
   grind
theorem Af{kindOf:aV->a5 mj}:∀{P:O aV} {g:O ai} {i:T} {m:aV->a5 ai},P.Nodup->P[i]?=Y x->g[i]?=Y v->kindOf x=Y .local->
  l6 kindOf (P.zip g) m x=Y v
 |[],_,_,_,_,h,_,_=>by simp at h
 |_::_,[],_,_,_,_,h,_=>by simp at h
 |p::P,w::g,0,m,d,b,c,e=>by
   simp at b c;subst b;subst c;show l6 _ ((p,w)::P.zip g) m p=_;unfold l6;rw[Ae λv a=>(a6.mp d).1 (jv a).1,cb e];simp
 |p::P,w::g,i+1,m,d,b,c,e=>by
   show l6 _ ((p,w)::P.zip g) m x=_;exact Af (a6.mp d).2 (by simpa using b) (by simpa using c) e
theorem Ah{kindOf:aV->a5 mj}:∀{P:O aV} {g:O ai} {i:T} {m:aV->a5 ai},P.Nodup->P[i]?=Y x->g[i]?=Y v->kindOf x≠Y .local->
  l_ kindOf (P.zip g) m x=Y v
 |[],_,_,_,_,h,_,_=>by simp at h
 |_::_,[],_,_,_,_,h,_=>by simp at h
 |p::P,w::g,0,m,d,b,c,e=>by
   simp at b c;subst b;subst c;show l_ _ ((p,w)::P.zip g) m p=_;unfold l_;rw[Ag λv a=>(a6.mp d).1 (jv a).1,cv e];simp
 |p::P,w::g,i+1,m,d,b,c,e=>by
   show l_ _ ((p,w)::P.zip g) m x=_;exact Ah (a6.mp d).2 (by simpa using b) (by simpa using c) e
noncomputable def start(N:O aV)(g:O V):St:=g.map Y++bH (Z N - Z g) L
noncomputable def kQ(g:U4)(P:ck)(w:cW)(K:au)(mg:aV->a5 ai)(base:bP)(N:O aV)(qual:aV)(scope:n9)(f:aD)(O':ai)(A:bJ)(outer:O B6)(s:aj)(H:Hp)(E:XK):Cx where
 prog:=P
 w:=w
 K:=K
 mg:=mg
 base:=base
 A:=A.deeper (fe qual scope s.heap.objs.size f O')
 N:=N
 s₀:=s
 H₀:=H
 env:=fe qual scope s.heap.objs.size f O'
 outer:=outer
 stack:=fe qual scope s.heap.objs.size f O'::outer
 ex:=[]
 calm:=U
 fn:=λ_=>U
 pn:=[]
 xe:=λe c=>aw (aq P w) (A.deeper (fe qual scope s.heap.objs.size f O')) (kn (fe qual scope s.heap.objs.size f O') e) (λ_ a=>g outer H s E e a) (λb a=>g outer H s E b a) c
def OS{K:au}{base:bP}{kV:ai}
  (c3:K.lookup f=Y ⟨oc,od,.func (oW name qual params body scope dV kV doc pm an F ct),osl⟩)(O':p8 K F qual=U)(S:mG N ps scope)
  (len:∀I H Q E,sp I H Q E->Z I=Z ps)
  (B:∀(A:bJ)(outer:O B6)(s:aj)(H:Hp)(I:O V)(Q:VK)(E:XK),i5 k (A.deeper (fe qual scope s.heap.objs.size f F))->sp I H Q E->
   ∃t,yY (kQ CX P w K mg base N qual scope f F A outer s H E) body t/\t { nx:=λ_ R=>Q .non R,rt:=Q } (start N I) H) :
  jt P w K mg base CX (k+1) f (oW name qual params body scope dV kV doc pm an F ct) ps sp:=by
 refine⟨len,λA outer s H args us I Q E h d hb r g=>?_⟩;have l :=d.mod.kin.keeps λb o e=>(d.bs b o e).1;have c:∀y∈ps.zip us,scope.names.lookup _=Y _\/(scope.names.lookup _=Y _/\((cellsFrom (s.heap.objs.size+1) _ []).lookup _).isSome=U):=λm p=>by
  rcases S.par _ (jv p).1 with q|q
  .exact .inl q
  .exact .inr ⟨q,Am _ _ _ (.inl q)⟩
 refine codeAny_call_function h.depth (l _ _ c3) W S.co S.gen W (PySem.W.codeRec_of l O') (hb _ _ _ _ ?_);refine wpAny_newFunctionEnv_cells S.kind c λenv he s1 x=>?_;clear c3 O' hb; subst he;refine⟨(d.mod.nolimit.keeps λb o e=>(d.bs b o e).1).keeps x.toInCall.keep,codeAny_func ?_⟩;obtain⟨t,ht,z⟩:=B A _ s H I Q E (h.deeper _) g;refine bC (ht [] s1 _ H _ (by
  have hl:=(len _ _ _ _ g);obtain⟨h1,n,rfl,hk⟩:=x.done;have a:∀b:aD,b∉(kQ CX P w K mg base N qual scope f F A outer s H E).ex:=λb z=>absurd (show b∈([])from z) (by simp)
  refine⟨⟨d.mod,S.kind,W,W,ao _,λy z c h1 X=>(name_of_addr x.apart (iP h1) (iP X)),λy C=>?_,λy c _ o=>(aK (x.above y c (iP o))),λ_=>h.hd,Around.frames_deeper d.frames,.inr ⟨W,W⟩,λb z=>absurd z (a b),d.bs,d.bsz,λb _ _=>a b,λb z=>absurd z (a b),d.rW,d.frf⟩,
   rfl,d.bare,Un.kept hk,⟨_,x.toInCall.ns,λi y v h1 X h3=>?_⟩,λy c o=>⟨_,x.cell y c o⟩,d.hok.fresh (ao _),λy c o=>(d.hok.fresh (aK (x.above y c (iP o)))),λp hp=>absurd (show p∈([])from hp) (by simp),d.hok.kept hk,?_⟩
  .rcases C with C|C
   .exact iw.mp (Am _ _ [] (.inl C))
   .exact absurd rfl (S.nofree _ (iP C))
  .have hi:i<Z I:=by
    unfold start at X;by_cases hi:i<Z I
    .exact hi
    .rw[aG (by simpa using hi)]at X;rw[cO]at X
     simp_all
   have ha:I[i]?=Y v:=by
    unfold start at X;rw[aO (by simpa using hi),aS]at X
    simp_all
   obtain⟨u,l,m⟩:=r.get ha
   have hp:ps[i]?=Y y:=by
    rwa[<-S.pre,List.getElem?_take_of_lt (aa hi (af hl))]
   have j:ps.Nodup:=by rw[<-S.pre];exact S.nd.sublist (jD _ _)
   refine⟨u,m,?_⟩
   rcases S.par y (aY hp)with k|k
   .exact .inl ⟨k,Af j hp l k⟩
   .obtain⟨c,e⟩:=(iw.mp (Am _ _ [] (.inl k)));refine .inr ⟨.inl k,c,e,?_⟩;have q:=x.cell y c e;rwa[Ah j hp l (by show scope.names.lookup y≠_;rw[k];decide)]at q
  .unfold start;rw[aL,aE,gW];exact iF (aa (af hl) (by have:=c7 iD S.pre;rw[fL]at this;exact aa (af this.symm) (pS _ _)))) z) (λM G hs=>?_) λe G hs=>hs
 have fin:∀{a:St}{R:Hp}{v:V}{u:ai},Inv (kQ CX P w K mg base N qual scope f F A outer s H E) [] a R G->RelV v u->Q v R->CE _ P w H s Q u G:=
  λ{a R v u}D j q=>⟨v,R,D.os,D.bare,D.base,D.hok,j,q⟩
 cases M with
 |ret u=>
   obtain⟨v,a,R,D,j,q⟩:=hs;exact fin D j q
 |next=>
   obtain⟨a,R,D,q⟩:=hs;exact fin (v:=V.non) D W q
 |brk=>
   obtain⟨_,_,_,q⟩:=hs;exact bK q
 |cont=>
   obtain⟨_,_,_,q⟩:=hs;exact bK q
section
variable{t:TA}{id T':et}{r:O V->Hp->VK->Prop}
def tCB(r:O V->Hp->VK->Prop)(t:TA):TE:=λb H Q=>t b H λc a=>r c a Q
def xj(y:lX X (.builtin id) r)(P:Gl X x)(R:X.mg x=L)(hv:dt x=Y (.builtin id))(ha:PA X (e::es) t)(C:x≠"__name__")(B:(x == ("__debug__":aV))=J)
  (F:aN (e::es) X.env=(J,eval e X.env)::aN es X.env)(O':(eI pos (aN es X.env)).any (·.1)=J):PE X (.Call (.Name x p) (e::es) [] pos) (tCB r t):=by
 intro f s i H Q I h;exact eV (mx I P R hv (qV (jc (ha _ f s i H _ I h) λj s1 g=>by obtain⟨k,a,b,c,d⟩:=g;exact y f s1 i a k j Q b c d) F O') C B)
end
end L2
namespace HT
section
open PySem.SeqAt
open PySem.AutoSeq1 (wpAny_loadPart')
open PySem.MeetsSeq PySem.MeetsSeq2 PySem.MeetsSeq3
end
section
variable{s:aj}
def Uv{y ws:O ai}(C:BR s.heap t y.toArray)(F:BR s.heap b ws.toArray)(B:y≠[])
  (I:ws=[]->Q (.ref t) s)(P:ws≠[]->Q (.ref s.heap.objs.size) { s with heap:=s.heap.push { cls:=.type "tuple",data:=.seq (y++ws).toArray } })
  (hsz:Z y+Z ws<=aF):aw (aq prog w) A (ea .Add (.ref t) (.ref b)) Q E s:=by
 refine ac λ_ k=>?_;obtain⟨⟨cls,h,data,sl⟩,l,m,n,o⟩:=id C;obtain⟨⟨i,c,data2,zw⟩,a,f,j,g⟩:=id F;subst m o f g;apply k;have e:y.toArray++ws.toArray=(y++ws).toArray:=by simp
 by_cases d:ws=[]
 .exact yB ⟨_,l,W⟩ ⟨_,a,W⟩ Al JB oX oi (nR _ _)
   (tuple_addW1 t b _ _ n j h c sl zw (by simpa using B) (by simp[d])) ⟨l,a,I d⟩
 .refine yB ⟨_,l,W⟩ ⟨_,a,W⟩ Al JB oX oi (nR _ _)
   (tuple_addW2 t b _ _ n j h c sl zw (by simpa using B) (by simpa using d) (by exact hsz)) ⟨l,a,?_⟩
  rw[e];exact P d
noncomputable def j8(n d:T):a5 cx->T
 |none=>d
 |some v=>if v<0 then(v+(n:cx)).toNat else min v.toNat n
def CF(n d:T):j8 n d L=d:=rfl
def Xo(n d:T)(g:d<=n)(o:a5 cx):j8 n d o<=n:=by
 cases o with
 |none=>exact g
 |some v=>
   show(if v<0 then(v+(n)).toNat else min _ n)<=n;by_cases a:v<0
   .rw[cb a];grind
   .rw[cv a];exact pS _ _
def Ji(v:cx)(n d:T):(if v<0 then max (v+(n:cx)) 0 else min v (n:cx))=((j8 n d (Y v):T):cx):=by
 show(if v<0 then max _ 0 else min v _)=(((if v<0 then(v+(n)).toNat else min _ n):T))
 grind
def cl9(i:cx)(n:T):max 0 (min (if i<0 then i+(n:cx) else i) (n:cx))=if i<0 then max (i+(n:cx)) 0 else min i (n:cx):=by
 split
 .rw[Int.min_eq_left (by grind),Int.max_comm]
 .exact Int.max_eq_right (Int.le_min.mpr ⟨by simp_all,fY _⟩)
def FN(i j:T):ju (i:cx) (j:cx) 1=j - i:=by
 unfold ju;rw[cb (by decide)];split
 .rw[Int.ediv_one];simp
 .simp_all
def wK(p:ub v o)(h:Q o s):aw (aq prog w) A (Builtin.Slice.slicePartIndex v) Q E s:=by
 cases p with
 |none=>exact slicePart_none h
 |int i t=>exact slicePart_int h
def ou{sl:aD}{B O':ai}{lo hi:a5 cx}{n:T}{Q:cx×cx×T->aj->Prop}(hs:s.heap.IsSliceOf sl B O' .none)(pl:ub B lo)(g:ub O' hi)
  (h:Q (((j8 n 0 lo:T):cx),1,j8 n n hi - j8 n 0 lo) s):aw (aq prog w) A (Builtin.Slice.sliceApplied (.ref sl) (pure (n:cx))) Q E s:=by
 obtain⟨d,a,c,b⟩:=id hs;refine wb9 (wb9 (cD a b (x:=B) W (wb9 (cD a b (x:=O') W (wb9 (cD a b W (wu9 ?_)))))));refine wb9 (slicePart_none ?_);refine wb9 (wK pl (wb9 (wK g (wb9 (wu9 ?_)))));show aw _ _ (match tW lo hi 1 (n)with|(lo,hi)=>pure (lo,(1:cx),ju lo hi 1)) _ _ s;rw[(show tW lo hi 1 _=(((j8 n 0 lo:T):cx),((j8 n n hi:T):cx)) by
  refine G7 ?_ ?_
  .cases lo with
   |none=>rfl
   |some v=>exact Ji v n 0
  .cases hi with
   |none=>rfl
   |some v=>exact Ji v n n)];show aw _ _ (pure _) _ _ s;rw[FN];exact wu9 h
def Ng(xs:c4 ai)(i k:T):((aR k).filterMap λ(m:T)=>xs[((i:cx)+(m:cx) * 1).toNat]?).toArray=((xs.toList.drop i).take k).toArray:=by
 have e:(λ(m:T)=>xs[((i:cx)+(m) * 1).toNat]?)=λm=>xs[i+m]? :=by
  funext m
  grind
 rw[e];have:=pick_run xs i k;have a:((λx=>xs[x]?) ∘ λx=>i+x)=λm=>xs[i+m]? :=rfl
 simp_all
def tK{sl:aD}{lo:a5 cx}(g:BR s.heap t items)(hs:s.heap.IsSliceOf sl y C .none)(pl:ub y lo)(B:ub C hi)
  (O':¬(j8 items.size 0 lo=0/\j8 items.size items.size hi=items.size))
  (h:Q (.ref s.heap.objs.size) { s with heap:=s.heap.push { cls:=.type "tuple",data:=.seq ((items.toList.drop (j8 items.size 0 lo)).take (j8 items.size items.size hi - j8 items.size 0 lo)).toArray } })
  (hsz:items.size<=aF):aw (aq prog w) A (gk (.ref t) (.ref sl)) Q E s:=by
 have a:sizeOk (.seq ((items.toList.drop (j8 items.size 0 lo)).take (j8 items.size items.size hi - j8 items.size 0 lo)).toArray):=by
  show((items.toList.drop (j8 _ 0 lo)).take (j8 _ _ hi - j8 _ 0 lo)).toArray.size<=aF;rw[bB,fL,jW,bo];exact aa (pS _ _) (aa (p9 _ _) hsz)
 obtain⟨d,b,c,f⟩:=id hs;unfold gk
 try with_reducible apply bQ
 first|grind|skip
 refine wb9 (hO g.typeIs cV ?_)
 refine wb9 (cR g.typeIs dR
  (bY dR g.typeIs gU ?_ (hI _ _)))
 show aw _ _ (lP _ >>= _) _ _ s;refine wb9 (tupleItemsOf_ g ?_);refine wb9 (jC ⟨d,b,c⟩ ?_);refine wb9 (ou hs pl B ?_)
 have e:¬((((j8 items.size 0 lo):cx) == 0 && (1:cx) == 1 && (j8 items.size items.size hi - j8 items.size 0 lo) == items.size)=U):=by
  simp_all
 show aw _ _ (if(((j8 _ 0 lo):cx) == 0 && (1) == 1 && (j8 _ _ hi - j8 _ 0 lo) == items.size)=U then _ else _) _ _ s;rw[cv e,Ng]
 first
  |exact wb9 (dI (wu9 ⟨_,rfl,wu9 h⟩) a)
  |simp
  |simp
  |simp
end
end HT
namespace L2
abbrev TO:=St->Hp->(a5 cx->Hp->Prop)->Prop
def PO(X:Cx)(e:a5 aZ)(t:TO):Prop:=
 ∀(b:O (aD×lO))(s:aj)(a:St)(H:Hp)(Q:a5 cx->Hp->Prop),Inv X b a H s->t a H Q->
  aw (aq X.prog X.w) X.A (evalPart e X.env) (λu d=>∃o c,Inv X b a c d/\ub u o/\Q o c) X.xe s
def Q2:TO:=λ_ H Q=>Q L H
def aau(t:TE):TO:=λb H Q=>t b H λx a=>∃i,x=.int i/\Q (Y i) a
section
variable{X:Cx}{te:TE}{lo hi:a5 aZ}{tl th:TO}
def SlR(X:Cx)(r:V->a5 cx->a5 cx->Hp->VK->Prop):Prop:=
 ∀(d:O (aD×lO))(s:aj)(e:St)(H:Hp)(x:V)(v a b:ai)(lo hi:a5 cx)(sl:aD)(Q:VK),Inv X d e H s->RelV x v->s.heap.IsSliceOf sl a b .none->ub a lo->ub b hi->r x lo hi H Q->
  ∃T' c,typeLookup (.type T') "__getitem__"=pure (Y (.builtin c))/\s.TypeIs v T'/\aw (aq X.prog X.w) X.A (gk v (.ref sl)) (EP X d e Q) X.xe s
def tSl(r:V->a5 cx->a5 cx->Hp->VK->Prop)(te:TE)(tl th:TO):TE:=λc H Q=>te c H λx a=>tl c a λl d=>th c d λu b=>r x l u b Q
def Nm(B:SlR X r)(F:PE X e te)(P:PO X lo tl)(O':PO X hi th):PE X (.Subscript e (.Slice lo hi L R) pos) (tSl r te tl th):=by
 intro t s C H Q I h;refine Subscript_ (jc (F t s C H _ I h) λv s1 D=>?_);obtain⟨x,f,g,i,j⟩:=D;refine wpAny_Slice (jc (P t s1 C f _ g j) λa s2 ⟨l,E,k,pl,m⟩=>jc (O' t s2 C E _ k m) λc s3 G=>?_);obtain⟨u,d,n,o,p⟩:=G;apply wu9;obtain⟨T',A,w,K,y⟩:=B t { s3 with heap:=s3.heap.push { cls:=.type _,data:=.fields _ } } C d x v a c l u _ Q (n.kept λb z q=>hp9 _ q) i (Heap.IsSliceOf.new ..) pl o p;exact Qz K w y (by with_unfolding_all rfl)
def GI(xs:O V)(lo hi:a5 cx):O V:=(xs.drop (HT.j8 xs.length 0 lo)).take (HT.j8 xs.length xs.length hi - HT.j8 xs.length 0 lo)
def adz(K:au):V->a5 cx->a5 cx->Hp->VK->Prop:=λx lo hi H Q=>∃a b,x=.ref a/\vj K H a b/\
 ¬(HT.j8 b.length 0 lo=0/\HT.j8 b.length b.length hi=Z b)/\∀p,H p=L->Q (.ref p) (upd H p (.tup (GI b lo hi)))
def WW:SlR X (adz X.K):=by
 intro t s u H x v i j lo hi sl Q I d o pl e h;refine ac λ_ l=>?_;obtain⟨a,p,rfl,f,g,q⟩:=h;cases d;obtain⟨m,r,n,c⟩:=I.tuple f;apply l;have hlen:m.toArray.size=Z p:=by exact r.length.symm
 refine⟨_,_,dR.lookup,n.typeIs,?_⟩;refine HT.tK n o pl e (by rwa[hlen]) ?_ (by rwa[hlen]);rw[hlen];refine⟨.ref _,_,I.laid (λb k q=>hp9 _ q) (ao _) ?_,W,q _ (I.hok.fresh (ao _))⟩;exact⟨aa (by unfold GI;rw[fL,jW];exact aa (pS _ _) (p9 _ _)) c,_,(r.drop _).take _,LJ _ _⟩
def aa3(K:au):R2:=λx y H Q=>∃a b d c,x=.ref a/\y=.ref b/\vj K H a d/\vj K H b c/\d≠[]/\Z d+Z c<=aF/\
 (c=[]->Q (.ref a) H)/\(c≠[]->∀p,H p=L->Q (.ref p) (upd H p (.tup (d++c))))
def cX.AZ(r:cX xs us):us=[]↔xs=[]:=by
 cases r with
 |nil=>simp
 |cons _ _=>simp
def Sl:kR X (ea .Add) (aa3 X.K):=by
 intro B s C H x y v u Q I e f h;refine ac λ_ p=>?_;obtain⟨a,b,E,F,rfl,rfl,r,t,g,i,j,k⟩:=h;cases e;cases f;obtain⟨A,d,l,_⟩:=I.tuple r;obtain⟨n,c,m,_⟩:=I.tuple t;apply p;refine HT.Uv l m (λz=>g (d.AZ.mp z)) (λz=>⟨.ref a,H,I,W,j (c.AZ.mp z)⟩) (λz=>?_) (by rwa[<-d.length,<-c.length]);refine⟨.ref _,_,I.laid (λb o q=>hp9 _ q) (ao _) ?_,W,k (λw=>z (c.AZ.mpr w)) _ (I.hok.fresh (ao _))⟩;exact⟨by simp_all,_,d.append c,LJ _ _⟩
end
noncomputable def yQ(n:T)(i:cx):a5 T:=if 0<=i then(if i<n then Y i.toNat else L)else if -(n:cx)<=i then Y (i+n).toNat else L
def yV{α:Type}(xs:O α)(i:cx):a5 α:=(yQ xs.length i).bind λj=>xs[j]?
def Bg(h:yQ n i=Y j):hU i n=Y j/\j<n/\-(n:cx)<=i/\i<n:=by
 unfold yQ at h;by_cases b:0<=i
 .rw[cb b]at h;by_cases a:i<n
  .rw[cb a]at h;have e :=bh h;exact⟨by rw[Qr b a,e],by omega,by omega,a⟩
  simp_all
 .rw[cv b]at h;by_cases a:-(n)<=i
  .rw[cb a]at h;have e :=bh h;exact⟨by rw[LC (nV.mp b) a,e],by omega,a,gH (nV.mp b) (fY _)⟩
  simp_all
def BF (h:yV xs i=Y v):∃j,hU i (Z xs)=Y j/\xs[j]?=Y v/\j<Z xs/\-(xs.length:cx)<=i/\i<Z xs:=by
 unfold yV at h
 cases e:yQ _ i with
 |none=>rw[e]at h;cases h
 |some j=>
   rw[e]at h;obtain⟨b,c,d,a⟩:=Bg e;exact⟨j,b,h,c,d,a⟩
def lN{α:Type}{xs:O α}{j:T}{v:α}(h:xs[j]?=Y v):yV xs (j:cx)=Y v:=by
 have a :=(aM.mp h).1
 have e:yQ xs.length (j)=Y j:=by
  unfold yQ
  simp_all
 unfold yV;rwa[e]
def BJ(b:aZ):Prop:=∀o i,subscripted b J o i=operate [o,i] (gk o i)
def ZZ(X:Cx)(r:R2):Prop:=
 ∀(value slice:aZ)(a:O (aD×lO))(s:aj)(b:St)(H:Hp)(x y:V)(v u:ai)(Q:VK),Inv X a b H s->RelV x v->RelV y u->r x y H Q->
  subscripted slice J v u=operate [v,u] (gk v u)->aw (aq X.prog X.w) X.A (subscriptTail value slice v u) (EP X a b Q) X.xe s
def U0(X:Cx)(O':et)(r:V->O V->Hp->VK->Prop):Prop:=
 ∀(a:O (aD×lO))(s:aj)(b:St)(H:Hp)(x:V)(c:O V)(v:ai)(d:O ai)(Q:VK),Inv X a b H s->RelV x v->cX c d->r x c H Q->
  aw (aq X.prog X.w) X.A (call (.builtin O') (v::d)) (EP X a b Q) X.xe s
section
variable{a:aZ}{tb:TE}
def HP(B:ZZ X r)(ha:PE X a g)(C:PE X b tb)(hs:BJ b):PE X (.Subscript a b pos) (Vl r g tb):=by
 intro f s i H Q I h;exact Subscript_ (ZL ha C I h λv u s2 x y j c d e q=>B a b f s2 i j x y v u Q c d e q (hs _ _))
def Xv(K:au):R2:=λx y H Q=>∃p b i v,x=.ref p/\y=.int i/\pC K H p b/\yV b i=Y v/\Q v H
def adC(K:au):R2:=λx y H Q=>∃p b i v,x=.ref p/\y=.int i/\vj K H p b/\yV b i=Y v/\Q v H
def adD:R2:=λx y H Q=>∃z i c,x=.str z/\y=.int i/\z.length<=aF/\yV z.cps.toList i=Y c/\Q (.str ⟨#[c]⟩) H
def Bf:ZZ X (Xv X.K):=by
 intro value slice N s P H x y v u Q I e f h A;refine ac λ_ a=>?_;obtain⟨p,R,i,z,rfl,rfl,g,E,q⟩:=h;cases e;obtain⟨t,rfl⟩:=f;obtain⟨o,r,pl,k⟩:=I.list g;obtain⟨j,B,F,S,l,C⟩:=BF E;obtain⟨w,d,b⟩:=r.get F;apply a;have hl:=r.length;have m:=uF;by_cases n:0<=i
 .have c:i.toNat=j:=by
   rw[Qr n C]at B
   simp_all
  exact item_listR pl.isList n (gH C (gH (fQ.mpr k) cV)) (by rw[c];simpa using d) ⟨z,H,I,b,q⟩ A
 .have c:(i+(o.toArray.size)).toNat=j:=by
   rw[LC (nV.mp n) l]at B
   simp_all
  exact LH pl.isList.typeIs slot_list_getitem.lookup
   (wpAny_getItem_list_neg pl.isList (nV.mp n) (by simp_all) (by grind) (by rw[c];simpa using d) ⟨W,⟨z,H,I,b,q⟩⟩) A
def YS:ZZ X (adC X.K):=by
 intro value slice C s E H x y v u Q I c d h m;refine ac λ_ a=>?_;obtain⟨p,F,i,z,rfl,rfl,e,n,q⟩:=h;cases c;obtain⟨t,rfl⟩:=d;obtain⟨o,r,pl,f⟩:=I.tuple e;obtain⟨j,N,A,P,k,B⟩:=BF n;obtain⟨w,g,b⟩:=r.get A;apply a;have l:=uF;exact LH pl.typeIs slot_tuple_getitem.lookup
  (PyProof.Rows.getItem_tuple pl (by grind) (gH B (gH (fQ.mpr f) cV)) (by rwa[bB,<-r.length]) (by simpa using g) ⟨W,⟨z,H,I,b,q⟩⟩) m
def YT:ZZ X adD:=by
 intro value slice r s w H x y v u Q I b d h l;refine ac λ_ a=>?_;obtain⟨z,i,c,rfl,rfl,f,m,q⟩:=h;obtain⟨t,rfl⟩:=b;obtain⟨A,rfl⟩:=d;obtain⟨j,k,n,B,e,o⟩:=BF m;apply a;have p:z.cps.toList.length=z.length:=by simp[Str.length]
 rw[p]at k e o;have g:=uF
 exact Qz (j0 s z t) slot_str_getitem.lookup (getItem_str (by
  grind) (by rw[k];simpa using n) ⟨.str ⟨_⟩,H,I.tok _,⟨_,W⟩,q⟩) l
def Ga(its:O ai)(n j:T)(u:ai):fM (·.setIfInBounds j u) { cls:=.type "list",data:=.seq its.toArray n }={ cls:=.type "list",data:=.seq (its.set j u).toArray n }:=by
 simp[fM]
def Inv.lst(I:Inv X g σ H s)(h:H p=Y (.lst xs)) :
  ∃(its:O ai) (n:T),cX xs its/\s.heap.get? p=Y { cls:=.type "list",data:=.seq its.toArray n }/\Z xs<=aF:=by
 obtain⟨z,its,n,r,e⟩:=I.hok p _ h;exact⟨_,n,r,e,z⟩
def CP:V->V->V->Hp->(Hp->Prop)->Prop:=λo i v H Q=>∃p b k j,o=.ref p/\i=.int k/\H p=Y (.lst b)/\yQ b.length k=Y j/\Q (upd H p (.lst (b.set j v)))
def AE(lo hi:a5 cx)(n:T):(eL lo hi L n).1=((HT.j8 n 0 lo:T):cx)/\(eL lo hi L n).2.1=((HT.j8 n n hi:T):cx)/\(eL lo hi L n).2.2=1:=by
 refine⟨?_,?_,W⟩
 .cases lo with
  |none=>simp[eL,HT.j8]
  |some i=>
    rw[<-HT.Ji];simp only[eL,Lg,show(1:cx) > 0 by decide,ek];exact HT.cl9 i n
 .cases hi with
  |none=>simp[eL,HT.j8]
  |some i=>
    rw[<-HT.Ji];simp only[eL,Lg,show(1:cx) > 0 by decide,ek];exact HT.cl9 i n
def yL(its:O ai)(lo hi:a5 cx):slicePick its.toArray lo hi L=((its.drop (HT.j8 its.length 0 lo)).take (HT.j8 its.length its.length hi - HT.j8 its.length 0 lo)).toArray:=by
 obtain⟨b,c,d⟩:=AE lo hi _;unfold slicePick;rw[b,c,d];simp only[sliceRange_one,pick_run,bB]<;>rfl
def adA(K:au):V->a5 cx->a5 cx->Hp->VK->Prop:=λx lo c H Q=>∃a b,x=.ref a/\pC K H a b/\∀p,H p=L->Q (.ref p) (upd H p (.lst (GI b lo c)))
def Rq:SlR X (adA X.K):=by
 intro o s p H x v g i lo t sl Q I c m pl d h;refine ac λ_ k=>?_;obtain⟨a,u,rfl,e,q⟩:=h;cases c;obtain⟨n,r,l,f⟩:=I.list e;apply k;have hlen:=r.length;refine⟨_,_,slot_list_getitem.lookup,l.isList.typeIs,?_⟩;refine wpAny_getItem_list_slice l.isList m pl d .none (by simp) ?_ (by simp_all);rw[yL,<-hlen];refine⟨.ref _,_,I.laid (λb j q=>hp9 _ q) (ao _) ?_,W,q _ (I.hok.fresh (ao _))⟩;exact⟨aa (by unfold GI;rw[fL,jW];exact aa (pS _ _) (p9 _ _)) f,_,0,(r.drop _).take _,aC _ W⟩
def AX:kR X (dk .NotIn) (λx y H Q=>∃i j,x=.str i/\y=.str j/\Q (.bl (!(!(jV j i 0 j.length 1).isEmpty))) H):=by
 intro d s e H x y v u Q I b c h;obtain⟨i,j,rfl,rfl,q⟩:=h;obtain⟨t,rfl⟩:=b;obtain⟨f,rfl⟩:=c;exact notIn_str ⟨.bl _,H,I,W,q⟩
def tS:lX X (.builtin "len") (λxs H Q=>∃p g,xs=[.ref p]/\(pC X.K H p g\/vj X.K H p g)/\Q (.int g.length) H):=by
 intro j s k H xs l Q I r h;obtain⟨p,g,rfl,b,q⟩:=h;obtain⟨u,rfl,d⟩:=vals1 r;clear r; cases d;have f:=uF
 rcases b with b|b
 .obtain⟨i,c,pl,e⟩:=I.list b;have hlen:=c.length;exact Calls.call_len_list pl.isList (by simp only[bB]<;>omega) ⟨.int _,H,I.tok _,⟨_,by rw[bB,hlen]⟩,q⟩
 .obtain⟨i,c,pl,e⟩:=I.tuple b;have hlen:=c.length;exact PyProof.Rows.len_tuple pl (by simp only[bB]<;>omega) ⟨.int _,H,I.tok _,⟨_,by rw[bB,hlen]⟩,q⟩
def BA:lX X (.builtin "len") (λxs H Q=>∃z,xs=[.str z]/\z.length<=aF/\Q (.int z.length) H):=by
 intro d s e H xs f Q I r h;obtain⟨z,rfl,b,q⟩:=h;obtain⟨u,rfl,t,rfl⟩:=vals1 r;have c:=uF;exact len_str (by omega) ⟨.int _,H,I.tok _,⟨_,W⟩,q⟩
def rp:lX X (.type "tuple") (λxs H Q=>∃p y,xs=[.ref p]/\((pC X.K H p y/\∀l,H l=L->Q (.ref l) (upd H l (.tup y)))\/(vj X.K H p y/\Q (.ref p) H))):=by
 intro m s n H xs x Q I r h;obtain⟨p,y,rfl,h⟩:=h;obtain⟨u,rfl,i⟩:=vals1 r;clear r; cases i
 rcases h with⟨c,q⟩|⟨c,q⟩
 .obtain⟨k,d,pl,f⟩:=I.list c;have hlen:=d.length;refine call_tuple_list pl.isList (λt w=>?_) (by simp_all);have g:Inv X m n H { s with heap:=t }:=I.kept w
  have j:Inv X m n (upd H _ (.tup y)) { s with heap:=t.push { cls:=.type _,data:=.seq _ } }:=
   g.laid (λb o e=>hp9 _ e) (ao _) (⟨f,_,d,LJ _ _⟩)
  exact⟨.ref _,_,j,W,q _ (g.hok.fresh (ao _))⟩
 .obtain⟨k,d,pl,f⟩:=I.tuple c;exact call_tuple_same pl ⟨.ref p,H,I,W,q⟩
def tyV(K:au)(T':et)(x:V)(H:Hp):Prop:=match x with
 |.str _=>T'="str"
 |.int _=>T'="int"
 | .ref p=>(T'="list"/\∃b,pC K H p b)\/(T'="tuple"/\∃o,K.lookup p=Y o/\o.cls=.type "tuple"/\o.dict=L)\/
   T'="dict"/\∃c,H p=Y (.dK c)
 |_=>False
def LZ{T':et}(I:Inv X y σ H s)(r:RelV x v)(ty:tyV X.K T' x H) :
  s.TypeIs v T'/\∀a,v=.ref a->∃B,s.heap.get? a=Y B/\B.dict=L:=by
 cases x with
 |str z=>
   obtain⟨t,rfl⟩:=r;cases(ty);exact⟨j0 s z t,λ_ e=>nomatch e⟩
 |int i=>
   obtain⟨t,rfl⟩:=r;cases(ty);exact⟨typeIs_int s i t,λ_ e=>nomatch e⟩
 |ref p=>
   cases r
   rcases ty with⟨rfl,m,b⟩|⟨rfl,o,f,j,g⟩|⟨rfl,q,f⟩
   .obtain⟨k,_,pl,_⟩:=I.list b;refine⟨pl.isList.typeIs,λa e=>?_⟩;cases e;obtain⟨o,n,e,c,g,_⟩:=pl;exact⟨o,e,g⟩
   .refine⟨⟨o,I.xE p o f,j⟩,λa e=>?_⟩;cases e;exact⟨o,I.xE _ o f,g⟩
   .refine ac λ_ d=>?_;obtain⟨_,_,_,_,o,_,_,e,h,_⟩:=I.hok p _ f;apply d;refine⟨⟨o,e,h.1⟩,λa l=>?_⟩;cases l;exact⟨o,e,h.2.1⟩
 |_=>exact bK ty
def aay(K:au)(T':et)(r:V->O V->Hp->VK->Prop)(g:TE):TE:=λc H Q=>g c H λx b=>tyV K T' x b/\r x [] b Q
def Z8(K:au)(T':et)(r:V->O V->Hp->VK->Prop)(g:TE)(t:TA):TE:=λc H Q=>g c H λx b=>tyV K T' x b/\t c b λd e=>r x d e Q
variable{apos cpos:rJ}{T' id:et}
def XN(F:PlainAttrs T')(slot:PySem.Slot T' name id)(P:hW (.builtin id)=pure (.type "method_descriptor"))(y:U0 X id r)(C:PE X o to)
  (B:f9 o name X.env (eval o X.env)=eval o X.env)(O':(apos.endLine == cpos.line)=U):PE X (.Call (.Attribute o name apos) [] [] cpos) (aay X.K T' r to):=by
 intro f s i H Q I h;refine wpAny_Call_method0_late B O' (jc (C f s i H _ I h) λv s1 g=>?_);obtain⟨x,d,b,c,ty,e⟩:=g;exact⟨T',id,F,slot,P,(LZ b c ty).1,(LZ b c ty).2,B7 W (PySem.evalArgs_none (y f s1 i d x [] v [] Q b c .nil e))⟩
def zF(F:PlainAttrs T')(slot:PySem.Slot T' name id)(C:hW (.builtin id)=pure (.type "method_descriptor"))(P:U0 X id r)(R:PE X o to)(ha:PA X (e::es) t)
  (O':f9 o name X.env (eval o X.env)=eval o X.env)
  (S:((eI cpos (aN (e::es) X.env)).all (λx=>!x.1) && (backToKw cpos (keywordEach [] X.env)).all (λx=>x.1.isSome)
   && decide (Z (e::es)+Z ([]:O kx)+(if([]:O kx).isEmpty then 0 else 1)<30))=U:=by rfl)
  (c3:(apos.endLine == cpos.line)=U:=by rfl)(hs:aN (e::es) X.env=(J,eval e X.env)::aN es X.env:=by rfl)(B:(eI cpos (aN es X.env)).any (·.1)=J:=by rfl) :
  PE X (.Call (.Attribute o name apos) (e::es) [] cpos) (Z8 X.K T' r to t):=by
 intro m s n H Q I h;refine wpAny_Call_method_late O' S c3 W (jc (R m s n H _ I h) λv s1 l=>?_);obtain⟨x,f,b,c,ty,g⟩:=l;refine⟨T',id,F,slot,C,(LZ b c ty).1,(LZ b c ty).2,?_⟩;have d:=ha cpos m s1 n f _ b g;rw[hs]at d ⊢;exact B7 (by show(J || (eI _ (aN es _)).any _)=J;rw[B]<;>rfl) (Calls.evalArgs_plain (jc d λp s2 y=>by obtain⟨q,u,i,j,k⟩:=y;exact P m s2 n u x q v p Q i c j k))
end
def MtM(X:Cx)(O':et)(r:V->O V->Hp->VK->Prop):Prop:=
 ∀(a:O (aD×lO))(s:aj)(b:St)(H:Hp)(x:V)(c:O V)(v:ai)(d:O ai)(Q:VK),Inv X a b H s->RelV x v->cX c d->r x c H Q->
  aw (aq X.prog X.w) X.A (call (.builtin O') (v::d)) (EP X a b Q) X.xe s
def cX.one(h:cX [x] us):∃u,us=[u]/\RelV x u:=by
 cases h with
 |cons r t=>cases t;exact⟨_,W,r⟩
def cX.reverse(h:cX xs us):cX xs.reverse us.reverse:=by
 induction h with
 |nil=>exact .nil
 |cons r t a=>rw[oj,oj];exact cX.append a (.cons r .nil)
section
def Inv.aby{its B:O ai}(I:Inv X y σ H s)(O':H l=Y (.lst xs))
  (e:s.heap.get? l=Y { cls:=.type "list",data:=.seq its.toArray n })(C:f its.toArray=B.toArray)(F:cX g B)(P:Z g<=aF) :
  Inv X y σ (upd H l (.lst g)) { s with heap:=s.heap.update l (fM f),toks:=t' }:=by
 have q:=PySem.IsL.update e f;rw[C]at q;exact I.write (by rw[O'];exact trivial) (λb u c a=>(cy _ _ (dn c)).trans a) ⟨_,q⟩ ⟨P,B,_,F,q⟩
def Inv.abB(I:Inv X y σ H s)(B:cX g its)(O':Z g<=aF) :
  Inv X y σ (upd H s.heap.objs.size (.lst g)) { s with heap:=s.heap.push { cls:=.type "list",data:=.seq its.toArray },toks:=t' }:=
 I.laid (λ_ _ q=>hp9 _ q) (ao _) ⟨O',_,0,B,aC _ W⟩
def Inv.fresh(I:Inv X g σ H s):H s.heap.objs.size=L:=I.hok.fresh (ao _)
def Inv.Tc(I:Inv X g σ H s)(B:H l=Y (.lst xs)):Z xs<=aF/\∃(its:O ai) (n:T),cX xs its/\Z xs=Z its/\s.heap.get? l=Y { cls:=.type "list",data:=.seq its.toArray n }:=by
 obtain⟨z,its,n,r,e⟩:=I.hok l _ B;exact⟨z,_,n,r,r.length,e⟩
def NH(h:n<=aF):jM n=J:=by
 exact c6 (λz=>(a9 z h))
end
section
def HD:V->O V->Hp->VK->Prop:=λx b H Q=>∃l a y,x=.ref l/\b=[y]/\H l=Y (.lst a)/\Z a<aF/\Q .non (upd H l (.lst (a++[y])))
def zI:MtM X "list.append" HD:=by
 intro j s k H x m v o Q I b c h;refine ac λ_ g=>?_;obtain⟨l,p,y,rfl,rfl,a,d,q⟩:=h;cases b;obtain⟨u,rfl,f⟩:=c.one;obtain⟨z,i,n,r,t,e⟩:=I.Tc a;apply g;refine PySem.call_meets nQ ⟨_,e,W⟩ F.entry_list_append (F.args_list_append_2 _ _) (PySem.list_append l _ n u (by simp_all)) ⟨e,?_⟩;refine⟨.non,_,I.aby a e (by simp) (r.append (.cons f .nil)) ?_,W,q⟩;rwa[aL]
def adG:R2:=λx y H Q=>∃l b c a,x=.ref l/\y=.ref b/\H l=Y (.lst c)/\H b=Y (.lst a)/\Z c+Z a<=aF/\∀p,H p=L->Q (.ref p) (upd H p (.lst (c++a)))
def X6:kR X (ea .Add) adG:=by
 intro C s E H x y v u Q I c d h;refine ac λ_ w=>?_;obtain⟨l,b,F,m,rfl,rfl,f,g,o,q⟩:=h;cases c;cases d;obtain⟨z,A,n,r,K,e⟩:=I.Tc f;obtain⟨p,a,t,i,j,B⟩:=I.Tc g;apply w;refine PySem.P.add_list e B ?_ (by simp_all);have k:A.toArray++a.toArray=(A++a).toArray:=by simp
 rw[k];exact⟨.ref _,_,I.abB (r.append i) (by rw[aL];omega),W,q _ I.fresh⟩
end
section
end
section
end
end L2
namespace Att
open PySem.W PySem.Calls
def vB:∀(ns:O cx)(g:O ai),WellAll P h g (ns.map WData.int)->Ep g ns:=by
 intro ns
 induction ns with
 |nil=>
   intro g w;cases w;exact .nil
 |cons n ns c=>
   intro g w
   cases w with
   |cons a b=>
     cases a;exact .cons _ _ (c _ b)
def Ea{l:j5}{d:DefRec}
  (hn:l.most=Y n)(c3:d.params.defaults=[])
  (call:∀(w:cW)(F y:aj)(P S:aV->a5 ai)(B:aD)(o:lO)(pm O' I:ai)(a:aD)(C:O ai)(ns:O cx),
   Ground q loose [] XP w F P S y.heap->YP w y.heap->
   y.heap.get? B=Y o->o.data=.func (docDef d.name d.params d.body d.scope pm O' I)->y.heap.CodeRec O' d.name->P d.name=Y (.ref B)->
   y.heap.get? a=Y { cls:=.type "list",data:=.seq C.toArray }->Ep C ns->Z ns<=n->y.gens=#[]->
   eH (aq l.prog w) iy (.call (.ref B) ⟨[.ref a],[]⟩) (λr R=>r=.ok (.ret (.bool U))/\OldK y.heap R.heap/\R.os=y.os/\mn R.gens) y) :
  yE q loose XP YP l.row.toRowW d [] (λf C=>JC f C):=by
 intro w F y P S G z B o pm O' I k kV A N e i g m args vals as b j p h s;refine ac λ_ x=>?_;clear j p s; obtain rfl:k=.none:=Dflts.none i c3;obtain rfl:kV=.none:=Dflts.noKw i;obtain⟨a,C,ns,rfl,rfl,c,hints,hlen⟩:∃a C ns,vals=[bZ a]/\args=[WData.list (ns.map WData.int)]/\y.heap.get? a=Y { cls:=.type "list",data:=.seq C.toArray }/\Ep C ns/\Z ns<=n:=(by
  clear call G z g m x N; obtain⟨d,r,rfl,K,E⟩:=hasAllW_cons ((pre_splitW b).1);obtain rfl:=hasAllW_nil E;obtain⟨Q,rfl,H⟩:=hasW_list K;clear K; obtain⟨ns,rfl⟩:=items_int H
  have hlen:Z ns<=n:=by
   have c:(WTm.not (.lt (.lit (.int (n))) (.len (.arg 0)))).holds [] { args:=[.list (ns.map .int)] }=U:=by
    have c:=(holds_andW ((pre_splitW b).2)).1;rwa[hn]at c
   have X:=condW_of c (w_not (w_lt w_lit (w_len_list (w_arg W))))
   simp_all
  cases h with
  |cons e f=>
    cases f
    cases e with
    |list A a=>exact⟨_,_,ns,W,W,A,vB ns _ a,hlen⟩);apply x;refine enter_call (iQ (call w _ _ P S B o pm O' _ a C ns G z A (fd_plain N) e g c hints hlen m) λr R t=>?_);obtain⟨rfl,E,H,u⟩:=t;exact⟨.inl ⟨_,_,[],W,λ_=>W,.bool U,postW_of
   (by first|rfl|decide|simp)
   (w_eq_bool (w_res W) w_lit) W,λ_=>⟨zj,λ_ v=>(nomatch v)⟩⟩,E,H,u⟩
section
variable{K:au}
end
end Att
namespace L2
def zm{g:O ai}{ns:O cx}(h:Ep g ns):cX (ns.map V.int) g:=by
 induction h with
 |nil=>exact .nil
 |cons n t _ i=>exact .cons ⟨t,W⟩ i
def ZX(H:Hp):Prop:=∀b,H b=L\/∃o a,H b=Y (.l8 o (.lst a))
def Od{K:au}{I:aj}{vs:O ai}
  (KX:K.In I.heap)(O':I.heap.Ns c9 mg)(S:I.heap.Ns i0 mb)(c3:∀x:aV,x≠"__name__"->mb x=dt x)(e0:I.heap.NoLimit)(hg:I.gens=#[])
  (ha:I.heap.get? a=Y { cls:=.type "list",data:=.seq vs.toArray })(hi:Ep vs ns)(hl:Z ns<=aF)(hr:i5 k iy)
  (F:∀base:bP,K.In base->base.Ns c9 mg->jt P w K mg base CX k fa fd [x] sp)(B:∀(s:aj)(u:ai),Eo s fd ⟨[u],[]⟩ [(x,u)])
  (hsp:∀H:Hp,ZX H->pC K H a (ns.map V.int)->sp [.ref a] H (λv _=>v=.bl U) λ_ _ _=>False)
  (hCX:∀H e R,CX [] H I (λ_ _ _=>False) e R->False) :
  eH (aq P w) iy (.call (.ref fa) ⟨[.ref a],[]⟩) (λr R=>r=.ok (.ret (.bool U))/\OldK I.heap R.heap/\R.os=I.os/\mn R.gens) I:=by
 have y:=zm hi;have core:∀H:Hp,ZX H->pC K H a (ns.map V.int)->sH P w H I.heap->(∀b,H b≠L->b=a)->(H a≠L->K.lookup a=L)->
   eH (aq P w) iy (.call (.ref fa) ⟨[.ref a],[]⟩) (λr R=>r=.ok (.ret (.bool U))/\OldK I.heap R.heap/\R.os=I.os/\mn R.gens) I:=by
  intro H A D Q C E;have c:∀{b:aD}{o:lO},I.heap.get? b=Y o->H b=L->(DA _ H).get? b=Y o:=λe n=>PySem.W.hideAll_get _ e λa=>by
    have q :=(bI.mp a).2;rw[n]at q;simp at q
  have l:∀{b:aD}{o:lO}{X:c4 _}{G:T},I.heap.get? b=Y o->o.data=.dict X G->H b=L:=λ{b o X G}e d=>by
   cases q:H b with
   |none=>rfl
   |some u=>
     have p :=C b (by rw[q];simp);subst p;rw[ha]at e;cases e;cases d
  have f:∀{b:aD}{m:aV->a5 ai},I.heap.Ns b m->(DA _ H).Ns b m:=λ{b m} ⟨o,X,G,e,d,r⟩=>⟨o,X,G,c e (l e d),d,r⟩
  have i :=λb o e=>c (KX b o e) (by
   cases q:H b with
   |none=>rfl
   |some u=>
     have p :=C b (by rw[q];simp);subst p
     rw[E (by rw[q];simp)]at e;cases e)
  refine iQ ((F _ i (f O')).run _ [] _ H _ _ [.ref a] _ _ hr ⟨W,(⟨i,f O',⟨mb,f S,c3⟩,let ⟨mc,h1,h2⟩:=e0;⟨mc,f h1,h2⟩⟩),λb o e=>(show I.heap.get? b=Y o/\H b=L by
   have a :=PySem.W.of_hideAll _ e;refine⟨a,?_⟩
   cases q:H b with
   |none=>rfl
   |some x=>
     have z:(DA _ H).get? b=L:=PySem.W.hideAll_none _ (bI.mpr ⟨aX.mpr (hl9 a),by simp[q]⟩);rw[z]at e;cases e),af (PySem.W.hideAll_size _ _),trivial,λb S=>absurd (show b∈([])from S) (by simp),Q,.of_eq hg⟩ (B _ _) (.cons rfl .nil) (hsp H A D)) λr R h=>?_
  cases r with
  |error e=>exact(hCX H e R h).elim
  |ok fl=>
    cases fl with
    |next=>exact bK h
    |brk=>exact bK h
    |cont=>exact bK h
    |ret u=>
      refine ac λ_ g=>?_;obtain⟨v,H',os,bare,un,j,J',rfl⟩:=h;obtain rfl:u=Value.bool U:=J';apply g;refine⟨W,OldK.of_keep λb o e=>?_,os,bare⟩
      cases q:H b with
      |none=>exact un.keep b o e q (by intro z;exact absurd (show b∈([])from z) (by simp)) (by simp)
      |some u=>
        rcases A b with z|⟨M,xs,z⟩
        .rw[q]at z;cases z
        .have N:=un.frzs b M _ z;obtain⟨e1,_⟩:=Q b _ z;rw[e]at e1;cases e1;exact (j b _ N).1
 cases hk:K.lookup a with
 |some o=>
   have e:=KX a o hk;rw[ha]at e;refine ac λ_ g=>?_;cases e;apply g;refine core _ (λ_=>.inl rfl) (.inr ⟨_,_,_,hk,W,W,W,by rwa[bB,hi.length],by simpa using y⟩) (λb u z=>by cases z) (λb z=>absurd rfl z) λz=>absurd rfl z
 |none=>
   refine core (λb=>if b=a then Y (.l8 { cls:=.type "list",data:=.seq vs.toArray } (.lst _))else L) (λb=>?_) (.inl (.inr ⟨_,cb W⟩)) (λb u z=>?_) (λb z=>?_) λ_=>hk
   .by_cases S:b=a
    .exact .inr ⟨_,_,cb S⟩
    .exact .inl (cv S)
   .by_cases S:b=a
    .have t:=(cb S).symm.trans z;clear KX hi core hk z; cases t;subst S;exact⟨ha,by simp_all,vs,_,y,ha⟩
    simp_all
   simp_all
noncomputable abbrev KOf{K:au}{h:bP}(_:K.In h):au:=K
noncomputable def v9(s:fP):Arguments:=match s with
 |.FunctionDef _ a _ _ _ _ _ _ _ _=>a
 |_=>{ posonlyargs:=[],args:=[],vararg:=L,kwonlyargs:=[],kw_defaults:=[],kwarg:=L,defaults:=[] }
noncomputable def jQ(s:fP):O fP:=match s with
 |.FunctionDef _ _ b _ _ _ _ _ _ _=>b
 |_=>[]
noncomputable def br(s:fP):n9:=match s with
 |.FunctionDef _ _ _ _ _ _ a _ _ _=>a
 |_=>{ kind:=.function,names:=[],isGenerator:=J,isCoroutine:=J }
abbrev sJ:U4:=λ_ _ _ _ _ _=>False
abbrev E0:XK:=λ_ _ _=>False
def Nr:qx sJ X E0:=λ_ _ _ _ _ _ _ h=>h.elim
structure Z2(K:au)(x qual:aV)(st:fP)(f:aD)(fd:iR):Prop where
 ex:∃(oc:ai) (od:a5 aD) (kV doc pm:ai) (an:a5 aD) (cdv ct:ai) (osl:c4 (a5 ai)),
  fd=oW x qual (v9 st) (jQ st) (br st) .none kV doc pm an cdv ct/\K.lookup f=Y ⟨oc,od,.func fd,osl⟩/\p8 K cdv qual=U
 kp:dJ K (.ref f)=U
section
variable{K:au}{base:bP}
def Z2.ok{st:fP}(F:Z2 K x qual st f fd)(S:mG N C (br st))(len:∀g H Q E,sp g H Q E->Z g=Z C)
  (B:∀(y:ai)(A:bJ)(outer:O B6)(s:aj)(H:Hp)(g:O V)(Q:VK)(E:XK),i5 k (A.deeper (fe qual (br st) s.heap.objs.size f y))->sp g H Q E->
   ∃t,yY (kQ sJ P w K I base N qual (br st) f y A outer s H E).j3 (jQ st) t/\t { nx:=λ_ R=>Q .non R,rt:=Q } (start N g) H):jt P w K I base sJ (k+1) f fd C sp:=by
 refine ac λ_ e=>?_;obtain⟨l,m,kV,i,n,o,y,p,j,rfl,c,a⟩:=F.ex;apply e;refine OS c a S len λA outer s H g Q E d b=>?_;obtain⟨t,h,q⟩:=B _ A _ s H g Q E d b;exact⟨t,h.j3,q⟩
end
section
end
def Dr{A B:Prop}(h:B):if J=U then A else B:=by
 exact h
def Dq{A B:Prop}(h:A):if U=U then A else B:=by
 exact h
def cz(H g:Hp):Prop:=∀b o,H b=Y o->g b=Y o
def cz.refl(H:Hp):cz H H:=λ_ _ h=>h
def cz.trans(a:cz H g)(b:cz g y):cz H y:=λc o h=>b c o (a c o h)
def cz.free(e:cz H g)(h:g l=L):H l=L:=by
 cases q:H l with
 |none=>rfl
 |some o=>
   rw[e l o q]at h;cases h
def cz.seq{K:au}(e:cz H g)(h:pC K H a xs):pC K g a xs:=by
 rcases h with(h|⟨o,h⟩)|h
 .exact .inl (.inl (e _ _ h))
 .exact .inl (.inr ⟨o,e _ _ h⟩)
 .exact .inr h
section
variable{κ:Type}[ed κ]
noncomputable def qe(g:O (κ×V))(k:κ):a5 V:=(g.find? λa=>decide (a.1=k)).map (·.2)
noncomputable def putK(g:O (κ×V))(k:κ)(v:V):O (κ×V):=
 if(g.any λa=>decide (a.1=k))=U then g.map (λa=>if a.1=k then(a.1,v)else a)else g++[(k,v)]
def wA{p:κ×V}{r:O (κ×V)}{k:κ}(e:¬p.1=k):qe (p::r) k=qe r k:=by simp[qe,e]
def yX.KE(r:yX o u):o.isSome=u.isSome:=by
 cases o with
 | none=>cases u with
   |none=>rfl
   |some _=>exact(r).elim
 | some _=>cases u with
   |none=>exact(r).elim
   |some _=>rfl
def yX.getD(r:yX o u)(B:RelV d g):RelV (o.getD d) (u.getD g):=by
 cases o with
 | none=>cases u with
   |none=>exact B
   |some _=>exact(r).elim
 | some _=>cases u with
   |none=>exact(r).elim
   |some _=>exact r
def KV.val(r:KV g y)(k:κ):yX (qe g k) (hP y k):=by
 induction r with
 |nil=>exact lY
 | @cons p q i a h t d=>
   obtain⟨f,j⟩:=h;by_cases e:p.1=k
   .have c :=f.symm.trans e;have b:hP (q::a) k=Y q.2:=by simp[hP,c]
    rwa[(show qe _ k=Y p.2 by simp[qe,e]),b]
   .have c:¬q.1=k:=λz=>e (f.trans z);have b:hP (q::a) k=hP a k:=by simp[hP,c]
    rwa[wA e,b]
def KV.any(r:KV g y)(k:κ):(g.any λB=>decide (B.1=k))=y.any λB=>decide (B.1=k):=by
 induction r with
 |nil=>rfl
 |cons h t a=>simp_all
def KV.ady(r:KV g C)(k:κ)(O':RelV y u) :
  KV (g.map λB=>if B.1=k then(B.1,y)else B) (C.map λB=>if B.1=k then(B.1,u)else B):=by
 induction r with
 |nil=>exact .nil
 | @cons p q c b h t a=>
   rw[az];refine .cons ?_ a;by_cases e:p.1=k
   .simp_all
   simp_all
def KV.put(r:KV C g)(k:κ)(B:RelV y u):KV (putK C k y) (stored g k u):=by
 unfold putK stored;rw[r.any k];by_cases e:(g.any λa=>decide (a.1=k))=U
 .rw[cb e,cb e];exact r.ady k B
 .rw[cv e,cv e];exact Paired.snoc r ⟨W,B⟩
def KV.length{g:O (κ×V)}{y:O (κ×ai)}(r:KV g y):Z g=Z y:=y8 r
end
def xD(r:RelV (kV k) u):(dE P w).is k u=U:=by
 cases k with
 |inl i=>obtain⟨t,rfl⟩:=(r);exact (show u7 (.inl i) (.int i t)=U by simp[u7,Value.isInt])
 |inr x=>obtain⟨t,rfl⟩:=(r);exact zN x t
section
def zY(ok:sH P w H h)(e:Rd H a (.dK g)):Z g<=aF/\(a == hB)=J/\∃y,KV g y/\h.DictOf (dE P w) a y:=
 (e.ok ok)
end
def uQ(H:Hp)(a:aD)(y:V)(r:a5 V):Prop:=∃b k,Rd H a (.dK b)/\y=kV k/\r=qe b k
def U3(H:Hp)(a:aD)(y v:V)(g:Hp):Prop:=∃b k,H a=Y (.dK b)/\y=kV k/\Z b<aF/\g=upd H a (.dK (putK b k v))
def uQ.k{H:Hp}{a:aD}{g:O (Key×V)}{k:Key}(e:H a=Y (.dK g)):uQ H a (kV k) (qe g k):=⟨g,k,.inl e,W,W⟩
def U3.k{H:Hp}{a:aD}{g:O (Key×V)}{k:Key}{v:V}(e:H a=Y (.dK g))(y:Z g<aF):U3 H a (kV k) v (upd H a (.dK (putK g k v))):=⟨g,k,e,W,y,W⟩
section
def zZ(I:Inv X F σ H s)(g:uQ H a y (Y v))(O':RelV y u)(h:∀B C,Inv X F σ H C->RelV v B->Q B C) :
  aw (aq X.prog X.w) A (gk (.ref a) u) Q E s:=by
 refine ac λ_ d=>?_;obtain⟨j,k,e,rfl,l⟩:=g;obtain⟨z,m,n,b,f⟩:=zY I.hok e;obtain⟨B,i,c⟩:=yX.some_of (by rw[l];exact b.val k);apply d;exact wpAny_getItem_of (xD O') f.mapOf i (h B _ (I.tok _) c)
def aeo(I:Inv X F σ H s)(g:uQ H a y o)(B:RelV y u)(h:∀C,Inv X F σ H C->Q (.bool o.isSome) C) :
  aw (aq X.prog X.w) A (dk .In u (.ref a)) Q E s:=by
 refine ac λ_ c=>?_;obtain⟨i,k,e,rfl,l⟩:=g;obtain⟨z,f,j,b,d⟩:=zY I.hok e;apply c;apply wpAny_in_of (xD B) f d.mapOf;rw[<-(b.val k).KE,<-l];exact h _ (I.tok _)
def KZ(I:Inv X F σ H s)(g:U3 H a y v P)(B:RelV y u)(O':RelV v r)(h:∀C,Inv X F σ P C->Q () C) :
  aw (aq X.prog X.w) A (kl (.ref a) u r) Q E s:=by
 refine ac λ_ m=>?_;obtain⟨K,k,e,d,l,f⟩:=g;subst d f;obtain⟨z,n,o,b,i⟩:=zY I.hok (.inl e);apply m;have j:Z o<=aF:=by rwa[<-b.length]
 refine wpAny_setItem_pairs (xD B) i λN c p=>h _ ?_;exact I.write (by rw[e];exact lY) (λf d t z=>(p.2 f t).trans z) (by obtain⟨q,_,_,x,_⟩:=c;exact⟨q,x⟩) (⟨(aa (by
   unfold putK;split
   .simp
   simp) l),n,_,(b.put k O'),c⟩)
end
section
def ab0(I:Inv X y σ H s)(e:Rd H a (.dK B))(h:∀t g,Inv X y σ H g->Q (.int B.length t) g):aw (aq X.prog X.w) A (call (.builtin "len") [.ref a]) Q E s:=by
 obtain⟨z,c,d,rel,b⟩:=zY I.hok e;apply call_len_dict c b (by rw[<-rel.length];exact gZ (fQ.mpr z) cV);rw[<-rel.length];exact h _ _ (I.tok _)
end
def vd(I:Inv X B σ H s)(g:uQ H a y o):s.TypeIs (.ref a) "dict":=by
 obtain⟨c,k,e,_,_⟩:=g;obtain⟨_,_,d,_,b⟩:=zY I.hok e;exact b.typeIs
section
end
def Pe(h:bP)(g:hB<h.objs.size):kL P w H (h.push { cls:=.type "dict",data:=.dict #[] }) h.objs.size (.dK []):=
 ⟨aU _,beq_eq_false_iff_ne.mpr (dn (a7 g)),[],.nil,Heap.DictOf.new h⟩
def Wq:TE:=λ_ H Q=>∀p,H p=L->Q (.ref p) (upd H p (.dK []))
section
end
section
def Zq(I:Inv X P σ H s)(g:uQ H a y o)(O':RelV y u)(R:RelV d r)(h:∀B C,Inv X P σ H C->RelV (o.getD d) B->Q B C) :
  aw (aq X.prog X.w) A (call (.builtin "dict.get") [.ref a,u,r]) Q E s:=by
 refine ac λ_ f=>?_;obtain⟨j,k,e,rfl,l⟩:=g;obtain⟨z,i,m,b,c⟩:=zY I.hok e;apply f;refine call_meetsIn BO c.typeIs PySem.F.entry_dict_get (PySem.F.args_dict_get_3 ..) (meets_dict_get_default (dE _ _) a (xD O') i r) ⟨_,c.mapOf,h _ _ (I.tok _) ?_⟩;rw[l];exact(b.val k).getD R
end
section
end
section
end
section
end
def QX:upd (upd H a o) a u=upd H a u:=by
 funext b;unfold upd;split<;>rfl
def i5.make(r:i5 (k+1) A)(C:aD)(y:O ai)(g:O (aV×ai)):i5 k (A.under (.builtin "type.__call__" ⟨.ref C::y,g⟩)):=
 ⟨r.hd,by rw[(show (A.under (.builtin _ ⟨_,g⟩)).depth=A.depth+1 by first|rfl|simp)];exact jj r.dp,by rw[(show (A.under (.builtin _ ⟨_,g⟩)).units=A.units+1 by first|rfl|simp)];exact jj r.un⟩
def iO.make{K:au}{base:bP}(e:iO P w K g base A outer s H)(C:aD)(y:O ai)(B:O (aV×ai)) :
  iO P w K g base (A.under (.builtin "type.__call__" ⟨.ref C::y,B⟩)) outer s H:=⟨by first|exact e.frames|simp,e.mod,e.bs,e.bsz,e.rW,e.frf,e.hok,e.bare⟩
section
variable{st:fP}
def HH(g:PS X st t):yY X [st] t:=by
 intro a s b H D I h;refine qM (jc (g a s b H D I h) λf s1 q=>?_)
 cases f with
 |next=>exact jP q
 |ret v=>exact q
 |brk=>exact q
 |cont=>exact q
end
section
variable{A:bJ}{s:aj}
structure acB(base:bP)(l:O B6)(e T':aD)(fl:ai)(h h':bP):Prop where
 st:base.StaysIn h'
 fr:h'.FunFrames base l
 tn:base.get? T'=L
 te:T'≠e
 ex:∃oe vs,h'.get? e=Y oe/\oe.data=.fields vs/\vs[1]?=Y (.ref T')/\∀o ws,h.get? e=Y o->o.data=.fields ws->oe.cls=o.cls/\oe.dict=o.dict/\vs[0]?=ws[0]?
 en:∃oT ts,h'.get? T'=Y oT/\oT.data=.fields ts/\ts[3]?=Y fl
 up:h.UpToSlots h'
def xJ{base:bP}(c3:A.frames=Y (env::outer))(B:s.heap.FunFrames base (env::outer))(S:env.frame=Y L')
  (I:s.heap.get? e=Y oe)(e0:base.StaysIn s.heap)(P:base.get? e=L)(F:oe.data=.fields R)(hsz:1<R.size)(h:∀h' T',acB base (env::outer) e T' (rawInt L') s.heap h'->Q () { s with heap:=h' }) :
  aw M A (do let a <-frameOf env;let pl <-entryPlaceOf L' C;let b <-EntryCells.newEntry head a .none (rawInt L') .none pl;setField (.ref e) 1 b) Q E s:=by
 have t:e∉(env::outer).filterMap _:=λl=>by
  obtain⟨_,o,K,n⟩:=B.mem l
  grind
 refine wb9 (wpAny_frameOf_fun c3 B S λp u=>wb9 (wpAny_entryPlaceOf λpl g=>?_));refine wb9 (dI ?_ (g.sizeOk5 ..));have w :=(u.2.1 e t).trans I;have b1:base.StaysIn p:=λb o z=>(u.2.1 b λm=>by rw[(B.mem m).1]at z;cases z).trans (e0 b o z);generalize i:({ cls:=.type _,dict:=L,data:=.fields _ }:lO)=O';refine oV (hp9 _ w) F hsz (h _ p.objs.size ?_);have ne :=jm (hl9 w);have d:=kC F (·.setIfInBounds 1 (bZ p.objs.size));have x:∀b o,b≠e->p.get? b=Y o->((p.push O').update e (mz (·.setIfInBounds 1 (bZ p.objs.size)))).get? b=Y o:=λb o r z=>(cy _ _ r.symm).trans (hp9 _ z)
 have H:∀b o,s.heap.get? b=Y o->(∀R,o.data≠.fields R)->b≠e:=λb o r f z=>by
  grind
 refine⟨λb o z=>x b o (λy=>by grind) (b1 b o z),B.of_keeps λb o r f=>?_,b1.fresh,ne,⟨_,_,(du (mz (·.setIfInBounds 1 (bZ p.objs.size))) (hp9 _ w) (qP d)),d,by simp[hsz],λo ws j k=>?_⟩,⟨O',_,((cy _ _ ne.symm).trans (aC p (by rw[<-i];rfl))),by rw[<-i],?_⟩,λb o r f=>?_⟩
 .obtain⟨sl,z⟩:=u.2.2 b o r;exact⟨_,x b _ (H b o r f) z,W⟩
 .rw[I]at j;clear c3 B S I e0 P hsz h t u g w b1 i ne d x H; cases j;rw[F]at k;cases k;refine⟨P8 _ _,?_,by simp⟩;obtain⟨c,N,q,sl⟩:=oe;cases F;rfl
 .rfl
 .obtain⟨sl,z⟩:=u.2.2 b o r;exact⟨sl,x b _ (H b o r f) z⟩
end
structure pW(base:bP)(l:O B6)(e:aD)(cls:ai)(dx:aD)(fl:ai)(h:bP):Prop where
 st:base.StaysIn h
 en:base.get? e=L
 fr:h.FunFrames base l
 tr:∃oe vs T' oT ts,h.get? e=Y oe/\oe.cls=cls/\oe.dict=Y dx/\oe.data=.fields vs/\vs[1]?=Y (.ref T')/\base.get? T'=L/\T'≠e/\h.get? T'=Y oT/\oT.data=.fields ts/\ts[3]?=Y fl
def pW.there{base:bP}(F:pW base l e cls B fl h):∃g y,h.get? e=Y g/\g.cls=cls/\g.dict=Y B/\g.data=.fields y:=
 by obtain⟨g,y,_,_,_,a,b,c,d,_⟩:=F.tr;exact⟨g,y,a,b,c,d⟩
section
variable{A:bJ}{s:aj}{base:bP}
def Dz{T':aD}{h:bP}(O':base.get? e=L)(B:h.get? e=Y y)(C:y.data=.fields F)(R:y.dict=Y I)(g:acB base l e T' fl h P):pW base l e y.cls I fl P:=by
 refine ac λ_ j=>?_;obtain⟨a,b,c,d,f,i⟩:=g.ex;obtain⟨k,m,b1,b2,b3⟩:=g.en;apply j;exact⟨g.st,O',g.fr,a,b,T',k,m,c,(i y F B C).1,(i y F B C).2.1.trans R,d,f,g.tn,g.te,b1,b2,b3⟩
def HY(O':A.frames=Y (env::outer))(C:env.frame=Y L')(F:pW base (env::outer) e cls I .none s.heap)(h:∀B,pW base (env::outer) e cls I (rawInt L') B->s.heap.UpToSlots B->Q () { s with heap:=B }):aw M A (hY (.ref e) env) Q E s:=by
 refine ac λ_ x=>?_;obtain⟨K,r,T',N,P,t,H,l,q,u,m,i,j,a,w⟩:=F.tr;subst H;apply x;unfold hY;simp only[C];refine wb9 (cD t q u ?_);refine wb9 (cD j a w ?_);refine wb9 (oV j a (bq.mp w).1 ?_);have f:∀b,b≠T'->(s.heap.update T' (mz (·.setIfInBounds 3 dG))).get? b=s.heap.get? b:=λb p=>cy _ _ p.symm
 have k:∀b o,s.heap.get? b=Y o->(∀r,o.data≠.fields r)->b≠T':=λb o p c z=>by
  simp_all
 have d:=(f e i.symm).trans t;refine xJ O' (F.fr.of_keeps λb o p c=>⟨o,(f b (k b o p c)).trans p,W⟩) C d (λb o z=>(f b λy=>by simp_all).trans (F.st b o z)) F.en q (bq.mp u).1 λB n g=>h B (Dz F.en d q l g) λb o p c=>g.up b o ((f b (k b o p c)).trans p) c
def vZ(F:pW base l e cls C fl s.heap)(h:∀B,pW base l e cls C .none B->s.heap.UpToSlots B->Q () { s with heap:=B }):aw M A (h9 (.ref e) L) Q E s:=by
 refine ac λ_ w=>?_;obtain⟨x,q,T',K,N,r,H,n,t,u,i,c,j,a,I⟩:=F.tr;apply w;have k :=(bq.mp I).1;refine wb9 (cD r t u ?_);have d:∀b,b≠T'->(s.heap.update T' (mz (·.setIfInBounds 3 ((L).elim dG λf=>rawInt f)))).get? b=s.heap.get? b:=λb p=>cy _ _ p.symm
 have m:∀b o,s.heap.get? b=Y o->(∀q,o.data≠.fields q)->b≠T':=λb o p g z=>by
  simp_all
 refine oV j a k (h _ ⟨λb o z=>(d b λy=>by simp_all).trans (F.st b o z),F.en,F.fr.of_keeps λb o p g=>⟨o,(d b (m b o p g)).trans p,W⟩,x,q,T',_,_,(d e c.symm).trans r,H,n,t,u,i,c,du _ j (qP (kC a _)),kC a _,by simp[k]⟩ λb o p g=>⟨_,(d b (m b o p g)).trans p⟩)
def pW.out(F:pW base (env::outer) e cls g fl s.heap):pW base outer e cls g fl s.heap:=⟨F.st,F.en,let ⟨_,_,k⟩:=F.fr;k,F.tr⟩
def Gh(O':A.frames=Y (env::outer))(hl:s.heap.FunFrames base (env::outer))(R:env.frame=Y L')(B:s.heap.get? e=Y C)(c3:base.StaysIn s.heap)(e0:base.get? e=L)(I:C.data=.fields vs)(P:vs[1]?=Y .none)(hx:C.dict=Y S)
  (h:∀y,pW base outer e C.cls S .none y->s.heap.UpToSlots y->Q () { s with heap:=y }):aw M A (kn env (.ref e)) Q E s:=by
 exact wb9 (by have c:∀y,pW _ (env::outer) e _ S (rawInt L') y->s.heap.UpToSlots y->(fun a s' => wpAny M A (h9 _ _) Q E s') () { s with heap:=y }:=λP F u=>vZ F λd a b=>h d (pW.out (s:={ s with heap:=d }) a) (u.trans b);unfold hY;simp only[R];exact wb9 (cD B I P (xJ O' hl R B c3 e0 I (bq.mp P).1 λy T' g=>c y (Dz e0 B I hx g) g.up)))
def Kv(O':A.frames=Y (env::outer))(y:env.frame=Y L')(F:pW base (env::outer) e cls B .none s.heap)(h:∀g,pW base outer e cls B .none g->s.heap.UpToSlots g->Q () { s with heap:=g }):aw M A (kn env (.ref e)) Q E s:=by
 unfold kn;exact wb9 (HY O' y F λd F u=>vZ (s:={ s with heap:=d }) F λc a b=>h c (pW.out (s:={ s with heap:=c }) a) (u.trans b))
end
section
variable{A:bJ}{h:bP}{os:ky}
variable{C:aD}{bs:O ai}{sub:O ai}
noncomputable abbrev Kg(h:bP)(C:aD)(g:O ai):bP:=(h.push { cls:=.type "tuple",data:=.seq g.toArray }).push { cls:=.ref C,data:=.fields #[.ref h.objs.size,.none,.none,.none,.bool J,.none] }
def Fd(F:LF B newId y I)(T':k6 h I bm)(O':h.get? C=Y (fc nm q C N bs bm hdct sn sub ab col dd k0 k1 k2 k3 k5 newId))(hn:h.Ns N mN)
  (hi:mN "__init__"=Y (.ref R))(c3:h.get? R=Y oI)(e0:oI.cls=.type "function")
  (hq:aw (aq prog w) A (call (.ref R) (.ref (h.objs.size+1)::us)) (λr S=>r=.none/\Q (.done (.ret (.ref (h.objs.size+1)))) S) E ⟨Kg h C us,g,d,t,os⟩)
  (P:Z us<=aF):aw (aq prog w) A (gu.«type.__call__» ⟨.ref C::us,[]⟩) Q E ⟨h,g,d,t,os⟩:=by
 repeat (first|with_reducible apply l9 O'|with_reducible apply wpAny_madeBy_exc O'|wp_step)
 refine codeAny_call_builtin_code (nG _ F.quiet) (wpAny_check_new_subT F T' O' (codeAny_exc_new_subT F T' O' ?_ P));have i:∀b o,h.get? b=Y o->((h.push { cls:=.type "tuple",data:=.seq us.toArray }).push { cls:=.ref C,data:=.fields #[.ref h.objs.size,.none,.none,.none,.bool J,.none] }).get? b=Y o:=λb o z=>hp9 _ (hp9 _ z);have a:=i _ _ O';have c:(bZ C::bm).contains (.ref C)=U:=by simp
 repeat (first|with_reducible apply l9 hX|(with_reducible apply U7 a;rw[c])|wp_step)
 apply wpAny_typeLookup_tail a (hn.keeps i) (T'.keeps i) F.mroIs F.init.lookup;rw[hi];refine bQ (wb9 ?_);refine wb9 (jC ⟨_,i _ _ c3,e0⟩ ?_);refine wu9 (wb9 (bC hq (λr S e=>?_) λ_ _ x=>x));obtain⟨rfl,f⟩:=e
 wp_walk
 exact f
def Ku(F:LF B newId y I)(T':k6 h I bm)(O':h.get? C=Y (fc nm q C N bs bm hdct sn sub ab col dd k0 k1 k2 k3 k5 newId))(S:h.Ns N mN)
  (hi:mN "__init__"=Y (.ref R))(c3:h.get? R=Y oI)(e0:oI.cls=.type "function")
  (hq:aw (aq prog w) (A.under (.builtin "type.__call__" ⟨.ref C::us,[]⟩)) (call (.ref R) (.ref (h.objs.size+1)::us)) (λr s'=>r=.none/\Q (.ref (h.objs.size+1)) s') E ⟨Kg h C us,g,d,t,os⟩)
  (P:Z us<=aF):aw (aq prog w) A (call (.ref C) us) Q E ⟨h,g,d,t,os⟩:=by
 have a:=tc_lookup;have b:=tc_bind (.ref C);refine rH (codeAny_of_tree ?_)
 repeat (any_goals (first|assumption|with_reducible apply l9 O'|wp_step))
 exact⟨W,codeAny_call_builtin_at (nG _ (by decide +kernel)) entry_typeCall (wpAny_check_type_call_sub O' (Fd F T' O' S hi c3 e0 hq P))⟩
end
section
variable{A:bJ}
variable{bs bm:O ai}{sub:O ai}
end
section
variable{A:bJ}
variable{bs bm:O ai}{sub:O ai}
def FJ(F:LF B newId initId bmB)(R:bm.contains (.type "BaseException")=U)(hh:A.handled=L)(c3:(eI P (aN args env)).any (·.1)=J)(hi:mN "__init__"=Y (.ref fI))
  (h:aw (aq prog w) A (eval (.Name x np) env) (λf I=>f=.ref C/\aw (aq prog w) A (evalArgs (.ref C) U (eI P (aN args env)) [])
   (λa O'=>a.kw=[]/\Z a.pos<=aF/\O'.heap.get? C=Y (fc nm q C N bs bm hdct sn sub ab col dd k0 k1 k2 k3 k5 newId)/\O'.heap.Ns N mN/\k6 O'.heap bmB bm/\(∃oI,O'.heap.get? fI=Y oI/\oI.cls=.type "function")/\
    aw (aq prog w) (A.under (.builtin "type.__call__" ⟨.ref C::a.pos,[]⟩)) (call (.ref fI) (.ref (O'.heap.objs.size+1)::a.pos)) (λr e0=>r=.none/\e0.heap.get? C=Y (fc nm q C N bs bm hdct sn sub ab col dd k0 k1 k2 k3 k5 newId)/\
     (∃t S,e0.heap.get? (O'.heap.objs.size+1)=Y { cls:=.ref C,dict:=Y S,data:=.fields #[.ref t,.none,.none,.none,.bool J,.none] })/\E (.ref (O'.heap.objs.size+1)) e0) E ⟨Kg O'.heap C a.pos,O'.gens,O'.drawn,O'.toks,O'.os⟩) E I) E s) :
  aw (aq prog w) A (exec (.Raise (Y (.Call (.Name x np) args [] P)) L pos) env) Q E s:=by
 have i:aw (aq prog w) A (eval (.Call (.Name x np) args [] P) env) (λv I=>∃e t S,v=.ref e/\I.heap.get? C=Y (fc nm q C N bs bm hdct sn sub ab col dd k0 k1 k2 k3 k5 newId)/\
   I.heap.get? e=Y { cls:=.ref C,dict:=Y S,data:=.fields #[.ref t,.none,.none,.none,.bool J,.none] }/\E (.ref e) I) E s:=by
  refine wpAny_Call_ofName (bC h (λf I b=>?_) λ_ _ y=>y);obtain⟨rfl,b⟩:=b;refine wb9 (bQ (bC b (λa O' c=>wb9 (m6 ?_)) λ_ _ y=>y));refine ac λ_ H=>?_;obtain⟨apos,j⟩:=a;obtain⟨k,hlen,n,o,T',⟨oI,l,m⟩,c⟩:=c;obtain rfl:j=[]:=k;obtain⟨K,g,d,G,X⟩:=O';apply H;simp only[c3];refine wb9 (wpAny_keeperOf_exc n ?_);refine wb9 (Ku F T' n o hi l m (bC c (λr e0 z=>?_) λ_ _ y=>y) hlen);obtain⟨rfl,p,⟨t,S,u⟩,D⟩:=z;exact⟨W,wb9 (bQ (wpAny_point (wu9 ⟨_,t,S,W,p,u,D⟩)))⟩
 exact wb9 (m6 (by
  have a:(bZ C::bm).contains (.type "BaseException")=U:=by rw[Ll,R,p6]
  refine wb9 (bC (wb9 (wpAny_mono i (fun v e0 z => wb9 (wpAny_standAt (wu9 z))) fun x x_1 y => y)) (λv I j=>?_) λ_ _ l=>l);refine ac λ_ H=>?_;obtain⟨e,t,S,rfl,b,he,c⟩:=j;obtain⟨K,g,d,f,X⟩:=I
  apply H; repeat (first|with_reducible refine l9 he ?_|grind|(with_reducible refine U7 b ?_;rw[a])|wp_step)
  exact wpAny_raiseNew_none hh c))
end
end L2
namespace L2
open PySem.W Builtin Builtin.ObjectAttr
noncomputable def YY:ai->cc
 |.ref _=>U
 |_=>J
noncomputable abbrev VE4:O ai:=[.type "ValueError",.type "Exception",.type "BaseException",.type "object"]
def FT(l:O ai):cc:=l.dropWhile YY == VE4
theorem HU:∀{l:O ai},FT l=U->(∀self,refuseLoop self "__setattr__" l=pure ())/\l.contains (.type "object")=U
 |[],e=>nomatch e
 |v::r,e=>by
   unfold FT at e;rw[List.dropWhile_cons]at e;split at e
   .rename_i q;obtain⟨c,rfl⟩:∃c,v=.ref c:=(by
     unfold YY at q;split at q
     .exact⟨_,W⟩
     .cases q);obtain⟨a,b⟩:=HU (l:=r) e;exact⟨λself=>(refuseLoop_ref _ _ c r).trans (a _),by rw[Ll,b,p6]⟩
   .rw[eq_of_beq e];exact⟨PySem.F.store_ValueError.passes,by decide⟩
def LQ(K:au)(C:aD):cc:=(clsIn K C).any λa=>FT a.mro && a.hasDict
section
variable{s:aj}{K:au}{ox:lO}
def R9(O':ox.data=.fields vs)(X:K.In s.heap)(I:InstAt s.heap x ox C L)(hp:LQ K C=U)(ha:ih K (.ref C) name=Y L)
  (h:∀P c3,P.get? x=Y { ox with dict:=Y s.heap.objs.size }->P.Ns1 s.heap.objs.size (λy=>if y=name then Y v else L)->(∀b o,b≠x->s.heap.get? b=Y o->P.get? b=Y o)->s.heap.objs.size<P.objs.size->R (.ok (.ret .none)) { s with heap:=P,toks:=c3 }) :
  eH (aq prog w) A (.call (.builtin "object.__setattr__") ⟨[.ref x,.str name S,v],[]⟩) R s:=by
 have SF:=PySem.F.store_object;obtain⟨u,a,n⟩:=any_some hp;obtain⟨B,J'⟩:=HU (eP.mp n).1;have ne:u.mro.isEmpty=J:=by grind
 refine fZ SF.slot.plain SF.entry (@check_slot (aq _ w) _ _ s _ _ _ _ [.str _ S,v] [] _ SF.kind SF.split (I.type.andThen (BL X (by unfold mroIn;grind))) (SF.args _ (.str _ S) v) ?_);have D:gm (aq prog w) _ (mroOf (.ref C)) _:=(Qt X a).andThen .now;rw[osa_eq,refuse_eq];refine wb9 (wb9 (I.type.here (wb9 (D.here ?_))));rw[B];refine wu9 (wb9 (I.type.here (wb9 ((me X ha).here (wb9 (Looks.now.here ?_))))));refine ac λ_ j=>?_;obtain⟨hh,g,d,t,os⟩:=s;obtain⟨k,l,V,N⟩:=I;clear V; obtain⟨oc,m,E,osl⟩:=ox;subst l
 apply j; cases m with
 |some q=>exact bK N
 |none=>
   refine wb9 (wu9 (wb9 (wb9 (t7 k (wb9 ((Qt X a).here ?_))))));clear a X N; subst O';rw[(eP.mp n).2];have c :=a7 (hl9 k);refine wb9 (wpAny_alloc' (wb9 (wpAny_update' (hp9 _ k) (wu9 ?_))));refine wb9 (wu9 (wb9 (wpAny_nsSet1 (Heap.Ns1.of_empty ⟨_,_,_,((sv _ _ _ _ c.symm).trans (Heap.get?_push_at W rfl)),W,λe he=>absurd he (by simp),λ_=>W⟩) λP f Q=>?_)));refine ac λ_ j=>?_;obtain⟨M,G,H,i,p,r⟩:=f.count (Within.cons _ v Within.nil);apply j;refine wb9 (wpAny_lookBehind i (by rw[p];exact pastItsLine_dict (aa r (by simp))) ?_);refine wu9 (h P _ ((Q.2 x c).trans (du _ (hp9 _ k) W)) f (λb o hb z=>(Q.2 b (a7 (hl9 z))).trans ((sv _ _ _ _ hb).trans (hp9 _ z))) (hl9 i))
end
section
variable{h:bP}{os:ky}{a C dx:aD}{K:au}{name:aV}
noncomputable def E2(K:au)(C:aD)(name:aV):cc:=ih K (.ref C) "__getattribute__" == Y (Y (.builtin "BaseException.__getattribute__")) && ih K (.ref C) name == Y L && ih K (.ref C) "__getattr__" == Y L && mroIn K C (.type "BaseException") == Y U && hasDictIn K C
def XO(a C dx:aD):bP->Prop:=λh=>∃b,h.get? a=Y b/\b.cls=.ref C/\b.dict=Y dx/\∃c,b.data=.fields c
def Ge(X:K.In h)(x:XO a C dx h)(g:hasDictIn K C=U)(O':h.Ns dx y):gm M h (inOwnDict name (.ref a)) (y name):=λA Q E s k q=>by
 refine ac λ_ i=>?_;obtain⟨j,f,l,m,t,b⟩:=x;obtain⟨e,n,o⟩:=any_some g;obtain⟨u,c,d,p⟩:=j;subst l m b;apply i;have body:aw M A (instanceDict a J) (λz r=>aw M A (inDict name z) Q E r) E s:=by
  refine wb9 (t7 (k _ _ f) ?_);dsimp only;refine wb9 ((Qt (M:=M) X n) A _ E s k ?_);rw[o];exact wu9 (wpAny_nsGet (O'.keeps k) q)
 exact wb9 (wb9 (t7 (k _ _ f) body))
def QQ(X:K.In h)(q:E2 K C name=U)(x:XO a C dx h)(O':h.Ns dx y)(I:y name=Y v)(B:handedIn v=U)(P:Q v ⟨h,g,d,t+1,os⟩):aw (aq prog w) A (getAttr (.ref a) name expr) Q E ⟨h,g,d,t,os⟩:=by
 unfold E2 at q;simp only[ah,ef]at q;obtain⟨⟨⟨⟨e,f⟩,i⟩,j⟩,k⟩:=q;have LO:=Ge (M:=aq prog w) (name:=name) X x k O';rw[I]at LO;obtain⟨n,c,l,_,u,F⟩:=x;have b:gm (aq prog w) h (hW (.ref a)) (.ref C):=l▸(kh c).andThen .now;have L2:=me (M:=aq prog w) X f;have o:=me (M:=aq prog w) X i;have m:=BL (M:=aq prog w) X j;refine wb9 (wpAny_mkText (bQ (wb9 (b.at (wb9 ((me (M:=aq _ w) X e).at ?_))))));have p:=wc.ga.bind (.ref a);have r:(expr && onTheHeap (.builtin "BaseException.__getattribute__"))=J:=by cases expr<;>rfl
 repeat (any_goals (first|assumption|with_reducible apply Looks.at (by assumption)|wp_step))
 apply fZ wc.ga.plain BP;refine wb9 ((b.andThen m).at ?_)
 repeat (any_goals (first|assumption|with_reducible apply Looks.at (by assumption)|wp_step))
 refine (?_ : aw _ _ (handedOut v) ..);rw[handedOut_of B];exact wu9 P
end
end L2
namespace L2
open PySem.W PySem.W Builtin Builtin.ObjectAttr Builtin.Getset_descriptor
section
variable{os:ky}{C:aD}{K:au}
noncomputable def Ce(K:au)(C:aD):cc:=ih K (.ref C) "__getattribute__" == Y (Y (.builtin "BaseException.__getattribute__")) && ih K (.ref C) "__class__" == Y (Y (.builtin "object.__class__")) &&
 ih K (.ref C) "__getattr__" == Y L && mroIn K C (.type "object") == Y U && mroIn K C (.type "BaseException") == Y U
def QR(X:K.In h)(q:Ce K C=U)(x:XO a C P h)(O':Q (Y (.ref C)) ⟨h,g,d,t+1,os⟩):aw (aq prog w) A (getAttr? (.ref a) "__class__") Q E ⟨h,g,d,t,os⟩:=by
 unfold Ce at q;simp only[ah,ef]at q;refine ac λ_ D=>?_;obtain⟨⟨⟨⟨i,j⟩,k⟩,l⟩,m⟩:=q;obtain⟨R,H,I,_,S,hd⟩:=x;apply D;have e:gm (aq prog w) h (hW (.ref a)) (.ref C):=I▸(kh H).andThen .now;have n:=me (M:=aq prog w) X i;have L2:=me (M:=aq prog w) X j;have s:=me (M:=aq prog w) X k;have u:=BL (M:=aq prog w) X l;have o:=BL (M:=aq prog w) X m;unfold getAttr? getAttrBy? getAttrBy;refine wb9 (wpAny_mkText (wb9 (iV (bQ (wb9 (e.at (wb9 (n.at ?_))))))));dsimp only;rw[cv (by simp[onTheHeap])];have f:=wc.ga;have v:=f.bind (.ref a);unfold getAttrByItsOwn hookBefore callGetattribute boundAndCalled
 repeat (any_goals (first|assumption|with_reducible refine Looks.at (by assumption) ?_|wp_step))
 refine fZ f.plain BP ?_;have N:builtinKind "BaseException.__getattribute__"=Y .slot:=by decide +kernel
 have b:splitId "BaseException.__getattribute__"=Y ("BaseException","__getattribute__"):=by decide +kernel
 have ha:=PySem.F.args_bexc_ga (.ref a) (.str "__class__" t);have p:gm (aq prog w) h (g8 (.ref a) (.type "BaseException")) U:=e.andThen o;simp only[checkBuiltinCall,N,b];refine wb9 (p.at ?_);have y:hW (.builtin "object.__class__")=pure (.type "getset_descriptor"):=Em;have c:∀(g:c4 nc)(d:Drawn)(t:T)(os:ky),(⟨h,g,d,t,os⟩:aj).TypeIs (.builtin "object.__class__") "getset_descriptor":=λ_ _ _ _=>Em;have r:=c g d (t+1) os;have z:=PySem.F.slot_gs_get.lookup;have B:=PySem.F.slot_gs_set.lookup
 repeat (any_goals (first|assumption|with_reducible refine Looks.at (by assumption) ?_|wp_step))
 refine fZ KF.slot_gs.plain KF.entry_gs (KF.slot_gs.check _ _ _ _ _ _ _ _ Em (KF.args_gs _ _ _) ?_);unfold gu.«getset_descriptor.__get__» descrGet;rw[dga_obj];refine wb9 (wu9 ?_);unfold descrGetter descrCheckInstance descrNameAndClass g8;simp only[KF.owner_class]
 repeat lk
 refine⟨nG _ (by decide +kernel),fK KF.entry_class ?_⟩;unfold gu.«object.__class__» shownTypeOf
 repeat lk
 exact O'
def YH(q:Ce K C=U):KitX K (.ref a) (.ref C) (XO a C y) where
 ty:=λM h X l=>by obtain⟨u,o,j,_⟩:=l;exact j▸(kh o).andThen .now
 it:=λM h X x=>by
  unfold Ce at q;simp only[ah,ef]at q;obtain⟨c,j,_⟩:=bX q.1.2;unfold clsIn at j;split at j
  .rename_i m;intro f B i F k q;unfold isType loadHead;exact wb9 (t7 (k _ _ (X _ _ m)) (wu9 q))
  .cases j
 ne:=λh p H r n sl X b=>by
  unfold Ce at q;simp only[ah,ef]at q;obtain⟨c,j,_⟩:=bX q.1.2;refine LN.mpr λq=>?_;have e:C=p:=Value.ref.inj (beq_iff_eq.mp q);subst e;unfold clsIn at j;split at j
  .rename_i m;have z:=(X _ _ m).symm.trans b;cases z
  .cases j
 ca:=λ{prog w A E Q s}X x k=>by
  obtain⟨h,g,d,t,os⟩:=s;exact QR X q x k
end
def UY(a C:aD):bP->Prop:=λh=>∃t,h.get? a=Y { cls:=.ref C,data:=.fields #[.ref t,.none,.none,.none,.bool J,.none] }
def XR(a C g:aD):bP->Prop:=λh=>∃t,h.get? a=Y { cls:=.ref C,dict:=Y g,data:=.fields #[.ref t,.none,.none,.none,.bool J,.none] }
structure ZR(K:au)(C:aD)(f:aV):Prop where
 over:LQ K C=U
 no:mM K (.ref C) f=Y L
 sa:mM K (.ref C) "__setattr__"=Y (Y (.builtin "object.__setattr__"))
section
end
end L2
namespace L2
open PySem.Calls
noncomputable abbrev bmV:O ai:=[.type "ValueError",.type "Exception",.type "BaseException",.type "object"]
def wu(K:au)(C g:aD):cc:=match K.lookup C with
 |some ⟨c,_,.cls a,sl⟩=>c == .type "type" && a.mro == .ref C::a.mro.tail && decide (sl.size=6) && sl[4]? == Y (Y (.builtin "ValueError.__new__")) && !a.hasDel && PySem.W.tailIn K bmV a.mro.tail && PySem.W.nsOkIn K a.ns && fJ K a.ns "__init__" == Y (Y (.ref g)) && sO K (.ref g)
 |_=>J
set_option tactic.hygienic true
def SD{K:au}(X:K.In h)(G:h.Ns N m)(e:fJ K N n=Y (Y v)):m n=Y v:=by
 obtain⟨o,d,f,a,b,_,c⟩:=G;unfold fJ at e;split at e
 .rename_i q;have z:=X _ _ q;rw[a]at z;clear X a q; cases z;cases b;split at e
  .rename_i g i;cases e;rw[<-c];unfold nsFind findBy
   grind
  grind
 .cases e
def ad4{α:Type}{l:O α}(h:Z l=6):∃a b c d e f,l=[a,b,c,d,e,f]:=by
 obtain⟨a,l,rfl⟩:=di h;obtain⟨b,l,rfl⟩:=di (dO h);obtain⟨c,l,rfl⟩:=di (dO (dO h));obtain⟨d,l,rfl⟩:=di (dO (dO (dO h)));obtain⟨e,l,rfl⟩:=di (dO (dO (dO (dO h))));obtain⟨f,rfl⟩:=gD.mp (dO (dO (dO (dO (dO h)))));exact⟨a,b,c,d,e,f,W⟩
def Nu{K:au}(X:K.In h)(q:wu K C y=U) :
  ∃O' N nm q bs hdct sn sub ab col dd k0 k1 k2 k3 k5 B,h.get? C=Y (fc nm q C N bs O' hdct sn sub ab col dd k0 k1 k2 k3 k5 "ValueError.__new__")/\h.Ns N B/\B "__init__"=Y (.ref y)/\k6 h bmV O'/\sO K (.ref y)=U:=by
 unfold wu at q;split at q
 .rename_i c dd f sl p;simp only[ah,ef,jG,c5]at q;refine ac λ_ s=>?_;obtain⟨⟨⟨⟨⟨⟨⟨⟨rfl,e⟩,o⟩,g⟩,a⟩,r⟩,m⟩,b⟩,d⟩:=q;obtain⟨nm,bs,t,u,i,w,sn,sub,ab,col,j⟩:=f;cases a;obtain⟨l⟩:=sl;obtain⟨k0,k1,k2,k3,k,k5,rfl⟩:=ad4 o;clear o; cases g;apply s;have n:=X _ _ p;dsimp only at e n;rw[e]at n;exact⟨_,u,nm,i,bs,w,sn,sub,ab,col,dd,k0,k1,k2,k3,k5,_,n,.of_isNs (EO X m),SD X (.of_isNs (EO X m)) b,PySem.W.tail_of_in X r,d⟩
 .cases q
set_option tactic.hygienic false
def wI(C:aD)(f:aV):Sp:=λc H Q _=>∃a y,c=[.ref a,y]/\H a=Y (.ext (UY a C))/\∀b,H b=L->b≠a->Q .non (upd (upd H a (.ext (XR a C b))) b (.xd [(f,y)]))
section
variable{f:aV}{pos:rJ}{ta tv:TE}
def sXf(K:au)(ta tv:TE)(f:aV):TS:=λD d H=>tv d H λy b=>ta d b λx e=>∃a C,x=.ref a/\e a=Y (.ext (UY a C))/\ZR K C f/\∀c,e c=L->c≠a->D.nx d (upd (upd e a (.ext (XR a C c))) c (.xd [(f,y)]))
def RZ(ha:PE X o ta)(O':PE X value tv)(hs:fo value (Y (.Attribute o f pos')) pos.line X.env=pure J):PS X (.Assign [.Attribute o f pos'] value pos) (sXf X.K ta tv f):=by
 intro S s σ H D I h;refine plainObj_wpAny_Assign_Attribute (jc (O' S s σ H _ I h) λu s1 G=>?_) hs;obtain⟨y,b,d,e,q⟩:=G;refine jc (ha S s1 σ b _ d q) λg s2 v=>?_;refine ac λ_ kq=>?_;obtain⟨x,N,i,j,a,C,rfl,k,c,l⟩:=v;obtain rfl:g=bZ a:=j;have V:∀Q s',N Q=L->Q≠a->Inv X S σ (upd (upd N a (.ext _)) Q (.xd _)) s'->(fun x => SP X S D Flow.next) () s':=λQ s3 m n p=>⟨σ,_,p,l Q m n⟩;clear l; obtain⟨⟨t,ho⟩,_,_⟩:=i.hok a _ k;apply kq;have j:PySem.W.InstAt _ a _ C L:=⟨ho,W,W,lY⟩
 refine PySem.W.set_plain i.xE j c.sa (R9 W i.xE j c.over c.no λh' B h1 h2 h3 x=>?_);have nd:s2.heap.get? _=L:=mD (ao _);have hd :=i.hok.fresh (ao _);have M:s2.heap.objs.size≠a:=λz=>by simp_all
 have d:∀b,b≠a->b≠s2.heap.objs.size->upd (upd N a (.ext (XR a C s2.heap.objs.size))) _ (.xd [(f,y)]) b=N b:=λb m F=>by rw[cA F,cA m]
 have r:upd (upd N a (.ext (XR a C s2.heap.objs.size))) s2.heap.objs.size (.xd [(f,y)]) a=Y (.ext (XR a C s2.heap.objs.size)):=by rw[cA M.symm,bN]
 have R:∀b,N b=L->b≠a:=λb z q=>by rw[q,k]at z;cases z
 have P :=λb o z E=>h3 b o E z;refine V _ _ hd M (i.un ⟨λb o z E _ _=>P b o z (R b E),λb o z E _ _=>⟨_,P b o z (R b E)⟩,λb o z E _=>?_,λb o z _=>?_,λb xs z=>?_,λb o u z=>?_⟩ λb o z=>?_)
 .rwa[d b (R b E) ((λb o z q=>by grind) b o z)]
 .by_cases q:b=a
  .simp_all
  .exact⟨o,P b o z q⟩
 .grind
 .grind
 .by_cases q:b=s2.heap.objs.size
  .clear i k c V ho left right j h1 h3 x nd hd M d r R P; subst q;rw[bN]at z;cases z;refine⟨_,h2,λg=>?_⟩;by_cases q:g=f
   .clear h2; subst q;rwa[cb W,dP,e8]
   .rw[cv q,dP,beq_eq_false_iff_ne.mpr q];exact lY
  .by_cases A:b=a
   .clear i k c V ho left right j h3 x nd hd M d R P; clear d kq; subst A;rw[r]at z;cases z;exact⟨⟨t,h1⟩,⟨_,h1⟩,λh1 h2 ⟨t,q⟩ k=>⟨t,k _ q⟩⟩
   .rw[d b A q]at z;exact(i.hok b o z).nj λw v=>P b w v A
end
section
variable{K:au}{base:bP}
def Uc{st:fP}(F:Z2 K x qual st B fd)(S:mG ["self",f] ["self",f] (br st))(I:jQ st=[.Assign [.Attribute (.Name "self" R) f p2] (.Name f p3) p4])(c:ZR K C f)
  (O':P1 (br st) "self")(c3:P1 (br st) f)(hd:(f == ("__debug__":aV))=J)(e0:(f == ("__classdict__":aV))=J)
  (hs:∀env:B6,env.scope=br st->fo (.Name f p3) (Y (.Attribute (.Name "self" R) f p2)) p4.line env=pure J):jt P w K mg base sJ (k+1) B fd ["self",f] (wI C f):=by
 refine ac λ_ m=>?_;obtain⟨N,X,kV,n,pm,an,o,ct,p,rfl,d,b⟩:=F.ex;apply m;refine OS d b S (λr H Q E l=>by obtain⟨a,y,e,_⟩:=l;rw[e];rfl) λA outer s H r Q E j P=>?_;obtain⟨a,y,e,t,q⟩:=P;subst e;rw[I];exact⟨_,HH (RZ (mr (i:=0) W O' (by decide) (by decide)) (mr (i:=1) W c3 hd e0) (hs _ W)),⟨y,W,_,W,a,C,W,t,c,λu g h=>q u g h⟩⟩
end
def kL.here(x:kL P w H h a o):∃O',h.get? a=Y O':=by
 cases o with
 |lst b=>obtain⟨_,_,_,_,e⟩:=x;exact⟨_,e⟩
 |tup b=>obtain⟨_,_,_,o,e,_⟩:=x;exact⟨_,e⟩
 |dK c=>obtain⟨_,_,_,_,o,_,_,e,_⟩:=x;exact⟨_,e⟩
 |xd d=>obtain⟨_,⟨_,_,_,e,_⟩,_⟩:=x;exact⟨_,e⟩
 |l8 O' u=>exact⟨_,x.1⟩
 |ext f=>exact x.2.1
def sH.none(x:sH P w H h)(e:h.get? a=L):H a=L:=by
 cases q:H a with
 |none=>rfl
 |some o=>
   obtain⟨b,z⟩:=(x a o q).here;rw[e]at z;cases z
structure Flt(P:ck)(w:cW)(outer:O B6)(H H':Hp)(h:bP)(a C dx:aD)(B h':bP):Prop where
 fly:pW B outer a (.ref C) dx .none h'
 kp:∀b o,h.get? b=Y o->H b=L->b∉pP outer->B.get? b=Y o
 th:∀b o,h.get? b=Y o->b∉pP outer->∃o',B.get? b=Y o'
 hok:sH P w H' B
 un:Un (pP outer) [] H H' h h'
 fr:H' a=L
def vF(P:ck)(w:cW):U4:=λouter H s E e b=>∃(a C c:aD) (d:Hp) (B:bP),e=.ref a/\b.os=s.os/\mn b.gens/\Flt P w outer H d s.heap a C c B b.heap/\E (.ref C) (Y c) d
section
variable{K:au}{base:bP}
end
def Ef(X:Cx)(E:XK):Prop:=∀(c:O (aD×lO))(d:St)(H:Hp)(s0 s:aj)(a C b:aD)(o:HO),Inv X c d H s0->s0.heap.get? a=L->Inv X c d (upd (upd H a (.ext (XR a C b))) b o) s->b≠a->E (.ref C) (Y b) (upd H b o)->X.xe (.ref a) s
section
variable{K:au}{base:bP}
def LV:Ef (kQ (vF P w) P w K mg base N qual scope f cd A outer F H₀ E) E:=λh_ σ H s0 s a C Q o c d I b q=>by
 have k:upd (upd H a (.ext (XR a C Q))) Q o a=Y (.ext (XR a C Q)):=by rw[cA b.symm,bN]
 have X:∀i,i≠a->upd (upd H a (.ext (XR a C Q))) Q o i=upd H Q o i:=λi n=>by
  by_cases z:i=Q
  .clear c d I b q k n; subst z;rw[bN,bN]
  .rw[cA z,cA z,cA n]
 obtain⟨⟨t,ho⟩,_,_⟩:=I.hok a _ k
 have M:∀i u,F.heap.get? i=Y u->i≠a:=λi u z y=>by
  clear I b q k X ho left right; subst y;obtain⟨D,g⟩:=c.base.there i u z (by intro z;cases z);rw[d]at g;cases g
 have x:∀i u,F.heap.get? i=Y u->i∉pP outer->i∉a::pP (kQ (vF P w) P w K mg base N qual scope f cd A _ F H₀ E).stack:=λi u B R z=>by
  rcases ak.mp z with z|z
  .exact M i u B z
  .rcases ak.mp z with z|z
   .exact absurd (hl9 B) (by simp_all)
   .exact R z
 refine Gh I.ok.frames (PySem.W.funFrames_hide I.stack (λenv he i X=>jU _ (jh.mpr ⟨_,he,X⟩))) W ho (λi o q=>EM _ q) (B0 _ jB) W rfl rfl λV G l=>?_;have kp :=λi o B R S=>
  my _ (I.base.keep i o B R S (by intro z;cases z)) (x i o B S)
 have th:∀i o,F.heap.get? i=Y o->i∉pP _->∃D,(pE _ (a::pP _)).get? i=Y D:=λi o B S=>by
  obtain⟨D,z⟩:=I.base.there i o B (by intro z;cases z);exact⟨D,my _ z (x i o B S)⟩
 have sl:∀i o,F.heap.get? i=Y o->H₀ i=L->i∈pP _->∃sl,V.get? i=Y { o with slots:=sl }:=λi o B R S=>by
  obtain⟨sl,z⟩:=I.base.slot i o B R S (by intro z;cases z);obtain⟨_,m,h,e5⟩:=I.ok.rW.mem S;have h:F.heap.get? i=Y m:=h;rw[B]at h;cases h;obtain⟨j,g⟩:=l i _ z e5;exact⟨j,g⟩
 have tr:∀i u,upd (upd H a (.ext (XR a C Q))) Q o i=Y u->(∀φ,u≠.ext φ)->upd H Q o i=Y u:=λi u z n=>by
  grind
 refine⟨a,C,Q,_,_,W,I.os,I.bare,⟨G,kp,th,λr u hc=>?_,⟨λi o B R S _=>G.st i o (kp i o B R S),λi o B R S _=>sl i o B R S,λi u B R _=>?_,λi o B _=>?_,λi xs z=>tr i _ (I.base.tups i xs z) (λ_ y=>by cases y),λi o u z=>tr i _ (I.base.frzs i o u z) (λ_ y=>by cases y)⟩,?_⟩,q⟩
 .have e:r≠a:=λy=>by
   clear I q k X ho left right M x G l kp th sl tr; subst y;rw[cA b.symm]at hc;rw[c.hok.none d]at hc;cases hc
  refine(I.hok r u (by rwa[X r e])).nj λv p=>?_;refine my _ p λz=>?_
  rcases ak.mp z with z|z
  .exact e z
  .have n:=I.AB r z
   simp_all
 .have z:=I.base.free i u B R (by intro z;cases z);rwa[X i (M i u B)]at z
 .by_cases X:i∈pP outer
  .obtain⟨sl,z⟩:=sl i o B (I.ok.frf i X) X;exact⟨_,z⟩
  .obtain⟨D,z⟩:=th i o B X;exact⟨D,G.st i D z⟩
 .rw[cA b.symm];exact c.hok.none d
def Ko:qx (vF P w) (kQ (vF P w) P w K mg base N qual scope f cd A outer y R E) E:=λh_ σ H s e M I h=>by
 obtain⟨a,C,D,G,B,rfl,ho,i,F,q⟩:=h;have c:pP (kQ (vF P w) P w K mg base N qual scope f cd A outer _ R E).stack=y.heap.objs.size::pP _:=rfl
 have X:∀b u,y.heap.get? b=Y u->b∉pP _->b∉pP (kQ _ P w K mg _ N _ _ f cd A _ _ _ E).stack:=λb u n p z=>by
  rw[c]at z
  rcases ak.mp z with z|z
  .exact absurd (hl9 n) (by rw[z];exact bE _)
  .exact p z
 refine Kv (base:=B) (L':=y.heap.objs.size) I.ok.frames W F.fly λx Q j=>?_;have kp:∀b o,y.heap.get? b=Y o->R b=L->b∉pP outer->B.get? b=Y o:=λb o n p r=>F.kp b o (I.base.keep b o n p r (by intro z;cases z)) (I.base.free b o n p (by intro z;cases z)) (X b o n r)
 have th:∀b o,y.heap.get? b=Y o->b∉pP _->∃t,B.get? b=Y t:=λb o n r=>by
  obtain⟨t,z⟩:=I.base.there b o n (by intro z;cases z);exact F.th b t z (X b o n r)
 have sl:∀b o,y.heap.get? b=Y o->R b=L->b∈pP _->∃sl,x.get? b=Y { o with slots:=sl }:=λb o n p r=>by
  obtain⟨sl,z⟩:=I.base.slot b o n p r (by intro z;cases z);obtain⟨zw,k⟩:=F.un.slot b _ z (I.base.free b o n p (by intro z;cases z)) (by rw[c];exact jU _ r) (by intro z;cases z);obtain⟨_,l,d,e5⟩:=I.ok.rW.mem r;have d:y.heap.get? b=Y l:=d;rw[n]at d;cases d;obtain⟨g,m⟩:=j b _ k e5;exact⟨g,m⟩
 refine⟨a,C,D,G,B,W,ho.trans I.os,i,⟨Q,kp,th,F.hok,⟨λb o n p r _=>Q.st b o (kp b o n p r),λb o n p r _=>sl b o n p r,λb u n p _=>?_,λb o n _=>?_,λb v z=>F.un.tups b v (I.base.tups b v z),λb o u z=>F.un.frzs b o u (I.base.frzs b o u z)⟩,F.fr⟩,q⟩
 .obtain⟨t,z⟩:=I.base.there b u n (by intro z;cases z);exact F.un.free b t z (I.base.free b u n p (by intro z;cases z)) (by intro z;cases z)
 .by_cases S:b∈pP outer
  .obtain⟨sl,z⟩:=sl b o n (I.ok.frf b S) S;exact⟨_,z⟩
  .obtain⟨t,z⟩:=th b o n S;exact⟨t,Q.st b t z⟩
end
section
def M8(c3:Ef X E)(e0:X.calm=U)(hg:Gl X x)(hm:X.mg x=Y (.ref C))(q:wu X.K C fI=U)(hd:(x == ("__debug__":aV))=J)(F:jt X.prog X.w X.K X.mg X.base sJ k fI fd ["self",f] (wI C f))(hr:i5 (k+1) X.A)(hb:Binds X.K fd ["self",f] [])(ha:PA X.j3 [e₀] t)
  (he:aN [e₀] X.env=[(J,eval e₀ X.env)]) :
  PS X (.Raise (Y (.Call (.Name x np) [e₀] [] cpos)) L pos) (λ_ σ H=>t σ H λvs O'=>∃v,vs=[v]/\∀dx,O' dx=L->E (.ref C) (Y dx) (upd O' dx (.xd [(f,v)]))):=by
 intro h_ s σ H D I h;refine ac λ_ kq=>?_;obtain⟨tl,N,nm,L',bs,hdct,sn,sub,ab,col,dd,k0,k1,k2,k3,k5,V,J',M,hi,T',m⟩:=Nu I.mod.kin q;apply kq;refine FJ (nm:=nm) (q:=L') (N:=N) (bs:=bs) (hdct:=hdct) (sn:=sn) (sub:=sub) (ab:=ab) (col:=col) (dd:=dd) (k0:=k0) (k1:=k1) (k2:=k2) (k3:=k3) (k5:=k5) wb (T'.hasType wb.hasBase) (I.ok.hd e0) (by rw[he];rfl) hi (qH I hg hm ⟨W,?_⟩ hd);have h:=ha cpos h_ s σ H _ (I.oZ _) h;rw[he]at h ⊢;refine EW (bC h (λus a B=>?_) λ_ _ y=>bK y);refine ac λ_ kq=>?_;obtain⟨vs,O',c,r,v,rfl,P⟩:=B;apply kq;refine ac λ_ kq=>?_;have c:=c.iY;obtain⟨u,rfl,Q⟩:=r.one;obtain⟨j,R,n⟩:∃j,X.K.lookup fI=Y j/\j.cls=.type _:=by obtain⟨o,h1,h2⟩:=dY (beq_iff_eq.mp m);exact ⟨o,h1,h2⟩
 apply kq; have p:Inv X h_ σ (upd O' (a.heap.objs.size+1) (.ext (UY (a.heap.objs.size+1) C))) { a with heap:=Kg a.heap C [u],toks:=a.toks }:=by
  exact c.laid (λb o z=>hp9 _ (hp9 _ z)) (oR _) ⟨⟨_,(by heap_get)⟩,⟨_,(by heap_get)⟩,λh1 h2 ⟨t,z⟩ k=>⟨t,k _ z⟩⟩
 refine⟨W,by show 1<=aF;decide,c.bk _ _ J',M.keeps c.bk,T'.keeps c.bk,⟨j,c.xE _ _ R,n⟩,?_⟩;refine rH (iQ (F.run _ _ _ _ ⟨_,[]⟩ _ [.ref _,v] (λz H2=>z=.non/\∃dx,O' dx=L/\dx≠a.heap.objs.size+1/\H2=upd (upd O' _ (.ext (XR _ C dx))) dx _) E0 (hr.make C _ []) (p.Zh.make C _ []) (hb _ _ p.xE W) (.cons rfl (.cons Q .nil))
  ⟨_,v,W,bN,λdx l d=>⟨W,dx,by rwa[cA d]at l,d,by rw[QX]⟩⟩) λr g i=>?_)
 cases r with
 |error e=>exact bK i
 |ok fl=>
   cases fl with
   |ret z=>
     refine ac λ_ kq=>?_;obtain⟨e1,H2,G,S,U',dx,l,d,e2⟩:=p.after i;subst U' e2;obtain⟨⟨t,ht⟩,_,_⟩:=G.hok _ _ (by rw[cA d.symm,bN]);apply kq;exact⟨S,G.bk _ _ J',⟨t,dx,ht⟩,c3 h_ σ O' a g _ C dx _ c (mD (oR _)) G d (P dx l)⟩
   |next=>exact bK i
   |brk=>exact bK i
   |cont=>exact bK i
end
section
def Flt.Yd(F:Flt P w outer H g h a C y B I):a∉pP outer:=λz=>by
 obtain⟨_,o,b,c⟩:=F.fly.fr.mem z;obtain⟨d,e,T',f,i,j,_,_,k,_⟩:=F.fly.tr
 grind
def Flt.new(F:Flt P w outer H g h a C y B I):h.get? a=L:=by
 cases q:h.get? a with
 |none=>rfl
 |some o=>
   obtain⟨b,z⟩:=F.th a o q F.Yd;rw[F.fly.en]at z;cases z
def Flt.there(F:Flt P w outer H I h a C g B y):XO a C g y:=by obtain⟨b,c,d,e,f,i⟩:=F.fly.there;exact⟨b,d,e,f,c,i⟩
def Flt.step(F:Flt P w outer H R h a C I B S)(O':pW B outer a (.ref C) I .none y)(u:S.UpToSlots y):Flt P w outer H R h a C I B y:=by
 refine⟨O',F.kp,F.th,F.hok,⟨λb o i k j _=>O'.st b o (F.kp b o i k j),λb o i k j e=>?_,F.un.free,λb o i e=>?_,F.un.tups,F.un.frzs⟩,F.fr⟩
 .obtain⟨sl,z⟩:=F.un.slot b o i k j e;obtain⟨_,f,c,e5⟩:=F.fly.fr.mem j;rw[z]at c;cases c;obtain⟨d,g⟩:=u b _ z e5;exact⟨d,g⟩
 .by_cases l:b∈pP outer
  .obtain⟨_,f,c,e5⟩:=O'.fr.mem l;exact⟨f,c⟩
  .obtain⟨m,z⟩:=F.th b o i l;exact⟨m,O'.st b m z⟩
def Flt.un2(F:Flt P w outer H g h a C y B I):Un (pP outer) [] H (upd g a (.ext (XO a C y))) h I where
 keep:=F.un.keep
 slot:=F.un.slot
 free:=λb o c e f=>by
  rw[cA (λz=>by subst z;rw[F.new]at c;cases c)];exact F.un.free b o c e f
 there:=F.un.there
 tups:=λb d q=>by have:=F.un.tups b d q;rw[cA (iq this F.fr)];exact this
 frzs:=λb o d q=>by have:=F.un.frzs b o d q;rw[cA (iq this F.fr)];exact this
end
section
variable{X:Cx}{s':aj}
def Flt.inv(I:Inv X y σ H s)(F:Flt X.prog X.w X.stack H P s.heap a C R B s'.heap)(S:s'.os=s.os)(O':mn s'.gens):Inv X y σ (upd P a (.ext (XO a C R))) s':=
 I.VV S F.un2 (λb o e=>by
 by_cases g:b=a
 .subst g;rw[bN]at e;cases e;obtain⟨h,i,j⟩:=F.there;exact⟨⟨h,i,j⟩,⟨h,i⟩,λl m ⟨c,d,f⟩ k=>⟨c,k c d,f⟩⟩
 .rw[cA g]at e;exact((F.hok.kept λb u q=>F.fly.st b u q) b o e).nj λ_ q=>q) O' λb z=>by cases z
noncomputable def Cx.VG(X:Cx)(e:ai):Cx:={ X with A:=X.A.mark (Y e),calm:=J,xe:=λ_ _=>False }
def Inv.VG(I:Inv X g σ H s)(e:ai):Inv (X.VG e) g σ H s:=
 ⟨⟨I.ok.mod,I.ok.kind,I.ok.glob,I.ok.blt,I.ok.above,I.ok.inj,I.ok.has,I.ok.cab,(λz=>by cases z),I.ok.frames,I.ok.Qh,I.ok.exf,I.ok.bs,I.ok.bsz,I.ok.noex,I.ok.exfs,I.ok.rW,I.ok.frf⟩,I.os,I.bare,I.base,I.loc,I.cell,I.free,I.freeC,I.pin,I.hok,I.len⟩
def Inv.adK(ok:X.Ok)(I:Inv (X.VG e) g σ H s):Inv X g σ H s:=
 ⟨ok,I.os,I.bare,I.base,I.loc,I.cell,I.free,I.freeC,I.pin,I.hok,I.len⟩
end
section
variable{A:bJ}
def yS{K:au}{rest:O vL}
  (P:iJ K cls c=Y U)
  (h:aw (aq prog w) (A.mark (Y (.ref e))) (eval t env) (λR g=>R=c/\K.In g.heap/\(∃I,g.heap.get? e=Y I/\I.cls=cls)/\
   aw (aq prog w) (A.mark (Y (.ref e))) (h9 (.ref e) L) (λ_ O'=>
       aw (aq prog w) (A.mark (Y (.ref e))) (storeName env n (.ref e)) (λ_ S=>
        aw (aq prog w) (A.mark (Y (.ref e))) (j_ (c3::B) env)
         (λf C=>aw (aq prog w) A (do bindName env n .none;unbindBehindTheSuite env n pos) (λ_ F=>Q f F) E C)
         (AsSuiteRaised (aq prog w) (A.mark (Y (.ref e))) env n pos (k7 (aq prog w) (A.mark (Y (.ref e))) env (hK (aq prog w) A env E))) S) (k7 (aq prog w) (A.mark (Y (.ref e))) env (hK (aq prog w) A env E)) O') (k7 (aq prog w) (A.mark (Y (.ref e))) env (hK (aq prog w) A env E)) g) (k7 (aq prog w) (A.mark (Y (.ref e))) env (hK (aq prog w) A env E)) s) :
  aw (aq prog w) A (handleBy (.ref e) env (.ExceptHandler (Y t) (Y n) (c3::B) pos::rest)) Q E s:=by
 refine wpAny_handleBy_cons (codeAny_handlers_test (bC h (λc g a=>?_) λ_ _ y=>y)) (by intro q;cases q);refine ac λ_ i=>?_;clear h; obtain⟨rfl,d,⟨I,j,b⟩,k⟩:=a;apply i;exact PySem.W.exm_one d (by rw[<-b];exact(kh j).andThen .now) P _ _ _ _ (λ_ _ q=>q) (codeAny_handlers_suite_as k)
end
section
end
section
variable{X:Cx}{s':aj}{D:aV}{Dn:Ends}
end
section
variable{i j m:T}{CD:aD}{sp:Sp}{D:aV}{t:TA}
def QS(K:au)(CD:aD)(Q:aD->Hp->Prop):XK:=λc d H=>∃C b,c=.ref C/\d=Y b/\iJ K (.ref C) (.ref CD)=Y U/\∀a,H a=L->Q a (upd H a (.ext (XO a C b)))
def aar(K:au)(sp:Sp)(CD:aD)(i j m:T)(t:TA):TS:=λb d H=>t d H λf c=>sp f c (λv e=>b.nx (d.set i (Y v)) e)
 (QS K CD λa e=>b.nx (((d.set m (Y (.ref a))).set j (Y (.ref a))).set m L) e)
end
end L2
namespace M
open L2
set_option genInjectivity true in
inductive Dat where
 |non|bl (b:cc)|int (i:cx)|str (x:aV)|tup (xs:O Dat)|lst (xs:O Dat)|dct (ks:O Key) (vs:O Dat)|any|exc (c:T) (f:aV) (k:Key)
 deriving Inhabited
abbrev Fg:=au
def Tq(K:Fg)(F:Hp)(a:aD)(g:O V):Prop:=F a=Y (.tup g)\/∃(o:lO) (b:c4 ai) (n:T),K.lookup a=Y o/\o.cls=.type "tuple"/\o.data=.seq b n/\b.size<=aF/\cX g b.toList
def Tq.sq{K:Fg}(h:Tq K F a g):vj K F a g:=by
 rcases h with h|h
 .exact .inl (.inl h)
 .exact .inr h
def Tq.mono{K:Fg}(s:cz F g)(h:Tq K F a y):Tq K g a y:=by
 rcases h with h|h
 .exact .inl (s _ _ h)
 .exact .inr h
def NV2(K:Fg)(F:Hp):O N2->O V->Prop
 |[],a=>a=[]
 |.inl k::c,a=>∃r,a=kV k::r/\NV2 K F c r
 |.inr q::c,a=>∃b r,a=.ref b::r/\Tq K F b (q.map kV)/\NV2 K F c r
def NVs(K:Fg)(F:Hp):O NK->O V->Prop
 |[],a=>a=[]
 |.inl k::c,a=>∃r,a=kV k::r/\NVs K F c r
 |.inr q::c,a=>∃b r d,a=.ref b::r/\Tq K F b d/\NV2 K F q d/\NVs K F c r
def NKy(K:Fg)(F:Hp)(k:O NK)(a:aD):Prop:=∃b,Tq K F a b/\NVs K F k b
mutual
def Rep(K:Fg)(F:Hp):Dat->V->Prop
 |.non,v=>v=.non
 |.bl b,v=>v=.bl b
 |.int i,v=>v=.int i
 |.str x,v=>v=.str x
 |.tup d,v=>∃a e,v=.ref a/\Tq K F a e/\cQ K F d e
 |.lst d,v=>∃a e,v=.ref a/\pC K F a e/\cQ K F d e
 |.dct j d,v=>∃a g,v=.ref a/\F a=Y (.dK g)/\g.map (·.1)=j/\cQ K F d (g.map (·.2))
 |.any,_=>True
 |.exc c f k,v=>∃a h,v=.ref a/\F a=Y (.ext (XO a c h))/\F h=Y (.xd [(f,kV k)])
def cQ(K:Fg)(F:Hp):O Dat->O V->Prop
 |[],a=>a=[]
 |d::b,a=>∃v r,a=v::r/\Rep K F d v/\cQ K F b r
end
mutual
theorem Rep.mono{K:Fg}(s:cz F B):∀(d:Dat){v:V},Rep K F d v->Rep K B d v
 |.non,_,h=>h
 |.bl _,_,h=>h
 |.int _,_,h=>h
 |.str _,_,h=>h
 |.tup b,_,c=>by obtain⟨a,f,e,t,r⟩:=c;exact⟨a,f,e,t.mono s,cQ.mono s b r⟩
 |.lst b,_,g=>by obtain⟨a,f,e,t,r⟩:=g;exact⟨a,f,e,s.seq t,cQ.mono s b r⟩
 |.dct _ b,_,l=>by obtain⟨a,i,e,t,k,r⟩:=l;exact⟨a,i,e,s _ _ t,k,cQ.mono s b r⟩
 |.any,_,_=>trivial
 |.exc _ _ _,_,y=>by obtain⟨a,j,e,t,r⟩:=y;exact⟨a,j,e,s _ _ t,s _ _ r⟩
theorem cQ.mono{K:Fg}(s:cz F y):∀(ds:O Dat){g:O V},cQ K F ds g->cQ K y ds g
 |[],_,h=>h
 |d::ds,_,c=>by obtain⟨v,r,e,a,b⟩:=c;exact⟨v,r,e,Rep.mono s d a,cQ.mono s ds b⟩
end
theorem cQ.length{K:Fg}:∀{ds:O Dat}{g:O V},cQ K F ds g->Z g=Z ds
 |[],_,h=>by rw[h];rfl
 |d::ds,_,a=>by obtain⟨v,r,e,_,b⟩:=a;rw[e,bG,bG,cQ.length b]
theorem cQ.get{K:Fg}:∀{ds:O Dat}{g:O V}{i:T}{d:Dat},cQ K F ds g->ds[i]?=Y d->∃v,g[i]?=Y v/\Rep K F d v
 |[],_,_,_,_,e=>by simp at e
 |d::ds,_,0,_,a,z=>by obtain⟨v,r,rfl,f,_⟩:=a;simp at z;subst z;exact⟨v,W,f⟩
 |d::ds,_,i+1,_,a,z=>by
   obtain⟨v,r,rfl,_,h⟩:=a;obtain⟨w,b,c⟩:=cQ.get h (by simpa using z);exact⟨w,by simpa using b,c⟩
theorem cQ.append{K:Fg}:∀{ds es:O Dat}{g y:O V},cQ K F ds g->cQ K F es y->cQ K F (ds++es) (g++y)
 |[],_,_,_,h,a=>by rw[h];exact a
 |d::ds,_,_,_,b,a=>by obtain⟨v,r,e,c,f⟩:=b;subst e;exact⟨v,r++_,W,c,cQ.append f a⟩
def cQ.one{K:Fg}(h:Rep K F d v):cQ K F [d] [v]:=⟨v,[],W,h,W⟩
theorem cQ.take{K:Fg}:∀(n:T){ds:O Dat}{g:O V},cQ K F ds g->cQ K F (ds.take n) (g.take n)
 |0,_,_,_=>by simp[cQ]
 |n+1,[],_,h=>by rw[h];exact rfl
 |n+1,d::ds,_,a=>by obtain⟨v,r,rfl,b,c⟩:=a;exact⟨v,_,W,b,cQ.take n c⟩
theorem cQ.drop{K:Fg}:∀(n:T){ds:O Dat}{g:O V},cQ K F ds g->cQ K F (ds.drop n) (g.drop n)
 |0,_,_,h=>h
 |n+1,[],_,h=>by rw[h];exact rfl
 |n+1,d::ds,_,a=>by obtain⟨v,r,rfl,c,b⟩:=a;exact cQ.drop n b
theorem cQ.reverse{K:Fg}:∀{ds:O Dat}{g:O V},cQ K F ds g->cQ K F ds.reverse g.reverse
 |[],_,h=>by rw[h];exact rfl
 |d::ds,_,a=>by obtain⟨v,r,rfl,b,c⟩:=a;rw[oj,oj];exact(cQ.reverse c).append (.one b)
mutual
noncomputable def im:Dat->cc
 |.lst _=>J
 |.dct _ _=>J
 |.any=>J
 |.exc _ _ _=>J
 |.tup a=>nv a
 |_=>U
noncomputable def nv:O Dat->cc
 |[]=>U
 |d::a=>im d && nv a
end
structure Good(F H:Hp):Prop where
 sub:cz F H
 tup:∀a vs,H a=Y (.tup vs)->F a=Y (.tup vs)
structure Step(F H F' H':Hp):Prop where
 good:Good F' H'
 ff:cz F F'
 hh:cz H H'
 un:∀a o,H a=Y o->F a=L->F' a=L
def Step.refl(g:Good F H):Step F H F H:=⟨g,cz.refl _,cz.refl _,λ_ _ _ n=>n⟩
def Step.trans{F1:Hp}(a:Step F H F1 g)(b:Step F1 g y B):Step F H y B:=
 ⟨b.good,a.ff.trans b.ff,a.hh.trans b.hh,λx o h n=>b.un x o (a.hh x o h) (a.un x o h n)⟩
def cz.upd(g:H p=L):cz H (upd H p o):=λb u e=>by rwa[cA (iq e g)]
def Step.alloc(g:Good F H)(y:H p=L):Step F H (upd F p o) (upd H p o):=by
 have c:F p=L:=by
  cases q:F p with
  |none=>rfl
  |some u=>rw[g.sub p u q]at y;cases y
 refine⟨⟨λb u e=>?_,λa f e=>?_⟩,cz.upd c,cz.upd y,λa u h n=>?_⟩
 .by_cases d:b=p
  .subst d;rwa[bN]at e ⊢
  .rw[cA d]at e ⊢;exact g.sub b u e
 .by_cases d:a=p
  .subst d;rwa[bN]at e ⊢
  .rw[cA d]at e ⊢;exact g.tup a f e
 .rwa[cA (iq h y)]
noncomputable def shr(F H F1:Hp):Hp:=λa=>match F a,H a with
 |none,Y _=>L
 |_,_=>F1 a
def Fv{F1:Hp}(h:F a≠L\/H a=L):shr F H F1 a=F1 a:=by
 unfold shr
 cases q:F a with
 |none=>
   simp_all
 |some u=>rfl
def Step.shrink{F1:Hp}(g:Good F H)(s:cz F y)(st:Step y H F1 B):Step F H (shr F H F1) B:=by
 refine⟨⟨λa o e=>st.good.sub a o (by
  unfold shr at e
  cases q:F a with
  |none=>
    cases b:H a with
    |none=>simp_all
    |some u=>simp_all
  |some u=>rwa[q]at e),λa c e=>?_⟩,λa o e=>?_,st.hh,λa o h n=>?_⟩
 .rw[Fv ?_]
  .exact (st.good.tup a c e)
  .cases q:H a with
   |none=>exact .inr rfl
   |some u=>
     have:=st.hh a u q;rw[e]at this;cases this;exact .inl (by rw[g.tup a c q];simp)
 .rw[Fv (.inl (by rw[e];simp))];exact st.ff a o (s a o e)
 .unfold shr;rw[n,h]
def Tq.shrink{K:Fg}{F1:Hp}(g:Good F H)(st:Step B H F1 C)(h:Tq K F1 a y):Tq K (shr F H F1) a y:=by
 rcases h with h|h
 .refine .inl ?_;rw[Fv ?_]
  .exact h
  .cases q:H a with
   |none=>exact .inr rfl
   |some u=>
     have:=st.hh a u q;rw[st.good.sub a _ h]at this;cases this;exact .inl (by rw[g.tup a y q];simp)
 .exact .inr h
mutual
theorem Rep.shrink{K:Fg}{F1:Hp}(g:Good F H)(st:Step y H F1 B):∀(d:Dat){v:V},im d=U->Rep K F1 d v->Rep K (shr F H F1) d v
 |.non,_,_,h=>h
 |.bl _,_,_,h=>h
 |.int _,_,_,h=>h
 |.str _,_,_,h=>h
 |.tup b,_,m,c=>by obtain⟨a,f,e,t,r⟩:=c;exact⟨a,f,e,t.shrink g st,cQ.shrink g st b m r⟩
 |.lst b,_,m,_=>nomatch m
 |.dct _ _,_,m,_=>nomatch m
 |.any,_,m,_=>nomatch m
 |.exc _ _ _,_,m,_=>nomatch m
theorem cQ.shrink{K:Fg}{F1:Hp}(g:Good F H)(st:Step B H F1 C):∀(ds:O Dat){y:O V},nv ds=U->cQ K F1 ds y->cQ K (shr F H F1) ds y
 |[],_,_,h=>h
 |d::ds,_,m,b=>by
   obtain⟨v,r,e,c,f⟩:=b;have a:im d=U/\nv ds=U:=by simpa [nv]using m
   exact⟨v,r,e,Rep.shrink g st d a.1 c,cQ.shrink g st ds a.2 f⟩
end
mutual
def lr(K:Fg)(H:Hp):Dat->V->O aD->Prop
 |.non,v,S=>v=.non/\S=[]
 |.bl b,v,S=>v=.bl b/\S=[]
 |.int i,v,S=>v=.int i/\S=[]
 |.str x,v,S=>v=.str x/\S=[]
 |.tup d,v,S=>∃a e,v=.ref a/\Tq K H a e/\dq K H d e S
 |.lst d,v,S=>∃a e g,v=.ref a/\H a=Y (.lst e)/\dq K H d e g/\S=a::g
 |.dct l d,v,S=>∃a h g,v=.ref a/\H a=Y (.dK h)/\h.map (·.1)=l/\dq K H d (h.map (·.2)) g/\S=a::g
 |.any,_,S=>S=[]
 |.exc c f k,v,S=>∃a j,v=.ref a/\H a=Y (.ext (XO a c j))/\H j=Y (.xd [(f,kV k)])/\S=[a,j]
def dq(K:Fg)(H:Hp):O Dat->O V->O aD->Prop
 |[],c,S=>c=[]/\S=[]
 |d::e,c,S=>∃v r a b,c=v::r/\lr K H d v a/\dq K H e r b/\S=a++b
end
mutual
theorem lr.mono{K:Fg}(s:cz H B):∀(d:Dat){v:V}{S:O aD},lr K H d v S->lr K B d v S
 |.non,_,_,h=>h
 |.bl _,_,_,h=>h
 |.int _,_,_,h=>h
 |.str _,_,_,h=>h
 |.tup b,_,_,c=>by obtain⟨a,f,e,t,r⟩:=c;exact⟨a,f,e,t.mono s,dq.mono s b r⟩
 |.lst b,_,_,g=>by obtain⟨a,f,i,e,t,r,q⟩:=g;exact⟨a,f,i,e,s _ _ t,dq.mono s b r,q⟩
 |.dct _ b,_,_,l=>by obtain⟨a,j,i,e,t,k,r,q⟩:=l;exact⟨a,j,i,e,s _ _ t,k,dq.mono s b r,q⟩
 |.any,_,_,h=>h
 |.exc _ _ _,_,_,y=>by obtain⟨a,m,e,t,r,q⟩:=y;exact⟨a,m,e,s _ _ t,s _ _ r,q⟩
theorem dq.mono{K:Fg}(s:cz H y):∀(ds:O Dat){g:O V}{S:O aD},dq K H ds g S->dq K y ds g S
 |[],_,_,h=>h
 |d::ds,_,_,c=>by obtain⟨v,r,a,b,e,f,i,q⟩:=c;exact⟨v,r,a,b,e,lr.mono s d f,dq.mono s ds i,q⟩
end
def Lc:HO->Prop
 |.lst _=>True
 |.dK _=>True
 |.ext _=>True
 |.xd _=>True
 |_=>False
mutual
theorem lr.vE{K:Fg}:∀(d:Dat){v:V}{S:O aD},lr K H d v S->∀a∈S,∃o,H a=Y o/\Lc o
 |.non,_,_,h=>by rw[h.2];intro a m;cases m
 |.bl _,_,_,h=>by rw[h.2];intro a m;cases m
 |.int _,_,_,h=>by rw[h.2];intro a m;cases m
 |.str _,_,_,h=>by rw[h.2];intro a m;cases m
 |.tup f,_,_,g=>by obtain⟨a,i,e,t,r⟩:=g;exact dq.vE f r
 |.lst f,_,_,c=>by
   obtain⟨a,i,j,e,t,r,rfl⟩:=c;intro b m
   rcases ak.mp m with rfl|m
   .exact⟨_,t,trivial⟩
   .exact dq.vE f r b m
 |.dct _ f,_,_,c=>by
   obtain⟨a,l,j,e,t,k,r,rfl⟩:=c;intro b m
   rcases ak.mp m with rfl|m
   .exact⟨_,t,trivial⟩
   .exact dq.vE f r b m
 |.any,_,S,h=>by rw[h];intro a m;cases m
 |.exc ..,_,_,c=>by
   obtain⟨a,n,e,t,r,rfl⟩:=c;intro b m
   rcases ak.mp m with rfl|m
   .exact⟨_,t,trivial⟩
   .rw[ax.mp m];exact⟨_,r,trivial⟩
theorem dq.vE{K:Fg}:∀(ds:O Dat){y:O V}{S:O aD},dq K H ds y S->∀a∈S,∃o,H a=Y o/\Lc o
 |[],_,_,h=>by rw[h.2];intro a m;cases m
 |d::ds,_,_,c=>by
   obtain⟨v,r,f,g,e,i,j,q⟩:=c;subst q;intro b m
   rcases aH.mp m with m|m
   .exact lr.vE d i b m
   .exact dq.vE ds j b m
end
noncomputable def fz(F H:Hp)(S:O aD):Hp:=λa=>if a∈S then H a else F a
def zU(h:a∈S):fz F H S a=H a:=cb h
def uI(h:a∉S):fz F H S a=F a:=cv h
def rV(g:cz F H):cz F (fz F H S):=λa o e=>by
 by_cases m:a∈S
 .rw[zU m];exact g a o e
 .rwa[uI m]
def Bm(g:Good F H):Good (fz F H S) H:=⟨λa o e=>by
 by_cases m:a∈S
 .rwa[zU m]at e
 .rw[uI m]at e;exact g.sub a o e,λa b e=>rV g.sub a _ (g.tup a b e)⟩
mutual
theorem lr.l8{K:Fg}(g:Good F H):∀(d:Dat){v:V}{S T':O aD},lr K H d v S->(∀a∈S,a∈T')->Rep K (fz F H T') d v
 |.non,_,_,_,h,_=>h.1
 |.bl _,_,_,_,h,_=>h.1
 |.int _,_,_,_,h,_=>h.1
 |.str _,_,_,_,h,_=>h.1
 |.tup f,_,_,_,c,m=>by
   obtain⟨a,i,e,t,r⟩:=c;refine⟨a,i,e,?_,dq.l8 g f r m⟩
   rcases t with t|t
   .exact .inl (rV g.sub _ _ (g.tup _ _ t))
   .exact .inr t
 |.lst f,_,_,_,c,m=>by
   obtain⟨a,i,n,e,t,r,rfl⟩:=c;refine⟨a,i,e,.inl (.inl ?_),dq.l8 g f r λb j=>m b (jU _ j)⟩;rwa[zU (m a jB)]
 |.dct _ f,_,_,_,c,m=>by
   obtain⟨a,o,n,e,t,k,r,rfl⟩:=c;refine⟨a,o,e,?_,k,dq.l8 g f r λb j=>m b (jU _ j)⟩;rwa[zU (m a jB)]
 |.any,_,_,_,_,_=>trivial
 |.exc ..,_,_,_,c,m=>by
   obtain⟨a,l,e,t,r,rfl⟩:=c;refine⟨a,l,e,?_,?_⟩
   .rwa[zU (m a jB)]
   .rwa[zU (m l (jU _ jB))]
theorem dq.l8{K:Fg}(g:Good F H):∀(ds:O Dat){y:O V}{S T':O aD},dq K H ds y S->(∀a∈S,a∈T')->cQ K (fz F H T') ds y
 |[],_,_,_,h,_=>h.1
 |d::ds,_,_,_,b,m=>by
   obtain⟨v,r,c,f,e,j,k,q⟩:=b;subst q;exact⟨v,r,e,lr.l8 g d j λa i=>m a (aJ _ i),dq.l8 g ds k λa i=>m a (aB _ i)⟩
end
mutual
theorem lr.lj{K:Fg}(g:cz F H):∀(d:Dat){v:V},im d=U->Rep K F d v->lr K H d v []
 |.non,_,_,h=>⟨h,W⟩
 |.bl _,_,_,h=>⟨h,W⟩
 |.int _,_,_,h=>⟨h,W⟩
 |.str _,_,_,h=>⟨h,W⟩
 |.tup b,_,m,l=>by obtain⟨a,c,e,t,r⟩:=l;exact ⟨a,c,e,t.mono g,dq.lj g b m r⟩
 |.lst b,_,m,_=>nomatch m
 |.dct _ _,_,m,_=>nomatch m
 |.any,_,m,_=>nomatch m
 |.exc _ _ _,_,m,_=>nomatch m
theorem dq.lj{K:Fg}(g:cz F H):∀(ds:O Dat){y:O V},nv ds=U->cQ K F ds y->dq K H ds y []
 |[],_,_,h=>⟨h,W⟩
 |d::ds,_,m,b=>by
   obtain⟨v,r,e,c,f⟩:=b;have a:im d=U/\nv ds=U:=by simpa [nv]using m
   exact⟨v,r,[],[],e,lr.lj g d a.1 c,dq.lj g ds a.2 f,W⟩
end
mutual
theorem lr.upd{K:Fg}(y:∀g,H p≠Y (.tup g)):∀(d:Dat){v:V}{S:O aD},lr K H d v S->p∉S->lr K (upd H p o) d v S
 |.non,_,_,h,_=>h
 |.bl _,_,_,h,_=>h
 |.int _,_,_,h,_=>h
 |.str _,_,_,h,_=>h
 |.tup f,_,_,b,n=>by
   obtain⟨a,g,e,t,r⟩:=b;refine⟨a,g,e,?_,dq.upd y f r n⟩
   rcases t with t|t
   .refine .inl ?_;rwa[cA (λz=>y g (by rwa[<-z]))]
   .exact .inr t
 |.lst f,_,_,b,n=>by
   obtain⟨a,g,i,e,t,r,rfl⟩:=b;have c:a≠p:=λz=>n (z▸jB);exact⟨a,g,i,e,(cA c).trans t,dq.upd y f r (λm=>n (jU _ m)),W⟩
 |.dct _ f,_,_,b,n=>by
   obtain⟨a,j,i,e,t,k,r,rfl⟩:=b;have c:a≠p:=λz=>n (z▸jB);exact⟨a,j,i,e,(cA c).trans t,k,dq.upd y f r (λm=>n (jU _ m)),W⟩
 |.any,_,_,h,_=>h
 |.exc ..,_,_,b,n=>by
   obtain⟨a,l,e,t,r,rfl⟩:=b;exact⟨a,l,e,(cA (λz=>n (by rw[<-z];exact jB))).trans t,(cA (λz=>n (by rw[<-z];simp))).trans r,W⟩
theorem dq.upd{K:Fg}(y:∀g,H p≠Y (.tup g)):∀(ds:O Dat){g:O V}{S:O aD},dq K H ds g S->p∉S->dq K (upd H p o) ds g S
 |[],_,_,h,_=>h
 |d::ds,_,_,a,n=>by
   obtain⟨v,r,b,c,e,f,i,q⟩:=a;subst q;exact⟨v,r,b,c,e,lr.upd y d f (λm=>n (aJ _ m)),dq.upd y ds i (λm=>n (aB _ m)),W⟩
end
theorem dq.length{K:Fg}:∀{ds:O Dat}{g:O V}{S:O aD},dq K H ds g S->Z g=Z ds
 |[],_,_,h=>by rw[h.1];rfl
 |d::ds,_,_,a=>by obtain⟨v,r,b,c,e,_,f,_⟩:=a;rw[e,bG,bG,dq.length f]
theorem dq.append{K:Fg}:∀{ds es:O Dat}{g y:O V}{S T':O aD},dq K H ds g S->dq K H es y T'->dq K H (ds++es) (g++y) (S++T')
 |[],_,_,_,_,_,h,c=>by rw[h.1,h.2];exact c
 |d::ds,_,_,_,_,_,f,c=>by obtain⟨v,r,a,b,e,i,j,q⟩:=f;subst e q;exact⟨v,r++_,a,b++_,W,i,dq.append j c,by rw[aT]⟩
def dq.one{K:Fg}(h:lr K H d v S):dq K H [d] [v] S:=⟨v,[],S,[],W,h,⟨W,W⟩,by simp⟩
abbrev St:=L2.St
abbrev iO:=O (a5 Dat)
def oK(K:Fg)(F:Hp)(g:St)(ρ:iO):Prop:=∀(i:T)d,ρ[i]?=Y (Y d)->∃v,g[i]?=Y (Y v)/\Rep K F d v
def oK.mono{K:Fg}(s:cz F g)(h:oK K F σ ρ):oK K g σ ρ:=λi d e=>by obtain⟨v,a,b⟩:=h i d e;exact ⟨v,a,b.mono s⟩
def ik(K:Fg)(H g:Hp)(d:Dat)(v:V):Prop:=∃S:O aD,S.Nodup/\(∀a∈S,H a=L)/\lr K g d v S
def gh(K:Fg)(H g:Hp)(ds:O Dat)(y:O V):Prop:=∃S:O aD,S.Nodup/\(∀a∈S,H a=L)/\dq K g ds y S
def ik.back{K:Fg}{F:Hp}(s:cz g H)(h:ik K H y d v):ik K g y d v:=by
 obtain⟨S,n,e,r⟩:=h;exact⟨S,n,λa m=>s.free (e a m),r⟩
def gh.back{K:Fg}{F:Hp}(s:cz g H)(h:gh K H y ds B):gh K g y ds B:=by
 obtain⟨S,n,e,r⟩:=h;exact⟨S,n,λa m=>s.free (e a m),r⟩
def ik.lj{K:Fg}(g:Good F y)(m:im d=U)(r:Rep K F d v):ik K H y d v:=⟨[],eE,(λa z=>by cases z),lr.lj g.sub d m r⟩
def gh.lj{K:Fg}(g:Good F y)(m:nv ds=U)(r:cQ K F ds B):gh K H y ds B:=⟨[],eE,(λa z=>by cases z),dq.lj g.sub ds m r⟩
def gh.cons{K:Fg}{H B y:Hp}{d:Dat}{ds:O Dat}{v:V}{C:O V}(s:cz H B)(F:cz B y)(h:ik K H B d v)(hs:gh K B y ds C):gh K H y (d::ds) (v::C):=by
 obtain⟨S,n,e,r⟩:=h;obtain⟨T',c,f,g⟩:=hs;refine⟨_,cG.mpr ⟨n,c,λa i b j z=>?_⟩,λa m=>?_,v,C,S,T',W,r.mono F,g,W⟩
 .subst z;obtain⟨o,k,_⟩:=r.vE _ a i
  simp_all
 .rcases aH.mp m with m|m
  .exact e a m
  .exact s.free (f a m)
def gh.snoc{K:Fg}(s:cz H y)(C:cz y B)(hs:gh K H y ds F)(h:ik K y B d v):gh K H B (ds++[d]) (F++[v]):=by
 refine ac λ_ i=>?_;obtain⟨S,n,e,r⟩:=hs;obtain⟨T',c,f,g⟩:=h;apply i;refine⟨_,cG.mpr ⟨n,c,λa j b k z=>?_⟩,λa m=>?_,(r.mono C).append (.one g)⟩
 .subst z;obtain⟨o,l,_⟩:=r.vE _ a j
  simp_all
 .rcases aH.mp m with m|m
  .exact e a m
  .exact s.free (f a m)
def gh.mono{K:Fg}(s:cz g y)(h:gh K H g ds B):gh K H y ds B:=by
 obtain⟨S,n,e,r⟩:=h;exact⟨S,n,e,r.mono s⟩
def gh.nil{K:Fg}:gh K H g [] []:=⟨[],eE,(λa z=>by cases z),W,W⟩
def ik.lst{K:Fg}(s:cz H g)(y:g p=L)(h:gh K H g ds B):ik K H (L2.upd g p (.lst B)) (.lst ds) (.ref p):=by
 obtain⟨S,n,e,r⟩:=h;refine⟨_,a6.mpr ⟨λm=>?_,n⟩,λa m=>?_,p,B,S,W,bN,r.mono (cz.upd y),W⟩
 .obtain⟨o,b,_⟩:=r.vE _ p m;rw[y]at b;cases b
 .rcases ak.mp m with rfl|m
  .exact s.free y
  .exact e a m
def ik.tup{K:Fg}(B:g p=L)(h:gh K H g ds y):ik K H (L2.upd g p (.tup y)) (.tup ds) (.ref p):=by
 obtain⟨S,n,e,r⟩:=h;exact⟨S,n,e,p,y,W,.inl bN,r.mono (cz.upd B)⟩
def tE(K:Fg)(ρ:iO)(d:Dat)(fr:cc):TE:=λc H Q=>∃F,Good F H/\oK K F c ρ/\∀v b a,Step F H b a->Rep K b d v->(fr=U->ik K H a d v)->Q v a
def tEs(K:Fg)(ρ:iO)(ds:O Dat):TA:=λd H Q=>∃F,Good F H/\oK K F d ρ/\∀a b c,Step F H b c->cQ K b ds a->Q a c
def tT(K:Fg)(ρ:iO)(b:cc):TT:=λc H Q=>∃F,Good F H/\oK K F c ρ/\∀d a,Step F H d a->Q b a
def tFs(K:Fg)(ρ:iO)(ds:O Dat)(al:cc):TA:=λd H Q=>∃F,Good F H/\oK K F d ρ/\∀a c b,Step F H c b->cQ K c ds a->(al=U->gh K H b ds a)->Q a b
def rD(K:Fg)(g O':Dat)(d:Dat)(fr:cc):R2:=λx y H Q=>∃F,Good F H/\Rep K F g x/\Rep K F O' y/\∀v b a,Step F H b a->Rep K b d v->(fr=U->ik K H a d v)->Q v a
def rDs(K:Fg)(ds:O Dat)(d:Dat)(fr:cc):O V->Hp->VK->Prop:=λc H Q=>∃F,Good F H/\cQ K F ds c/\∀v b a,Step F H b a->Rep K b d v->(fr=U->ik K H a d v)->Q v a
section
def PE.imp(h:PE X e t)(f:∀g H Q,t' g H Q->t g H Q):PE X e t':=λa s g H Q I q=>h a s g H Q I (f _ _ _ q)
def PT.imp(h:PT X e t)(f:∀g H Q,t' g H Q->t g H Q):PT X e t':=λa s g H Q I q=>h a s g H Q I (f _ _ _ q)
def PA.imp(h:PA X e t)(f:∀g H Q,t' g H Q->t g H Q):PA X e t':=λp a s g H Q I q=>h p a s g H Q I (f _ _ _ q)
def PS.imp(h:PS X e t)(f:∀D g H,t' D g H->t D g H):PS X e t':=λa s g H D I q=>h a s g H D I (f _ _ _ q)
def yY.imp(h:yY X e t)(f:∀D g H,t' D g H->t D g H):yY X e t':=λa s g H D I q=>h a s g H D I (f _ _ _ q)
def kR.imp(h:kR X f r)(g:∀x y H Q,B x y H Q->r x y H Q):kR X f B:=λc s d H x y v u Q I a b q=>h c s d H x y v u Q I a b (g _ _ _ _ q)
end
end M
namespace L2
def Ej(xs:c4 T):Prop:=xs.toList.Pairwise (·< ·)
def Ej.get(h:Ej xs)(O':j<xs.size)(B:i<j):xs[i]'(de B O')<xs[j]:=by
 have:=(fD.mp h) i j (by simpa using(de B O')) (by simpa using O') B;simpa using this
theorem GR(hs:Ej xs):∀(fuel lo hi:T),lo<=hi->hi<=xs.size->hi - lo<=fuel->(∀i (h:i<xs.size),i<lo->xs[i]<j)->(∀i (h:i<xs.size),hi<=i->j<=xs[i])->
  mf xs j fuel lo hi<=xs.size/\(∀i(h:i<xs.size),i<mf xs j fuel lo hi->xs[i]<j)/\∀i(h:i<xs.size),mf xs j fuel lo hi<=i->j<=xs[i]
 |0,lo,hi,l,k,m,c,n=>by
   have e:lo=hi:=aI (jj l) (nZ (wt l) m);subst e;exact⟨k,c,n⟩
 |fuel+1,lo,hi,l,k,m,c,n=>by
   simp only[mf];by_cases g:lo<hi
   .rw[cb g];have d:(lo+hi) / 2<xs.size:=nZ (a2 lo hi (jj g)).2 k
    have f:xs.getD ((lo+hi) / 2) j=xs[(lo+hi) / 2]:=by simp_all
    rw[f];by_cases b:xs[(lo+hi) / 2]<j
    .rw[cb b];refine GR hs _ _ hi (jj (a2 lo hi (jj g)).2) k (Nat.sub_le_of_le_add (rP (wt (aK g)) m (a2 lo hi (jj g)).1)) (λi h q=>?_) n;by_cases a:i=(lo+hi) / 2
     .subst a;exact b
     .exact de (hs.get d (bD (jj q) a)) b
    .rw[cv b];refine GR hs _ lo _ (jj (a2 lo hi (jj g)).1) (aK d) (Nat.sub_le_of_le_add (rP (a2 lo hi (jj g)).2 (wt (aK g)) m)) c (λi h q=>?_);by_cases a:(lo+hi) / 2=i
     .subst a;simp_all
     .exact aK (aa (eT b) (hs.get h ((bD q a))))
   .rw[cv g];have e :=aI l (cB g);subst e;exact⟨k,c,n⟩
def PR(hs:Ej xs)(j:T):aP xs j<=xs.size/\(∀i(h:i<xs.size),i<aP xs j->xs[i]<j)/\∀i(h:i<xs.size),aP xs j<=i->j<=xs[i]:=
 GR hs _ 0 _ (aU _) (ao _) (by simp) (λi _ q=>absurd q (yJ _)) (λi h q=>((a9 h q)).elim)
def PN(hs:Ej xs):aP xs 0=0:=by
 cases q:aP xs 0 with
 |zero=>rfl
 |succ n=>exact absurd ((PR hs 0).2.1 0 (aa (aA (aU _) (af q.symm)) (PR hs 0).1) (aA (aU _) (af q.symm))) (yJ _)
def RO(hs:Ej xs)(B:xs[aP xs j]?≠Y j):Ej (dz xs (aP xs j) j):=by
 obtain⟨a,g,b⟩:=PR hs j;unfold Ej;rw[fH];refine eN.mpr ⟨hs.sublist (jD _ _),cJ.mpr ⟨λy h=>?_,hs.sublist (fV _ _)⟩,λx p y h=>?_⟩
 .obtain⟨k,c,rfl⟩:=cF.mp h;have d:aP xs j+k<xs.size:=by grind
  have i:xs[aP xs j+k]≠j:=by
   intro e
   clear c h; cases k with
   |zero=>exact B (by rw[a8 _];simpa using e)
   |succ k=>
     exact a9 (hs.get d ((bf (be _ _)))) (aa (af e) (b _ (aA (be _ _) d) (ao _)))
  simpa using (bD (jj (b _ d (be _ _))) (dn i))
 .obtain⟨k,c,rfl⟩:=cF.mp p;rw[List.getElem_take];have f:k<aP xs j:=by simp at c;simp_all
  have n:xs.toList[k]'(by exact aa f a)<j:=by simpa using (g k (aa f a) f)
  rcases ak.mp h with rfl|h
  .exact n
  .obtain⟨m,o,rfl⟩:=cF.mp h;exact aa n (by simpa using (b (aP xs j+m) (by simp at o;exact nZ (ws a) o) (be _ _)))
structure rC(led:cc)(t:bF):Prop where
 d:t.dummies=#[]
 r:Ej t.place
 l:t.led=led
def rC.fresh(g:cc):rC g (.fresh 0 0 g):=⟨W,by exact zj,W⟩
def rC.sX(h:rC led t)(n:T):rC led (t.standIn n):=⟨W,(show Ej (Array.range n) by unfold Ej;rw[Array.toList_range];exact p5),h.l⟩
def rC.off(h:rC led t):rC led { t with plain:=J }:=⟨h.d,h.r,h.l⟩
def IJ(j:T):y7 #[] j=J:=by simp[y7]
def wJ{t:bF}(g:t.dummies=#[])(h:t.slot j=.empty):t.place[aP t.place j]?≠Y j:=by
 intro e;unfold nA at h
 simp_all
def mP{t:bF}(g:t.dummies=#[])(h:t.slot j=.dummy):False:=by
 unfold nA at h;rw[g,IJ]at h
 grind
def uN{t:bF}{p:bR}(h:p.dummy=L):(t.advance p).dummy=L:=by
 unfold eJ;split
 .exact h
 .exact h
theorem w5{t:bF}(g:t.dummies=#[]):∀(fuel:T) (p:bR) {j:T} {d:a5 T},p.dummy=L->cu t ha y fuel p=Y (.empty j d)->
  d=L/\t.place[aP t.place j]?≠Y j
 |0,_,_,_,_,h=>by cases h
 |fuel+1,p,j,d,a,h=>by
   simp only[cu]at h
   cases q:t.slot p.j with
   |empty=>
     rw[q]at h
     injection h with h
     injection h with h1 h2
     subst h1;subst h2;exact⟨a,wJ g q⟩
   |dummy=>exact(mP g q).elim
   |live i=>
     rw[q]at h;dsimp only at h;split at h
     .grind
     .exact w5 g fuel _ (uN a) h
set_option tactic.hygienic true
def rC.put(h:rC led t)(B:t.place[aP t.place j]?≠Y j):rC led (t.put j).1:=by
 refine⟨?_,RO h.r B,h.l⟩;show(if y7 _ j then _ else t.dummies)=_;rw[h.d];rfl
def rC.or(h:rC led t)(n:T):rC led (t.orStandIn n):=by
 unfold SetTable.orStandIn;split
 .exact h
 .exact h.sX n
def rC.lay(h:rC led t)(es:c4 (cx×ai))(g:cx)(x:ai):rC led (layNew t es g x).2.1:=by
 unfold layNew;split
 .rename_i j b a;exact(h.put (by
   unfold SetTable.freeSlot at a;split at a
   .rename_i f c e;have:=w5 h.d _ _ (by rfl) e
    simp_all
   .cases a)).or _
 .exact h.sX _
def rC.laid(h:nD mask f m led pl hs=Y (t,o)):rC led t:=by
 unfold nD at h;simp only[Option.bind_eq_bind,Au]at h;obtain⟨ow,a,h⟩:=h
 injection h with h
 injection h with h2 h3
 subst h2;refine⟨W,?_,W⟩;show(Vd _ _).toArray.toList.Pairwise _;rw[fT,B8];refine qa ?_ p5
 simp_all
def rC.aaW(h:rC led t)(es:c4 (cx×ai))(n:T):rC led (gN t es n).2.1:=by
 unfold gN;split
 .rename_i b o a;dsimp only;split
  .unfold JF at a;rw[h.l]at a;exact rC.laid a
  .exact h.sX _
 .exact h.sX _
set_option tactic.hygienic false
noncomputable def vy(mask:T):T->T->T->T×T
 |0,i,p=>(i,p)
 |n+1,i,p=>vy mask n (i8 mask i p).1 (i8 mask i p).2
theorem vY(mask:T):∀(a b i p:T),vy mask (a+b) i p=vy mask b (vy mask a i p).1 (vy mask a i p).2
 |0,b,i,p=>by rw[fj];rfl
 |a+1,b,i,p=>by rw[(jq _ _ _)];exact vY mask a b _ _
theorem xC(mask:T):∀(n i p:T),(vy mask n i p).2=p / 32 ^ n
 |0,i,p=>by simp[vy]
 |n+1,i,p=>by
   rw[vy,xC _ n,i8,Nat.div_div_eq_div_mul,Nat.pow_succ,Nat.mul_comm]
theorem N6(mask:T):∀(n i p:T),i<mask+1->(vy mask n i p).1<mask+1
 |0,i,p,h=>h
 |n+1,i,p,h=>N6 _ n _ _ (kF _ (by simp))
noncomputable def orb(mask:T):T->T->O T
 |0,i=>[i]
 |n+1,i=>i::orb mask n ((i * 5+1) % (mask+1))
theorem HV(mask:T):∀(n i j:T),j∈orb mask n i->∃m,m<=n/\(vy mask m i 0).1=j
 |0,i,j,h=>by
   simp[orb]at h;exact⟨0,by simp,h.symm⟩
 |n+1,i,j,h=>by
   rcases ak.mp h with h|h
   .exact⟨0,aU _,h.symm⟩
   .obtain⟨m,a,e⟩:=HV _ n _ j h;refine⟨_,bf a,?_⟩;rw[vy];simpa [i8]using e
def Pj(mask:T):cc:=(aR (mask+1)).all λj=>(orb mask mask 0).any λx=>Nat.beq x j
def Ph(h:mask=7\/mask=31\/mask=127\/mask=511):Pj mask=U/\(vy mask (mask+1) 0 0).1=0:=by
 rcases h with rfl|rfl|rfl|rfl
 .exact⟨by decide +kernel,by decide +kernel⟩
 .exact⟨by decide +kernel,by decide +kernel⟩
 .exact⟨by decide +kernel,by decide +kernel⟩
 .exact⟨by decide +kernel,by decide +kernel⟩
def JP(mask n i:T):(vy mask n i 0).2=0:=by rw[xC,Nat.zero_div]
def xA(mask a b i:T):(vy mask (a+b) i 0).1=(vy mask b (vy mask a i 0).1 0).1:=by rw[vY,JP]
def VO(h:mask=7\/mask=31\/mask=127\/mask=511)(B:j<mask+1):∃n,n<=mask/\(vy mask n 0 0).1=j:=by
 obtain⟨x,a,e⟩:=jY.mp (bc.mp (Ph h).1 j (aX.mpr B));have e:=Nat.eq_of_beq_eq_true e;subst e;exact HV _ _ 0 x a
def Iu(h:mask=7\/mask=31\/mask=127\/mask=511)(hi:i<mask+1)(y:p<2 ^ 64)(B:j<mask+1):∃n,n<=mask+13/\(vy mask n i p).1=j:=by
 have c:(vy mask 13 i p).2=0:=by
  rw[xC];exact Nat.div_eq_of_lt (aa y cV)
 clear y; obtain⟨a,d,f⟩:=VO h (N6 _ 13 i p hi);obtain⟨b,k,g⟩:=VO h B;by_cases e:a<=b
 .refine⟨13+(b - a),nZ (p9 b a) k,?_⟩;rwa[vY,c,<-f,<-xA,(iF e)]
 .have z:a<=mask+1:=dA d;refine⟨13+(mask+1 - a+b),nZ (ws z) (eT e),?_⟩;rwa[vY,c,<-f,<-xA,show a+(mask+1 - a+b)=(mask+1)+b from aI (jj (ws z)) (jj (wt z)),xA,((Ph h).2)]
structure Ai(t:bF)(p:bR):Prop where
 j:p.j=p.i
 m:p.more=eB t.mask p.i - p.i
 d:p.dummy=L
def wR(h:Ai t p):p.more<=9:=by
 rw[h.m];unfold eB;split<;>simp
set_option tactic.hygienic true
theorem Bi{t:bF}(g:t.dummies=#[]):∀(k f:T) (p:bR),p.more=k->p.dummy=L->cu t ha y (k+1+f) p=L->
  t.slot p.j≠.empty/\∃q:bR,cu t ha y f q=L/\Ai t q/\q.i=(i8 t.mask p.i p.perturb).1/\q.perturb=(i8 t.mask p.i p.perturb).2
 |0,f,p,d,l,h=>by
   rw[(vp _ _),cu]at h
   cases c:t.slot p.j with
   |empty=>rw[c]at h;cases h
   |dummy=>exact(mP g c).elim
   |live i=>
     rw[c]at h;dsimp only at h;split at h
     .cases h
     rename_i a;refine⟨by simp,_,h,?_,?_,?_⟩
     .unfold eJ;rw[cv (λz=>(a9 z (af d)))];exact⟨W,W,l⟩
     .unfold eJ;rw[cv (λz=>(a9 z (af d)))]
     .unfold eJ;rw[cv (λz=>(a9 z (af d)))]
 |k+1,f,p,d,l,h=>by
   rw[(jq _ _ _),cu]at h
   cases c:t.slot p.j with
   |empty=>rw[c]at h;cases h
   |dummy=>exact(mP g c).elim
   |live i=>
     rw[c]at h;dsimp only at h;split at h
     .cases h
     rename_i a;have e:t.advance p={ p with j:=p.j+1,more:=p.more - 1 }:=by unfold eJ;simp_all
     rw[e]at h;obtain⟨_,q,m,n,o,b⟩:=Bi g k f { p with j:=p.j+1,more:=p.more - 1 } (by simp_all) l h;exact⟨by simp,q,m,n,o,b⟩
theorem v3:∀(f g:T)(p:bR),cu t ha y (f+g) p=L->cu t ha y f p=L
 |0,g,p,h=>rfl
 |f+1,g,p,h=>by
   rw[show f+1+g=(f+g)+1 from(jq _ _ _),cu]at h;rw[cu]
   cases a:t.slot p.j with
   |empty=>rw[a]at h;cases h
   |dummy=>rw[a]at h;exact v3 f g _ h
   |live i=>
     rw[a]at h;simp only at h ⊢;split
     .simp_all
     .rename_i q;rw[cv q]at h;exact v3 f g _ h
set_option tactic.hygienic false
theorem DB{t:bF}(g:t.dummies=#[]):∀(m:T)(p:bR),Ai t p->cu t ha y (10 * (m+1)) p=L->∀n≤m,t.slot (vy t.mask n p.i p.perturb).1≠.empty
 |m,p,e,h,0,_=>by
   have b:=wR e;obtain⟨f,_⟩:=Bi g p.more (10 * (m+1) - (p.more+1)) p W e.d (by rw[show p.more+1+(10 * (m+1) - (p.more+1))=10 * (m+1)from(iF (bf (Nat.le_add_left_of_le b)))];exact h);rw[e.j]at f;exact f
 |0,p,e,h,n+1,a=>(λz=>(a9 a (aU _)))
 |m+1,p,e,h,n+1,a=>by
   have b:=wR e;obtain⟨_,q,f,k,l,c⟩:=Bi g p.more (10 * (m+1+1) - (p.more+1)) p W e.d (by rw[show p.more+1+(10 * (m+1+1) - (p.more+1))=10 * (m+1+1)from(aI (jj (wS (10 * (m+1+1)) (p.more+1) (jj b))) (jj (wT (10 * (m+1+1)) (p.more+1))))];exact h);have o:=v3 (10 * (m+1)) (9 - p.more) q (by rw[show 10 * (m+1)+(9 - p.more)=10 * (m+1+1) - (p.more+1)from(aI (nZ (wT (10 * (m+1+1)) (p.more+1)) (ws b)) (nZ (wS (10 * (m+1+1)) (p.more+1) (jj b)) (wt b)))];exact f);have:=DB g m q k o n (bb a);rw[l,c]at this;exact this
structure yk(t:bF)(p:bR):Prop where
 m:p.more<=9
 i:p.i<t.mask+1
 q:p.perturb<2 ^ 64
 d:p.dummy=L
def zt(t:bF)(h:cx):yk t (t.probeStart h):=
 ⟨wR (⟨W,W,W⟩),kF _ (by simp),by show eQ h<_;unfold eQ;exact (Int.toNat_lt (Vh _ (by decide))).mpr (Int.emod_lt_of_pos _ (by decide)),W⟩
def yk.adv(h:yk t p):yk t (t.advance p):=by
 unfold eJ;split
 .exact⟨by exact aa (p9 _ _) h.m,h.i,h.q,h.d⟩
 .refine⟨?_,kF _ (by simp),(aA (Nat.div_le_self _ _) h.q),h.d⟩
  .show eB _ _ - _<=9;unfold eB;split<;>simp
def u6{t:bF}(B:t.mask=7\/t.mask=31\/t.mask=127\/t.mask=511)(y:t.dummies=#[])(g:yk t p)(O':j<t.mask+1)(C:t.slot j=.empty) :
  ∃m,t.probe ha F p=Y m:=by
 cases q:t.probe ha F p with
 |some m=>exact⟨m,W⟩
 |none=>
   exfalso;have a:=g.m;have c:=g.q;obtain⟨_,r,l,e,f,b⟩:=Bi y _ _ p W g.d (by rwa[show p.more+1+(10 * (t.mask+15) - (p.more+1))=10 * (t.mask+15)from(aI (jj (wS (10 * (t.mask+15)) (p.more+1) (jj a))) (jj (wT (10 * (t.mask+15)) (p.more+1))))]);obtain⟨n,h,k⟩:=Iu B (i:=r.i) (p:=r.perturb) (by rw[f];exact kF _ (by simp)) (by rw[b];exact aA (Nat.div_le_self _ _) c) O';have:=DB y _ r e (v3 _ _ r (by rwa[show 10 * (t.mask+14)+(9 - p.more)=10 * (t.mask+15) - (p.more+1)from(aI (nZ (wT (10 * (t.mask+15)) (p.more+1)) (ws a)) (nZ (wS (10 * (t.mask+15)) (p.more+1) (jj a)) (wt a)))])) n h;rw[k]at this;exact this C
noncomputable def way(t:bF):T->bR->bR
 |0,p=>p
 |n+1,p=>way t n (t.advance p)
theorem mE(t:bF):∀(a b:T)(p:bR),way t (a+b) p=way t b (way t a p)
 |0,b,p=>by rw[fj];rfl
 |a+1,b,p=>by rw[show a+1+b=(a+b)+1 from(jq _ _ _)];exact mE t a b _
theorem LS:∀(n:T){p:bR},yk t p->yk t (way t n p)
 |0,p,h=>h
 |n+1,p,h=>LS n h.adv
set_option tactic.hygienic true
theorem zE{t:bF}(g:t.dummies=#[]):∀(fuel:T) (p:bR) {m:P7},p.dummy=L->cu t ha y fuel p=Y m->
  ∃n,(∀k<n,∃i,t.slot (way t k p).j=.live i/\ha i≠y)/\((m=.empty (way t n p).j L/\t.slot (way t n p).j=.empty)\/∃i,m=.candidate (way t n p).j i (way t (n+1) p)/\t.slot (way t n p).j=.live i/\ha i=y)
 |0,p,m,_,h=>by cases h
 |fuel+1,p,m,c,h=>by
   rw[cu]at h
   cases a:t.slot p.j with
   |empty=>
     rw[a]at h
     injection h with h
     exact⟨0,λk b=>((a9 b (aU _))).elim,.inl ⟨by rw[<-h,c];rfl,a⟩⟩
   |dummy=>exact(mP g a).elim
   |live i=>
     rw[a]at h;dsimp only at h;split at h
     .rename_i e
      injection h with h
      exact⟨0,λk b=>((a9 b (aU _))).elim,.inr ⟨i,h.symm,a,by simpa using e⟩⟩
     .rename_i e;obtain⟨n,d,f⟩:=zE g fuel _ (uN c) h;refine⟨n+1,λk b=>?_,f⟩
      cases k with
      |zero=>exact⟨i,a,by simpa using e⟩
      |succ k=>exact d k (bb b)
def Su(hs:Ej xs)(h:j∈xs.toList):xs[aP xs j]?=Y j:=by
 obtain⟨i,d,e⟩:=cF.mp h;have c:i<xs.size:=by simpa using d
 obtain⟨l,g,k⟩:=PR hs j
 have b:aP xs j<=i:=by
  rcases jo i (aP xs j)with a|a
  .have:=g i c a;simp_all
  .exact a
 have f:aP xs j=i:=by
  rcases jo _ i with a|a
  .exact((a9 (hs.get c a) (aa (af (by simpa using e)) (k _ (aA b c) (ao _))))).elim
  .exact aI b a
 simp_all
def Cr{t:bF}(B:Ej t.place)(h:j∈t.place.toList):t.slot j=.live (aP t.place j):=by
 unfold nA;simp only[Su B h,e8,ek]
def NC{t:bF}(g:t.dummies=#[])(h:t.slot j≠.empty):j∈t.place.toList:=by
 unfold nA at h;dsimp only at h;split at h
 .rename_i e;exact cF.mpr ⟨_,by simpa using (bq.mp (by simpa using e)).1,by simpa using (bq.mp (by simpa using e)).2⟩
 .rw[g,IJ]at h;simp at h
set_option tactic.hygienic false
def PZ{t t':bF}(h:t.mask=t'.mask)(p:bR):t.advance p=t'.advance p:=by
 unfold eJ;rw[h]
theorem qd{t t':bF}(h:t.mask=t'.mask):∀(n:T)(p:bR),way t n p=way t' n p
 |0,p=>rfl
 |n+1,p=>by rw[way,way,PZ h,qd h n]
def wG{t t':bF}(h:t.mask=t'.mask)(x:cx):t.probeStart x=t'.probeStart x:=by
 unfold SetTable.probeStart;rw[h]
def oJ(t:bF)(x:cx)(j:T):Prop:=∃n,(way t n (t.probeStart x)).j=j/\∀k<n,(way t k (t.probeStart x)).j∈t.place.toList
def oJ.mono{t t':bF}(h:t.mask=t'.mask)(hs:∀j∈t.place.toList,j∈t'.place.toList)(y:oJ t x j):oJ t' x j:=by
 obtain⟨n,c,a⟩:=y;refine⟨n,?_,λk b=>?_⟩
 .rwa[<-wG h,<-qd h]
 .rw[<-wG h,<-qd h];exact hs _ (a k b)
def Io{t:bF}:a∈(t.put j).1.place.toList↔a=j\/a∈t.place.toList:=by
 show a∈(dz _ _ j).toList↔_;rw[fH];have e:=bp (aP t.place j) t.place.toList;constructor
 .grind
 grind
def oJ.new(h:∀k<n,(way t k (t.probeStart x)).j∈t.place.toList):oJ (t.put (way t n (t.probeStart x)).j).1 x (way t n (t.probeStart x)).j:=by
 exact oJ.mono (t:=t)  rfl (λj a=>Io.mpr (.inr a)) ⟨n,W,h⟩
def U2(t:bF)(p:bR):Prop:=p.j+p.more<=t.mask
def MO(h:i<mask+1):i+(eB mask i - i)<=mask:=by
 unfold eB;split<;>grind
def U2.start(t:bF)(x:cx):U2 t (t.probeStart x):=MO (kF _ (by simp))
def U2.adv(h:U2 t p):U2 t (t.advance p):=by
 unfold U2 at h ⊢;unfold eJ;split
 .grind
 .exact MO (kF _ (by simp))
theorem LU:∀(n:T){p:bR},U2 t p->U2 t (way t n p)
 |0,p,h=>h
 |n+1,p,h=>LU n h.adv
def E4(n:T)(x:cx):(way t n (t.probeStart x)).j<=t.mask:=by
 exact aa (be _ _) (LU n (U2.start t x))
def sU:∀(k:T)(p:bR),k<=p.more->way t k p={ p with j:=p.j+k,more:=p.more - k }
 |0,p,h=>rfl
 |k+1,p,h=>by
   rw[way];have e:t.advance p={ p with j:=p.j+1,more:=p.more - 1 }:=by unfold eJ;rw[cb (aA (aU _) h)]
   rw[e,sU k _ (by exact JL h)]
   grind
noncomputable abbrev EC(ow:c4 (a5 T))(j:T):cc:=(ow.getD j (Y 0)).isSome
set_option tactic.hygienic true
theorem DJ{ow:c4 (a5 T)}:∀(fuel:T) (p:bR) {j:T},Ai t p->dQ t.mask ow fuel p.i p.perturb=Y j->
  ∃n,(way t n p).j=j/\(∀k<n,EC ow (way t k p).j=U)/\ow.getD j (Y 0)=L
 |0,p,j,_,h=>by cases h
 |fuel+1,p,j,w,h=>by
   have a:p.i<=eB t.mask p.i:=by unfold eB;split<;>simp
   have b:eB t.mask p.i+1 - p.i=p.more+1:=by rw[w.m];exact Nat.sub_add_comm a
   rw[dQ,b]at h;split at h
   .rename_i k x
    injection h with h
    subst h;obtain⟨A,y,B⟩:=List.find?_range_eq_some.mp x;have y :=aX.mp y;refine⟨k,?_,λm e=>?_,by simpa using A⟩
    .rw[sU k p (bb y)];rw[w.j]
    .rw[sU m p (bb (de e y))];have:=B m e;rw[w.j];simpa [EC,dC]using this
   .rename_i x;have x:=BW.mp x;have f:way t (p.more+1) p=t.advance (way t p.more p):=by rw[mE];rfl
    have g:=sU (t:=t) p.more p (ao _)
    have l:Ai t (way t (p.more+1) p)/\(way t (p.more+1) p).i=(i8 t.mask p.i p.perturb).1/\(way t (p.more+1) p).perturb=(i8 t.mask p.i p.perturb).2:=by
     rw[f,g];unfold eJ;rw[cv (by simp)];exact⟨⟨W,W,w.d⟩,W,W⟩
    obtain⟨o,q,r⟩:=l;dsimp only at h;rw[<-q,<-r]at h;obtain⟨n,s,u,v⟩:=DJ fuel _ o h;refine⟨p.more+1+n,by rw[mE];exact s,λk c=>?_,v⟩
    rcases jo k (p.more+1)with hl|hl
    .rw[sU k p (bb hl)];have:=x k hl;rw[w.j];simpa [EC,dC]using this
    .have:=u (k - (p.more+1)) (nZ (ws hl) c);rw[<-mE,(iF hl)]at this;exact this
def P2(t:bF)(ow:c4 (a5 T))(x:cx)(j:T):Prop:=∃n,(way t n (t.probeStart x)).j=j/\∀k<n,EC ow (way t k (t.probeStart x)).j=U
structure Lay(t:bF)(hs:O cx)(ow:c4 (a5 T))(c:T):Prop where
 sz:ow.size=t.mask+1
 st:∀j k:T,ow[j]?=Y (Y k)->k<c/\P2 t ow (hs.getD k 0) j
 ex:∀k<c,∃j:T,ow[j]?=Y (Y k)
 un:∀j j' k:T,ow[j]?=Y (Y k)->ow[j']?=Y (Y k)->j=j'
def getD_none{ow:c4 (a5 T)}(h:ow.getD j (Y 0)=L):ow[j]?=Y L:=by
 unfold JN at h;split at h
 .simp_all
 .cases h
def P2.set{ow:c4 (a5 T)}(h:P2 t ow x a):P2 t (ow.setIfInBounds j (Y c)) x a:=
 let ⟨n,f,g⟩:=h
 ⟨n,f,λk i=>by
 have b:=(g k i);unfold EC JN at b ⊢;by_cases d:((way t k (t.probeStart x)).j)<ow.size
 .rw[hQ d]at b;rw[hQ (by simpa using d)];by_cases e:j=((way t k (t.probeStart x)).j)
  .subst e;simp
  simp_all
 .rw[dif_neg (by simpa using d)];rfl⟩
def get_set{ow:c4 (a5 T)}(B:j<ow.size):(ow.setIfInBounds j (Y c))[a]?=if j=a then Y (Y c)else ow[a]? :=by
 rw[Array.getElem?_setIfInBounds];split
 .simp
 .rfl
def Lay.step{ow:c4 (a5 T)}(y:Lay t hs ow c)(h:dQ t.mask ow (mH t.mask) (eQ (hs.getD c 0) % (t.mask+1)) (eQ (hs.getD c 0))=Y j):Lay t hs (ow.setIfInBounds j (Y c)) (c+1):=by
 obtain⟨n,p,q,m⟩:=DJ _ (t.probeStart _) (⟨W,W,W⟩) h;have m:=getD_none m;have d :=(bq.mp m).1;refine⟨by simpa using y.sz,λa k l=>?_,λk r=>?_,λa f k l b=>?_⟩
 .rw[get_set d]at l;split at l
  .rename_i e;subst e
   injection l with l
   injection l with l
   subst l;exact⟨ao _,P2.set ⟨n,p,q⟩⟩
  .obtain⟨g,i⟩:=y.st a k l;exact⟨dA g,i.set⟩
 .rcases jo k c with o|o
  .obtain⟨a,l⟩:=y.ex k o;refine⟨a,?_⟩;rwa[get_set d,cv (λe=>by grind)]
  .refine⟨j,?_⟩;rw[get_set d,cb W,(aI (bb r) o)]
 .rw[get_set d]at l b;split at l<;>split at b
  .simp_all
  .injection l with l
   injection l with l
   have:=(y.st f k b).1
   simp_all
  .injection b with b
   injection b with b
   exact((a9 ((y.st a k l).1) (af b))).elim
  .exact y.un a f k l b
theorem zV{ow:c4 (a5 T)}:∀(fuel i p:T),dQ mask ow fuel i p=L->∀n<fuel,EC ow (vy mask n i p).1=U
 |0,i,p,h,n,a=>((a9 a (aU _))).elim
 |fuel+1,i,p,h,n,a=>by
   have b:i<=eB mask i:=by unfold eB;split<;>simp
   rw[dQ]at h;split at h
   .cases h
   .rename_i c;cases n with
    |zero=>
      show EC ow i=U;simpa [EC]using ((BW.mp c) 0 (by omega))
    |succ n=>exact zV _ _ _ h n (bb a)
set_option tactic.hygienic false
def NI{l:O T}(B:l.Nodup)(h:∀x∈l,x<c):Z l<=c:=by
 have a:l.Perm ((aR c).filter λx=>decide (x∈l)):=by
  rw[gR B (BX JM gJ)]
  simp_all
 rw[a.length_eq];exact aa (dv _ _) (by simp)
def HW{ow:c4 (a5 T)}(B:j<ow.size)(h:EC ow j=U):∃k,ow[j]?=Y (Y k):=by
 unfold EC JN at h;rw[hQ B]at h;obtain⟨k,a⟩:=iw.mp h
 simp_all
def Lay.room{ow:c4 (a5 T)}(y:Lay t hs ow c)(B:c<t.mask+1):∃j,j<t.mask+1/\EC ow j=J:=by
 rcases LM (∃j,j<t.mask+1/\EC ow j=J)with h|h
 .exact h
 .exfalso
  have g:∀j,j<t.mask+1->∃k:T,ow[j]?=Y _:=λj f=>HW (by rwa[y.sz]) (by
   cases q:EC ow j with
   |true=>rfl
   |false=>exact absurd ⟨j,f,q⟩ h)
  have m:∀j,j<t.mask+1->ow[j]?=Y (Y ((ow.getD j L).getD 0)):=λj f=>by
   obtain⟨k,e⟩:=g j f
   simp_all
  have l:((aR (t.mask+1)).map λj=>(ow.getD j L).getD 0).Nodup:=by
   refine List.Pairwise.map _ (R:=λa b=>a∈aR (t.mask+1)/\b∈aR (t.mask+1)/\a≠b) ?_ (jF (λo p d=>⟨o,p,d⟩) gJ)
   .rintro a b ⟨o,p,d⟩ e;have i:=m a (aX.mp o);rw[e]at i;exact d (y.un _ _ _ i (m b (aX.mp p)))
  have:=NI l (λx n=>by
   obtain⟨j,f,rfl⟩:=bT.mp n
   exact(y.st j _ (m j (aX.mp f))).1)
  rw[aE,ba]at this;exact a9 B this
noncomputable def Ir(mask:T)(O':a5 (c4 (a5 T)×T))(h:cx):a5 (c4 (a5 T)×T):=do
 let (owner,k) <-O';let j <-dQ mask owner (mH mask) (eQ h % (mask+1)) (eQ h)
 pure (owner.setIfInBounds j (Y k),k+1)
theorem Dj{t:bF}(O':t.mask=7\/t.mask=31\/t.mask=127\/t.mask=511){hs:O cx}(C:Z hs<=t.mask):∀(rest pre:O cx)(ow:c4 (a5 T)),hs=pre++rest->Lay t hs ow pre.length->∃B,rest.foldl (Ir t.mask) (Y (ow,pre.length))=Y (B,hs.length)/\Lay t hs B hs.length
 |[],pre,ow,e,y=>⟨ow,by simp_all,by simp_all⟩
 |x::rest,pre,ow,e,y=>by
   obtain⟨g,h,i⟩:=y.room (dA (aa (by rw[e];simp) C));have c:hs.getD pre.length 0=x:=by rw[e];simp
   obtain⟨a,j⟩:∃a,dQ t.mask ow (mH t.mask) (eQ x % (t.mask+1)) (eQ x)=Y a:=(by
    cases q:dQ _ ow (mH _) _ (eQ x)with
    |some a=>exact⟨a,W⟩
    |none=>
      exfalso;obtain⟨n,d,b⟩:=Iu O' (p:=eQ x) (kF _ (by simp)) (by unfold eQ;exact (Int.toNat_lt (Vh _ (by decide))).mpr (Int.emod_lt_of_pos _ (by decide))) h;have:=zV _ _ _ q n (by exact dA (bf d));rw[b,i]at this;cases this);have b:=y.step (by rwa[c]);obtain⟨B,d,f⟩:=Dj O' C rest (pre++[x]) _ (by simp_all) (by rwa[aL]);refine⟨B,?_,f⟩;rw[QJ]
   have:Ir t.mask (Y (ow,pre.length)) x=Y (ow.setIfInBounds a (Y pre.length),(pre++[x]).length):=by
    unfold Ir
    simp_all
   rwa[this]
def MV{n j k:T}(h:(wo n (L:a5 T))[j]?=Y (Y k)):False:=by
 rw[Array.getElem?_replicate]at h
 simp_all
def Lay.nil(t:bF)(hs:O cx):Lay t hs (wo (t.mask+1) L) 0:=
 ⟨by simp,λj k h=>(MV h).elim,λk a=>((a9 a (aU _))).elim,λj b k h _=>(MV h).elim⟩
def Th{hs:c4 cx}(B:mask=7\/mask=31\/mask=127\/mask=511)(P:hs.size<=mask) :
  ∃t o,nD mask f m led pl hs=Y (t,o)/\t.mask=mask/\t.led=led/\o.toList.Perm (aR hs.size)/\t.place.size=o.size/\(∀j∈t.place.toList,j<=mask)/\∀(i:T)(h:i<o.size)(h':i<t.place.size),oJ t (hs.toList.getD o[i] 0) t.place[i]:=by
 let d:bF:={ mask,place:=#[],dummies:=#[],finger:=f,led,moves:=m,plain:=pl }
 obtain⟨ow,K,y⟩:∃ow,ES _ hs=Y ow/\Lay d _ ow _:=(by
  obtain⟨ow,K,N⟩:=Dj B (by simpa using P) hs.toList [] _ W (Lay.nil d _);refine⟨ow,?_,by simpa using N⟩;unfold ES;rw[<-Array.foldl_toList]
  have e:(hs.toList.foldl (Ir d.mask) (Y (wo (d.mask+1) L,0))).map (·.1)=Y ow:=by
   simp_all
  exact e);have C :=y.sz;let live:=(aR (mask+1)).filterMap λj=>(ow.getD j L).map (j,·)
 have c:∀j k,(j,k)∈live↔ow[j]?=Y _:=λj k=>by
  simp only[live,jh,aX,BS,qW];constructor
  .rintro⟨a,F,b,H,rfl,rfl⟩;rw[yv]at H;rw[a8 (aa F (af C.symm))]at H ⊢;exact c7 Y H
  .intro h;exact⟨j,aa ((bq.mp h).1) (af C),k,by rw[yv,h];rfl,W,W⟩
 let t:bF:={ mask,place:=(live.map (·.1)).toArray,dummies:=#[],finger:=f,led,moves:=m,plain:=pl }
 refine⟨t,(live.map (·.2)).toArray,?_,W,W,?_,by simp[t],λj g=>?_,λi Q v=>?_⟩
 .unfold nD;rw[K];rfl
 .have l:(live.map (·.2)).Nodup:=by
   have R:live.Pairwise λa b=>a.1≠b.1:=by
    refine B8.mpr (qa ?_ p5);intro a b p x w z A;obtain⟨_,_,rfl⟩:=dY w;obtain⟨_,_,rfl⟩:=dY A;exact a7 p
   refine fT.mpr (jF ?_ R);intro a b F H q e;have u:=(c _ _).mp F;rw[e]at u;exact q (y.un _ _ _ u ((c _ _).mp H))
  rw[gR l gJ];intro k;rw[bT,aX];constructor
  .rintro⟨a,F,rfl⟩;exact(y.st _ _ ((c _ _).mp F)).1
  .intro I;obtain⟨j,g⟩:=y.ex k I;exact⟨_,(c j k).mpr g,W⟩
 .obtain⟨a,F,rfl⟩:=bT.mp g;exact bb (aa ((bq.mp ((c _ _).mp F)).1) (af C))
 .have r:i<Z live:=by simpa using Q
  have S:(live.map (·.2)).toArray[i]=live[i].2:=by simp
  have X:t.place[i]=live[i].1:=by simp[t]
  rw[S,X];obtain⟨_,n,D,E⟩:=y.st _ _ ((c live[i].1 live[i].2).mp (bw r));refine⟨n,?_,λk I=>?_⟩
  .rwa[qd (t:=t) (t':=d) W]
  .rw[qd (t:=t) (t':=d) W];obtain⟨b,H⟩:=HW (aA (E4 k _) (af C.symm)) (E k I);exact bT.mpr ⟨_,(c _ b).mpr H,W⟩
theorem DE{t:bF}(g:t.dummies=#[])(B:∀i,ha i≠y):∀(fuel:T)(p:bR){m:P7},p.dummy=L->cu t ha y fuel p=Y m->∃n,n<fuel/\t.slot (way t n p).j=.empty/\∀k<n,t.slot (way t k p).j≠.empty
 |0,p,m,_,h=>by cases h
 |fuel+1,p,m,c,h=>by
   rw[cu]at h
   cases a:t.slot p.j with
   |empty=>exact⟨0,by simp,a,λk b=>by simp_all⟩
   |dummy=>exact(mP g a).elim
   |live i=>
     rw[a]at h;dsimp only at h;rw[cv (by simpa using B i)]at h;obtain⟨n,d,e,f⟩:=DE g B _ _ (uN c) h;refine⟨_,bf d,e,λk b=>?_⟩
     cases k with
     |zero=>show t.slot p.j≠_;rw[a];simp
     |succ k=>exact f k (bb b)
def Fx{t:bF}(O':t.mask=7\/t.mask=31\/t.mask=127\/t.mask=511)(y:t.dummies=#[])(C:t.slot (way t N (t.probeStart x)).j=.empty)(F:∀k<N,t.slot (way t k (t.probeStart x)).j≠.empty)(B:a<=N) :
  (t.probe ha x (way t a (t.probeStart x))=Y (.empty (way t N (t.probeStart x)).j L)/\∀k,a<=k->k<N->∃i,t.slot (way t k (t.probeStart x)).j=.live i/\ha i≠x)\/
  ∃b i,a<=b/\b<N/\t.probe ha x (way t a (t.probeStart x))=Y (.candidate (way t b (t.probeStart x)).j i (way t (b+1) (t.probeStart x)))/\t.slot (way t b (t.probeStart x)).j=.live i/\ha i=x/\∀k,a<=k->k<b->∃i,t.slot (way t k (t.probeStart x)).j=.live i/\ha i≠x:=by
 have g :=LS a (zt t x);obtain⟨m,h⟩:=u6 O' y g (bf (E4 (t:=t) N x)) C;obtain⟨c,u,l⟩:=zE y _ _ g.d h
 have f:∀k,a<=k->k<a+c->∃i,t.slot (way t k _).j=.live i/\ha i≠x:=λk n q=>by
  have:=u (k - a) (nZ (ws n) q);rwa[<-mE,(iF n)]at this
 have r:a+c<=N:=by
  rcases jo N (a+c)with p|p
  .obtain⟨i,e,_⟩:=f N B p
   grind
  .exact p
 rcases l with⟨l,o⟩|⟨i,l,o,v⟩
 .rw[<-mE]at l o
  have:a+c=N:=by
   rcases jo (a+c) N with p|p
   .simp_all
   .exact aI r p
  refine .inl ⟨by rw[h,l,this],λk n q=>f k n (aa q (af this.symm))⟩
 .rw[<-mE]at o
  have s:a+c<N:=by
   grind
  refine .inr ⟨_,i,be _ _,s,?_,o,v,f⟩;rw[h,l,<-mE,<-mE];rfl
structure lW(led:cc)(h:bP)(S:aD)(es:c4 (cx×ai))(ep:T)(t:bF):Prop where
 obj:h.get? S=Y { cls:=.type "set",dict:=L,data:=.set es ep t }
 fits:t.fits es.size=U
 ok:rC led t
def lW.keep{g:bP}(y:lW led h S es B t)(k:∀o,h.get? S=Y o->g.get? S=Y o):lW led g S es B t:=⟨k _ y.obj,y.fits,y.ok⟩
noncomputable abbrev qm(w:cW):cc:=!w.params.followText "set-order"
def nK{α F:Type}{R:α->F->Prop}{l I:O α}(p:I.Perm l):∀{C:O F},kB R l C->∃B,kB R I B/\B.Perm C:=by
 induction p with
 |nil=>intro C h;cases h;exact⟨[],.nil,.nil⟩
 | cons x p g=>intro C h;cases h with
   |cons a b=>obtain⟨B,c,d⟩:=g b;exact⟨_,.cons a c,d.cons _⟩
 | swap x y l=>intro C h;cases h with
   | cons a b=>cases b with
     |cons c d=>exact⟨_,.cons c (.cons a d),.swap ..⟩
 |trans p q e f=>
   intro C h;obtain⟨j,a,b⟩:=f h;obtain⟨i,c,d⟩:=e a;exact⟨i,c,d.trans b⟩
def qj{α g:Type}{R:α->g->Prop}{x:α}{y:g}(h:R x y){l:O α}{B:O g}(C:kB R l B):kB R (l++[x]) (B++[y]):=by
 induction C with
 |nil=>exact .cons h .nil
 |cons a _ i=>exact .cons a i
def mS{α g:Type}{R:α->g->Prop}{l:O α}{y:O g}(B:kB R l y):Z l=Z y:=by
 induction B with
 |nil=>rfl
 |cons _ _ i=>rw[bG,bG,i]
def nL{α g:Type}{R:α->g->Prop}{x:α}{l:O α}{B:O g}(C:kB R l B):x∈l->∃y∈B,R x y:=by
 induction C with
 |nil=>intro h;cases h
 |cons a _ i=>
  intro h;rcases ak.mp h with rfl|h
  .exact⟨_,.head _,a⟩
  .obtain⟨y,c,d⟩:=i h;exact⟨y,.tail _ c,d⟩
def o8{α g:Type}{R:α->g->Prop}{y:g}{l:O α}{B:O g}(C:kB R l B):y∈B->∃x∈l,R x y:=by
 induction C with
 |nil=>intro h;cases h
 |cons a _ i=>
  intro h;rcases ak.mp h with rfl|h
  .exact⟨_,.head _,a⟩
  .obtain⟨y,c,d⟩:=i h;exact⟨y,.tail _ c,d⟩
section
variable{prog:ck}{w:cW}{K:Type}[ed K]{knd:lZ prog w K}{s:aj}
def sY{g:c4 (cx×ai)}{t':bF}(y:lW led s.heap S es F t)(f:t'.fits g.size=U)(o:rC led t')(B:g.size<=aF)
  (k:∀C,cM S s.heap C->lW led C S g (F+1) t'->Q () { s with heap:=C }):aw (aq prog w) A (storeSet S g t') Q E s:=by
 refine wpAny_storeSet_of y.obj W (k _ (pG ..) ⟨?_,f,o⟩) B;exact (du (Obj.putSet _ t') y.obj (by rfl))
def Hj{g:cc->B3 k8}(I:∀(c:cc) (s1:aj) (R:k8->aj->Prop),R () s1->aw (aq prog w) A (g c) R E s1){B:c4 (cx×ai)}{O':bF}{d:cc}{R:a5 cc->aj->Prop}
  (y:lW led s.heap S es P t)(f:O'.fits B.size=U)(o:rC led O')(c3:B.size<Ak)
  (k:∀F C e0 t',cM S s.heap F->lW led F S C e0 t'->C.toList.Perm B.toList->R (Y U) { s with heap:=F }) :
  aw (aq prog w) A (do
      storeSet S B O'
      if(!d && O'.tooFull)=U then do
         g (gN O' B (ee B.size)).2.2
         storeSet S (gN O' B (ee B.size)).1 (gN O' B (ee B.size)).2.1
         pure (Y U)
       else pure (Y U)) R E s:=by
 refine wb9 (sY y f o (hR c3) λi a b=>?_);split
 .have h:=relayAll_perm O' B (ee B.size);have j:(gN O' B (ee B.size)).1.size=B.size:=by rw[<-bo,h.length_eq,bo]
  exact wb9 (I _ _ _ (wb9 (sY b (relayAll_fits ..) (o.aaW ..) (by rw[j];exact hR c3) λl Ey e=>wu9 (k l _ _ _ (a.trans Ey) e h))))
 .exact wu9 (k i _ _ _ a b (.refl _))
def Fj(hk:knd.is k x=U)(c3:x.scannable=U)(y:lW led s.heap S es ep t)(P:Vb knd es.toList)(room:es.size+1<Ak)
  (O':∀b,(∃e∈es.toList,knd.is k e.2=U)->Q b s)
  (I:∀b F C B t',(¬ ∃e∈es.toList,knd.is k e.2=U)->cM S s.heap F->lW led F S C B t'->C.toList.Perm (es.toList++[(knd.hash k,x)])->Q b { s with heap:=F }) :
  aw (aq prog w) A (setAddHashed S x (knd.hash k)) Q E s:=by
 refine bQ (wb9 (dX y.obj W y.fits ?_));dsimp only;rw[byScan_of c3 (Nat.lt_of_succ_lt room) P];refine wb9 (wb9 (ip (wb9 (wpAny_setScan_of hk y.obj W y.fits P ?_))))
 cases q:List.findIdx? (λe=>knd.is k _) es.toList with
 |some j=>
   obtain⟨o,H,_⟩:=List.findIdx?_eq_some_iff_getElem.mp q;exact wu9 (wu9 (O' _ ⟨_,bw o,H⟩))
 |none=>
   have p:¬ ∃e∈es.toList,knd.is k e.2=U:=by
    rintro⟨e,N,H⟩;have:=List.findIdx?_eq_none_iff.mp q e N
    simp_all
   have m:∀(c:cc)(s1:aj)(R:k8->aj->Prop),R () s1->aw (aq prog w) A (match c with|true=>rule "set.scan.the-table-gave-way"|false=>pure ()) R E s1:=by
    intro c s1 R h;cases c
    .exact wu9 h
    .exact ip h
   have f:=layNew_perm t es (knd.hash k) x;have g:=layNew_fits t es (knd.hash k) x;have i:=y.ok.lay es (knd.hash k) x;generalize layNew t es _ x=L' at f g i ⊢;obtain⟨l,r,d,u⟩:=L';rw[Ln]at f;have n:l.size=es.size+1:=by rw[<-bo,f.length_eq,aL];rfl
   refine wb9 (m _ _ _ ?_);have fin:∀F C B t',cM S _ F->lW _ F S C B t'->C.toList.Perm _->Q U _:=λF C B t' a b c=>I _ F _ B t' p a b (c.trans f);split
   .refine wb9 ?_;rw[hashByValue_scannable 8 c3];refine wu9 ?_;refine Hj m y ?_ ?_ (aA (af n) room) λF C B t' a b c=>wu9 (fin F _ B t' a b c)
    .split
     .exact g
     .exact SetTable.fits_plain_off g
    .split
     .exact i
     .exact i.off
   .exact wb9 (wu9 (Hj m y g i (aA (af n) room) λF C B t' a b c=>wu9 (fin F _ B t' a b c)))
end
section
variable{prog:ck}{w:cW}{K:Type}[ed K]{G:c4 nc->c4 nc->Prop}{St:T->aj->Prop}
end
section
variable{prog:ck}{w:cW}{K:Type}[ed K]{knd:lZ prog w K}{A:bJ}{G:c4 nc->c4 nc->Prop}{n:T}{P:T->ai->Prop}{St:T->aj->Prop}{led:cc}
def qw{prog:ck}{w:cW}{K:Type}[ed K](knd:lZ prog w K)(led:cc)(h:bP)(S:aD)(n:T)(M:K->Prop):Prop:=
 ∃b c t a,lW led h S b c t/\Vb knd b.toList/\kB (λ(e:cx×ai)k=>knd.is k e.2=U) b.toList a/\a.Nodup/\Z a<=n/\∀q,q∈a↔M q
def qw.keep{g:bP}(y:qw knd led h S n M)(k:∀o,h.get? S=Y o->g.get? S=Y o):qw knd led g S n M:=by
 obtain⟨b,c,t,d,a,r⟩:=y;exact⟨b,c,t,d,a.keep k,r⟩
def xx{g:T->K}{i:T}{q:K}:(∃j,j<i+1/\g j=q)↔(∃j,j<i/\g j=q)\/g i=q:=by
 constructor
 .rintro⟨j,h,e⟩;by_cases a:j=i
  .subst a;exact .inr e
  .exact .inl ⟨j,bD (bb h) a,e⟩
 .rintro(⟨j,h,e⟩|e)
  .exact⟨j,dA h,e⟩
  .exact⟨i,ao _,e⟩
section
variable{prog:ck}{w:cW}{A:bJ}{G:c4 nc->c4 nc->Prop}{n:T}{P:T->ai->Prop}{St:T->aj->Prop}{Hs:bP->T->Prop}{S:aD}
def Jy(prog:ck)(w:cW)(A:bJ)(S:aD)(n:T)(P:T->ai->Prop)(Hs:bP->T->Prop):Prop:=
 ∀(i:T)(v:ai)(s:aj)(Q:cc->aj->Prop)(E:ai->aj->Prop),i<n->P i v->Hs s.heap i->(∀b c a,cM S s.heap c->s.toks<=a->Hs c (i+1)->Q b { s with heap:=c,toks:=a })->aw (aq prog w) A (setAdd S v) Q E s
def aan(c3:WalksS prog w A.in1 I fp wr G n P St)(B:S∉fp)(keep:∀{i h F},(∀b o,b∉wr->h.get? b=Y o->F.get? b=Y o)->Hs h i->Hs F i)(add:Jy prog w A.in1 S n P Hs) :
  ∀(k i:T)(s:aj),n - i=k->i<=n->St i s->Hs s.heap i->(∀C,Moved (S::wr) G s C->Hs C.heap n->R (.ok (.ret .none)) C)->
   eH (aq prog w) A (.builtin "set.update.loop" ⟨[.ref S,.ref I],[]⟩) R s:=by
 have sub:∀b∈wr,b∈S::wr:=λb m=>jU _ m;intro k
 induction k with
 |zero=>
   intro i s u x c y g;obtain rfl:i=n:=aI (jj x) (nZ (wt x) (af u));apply fK oP;refine wb9 (c3.done s _ _ c λC m=>?_);exact wu9 (g C (m.mono sub) (keep m.heap y))
 |succ k l=>
   intro i s u x c y g;apply fK oP;rw[Around.under_plainId oO];have a:i<n:=nZ (ws x) (af u.symm);refine wb9 (c3.item i s _ _ a c λv C p d m=>?_);refine wb9 (bQ (add _ _ _ _ _ a p (keep m.heap y) λb F t j f q=>?_));refine wu9 ⟨iW oO _,l (i+1) _ (aI (rP (ws a) (wt (aK a)) (af u)) (rP (af u.symm) (ws (aK a)) (wt a))) a (c3.frame _ C _ _ d f λb E o e=>?_) q λs2 H r=>?_⟩
   .rw[j.2 b λz=>B (z▸E)];exact e
   .refine g s2 (Moved.trans c3.gtrans ((m.mono sub).then_heap f λb o E e=>?_) H) r;rw[j.2 b λz=>E (z▸jB)];exact e
end
section
variable{prog:ck}{w:cW}{K:Type}[ed K]{knd:lZ prog w K}
end
end
section
variable{z0:aj}
def Pk{st:O ai}(B:sG P w z0.heap g p)(hs:∀v∈st,∃l b,v=.ref b/\sG P w z0.heap l b)(h:Q J z0):aw (aq P w) A (searchCouldBeSeen (.ref p) st) Q E z0:=by
 apply wb9;refine jk _ (λf r d=>r.1=L/\d=z0/\∀v∈f,∃l b,v=.ref b/\sG P w _ l b) _ ?_ ?_ _ _ ⟨W,W,hs⟩
 .rintro v f r d ⟨ge,rfl,a⟩;obtain⟨l,b,rfl,e⟩:=a v jB;dsimp only;split
  .exact wu9 ⟨W,W,λu c=>a u (jU _ c)⟩
  .refine wb9 (vV JQ B ?_);refine wb9 (vV JQ e ?_);refine wb9 (Bw JQ B ?_);exact wb9 (Bw JQ e (wu9 ⟨W,W,λu c=>a u (jU _ c)⟩))
 .rintro⟨i,j⟩ d ⟨rfl,rfl,_⟩;exact wu9 h
end
def Ro{t:bF}(B:Ej t.place)(hi:i<t.place.size):t.slot t.place[i]=.live i:=by
 rw[Cr B (by simp),(show aP _ _=i by
  obtain⟨d,b,c⟩:=PR B _
  rcases oQ (aP _ _) i with a|a|a
  .exact((a9 (B.get hi a) (c (aP _ _) (de a hi) (ao _)))).elim
  .exact a
  .exact((a9 (b i hi a) (ao _))).elim)]
noncomputable abbrev hAt(es:c4 (cx×ai))(i:T):cx:=(es[i]?.map (·.1)).getD 0
section
variable{P:ck}{w:cW}{A:bJ}{s:aj}{es:c4 (cx×ai)}{t:bF}
structure acx(P:ck)(w:cW)(h:bP)(es:c4 (cx×ai))(t:bF)(kf:T->O NK):Prop where
 mask:t.mask=7\/t.mask=31\/t.mask=127\/t.mask=511
 el:∀(i:T)(hi:i<es.size),∃b,es[i].2=.ref b/\sG P w h (kf i) b/\es[i].1=eM P w (kf i)
 std:∀(i:T)(hi:i<es.size)(hp:i<t.place.size),oJ t es[i].1 t.place[i]
 le:∀j∈t.place.toList,j<=t.mask
theorem CB(e0:A.units+3<=eC)(y:lW led s.heap S es ep t)(z:acx P w s.heap es t kf)(O':sG P w s.heap g p)
  (h1:t.slot (way t N (t.probeStart (eM P w g))).j=.empty)(h2:∀k<N,t.slot (way t k (t.probeStart (eM P w g))).j≠.empty)
  (B:∀i,i<es.size->kf i=g->Q (.there L) s)(new:(∀i,i<es.size->kf i≠g)->Q (.free (way t N (t.probeStart (eM P w g))).j J) s) :
  ∀(fuel a:T)(sX:a5 bR),a<=N->N - a<fuel->sX.getD (t.probeStart (eM P w g))=way t a (t.probeStart (eM P w g))->(∀k<a,∀i,t.slot (way t k (t.probeStart (eM P w g))).j=.live i->kf i≠g)->
   aw (aq P w) A (g7 S (.ref p) (eM P w g) U fuel sX) Q E s
 |0,a,sX,ha,hf,_,_=>((a9 hf (aU _))).elim
 |fuel+1,a,sX,ha,hf,G,o=>by
   have hsz:t.place.size=es.size:=by
    have:=y.fits;simp only[nE,ah,ef]at this;exact this.1
   have U':t.gaveWay=J:=by
    unfold SetTable.gaveWay
    rcases z.mask with e|e|e|e<;>rw[e]<;>rfl
   have l:∀{j i:T},t.slot j=.live i->∃hi:i<es.size,hAt es i=es[i].1:=λ{j i}e=>by
    have hi:=(bq.mp ((show t.place[i]?=Y j by
     unfold nA at e;dsimp only at e;split at e
     .simp_all
     grind))).1;refine⟨aa hi (af hsz),?_⟩;unfold hAt;simp[a8 ((aa hi (af hsz)))]
   refine wb9 (dX y.obj W y.fits ?_);dsimp only;rw[U'];simp only[eg,dh];rw[G]
   rcases Fx z.mask y.ok.d (ha:=hAt es) h1 h2 ha with⟨H,D⟩|⟨b,i,b1,b2,H,D,g3,V⟩
   .erw [H]
    refine wu9 (new λi hi e=>?_);obtain⟨n,R,T'⟩:=z.std i hi (aa hi (af hsz.symm));have hh:es[i].1=eM P w g:=by obtain⟨_,_,_,q⟩:=z.el i hi;rw[q,e]
    rw[hh]at R T';have f:t.slot (way t n (t.probeStart (eM P w g))).j=.live i:=by rw[R];exact Ro y.ok.r (aa hi (af hsz.symm))
    have I:n<N:=by
     rcases oQ n N with hl|hl|hl
     .exact hl
     .simp_all
     .have:=T' N hl;rw[Cr y.ok.r this]at h1;cases h1
    rcases jo n a with hl|hl
    .exact o n hl i f e
    .obtain⟨h,e1,e2⟩:=D n hl I;rw[f]at e1
     injection e1 with e1
     subst e1;obtain⟨_,e3⟩:=l f
     simp_all
   .erw [H]
    dsimp only;obtain⟨hi,e3⟩:=l D;obtain⟨c,c1,c2,c3⟩:=z.el i hi
    have u:es[i]?=Y (es[i].1,.ref c):=by
     rw[a8 hi,<-c1]
    have next:aw (aq P w) A (do
      let Y (_,v):=es[i]? | unsupported "internal:set-entry"
      let equal <-holding [v] (eqBool v (.ref p));let (es',_,t') <-setState S
      if(U && equal)=U then return .there L
      let Y same:=t'.sameMemory t.moves t.mask|unsupported "set.changed-during-lookup:is-the-new-block-at-the-old-address"
      let still <-match(if same=U then t'.slot (way t b (t.probeStart (eM P w g))).j else .empty)with
       | .live h=>match es'[h]? with
         |some (_,e4)=>do pure (if(<-isSame e4 v)=U then Y h else L)
         |none=>pure L
       |_=>pure L
      match still with
      |none=>rule "set.search.anew";g7 S (.ref p) (eM P w g) U fuel L
      |some h=>if equal=U then return .there (Y h)else g7 S (.ref p) (eM P w g) U fuel (Y (way t (b+1) (t.probeStart (eM P w g))))) Q E s:=by
     rw[u];dsimp only;refine wb9 (bQ (abW e0 c2 O' ?_));refine wb9 (dX y.obj W y.fits ?_);by_cases e:kf i=g
     .rw[c0 e];exact wu9 (B i hi e)
     .rw[c6 e];have J':t.sameMemory t.moves t.mask=Y U:=by unfold SetTable.sameMemory;simp
      rw[J'];simp only[ek];rw[D];dsimp only;rw[u];refine wb9 (wpAny_isSame_ref_self (wb9 (wu9 ?_)));refine CB e0 y z O' h1 h2 B new _ _ _ (b2) (Yy (ws b2) (wt ha) hf b1) W λk hk h K L'=>?_
      rcases oQ k b with hl|hl|hl
      .rcases jo k a with m|m
       .exact o k m h K L'
       .obtain⟨i2,F,q2⟩:=V k m hl;rw[K]at F
        injection F with F
        subst F;obtain⟨M,q3⟩:=l K;obtain⟨_,_,_,q4⟩:=z.el h M
        simp_all
      .simp_all
      .exact a9 hk hl
    split
    .refine wb9 (Pk O' (λv X=>?_) next)
     .obtain⟨x,C,rfl⟩:=bT.mp X;clear X; obtain⟨k,hk,rfl⟩:=Array.mem_iff_getElem.mp (Array.mem_filter.mp (Array.mem_toList_iff.mp C)).1;obtain⟨e7,d1,d2,_⟩:=z.el k hk;exact⟨_,e7,d1,d2⟩
    .exact next
end
section
variable{z0:aj}
end
section
variable{P:ck}{w:cW}{A:bJ}{s:aj}{es:c4 (cx×ai)}{t:bF}
def _root_.L2.t5.keepsC(x:t5 I h g p)(C:h.get? d=Y o)(B:o.cls≠.type "tuple")(O':cM d h y):t5 I y g p:=
 x.nj (λa i f c _=>
 (λb o n e=>(O'.2 b n).trans e) a i (λz=>by
   simp_all) f)
structure G0(P:ck)(w:cW)(h:bP)(es:c4 (cx×ai))(t:bF):Prop where
 mask:t.mask=7\/t.mask=31\/t.mask=127\/t.mask=511
 el:∀e∈es.toList,∃l b,e.2=.ref b/\sG P w h l b/\e.1=eM P w l
 std:∀q∈es.toList.zip t.place.toList,oJ t q.1.1 q.2
 le:∀j∈t.place.toList,j<=t.mask
 nf:t.place.size * 5<t.mask * 3
def uA{l g:O T}(O':l.Nodup)(B:g.Nodup)(h:∀x∈l,x∈g):Z l<=Z g:=by
 have a:l.Perm (g.filter λx=>decide (x∈l)):=by
  rw[gR O' (BX JM B)]
  simp_all
 rw[a.length_eq];exact dv _ _
def Y8(B:Ej t.place)(g:t.place.size<t.mask+1)(y:t.dummies=#[]):∃j,j<t.mask+1/\t.slot j=.empty:=by
 rcases LM (∃j,j<t.mask+1/\t.slot j=.empty)with h|h
 .exact h
 .exfalso;have:=uA gJ (qa (λh=>(a7 h)) B) λj(b)=>NC y λe=>h ⟨j,aX.mp b,e⟩;rw[ba]at this;exact a9 g this
def Fy(O':A.units+3<=eC)(y:lW led s.heap S es ep t)(z:G0 P w s.heap es t)(c3:sG P w s.heap I p)
  (B:(∃e∈es.toList,∃b,e.2=.ref b/\sG P w s.heap I b)->Q (.there L) s)
  (R:∀j,(¬ ∃e∈es.toList,∃b,e.2=.ref b/\sG P w s.heap I b)->t.slot j=.empty->j<=t.mask->oJ (t.put j).1 (eM P w I) j->Q (.free j J) s) :
  aw (aq P w) A (setSearch S (.ref p) (eM P w I) U) Q E s:=by
 refine ac λ_ x=>?_;obtain⟨v,n⟩:∃v,acx P w _ es t v:=(by
  refine⟨λi=>if C:i<es.size then(z.el es[i] (by simp)).choose else [],z.mask,λi C=>?_,λi C hp=>?_,z.le⟩
  .obtain⟨b,F,H,h3⟩:=(z.el es[i] (by simp)).choose_spec;refine⟨b,F,?_,?_⟩
   .rwa[hQ C]
   .rwa[hQ C]
  .apply z.std (es[i],t.place[i]);refine cF.mpr ⟨i,by simp;omega,by simp⟩);have f:=z.nf;obtain⟨j,l,K⟩:=Y8 y.ok.r (by rcases z.mask with e|e|e|e<;>rw[e]at f ⊢<;>omega) y.ok.d;obtain⟨N,m,F,H⟩:∃N,N<6000/\t.slot (way t N (t.probeStart (eM P w I))).j=.empty/\∀k<N,t.slot (way t k (t.probeStart _)).j≠.empty:=(by obtain⟨m,h⟩:=u6 z.mask y.ok.d (ha:=λ_=>(eM P w I)+1) (zt t _) l K;obtain⟨n,F,H,h3⟩:=DE y.ok.d (λ_=>(λa=>(wm (qb a) (Int.le_refl _)))) _ _ W h;refine⟨n,?_,H,h3⟩;unfold mH at F;exact aQ F (by rcases z.mask with h|h|h|h<;>rw[h]<;>decide));apply x;refine CB O' y n c3 F H (λi C e=>B ?_) (λg=>R _ ?_ F (E4 N _) (oJ.new λk X=>NC y.ok.d (H k X))) _ 0 L (aU _) (aa m cV) W λk X=>((a9 X (aU _))).elim
 .obtain⟨b,a,h,_⟩:=n.el i C;exact⟨_,by simp,b,a,e▸h⟩
 .rintro⟨e,K,b,a,h⟩;obtain⟨i,C,rfl⟩:=cF.mp K;have c:i<es.size:=by simpa using C
  obtain⟨u,o,q,_⟩:=n.el i c;rw[qR]at a;rw[o]at a;cases a;exact g i c (q.inj h)
end
section
variable{s:aj}
def RQ(y:lW led s.heap S es C t)(B:gr wanted<=aF)(F:t.relaid (es.map (·.1)) wanted=Y (t',o))(hs:(o.filterMap (es[·]?)).size=es.size)
  (f:t'.fits (o.filterMap (es[·]?)).size=U)(ok:rC led t')(O':es.size<=aF)(k:∀g,cM S s.heap g->lW led g S (o.filterMap (es[·]?)) (C+1) t'->Q () { s with heap:=g }) :
  aw (aq P w) A (setRelay S wanted) Q E s:=by
 refine wb9 (dX y.obj W y.fits ?_);dsimp only;rw[cv (λz=>(a9 z B)),F];apply wb9;change aw _ _ (if((o.filterMap _).size != es.size)=U then(unsupported _ >>= λ_=>pure (o.filterMap _,t'))else pure (o.filterMap _,t')) ..;rw[cv (by simp[hs])];exact wu9 (sY y f ok (by rwa[hs]) k)
end
theorem filterMap_map{α y:Type}{f:α->a5 y}{g:α->y}:∀{l:O α},(∀k∈l,f k=Y (g k))->l.filterMap f=l.map g
 |[],_=>rfl
 |a::l,h=>by rw[sD,h a jB,az,filterMap_map λk b=>h k (jU _ b)]
def Kh(es:c4 (cx×ai)):(aR es.size).map (λk=>(es[k]?).getD (0,.none))=es.toList:=by
 apply jX
 .simp
 simp_all
section
variable{es:c4 (cx×ai)}
def CZ{o:c4 T}(g:o.toList.Perm (aR es.size)):(o.filterMap (es[·]?)).toList=o.toList.map (λk=>(es[k]?).getD (0,.none)):=by
 rw[Array.toList_filterMap];refine filterMap_map λk a=>?_;have :=aX.mp (g.mem_iff.mp a)
 simp_all
def xn{o:c4 T}(g:o.toList.Perm (aR es.size)):(o.filterMap (es[·]?)).toList.Perm es.toList:=by
 rw[CZ g];have:=g.map (λk=>(es[k]?).getD (0,dG));rwa[Kh]at this
def RR{h:bP}(B:mask=7\/mask=31\/mask=127\/mask=511)(O':es.size<=mask)(R:es.size * 5<mask * 3)(C:∀e∈es.toList,∃l b,e.2=.ref b/\sG P w F l b/\e.1=eM P w l) :
  ∃t' o,nD mask f m led pl (es.map (·.1))=Y (t',o)/\(o.filterMap (es[·]?)).size=es.size/\t'.fits (o.filterMap (es[·]?)).size=U/\rC led t'/\(o.filterMap (es[·]?)).toList.Perm es.toList/\G0 P w F (o.filterMap (es[·]?)) t':=by
 refine ac λ_ v=>?_;obtain⟨t',o,x,t,E,a,A,k,n⟩:=Th (hs:=es.map _) B (by simpa using O');apply v;have a:o.toList.Perm (aR es.size):=by simpa using a
 have u:=xn a;have g:(o.filterMap (es[·]?)).size=es.size:=by rw[<-bo,u.length_eq,bo]
 have p:o.size=es.size:=by rw[<-bo,a.length_eq,ba]
 have ok:=rC.laid x;refine⟨t',o,x,g,?_,ok,u,?_⟩
 .simp only[nE,qN,ah,ef,c5,ok.d]
  simp_all
 .refine⟨by rwa[t],λe H=>C e (u.mem_iff.mp H),λq r=>?_,λj s=>by rw[t];exact k j s,Yy (Nat.mul_le_mul_left 5 (af A)) R (Nat.mul_le_mul_left 5 (af p)) (Nat.mul_le_mul_left 3 (af t.symm))⟩;clear B O' R C x t E k u g p ok; obtain⟨i,y,rfl⟩:=cF.mp r;rw[yr]at y;have c:i<o.size:=by simp at y;grind
  have I:o[i]<es.size:=aX.mp (a.mem_iff.mp (by simp))
  have K:(o.filterMap _).toList[i]'(by exact aa y (kr _ _))=es[o[i]]:=by
   simp only[CZ a,vP,qR,a8 I,lK]
  have N:=n i c (aa c (af A.symm))
  simp_all
end
def IF{α:Type}(xs:c4 α)(g:p<=xs.size)(x:α):(dz xs p x).size=xs.size+1:=by
 rw[<-bo,fH,aL,bG,fL,jW];exact aI (nZ (kr p _) (ws g)) (nZ (wt g) (a0 p xs.size (jj g)))
def Du{α:Type}(xs:c4 α)(p:T)(x:α):(dz xs p x).toList.Perm (xs.toList++[x]):=by
 rw[fH];apply Qe.trans;rw[bp];exact eD (l₁:=[x])
def TB{α F:Type}(xs:c4 α)(g:c4 F)(h:xs.size=g.size){p:T}(C:p<=xs.size)(x:α)(y:F){q:α×F}(B:q∈(dz xs p x).toList.zip (dz g p y).toList):q=(x,y)\/q∈xs.toList.zip g.toList:=by
 rw[fH,fH,QF (by simp;exact aI (nZ (kr p _) (a0 p g.size (nZ C (af h)))) (nZ (kr p _) (a0 p xs.size (jj C))))]at B
 have a:xs.toList.zip g.toList=(xs.toList.take p).zip (g.toList.take p)++(xs.toList.drop p).zip (g.toList.drop p):=by
  rw[<-QF (by simp;exact aI (nZ (kr p xs.size) (a0 p g.size (nZ C (af h)))) (nZ (kr p g.size) (a0 p xs.size (jj C)))),bp,bp]
 rw[a]
 rcases aH.mp B with B|B
 .simp_all
 .rcases ak.mp B with B|B
  .exact .inl B
  .exact .inr (aH.mpr (.inr B))
section
def Cf{c:Prop}[ei c]{m O':B3 cc}{k:cc->B3 cc}{Q:cc->aj->Prop}(h:∀b,aw (aq P w) A (k b) Q E s)(y:∀{g:cc->aj->Prop},(∀b,g b s)->aw (aq P w) A m g E s)(B:∀{g:cc->aj->Prop},(∀b,g b s)->aw (aq P w) A O' g E s) :
  aw (aq P w) A (if c then m >>= k else O' >>= k) Q E s:=by
 split
 .exact wb9 (y h)
 .exact wb9 (B h)
def oJ.plain(h:oJ t x j):oJ { t with plain:=b } x j:=
 oJ.mono (t:=t)  rfl (λ_ h=>h) h
def TQ(B:mask=7\/mask=31\/mask=127\/mask=511)(y:n * 5<mask * 3)(g:(n+1) * 5>=mask * 3)(O':n<300):(gr (ee (n+1)) - 1=31\/gr (ee (n+1)) - 1=127\/gr (ee (n+1)) - 1=511)/\n+1<=gr (ee (n+1)) - 1/\(n+1) * 5<(gr (ee (n+1)) - 1) * 3/\gr (ee (n+1))<=512:=by
 rcases B with rfl|rfl|rfl|rfl
 .obtain rfl:n=4:=aI (Nat.le_of_lt_succ (Nat.lt_of_mul_lt_mul_right (a:=5) (aQ y (by decide)))) (Nat.le_of_lt_succ (Nat.lt_of_mul_lt_mul_right (a:=5) (aQ (by decide) g)))
  decide +kernel
 .obtain rfl:n=18:=aI (Nat.le_of_lt_succ (Nat.lt_of_mul_lt_mul_right (a:=5) (aQ y (by decide)))) (Nat.le_of_lt_succ (Nat.lt_of_mul_lt_mul_right (a:=5) (aQ (by decide) g)))
  decide +kernel
 .obtain rfl:n=76:=aI (Nat.le_of_lt_succ (Nat.lt_of_mul_lt_mul_right (a:=5) (aQ y (by decide)))) (Nat.le_of_lt_succ (Nat.lt_of_mul_lt_mul_right (a:=5) (aQ (by decide) g)))
  decide +kernel
 .exact⟨(.inl (Yx g (Nat.mul_le_mul_left 5 O')).elim),⟨(Yx g (Nat.mul_le_mul_left 5 O')).elim,⟨(Yx g (Nat.mul_le_mul_left 5 O')).elim,(Yx g (Nat.mul_le_mul_left 5 O')).elim⟩⟩⟩
end
section
variable{s:aj}{A:bJ}
def add_n(i_:A.units+3<=eC)(y:lW led s.heap S es ep t)(z:G0 P w s.heap es t)(O':sG P w s.heap ks p)(room:es.size<300)
  (c3:∀b,(∃e∈es.toList,∃b,e.2=.ref b/\sG P w s.heap ks b)->Q b s)
  (new:∀b h' es' e0 t',(¬ ∃e∈es.toList,∃b,e.2=.ref b/\sG P w s.heap ks b)->cM S s.heap h'->lW led h' S es' e0 t'->G0 P w h' es' t'->es'.toList.Perm (es.toList++[(eM P w ks,.ref p)])->Q b { s with heap:=h' }) :
  aw (aq P w) A (setAddHashed S (.ref p) (eM P w ks)) Q E s:=by
 have hsz:t.place.size=es.size:=by
  have:=y.fits;simp only[nE,ah,ef]at this;exact this.1
 apply bQ;refine wb9 (dX y.obj W y.fits ?_);dsimp only;refine wb9 (Fy i_ y z O' (λh=>(wu9 (c3 _ h))) (λj F hs N R=>?_))
 .refine wb9 (dX y.obj W y.fits ?_);refine Cf (λb=>?_) (λq=>VJ JQ O' q) (λq=>wu9 (q _));have i :=(PR y.ok.r j).1
  have n:({ cls:=.type "set",dict:=L,data:=.set es ep t }:lO).cls≠.type "tuple":=by
   simp
  generalize m:(if b=U then(t.put j).1 else { (t.put j).1 with plain:=J })=t1;have T':t1.place=dz t.place (aP t.place j) j:=by rw[<-m];split<;>rfl
  have L':t1.mask=t.mask:=by rw[<-m];split<;>rfl
  have G:rC led t1:=by
   have:=y.ok.put (wJ y.ok.d hs);rw[<-m];split
   .exact this
   .exact this.off
  have q4:∀x a,oJ _ x a->oJ t1 x a:=λx a h=>by
   rw[<-m];split
   .exact h
   .exact h.plain
  have C:t1.place.size=es.size+1:=by rw[T',IF _ i,hsz]
  have g:(dz es _ (eM P w ks,bZ p)).size=es.size+1:=IF _ (aa i (af hsz)) _;have c:=Du es (aP t.place j) (eM P w ks,bZ p)
  have u:∀e,e∈(dz es _ _).toList->e∈es.toList\/e=(eM P w ks,bZ p):=λe he=>by
   rcases aH.mp (c.mem_iff.mp he)with h|h
   .exact .inl h
   .exact .inr (ax.mp h)
  have H:=z.nf
  have v:t1.fits (dz es (aP t.place j) (eM P w ks,bZ p)).size=U:=by
   simp only[nE,qN,ah,ef,c5,G.d];refine⟨aI (aa (af C) (af g.symm)) (aa (af g) (af C.symm)),?_⟩;show t1.place.size+0<=t1.mask;rw[L']
   rcases z.mask with e|e|e|e<;>rw[e]at H ⊢<;>omega
  have I:∀a∈t1.place.toList,a<=t1.mask:=λa ha=>by
   rw[T']at ha;rw[L']
   rcases aH.mp ((Du _ _ j).mem_iff.mp ha)with h|h
   .exact z.le a h
   .rwa[ax.mp h]
  have k:∀q∈(dz es _ (eM P w ks,bZ p)).toList.zip t1.place.toList,oJ t1 q.1.1 q.2:=λq hq=>by
   rw[T']at hq
   rcases TB es _ hsz.symm (aa i (af hsz)) _ _ hq with h|h
   .rw[h];exact q4 _ _ R
   .exact q4 _ _ (oJ.mono (t:=t)  rfl (λa ha=>Io.mpr (.inr ha)) (z.std q h))
  rw[show(t.put j).2=aP _ j from rfl];generalize dz es _ _=es1 at g c u v k ⊢;refine wb9 (sY y v G (by rw[g];exact aa room cV) λh1 M U'=>?_)
  have B:∀h',cM S _ h'->∀e∈es1.toList,∃l b,e.2=.ref b/\sG P w h' l b/\e.1=eM P w l:=λh' J' e he=>by
   rcases u e he with h|h
   .obtain⟨l,b,V,e1,X⟩:=z.el e h;exact⟨l,b,V,e1.keepsC y.obj n J',X⟩
   .rw[h];exact⟨ks,p,W,O'.keepsC y.obj n J',W⟩
  split
  .rename_i f
   have f:(es.size+1) * 5>=t.mask * 3:=by
    simp only[Vi,Bool.true_and,G5,qN,G.d,c5]at f;have:(#[]:c4 T).size=0:=rfl;exact Yy (Nat.mul_le_mul_left 3 (af L'.symm)) f (Nat.mul_le_mul_left 5 (af C)) (Nat.mul_le_mul_left 5 (af this))
   refine ac λ_ kq=>?_;obtain⟨m1,m2,m3,m4⟩:=TQ z.mask (by rwa[<-hsz]) f room;obtain⟨t',o,V,e1,X,r4,r5,K⟩:=RR (h:=s.heap) (.inr m1) (aa (af g) m2) (nZ (Nat.mul_le_mul_left 5 (af g)) m3) (B h1 M)
   apply kq;have hrl:t1.relaid (es1.map (·.1)) (ee (es.size+1))=Y (t',o):=by
    unfold PySem.SetTable.relaid;rwa[G.l]
   refine wb9 (RQ U' (by exact aa m4 cV) hrl e1 X r4 (by rw[g];exact aa room cV) λh2 Ey y2=>?_)
   have D:({ cls:=.type "set",dict:=L,data:=.set es1 (ep+1) t1 }:lO).cls≠.type "tuple":=by
    simp
   refine wu9 (new _ h2 _ _ _ F (M.trans Ey) y2 ⟨K.mask,λe he=>?_,K.std,K.le,K.nf⟩ (r5.trans c));obtain⟨l,b,s1,s2,s3⟩:=K.el e he;exact⟨l,b,s1,s2.keepsC U'.obj D Ey,s3⟩
  .rename_i f
   have f:(es.size+1) * 5<t.mask * 3:=by
    simp only[Vi,Bool.true_and,G5,qN,G.d,c5]at f;exact rP (Nat.mul_le_mul_left 5 (af C.symm)) (eT f) (Nat.mul_le_mul_left 3 (af L'))
   exact wu9 (new _ h1 _ _ _ F M U' ⟨by rw[L'];exact z.mask,B h1 M,k,I,by rwa[L',C]⟩ c)
end
section
variable{prog:ck}{w:cW}{A:bJ}{s:aj}
abbrev AK(w:cW):lO:={ cls:=.type "set",dict:=L,data:=.set #[] 0 (.fresh 0 0 (qm w)) }
def BB{T':et}(O':TypeCalled T' C y)(P:checkTypeCall T' ⟨args,[]⟩=pure ())(R:hS table y=Y B)
  (S:eH (aq prog w) A.in1 (.call (.builtin C) ⟨.type T'::args,[]⟩) (wants Q1 E) s)
  (I:∀c3 s1,Q1 c3 s1->s1.TypeIs c3 T'/\eH (aq prog w) A.in1 (.call (.builtin y) ⟨c3::args,[]⟩) (wants (λr s2=>r=.none/\Q c3 s2) E) s1) :
  aw (aq prog w) A (call (.type T') args) Q E s:=by
 obtain⟨c,n,o⟩:=O'.mro;have p:=O'.made;have q:=O'.sub;refine wpAny_call (codeAny_of_tree ?_);refine wu9 (wq (Code.quiet_builtin _ (by decide +kernel)) (fK PySem.F.entry_type_call ?_));have h:=O'.notType;have e5:=O'.canCreate
 repeat any_goals first|assumption|wp_step
 refine iQ S λr s1 b=>?_
 cases r with
 |error e=>exact b
 |ok m=>
   cases m with
   |ret c3=>
     obtain⟨i,f⟩:=I _ _ b;have j:=O'.init.lookup;have k:=O'.init.bind c3
     repeat any_goals first|assumption|wp_step
     refine iQ f λg s2 a=>?_
     cases g with
     |error e=>exact a
     |ok d=>
       cases d with
       |ret r=>
         obtain⟨rfl,l⟩:=a
         repeat any_goals first|assumption|wp_step
       |_=>exact a.elim
   |_=>exact b.elim
def Lb{T':et}(ty:s.TypeIs v T')(a:ez (.type T') (.type "set")=pure J)(b:ez (.type T') (.type "frozenset")=pure J)(k:Q J s):aw M A (Qy v) Q E s:=by
 exact wb9 (dU ty a (dU ty b k))
variable{K:Type}[ed K]{knd:lZ prog w K}
def Ek(prog:ck)(w:cW)(h:bP)(v:ai)(n:T)(P:T->ai->Prop):Prop:=
 ∀(A1:bJ)(c:ai->aj->Prop)(s1:aj)(d:ai->aj->Prop),h.objs.size<s1.heap.objs.size->(∀b o,h.get? b=Y o->s1.heap.get? b=Y o)->
  (∀(o:lO)(e:O aD)(St:T->bP->Prop),(∀a,a.handled=L->Walks prog w a s1.heap.objs.size e [s1.heap.objs.size] n P St)->(∀b∈e,b=s1.heap.objs.size\/b<h.objs.size)->St 0 (s1.heap.push o)->
   d (.ref s1.heap.objs.size) { s1 with heap:=s1.heap.push o })->aw (aq prog w) A1 (EK v) d c s1
def Vo{T':et}(I:A.handled=L)(ty:∀s1:aj,(∀b o,s.heap.get? b=Y o->s1.heap.get? b=Y o)->s1.TypeIs v T')
  (a:ez (.type T') (.type "set")=pure J)(b:ez (.type T') (.type "frozenset")=pure J)(R:(gQ T' == gQ "dict")=J)(B:Ek prog w s.heap v n P)
  (keep:∀{i h C},(∀b o,b≠s.heap.objs.size+1->h.get? b=Y o->C.get? b=Y o)->Hs h i->Hs C i)(add:Jy prog w A.in1.in1.in1 s.heap.objs.size n P Hs)
  (S:∀o,Hs ((s.heap.push (AK w)).push o) 0)
  (k:∀C O',Hs C n->(∀b o,s.heap.get? b=Y o->C.get? b=Y o)->Q (.ref s.heap.objs.size) { s with heap:=C,toks:=O' }) :
  aw (aq prog w) A (call (.type "set") [v]) Q E s:=by
 apply BB (Q1:=λg s1=>g=.ref s.heap.objs.size/\s1={ s with heap:=s.heap.push (AK w) }) EV (PySem.F.typeCall_set_1 v) Ap (by
  refine fZ PySem.F.plain_set_new PySem.F.entry_set_new (lH (PySem.F.newCall_set_1 v) ?_);have b:=sub_set_self;obtain⟨X,g,d,c,os⟩:=s
  wp_walk
  apply Aj;exact wu9 (wb9 (wpAny_alloc (wu9 (wu9 ⟨W,W⟩)))));rintro g s1 ⟨rfl,rfl⟩;have gS:(s.heap.push (AK w)).get? _=Y _:=aC _ W;have j:Shared.TypeIs { s with heap:=s.heap.push _ } (.ref _) _:=⟨_,gS,W⟩
 refine⟨j,fZ EV.init.plain Ap (check_set_init_1 j ?_)⟩;have p:∀b o,s.heap.get? b=Y o->(s.heap.push (AK w)).get? b=Y o:=λb o e=>hp9 _ e;unfold gu.«set.__init__» noKeywords;generalize l:Qw=U'
 wp_walk
 subst l;refine wb9 (Lb (ty _ p) a b ?_);refine wb9 (jC (ty _ p) ?_);rw[R];have r:(s.heap.push (AK w)).objs.size=s.heap.objs.size+1:=fR ..;refine wb9 (B _ _ _ _ (by simp) p λo fp St D c t=>?_);refine wb9 (PySem.wpAny_runValue ?_);refine aan (Hs:=Hs) (D _ (by simp[I])).toS (λm=>?_) (λh=>keep λb o u=>h b o (by simpa [r]using u)) add n 0 _ W (aU _) t (S o) λx m y=>?_
 .rcases c _ m with q|q
  .exact absurd (q.trans r) (a7 (iX _))
  .exact absurd q (bE _)
 .apply wu9;obtain⟨C,H,N,d,f⟩:=x;obtain rfl:H=s.gens:=m.gens;obtain rfl:N=s.drawn:=m.drawn;obtain rfl:f=s.os:=m.os;refine wu9 ⟨W,k C d y λb o e=>m.heap b o (λz=>?_) (hp9 _ (hp9 _ e))⟩;have lt:=hl9 e
  grind
def MB{T':et}(hh:A.handled=L)(ty:∀s1:aj,(∀b o,s.heap.get? b=Y o->s1.heap.get? b=Y o)->s1.TypeIs v T')
  (a:ez (.type T') (.type "set")=pure J)(b:ez (.type T') (.type "frozenset")=pure J)(nd:(gQ T' == gQ "dict")=J)(B:Ek prog w s.heap v n P)
  (S:T->K)(O':∀i v,P i v->knd.is (S i) v=U/\v.scannable=U)(hb:n+1<Ak)
  (k:∀h' c3,qw knd (qm w) h' s.heap.objs.size n (λq=>∃j,j<n/\S j=q)->(∀b o,s.heap.get? b=Y o->h'.get? b=Y o)->Q (.ref s.heap.objs.size) { s with heap:=h',toks:=c3 }) :
  aw (aq prog w) A (call (.type "set") [v]) Q E s:=by
 refine Vo (Hs:=λh i=>qw _ _ h _ i (λq=>∃j,j<i/\S j=q)) hh ty a b nd B (λq y=>y.keep λo=>q _ o (a7 (iX _))) (by
  intro i v s Q E hi C y k;refine ac λ_ kq=>?_;obtain⟨d,u⟩:=O' i v C;obtain⟨M,ep,t,V,x,f,c,B,g,l⟩:=y;apply kq;refine bQ (wb9 (knd.pyHash d ?_));have len:=mS c;rw[bo]at len
  have N:(∃e∈M.toList,knd.is (S i) e.2=U)↔S i∈V:=by
   constructor
   .rintro⟨e,X,G⟩;obtain⟨q,D,F⟩:=nL c X;rwa[knd.inj _ _ _ G F]
   .intro q;obtain⟨e,X,G⟩:=o8 c q;exact⟨e,X,G⟩
  refine Fj d u x f (Yy (af len) hb g hi) (λb m=>?_) (λb h' es' o t' m H I p=>?_)
  .refine k _ _ _ (An ..) (oR _) ⟨M,ep,t,V,x,f,c,B,dA g,λq=>?_⟩;show _↔∃j,_;rw[xx];exact⟨λz=>.inl ((l q).mp z),λz=>z.elim (l q).mpr λe=>e▸N.mp m⟩
  .obtain⟨r,c1,c2⟩:=nK p (qj (R:=λ(e)k=>knd.is k e.2=U) d c);have J' :=λz=>m (N.mpr z);refine k _ h' _ H (oR _) ⟨_,o,t',r,I,(f.push d u).perm p,c1,?_,?_,λq=>?_⟩
   .refine c2.nodup_iff.mpr (cG.mpr ⟨B,a6.mpr ⟨by simp,eE⟩,λa ha b hb=>?_⟩)
    grind
   .rw[c2.length_eq,aL];exact bf g
   .show _↔∃j,_;rw[c2.mem_iff,aH,ax,xx,@eq_comm _ q];exact or_congr (l q) .rfl) (λo=>?_) k;exact⟨_,0,_,[],⟨hp9 _ (aC _ W),by rfl,rC.fresh _⟩,λe he=>by simp at he,.nil,eE,ao _,λq=>by simp⟩
end
section
variable{P:ck}{w:cW}
def _root_.L2.t5.mono{g:bP}(x:t5 I h y p)(k:∀b o,h.get? b=Y o->g.get? b=Y o):t5 I g y p:=x.nj λb o e _ _=>k b o e
def G1(P:ck)(w:cW)(g:cc)(h:bP)(S:aD)(y:T->O NK)(O':T->aD)(i:T):Prop:=
 ∃b c t a,lW g h S b c t/\G0 P w h b t/\kB (λ(e:cx×ai)j=>e.2=.ref (O' j)) b.toList a/\(a.map y).Nodup/\(∀j∈a,j<i)/\∀j,j<i->y j∈a.map y
variable{kf:T->O NK}{av:T->aD}
def G1.keep{B:bP}(y:G1 P w led h S kf av i)(k:∀o,h.get? S=Y o->B.get? S=Y o)(a:∀j,j<i->sG P w h (kf j) (av j))(b:∀j,j<i->sG P w B (kf j) (av j)):G1 P w led B S kf av i:=by
 refine ac λ_ r=>?_;obtain⟨C,E,t,F,n,c,f,p,d,q⟩:=y;apply r;refine⟨C,E,t,F,n.keep k,⟨c.mask,λe u=>?_,c.std,c.le,c.nf⟩,f,p,d,q⟩;refine ac λ_ r=>?_;obtain⟨l,b0,x,H,A⟩:=c.el e u;obtain⟨j,g,m⟩:=nL f u;apply r;rw[m]at x;cases x;rw[H.inj (a j (d j g))]at A;exact⟨_,_,m,b j (d j g),A⟩
variable{A:bJ}{G:c4 nc->c4 nc->Prop}{St:T->aj->Prop}
def acq(c3:∀i v,Pv i v->v=.ref (av i))(hk:∀j,j<n->sG P w h0 (kf j) (av j))(B:h0.get? S=L)(hb:n<=300)(O':A.units+3<=eC) :
  Jy P w A S n Pv λh i=>(i<=n/\∀b o,h0.get? b=Y o->h.get? b=Y o)/\G1 P w led h S kf av i:=by
 intro i v s Q E hi I y k;refine ac λ_ kq=>?_;obtain⟨⟨M,g⟩,es,ep,t,V,x,C,f,l,m,D⟩:=y;obtain rfl:=c3 i v I;apply kq;have X:∀j,j<n->sG P w ..:=λj c=>(hk j c).mono g;refine bQ (wb9 (Gp O' (X i hi) ?_));have len:=mS f;rw[bo]at len
 have q:Z V<=i:=by
  have:=uA ((fT.mp l).imp λh e=>h (c7 kf e)) gJ λj c=>aX.mpr (m j c)
  simp_all
 have has:(∃e∈es.toList,∃b,e.2=.ref b/\sG P w _ (kf i) b)↔kf i∈V.map kf:=(by
  constructor
  .rintro⟨e,he,b,e1,e2⟩;obtain⟨j,d,c⟩:=nL f he;rw[c]at e1;cases e1;rw[e2.inj (X j (de (m j d) hi))];exact eh d
  .intro q;obtain⟨j,d,e⟩:=bT.mp q;obtain⟨x,g,c⟩:=o8 f d;exact⟨x,g,_,c,e▸X j (de (m j d) hi)⟩);refine add_n O' x C (X i hi) (Yy (af len) q hi hb) (λb r=>?_) (λb h' es' u t' r F K L' p=>?_)
 .refine k _ _ _ (PySem.Heap.SameBut.refl ..) (be _ _) ⟨⟨hi,g⟩,es,ep,t,V,x,C,f,l,λj c=>lz (m j c),λj c=>?_⟩;by_cases e:j=i
  .clear c3 hk B hb O' hi k g x C f l m D I X len q c; subst e;exact has.mp r
  .exact D j (bD (jj c) e)
 .obtain⟨d,c1,c2⟩:=nK p (qj (R:=λ(e)j=>e.2=.ref (av j)) W f);have N :=λz=>r (has.mpr z)
  have H:(d.map kf).Perm (V.map kf++[kf i]):=by
   have:=c2.map kf
   rwa [fX]at this
  refine k _ h' _ F (be _ _) ⟨⟨hi,λb o e=>?_⟩,_,u,t',d,K,L',c1,?_,λj c=>?_,λj c=>?_⟩
  .rw[F.2 b λz=>by rw[z,B]at e;cases e];exact g b o e
  .refine H.nodup_iff.mpr (cG.mpr ⟨l,a6.mpr ⟨by simp,eE⟩,λa ha b hb=>?_⟩)
   grind
  .grind
  .rw[H.mem_iff];by_cases e:j=i
   .simp_all
   .exact aJ _ (D j (bD (jj c) e))
end
section
variable{A:bJ}{s:aj}
def J4{T':et}(R:A.handled=L)(ty:∀s1:aj,(∀b o,s.heap.get? b=Y o->s1.heap.get? b=Y o)->s1.TypeIs v T')
  (a:ez (.type T') (.type "set")=pure J)(b:ez (.type T') (.type "frozenset")=pure J)(S:(gQ T' == gQ "dict")=J)(B:Ek P w s.heap v n Pv)
  (c3:∀i v,Pv i v->v=.ref (C i))(F:∀j,j<n->sG P w s.heap (I j) (C j))(hb:n<=300)(e0:A.in1.in1.in1.units+3<=eC)
  (k:∀g O',G1 P w (qm w) g s.heap.objs.size I C n->(∀b o,s.heap.get? b=Y o->g.get? b=Y o)->Q (.ref s.heap.objs.size) { s with heap:=g,toks:=O' }) :
  aw (aq P w) A (call (.type "set") [v]) Q E s:=by
 have p:∀o b f,s.heap.get? b=Y f->((s.heap.push (AK w)).push o).get? b=Y f:=λo b f e=>hp9 _ (hp9 _ e);have l:∀b o,s.heap.get? b=Y o->b≠s.heap.objs.size+1:=λb o e=>a7 (lz (hl9 e));refine Vo (Hs:=λh i=>(i<=n/\∀b o,s.heap.get? b=Y o->h.get? b=Y o)/\G1 P w (qm w) h s.heap.objs.size I C i) R ty a b S B (λ{i h g}q y=>have m:=λb o e=>q b o (l b o e) (y.1.2 b o e);⟨⟨y.1.1,m⟩,y.2.keep (λo=>q _ o (a7 (iX _))) (λj c=>(F j (aQ c y.1.1)).mono y.1.2) λj c=>(F j (aQ c y.1.1)).mono m⟩) (acq c3 F (mD (ao _)) hb e0) (λo=>⟨⟨aU _,p o⟩,?_⟩) λg O' y=>k g O' y.2;refine⟨#[],0,_,[],⟨hp9 _ (aC _ W),by rfl,rC.fresh _⟩,⟨.inl rfl,λe r=>by simp at r,λq d=>by simp at d,λj c=>?_,by show 0 * 5<7 * 3;decide⟩,.nil,eE,λj c=>by simp at c,λj c=>((a9 c (aU _))).elim⟩;simp[SetTable.fresh]at c
end
end L2
local macro_rules | `(tactic| walk_at $s:str) => if s.getString.startsWith "u " then do let n := Lean.mkIdent (Lean.mkPrivateNameCore `PySem.Builtin.List.W1All (`PySem.Builtin ++ (s.getString.drop 2).toString.toName)); `(tactic| delta $n:ident) else Lean.Macro.throwUnsupported
namespace L2
open PySem.W
structure Lt(lt:T->T->cc):Prop where
 tr:∀i j k,lt i j=U->lt j k=U->lt i k=U
 co:∀i j,i≠j->lt i j=J->lt j i=U
 as:∀i j,lt i j=U->lt j i=J
noncomputable def Bl:cc->ko->c4 ko->T->T->T->eb cg B3 (a5 T):=sortPriv% PySem.Builtin.gallop
noncomputable def Dc:c4 ko->c4 ko->eb cg B3 (c4 ko):=sortPriv% PySem.Builtin.mergeLo
noncomputable def Dd:c4 ko->c4 ko->eb cg B3 (c4 ko):=sortPriv% PySem.Builtin.mergeHi
section
variable{P:ck}{w:cW}{A:bJ}{E:ai->aj->Prop}{s:aj}{κ:qQ}{it:T->ko}{lt:T->T->cc}{N:T}
def Wt(P:ck)(w:cW)(A:bJ)(E:ai->aj->Prop)(s:aj){α:Type}(m:eb cg B3 α)(G:α->cg->Prop)(st:cg):Prop:=
 kasC (aq P w) A E m (λr a b=>G r a/\b=s) st s
variable{α β:Type}{G:β->cg->Prop}{st:cg}
def Wt.pure(h:G b st):Wt P w A E s (pure b) G st:=kasC_pure ⟨h,W⟩
def Wt.bind(h:Wt P w A E s m (λa B=>Wt P w A E s (f a) G B) st):Wt P w A E s (m >>= f) G st:=
 kasC_bind (bC h (λ_ _ z=>by clear h; obtain⟨z,rfl⟩:=z;exact z) λ_ _ e=>e)
def Wt.mono(h:Wt P w A E s m g st)(f:∀b B,g b B->G b B):Wt P w A E s m G st:=
 bC h (λ_ _ z=>⟨f _ _ z.1,z.2⟩) λ_ _ e=>e
def Wt.get{G:cg->cg->Prop}(h:G st st):Wt P w A E s (get:eb cg B3 cg) G st:=kasC_get ⟨h,W⟩
def Wt.modify{G:PUnit->cg->Prop}(h:G ⟨⟩ (f st)):Wt P w A E s (modify f:eb cg B3 PUnit) G st:=kasC_modify ⟨h,W⟩
def Wt.set{G:PUnit->cg->Prop}(h:G ⟨⟩ g):Wt P w A E s (MonadStateOf.set g:eb cg B3 PUnit) G st:=by
 exact wu9 ⟨h,W⟩
def Wt.rule{G:k8->cg->Prop}(h:G () st):Wt P w A E s (liftM (rule n):eb cg B3 k8) G st:=kasC_lift (ip ⟨h,W⟩)
abbrev Stp(G I:β->cg->Prop):fb β->cg->Prop
 |.done b,st=>G b st
 |.yield b,st=>I b st
def Wt.loop{l:O T}{b:β}{f:T->β->eb cg B3 (fb β)}(I:T->β->cg->Prop)(C:I 0 b st)
  (y:∀j x b st,l[j]?=Y x->I j b st->Wt P w A E s (f x b) (Stp G (I (j+1))) st)(B:∀b st,I l.length b st->G b st):Wt P w A E s (forIn l b f) G st:=by
 have n:∀(r:O _)(j:T)(b:β)(st:cg),j+Z r=Z l->(∀k,r[k]?=l[j+k]?)->I j b st->Wt P w A E s (forIn r b f) G st:=by
  intro r
  induction r with
  |nil=>
    intro j b st a _ m;exact kasC_nil ⟨B b st (by rwa[<-a]),W⟩
  |cons x r i=>
    intro j b st a g m;refine kasC_cons (bC (y j x b st ((g 0).symm) m) (λc o z=>?_) λ_ _ e=>e);clear C y B m; obtain⟨c,d⟩:=c;obtain⟨z,rfl⟩:=z
    cases c with
    |done h=>exact⟨z,W⟩
    |yield h=>
      exact i _ h d (by exact aI (jj (af a)) (jj (af a.symm))) (λk=>by have:=g (k+1);grind) z
 simp_all
def Wt.range(I:T->β->cg->Prop)(g:I 0 c st)
  (C:∀j B st,j<b - a->I j B st->Wt P w A E s (f (a+j) B) (Stp G (I (j+1))) st)(y:∀B st,I (b - a) B st->G B st):Wt P w A E s (forIn [a:b] c f) G st:=
 kasC_range (Wt.loop I g (λj x B st d h=>by
  have e:j<b - a:=by simpa using ((aM.mp d).1)
  rw[List.getElem?_range' e]at d;cases d
  simp_all) λB st h=>y B st (by simp_all))
def vG(P:ck)(w:cW)(A:bJ)(s:aj)(κ:qQ)(it:T->ko)(lt:T->T->cc)(N:T):Prop:=
 ∀i j,i<N->j<N->∀C:cc->aj->Prop,C (lt i j) s->aw (aq P w) A (keyLt' κ (it i).1 (it j).1) C (λ_ _=>False) s
def Wt.ask{G:a5 cc->cg->Prop}(h:vG P w A s κ it lt N)(y:kindOf st=κ)(hi:i<N)(B:j<N)(g:G (Y (lt i j)) st):Wt P w A E s (lt' (it i) (it j)) G st:=by
 rw[lt'_eq];refine kasC_bind (kasC_get ?_);refine kasC_bind (kasC_lift (iV ?_));rw[y];exact bC (h i j hi B (λc a=>c=lt i j/\a=s) ⟨W,W⟩) (λc a l=>by obtain⟨b,d⟩:=l;subst b d;exact kasC_pure ⟨g,W⟩) λ_ _ z=>z.elim
noncomputable abbrev Ar(it:T->ko)(l:O T):c4 ko:=(l.map it).toArray
def Wt.elem{G:ko->cg->Prop}(h:l[i]?=Y x)(g:G (it x) st):Wt P w A E s (elem' (Ar it l) i) G st:=by
 rw[elem'_eq];have:(Ar it l)[i]?=Y (it x):=by simp[h]
 rw[this];exact .pure g
end
section
variable{st:cg}
abbrev GSt:=a5 (a5 T)×T×T
def IK{lo:T}(F:lo<=k)(I:k<=hi)(C:hi<=n)
  (R:∀x lo hi(y:fb GSt->cg->Prop),lo<=k->k<=hi->hi<=n->(lo>=hi->y (.done (L,lo,hi)) st)->(lo<hi->lo+(hi - lo) / 2<k->y (.yield (L,lo+(hi - lo) / 2+1,hi)) st)->
   (lo<hi->¬lo+(hi - lo) / 2<k->y (.yield (L,lo,lo+(hi - lo) / 2)) st)->Wt P w A E s (f x (L,lo,hi)) y st) :
  Wt P w A E s (forIn [0:n] ((L,lo,hi):GSt) f) (λb B=>B=st/\∃lo,b=(L,lo,k)) st:=by
 refine Wt.range (λj b B=>B=st/\∃lo hi,b=(L,lo,hi)/\lo<=k/\k<=hi/\hi<=n/\hi - lo<=n - j) ⟨W,lo,hi,W,F,I,C,aa (p9 _ _) C⟩ (λj b B i z=>?_) λb B z=>by
  obtain⟨e,lo,hi,f,a,c,_,d⟩:=z;exact⟨e,lo,by rw[f,aI c (aa (Nat.le_of_sub_eq_zero (Nat.le_zero.1 (jl n▸d))) a)]⟩
 refine ac λ_ m=>?_;obtain⟨e,lo,hi,o,a,c,d,l⟩:=z;subst e o;apply m;refine R _ lo hi _ a c d (λq=>⟨W,lo,by congr;exact aI (aa q a) c⟩) (λh g=>⟨W,_,_,W,g,c,d,a4 (wS hi (lo + (hi - lo) / 2 + 1) (nZ g c)) (wt (aK h)) l (ws (aK i)) (wt i)⟩) λh g=>⟨W,_,_,W,a,cB g,rP (ws (aK h)) (wd (hi - lo)) d,a4 (wS (lo + (hi - lo) / 2) lo (lw0)) (a3 lo hi (jj h)) l (ws (aK i)) (wt i)⟩
def KN{left:cc}{x:T}{l:O T}{base n hint k:T}{g:T->T}{G:a5 T->cg->Prop}(as:vG P w A s κ it lt N)(S:kindOf st=κ)(O':x<N)(hl:∀i,i<n->l[base+i]?=Y (g i)/\g i<N)
  (c3:∀i,i<n->(if left=U then lt (g i) x else !(lt x (g i)))=decide (i<k))(B:k<=n)(I:hint<n)(q:G (Y k) st):Wt P w A E s (Bl left (it x) (Ar it l) base n hint) G st:=by
 have Q:∀i,i<n->∀{R:a5 _->cg->Prop},R (Y (decide (i<k))) st->Wt P w A E s (do
   let y <-elem' (Ar it l) (base+i)
   if left=U then lt' y (it x)else do
    let b <-lt' (it x) y
    pure (b.map λz=>!z)) R st:=by
  intro i hi R D;obtain⟨H,X⟩:=hl i hi;refine .bind (.elem H ?_)
  cases left with
  |true=>
    apply Wt.ask as S X O'
    simp_all
  |false=>
    refine .bind (Wt.ask as S O' X (.pure ?_))
    simp_all
 unfold Bl;walk_at "u gallop";refine .bind (Q _ I ?_);by_cases c:hint<k
 .rw[c0 c]
  refine .bind (Wt.mono (Wt.range (G:=λb a=>a=st/\∃lo F:T,b=((L,lo,F))/\hint+lo<k/\lo<F/\(k<=hint+F\/n - hint<=F)) (λj b a=>a=st/\∃lo F:T,b=((L,lo,F))/\hint+lo<k/\lo<F/\j+1<=F)
   ⟨W,0,1,W,c,by simp,cV⟩ (λj b a C z=>?_) λb a z=>by refine ac λ_ M=>?_;obtain⟨e,lo,F,H,f,h,m⟩:=z;apply M;exact⟨e,lo,F,H,f,h,.inl (rP B (wT n 0) m)⟩) λb a z=>?_)
  .refine ac λ_ t=>?_;refine ac λ_ M=>?_;obtain⟨e,lo,F,H,f,h,m⟩:=z;subst e H;apply M;apply t;by_cases d:F>=n - hint
   .rw[cb d];exact .pure ⟨W,lo,F,W,f,h,.inr d⟩
   .rw[cv d];refine .bind (Q (hint+F) (nZ (ws (aK I)) (eT d)) ?_);by_cases K:hint+F<k
    .rw[c0 K];exact .pure ⟨W,F,_,W,K,lw0,jj m⟩
    .rw[c6 K];exact .pure ⟨W,lo,F,W,f,h,.inl (cB K)⟩
  .obtain⟨e,lo,F,H,f,h,m⟩:=z;subst e H;refine .bind (Wt.mono (IK (hi:=hint+min F _) (f) (by
   rw[<-Nat.add_min_add_left];exact Nat.le_min.mpr ⟨m.elim id λz=>rP B (wt (aK I)) z,nZ B (wt (aK I))⟩) (nZ (ws (aK I)) (pS F (n - hint))) λy lo hi R f h m p r v=>?_) λb a z=>by refine ac λ_ t=>?_;clear I c f h m Q; obtain⟨e,lo,H⟩:=z;subst e H;apply t;exact .pure q);by_cases c:lo>=hi
   .rw[cb c];exact .pure (p c)
   .rw[cv c];refine .bind (Q (lo+(hi - lo) / 2) (rP (ws (aK (eT c))) (a3 lo hi (jj (eT c))) m) ?_);by_cases d:lo+(hi - lo) / 2<k
    .rw[c0 d];exact .pure (r (eT c) d)
    .rw[c6 d];exact .pure (v (eT c) d)
 .rw[c6 c]
  refine .bind (Wt.mono (Wt.range (G:=λb a=>a=st/\∃lo F:T,b=((L,lo,F))/\k<=hint - lo/\lo<=hint/\lo<F/\(hint - F<k/\F<=hint\/hint+1<=F)) (λj b a=>a=st/\∃lo F:T,b=((L,lo,F))/\k<=hint - lo/\lo<=hint/\lo<F/\j+1<=F)
   ⟨W,0,1,W,cB c,aU _,by simp,by decide⟩ (λj b a C z=>?_) λb a z=>by refine ac λ_ M=>?_;obtain⟨e,lo,F,H,o,f,h,m⟩:=z;apply M;exact⟨e,lo,F,H,o,f,h,.inr (de I m)⟩) λb a z=>?_)
  .refine ac λ_ M=>?_;obtain⟨e,lo,F,H,o,f,h,m⟩:=z;subst e H;apply M;by_cases d:F>=hint+1
   .rw[cb d];exact .pure ⟨W,lo,F,W,o,f,h,.inr d⟩
   .rw[cv d];refine .bind (Q (hint - F) (QC I) ?_);by_cases K:hint - F<k
    .rw[c0 K];exact .pure ⟨W,lo,F,W,o,f,h,.inl ⟨K,cB d⟩⟩
    .rw[c6 K];exact .pure ⟨W,F,_,W,cB K,cB d,lw0,jj m⟩
  .clear as S O' hl c3 B; obtain⟨e,lo,F,H,o,f,h,m⟩:=z;subst e H;refine .bind (Wt.mono (IK (k:=k) (lo:=hint+1 - min F _) (m.elim (λz=>by rw[gf (dA z.2),Nat.succ_sub z.2];exact z.1) λz=>by rw[Nat.min_eq_right z];simp) o (aK (QC I)) λy lo hi R f h m p r v=>?_) λb a z=>by obtain⟨e,lo,H⟩:=z;subst e H;exact .pure q);by_cases c:lo>=hi
   .rw[cb c];exact .pure (p c)
   .rw[cv c];refine .bind (Q (lo+(hi - lo) / 2) (rP (ws (aK (eT c))) (a3 lo hi (jj (eT c))) m) ?_);by_cases d:lo+(hi - lo) / 2<k
    .rw[c0 d];exact .pure (r (eT c) d)
    .rw[c6 d];exact .pure (v (eT c) d)
end
noncomputable def Vp:T->eb cg B3 k8:=sortPriv% PySem.Builtin.setMinGallop
section
variable{st:cg}{β:Type}{G:β->cg->Prop}
def Wt.wy(Q:(eb cg B3 β->Prop)->Prop)(g:Q λm=>Wt P w A E s m G st)(y:(Q λm=>Wt P w A E s m G st)->Wt P w A E s m G st):Wt P w A E s m G st:=y g
def Wt.abH{c:Prop}[ei c](h:c)(x:Wt P w A E s m G st):Wt P w A E s (if c then m else g) G st:=by rwa[cb h]
def Wt.IC{c:Prop}[ei c](h:¬c)(x:Wt P w A E s g G st):Wt P w A E s (if c then m else g) G st:=by rwa[cv h]
def Wt.ite{c:Prop}[ei c](x:c->Wt P w A E s m G st)(y:¬c->Wt P w A E s g G st):Wt P w A E s (if c then m else g) G st:=by
 by_cases h:c
 .exact .abH h (x h)
 .exact .IC h (y h)
end
abbrev fA(lt:T->T->cc)(l:O T):Prop:=l.Pairwise λx y=>lt x y=U
section
variable{lt:T->T->cc}{a b out:O T}{ia ib:T}
structure ML(lt:T->T->cc)(a b out:O T)(ia ib:T):Prop where
 so:fA lt out
 PR:∀x∈out,∀y,y∈a.drop ia\/y∈b.drop ib->lt x y=U
 pm:(out++(a.drop ia++b.drop ib)).Perm (a++b)
def ML.swap(h:ML lt a b out ia ib):ML lt b a out ib ia:=
 ⟨h.so,λx c y d=>h.PR x c y d.symm,((kN _ eD).trans h.pm).trans eD⟩
def ML.start:ML lt a b [] 0 0:=⟨.nil,λx c=>by simp at c,by rfl⟩
def ML.qX(h:ML lt a b out ia ib)(B:fA lt b)(k:T)(g:∀y∈(b.drop ib).take k,∀x∈a.drop ia,lt y x=U):ML lt a b (out++(b.drop ib).take k) ia (ib+k):=by
 have e:b.drop ib=(b.drop ib).take k++b.drop (ib+k):=by rw[<-lg];exact(bp k _).symm
 have f:fA lt (b.drop ib):=B.sublist (fV _ _);rw[e]at f;refine⟨eN.mpr ⟨h.so,(eN.mp f).1,λx d y c=>h.PR x d y (.inr (cY c))⟩,λx d y c=>?_,?_⟩
 .rcases aH.mp d with d|d
  .refine h.PR x d y (c.imp id λc=>?_);rw[e];exact aB _ c
  .rcases c with c|c
   .exact g x d y c
   .exact (eN.mp f).2.2 x d y c
 .refine G9 ?_ h.pm
  conv=>rhs;rw[e]
  rw[aT];apply kN _;rw[<-aT,<-aT];exact List.Perm.append_right _ eD
def ML.zp(h:ML lt a b out ia ib)(g:fA lt a)(k:T)(B:∀y∈(a.drop ia).take k,∀x∈b.drop ib,lt y x=U):ML lt a b (out++(a.drop ia).take k) (ia+k) ib:=
 (h.swap.qX g k B).swap
def ML.fin(h:ML lt a b out ia ib)(g:fA lt a)(B:Z b<=ib):fA lt (out++a.drop ia++b.drop ib)/\(out++a.drop ia++b.drop ib).Perm (a++b):=by
 refine⟨?_,by rw[aT];exact h.pm⟩;rw[(kZ B),aW];exact eN.mpr ⟨h.so,g.sublist (fV _ _),λx c y d=>h.PR x c y (.inl d)⟩
def kK{l:O T}{i x:T}(h:l[i]?=Y x):l.drop i=x::l.drop (i+1):=by
 rw[fE (aM.mp h).1,(aM.mp h).2]
def take_one{l:O T}{i x:T}(h:l[i]?=Y x):(l.drop i).take 1=[x]:=by rw[kK h];rfl
def tM(o:Lt lt)(sl:fA lt l)(h:l[i]?=Y x)(c:lt y x=U):∀z∈l.drop i,lt y z=U:=λz d=>by
 rw[kK h]at d;have e:=sl.sublist (fV i _);rw[kK h]at e
 rcases ak.mp d with rfl|d
 .exact c
 .exact o.tr _ _ _ c ((cJ.mp e).1 z d)
def ML.tN(h:ML lt a b out ia ib)(g:fA lt a)(B:fA lt b)(C:∀y∈b.drop ib,∀x∈a.drop ia,lt y x=U):fA lt (out++b.drop ib++a.drop ia)/\(out++b.drop ib++a.drop ia).Perm (a++b):=by
 have q:=(h.qX B _ (λy c=>C y (cY c))).fin g (jy _ _);rw[gC (by simp)]at q;rwa[(kZ (jy _ _)),aW]at q
def n8:Ar it l++(Ar it b).extract i j=Ar it (l++(b.drop i).take (j - i)):=by
 simp
def cH:(Ar it l).size=Z l:=by simp
def jf{l:O T}:(l.drop i).take (Z l - i)=l.drop i:=gC (by simp)
def HS(o:Lt lt)(sl:fA lt l)(y:T):∃k,k<=Z l/\∀i x,l[i]?=Y x->lt x y=decide (i<k):=by
 induction l with
 |nil=>simp
 |cons a l e=>
   obtain⟨s1,s2⟩:=cJ.mp sl;obtain⟨k,f,g⟩:=e s2
   cases c:lt a y with
   |true=>
     refine⟨k+1,by simpa using f,λi x h=>?_⟩
     cases i with
     |zero=>cases h;rw[c];simp
     |succ i=>rw[g i x (by simpa using h)];simp
   |false=>
     refine⟨0,by simp,λi x h=>?_⟩
     cases i with
     |zero=>cases h;rw[c];simp
     |succ i=>
       cases d:lt x y with
       |false=>simp
       |true=>rw[o.tr _ _ _ (s1 x (aY (by simpa using h))) d]at c;cases c
section
def uH(o:Lt lt)(as:vG P w A s C it lt N){l:O T}{base:T}(I:base+n<=Z l)(sl:fA lt ((l.drop base).take n))(B:∀x∈(l.drop base).take n,x<N/\x≠y)(O':y<N) :
  ∃k,k<=n/\(∀z∈((l.drop base).take n).take k,lt z y=U)/\(∀z∈((l.drop base).take n).drop k,lt y z=U)/\
   ∀{E:ai->aj->Prop}(left:cc)(hint:T){G:a5 T->cg->Prop}{st:cg},kindOf st=C->hint<n->G (Y k) st->Wt P w A E s (Bl left (it y) (Ar it l) base n hint) G st:=by
 generalize r:(l.drop _).take n=L' at sl B;have d:Z L'=n:=by grind
 have f:∀i,i<n->L'[i]?=l[base+i]? :=λi j=>by grind
 clear I r; obtain⟨k,m,p⟩:=HS o sl y;refine⟨k,aa m (af d),λz h=>?_,λz h=>?_,λleft hint G st t u q=>?_⟩
 .obtain⟨i,j⟩:=iE h;rw[cL]at j
  grind
 .obtain⟨i,j⟩:=iE h;rw[ku]at j;apply o.co _ _ (B z (aY j)).2;rw[p _ z j,c6 (by simp)]
 .refine KN (g:=λi=>L'.getD i 0) as t O' (λi j=>?_) (λi j=>?_) (aa m (af d)) u q
  .have e:=ag ((aa j (af d.symm)));refine⟨by rw[<-f i j];simp[e],?_⟩;simpa [e]using ((B _ (aY e)).1)
  .have e:=ag ((aa j (af d.symm)));have F:L'.getD i 0=L'[i]:=by simp[e]
   rw[F]
   cases left with
   |true=>exact (p i _ e)
   |false=>
     rw[<-(p i _ e)]
     cases c:lt _ y with
     |true=>rw[o.as _ _ c];rfl
     |false=>rw[o.co _ _ ((B _ (aY e)).2) c];rfl
end
end
section
variable{it:T->ko}{lt:T->T->cc}
noncomputable abbrev Fl(st:cg)(g:T):cg:=m7 (kindOf st) (arrOf st) (iv st) g (failedOf st)
def Res(it:T->ko)(lt:T->T->cc)(l:O T)(r:c4 ko):Prop:=∃R,r=Ar it R/\fA lt R/\R.Perm l
def wAL(it:T->ko)(lt:T->T->cc)(a b:O T)(X:c4 ko)(g y:T):Prop:=∃c,X=Ar it c/\ML lt a b c g y
structure Mid(I:c4 ko->T->T->Prop)(na nb m:T)(X:c4 ko)(ia ib:T):Prop where
 ml:I X ia ib
 ha:ia+1<na
 hb:ib<nb
 m:m<=ia+ib
def nlt{i n:T}(h:i<n)(d:¬(i+1==n)=true):i+1<n:=bD h fun e=>d (beq_iff_eq.mpr e)
def Wt.rg{F R C S:Type}{a b:T}{f:T->a5 R×C->eb cg B3 (fb (a5 R×C))}{k:a5 R×C->eb cg B3 S}{G:S->cg->Prop}{Q:R->Prop}{I':c4 ko->T->T->Prop}{X:c4 ko}{g y:T}{r:F}(I:T->c4 ko->T->T->Prop)(z:c4 ko->T->T->F->C)(t:F->cg)(h0:I 0 X g y)(he:∀X g y,¬I (b - a) X g y)
  (c3:∀r x B,Q r->Wt P w A E s (k (Y r,x)) G (t B))(e0:∀X g y r,I' X g y->Wt P w A E s (k (L,z X g y r)) G (t r))
  (hb:∀j X g y r(G:fb (a5 R×C)->cg->Prop),I j X g y->(∀r x B,Q r->G (.done (Y r,x)) (t B))->(∀X g y r,I' X g y->G (.done (L,z X g y r)) (t r))->(∀X g y r,I (j+1) X g y->G (.yield (L,z X g y r)) (t r))->Wt P w A E s (f (a+j) (L,z X g y r)) G (t r)) :
  Wt P w A E s (forIn [a:b] (L,z X g y r) f >>= k) G (t r):=
 .bind (.range (λj b d=>∃X g y r,b=(L,z X g y r)/\d=t r/\I j X g y) ⟨_,g,y,r,W,W,h0⟩ (λj b d c q=>by
  obtain⟨_,_,_,_,rfl,rfl,h⟩:=q;exact hb _ _ _ _ _ _ h c3 e0 λX g y r h=>⟨X,g,y,r,W,W,h⟩) λb d q=>by
  obtain⟨_,_,_,_,_,_,h⟩:=q;exact (he _ _ _ h).elim)
abbrev wbn(P:ck)(w:cW)(A:bJ)(E:ai->aj->Prop)(s:aj)(m:eb cg B3 α)(x:α):Prop:=∀{a:Type}{f:α->eb cg B3 a}{G:a->cg->Prop}{b:cg},Wt P w A E s (f x) G b->Wt P w A E s (m>>=f) G b
section
variable{a b:O T}
def wAL.swap(h:wAL it lt a b X g y):wAL it lt b a X y g:=by
 obtain⟨o,e,h⟩:=h;exact⟨o,e,h.swap⟩
def wAL.tB(o:Lt lt)(F:fA lt a)(P:fA lt b)(h:wAL it lt a b X g B)(I:a[g]?=Y x)(C:b[B]?=Y y)(c:lt y x=U):wAL it lt a b (X.push (it y)) g (B+1):=by
 obtain⟨d,rfl,h⟩:=h;refine⟨d++[y],by simp,?_⟩
 have:=h.qX P 1 (λz p=>by rw[take_one C,ax]at p;subst p;exact tM o F I c);rwa[take_one C]at this
def wAL.fin(y:fA lt a)(h:wAL it lt a b X B g)(e:Z b<=g):Res it lt (a++b) (X++(Ar it a).extract B (Ar it a).size++(Ar it b).extract g (Ar it b).size):=by
 obtain⟨c,rfl,h⟩:=h;exact⟨_,by rw[n8,n8,cH,cH,jf,jf],h.fin y e⟩
def wAL.fin1(B:fA lt b)(h:wAL it lt a b X g y)(e:Z a<=g):Res it lt (a++b) (X++(Ar it a).extract g (Ar it a).size++(Ar it b).extract y (Ar it b).size):=by
 obtain⟨c,rfl,h⟩:=h;refine⟨_,by rw[n8,n8,cH,cH,jf,jf,kZ e,aW],?_⟩;obtain⟨F,I⟩:=h.swap.fin B e;rw[kZ e,aW]at F I;exact⟨F,I.trans eD⟩
def wAL.tN(B:fA lt a)(I:fA lt b)(C:∀y∈b,∀x∈a.drop (Z a - 1),lt y x=U)(h:wAL it lt a b X g F)(e:g+1=Z a):Res it lt (a++b) (X++(Ar it b).extract F (Ar it b).size++(Ar it a).extract g (Ar it a).size):=by
 obtain⟨c,rfl,h⟩:=h;exact⟨_,by rw[n8,n8,cH,cH,jf,jf],h.tN B I λy d x M=>C y (fS d) x (by rw[<-e];exact M)⟩
def wAL.gal{R:Prop}(o:Lt lt)(as:vG P w A s C it lt N)(g:fA lt a)(I:fA lt b)(F:∀x∈a,x<N)(h:wAL it lt a b X i j)(hi:i<(Ar it a).size)(r:b[j]?=Y y/\y<N/\y∉a)
 (q:∀k,i+k<=(Ar it a).size->wAL it lt a b (X++(Ar it a).extract i (i+k)) (i+k) j->(∀x,(a[i+k]?=Y x/\x<N/\x∉b)->lt y x=U)->(∀left{B}{f:a5 T->eb cg B3 B}{G:B->cg->Prop}{st:cg},kindOf st=C->Wt P w A E s (f (Y k)) G st->Wt P w A E s (elem' (Ar it b) j>>=λy=>Bl left y (Ar it a) i ((Ar it a).size - i) 0>>=f) G st)->R):R:=by
 rw[cH]at hi q;obtain⟨k,d,c,Q,m⟩:=uH o as (l:=a) (base:=i) (n:=Z a - i) (jj (ws (aK hi))) (by rw[jf];exact g.sublist (fV _ _)) (λx M=>by rw[jf]at M;have:=fS M;exact⟨F x this,λe=>r.2.2 (e▸this)⟩) r.2.1
 obtain⟨t,rfl,h⟩:=h;rw[jf]at c Q;rw[lg]at Q
 exact q k (nZ d (ws (aK hi))) ⟨_,by rw[n8,dW _ _],h.zp g k λz p=>tM o I r.1 (c z p)⟩ (λx h=>Q x (by rw[kK h.1];simp)) λleft _ _ _ _ u q=>.bind (.elem r.1 (.bind (m left 0 u (nZ hi (wt (aK hi))) q)))
def elG{l m:O T}{R:Prop}(n:∀x∈l,x<N)(d:∀x∈l,x∉m)(h:i<(Ar it l).size)(k:∀x,(l[i]?=Y x/\x<N/\x∉m)->wbn P w A E s (elem' (Ar it l) i) (it x)->R):R:=by
 rw[cH]at h;exact k _ ⟨ag h,n _ (bw h),d _ (bw h)⟩ λg=>.bind (.elem (ag h) g)
end
def Mid.no(h:Mid I na nb n X g y)(e:na+nb<=n):False:=Yv h.ha h.hb h.m e
def Mid.mono(h:Mid I na nb n X i j)(e:k<=n):Mid I na nb k X i j:=⟨h.ml,h.ha,h.hb,aa e h.m⟩
def Mid.tB(h:Mid I na nb n X i j)(e:I g i (j+1))(d:¬(j+1==nb)=U):Mid I na nb (n+1) g i (j+1):=⟨e,h.ha,nlt h.hb d,bf h.m⟩
def Mid.tA(h:Mid I na nb n X i j)(e:I g (i+1) j)(d:¬(i+1+1==na)=U):Mid I na nb (n+1) g (i+1) j:=⟨e,nlt h.ha d,h.hb,jj h.m⟩
def wru{f:k8->eb cg B3 g}{G:g->cg->Prop}{st:cg}(h:Wt P w A E s (f ()) G st):Wt P w A E s ((liftM (rule n):eb cg B3 k8)>>=f) G st:=.bind (.rule h)
def wge{f:cg->eb cg B3 g}{G:g->cg->Prop}{st:cg}(h:Wt P w A E s (f st) G st):Wt P w A E s ((get:eb cg B3 cg)>>=f) G st:=.bind (.get h)
def wON{f:k8->eb cg B3 y}{G:y->cg->Prop}{st:cg}(h:Wt P w A E s (f ()) G (Fl st g)):Wt P w A E s (Vp g>>=f) G st:=.bind (by unfold Vp;walk_at "u setMinGallop";exact .modify h)
def MLo{st:cg}{A1 Bn:c4 ko}{G:c4 ko->cg->Prop}{I:c4 ko->T->T->Prop}{X D:T->T->Prop}{Q:c4 ko->Prop}
  (hk:kindOf st=κ)
  (v:∀{O' i j},I O' i j->(j==Bn.size)=U->Q (O'++A1.extract i A1.size++Bn.extract j Bn.size))
  (J':∀{O' i j},I O' i j->(i==A1.size)=U->Q (O'++A1.extract i A1.size++Bn.extract j Bn.size))
  (U':∀{O' i j},I O' i j->(i+1==A1.size)=U->Q (O'++Bn.extract j Bn.size++A1.extract i A1.size))
  (H:∀{i}{R:Prop},i<A1.size->(∀x,X i x->wbn P w A E s (elem' A1 i) (it x)->R)->R)
  (C:∀{i}{R:Prop},i<Bn.size->(∀x,D i x->wbn P w A E s (elem' Bn i) (it x)->R)->R)
  (K:∀{i j x y},X i x->D j y->∀{B}{f:a5 cc->eb cg B3 B}{G:B->cg->Prop}{st:cg},kindOf st=κ->(lt y x=U->Wt P w A E s (f (Y U)) G st)->(lt x y=U->Wt P w A E s (f (Y J)) G st)->Wt P w A E s (elem' Bn j>>=λy=>elem' A1 i>>=λx=>lt' y x>>=f) G st)
  (tA:∀{O' i j x y},I O' i j->X i x->D j y->lt x y=U->I (O'.push (it x)) (i+1) j)
  (tB:∀{O' i j x y},I O' i j->X i x->D j y->lt y x=U->I (O'.push (it y)) i (j+1))
  (S:∀{O' i j y}{R:Prop},I O' i j->i<A1.size->D j y->(∀k,i+k<=A1.size->I (O'++A1.extract i (i+k)) (i+k) j->(∀x,X (i+k) x->lt y x=U)->(∀{g}{B}{f:a5 T->eb cg B3 B}{G:B->cg->Prop}{st:cg},kindOf st=κ->Wt P w A E s (f (Y k)) G (Fl st g)->Wt P w A E s (Vp g>>=λ_=>elem' Bn j>>=λy=>Bl J y A1 i (A1.size - i) 0>>=f) G st)->R)->R)
  (T':∀{O' i j x}{R:Prop},I O' i j->j<Bn.size->X i x->(∀k,j+k<=Bn.size->I (O'++Bn.extract j (j+k)) i (j+k)->(∀y,D (j+k) y->lt x y=U)->(∀{B}{f:a5 T->eb cg B3 B}{G:B->cg->Prop}{st:cg},kindOf st=κ->Wt P w A E s (f (Y k)) G st->Wt P w A E s (elem' A1 i>>=λx=>Bl U x Bn j (Bn.size - j) 0>>=f) G st)->R)->R)
  (h0:0<A1.size)(h1:0<Bn.size)(m0:∀y,D 0 y->I #[it y] 0 1)
  (q:∀r g,Q r->G r (Fl st g)):Wt P w A E s (Dc A1 Bn) G st:=by
 refine C h1 λy a o=>wru ?_;replace m0:=m0 y a;extract_lets +onlyGivenNames N dW lo
 have ht:A1.size+Bn.size<=N:=ao _
 refine o (.ite (λc=>.pure (q _ (j1 st) (v m0 c))) λc1=>.ite (λc=>.pure (q _ (j1 st) (U' m0 c))) λc2=>wge ?_)
 refine Wt.rg (I':=λ_ _ _=>False) (r:=(_,j1 st)) (λm=>Mid I A1.size Bn.size (m+1)) (λO' i j r=>(O',i,j,r.1)) (λr:T×T=>Fl st r.2) ⟨m0,nlt h0 c2,nlt h1 c1,ao _⟩
  (λ_ _ _ f=>f.no (jj ht)) (λr _ g e=>.pure (q r g.2 e)) (λ_ _ _ _ h=>h.elim) λm O' i j V G f d1 d2 d3=>?_
 extract_lets -underBinder
 refine Wt.rg (I':=Mid I A1.size Bn.size (m+1+1)) (r:=(0,0)) (λn=>Mid I A1.size Bn.size (m+1+n)) (λO' i j r=>(O',i,j,r.1,r.2)) (λ_:T×T=>Fl st V.2) f
  (λ_ _ _ f=>f.no (jj ht)) (λr _ _ e=>.pure (d1 r _ (0,V.2) e)) (λO' i j M f=>?_) λn O' i j M G f d1 d2 d3=>?_
 rotate_left
 .extract_lets -underBinder
  refine C f.hb λy a o=>H (aK f.ha) λx b x2=>K b a hk (λc=>?_) λc=>?_
  .have e:=tB f.ml b a c;exact o (.ite (λd=>.pure (d1 _ _ (0,0) (v e d))) λd=>.ite (λ_=>.pure (d2 _ _ _ (_,_) ((f.tB e d).mono lw0))) λ_=>.pure (d3 _ _ _ (_,_) (f.tB e d)))
  .have e:=tA f.ml b a c;exact x2 (.ite (λd=>.pure (d1 _ _ (0,0) (U' e d))) λd=>.ite (λ_=>.pure (d2 _ _ _ (_,_) ((f.tA e d).mono lw0))) λ_=>.pure (d3 _ _ _ (_,_) (f.tA e d)))
 refine wru (Wt.rg (I':=Mid I A1.size Bn.size (m+1+1)) (r:=(_,M.1,M.2,V.2)) (λn=>Mid I A1.size Bn.size (m+1+1+n)) (λO' i j r=>(O',i,j,r.1,r.2.1,r.2.2.1)) (λr:T×T×T×T=>Fl st r.2.2.2) f
  (λ_ _ _ f=>f.no (jj ht)) (λr _ g e=>.pure (d1 r _ (0,g.2.2.2) e)) (λO' i j r f=>wON (.pure (d3 O' i j (_,_) f))) λn O' i j R G f d1 d2 d3=>?_)
 extract_lets -underBinder s1 O' s2 i s3 j s4 mg s5 bk bf jp mg2
 replace f:Mid I A1.size Bn.size (m+1+1+n) O' i j:=f;clear_value O' i j bk bf
 refine Wt.wy (λF=>∀mg,F (jp () mg)) (λmg=>?_) λh=>.ite (λ_=>h _) λ_=>h _
 refine C f.hb λy a o=>S f.ml (aK f.ha) a λk k1 k2 p k4=>k4 hk ?_
 dsimp -zeta -zetaHave only
 extract_lets -underBinder +onlyGivenNames ac1 jp2
 refine Wt.wy (λF=>∀O' i,I O' i j->i+1<A1.size->(∀x,X i x->lt y x=U)->m+1+1+n<=i+j->F (jp2 () O' i)) (λO' i e hi p t=>?_) λh=>.ite (λ_=>.ite (λd=>.pure (d1 _ _ (0,0,0,_) (U' k2 d))) λd=>.ite (λe=>.pure (d1 _ _ (0,0,0,_) (J' k2 e))) λe=>h _ _ k2 (nlt (bD k1 λz=>e (beq_iff_eq.mpr z)) d) p (jj f.m)) λc=>h _ _ f.ml f.ha (λx z=>p x (by rwa[show k=0 from aI (cB c) (aU _)])) f.m
 refine H (aK hi) λx b x2=>?_;replace e:=tB e b a (p x b)
 refine o (.ite (λd=>.pure (d1 _ _ (0,0,0,_) (v e d))) λd=>?_);replace d:=nlt f.hb d
 refine T' e d b λl l1 l2 u l4=>l4 hk ?_
 dsimp -zeta -zetaHave only
 extract_lets -underBinder +onlyGivenNames bc1 jp3
 refine Wt.wy (λF=>∀O' j,I O' i j->j<Bn.size->(∀y,D j y->lt x y=U)->m+1+1+n+1<=i+j->F (jp3 () O' j)) (λO' j e hj u t=>?_) λh=>.ite (λ_=>.ite (λd=>.pure (d1 _ _ (0,0,0,_) (v l2 d))) λe=>h _ _ l2 (bD l1 λz=>e (beq_iff_eq.mpr z)) u (jj t)) λc=>h _ _ e d (λx z=>u x (by rwa[show l=0 from aI (cB c) (aU _)])) (jj t)
 refine C hj λy a o=>?_;replace e:=tA e b a (u y a)
 refine x2 (.ite (λd=>.pure (d1 _ _ (0,0,0,_) (U' e d))) λd=>?_)
 have z:Mid I A1.size Bn.size (m+1+1+(n+1)) _ (i+1) j:=⟨e,nlt hi d,hj,jj t⟩
 exact .ite (λ_=>.pure (d2 _ _ _ (_,_,_,_) (z.mono lw0))) λ_=>.pure (d3 _ _ _ (_,_,_,_) z)
def wab{st:cg}{a b:O T}{G:c4 ko->cg->Prop}(o:Lt lt)(as:vG P w A s κ it lt N)(B:kindOf st=κ)(R:∀x∈a,x<N)(S:∀x∈b,x<N)(C:fA lt a)(c3:fA lt b)(F:∀x∈a,x∉b)
  (h0:0<Z a)(O':b[0]?=Y y0)(hf:∀x∈a,lt y0 x=U)(hl:∀y∈b,∀x∈a.drop (Z a - 1),lt y x=U)
  (q:∀r g,Res it lt (a++b) r->G r (Fl st g)):Wt P w A E s (Dc (Ar it a) (Ar it b)) G st:=
 MLo (I:=wAL it lt a b) (X:=λi x=>a[i]?=Y x/\x<N/\x∉b) (D:=λi x=>b[i]?=Y x/\x<N/\x∉a) (Q:=Res it lt (a++b)) B (λh e=>h.fin C (af (by simp_all))) (λh e=>h.fin1 c3 (af (by simp_all))) (λh e=>h.tN C c3 hl (by simp_all)) (elG R F) (elG S λx h k=>F x k h)
  (λp r _ _ _ _ B u v=>.bind (.elem r.1 (.bind (.elem p.1 (.bind (.ask as B r.2.1 p.2.1 (by
   cases c:lt _ _
   .exact v (o.co _ _ (λe=>r.2.2 (e▸aY p.1)) c)
   .exact u c))))))) (λh p r c=>(h.swap.tB o c3 C r.1 p.1 c).swap) (λh p r=>h.tB o C c3 p.1 r.1)
  (λh e r k=>h.gal o as C c3 R e r λn a b c d=>k n a b c λB z=>wON (d _ B z)) (λh e r k=>h.swap.gal o as c3 C S e r λn a b c d=>k n a b.swap c λB z=>d _ B z)
  (by rwa[cH]) (by rw[cH];exact (aM.mp O').1) (λy h=>by
   cases O'.symm.trans h.1
   refine⟨[y0],W,?_⟩;have:=ML.start.qX c3 1 (λz p x M=>by rw[take_one O',ax]at p;subst p;exact hf x M);rwa[take_one O']at this) q
section
variable{lt:T->T->cc}{a b out:O T}{na nb:T}
noncomputable abbrev Y4(lt:T->T->cc):T->T->cc:=λx y=>lt y x
def fA.rev(h:fA lt a):fA (Y4 lt) a.reverse:=lQ.mpr h
structure MH(lt:T->T->cc)(a b out:O T)(na nb:T):Prop where
 ml:ML (Y4 lt) a.reverse b.reverse out (Z a - na) (Z b - nb)
 la:na<=Z a
 lb:nb<=Z b
def MH.swap(h:MH lt a b out na nb):MH lt b a out nb na:=⟨h.ml.swap,h.lb,h.la⟩
def mQ{l:O T}:l.reverse.drop (Z l - n)=(l.take n).reverse:=by rw[List.reverse_take]
def MH.qX(h:MH lt a b out na nb)(B:fA lt b)(g:at_<=nb)(C:∀y∈(b.drop at_).take (nb - at_),∀x∈a.take na,lt x y=U):MH lt a b (out++((b.drop at_).take (nb - at_)).reverse) na at_:=by
 have f:=h.lb
 have e:(b.reverse.drop (Z b - nb)).take (nb - at_)=((b.drop at_).take (nb - at_)).reverse:=by
  rw[mQ,List.take_reverse,fL,gf f,Nat.sub_sub_self g,zi]
 have:=h.ml.qX B.rev (nb - at_) (λy c x d=>by
  rw[mQ]at d
  simp_all)
 rw[e,show Z b - nb+(nb - at_)=Z b - at_ from(aI (rP (ws f) (ws g) (wT b.length at_)) (rP (wS b.length at_ (nZ g f)) (wt f) (wt g)))]at this;exact⟨this,h.la,aa g f⟩
def MH.zp(h:MH lt a b out na nb)(g:fA lt a)(B:at_<=na)(C:∀y∈(a.drop at_).take (na - at_),∀x∈b.take nb,lt x y=U):MH lt a b (out++((a.drop at_).take (na - at_)).reverse) at_ nb:=
 (h.swap.qX g B C).swap
def MH.fin(h:MH lt a b out na nb)(B:fA lt b)(O':na=0):fA lt (a.take na++b.take nb++out.reverse)/\(a.take na++b.take nb++out.reverse).Perm (a++b):=by
 obtain⟨c,d⟩:=h.ml.swap.fin B.rev (by simp_all)
 have e:(a.take na++b.take nb++out.reverse)=(out++b.reverse.drop (Z b - nb)++a.reverse.drop (Z a - na)).reverse:=by
  rw[mQ,mQ];simp
 rw[e];exact⟨lQ.mpr c,((iA _).trans d).trans (((iA b).append (iA a)).trans eD)⟩
def MH.tN(h:MH lt a b out na nb)(C:fA lt a)(B:fA lt b)(F:∀y∈a.take na,∀x∈b.take nb,lt x y=U):fA lt (b.take nb++a.take na++out.reverse)/\(b.take nb++a.take na++out.reverse).Perm (a++b):=by
 obtain⟨c,d⟩:=h.ml.swap.tN B.rev C.rev (λy f x g=>by
  rw[mQ]at f g
  simp_all)
 have e:(b.take nb++a.take na++out.reverse)=(out++a.reverse.drop (Z a - na)++b.reverse.drop (Z b - nb)).reverse:=by
  rw[mQ,mQ];simp
 rw[e];exact⟨lQ.mpr c,((iA _).trans d).trans (((iA b).append (iA a)).trans eD)⟩
def mT{l:O T}{n x:T}(h:l[n]?=Y x):(l.drop n).take (n+1 - n)=[x]:=by rw[(dW _ _)];exact take_one h
def tF(o:Lt lt)(sl:fA lt l)(h:l[n]?=Y x)(c:lt x y=U):∀z∈l.take (n+1),lt z y=U:=λz f=>by
 obtain⟨i,p⟩:=iE f;rw[cL]at p;split at p
 .rename_i d;by_cases e:i=n
  .grind
  .obtain⟨g,j⟩:=aM.mp p;obtain⟨k,m⟩:=aM.mp h;have:=fD.mp sl i n g k (bD (jj d) e);rw[j,m]at this;exact o.tr _ _ _ this c
 .cases p
def GV:(Ar it l).extract 0 i++(Ar it m).extract 0 j++(Ar it n).reverse=Ar it (l.take i++m.take j++n.reverse):=by
 simp[BV]
end
def wAH(it:T->ko)(lt:T->T->cc)(a b:O T)(X:c4 ko)(i j:T):Prop:=∃c,X=Ar it c/\MH lt a b c i j
structure wac(I:c4 ko->T->T->Prop)(t m:T)(X:c4 ko)(i j:T):Prop where
 ml:I X i j
 ha:0<i
 hb:1<j
 m:m+i+j<=t
def wac.no(h:wac I t n X i j)(e:t<=n):False:=Yw h.ha h.m e
def wac.mono(h:wac I t n X i j)(e:k<=n):wac I t k X i j:=⟨h.ml,h.ha,h.hb,nZ e h.m⟩
def np2{i:T}(h:0<i)(d:¬(i==1)=U):1<i:=bD h λe=>d (beq_iff_eq.mpr e.symm)
def np0{i:T}(d:¬(i==0)=U):0<i:=cC λe=>d (beq_iff_eq.mpr e)
def wac.tA(h:wac I t n X i j)(e:I g (i-1) j)(d:¬(i-1==0)=U):wac I t (n+1) g (i-1) j:=⟨e,np0 d,h.hb,nZ h.m (ws h.ha)⟩
def wac.tB(h:wac I t n X i j)(e:I g i (j-1))(d:¬(j-1==1)=U):wac I t (n+1) g i (j-1):=⟨e,h.ha,np2 (nZ h.hb (wt (aK h.hb))) d,nZ h.m (ws (aK h.hb))⟩
def MHi{st:cg}{A1 Bn:c4 ko}{G:c4 ko->cg->Prop}{I:c4 ko->T->T->Prop}{X D:T->T->Prop}{Q:c4 ko->Prop}
  (hk:kindOf st=κ)
  (v:∀{O' i j},I O' i j->(i==0)=U->Q (A1.extract 0 i++Bn.extract 0 j++O'.reverse))
  (J':∀{O' i j},I O' i j->(j==0)=U->Q (A1.extract 0 i++Bn.extract 0 j++O'.reverse))
  (U':∀{O' i j},I O' i j->(j==1)=U->Q (Bn.extract 0 j++A1.extract 0 i++O'.reverse))
  (le:∀{O' i j},I O' i j->i<=A1.size/\j<=Bn.size)
  (H:∀{i}{R:Prop},0<i->i<=A1.size->(∀x,X i x->wbn P w A E s (elem' A1 (i-1)) (it x)->R)->R)
  (C:∀{i}{R:Prop},0<i->i<=Bn.size->(∀x,D i x->wbn P w A E s (elem' Bn (i-1)) (it x)->R)->R)
  (K:∀{i j x y},X i x->D j y->∀{B}{f:a5 cc->eb cg B3 B}{G:B->cg->Prop}{st:cg},kindOf st=κ->(lt y x=U->Wt P w A E s (f (Y U)) G st)->(lt x y=U->Wt P w A E s (f (Y J)) G st)->Wt P w A E s (elem' Bn (j-1)>>=λy=>elem' A1 (i-1)>>=λx=>lt' y x>>=f) G st)
  (tA:∀{O' i j x y},I O' i j->X i x->D j y->lt y x=U->I (O'.push (it x)) (i-1) j)
  (tB:∀{O' i j x y},I O' i j->X i x->D j y->lt x y=U->I (O'.push (it y)) i (j-1))
  (S:∀{O' i j y}{R:Prop},I O' i j->0<i->D j y->(∀k,k<=i->I (O'++(A1.extract k i).reverse) k j->(∀x,X k x->lt x y=U)->(∀{g}{B}{f:a5 T->eb cg B3 B}{G:B->cg->Prop}{st:cg},kindOf st=κ->Wt P w A E s (f (Y k)) G (Fl st g)->Wt P w A E s (Vp g>>=λ_=>elem' Bn (j-1)>>=λy=>Bl J y A1 0 i (i-1)>>=f) G st)->R)->R)
  (T':∀{O' i j x}{R:Prop},I O' i j->0<j->X i x->(∀k,k<=j->I (O'++(Bn.extract k j).reverse) i k->(∀y,D k y->lt y x=U)->(∀{B}{f:a5 T->eb cg B3 B}{G:B->cg->Prop}{st:cg},kindOf st=κ->Wt P w A E s (f (Y k)) G st->Wt P w A E s (elem' A1 (i-1)>>=λx=>Bl U x Bn 0 j (j-1)>>=f) G st)->R)->R)
  (h0:0<A1.size)(h1:0<Bn.size)(m0:∀x,X A1.size x->I #[it x] (A1.size-1) Bn.size)
  (q:∀r g,Q r->G r (Fl st g)):Wt P w A E s (Dd A1 Bn) G st:=by
 refine H h0 (ao _) λx b p=>wru ?_;replace m0:=m0 x b;extract_lets +onlyGivenNames a dW lo
 have ht:A1.size+Bn.size<=a:=ao _
 refine p (.ite (λc=>.pure (q _ _ (v m0 c))) λc1=>.ite (λc=>.pure (q _ _ (U' m0 c))) λc2=>wge ?_)
 refine Wt.rg (I':=λ_ _ _=>False) (r:=(_,j1 st)) (λm=>wac I a (m+1)) (λO' i j r=>(i,j,O',r.1)) (λr:T×T=>Fl st r.2) ⟨m0,np0 c1,np2 h1 c2,nZ ht (ws h0)⟩
  (λ_ _ _ f=>f.no lw0) (λr _ g e=>.pure (q r _ e)) (λ_ _ _ _ h=>h.elim) λm O' i j V G f d1 d2 d3=>?_
 extract_lets -underBinder
 refine Wt.rg (I':=wac I a (m+1+1)) (r:=(0,0)) (λn=>wac I _ (m+1+n)) (λO' i j r=>(i,j,O',r.1,r.2)) (λ_:T×T=>Fl st _) f
  (λ_ _ _ f=>f.no lw0) (λr _ _ e=>.pure (d1 r _ _ e)) (λO' i j M f=>?_) λn O' i j M G f d1 d2 d3=>?_
 rotate_left
 .extract_lets -underBinder
  refine C (aK f.hb) (le f.ml).2 λy o t=>H f.ha (le f.ml).1 λx b p=>K b o hk (λc=>?_) λc=>?_
  .have e:=tA f.ml b o c;exact p (.ite (λd=>.pure (d1 _ _ (0,0) (v e d))) λd=>.ite (λ_=>.pure (d2 _ _ _ (_,_) ((f.tA e d).mono lw0))) λ_=>.pure (d3 _ _ _ (_,_) (f.tA e d)))
  .have e:=tB f.ml b o c;exact t (.ite (λd=>.pure (d1 _ _ (0,0) (U' e d))) λd=>.ite (λ_=>.pure (d2 _ _ _ (_,_) ((f.tB e d).mono lw0))) λ_=>.pure (d3 _ _ _ (_,_) (f.tB e d)))
 refine wru (Wt.rg (I':=wac I _ _) (r:=(_,M.1,M.2,V.2)) (λn=>wac I _ (m+1+1+n)) (λO' i j r=>(i,j,O',r.1,r.2.1,r.2.2.1)) (λr:T×T×T×T=>Fl st r.2.2.2) f
  (λ_ _ _ f=>f.no lw0) (λr _ g e=>.pure (d1 r _ _ e)) (λO' i j r f=>wON (.pure (d3 O' i j (_,_) f))) λn O' i j R G f d1 d2 d3=>?_)
 extract_lets -underBinder s1 i s2 j s3 O' s4 mg s5 bk bf jp mg2
 replace f:wac I _ _ O' i j:=f;clear_value O' i j bk bf
 refine Wt.wy (λF=>∀mg,F (jp () mg)) (λmg=>?_) λh=>.ite (λ_=>h _) λ_=>h _
 refine C (aK f.hb) (le f.ml).2 λy o t=>S f.ml f.ha o λk k1 k2 u k4=>k4 hk ?_
 dsimp -zeta -zetaHave only
 extract_lets -underBinder +onlyGivenNames ka ac1 jp2
 refine Wt.wy (λF=>∀O' i,I O' i j->0<i->(∀x,X i x->lt x y=U)->m+1+1+n+i+j<=a->F (jp2 () i O')) (λO' i e hi u N=>?_) λh=>.ite (λ_=>.ite (λd=>.pure (d1 _ _ (0,0,0,_) (v k2 d))) λd=>h _ _ k2 (np0 d) u (nZ k1 f.m)) λc=>h _ _ f.ml f.ha (λx z=>u x (by rwa[aI k1 (Nat.le_of_sub_eq_zero (aI (cB c) (aU _)))])) f.m
 refine H hi (le e).1 λx b p=>?_;replace e:=tB e b o (u x b)
 refine t (.ite (λd=>.pure (d1 _ _ (0,0,0,_) (U' e d))) λd=>?_);replace d:=np2 (nZ f.hb (wt (aK f.hb))) d
 refine T' e (aK d) b λl l1 l2 l3 l4=>l4 hk ?_
 dsimp -zeta -zetaHave only
 extract_lets -underBinder +onlyGivenNames kb bc1 jp3
 refine Wt.wy (λF=>∀O' j,I O' i j->1<j->(∀y,D j y->lt y x=U)->m+1+1+n+1+i+j<=a->F (jp3 () j O')) (λO' j e hj l3 N=>?_) λh=>.ite (λ_=>.ite (λd=>.pure (d1 _ _ (0,0,0,_) (U' l2 d))) λd=>.ite (λe=>.pure (d1 _ _ (0,0,0,_) (J' l2 e))) λe=>h _ _ l2 (np2 (np0 e) d) l3 (rP N l1 (ws (aK f.hb)))) λc=>h _ _ e d (λx z=>l3 x (by rwa[aI l1 (Nat.le_of_sub_eq_zero (aI (cB c) (aU _)))])) (nZ N (ws (aK f.hb)))
 refine C (aK hj) (le e).2 λy o t=>?_;replace e:=tA e b o (l3 y o)
 refine p (.ite (λd=>.pure (d1 _ _ (0,0,0,_) (v e d))) λd=>?_)
 have z:wac I a (m+1+1+(n+1)) _ _ j:=⟨e,np0 d,hj,nZ N (ws hi)⟩
 exact .ite (λ_=>.pure (d2 _ _ _ (_,_,_,_) (z.mono lw0))) λ_=>.pure (d3 _ _ _ (_,_,_,_) z)
section
variable{a b:O T}
def wAH.swap(h:wAH it lt a b X i j):wAH it lt b a X j i:=by
 obtain⟨o,e,h⟩:=h;exact⟨o,e,h.swap⟩
def wAH.tB(o:Lt lt)(g:fA lt a)(B:fA lt b)(h:wAH it lt a b X i j)(p:0<i/\a[i-1]?=Y x/\x<N/\x∉b)(r:0<j/\b[j-1]?=Y y/\y<N/\y∉a)(c:lt x y=U):wAH it lt a b (X.push (it y)) i (j-1):=by
 obtain⟨i,rfl⟩:∃k,i=k+1:=⟨_,vS (ue p.1)⟩
 obtain⟨j,rfl⟩:∃k,j=k+1:=⟨_,vS (ue r.1)⟩
 obtain⟨d,rfl,h⟩:=h;refine⟨d++[y],by simp,?_⟩
 have e:=mT r.2.1;have:=h.qX B (at_:=j) (by simp) (λz q=>by erw[e,ax]at q;subst q;exact tF o g p.2.1 c);erw[e]at this;exact this
def wAH.gal{R:Prop}(o:Lt lt)(as:vG P w A s C it lt N)(g:fA lt a)(I:fA lt b)(F:∀x∈a,x<N)(h:wAH it lt a b X i j)(hi:0<i)(r:0<j/\b[j-1]?=Y y/\y<N/\y∉a)
 (q:∀k,k<=i->wAH it lt a b (X++((Ar it a).extract k i).reverse) k j->(∀x,(0<k/\a[k-1]?=Y x/\x<N/\x∉b)->lt x y=U)->(∀left{B}{f:a5 T->eb cg B3 B}{G:B->cg->Prop}{st:cg},kindOf st=C->Wt P w A E s (f (Y k)) G st->Wt P w A E s (elem' (Ar it b) (j-1)>>=λy=>Bl left y (Ar it a) 0 i (i-1)>>=f) G st)->R):R:=by
 obtain⟨t,rfl,h⟩:=h
 obtain⟨j,rfl⟩:∃k,j=k+1:=⟨_,vS (ue r.1)⟩
 obtain⟨k,c,v,d,u⟩:=uH o as (l:=a) (base:=0) (n:=i) (jj h.la) (by exact g.sublist (jD _ _)) (λx m=>by exact⟨F x (cY m),λe=>r.2.2.2 (e▸(cY m))⟩) r.2.2.1
 rw[zi]at d;rw[kU,gf c]at v
 exact q k c ⟨_,by simp,h.zp g c λz p=>tF o I r.2.1 (d z p)⟩ (λx h=>v x (aY (i:=k-1) (by rw[cL,cb (show k-1<k from ws h.1)];exact h.2.1))) λleft _ _ _ _ H q=>.bind (.elem r.2.1 (.bind (u _ _ H (ws hi) q)))
end
def F7{st:cg}{G:c4 ko->cg->Prop}(o:Lt lt)(as:vG P w A s κ it lt N)(B:kindOf st=κ)(R:∀x∈a,x<N)(S:∀x∈b,x<N)(C:fA lt a)(O':fA lt b)(F:∀x∈a,x∉b)
  (hb0:0<Z b)(c3:Z a=n+1)(e0:a[n]?=Y y0)(hf:∀x∈b,lt x y0=U)(hl:∀y∈a,∀x∈b.take 1,lt x y=U)
  (q:∀r g,Res it lt (a++b) r->G r (Fl st g)):Wt P w A E s (Dd (Ar it a) (Ar it b)) G st:=
 MHi (I:=wAH it lt a b) (X:=λi x=>0<i/\a[i-1]?=Y x/\x<N/\x∉b) (D:=λi x=>0<i/\b[i-1]?=Y x/\x<N/\x∉a) (Q:=Res it lt _) B
  (λ⟨_,e,h⟩p=>⟨_,e▸GV,h.fin O' (beq_iff_eq.mp p)⟩) (λ⟨_,e,h⟩p=>by
   replace p:=beq_iff_eq.mp p;obtain⟨H,T'⟩:=h.swap.fin C p;subst e p;exact⟨_,by rw[GV,nH,aW];rfl,H,T'.trans eD⟩) (λ⟨_,e,h⟩p=>by
   replace p:=beq_iff_eq.mp p;subst e p;exact⟨_,GV,h.tN C O' λy m x l=>hl y (cY m) x l⟩) (λ⟨_,_,h⟩=>by rw[cH,cH];exact⟨h.la,h.lb⟩) (λj h k=>elG R F (nZ (ws j) h) λx c e=>k x ⟨j,c⟩ e) (λj g i=>elG S (λx h k=>F x k h) (nZ (ws j) g) λe c f=>i e ⟨j,c⟩ f)
  (λp r _ _ _ _ B u v=>.bind (.elem r.2.1 (.bind (.elem p.2.1 (.bind (.ask as B r.2.2.1 p.2.2.1 (by
   cases c:lt _ _
   .exact v (o.co _ _ (λe=>r.2.2.2 (e▸aY p.2.1)) c)
   .exact u c))))))) (λh p r c=>(h.swap.tB o O' C r p c).swap) (λh p r=>h.tB o C O' p r)
  (λh e r k=>h.gal o as C O' R e r λn a b c d=>k n a b c λB z=>wON (d _ B z)) (λh e r k=>h.swap.gal o as O' C S e r λn a b c d=>k n a b.swap c λB z=>d _ B z)
  (by rw[cH,c3];simp) (by rwa[cH]) (λx h=>by
   rw[cH,c3]at h;cases e0.symm.trans h.2.1
   rw[cH,cH,c3];refine⟨[y0],W,?_⟩
   have h:MH lt a b [] _ _:=⟨by rw[c3,jl,jl];exact ML.start,af c3.symm,ao _⟩
   have:=h.zp C (at_:=n) (by simp) (λz p x l=>by rw[mT e0,ax]at p;subst p;exact hf x (cY l));rwa[mT e0]at this) q
end
abbrev qY(y:qQ)(it:T->ko)(l:O T)(O':O (T×T×T))(g:T):cg:=m7 y (Ar it l) O'.toArray g L
section
theorem CS:∀(R B u v:O T)(c n:T),Z B=Z R->c+n=Z u->((R.map it).zipIdx n).foldl (λ(a:c4 ko)(x:ko×T)=>a.setIfInBounds (c+x.2) x.1) (Ar it (u++B++v))=Ar it (u++R++v)
 |[],[],u,v,c,n,_,_=>rfl
 |r::R,p::B,u,v,c,n,b,d=>by
   rw[az,vN,QJ]
   have e:(Ar it (u++(p::B)++v)).setIfInBounds (c+n) (it r)=Ar it ((u++[r])++B++v):=by
    simp_all
   rw[e,CS R B _ v c _ (by simpa using b) (by simp;grind)];simp
def oy(ha:fA lt a)(g:fA lt b)(h:∀x∈a,∀y∈b,lt x y=U):fA lt (a++b):=eN.mpr ⟨ha,g,h⟩
def F8{pre:O T}{G:cc->cg->Prop}(o:Lt lt)(as:vG P w A s κ it lt N)(sB:fA lt B)(c3:fA lt C)(nB:0<Z B)(nC:0<Z C)(lB:∀x∈B,x<N)(lC:∀x∈C,x<N)(dis:∀x∈B,x∉C)
  (q:∀M g,fA lt M->M.Perm (B++C)->G U (qY κ it (pre++M++post) (O'++(pre.length,Z B+Z C,pw)::e0) g)) :
  Wt P w A E s (mergeAt' O'.length) G (qY κ it (pre++(B++C)++post) (O'++(pre.length,B.length,pw)::(Z pre+Z B,C.length,pw')::e0) g):=by
 generalize D:pre++(B++C)++post=L';have K:∃y,C[0]?=Y y:=⟨C[0],ag nC⟩
 refine ac λ_ kq=>?_;obtain⟨y,K⟩:=K;have H:∃x,B[Z B - 1]?=Y x:=⟨_,ag (iG nB (ao _))⟩
 obtain⟨x,H⟩:=H;have yC:=aY K;have xB:=aY H;have I:(L'.drop pre.length).take (Z B)=B:=by rw[<-D,aT,kY,aT,nJ]
 have zw:(L'.drop (Z pre+Z B)).take (Z C)=C:=by
  rw[<-D,<-lg,aT,kY,aT,kY,nJ]
 have Q:Z pre+Z B+Z C<=Z L':=by rw[<-D];exact lw0
 have gy:L'[Z pre+Z B]?=Y y:=by
  rw[<-D,aT,aG (be _ _),aT,aG (by simp),aO (by simp_all)];rw[(Nat.sub_eq_zero_of_le (af (dW _ _)))];exact K
 have gx:L'[Z pre+Z B - 1]?=Y x:=by
  rw[<-D,aT,aG (JL (m8 nB _)),aT,aO (by omega)];rw[Nat.add_sub_assoc nB,dW _ _];exact H
 obtain⟨k,J',k2,k3,k4⟩:=uH o as (aa (be _ _) Q) (by rw[I];exact sB) (λz d=>by rw[I]at d;exact⟨lB z d,λe=>dis z d (e▸yC)⟩) (lC y yC);obtain⟨m,m1,m2,m3,m4⟩:=uH o as (by omega) (by rw[zw];exact c3) (λz d=>by rw[zw]at d;exact⟨lC z d,λe=>dis x xB (e▸d)⟩) (lB x xB);apply kq;rw[I]at k2 k3;rw[zw]at m2 m3
 have p:∀z∈C,z=y\/lt y z=U:=λz d=>by
  have e:=kK K;rw[Vf]at e;rw[e]at d c3
  rcases ak.mp d with h|h
  .exact .inl h
  .exact .inr ((cJ.mp c3).1 z h)
 have S:∀z∈B,z=x\/lt z x=U:=λz d=>by
  obtain⟨i,hi⟩:=iE d;obtain⟨O',e0⟩:=aM.mp hi;by_cases e:i=Z B - 1
  .clear sB nB O' e0; subst e;rw[H]at hi;cases hi;exact .inl rfl
  .have:=fD.mp sB i (Z B - 1) O' (aM.mp H).1 (bD (nZ O' (wt nB)) e);rw[e0,(aM.mp H).2]at this;exact .inr this
 have low:∀u,(∀z∈C,z=y\/lt y z=U)->lt u y=U->∀z∈C,lt u z=U:=λu _ h z d=>by
  rcases p z d with rfl|h'
  .exact h
  .exact o.tr _ _ _ h h'
 have high:∀u,lt x u=U->∀z∈B,lt z u=U:=λu h z d=>by
  rcases S z d with rfl|h'
  .exact h
  .exact o.tr _ _ _ h' h
 unfold mergeAt';walk_at "u mergeAt";refine .bind (.get ?_)
 have e1:(iv (qY κ it L' (O'++(pre.length,B.length,pw)::(Z pre+Z B,C.length,pw')::e0) g))[O'.length]?=Y (pre.length,B.length,pw):=by
  rw[lS,aG (ao _),jl];rfl
 have e2:(iv (qY κ it L' (O'++(pre.length,B.length,pw)::(Z pre+Z B,C.length,pw')::e0) g))[Z O'+1]?=Y (Z pre+Z B,C.length,pw'):=by
  rw[lS,aG (by simp),(dW _ _)];rfl
 rw[e1,e2]
 have e3:((iv (qY κ it L' (O'++(pre.length,B.length,pw)::(Z pre+Z B,C.length,pw')::e0) g)).setIfInBounds O'.length (pre.length,Z B+Z C,pw)).eraseIdxIfInBounds (Z O'+1)=(O'++(pre.length,Z B+Z C,pw)::e0).toArray:=by
  rw[List.setIfInBounds_toArray,List.set_append_right (h:=ao _),jl];unfold Array.eraseIdxIfInBounds;rw[hQ (by simp)];rw[List.eraseIdx_toArray,List.eraseIdx_append_of_length_le (by simp),(dW _ _)];rfl
 refine .bind (.set ?_);rw[e3];refine .bind (.elem gy (.bind (k4 J 0 W nB ?_)));refine .ite (λc=>?_) λc=>?_
 .refine .pure ?_;rw[<-D];refine q (B++C) g (oy sB c3 λu n=>low u p (k2 u ?_)) (.refl _);rw[gC (nZ (wt J') (af (beq_iff_eq.mp c)))];exact n
 have c:=λe=>c (beq_iff_eq.mpr e);refine .bind (.elem (by rw[show Z pre+k+(Z B - k) - 1=Z pre+Z B - 1 from(aI (rP (wS (Z pre+k+(Z B - k)) 1 (jj (cC c))) (wT (Z pre+Z B) 1) (ws J')) (rP (wS (Z pre+Z B) 1 (jj nB)) (wT (Z pre+k+(Z B - k)) 1) (wt J')))];exact gx) (.bind (m4 U (Z C - 1) W (iG nC (ao _)) ?_)));refine .ite (λc=>?_) λc'=>?_
 .have c :=beq_iff_eq.mp c;subst c;refine .pure ?_;rw[<-D];exact q (B++C) g (oy sB c3 λu n z d=>high z (m3 z d) u n) (.refl _)
 have c':0<m:=by exact cC (λe=>c' (beq_iff_eq.mpr e))
 have ex:(Ar it L').extract (Z pre+k) (Z pre+Z B)=Ar it (B.drop k):=by
  have:(L'.drop (Z pre+k)).take (Z pre+Z B - (Z pre+k))=B.drop k:=by
   rw[<-D,<-lg,aT,kY,aT,List.drop_append_of_le_length J',show Z pre+Z B - (Z pre+k)=(Z (B.drop k)) by rw[jW,Nat.add_sub_add_left],nJ]
  have h:=n8 (it:=it) (l:=[]) (b:=L') (i:=Z pre+k) (j:=Z pre+Z B);rw[this]at h;simpa using h
 have ey:(Ar it L').extract (Z pre+Z B) (Z pre+Z B+m)=Ar it (C.take m):=by
  have:(L'.drop (Z pre+Z B)).take (Z pre+Z B+m - (Z pre+Z B))=C.take m:=by
   rw[<-D,<-lg,aT,kY,aT,kY,(dW _ _),we m1]
  have h:=n8 (it:=it) (l:=[]) (b:=L') (i:=Z pre+Z B) (j:=Z pre+Z B+m);rw[this]at h;simpa using h
 have T':fA lt (B.drop k):=sB.sublist (fV _ _);have U':fA lt (C.take m):=c3.sublist (jD _ _)
 have fin:∀r g',Res it lt (B.drop k++C.take m) r->G U (m7 κ (r.toList.zipIdx.foldl (λ(a)(x)=>a.setIfInBounds (Z pre+k+x.2) x.1) (Ar it L')) (O'++(pre.length,Z B+Z C,pw)::e0).toArray g' L):=by
  rintro r g' ⟨R,rfl,sR,pR⟩
  have hLs:L'=(pre++B.take k)++(B.drop k++C.take m)++(C.drop m++post):=by
   rw[<-D]
   conv=>lhs;rw[<-bp k B,<-bp m C]
   grind
  rw[hLs,(CS (it:=it) R _ _ _ _ 0 pR.length_eq.symm (by simp;exact vS (gf J')))];have:=q (B.take k++R++C.drop m) g' ?_ ?_
  .simpa only[aT]using this
  .refine oy (oy (sB.sublist (jD _ _)) sR λu n z d=>?_) (c3.sublist (fV _ _)) λu n z d=>?_
   .rcases aH.mp (pR.mem_iff.mp d)with h|h
    .have:=sB;rw[<-bp k B]at this;exact(eN.mp this).2.2 u n z h
    .exact low u p (k2 u n) z (cY h)
   .have V:=m3 z d
    rcases aH.mp n with h|h
    .exact high z V u (cY h)
    .rcases aH.mp (pR.mem_iff.mp h)with h|h
     .exact high z V u (fS h)
     .have:=c3;rw[<-bp m C]at this;exact(eN.mp this).2.2 u h z d
  .conv=>rhs;rw[<-bp k B,<-bp m C]
   simpa only[aT]using ((pR.append_left _).append_right _)
 have e4:∀x∈B.drop k,x<N:=λz h=>lB z (fS h);have X:∀x∈C.take m,x<N:=λz h=>lC z (cY h);have F:∀x∈B.drop k,x∉C.take m:=λz h h'=>dis z (fS h) (cY h');have t:Z (B.drop k)=Z B - k:=by simp
 have hlC:Z (C.take m)=m:=by simp;exact gf m1
 have v:(B.drop k)[Z B - k - 1]?=Y x:=by rw[ku,show k+(Z B - k - 1)=Z B - 1 from(aI (rP (ws J') (ws (cC c)) (wt nB)) (rP (ws nB) (wt J') (wt (cC c))))];exact H
 have f:(C.take m)[0]?=Y y:=by rw[cL,cb c'];exact K
 extract_lets +onlyGivenNames lx ly jp
 subst lx ly
 have h:∀r g',Res it lt (B.drop k++C.take m) r->Wt P w A E s (jp r) G (m7 κ (Ar it L') (O'++(pre.length,Z B+Z C,pw)::e0).toArray g' L):=by
  intro r g' hr;exact .bind (.modify (.bind (.get (.pure (fin r g' hr)))))
 refine .ite (λ_=>?_) λ_=>?_
 .refine .bind ?_;rw[ex,ey];refine wab o as rfl e4 X T' U' F (aa (cC c) (af t.symm)) f k3 (λz d u n=>?_) λr g' hr=>h r g' hr;rw[t,kK v]at n;rw[(kZ (nZ (af t) (wt (cC c)))),ax]at n
  simp_all
 .refine .bind ?_;rw[ex,ey];refine F7 o as rfl e4 X T' U' F (aa c' (af hlC.symm)) (aI (nZ (af t) (wt (cC c))) (nZ (ws (cC c)) (af t.symm))) v m2 (λz d u n=>?_) λr g' hr=>h r g' hr;have e:=take_one f
  simp_all
end
section
def Wt.abx{G:a5 cc->cg->Prop}(as:vG P w A s C it lt N)(B:l[i]?=Y x)(O':l[j]?=Y y)(nx:x<N)(I:y<N)(h:G (Y (lt x y)) (qY C it l F g)):Wt P w A E s (ltAt' i j) G (qY C it l F g):=by
 exact .bind (.get (.bind (.elem B (.bind (.elem O' (Wt.ask as rfl nx I h))))))
set_option tactic.hygienic true
def C9(pre X g:O T):mirror (Ar it (pre++X++g)) pre.length (Z pre+Z X) ((Z pre+Z X - Z pre) / 2)=Ar it (pre++X.reverse++g):=by
 apply JO;intro k;rw[getElem?_mirror_all (by simp)];simp only[lS,aS];split
 .rename_i h;obtain⟨m,rfl⟩:∃m,k=Z pre+m:=⟨k-Z pre,(iF h.1).symm⟩
  have a:m<Z X:=Nat.lt_of_add_lt_add_left h.2
  rw[show Z pre+(Z pre+Z X)-1-(Z pre+m)=Z pre+(Z X-1-m) by rw[Nat.sub_sub,Nat.sub_sub,Nat.add_left_comm 1,Nat.add_sub_add_left,Nat.add_sub_assoc (by rwa[vp])],aT,aT,aG (be _ _),dW _ _,aO (nZ (p9 (Z X-1) m) (ws (aA (aU _) a))),aG (be _ _),dW _ _,aO (by simpa using a),EY a]
 grind
def D8(p V g:O T)(x:T):bubble (Ar it (p++(V++x::g))) (p.length+V.length) V.length=Ar it (p++(x::V++g)):=by
 apply JO;intro k;rw[getElem?_bubble (by rw[cH];simp) _ (jy _ _)];simp only[lS,aS];by_cases c:k<p.length
 .rw[cv (λz=>(Yw c (wT (p.length+V.length) V.length) (af z.symm))),cv (λz=>(Yw z.1 c (wT (p.length+V.length) V.length))),aO c,aO c]
 .obtain⟨m,rfl⟩:∃m,k=p.length+m:=⟨_,vS (iF (cB c))⟩
  clear c;have b:∀(e:O _)(i:T),(p++e)[p.length+i]?=e[i]? :=λe i=>by rw[aG (be _ _),dW]
  rw[b _ m,b,b];split
  .simp_all
  cases m with
  |zero=>simp_all
  |succ m=>
    split
    .rename_i h d;have a :=BU d.2;rw[show p.length+(m+1) - 1=p.length+m from rfl,b,aO a,pL,fU,aO a]
    .rename_i h d;have a:V.length<=m:=Nat.le_of_lt_succ (eT λz=>d ⟨by simp,m8 z _⟩)
     rw[aG (dA a),pL,fU,aG a,Nat.succ_sub a,fU]
set_option tactic.hygienic false
def uo(o:Lt lt){l:O T}(h:fA lt (l.take (n+1)))(O':l[n]?=Y u)(B:l[n+1]?=Y v)(c:lt u v=U):fA lt (l.take (n+1+1)):=by
 rw[List.take_succ,B];refine oy h (pK _ _) λz b y a=>?_;have a:y=v:=by simpa using a
 subst a;have:=tF o h (n:=n) (by simp_all) c z;rw[kU,Nat.min_self]at this;exact this b
abbrev ASt:=a5 (a5 T)×T
def Hz{rest:O T}{st:cg}(o:Lt lt)(F:rest.Nodup)(ha:1<=a)(y:a<=Z rest)(h:fA lt (rest.take a))
  (I:∀x n u v(C:fb ASt->cg->Prop),rest[n]?=Y u->rest[n+1]?=Y v->(lt v u=U->C (.done (L,n+1)) st)->(lt v u=J->C (.yield (L,n+1+1)) st)->Wt P w A E s (f x (L,n+1)) C st) :
  Wt P w A E s (forIn [a:rest.length] ((L,a):ASt) f) (λb B=>B=st/\∃n,b=(L,n)/\a<=n/\n<=Z rest/\fA lt (rest.take n)/\∀k u v,n=k+1->rest[k]?=Y u->rest[k+1]?=Y v->lt v u=U) st:=by
 refine Wt.range (λj b B=>B=st/\b=(L,a+j)/\fA lt (rest.take (a+j))) ⟨W,W,h⟩ (λj b B g z=>?_) λb B z=>⟨z.1,_,z.2.1,be _ _,af (iF y),z.2.2,λk u v r _ i=>by simp_all⟩
 obtain⟨e,t,l⟩:=z;subst e t;obtain⟨n,d⟩:∃n,a+j=n+1:=⟨a+j - 1,aI (jj (wT _ 1)) (jj (wS (a+j) 1 (jj ha)))⟩
 rw[d]at l ⊢;have m:=ag (show n<(Z rest) from(rP (af d.symm) (ws y) g));have i:=ag (show n+1<(Z rest) from(rP (af d.symm) g (ws y)))
 refine I _ n _ _ _ m i (λc=>⟨W,_,W,aa (be _ _) (af d),rP (af d.symm) (ws y) g,l,λk u v r p q=>by
  obtain rfl:n=k:=Nat.add_right_cancel r
  simp_all⟩) λc=>⟨W,by rw[show a+(j+1)=n+1+1 from(aI (bf (af d)) (bf (af d.symm)))],?_⟩
 rw[show a+(j+1)=n+1+1 from(aI (bf (af d)) (bf (af d.symm)))];refine uo o l m i (o.co _ _ (λe=>?_) c);have:=(jE (rP (af d.symm) g (ws y)) F).mp (i.trans (by rw[e];exact m.symm))
 grind
def vW{pre rest:O T}:(pre++rest)[Z pre+n]?=rest[n]? :=by rw[aG (be _ _)];simp
def DV{pre rest:O T}{G:a5 T->cg->Prop}(o:Lt lt)(as:vG P w A s κ it lt N)(c3:0<Z rest)(O':∀x∈rest,x<N)(nd:rest.Nodup)
  (q:∀n rest',1<=n->n<=Z rest->rest'.Perm rest->fA lt (rest'.take n)->G (Y n) (qY κ it (pre++rest') pd g)):Wt P w A E s (countRun' pre.length rest.length) G (qY κ it (pre++rest) pd g):=by
 have X:∀{rest':O T}{i j x y:T}{G':a5 cc->cg->Prop},rest'.Perm rest->rest'[i]?=Y x->rest'[j]?=Y y->G' (Y (lt x y)) (qY κ it (pre++rest') pd g)->Wt P w A E s (ltAt' (Z pre+i) (Z pre+j)) G' (qY κ it (pre++rest') pd g):=λhp J' K h=>
  Wt.abx as (vW.trans J') (vW.trans K) (O' _ (hp.mem_iff.mp (aY J'))) (O' _ (hp.mem_iff.mp (aY K))) h
 unfold countRun';walk_at "u countRun"
 refine .bind (Wt.mono (Hz o nd (ao 1) c3 (by
  clear o as c3 O' nd q X; cases rest with
  |nil=>exact .nil
  |cons z r=>exact pK _ _) λx n u v G' f l C D=>?_) λb d z=>?_)
 .refine .bind (X (.refl _) l f ?_)
  cases c:lt v u with
  |true=>exact .pure (C c)
  |false=>exact .pure (D c)
 obtain⟨e,n,V,h1,h2,B,hs⟩:=z;subst e V;refine .ite (λc=>.pure (q n rest h1 h2 (.refl _) B)) λc=>?_;have c:n<Z rest:=by exact bD h2 (λe=>c (beq_iff_eq.mpr e))
 extract_lets +onlyGivenNames T' U' L'
 refine Wt.wy (λR=>n=1->R (L' ())) ?_ λh=>?_
 rotate_left
 .refine .ite (λc1=>?_) λc1=>h (by exact aI (cB c1) h1);obtain⟨k,rfl⟩:∃k,n=k+1:=⟨n - 1,vS (ue h1)⟩
  refine .bind (X (i:=0) (.refl _) (ag (show 0<(Z rest) by omega)) (ag (h2)) ?_)
  have:lt rest[0] rest[k]=U:=by
   have:=fD.mp B 0 k (by exact jj (a0 (k + 1) rest.length (jj c))) (by simp;exact jj (a0 (k + 1) rest.length (jj c))) (bb c1);simpa using this
  rw[this];exact .pure (q _ _ h1 h2 (.refl _) B)
 rintro rfl;have l:=ag (by omega);have f:=ag (show 0<(Z rest) by omega);have o':Lt (Y4 lt):=⟨λi j k a b=>o.tr _ _ _ b a,λi j a b=>o.co _ _ (dn a) b,λi j a=>o.as _ _ a⟩
 have M:fA (Y4 lt) (rest.take 2):=by
  refine uo o' ?_ f l (hs 0 _ _ W f l)
  cases rest with
  |nil=>exact .nil
  |cons z r=>exact pK _ _
 refine .bind (.rule (.bind (Wt.mono (Wt.range (G:=λ(b)d=>d=qY κ it _ pd g/\∃m,b=(L,m,0)/\2<=m/\m<=Z rest/\fA _ (rest.take m))
  (λj b d=>d=qY κ it _ pd g/\b=(L,j+2,0)/\fA _ (rest.take (j+2))) ⟨W,W,M⟩ (λj b d F z=>?_) λb d z=>⟨z.1,_,z.2.1,by simp,iG c (ao _),z.2.2⟩) λb d z=>?_)))
 .obtain⟨e,V,hd⟩:=z;subst e V;have f:=ag (show j+1<(Z rest) from(aK (rN F)));have l:=ag (show j+2<(Z rest) from(rN F));refine .bind (X (.refl _) l f ?_)
  cases c:lt _ rest[j+1]with
  |true=>
    refine .pure ⟨W,W,?_⟩;have H:=hd;exact (uo o' H f (l) c)
  |false=>
    have I:rest[j+2]≠rest[j+1]:=λe=>by
     have:=(jE (by omega) nd).mp (l.trans (by rw[e];exact f.symm))
     simp_all
    refine .bind (X (.refl _) f l ?_);rw[o.co _ _ I c];exact .pure ⟨W,_,W,jy _ _,aK (rN F),hd⟩
 obtain⟨e,m,V,m1,m2,hd⟩:=z;subst e V;have p:((rest.take m).reverse++rest.drop m).Perm rest:=by
  conv=>rhs;rw[<-bp m rest]
  exact(iA _).append_right _
 refine .bind ?_;show Wt P w A E s (reverseSlice' _ _) _ _;rw[reverseSlice'_eq];refine .modify ?_
 have Q:mirror (Ar it (pre++rest)) pre.length (Z pre+m) ((Z pre+m - Z pre) / 2)=Ar it (pre++((rest.take m).reverse++rest.drop m)):=by
  have:=C9 (it:=it) pre (rest.take m) (rest.drop m)
  simp_all
 rw[Q];have t :=p.length_eq;generalize S:(rest.take m).reverse++rest.drop m=rest' at p t;have ht:rest'.take m=(rest.take m).reverse:=by grind
 rw[<-t];refine .bind (Wt.mono (Hz o (p.nodup_iff.mpr nd) ((aK m1)) (aa m2 (af t.symm)) (by rw[ht];exact lQ.mpr hd) λx n u v G' f l C D=>?_) λb d z=>?_)
 .refine .bind (X p l f ?_)
  cases c:lt v u with
  |true=>exact .pure (C c)
  |false=>exact .pure (D c)
 .obtain⟨e,n,V,h1,h2,B,_⟩:=z;subst e V;exact .pure (q n _ (aK (aa m1 h1)) (aa h2 (af t)) p B)
end
section
def yU{pre rest:O T}{G:cc->cg->Prop}(o:Lt lt)(as:vG P w A s κ it lt N)(h1:1<=ok)(h2:ok<=n)(hn:n<=Z rest)(c3:∀x∈rest,x<N)(nd:rest.Nodup)(e0:fA lt (rest.take ok))
  (q:∀rest',rest'.Perm rest->fA lt (rest'.take n)->G U (qY κ it (pre++rest') pd g)):Wt P w A E s (binarySort' pre.length n ok) G (qY κ it (pre++rest) pd g):=by
 unfold binarySort';walk_at "u binarySort";rw[Nat.max_eq_left h1]
 refine .bind (Wt.mono (Wt.range (G:=λ(b)a=>b=(L,())/\∃rest',a=qY κ it (pre++rest') pd g/\rest'.Perm rest/\fA lt (rest'.take n))
  (λj b a=>b=(L,())/\∃rest',a=qY κ it (pre++rest') pd g/\rest'.Perm rest/\fA lt (rest'.take (ok+j))) ⟨W,_,W,.refl _,e0⟩ (λj b a S z=>?_) λb a z=>by simp_all) λb a z=>by obtain⟨X,rest',e,hp,f⟩:=z;subst e X;exact .pure (q _ hp f))
 refine ac λ_ V=>?_;obtain⟨X,rest',e,hp,f⟩:=z;subst e X;apply V;generalize hk:ok+j=k at f;have B:k<Z rest':=a4 (af hk.symm) S (ws h2) hn (af hp.length_eq.symm)
 have C:=ag B;generalize rest'[k]=x at C;have mem:∀{i z:T},rest'[i]?=Y z->z<N:=λh=>c3 _ (hp.mem_iff.mp (aY h));clear h2 hn c3 S; obtain⟨t,p,M⟩:=HS o f x;have p:t<=k:=by simp at p;exact aa p (kr _ _)
 have less:∀m,m<k->∃z,rest'[m]?=Y z/\lt x z=decide (¬m<t):=λm F=>by
  have v:=ag ((de F B));refine⟨_,v,?_⟩;have e:=M m _ (by rw[cL,cb F];exact v)
  have I:rest'[m]≠x:=λe=>by
   exact a9 F (af ((jE ((de F B)) (hp.nodup_iff.mpr nd)).mp (v.trans (by rw[e];exact C.symm))).symm)
  by_cases c:m<t
  .rw[c0 c]at e;rw[c6 (λz=>(z c))];exact o.as _ _ e
  .rw[c6 c]at e;rw[c0 c];exact o.co _ _ I e
 refine .bind (Wt.mono (Wt.range (G:=λ(b)a=>a=qY κ it (pre++rest') pd g/\∃r,b=(L,t,r))
  (λi b a=>a=qY κ it _ pd g/\∃l r,b=(L,l,r)/\l<=t/\t<=r/\r<=k/\r - l<=k - i) ⟨W,0,k,W,aU _,p,ao _,by simp⟩ (λi b a hi z=>?_) λb a z=>by refine ac λ_ V=>?_;refine ac λ_ kq=>?_;obtain⟨e,l,r,X,H,J',K,Q⟩:=z;apply kq;apply V;grind) λb a z=>?_)
 .refine ac λ_ V=>?_;obtain⟨e,l,r,X,H,J',K,Q⟩:=z;subst e X;apply V;refine .ite (λc=>.pure ⟨W,r,by rw[(aI (aa J' c) H)]⟩) λc=>?_;have c:=c;obtain⟨z,L',O'⟩:=less ((l+r) / 2) (nZ (a2 l r (jj (eT c))).2 K);refine .bind (Wt.abx as (vW.trans C) (vW.trans L') (mem C) (mem L') ?_);rw[O'];by_cases d:(l+r) / 2<t
  .rw[c6 (λz=>(z d))];exact .pure ⟨W,_,r,W,d,J',K,Nat.sub_le_of_le_add (a4 (wt (aK (eT c))) Q (a2 l r (jj (eT c))).1 (ws (aK hi)) (wt hi))⟩
  .rw[c0 d];exact .pure ⟨W,l,_,W,H,cB d,Yy (wd (l+r)) H K (eT d),Nat.sub_le_of_le_add (a4 (a2 l r (jj (eT c))).2 (wt (aK (eT c))) Q (ws (aK hi)) (wt hi))⟩
 obtain⟨e,r,X⟩:=z;subst e X;refine .bind ?_;show Wt P w A E s (moveDown' _ _) _ _;rw[moveDown'_eq];refine .modify (.pure ⟨W,rest'.take t++(x::(rest'.take k).drop t++rest'.drop (k+1)),?_,?_,?_⟩)
 .have hb:=D8 (it:=it) (pre++rest'.take t) ((rest'.take k).drop t) (rest'.drop (k+1)) x
  have X:rest'.take t++(rest'.take k).drop t=rest'.take k:=by
   conv=>rhs;rw[<-bp t (rest'.take k)]
   rw[kU,gf p]
  have e2:rest'=rest'.take k++x::rest'.drop (k+1):=by rw[<-kK C,bp]
  have e3:pre++rest'.take t++((rest'.take k).drop t++x::rest'.drop (k+1))=pre++rest':=by
   rw[aT,<-aT (rest'.take t),X,<-e2]
  have e4:Z (rest'.take k)=k:=by rw[fL];exact gf (aK (List.getElem?_eq_some_iff.mp C).1)
  have R:Z (pre++rest'.take t)+Z ((rest'.take k).drop t)=Z pre+k:=by rw[<-aL,aT,X,aL,e4]
  have e5:Z ((rest'.take k).drop t)=Z pre+k - (Z pre+t):=by rw[jW,e4,Nat.add_sub_add_left]
  rw[e3,R,e5,aT]at hb;rw[hb]
 .refine G9 ?_ hp
  have e2:rest'=rest'.take t++((rest'.take k).drop t++x::rest'.drop (k+1)):=by
   rw[<-aT]
   have X:rest'.take t++(rest'.take k).drop t=rest'.take k:=by
    conv=>rhs;rw[<-bp t (rest'.take k)]
    rw[kU,gf p]
   rw[X,<-kK C,bp]
  conv=>rhs;rw[e2]
  exact kN _ Qe.symm
 .have X:rest'.take t++(rest'.take k).drop t=rest'.take k:=by
   conv=>rhs;rw[<-bp t (rest'.take k)]
   rw[kU,gf p]
  have e2:(rest'.take t++(x::(rest'.take k).drop t++rest'.drop (k+1))).take (ok+(j+1))=rest'.take t++(x::(rest'.take k).drop t):=by
   rw[<-aT,we (by simp;exact Yy (af hk) (a0 k rest'.length (jj B)) (wT (min k _) t) (a0 t rest'.length (nZ p B))),gC (by simp;exact Yy (kr t _) (ws (Nat.le_min.mpr ⟨p,aa p (aK B)⟩)) (kr k _) (af hk.symm))]
  rw[e2];have D:=f;rw[<-X]at D;have lo:∀z∈rest'.take t,lt z x=U:=λz v=>by
   obtain⟨i,hi⟩:=iE v;rw[cL]at hi;split at hi
   .rename_i c;rw[M i z (by rw[cL,cb (aQ c p)];exact hi),c0 c]
   .cases hi
  have hi:∀z∈(rest'.take k).drop t,lt x z=U:=λz v=>by
   obtain⟨i,hi⟩:=iE v;rw[ku,cL]at hi;split at hi
   .rename_i c;obtain⟨T',L',O'⟩:=less _ c
    simp_all
   .cases hi
  refine oy (eN.mp D).1 (cJ.mpr ⟨hi,(eN.mp D).2.1⟩) λz v y U'=>?_
  grind
end
inductive mZ (lt:T->T->cc):T->O (T×T×T)->O (O T)->Prop
 |nil {o:T}:mZ lt o [] []
 |cons {o pw:T} {R:O T} {ps:O (T×T×T)} {Rs:O (O T)}:0<Z R->fA lt R->mZ lt (o+Z R) ps Rs->mZ lt o ((o,R.length,pw)::ps) (R::Rs)
section
def mZ.split(h:mZ lt o F Rs):∀{i:T},i+1<Z F->∃I pw P y O' B C R2,F=I++(o+Z (O'.flatten:O T),B.length,pw)::(o+Z O'.flatten+Z B,C.length,P)::y/\Rs=O'++B::C::R2/\Z I=i/\
  0<Z B/\0<Z C/\fA lt B/\fA lt C/\∀M:O T,Z M=Z B+Z C->fA lt M->mZ lt o (I++(o+Z O'.flatten,Z B+Z C,pw)::y) (O'++M::R2):=by
 induction h with
 |nil=>intro i m;simp at m
 | @cons o pw R p Rs n q r c=>
   intro i m
   cases i with
   |zero=>
     clear c; cases r with
     |nil=>simp at m
     | @cons _ P C p Rs d f g=>
       refine⟨[],pw,P,p,[],R,C,Rs,W,W,W,n,d,q,f,λM a b=>?_⟩;have:=mZ.cons (pw:=pw) (aa (QE _ n) (af a.symm)) b (by rwa[a,<-ki])
       simp_all
   |succ i=>
     refine ac λ_ l=>?_;obtain⟨I,j,k,y,O',B,C,R2,t,u,w,b1,b2,b3,b4,b5⟩:=c (by simpa using m);apply l;have e:o+(R::O').flatten.length=o+Z R+Z O'.flatten:=by simp;exact vS (ki ..)
     refine⟨(o,R.length,pw)::I,j,k,y,_,B,C,R2,by rw[e,t];rfl,by rw[u];rfl,by simp[w],b1,b2,b3,b4,λM a b=>?_⟩;rw[e];exact .cons n q (b5 M a b)
def mZ.push{R:O T}(h:mZ lt o g Rs)(y:0<Z R)(B:fA lt R):mZ lt o (g++[(o+Z Rs.flatten,R.length,x)]) (Rs++[R]):=by
 induction h with
 |nil=>exact .cons y B .nil
 | @cons o f a i Rs b c e d=>
   refine .cons b c ?_;rwa[show o+(a::Rs).flatten.length=o+Z a+(Z Rs.flatten) by simp;exact vS (ki ..)]
def mZ.mod(y:∀a b c,∃d,f (a,b,c)=(a,b,d))(h:mZ lt o B Rs):∀k,mZ lt o (B.modify k f) Rs:=by
 induction h with
 |nil=>intro k;simp;exact .nil
 | @cons o g l p Rs i j m n=>
   intro k
   cases k with
   |zero=>
     obtain⟨d,e⟩:=y o _ g;rw[List.modify_zero_cons,e];exact .cons i j m
   |succ k=>exact .cons i j (n k)
def mZ.len(h:mZ lt o g Rs):Z g<=Z Rs.flatten:=by
 induction h with
 |nil=>exact ao _
 |cons b c d a=>simp at a ⊢;exact nZ a b
end
section
variable{κ:qQ}{it:T->ko}{lt:T->T->cc}
def ite_le{c:Prop}[ei c]:(if c then a - 1 else a)<=a:=by split<;>simp
structure TK(lt:T->T->cc)(l0 l:O T)(B:O (T×T×T))(Rs:O (O T))(rest:O T):Prop where
 e:l=Rs.flatten++rest
 r:mZ lt 0 B Rs
 p:l.Perm l0
def TK.nil(h:TK lt g l B Rs y)(n:Z g<=Z Rs.flatten):TK lt g l B Rs []:=by
 obtain⟨e,r,p⟩:=h;have a:=p.length_eq;rw[e,aL]at a;obtain rfl:y=[]:=kG.mp (aI (nZ n (af a)) (aU _));exact⟨e,r,p⟩
def Wt.rgL{R y:Type}{a b:T}{f:T->a5 R×y->eb cg B3 (fb (a5 R×y))}{k:a5 R×y->eb cg B3 C}{G:C->cg->Prop}(z:T->y)(I:T->O T->O (T×T×T)->O (O T)->Prop)(D:O T->O (T×T×T)->O (O T)->Prop)(F:I 0 l B Rs)(S:∀l B Rs,I (b-a) l B Rs->D l B Rs)
  (k1:∀l B g Rs,D l B Rs->Wt P w A E s (k (L,z Rs.flatten.length)) G (qY κ it l B g))
  (hb:∀j l B g Rs(G:fb (a5 R×y)->cg->Prop),I j l B Rs->(∀l B g Rs,D l B Rs->G (.done (L,z Rs.flatten.length)) (qY κ it l B g))->(∀l B g Rs,I (j+1) l B Rs->G (.yield (L,z Rs.flatten.length)) (qY κ it l B g))->Wt P w A E s (f (a+j) (L,z Rs.flatten.length)) G (qY κ it l B g)) :
  Wt P w A E s (forIn [a:b] (L,z Rs.flatten.length) f>>=k) G (qY κ it l B g):=
 .bind (.range (λj b d=>∃l B g Rs,b=(L,z Rs.flatten.length)/\d=qY κ it l B g/\I j l B Rs) ⟨l,B,g,Rs,W,W,F⟩ (λj b d c q=>by
  obtain⟨_,_,_,_,rfl,rfl,h⟩:=q;exact hb _ _ _ _ _ _ h k1 λl B g Rs h=>⟨l,B,g,Rs,W,W,h⟩) λb d q=>by
  obtain⟨_,_,_,_,rfl,rfl,h⟩:=q;exact k1 _ _ _ _ (S _ _ _ h))
def TK.mA{l0:O T}{f:cc->eb cg B3 γ}{G:γ->cg->Prop}(h:TK lt l0 l B Rs c3)(o:Lt lt)(as:vG P w A s κ it lt N)(O':∀x∈l0,x<N)(e0:l0.Nodup)(hi:i+1<Z B)
  (q:∀l' B' g' Rs',TK lt l0 l' B' Rs' c3->Z Rs'.flatten=Z Rs.flatten->Z B'+1=Z B->Wt P w A E s (f U) G (qY κ it l' B' g')):Wt P w A E s (mergeAt' i>>=f) G (qY κ it l B g):=
 .bind (by
 have R:∀Q∈l,Q<N:=λx H=>O' x (h.p.mem_iff.mp H);have nd:l.Nodup:=h.p.nodup_iff.mpr e0;have hl:=h.e;have hp:=h.r;have S:∀l' X K Rs',l'=Rs'.flatten++c3->mZ lt 0 X Rs'->l'.Perm l->Z Rs'.flatten=Z Rs.flatten->Z X+1=Z B->(fun a B => Wt P w A E s _ G B) U (qY κ it l' _ K):=λl' B' g' Rs' a b c=>q l' B' g' _ ⟨a,b,c.trans h.p⟩;refine ac λ_ u=>?_;obtain⟨n,pw,y,z,J',I,C,R2,v,V,e3,b1,b2,b3,b4,b5⟩:=hp.split hi;apply u;rw[fj]at v b5;have el:l=J'.flatten++(I++C)++(R2.flatten++c3):=by rw[hl,V];simp
 have f:∀Q∈I,Q∈l:=λQ t=>by rw[el];simp[t]
 have L':∀Q∈C,Q∈l:=λQ t=>by rw[el];simp[t]
 have D :=λQ j k=>by
  rw[el]at nd;exact(cG.mp ((cG.mp (cG.mp nd).1).2.1)).2.2 Q j Q k W
 clear nd hl hp hi u; subst e3;rw[v,el];refine F8 o as b3 b4 b1 b2 (λQ t=>R Q (f Q t)) (λQ t=>R Q (L' Q t)) D λM K m d=>?_;have F:Z M=Z I+Z C:=by rw[d.length_eq];simp
 refine S _ _ K _ (by simp) (b5 M F m) ?_ (by rw[V];simp;exact aI (jj (af F)) (jj (af F.symm))) (by rw[v];simp;rfl);rw[el];exact(d.append_left _).append_right _)
def waa{R:O T}{G:k8->cg->Prop}(o:Lt lt)(as:vG P w A s κ it lt N)(O':∀x∈R,x<N)(c3:R.Nodup)(q:∀l B g,l.Perm R->fA lt l->G () (qY κ it l B g)):Wt P w A E s sortRuns' G (qY κ it R [] g0):=by
 unfold sortRuns';walk_at "u sortRuns";refine wge ?_
 extract_lets +onlyGivenNames n mQ lo
 have M:Z R=n:=cH.symm
 clear_value n mQ
 refine Wt.rgL (λn=>n) (λj l B Rs=>∃rest,TK lt R l B Rs rest/\(rest=[]\/j<=Z Rs.flatten)) (λl B Rs=>TK lt R l B Rs []) (Rs:=[]) ⟨R,⟨W,.nil,.refl _⟩,.inr (ao _)⟩ (λl B Rs h=>?_) (λl B g Rs h=>?_) λj l B g Rs V h d1 d2=>?_
 .obtain⟨_,h,rfl|v⟩:=h
  .exact h
  .exact h.nil (nZ v (af M))
 .refine Wt.rgL (λ_=>()) (λj l B Rs=>TK lt R l B Rs []/\(Z B<=1\/Z B+j<=n)) (λl B Rs=>TK lt R l B Rs []/\Z B<=1) (Rs:=Rs) ⟨h,.inr (by have:=h.p.length_eq;rw[h.e,aW]at this;exact nZ h.r.len (af (this.trans M)))⟩ (λl B Rs h=>⟨h.1,h.2.elim id (λh=>jj h)⟩) (λl B g Rs h=>?_) λj l B g Rs V h d1 d2=>?_
  .refine .pure (q l B g h.1.p ?_)
   obtain⟨⟨rfl,r,p⟩,v⟩:=h
   clear h p; cases r with
   |nil=>exact .nil
   |cons h1 h2 h3=>
     cases h3 with
     |nil=>simpa using h2
     |cons _ _ _=>simp at v
  .refine wge (.ite (λc=>.pure (d1 l B g Rs ⟨h.1,c⟩)) λc=>?_);have c:¬Z B<=1:=c
   refine h.1.mA o as O' c3 (aA (bf (ite_le (a:=Z B - 2))) (jj (ws (eT c)))) λQ S X Rs' a b e=>.IC (by simp) (.pure (d2 Q S X Rs' ⟨a,?_⟩))
   exact h.2.imp (λx=>(c x).elim) λx=>nZ x (af e)
 obtain⟨rest,h,v⟩:=h
 refine .ite (λc=>.pure (d1 _ _ _ _ (h.nil (by rw[M];exact c)))) λc=>?_
 obtain⟨rfl,r,p⟩:=h;have len:=p.length_eq;rw[aL,M]at len
 have I:∀x∈rest,x<N:=λx H=>O' x (p.mem_iff.mp (aB _ H));have J':rest.Nodup:=(cG.mp (p.nodup_iff.mpr c3)).2.1
 have F:∀{γ}{f:a5 T->eb cg B3 γ}{G:γ->cg->Prop},(∀m d,1<=m->m<=Z rest->d.Perm rest->fA lt (d.take m)->Wt P w A E s (f (Y m)) G (qY κ it (Rs.flatten++d) B g))->Wt P w A E s (countRun' Rs.flatten.length (n-Z Rs.flatten)>>=f) G (qY κ it (Rs.flatten++rest) B g):=λ{_ _ _}h=>by
  rw[<-len,dW _ _];exact .bind (DV o as (nZ (eT c) (af len.symm)) I J' λm d=>h m d)
 refine F λm d k t y K=>?_
 dsimp -zeta -zetaHave only
 extract_lets -underBinder +onlyGivenNames n1 jp
 have C:=y.length_eq;rw[show n-Z Rs.flatten=(Z rest) by rw[<-len,dW _ _]]
 suffices h:∀m d g,1<=m->m<=Z rest->d.Perm rest->fA lt (d.take m)->Wt P w A E s (jp () m) V (qY κ it (Rs.flatten++d) B g) by
  refine .ite (λc1=>wru ?_) λ_=>h m d g k t y K
  have e:m<=min rest.length mQ:=Nat.le_min.mpr ⟨t,aK c1⟩
  exact .bind (yU o as k e (by rw[C];exact kr _ _) (λx H=>I x (y.mem_iff.mp H)) (y.nodup_iff.mpr J') K λF p2 r2=>.IC (by simp) (h _ F g (aa k e) (kr _ _) (p2.trans y) r2))
 intro m d g k t y K;refine wge ?_
 extract_lets -underBinder +onlyGivenNames T'
 have D:TK lt R (Rs.flatten++d) B Rs d:=⟨W,r,(y.append_left _).trans p⟩
 have h:∀l B g i,TK lt R l B i d->Z i.flatten=Z Rs.flatten->Wt P w A E s (T' ()) V (qY κ it l B g):=λl B g i a b=>by
  have e0:Z (d.take m)=m:=by rw[fL];exact gf (by rw[y.length_eq];exact t)
  have e:(i++[d.take m]).flatten.length=Z Rs.flatten+m:=by simp[b];rw[y.length_eq];exact gf t
  have z:=a.r.push (x:=0) (by rwa[e0]) K;rw[e0,b,fj]at z
  refine .bind (.modify (.pure ?_));have z:=d2 l _ g _ ⟨d.drop m,⟨by rw[a.e];simp,z,a.p⟩,.inr (by rw[e];exact nZ (v.elim (λh=>by subst h;exact absurd (aa k t) (by simp)) id) k)⟩
  rw[e]at z;rw[List.push_toArray];exact z
 split
 .refine Wt.rgL (λ_=>()) (λ_ l B i=>TK lt R l B i d/\Z i.flatten=Z Rs.flatten) (λl B i=>TK lt R l B i d/\Z i.flatten=Z Rs.flatten) (Rs:=Rs) ⟨D,W⟩ (λ_ _ _ h=>h) (λl B g i a=>?_) λj l B g i V a d1 d2=>wge ?_
  .refine .bind (.modify ?_);rw[List.modify_toArray];exact h l _ g i ⟨a.1.e,a.1.r.mod (λa b c=>⟨_,W⟩) _,a.1.p⟩ a.2
  dsimp only;rw[bB];by_cases c:B.length>1
  .rw[cb c,show B.toArray[Z B-2]?=Y B[Z B-2] by simp];generalize B[Z B-2]=z;obtain⟨_,_,_⟩:=z
   exact .ite (λ_=>.pure (d1 l B g i a)) λ_=>a.1.mA o as O' c3 (jj (ws c)) λQ S X i u f e=>.IC (by simp) (.pure (d2 Q S X i ⟨u,f.trans a.2⟩))
  .rw[cv c];exact .pure (d1 l B g i a)
 .exact h _ _ _ Rs D W
end
section
variable{lt:T->T->cc}{n:T}
structure UZ(lt:T->T->cc)(n:T):Prop where
 tr:∀i j k,i<n->j<n->k<n->lt i j=U->lt j k=U->lt i k=U
 co:∀i j,i<n->j<n->i≠j->lt i j=J->lt j i=U
 as:∀i j,i<n->j<n->lt i j=U->lt j i=J
noncomputable abbrev pg(p:c4 T)(k:T):T:=p.getD k 0
structure Pm(p:c4 T)(n:T):Prop where
 sz:p.size=n
 lt:∀k,k<n->pg p k<n
 inj:∀i j,i<n->j<n->pg p i=pg p j->i=j
 pm:p.toList.Perm (aR n)
def Nl{p:c4 T}(h:k<p.size):p[k]?=Y (pg p k):=by
 simp_all
def Pm.of{p:c4 T}(h:p.toList.Perm (aR n)):Pm p n:=by
 have d:p.size=n:=by rw[<-bo,h.length_eq,ba]
 refine⟨d,λk g=>?_,λi j f c e=>?_,h⟩
 .have:pg p k∈p.toList:=by
   simp_all
  exact aX.mp (h.mem_iff.mp this)
 .have a:=Nl (aa f (af d.symm));have b:=Nl (aa c (af d.symm));rw[<-jA]at a b;rw[e]at a;exact(jE (by simp_all) (h.nodup_iff.mpr gJ)).mp (a.trans b.symm)
def Up(lt:T->T->cc)(p:c4 T)(m:T):Prop:=∀i j,i<j->j<m->lt (pg p i) (pg p j)=U
noncomputable def YA(lt:T->T->cc)(n i j:T):cc:=if i<n then(if j<n then lt i j else U)else if j<n then J else decide (i<j)
def N4(hi:i<n)(B:j<n):YA lt n i j=lt i j:=by unfold YA;simp_all
def Yz(o:UZ lt n):Lt (YA lt n):=by
 refine⟨λi j k a b=>?_,λi j ne a=>?_,λi j a=>?_⟩
 .unfold YA at a b ⊢;by_cases d:i<n<;>by_cases c:j<n<;>by_cases e:k<n<;>simp only[d,c,e,ek,eg,dh,c5]at a b ⊢
  .exact o.tr i j k d c e a b
  .exact de a b
 .unfold YA at a ⊢;by_cases d:i<n<;>by_cases c:j<n<;>simp only[d,c,ek,eg,Bool.true_eq_false,er,c5]at a ⊢
  .exact o.co i j d c ne a
  .omega
 .unfold YA at a ⊢;by_cases d:i<n<;>by_cases c:j<n<;>simp only[d,c,ek,eg,dh,er,c5]at a ⊢
  .exact o.as i j d c a
  .exact λz=>(a9 z (aK a))
end
section
def Mu{y:O ai}(o:UZ lt y.length)(R:∀i j,i<Z y->j<Z y->∀C:cc->aj->Prop,C (lt i j) s->aw (aq P w) A (keyLt' B (y.getD i .none) (y.getD j .none)) C (λ_ _=>False) s) :
  aw (aq P w) A ((sortRuns').run (m7 B (y.toArray.zip y.toArray) #[] 7 L)) (λr F=>F=s/\∃p:c4 T,Pm p (Z y)/\Up lt p (Z y)/\arrOf r.2=p.map (Qu (y.toArray.zip y.toArray))/\failedOf r.2=L) E s:=by
 have as:vG P w A s B (Qu (y.toArray.zip _)) (YA lt _) _:=λi j t b C f=>by
  rw[N4 t b]at f;have e:=kas_item_eq y;unfold pairsOf at e;rw[e i,e j];exact R i j t b C f
 have d:m7 B (y.toArray.zip y.toArray) #[] 7 L=qY B (Qu (y.toArray.zip y.toArray)) (aR y.length) [] 7:=by
  have e:=kas_range (y.toArray.zip y.toArray)
  grind
 rw[d]
 have n:=waa (E:=E) (g0:=7) (G:=λ_ c=>∃p:c4 _,Pm p _/\Up lt p (Z y)/\arrOf c=p.map (Qu (y.toArray.zip _))/\failedOf c=L)
  (Yz o) as (λx h=>aX.mp h) gJ λl m g u k=>by
   have q:Pm l.toArray _:=.of u;refine⟨_,q,λi j a b=>?_,by rw[List.map_toArray],W⟩;have H:Z l=Z y:=by simpa using u.length_eq
   have I:pg l.toArray i=l[i]:=by simp[pg,show i<(Z l) by omega]
   have K:pg l.toArray j=l[j]:=by simp_all
   rw[I,K,<-N4 (lt:=lt) (I▸q.lt i (de a b)) (K▸q.lt j (by omega))];exact (fD.mp k i j (aa (de a b) (af H.symm)) (aa b (af H.symm)) a)
 exact bC n (λr F z=>⟨z.2,z.1⟩) λ_ _ e=>e
end
noncomputable def tD{α:Type}[ed α](f:α->α->cc):O α->O α->cc
 |[],[]=>J
 |[],_::_=>U
 |_::_,[]=>J
 |x::a,y::b=>if x=y then tD f a b else f x y
structure LO{α:Type}(f:α->α->cc):Prop where
 tr:∀a b c,f a b=U->f b c=U->f a c=U
 co:∀a b,a≠b->f a b=J->f b a=U
 ir:∀a,f a a=J
def LO.as (h:LO f)(x:f a b=U):f b a=J:=by
 cases q:f b a with
 |false=>rfl
 |true=>have:=h.tr _ _ _ x q;rw[h.ir]at this;cases this
def LO.int:LO (λi j:cx=>decide (i<j)):=
 ⟨λa b c x y=>by simp only[c5]at *;exact Int.le_of_lt (gZ x y),λa b n x=>by grind,λa=>by simp⟩
section
variable{α:Type}[ed α]{f:α->α->cc}
def mU{x y:α}{xs g:O α}:tD f (x::xs) (y::g)=if x=y then tD f xs g else f x y:=rfl
def LO.lex(h:LO f):LO (tD f):=by
 refine⟨λa=>?_,λa=>?_,λa=>?_⟩
 .induction a with
  |nil=>
    intro b c x y
    cases b with
    |nil=>cases x
    | cons _ _=>cases c with
      |nil=>cases y
      |cons _ _=>rfl
  |cons p a d=>
    intro b c x y
    cases b with
    |nil=>cases x
    |cons q b=>
      cases c with
      |nil=>cases y
      |cons r c=>
        rw[mU]at x y ⊢;by_cases g:p=q
        .subst g
         grind
        .rw[cv g]at x;by_cases i:q=r
         .simp_all
         .rw[cv i]at y;have z:=h.tr _ _ _ x y;rwa[cv λe=>by rw[<-e]at z;rw[h.ir]at z;cases z]
 .induction a with
  |nil=>
    intro b n x
    cases b with
    |nil=>exact absurd rfl n
    |cons _ _=>cases x
  |cons p a d=>
    intro b n x
    cases b with
    |nil=>rfl
    |cons q b=>
      rw[mU]at x ⊢;by_cases e:p=q
      .grind
      .rw[cv e]at x;rw[cv λz=>e z.symm];exact h.co _ _ e x
 .induction a with
  |nil=>rfl
  |cons p a d=>rwa[mU,cb W]
end
abbrev N5:O cx->O cx->cc:=tD λi j=>decide (i<j)
abbrev ltC:O (O cx)->O (O cx)->cc:=tD N5
abbrev yO:O (O (O cx))->O (O (O cx))->cc:=tD ltC
def S9:LO N5:=LO.int.lex
def pk:LO yO:=LO.int.lex.lex.lex
def Ta:N5 [i] [j]=decide (i<j):=by
 show(if i=j then J else decide _)=decide _;by_cases e:i=j
 .rw[e];simp
 .rw[cv e]
theorem Ba:∀l g:O T,N5 (l.map fN) (g.map fN)=decide (l<g)
 |[],[]=>by simp[N5,tD]
 |[],_::_=>by simp[N5,tD]
 |_::_,[]=>by simp[N5,tD]
 |a::l,b::g=>by
   have c:=Ba l g;show(if fN a=fN b then N5 _ (g.map fN)else decide _)=_;by_cases e:a=b
   .simp_all
   .rw[cv λz=>e (Lm z)];apply decide_eq_decide.mpr;rw[List.cons_lt_cons_iff]
    simp_all
noncomputable def cK:Key->O cx
 |.inl i=>[i]
 |.inr x=>x.cps.toList.map fN
noncomputable def iK:Key->cx
 |.inl i=>i
 |.inr _=>0
noncomputable def sK:Key->cc
 |.inl _=>U
 |.inr _=>J
def c2:N2->O cx
 |.inl k=>cK k
 |.inr a=>a.map iK
def s2:N2->T
 |.inl (.inl _)=>0
 |.inl (.inr _)=>1
 |.inr a=>if a.all sK=U then 2 else 3
def sI:N2->cc
 |.inl k=>sK k
 |.inr _=>J
def i2v:N2->cx
 |.inl k=>iK k
 |.inr _=>0
def cN:NK->O (O cx)
 |.inl k=>[cK k]
 |.inr a=>if a.all sI=U then [a.map i2v]else a.map c2
def sN:NK->O T
 |.inl (.inl _)=>[0]
 |.inl (.inr _)=>[1]
 |.inr a=>if a.all sI=U then [2]else 3::a.map s2
noncomputable def C1:O T->cc
 |3::l=>l.all λn=>decide (n<3)
 |_=>U
theorem OC:∀{x y:O Key},x.all sK=U->y.all sK=U->x.map iK=y.map iK->x=y
 |[],[],_,_,_=>rfl
 |[],_::_,_,_,h=>by cases h
 |_::_,[],_,_,h=>by cases h
 |.inl i::x,.inl j::y,a,b,h=>by
   simp only[az,gV,iK]at h;simp only[eF,ah]at a b;rw[h.1,OC a.2 b.2 h.2]
 |.inr _::_,_::_,a,_,_=>by simp[sK]at a
 |_::_,.inr _::_,_,b,_=>by simp[sK]at b
def PH(hs:sK x=sK y)(h:cK x=cK y):x=y:=by
 cases x with
 |inl i=>
   cases y with
   |inl j=>simp only[cK,gV,and_true]at h;rw[h]
   |inr b=>cases hs
 |inr a=>
   cases y with
   |inl j=>cases hs
   |inr b=>
     have:=(Lj (λ_ _ z=>Lm z)).mp h;cases a;simp_all
def PL(hs:s2 x=s2 y)(g:s2 x<3)(h:c2 x=c2 y):x=y:=by
 cases x with
 |inl a=>
   cases y with
   |inl b=>rw[PH (by cases a<;>cases b<;>first|rfl|cases hs) h]
   |inr d=>cases a<;>(simp only[s2]at hs;grind)
 |inr d=>
   cases y with
   |inl b=>cases b<;>(simp only[s2]at hs;grind)
   |inr c=>
     simp only[s2]at hs g;by_cases c1:d.all sK=U
     .by_cases c2:c.all sK=U
      .rw[OC c1 c2 h]
      grind
     simp_all
theorem OD:∀{x y:O N2},x.all sI=U->y.all sI=U->x.map i2v=y.map i2v->x=y
 |[],[],_,_,_=>rfl
 |[],_::_,_,_,h=>by cases h
 |_::_,[],_,_,h=>by cases h
 |.inl (.inl i)::x,.inl (.inl j)::y,a,b,h=>by
   simp only[az,gV,i2v,iK]at h;simp only[eF,ah]at a b;rw[h.1,OD a.2 b.2 h.2]
 |.inl (.inr _)::_,_::_,a,_,_=>by simp[sI,sK]at a
 |.inr _::_,_::_,a,_,_=>by simp[sI]at a
 |_::_,.inl (.inr _)::_,_,b,_=>by simp[sI,sK]at b
 |_::_,.inr _::_,_,b,_=>by simp[sI]at b
theorem Jm:∀{x y:O N2},x.map s2=y.map s2->(∀n∈x.map s2,n<3)->x.map c2=y.map c2->x=y
 |[],[],_,_,_=>rfl
 |[],_::_,h,_,_=>by cases h
 |_::_,[],h,_,_=>by cases h
 |a::x,b::y,h,d,e=>by
   simp only[az,gV]at h e;rw[PL h.1 (d _ (by simp)) e.1,Jm h.2 (λn c=>d n (by exact jU _ c)) e.2]
def NB(h:C1 (3::l)=U):∀n∈l,n<3:=λn a=>by
 simpa using (bc.mp (h) n a)
def wO(hs:sN x=sN y)(g:C1 (sN x)=U):(∃a b,x=.inl a/\y=.inl b/\sK a=sK b)\/(∃a b,x=.inr a/\y=.inr b/\a.all sI=U/\b.all sI=U)\/
  ∃a b,x=.inr a/\y=.inr b/\¬a.all sI=U/\¬b.all sI=U/\a.map s2=b.map s2/\∀n∈a.map s2,n<3:=by
 cases x with
 |inl a=>
   cases y with
   |inl b=>exact .inl ⟨a,b,W,W,by cases a<;>cases b<;>first|rfl|(simp[sN]at hs)⟩
   |inr e=>exfalso;cases a<;>(simp only[sN]at hs;split at hs<;>simp at hs)
 |inr a=>
   cases y with
   |inl b=>exfalso;cases b<;>(simp only[sN]at hs;split at hs<;>simp at hs)
   |inr b=>
     simp only[sN]at hs g;by_cases d:a.all sI=U
     .by_cases c:b.all sI=U
      .exact .inr (.inl ⟨a,b,W,W,d,c⟩)
      simp_all
     .rw[cv d]at hs g;by_cases c:b.all sI=U
      .simp_all
      .rw[cv c]at hs;exact .inr (.inr ⟨a,b,W,W,d,c,(eO hs).2,NB g⟩)
def PD(hs:sN x=sN y)(g:C1 (sN x)=U)(h:cN x=cN y):x=y:=by
 rcases wO hs g with⟨a,b,rfl,rfl,q⟩|⟨a,b,rfl,rfl,c,d⟩|⟨a,b,rfl,rfl,c,d,e,f⟩
 .rw[PH q (eO h).1]
 .simp only[cN]at h;rw[cb c,cb d]at h;rw[OD c d (eO h).1]
 .simp only[cN]at h;rw[cv c,cv d]at h;rw[Jm e f h]
section
variable{A:bJ}{z0:aj}
def N1{I:Ik P w}{α:Type}[ed α]{f:α->α->cc}{c:I.κ->α}{R:I.κ->I.κ->Prop}{x y:O I.κ}{p b:aD}{G:Fin->aj->Prop}(c3:A.units+I.d<=eC)(ex:t5 I z0.heap x p)(O':t5 I z0.heap y b)
  (e0:∀q∈x.zip y,R q.1 q.2)(ci:∀a b,R a b->c a=c b->a=b)
  (lt:∀(E:ai->aj->Prop)(a b:I.κ)(u v:ai)(Q:ai->aj->Prop),R a b->I.is z0.heap a u->I.is z0.heap b v->Q (.bool (f (c a) (c b))) z0->aw (aq P w) A (dk .Lt u v) Q E z0)
  (h:G (.done (.ret (.bool (tD f (x.map c) (y.map c))))) z0):aw (aq P w) A (gu.«tuple.__lt__» ⟨[.ref p,.ref b],[]⟩) G E z0:=by
 have s:=O'.typeIs;refine ac λ_ e1=>?_;obtain⟨S,xs,na,t,_,z,B⟩:=ex;obtain⟨T',ys,nb,C,_,D,F⟩:=O';apply e1;refine (?_ : aw _ _ (g8 _ (.type _) >>= _) _ _ z0);refine wb9 (dU s sL ?_);refine wb9 (lu t z ?_);refine wb9 (lu C D ?_);apply wb9
 refine jk _
  (λtl r o=>r.1=L/\o=z0/\∃x' j g i,tl=List.zip g i/\t4 I _ x' g/\t4 I _ j i/\(∀q∈x'.zip j,R q.1 q.2)/\
   tD f (x'.map c) (j.map c)=tD f _ _/\decide (Z g<Z i)=decide (xs.size<ys.size))
  _ ?_ ?_ _ _ ⟨W,W,x,y,_,_,W,B,F,e0,W,by simp⟩
 .rintro⟨u,v⟩ tl r o ⟨ge,rfl,x',j,g,i,gz,hx',hy',hr,X,glen⟩
  cases hx' with
  |nil=>simp at gz
  | @cons L' U' H k h1 l=>
    cases hy' with
    |nil=>simp at gz
    | @cons M V J' m h2 n=>
      simp only[qW,gV,Li]at gz;obtain⟨⟨rfl,rfl⟩,rfl⟩:=gz;rw[az,az,mU]at X;refine wb9 (I.eqb c3 h1 h2 (λK=>?_) λK=>?_)
      .refine wu9 ⟨W,W,H,J',k,m,W,l,n,λq N=>hr q (jU _ N),?_,by simpa using glen⟩
       simp_all
      .rw[cv λe=>K (ci _ _ (hr _ jB) e)]at X;rw[<-X]at h;exact wb9 (ip (wb9 (lt _ L' M _ _ _ (hr _ jB) h1 h2 (wb9 (wu9 (wu9 (wu9 h)))))))
 .rintro⟨r1,r2⟩ o ⟨rfl,rfl,x',j,g,i,gz,hx',hy',hr,X,glen⟩;apply wu9;show G (.done (.ret (.bool (decide _)))) o;rw[<-X,]at h;rw[<-glen]
  clear c3 e0 ci z left_1 D lt s e1 t B C F hr X glen; cases hx' with
  |nil=>
    clear gz; cases hy' with
    |nil=>exact h
    |cons _ _=>exact h
  |cons _ _=>
    cases hy' with
    |nil=>exact h
    |cons _ _=>simp at gz
def A9{I:Ik P w}{α:Type}[ed α]{f:α->α->cc}{c:I.κ->α}{R:I.κ->I.κ->Prop}{x y:O I.κ}{p b:aD}{Q:ai->aj->Prop}(B:A.units+(I.d+1)<=eC)(g:t5 I z0.heap x p)(O':t5 I z0.heap y b)
  (S:∀q∈x.zip y,R q.1 q.2)(C:∀a b,R a b->c a=c b->a=b)
  (lt:∀(c3:bJ)(E:ai->aj->Prop)(a b:I.κ)(u v:ai)(Q:ai->aj->Prop),c3.units=A.units+1->R a b->I.is z0.heap a u->I.is z0.heap b v->Q (.bool (f (c a) (c b))) z0->aw (aq P w) c3 (dk .Lt u v) Q E z0)
  (h:Q (.bool (tD f (x.map c) (y.map c))) z0):aw (aq P w) A (dk .Lt (.ref p) (.ref b)) Q E z0:=by
 show aw _ _ (richCompare .Lt _ _) ..
 exact El g.typeIs O'.typeIs BM
  (bY BM g.typeIs PySem.F.entry_tuple_lt (N1 (by exact jj B) g O' S C (λE a b u v Q=>lt _ E a b u v Q W) ⟨_,W,(λe=>nomatch e),h⟩) (PySem.F.args_tuple_lt_2 _ _)) (aA (be _ _) B)
def vX(h:(dE P w).is k v=U)(hs:sK k=U):∃t,v=.int (iK k) t:=by
 cases k with
 |inl i=>
   rcases dm (k:=.inl i) h with⟨a,t,e,rfl⟩|⟨x,t,e,_⟩
   .clear h; cases e;exact⟨t,W⟩
   .cases e
 |inr x=>cases hs
def N0(hs:sK a=sK b)(y:(dE P w).is a u=U)(B:(dE P w).is b v=U)(h:Q (.bool (N5 (cK a) (cK b))) z0):aw (aq P w) A (dk .Lt u v) Q E z0:=by
 cases a with
 |inl i=>
   cases b with
   |inr _=>cases hs
   |inl j=>
     obtain⟨d,rfl⟩:=vX y W;obtain⟨f,rfl⟩:=vX B W;apply pH;rwa[show cK _=[i]from rfl,show cK _=[j]from rfl,Ta]at h
 |inr a=>
   cases b with
   |inl _=>cases hs
   |inr c=>
     rcases dm (k:=.inr a) y with⟨g,t,e,_⟩|⟨o,d,m,rfl⟩
     .cases e
     .rcases dm (k:=.inr c) B with⟨g,t,e,_⟩|⟨l,f,n,rfl⟩
      .cases e
      .cases m;cases n;apply PyProof.Rows.lt_str;rwa[show cK _=a.cps.toList.map fN from rfl,show cK _=c.cps.toList.map fN from rfl,(Ba _ _)]at h
def N3{x y:N2}{u v:ai}{Q:ai->aj->Prop}(O':A.units+1<=eC)(ex:(i2 P w).is z0.heap x u)(B:(i2 P w).is z0.heap y v)(hs:s2 x=s2 y)(h3:s2 x<3)(h:Q (.bool (N5 (c2 x) (c2 y))) z0) :
  aw (aq P w) A (dk .Lt u v) Q E z0:=by
 cases x with
 |inl a=>
   cases y with
   |inl b=>exact N0 (by cases a<;>cases b<;>first|rfl|cases hs) ex B h
   |inr m=>cases a<;>(simp only[s2]at hs;split at hs<;>cases hs)
 |inr m=>
   cases y with
   |inl b=>cases b<;>(simp only[s2]at hs;split at hs<;>cases hs)
   |inr d=>
     obtain⟨p,rfl,q⟩:=ex;obtain⟨b,rfl,f⟩:=B;simp only[s2]at hs h3;by_cases c1:m.all sK=U
     .by_cases c2:d.all sK=U
      .exact A9 (R:=λa b=>sK a=U/\sK b=U) O' q f (λq a=>
        ⟨bc.mp c1 _ (jv a).1,bc.mp c2 _ (jv a).2⟩) (λa b c e=>by
         cases a with
         |inl i=>
          cases b with
          |inl j=>exact c7 _ e
          |inr j=>exact nomatch c.2
         |inr i=>exact nomatch c.1) (λk l a b u v Q _ c n o g=>by obtain⟨e,rfl⟩:=vX n c.1;obtain⟨d,rfl⟩:=vX o c.2;exact pH g) h
      simp_all
     simp_all
def Bb:ltC [a] [b]=N5 a b:=by
 rw[ltC,mU];by_cases e:a=b
 .rw[cb e,e,S9.ir];rfl
 .rw[cv e]
theorem Ip{α g:Type}{f:α->g}:∀{x y:O α},x.map f=y.map f->∀q∈x.zip y,f q.1=f q.2
 |[],_,_,_,h=>by simp at h
 |_::_,[],_,_,h=>by simp at h
 |a::x,b::y,h,q,c=>by
   obtain⟨d,e⟩:=eO h
   rcases ak.mp c with rfl|c
   .exact d
   .exact Ip e q c
def S8(O':A.units+2<=eC)(C:nIs P w z0.heap x u)(B:nIs P w z0.heap y v)(hs:sN x=sN y)(I:C1 (sN x)=U)(h:Q (.bool (ltC (cN x) (cN y))) z0) :
  aw (aq P w) A (dk .Lt u v) Q E z0:=by
 rcases wO hs I with⟨a,b,rfl,rfl,q⟩|⟨a,b,rfl,rfl,f,g⟩|⟨a,b,rfl,rfl,f,g,l,m⟩
 .simp only[cN]at h;rw[Bb]at h;exact N0 q C B h
 .simp only[cN]at h;rw[cb f,cb g,Bb]at h;refine ac λ_ z=>?_;obtain⟨p,rfl,r⟩:=C;obtain⟨b,rfl,k⟩:=B;apply z;refine A9 (R:=λa b=>sI a=U/\sI b=U) O' r k (λq c=>
   ⟨bc.mp f _ (jv c).1,bc.mp g _ (jv c).2⟩) (λa b c e=>?_) (λn o a b u v Q _ c t F d=>?_) h
  .rcases a with(i|_)|_<;>rcases b with(j|_)|_<;>first|exact c7 _ (c7 _ e)|simp[sI,sK]at c
  .rcases a with a|_<;>rcases b with b|_<;>first|cases c.1;done|cases c.2;done|obtain⟨i,rfl⟩:=vX t c.1;obtain⟨e,rfl⟩:=vX F c.2;exact pH d
 .simp only[cN]at h;rw[cv f,cv g]at h;obtain⟨p,rfl,r⟩:=C;obtain⟨b,rfl,k⟩:=B;refine A9 (R:=λa b=>s2 a=s2 b/\s2 a<3) O' r k (λq d=>⟨Ip l q d,m _ (eh (jv d).1)⟩) (λa b c e=>PL c.1 c.2 e) (λn o a b u v Q s c t F d=>?_) h;exact N3 (by rw[s];omega) t F c.1 c.2 d
end
def gn:PySem.Slot "set_iterator" "__next__" "set_iterator.__next__":=.of (owner:="set_iterator") (n:="__next__") (by kernel_rfl) (by decide +kernel) (by decide +kernel) (by decide +kernel) (.inl (by decide +kernel)) (by kernel_rfl)
theorem rY{α:Type}:∀{xs:O α}{i:T}(h:i<Z xs),(xs[i]::xs.eraseIdx i).Perm xs
 |x::r,0,_=>by rfl
 |x::r,i+1,h=>by
   have:=rY (by simpa using h);exact(List.Perm.swap _ _ _).trans (this.cons x)
theorem HK{α:Type}(nx:T->T):∀(fuel k:T)(left:O α)(out:c4 α),Z left<=fuel->(yA nx fuel k left out).toList.Perm (out.toList++left)
 |0,k,left,out,h=>by
   obtain rfl:left=[]:=kG.mp (aI h (aU _));simp only[yA,aW];exact .refl _
 |fuel+1,k,left,out,h=>by
   simp only[yA]
   cases q:left[nx k % Z left]? with
   |none=>
     have:left=[]:=by
      cases left with
      |nil=>rfl
      |cons x r=>
        rw[ag (kF _ (by simp))]at q;cases q
     subst this;simp
   |some x=>
     obtain⟨a,e⟩:=aM.mp q;apply (HK nx _ _ (left.eraseIdx _) _ (by rw[List.length_eraseIdx_of_lt a];exact Nat.sub_le_of_le_add h)).trans;rw[Ln,aT];apply kN _;rw[<-e];exact rY a
def uu{α:Type}(nx:T->T)(xs:c4 α):(gc nx xs).toList.Perm xs.toList:=by
 simpa [gc]using (HK nx _ 0 _ #[] (by simp))
section
def K2(B:n≠0)(k:∀i d,i<n->Q i { s with drawn:=d }):aw (aq prog w) A (choose src n) Q E s:=λa p _=>by
 exact⟨B,k _ _ (kF _ (cC B))⟩
def Ja{α:Type}:∀(n:T)(xs:O α)(s:aj){Q:O α->aj->Prop},Z xs<=n->(∀g d,g.Perm xs->Q g { s with drawn:=d })->aw (aq prog w) A (drawOrder n xs) Q E s
 |0,xs,s,Q,h,k=>by
   obtain rfl:xs=[]:=kG.mp (aI h (aU _));exact wu9 (k [] _ (.refl _))
 |n+1,[],s,Q,h,k=>wu9 (k [] _ (.refl _))
 |n+1,x::r,s,Q,h,k=>by
   refine wb9 (K2 (by simp) λi d a=>?_);rw[ag a];exact wb9 (Ja n _ _ (by grind) λg d b=>wu9 (k _ d ((b.cons _).trans (rY a))))
end
inductive Mode where
 |tx|dr (T':aD) (ps:O T)|pl
noncomputable def slotAt(t:bF):T->T
 |0=>0
 |i+1=>t.place.getD i 0+1
def Mode.first(t:bF)(i:T):Mode->ai
 |.tx=>rawInt 0
 |.dr T' _=>.ref T'
 |.pl=>rawInt (slotAt t i)
def Mode.Ok(w:cW)(es:c4 (cx×ai))(t:bF)(h:bP)(I:aD):Mode->Prop
 |.tx=>w.params.followText "set-order"=U
 |.dr T' a=>T'≠I/\a.Perm (aR es.size)/\h.get? T'=Y { cls:=.type "tuple",data:=.seq (a.map λ(p:T)=>rawInt p).toArray }
 |.pl=>w.params.followText "set-order"=J/\(!t.plain && decide (es.size > 1))=J
noncomputable def Mode.ord(w:cW)(S:aD)(es:c4 (cx×ai))(g:T):Mode->O ai
 |.tx=>(gc (w.params.setOrder S g) es).toList.map (·.2)
 |.dr _ a=>a.map λp=>(es[p]?.map (·.2)).getD .none
 |.pl=>es.toList.map (·.2)
def Mode.xn:∀{m:Mode},m.Ok w es t h I->(m.ord w S es g).Perm (es.toList.map (·.2))
 |.tx,_=>(uu _ _).map _
 |.dr T' c,h=>by
   refine(h.2.1.map _).trans ?_;rw[show(aR es.size).map (λp=>(es[p]?.map (·.2)).getD dG)=es.toList.map (·.2)from ?_];apply jX (by simp);intro n a b;simp at a b;simp[a]
 |.pl,_=>.refl _
structure Eh(w:cW)(h:bP)(I S:aD)(es:c4 (cx×ai))(ep:T)(t:bF)(m:Mode)(i:T):Prop where
 it:h.get? I=Y { cls:=.type "set_iterator",data:=.fields #[m.first t i,rawInt i,.ref S,rawInt es.size,rawInt ep] }
 st:lW (qm w) h S es ep t
 md:m.Ok w es t h I
 ne:S≠I
section
variable{w:cW}{s:aj}{m:Mode}
def Mode.Ok.keep{g:bP}(y:m.Ok w es t h I)(k:∀b o,b≠I->h.get? b=Y o->g.get? b=Y o):m.Ok w es t g I:=by
 cases m with
 |dr T' a=>exact⟨y.1,y.2.1,k _ _ y.1 y.2.2⟩
 |_=>exact y
def qK(k:Q (w.params.followText "set-order") s):aw (aq prog w) A setsByText Q E s:=by
 exact wb9 (Aj (wu9 k))
def xf(y:lW (qm w) s.heap S es g t):t.place.size=es.size:=by
 have:=y.fits;simp only[nE,ah,ef]at this;exact this.1
def Ig(y:lW (qm w) s.heap S es C t)(h:w.params.followText "set-order"=J)(B:(!t.plain && decide (es.size > 1))=J)(hi:i<=es.size)
  (k:Q (match es[i]? with|some x=>Y (x.2,slotAt t (i+1))|none=>L) s):aw (aq prog w) A (iI S (slotAt t i) g e) Q E s:=by
 refine wb9 (dX y.obj W y.fits ?_);refine wb9 (qK ?_);rw[h];show aw _ A (if(!t.plain && decide _)=U then _ else _) Q E s;rw[B];show aw _ A ((if(!t.led && !es.isEmpty)=U then _ else pure ()) >>= _) Q E s;rw[y.ok.l,qm,h];refine wb9 (wu9 (wu9 ?_))
 have f:aP t.place (slotAt t i)=i:=by
  cases i with
  |zero=>exact PN y.ok.r
  |succ j=>
    have c:j<t.place.size:=by rwa[xf y]
    show aP _ (t.place.getD j 0+1)=j+1;rw[show t.place.getD j 0=t.place[j] by simp_all];obtain⟨d,n,o⟩:=PR y.ok.r (t.place[j]+1)
    rcases oQ (aP _ _) (j+1)with h|h|h
    .exact(adV (o j c (bb h))).elim
    .exact h
    .exact(Yx (y.ok.r.get  (aa h d) (ao _)) (n _ (aa h d) h)).elim
 rw[f]
 cases q:es[i]? with
 |none=>rwa[q]at k
 |some x=>
   rw[q]at k
   have b:i<es.size:=by
    rcases bq.mp q with⟨a,_⟩;exact a
   have p:t.place[i]?=Y (t.place[i]'(by rwa[xf y])):=a8 _;rw[p];simp only[slotAt]at k
   simp_all
def Ie{sl:T}(y:lW (qm w) s.heap S es g t)(h:w.params.followText "set-order"=U)(k:Q (((gc (w.params.setOrder S g) es)[i]?).map λe=>(e.2,sl)) s):aw (aq prog w) A (iI S sl i g) Q E s:=by
 refine wb9 (dX y.obj W y.fits ?_);refine wb9 (qK ?_);rw[h];simp only[ew,dh,eg];exact wb9 (by refine wb9 (dX y.obj W y.fits ?_);refine wb9 (qK ?_);rw[h];exact wb9 (Aj (wu9 (wu9 k))))
def SJ(y:lW (qm w) s.heap S es g t)(B:es[p]?=Y x)(k:Q x.2 s):aw (aq prog w) A (setNextDrawn S p g) Q E s:=by
 refine wb9 (dX y.obj W y.fits ?_);simp only[ew,dh,eg];rw[B];exact wu9 k
def Oi{c:ai}(y:Eh w s.heap I S es B t m i)(k:∀g,Eh w g I S es B t m (i+1)->cM I s.heap g->Q (.done (.ret r)) { s with heap:=g })(C:a=m.first t (i+1))(F:b=rawInt ((i:cx)+1)) :
  aw (aq prog w) A (do setField (.ref I) 0 a;setField (.ref I) 1 b;ret r) Q E s:=by
 subst C;subst F;refine wb9 (bW y.it (by simp) λl d s1=>wb9 (bW d (by simp) λh f s2=>wu9 ?_));have j:∀b o,b≠I->s.heap.get? b=Y o->h.get? b=Y o:=λb o n e=>s2.extBut _ _ n (s1.extBut _ _ n e);refine k h ⟨?_,y.st.keep λo e=>j _ _ y.ne e,y.md.keep j,y.ne⟩ (s1.trans s2);rw[f];rfl
end
section
variable{A:bJ}{s:aj}
def Hq(y:Eh w s.heap I S es g t m i)
  (k:aw (aq prog w) A (if let .int slot _:=m.first t i then do
    match <-iI S slot.toNat (i:cx).toNat (g:cx).toNat with
    |some (x,next)=>do setField (.ref I) 0 (rawInt next);setField (.ref I) 1 (rawInt ((i:cx)+1));ret x
    |none=>do setField (.ref I) 2 .none;raiseNew (<-newExc (.type "StopIteration") [])
   else do
    let Y places <-seqItems? (m.first t i)|unsupported "internal:set_iterator"
    match places[(i:cx).toNat]? with
    |some (.int place _)=>do let x <-setNextDrawn S place.toNat (g:cx).toNat;setField (.ref I) 1 (rawInt ((i:cx)+1));ret x
    |some _=>unsupported "internal:set_iterator"
    |none=>do setField (.ref I) 0 (rawInt 0);setField (.ref I) 2 .none;raiseNew (<-newExc (.type "StopIteration") [])) Q E s) :
  aw (aq prog w) A (gu.«set_iterator.__next__» ⟨[.ref I],[]⟩) Q E s:=by
 show aw (aq _ w) A (fieldsOf _ >>= _) Q E s;refine wb9 (wpAny_fieldsOf y.it W ?_);refine wb9 (U6 y.st.obj W y.st.fits ?_);simp only[ew,dh,eg];exact k
def vU{α:Type}{Q:α->aj->Prop}(B:A.handled=L)(k:∀g e,(∀b o,s.heap.get? b=Y o->g.get? b=Y o)->(∃o,g.get? e=Y o/\o.cls=.type "StopIteration")->E (.ref e) { s with heap:=g }) :
  aw (aq prog w) A (do raiseNew (<-newExc (.type "StopIteration") []):B3 α) Q E s:=by
 apply wb9;refine wb9 (dI (wb9 (lH (by first|rfl|(rfl)) (dI ?_ (by size_fits)))) (by size_fits));refine wb9 (wpAny_handled ?_);rw[B];exact wb9 (wu9 (wpAny_throw (k _ _ (λb o e=>hp9 _ (hp9 _ e)) ⟨_,aC _ W,W⟩)))
def Rn{Q:ai->aj->Prop}(y:Eh w s.heap I S es C t m i)(hi:i<es.size)(k:∀B v,(m.ord w S es C)[i]?=Y v->Eh w B I S es C t m (i+1)->cM I s.heap B->Q v { s with heap:=B }) :
  aw (aq prog w) A (gu.«set_iterator.__next__» ⟨[.ref I],[]⟩) (λf F=>∃v,f=.done (.ret v)/\Q v F) E s:=by
 apply Hq y
 cases m with
 |tx=>
   refine (?_ : aw (aq _ w) A (iI S 0 i C >>= _) _ E s);refine wb9 (Ie y.st y.md ?_)
   have j:(gc (w.params.setOrder S C) es).size=es.size:=by
    simpa using ((uu _ es).length_eq)
   rw[a8 (by rwa[j])];refine Oi (c:=.none) y (λB d g=>⟨_,W,k B _ ?_ d g⟩) W rfl;simp only[Mode.ord,aS,jA]
   simp_all
 |dr T' x=>
   obtain⟨u,h,l⟩:=id y.md;refine wb9 (dB l W ?_);have H:Z x=es.size:=by rw[h.length_eq,ba]
   have a:i<Z x:=aa hi (af H.symm);have K :=aX.mp (h.mem_iff.mp (bw a));have q:((x.map λ(p:T)=>rawInt p).toArray)[(i:cx).toNat]?=Y (rawInt (x[i])):=by simp[a]
   dsimp only;rw[q];refine wb9 (SJ y.st (a8 K) ?_);refine wb9 (bW y.it (by simp) λN r s1=>wu9 ⟨_,W,k N _ ?_ ⟨?_,y.st.keep λo e=>s1.extBut _ _ y.ne e,y.md.keep λb o n e=>s1.extBut _ _ n e,y.ne⟩ s1⟩)
   .simp only[Mode.ord,aS]
    simp_all
   .rw[r];simp[Mode.first,rawInt]
 |pl=>
   refine wb9 (Ig y.st y.md.1 y.md.2 (aK hi) ?_);rw[a8 hi];refine Oi (c:=.none) y (λB d g=>⟨_,W,k B _ ?_ d g⟩) W rfl;simp[Mode.ord,hi]
def WV(B:A.handled=L)(y:Eh w s.heap I S es C t m es.size)(k:∀g e,(∀b o,b≠I->s.heap.get? b=Y o->g.get? b=Y o)->(∃o,g.get? e=Y o/\o.cls=.type "StopIteration")->E (.ref e) { s with heap:=g }) :
  aw (aq prog w) A (gu.«set_iterator.__next__» ⟨[.ref I],[]⟩) Q E s:=by
 apply Hq y
 cases m with
 |tx=>
   refine (?_ : aw (aq _ w) A (iI S 0 es.size C >>= _) _ E s);refine wb9 (Ie y.st y.md ?_)
   have c:(gc (w.params.setOrder S C) es).size=es.size:=by
    simpa using ((uu _ es).length_eq)
   rw[ja (af c)];exact wb9 (bW y.it (by simp) λi a s1=>vU B λg e d f=>k g e (λb o n q=>d _ _ (s1.extBut _ _ n q)) f)
 |dr T' j=>
   refine wb9 (dB (id y.md).2.2 W ?_);have l:Z j=es.size:=by rw[(id y.md).2.1.length_eq,ba]
   dsimp only;rw[ja (by simp[l])];exact wb9 (bW y.it (by simp) λi a s1=>wb9 (bW a (by simp) λp h s2=>vU B λg e d f=>k g e (λb o n q=>d _ _ (s2.extBut _ _ n (s1.extBut _ _ n q))) f))
 |pl=>
   refine wb9 (Ig y.st y.md.1 y.md.2 (ao _) ?_);rw[ja (ao _)];exact wb9 (bW y.it (by simp) λi a s1=>vU B λg e d f=>k g e (λb o n q=>d _ _ (s1.extBut _ _ n q)) f)
def Eh.ty(y:Eh w s.heap I S es g t m i):s.TypeIs (.ref I) "set_iterator":=⟨_,y.it,W⟩
def WR(B:A.handled=L)(y:Eh w s.heap I S es C t m es.size)(k:∀g,(∀b o,b≠I->s.heap.get? b=Y o->g.get? b=Y o)->Q L { s with heap:=g }) :
  aw (aq prog w) A (hF (.ref I)) Q E s:=by
 refine wb9 (iV (cR y.ty gn (bY gn y.ty (gg (by kernel_rfl)) (WV B y λg e a c=>?_) (by kernel_rfl))));obtain⟨o,d,f⟩:=c;exact wb9 (dU ⟨o,d,f⟩ t8 (wu9 (k _ a)))
end
def qZ:PySem.Slot "set_iterator" "__iter__" "set_iterator.__iter__":=.of (owner:="set_iterator") (n:="__iter__") (by kernel_rfl) (by decide +kernel) (by decide +kernel) (by decide +kernel) (.inl (by decide +kernel)) (by kernel_rfl)
noncomputable def Mode.fp:Mode->O aD
 |.dr T' _=>[T']
 |_=>[]
section
variable{A:bJ}{s:aj}{es:c4 (cx×ai)}{m:Mode}
def Eh.frame{g:bP}(y:Eh w h I S es B t m i)(k:∀b∈I::S::m.fp,∀o,h.get? b=Y o->g.get? b=Y o):Eh w g I S es B t m i:=by
 refine⟨k I (.head _) _ y.it,y.st.keep λo e=>k S (.tail _ (.head _)) o e,?_,y.ne⟩
 cases m with
 |dr T' a=>exact⟨y.md.1,y.md.2.1,k T' (.tail _ (.tail _ (.head _))) _ y.md.2.2⟩
 |tx=>exact y.md
 |pl=>exact y.md
def Cv(y:A.handled=L):Walks prog w A I (I::S::m.fp) [I] es.size (λi v=>(m.ord w S es B)[i]?=Y v) (λi h=>Eh w h I S es B t m i) where
 sub:=λb n=>by rw[ax.mp n];exact .head _
 frame:=λi h p l k=>l.frame k
 item:=λi s Q E q l k=>have j:=λp v a b c=>k v p s.toks a b λb o n e=>c.extBut _ _ (λz=>n (z▸ax.mpr W)) e;wb9 (iV (cR l.ty gn (bY gn l.ty (gg (by kernel_rfl)) (Rn l q λh v d f g=>wu9 (j h v d f g)) (by kernel_rfl))))
 done:=λs Q E l k=>WR y l λp r=>k p s.toks λb o n e=>r b o (λz=>n (z▸ax.mpr W)) e
 self:=λi s Q E l k=>by
  refine PySem.wpAny_pyIter_slot l.ty qZ (bY qZ l.ty (show hS table "set_iterator.__iter__"=Y gu.«dict_keyiterator.__iter__» from PySem.entryFor_alias (id':="dict_keyiterator.__iter__") (by kernel_rfl) W (by decide +kernel) (by kernel_rfl)) ?_ (by kernel_rfl));show aw _ _ (ret (.ref I)) _ _ s;exact wu9 ⟨_,W,"set_iterator",_,l.ty,gn.lookup,k⟩
def FK(y:lW (qm w) s.heap S es P t)(B:es.size<=aF)
  (k:∀(C:bP)d I m,s.heap.objs.size<=I->(∀b∈m.fp,s.heap.objs.size<=b)->(∀b o,s.heap.get? b=Y o->C.get? b=Y o)->Eh w C I S es P t m 0->Q (.ref I) { s with heap:=C,drawn:=d }) :
  aw (aq prog w) A (EK (.ref S)) Q E s:=by
 refine PySem.wpAny_pyIter_slot ⟨_,y.obj,W⟩ BN (bY BN ⟨_,y.obj,W⟩ (show hS table "set.__iter__"=Y gu.«frozenset.__iter__» from PySem.entryFor_alias (id':="frozenset.__iter__") (by kernel_rfl) W (by decide +kernel) (by kernel_rfl)) ?_ (PySem.F.args_set_iter_1 _));refine (?_ : aw (aq _ w) _ (Qx S >>= _) _ _ s);refine wb9 (wb9 (U6 y.obj W y.fits (wu9 ?_)))
 have dr:∀{c:bJ}{g:ai->aj->Prop}{i:cc->aj->Prop},i (!w.params.followText "set-order" && (!t.plain && decide (es.size > 1))) s->aw (aq prog w) c (setDrawn S) i g s:=by
  intro c g i h;exact wb9 (dX y.obj W y.fits (wb9 (qK (wu9 h))))
 have j:∀{c:bJ} {g:ai->aj->Prop} {i:Fin->aj->Prop} {m:Mode} (s1:aj) (f:ai),f=m.first t 0->m.Ok w es t s1.heap s1.heap.objs.size->s.heap.objs.size<=s1.heap.objs.size->(∀b o,s.heap.get? b=Y o->s1.heap.get? b=Y o)->
   (∀C,C=s1.heap.push { cls:=.type "set_iterator",data:=.fields #[m.first t 0,rawInt (0),.ref S,rawInt es.size,rawInt P] }->Eh w C s1.heap.objs.size S es P t m 0->i (.done (.ret (.ref s1.heap.objs.size))) { s1 with heap:=C })->
   aw (aq prog w) c (do ret (<-newFields "set_iterator" [f,rawInt 0,.ref S,rawInt es.size,rawInt (<-setEpoch S)])) i g s1:=by
  intro c g i m s1 f u ok le x h;have a:=y.keep λo e=>x _ _ e;refine wb9 (wpAny_setEpoch_of a.obj W a.fits ?_);apply wb9;refine dI ?_ (by size_fits);subst u;exact wu9 (h _ W ⟨aC _ W,a.keep λo e=>hp9 _ e,ok.keep λb o n e=>hp9 _ e,a7 (aQ (hl9 y.obj) le)⟩)
 refine wb9 (dr ?_)
 cases p:w.params.followText _ with
 |true=>
   refine wb9 (wu9 ?_);refine j (m:=.tx) s _ W p (ao _) (λb o e=>e) λC l a=>⟨_,W,_,_,a.ty ,gn.lookup,?_⟩
   subst l;exact k _ _ _ _ (ao _) (λb h=>by cases h) (λb o e=>hp9 _ e) a
 |false=>
   cases H:(!t.plain && decide (es.size > 1))with
   |false=>
     refine wb9 (wu9 ?_);refine j (m:=.pl) s _ W ⟨p,H⟩ (ao _) (λb o e=>e) λC l a=>⟨_,W,_,_,a.ty ,gn.lookup,?_⟩
     subst l;exact k _ _ _ _ (ao _) (λb h=>by cases h) (λb o e=>hp9 _ e) a
   |true=>
     refine wb9 (Ja _ _ s (by simp) λq d r=>?_);have K:Z q=es.size:=by rw[r.length_eq,ba]
     refine wb9 (EI ?_ (by simp_all));refine j (m:=.dr _ q) _ _ W ⟨?_,r,(aC _ W)⟩ ?_ (λb o e=>hp9 _ e) ?_
     .simp
     .simp
     .intro C l a;refine⟨_,W,_,_,a.ty ,gn.lookup,?_⟩;subst l;refine k _ d _ _ ?_ ?_ (λb o e=>hp9 _ (hp9 _ e)) a
      .simp
      .intro b p;rw[ax.mp p];exact ao _
end
section
variable{A:bJ}{s:aj}
def OG(ty:s.TypeIs v "str")(k:Q J s):aw M A (lJ v) Q E s:=by
 refine wb9 (gG ty PySem.F.slot_str_len.lookup ?_);refine wb9 (dU ty (show ez (.type _) (.type _)=pure U by kernel_rfl) ?_);exact wb9 (jC ty (wu9 k))
def GJ{T':et}{D:Drawn->(T->ai->Prop)->Prop}{K:aD->Prop}(c3:s.TypeIs (.ref S) T')
  (t1:(gQ T' == gQ "list")=J)(t2:(gQ T' == gQ "tuple")=J)(hz:n<=aF)
  (it:∀{e0:ai->aj->Prop}{Q1:ai->aj->Prop}(h0:bP),(∀b o,s.heap.get? b=Y o->h0.get? b=Y o)->s.heap.objs.size<h0.objs.size->(∀(P:bP)d I fp R e1,Walks prog w A.in1 I fp [I] n R e1->e1 0 P->s.heap.objs.size∉fp->(∀b o,K b->s.heap.get? b=Y o->b≠I)->
   (∀b o,h0.get? b=Y o->P.get? b=Y o)->D d R->Q1 (.ref I) { s with heap:=P,drawn:=d })->aw (aq prog w) A.in1 (EK (.ref S)) Q1 e0 { s with heap:=h0 })
  (hint:∀{e0:ai->aj->Prop}{Q1:cc->aj->Prop}(P:bP)d,(∀b o,s.heap.get? b=Y o->P.get? b=Y o)->(∀b O',Q1 b { s with heap:=P,drawn:=d,toks:=O' })->aw (aq prog w) A.in1 (lJ (.ref S)) Q1 e0 { s with heap:=P,drawn:=d })
  (k:∀(P:bP)d O' B R,D d R->s.heap.objs.size<P.objs.size->(∀b o,K b->s.heap.get? b=Y o->P.get? b=Y o)->PySem.ItemsOf R B n->Q B.toList { s with heap:=P,drawn:=d,toks:=O' }):aw (aq prog w) A (k9 (.ref S)) Q E s:=by
 refine wb9 (wpAny_runValue (fK PySem.F.entry_proto_collect ?_));refine wb9 (dI ?_);refine wu9 (wq (iW PySem.F.plain_list_iadd _) (fK PySem.F.entry_list_iadd ?_));obtain⟨C,t,cS⟩:=c3;have ne:=jm (hl9 t);generalize j:s.heap.objs.size=L' at *;generalize g:({ cls:=.type _,data:=.seq _ }:lO)=lo;have a:∀b o,s.heap.get? b=Y o->(s.heap.push lo).get? b=Y o:=λ_ _=>hp9 _;have gL:(s.heap.push lo).get? L'=Y { cls:=.type "list",data:=.seq (#[]) }:=by rw[<-j];exact(aC _ (by rw[<-g];rfl)).trans (by rw[<-g])
 refine (?_ : aw _ A.in1 (Builtin.List.listExtendWith _ _ _) _ _ _);refine wb9 (jC ⟨_,a _ _ t,cS⟩ ?_);have b1:uS (.ref L') (.ref S)=J:=by simp[uS,ne]
 simp only[b1,t1,t2,Bool.or_false,dh,eg];refine wb9 (it _ a (hl9 gL) λP d I fp R e1 u st N y H X=>?_);refine wb9 (bQ (hint P d (λb o e=>H _ _ (a _ _ e)) λb O'=>?_));have l:=H _ _ gL;refine PySem.wpAny_ite_split (λ_=>wb9 (ip (wb9 (wb9 (jN l W ?_))))) λ_=>?_;have v:=du (fM (·.push dG)) l W;refine jN v W ?_;have x:=du (fM (·.pop)) v W;have f:∀b o,b≠L'->P.get? b=Y o->((P.update L' (fM (·.push dG))).update L' (fM (·.pop))).get? b=Y o:=λb o n e=>(cy _ _ (dn n)).trans ((cy _ _ (dn n)).trans e)
 rotate_left
 have x:=l;have f:∀b o,b≠L'->P.get? b=Y o->P.get? b=Y o:=λ_ _ _ e=>e
 all_goals
  refine wu9 (wq (iW PySem.F.plain_extend_loop _) (codeAny_extend_loopS u.toS hz _ N _ n 0 _ _ _ W (aU _) (u.frame _ _ _ st λb hb o e=>f b o (λz=>N (z▸hb)) e) x (ItemsOf.nil _) λG B c i gS h=>?_));clear t1 t2 hz hint t cS it ne g gL b1 u st N l x; obtain⟨M,V,d',p,r⟩:=G;obtain rfl:V=s.gens:=i.gens;obtain rfl:d'=d:=i.drawn;obtain rfl:r=s.os:=i.os;refine wb9 (jn gS (wu9 (k M _ p _ R X (hl9 gS) (λb o z q=>i.heap b o (λm=>?_) (f b o (λm=>?_) (H _ _ (a _ _ q)))) h)))
  .clear k a H f h X gS i; rcases ak.mp m with m|m
   .subst j;exact absurd (hl9 q) (m▸bE _)
   .exact y b o z q (ax.mp m)
  .clear k a y H f h X gS i z; subst j;exact absurd (hl9 q) (m▸bE _)
def vf(hh:A.handled=L)(y:lW (qm w) s.heap S es ep t)(O':es.size<=aF)
  (k:∀C d B P,(∀b o,s.heap.get? b=Y o->C.get? b=Y o)->s.heap.objs.size<=C.objs.size->P.Perm (es.toList.map (·.2))->Q P { s with heap:=C,drawn:=d,toks:=B }):aw (aq prog w) A (k9 (.ref S)) Q E s:=by
 refine GJ (K:=λ_=>True) (D:=λ_ R=>∃j:O ai,j.Perm _/\R=λi v=>j[i]?=Y v) ⟨_,y.obj,W⟩ cV cV O' (λN l lt c=>FK (y.keep λo e=>l _ _ e) O' λC d I m f g l n=>c C d I _ _ _ (Cv hh) n (λz=>?_) (λb o _ e z=>(absurd (de (hl9 e) (aQ lt f)) (z▸bE _))) l ⟨_,Mode.xn n.md,W⟩)
  (λC d l c=>by refine wb9 (gG ⟨_,l _ _ y.obj,W⟩ PySem.F.slot_set_len.lookup ?_);refine wb9 (dU ⟨_,l _ _ y.obj,W⟩ sub_set_self ?_);exact wb9 (jC ⟨_,l _ _ y.obj,W⟩ (wu9 (c _ _)))) λC d B h _ ⟨j,p,e⟩ q r a=>?_
 .rcases ak.mp z with z|z
  .exact absurd (aQ lt f) (z▸bE _)
  rcases ak.mp z with z|z
  .exact absurd (hl9 y.obj) (z▸bE _)
  .exact absurd (aQ lt (g _ z)) (bE _)
 .subst e;have u:Z j=es.size:=by rw[p.length_eq,aE,bo]
  rw[<-u]at a;rw[(show h.toList=j by
   obtain⟨C,x⟩:=a;apply kX;intro i;by_cases H:i<h.size
   .have:=x i _ (a8 H)
    simp_all
   simp_all)];exact k C d B _ (λb o=>r b o trivial) (aK q) p
def DX{x:aV}(B:A.handled=L)(C:x.cps.size<=aF)
  (k:∀y F O',(∀b o,s.heap.get? b=Y o->y.get? b=Y o)->s.heap.objs.size<=y.objs.size->ItemsOf (SignAt x) O' x.cps.size->Q O'.toList { s with heap:=y,toks:=F }):aw (aq prog w) A (k9 (.str x tx)) Q E s:=by
 refine wb9 (EH (fK vJ ?_));refine wb9 (dI ?_);refine wu9 (wq (iW ze _) (fK zf ?_));generalize f:s.heap.objs.size=L';generalize a:({ cls:=.type _,data:=.seq _ }:lO)=lo;have g:(s.heap.push lo).objs.size=L'+1:=by rw[fR,f]
 refine (?_ : aw _ A.in1 (sP ..) ..);refine wb9 (jC ((λs1=>W) _) ?_);refine wb9 (wpAny_pyIter_str λo St u j=>?_);refine wb9 (bQ (OG ((λs1=>W) _) ?_));have l:L'∉[(s.heap.push lo).objs.size]:=by
  rw[g];simp
 refine wu9 (wq (iW yo _) (Qs (u _ (by simp[B])).toS C _ l _ _ 0 _ _ _ W (aU _) j (hp9 _ (by rw[<-f];exact(aC _ (by rw[<-a];rfl)).trans (by rw[<-a]))) (U9 _) λm O' c e gS d=>?_));refine wb9 (jn gS ?_);obtain⟨n,p,r,h,i⟩:=m;obtain rfl:p=s.gens:=e.gens;obtain rfl:r=s.drawn:=e.drawn;obtain rfl:i=s.os:=e.os;refine wu9 (k n h _ (λb o q=>e.heap b o (λz=>?_) (hp9 _ (hp9 _ q))) (by rw[f];exact aK (hl9 gS)) d);have t:=hl9 q
 grind
end
section
variable{prog:ck}{w:cW}{A:bJ}{s:aj}
def G3(prog:ck)(w:cW)(A:bJ)(s:aj)(v:ai)(y:O ai->Prop):Prop:=
 ∀(a:bJ)(c:ai->aj->Prop)(g:O ai->aj->Prop),a.handled=A.handled->(∀h f d e,(∀b o,s.heap.get? b=Y o->f.get? b=Y o)->s.heap.objs.size<=f.objs.size->y h->g h { s with heap:=f,drawn:=d,toks:=e })->
  aw (aq prog w) a (k9 v) g c s
def Mt{B:O aV}(O':Z B<64)(P:G3 prog w A s v (λF=>∃C,rM F C/\C.Perm B))
  (k:∀I d S l(out:O ai)C e,(∀b o,s.heap.get? b=Y o->I.get? b=Y o)->s.heap.objs.size<=l->I.get? l=Y (ft "list" out.toArray e)->rM out C->C.Perm B->sortedS C=U->Q (.ref l) { s with heap:=I,drawn:=d,toks:=S }) :
  aw (aq prog w) A (call (.builtin "sorted") [v]) Q E s:=by
 refine zh kind_sorted plain_sorted entry_sorted (args_sorted1 _) ?_;refine wb9 (wu9 ?_);refine wb9 (P _ _ _ (by rfl) λF R d S p x y=>?_);obtain⟨c,a,i2⟩:=y;have t:Z F<64:=by rwa[show Z F=(Z c) by rw[<-a.strs,aE],i2.length_eq]
 refine wb9 (Jz ?_ (by exact aK (aa t cV)));refine wb9 (bQ (bY slot_list_sort ⟨_,(aC _ W),W⟩ entry_list_sort (list_sort_treeK strKind_oneLt (aC _ W) a.keysOf (λh i r e=>keyKind_strs (by rwa[<-e])) t λg H K=>⟨_,W,?_⟩) (args_list_sort _)));refine ac λ_ f=>?_;obtain⟨C,j,m,n⟩:=sorted_out_str a H K;obtain⟨e,N⟩:=sortedHeap_at (aC _ W);refine f ?_;refine wu9 ⟨_,W,k _ d S _ ((arrOf g).map _).toList _ e (λb o q=>?_) x (by exact N) j (m.trans i2) n⟩
 .have u:=hl9 (p b o q);exact(sortedHeap_old (a7 u) (by rw[size_push'];exact lz u)).trans (hp9 _ (p b o q))
end
end L2
namespace L2
open PySem.W
section
variable{A:bJ}{s:aj}
def _root_.L2.t4.first(x:t4 I h g y):(g=[]/\y=[])\/∃k v B O',g=k::B/\y=v::O'/\I.is h k v/\t4 I h B O':=by
 cases x with
 |nil=>exact .inl ⟨W,W⟩
 |cons a b=>exact .inr ⟨_,_,_,_,W,W,a,b⟩
def KA{fin:cc}(O':A.units+2<=eC)(R:t4 (i3 P w) s.heap y xs):∀{B:O (i3 P w).κ} {C:O ai} (i:T),t4 (i3 P w) s.heap B C->y.map sN=B.map sN->(∀k∈y,C1 (sN k)=U)->
  (b=U->i=0->∀k,y.head? = Y k->sN k=[1])->Q (if y=B then fin else yO (y.map cN) (B.map cN)) s->KatLex P w A b fin Q (xs.zip C) i s:=by
 induction R with
 |nil=>
   intro B C i d l _ _ h
   cases d with
   |nil=>exact kat_nil (by simpa using h)
   |cons _ _=>cases l
 | @cons f u y xs E R n=>
   intro B C i d l x I h
   cases d with
   |nil=>cases l
   | @cons m v B C F d=>
     simp only[az,gV]at l;refine kat_cons ((i3 P w).eqb O' E F (λe=>?_) λe=>?_)
     .subst e;refine kat_yes (n _ d l.2 (λk K=>x k (jU _ K)) (λ_ z=>((a9 (af z) (aU _))).elim) ?_);by_cases t:y=B
      .simp_all
      .rw[cv t];rw[cv λz=>t (eO z).2,az,az]at h;rwa[show yO _ _=yO (y.map cN) _ by rw[yO,mU,cb W]]at h
     .rw[cv λz=>e (eO z).1,az,az]at h;rw[show yO _ _=ltC _ _ by rw[yO,mU,cv (λz=>e (PD l.1 (x _ jB) z))]]at h;apply kat_no;by_cases j:(b && i == 0)=U
      .rw[j];simp only[ah,ef]at j;have g:=I j.1 j.2 f W
       clear O' n I d e j; rcases wO l.1 (x _ jB)with⟨a,c,rfl,rfl,q⟩|⟨a,c,rfl,rfl,q1,q2⟩|⟨a,c,rfl,rfl,q1,q2,q3,q4⟩
       .clear x l; cases a with
        |inl _=>simp[sN]at g
        |inr a=>
          cases c with
          |inl _=>cases q
          |inr c=>
            rcases dm (k:=.inr a) E with⟨_,_,H,_⟩|⟨N,o,H,rfl⟩
            .cases H
            .clear E; rcases dm (k:=.inr c) F with⟨_,_,t,_⟩|⟨p,r,t,rfl⟩
             .cases t
             .clear F; cases H;cases t;apply oneLt_str;simp only[cN]at h;rwa[Bb,show cK _=a.cps.toList.map fN from rfl,show cK _=c.cps.toList.map fN from rfl,(Ba a.cps.toList c.cps.toList)]at h
       .simp only[sN]at g;simp_all
       .simp only[sN]at g;simp_all
      .rw[Bool.eq_false_iff.mpr j];refine kat_one _ _ (S8 O' E F l.1 (x _ jB) ?_);exact h
def adW(B:A.units+2<=eC)(C:sG P w s.heap x p)(O':sG P w s.heap y c)(hs:x.map sN=y.map sN)(F:∀k∈x,C1 (sN k)=U)(I:b=U->∀k,x.head? = Y k->sN k=[1])
  (h:Q (yO (x.map cN) (y.map cN)) s):aw (aq P w) A (keyLt' (lh b) (.ref p) (.ref c)) Q E s:=by
 refine ac λ_ n=>?_;obtain⟨l,o,t,f,_,g,a⟩:=C;obtain⟨m,q,u,i,_,j,d⟩:=O';apply n;refine kat_lt f g i j (KA B a 0 d hs F (λz _=>I z) ?_)
 have r:o.size=q.size:=by
  have e:=c7 iD hs;simp only[aE]at e;rw[<-bo,<-bo,a.length,d.length,e]
 by_cases e:x=y
 .rw[cb e,r];rw[e,pk.ir]at h;simpa using h
 simp_all
noncomputable def VI(O':O (O T)):a5 cc:=match O'.head? with
 |some [1]=>Y U
 |some [2]=>Y J
 |some (3::_)=>Y J
 |_=>L
def OT(q:nIs P w s.heap k v)(g:VI (sN k::y)=Y b):∃T':ai,(T'=if b=U then .type "str" else .type "tuple")/\∀M,Looks M s.heap (hW v) T':=by
 cases k with
 |inl k=>
   cases k with
   |inl i=>simp[VI,sN]at g
   |inr a=>
     have e:b=U:=by simpa [VI,sN]using g.symm
     subst e
     rcases dm (k:=.inr a) q with⟨_,_,z,_⟩|⟨m,f,_,rfl⟩
     .cases z
     .exact⟨_,W,λM=>Looks.of_pure W⟩
 |inr h=>
   have e:b=J:=by
    simp only[VI,sN,QI]at g;by_cases c:h.all sI=U
    .simp_all
    simp_all
   subst e;obtain⟨p,rfl,o,j,n,l,d,_⟩:=q;exact⟨_,W,λM=>d▸(Looks.ld l).andThen .now⟩
def YJ{y:O T}{I:T->O NK}{O':T->aD}{c3:O (O T)}{b:cc}{Q:qQ->aj->Prop}(R:∀j∈y,sG P w s.heap (I j) (O' j))(S:∀j∈y,(I j).map sN=c3)(F:VI c3=Y b)(B:0<Z y)(h:Q (lh b) s) :
  aw (aq P w) A (keyKind' (y.map λj=>bZ (O' j)).toArray) Q E s:=by
 have C:∃C,KatTups s.heap (y.map λj=>bZ (O' j)) C/\Z C=Z y/\∀v∈C,Looks (aq P w) s.heap (hW v) (if b=U then .type "str" else .type "tuple"):=by
  clear h B
  induction y with
  |nil=>exact⟨[],KatTups.nil,W,λv a=>by cases a⟩
  |cons j y k=>
    obtain⟨C,d,e,f⟩:=k (λj g=>R j (jU _ g)) (λj g=>S j (jU _ g));obtain⟨o,H,n,K,N,X,l⟩:=R j jB;have c:=S j jB
    rcases l.first with⟨z,_⟩|⟨u,i,m,p,z,hl,q,x⟩
    .rw[z]at c;rw[<-c]at F;cases F
    .rw[z]at c;rw[<-c]at F;obtain⟨T',r,t⟩:=OT q F;refine⟨_,KatTups.cons K N X (by rw[<-jA,hl];rfl) d,by simp[e],λv a=>?_⟩
     rcases ak.mp a with rfl|a
     .rw[<-r];exact t _
     .exact f v a
 obtain⟨C,d,e,f⟩:=C;apply kat_kind d (aa B (af e.symm)) f (by cases b<;>decide)
 cases b with
 |true=>exact h
 |false=>exact h
end
section
variable{s:aj}
def JZ{g:O ai}(h:Z g<2):((g.toArray.zip g.toArray).map λx=>x.2)=((aR g.length).toArray.toList.map λi=>g.getD i dG).toArray:=by
 rcases g with _|⟨a,_|_⟩
 .simp
 .simp[List.range_succ]
 .exact absurd h (Nat.not_lt.mpr (jy 2 _))
def Mx(h:n<2):Pm (aR n).toArray n:=by
 have a:∀k,k<n->pg (aR n).toArray k=k:=λk c=>(by simp_all);exact⟨by simp,λk c=>by rwa[a k c],λi j d b e=>(aI (nZ d h) (nZ b h)),by simp⟩
def Gg{y:O ai}(I:s.heap.get? a=Y (ft "list" y.toArray n))(B:Z y<=300)(o:UZ lt y.length)
  (O':2<=Z y->∀(F:bP)(c3:ai->aj->Prop)(Q:qQ->aj->Prop),(∀b o,b≠a->s.heap.get? b=Y o->F.get? b=Y o)->Q (lh b) { s with heap:=F }->aw (aq P w) A (keyKind' y.toArray) Q c3 { s with heap:=F })
  (e0:∀(F:bP)(c3:ai->aj->Prop)(Q:cc->aj->Prop)i j,i<Z y->j<Z y->(∀b o,b≠a->s.heap.get? b=Y o->F.get? b=Y o)->Q (lt i j) { s with heap:=F }->
   aw (aq P w) A (keyLt' (lh b) (y.getD i .none) (y.getD j .none)) Q c3 { s with heap:=F })
  (h:∀p:c4 T,Pm p y.length->Up lt p y.length->R (.done (.ret .none)) { s with heap:=j2 s.heap a y (p.toList.map λi=>y.getD i .none).toArray }) :
  aw (aq P w) A (gu.«list.sort» ⟨[.ref a],[]⟩) R E s:=by
 rw[list_sort_plain];refine wb9 (listItems_at I W (wb9 (JJ I W ?_ (by exact aa B cV) (aU _))));obtain⟨t,k⟩:∃t,(s.heap.update a _).get? a=Y (ft _ _ t):=⟨_,get?_update_seq I _⟩
 refine wb9 (QA k W (wb9 (EI ?_ (by exact aa B (by decide)))));refine wb9 (PySem.wpAny_newList ?_ (aU _));apply bQ;have g:(((s.heap.update a (fM _)).push (ft "tuple" y.toArray 0)).push (ft "list" #[] 0)).get? a=Y (ft _ _ t):=hp9 _ (hp9 _ k)
 have u:∀b o,b≠a->s.heap.get? b=Y o->(((s.heap.update a (fM λ_=>(#[]))).push (ft "tuple" y.toArray 0)).push (ft "list" #[] 0)).get? b=Y o:=λb o N e=>
  hp9 _ (hp9 _ ((Heap.get?_update_ne _ _ _ _ N).trans e))
 generalize l:((s.heap.update a (fM _)).push (ft _ _ 0)).push (ft _ _ 0)=h6 at g u ⊢;by_cases c:y.toArray.size<2
 .rw[cb c,cb c];refine wb9 (wu9 ?_);refine wb9 (wu9 ?_);have x:Z y<2:=by exact c
  have r:=h (aR _).toArray (Mx x) (λi j S X=>(Yw X x S).elim);refine wb9 (QA g W (wb9 (JJ g W ?_ (aU _) (by show((y.toArray.zip _).map _).size<=_;simp;exact aa B cV))));simp only[ew,dh,eg];unfold j2 at r;rw[l]at r;rw[<-(JZ x)]at r;exact wu9 r
 rw[cv c,cv c];refine wb9 (O' (by simp_all) h6 _ _ u ?_);refine wb9 (bC (Mu (E:=E) o λi j hi m C q=>e0 h6 _ C i j hi m u q) ?_ λ_ _ e=>e);rintro⟨⟨⟩,v⟩ D ⟨rfl,p,K,z,f,hf⟩;have d:=kat_snds W f;have H:Z (p.toList.map λi=>y.getD i dG)=Z y:=by rw[aE,bo,K.sz]
 refine wb9 (QA g W (wb9 (JJ g W ?_ (aU _) (by rw[d];show(p.toList.map _).length<=_;rw[H];exact aa B cV))));rw[hf];simp only[ew,dh,eg];have:=h p K z;unfold j2 at this;rw[l]at this;rw[d];exact wu9 this
end
section
variable{P:ck}{w:cW}{A:bJ}{E:ai->aj->Prop}{s:aj}{kf:T->O NK}{av:T->aD}{n:T}
def FR{g:O T}:∀{y:O ai},kB (λv j=>v=bZ (av j)) y g->y=g.map λj=>bZ (av j):=by
 induction g with
 |nil=>intro y h;cases h;rfl
 | cons j g c=>intro y h;cases h with
   |cons a b=>rw[a,c b];rfl
def FQ{g:O T}:∀{es:O (cx×ai)},kB (λ(e:cx×ai)j=>e.2=bZ (av j)) es g->kB (λv j=>v=bZ (av j)) (es.map (·.2)) g:=by
 induction g with
 |nil=>intro es h;cases h;exact .nil
 | cons j g c=>intro es h;cases h with
   |cons a b=>exact .cons a (c b)
structure Sel(kf:T->O NK)(n:T)(js:O T):Prop where
 nd:(js.map kf).Nodup
 lt:∀j∈js,j<n
 all:∀j,j<n->kf j∈js.map kf
def Sel.perm{B:O T}(h:Sel kf n g)(p:B.Perm g):Sel kf n B:=
 ⟨(p.map kf).nodup_iff.mpr h.nd,λj a=>h.lt j (p.mem_iff.mp a),λj a=>(p.map kf).mem_iff.mpr (h.all j a)⟩
def Sel.len(h:Sel kf n g):Z g<=n:=by
 have:=uA ((fT.mp h.nd).imp λx e=>x (c7 kf e)) gJ λj b=>aX.mpr (h.lt j b)
 simp_all
def K1(I:A.handled=L)(y:G1 P w (qm w) s.heap S kf av n)(B:n<=300) :
  G3 P w A s (.ref S) (λF=>∃C,F=C.map (λj=>bZ (av j))/\Sel kf n C):=by
 refine ac λ_ r=>?_;obtain⟨N,Q,t,C,c,o,b,f,g,h⟩:=y;apply r;have sl:Sel kf n C:=⟨f,g,h⟩
 intro p q R e k;refine vf (e.trans I) c (by rw[eG];exact rP (af (mS b)) sl.len B) λu d i F x H K=>k F u d i x H ?_;obtain⟨a,l,m⟩:=nK K (FQ b);exact⟨a,FR l,sl.perm m⟩
abbrev codeN(k:O NK):O (O (O cx)):=k.map cN
theorem code_inj:∀{x y:O NK},x.map sN=y.map sN->(∀k∈x,C1 (sN k)=U)->codeN x=codeN y->x=y
 |[],[],_,_,_=>rfl
 |[],_::_,h,_,_=>by cases h
 |_::_,[],h,_,_=>by cases h
 |a::x,b::y,h,c,e=>by
   simp only[az,gV]at h e;rw[PD h.1 (c _ jB) e.1,code_inj h.2 (λk d=>c k (jU _ d)) e.2]
def sorted_N{v:ai}{O':O (O T)}{b:cc}{Q:ai->aj->Prop}(c3:A.in1.in1.units+2<=eC)(hk:∀j,j<n->sG P w s.heap (kf j) (av j))(hsh:∀j,j<n->(kf j).map sN=O')(h3:∀x∈O',C1 x=U)(h1:VI O'=Y b)
  (hc:G3 P w A s v (λvs=>∃js,vs=js.map (λj=>bZ (av j))/\Sel kf n js/\Z js<=300))
  (k:∀h' d e0 l js e,(∀b o,s.heap.get? b=Y o->h'.get? b=Y o)->s.heap.objs.size<=l->h'.get? l=Y (ft "list" (js.map λj=>bZ (av j)).toArray e)->Sel kf n js->
   (js.map λj=>codeN (kf j)).Pairwise (λa b=>yO a b=U)->Q (.ref l) { s with heap:=h',drawn:=d,toks:=e0 }) :
  aw (aq P w) A (call (.builtin "sorted") [v]) Q E s:=by
 have t:∀j,j<n->∀k∈kf j,C1 _=U:=λj c k hk=>h3 _ (by rw[<-hsh j c];exact eh hk)
 have F:b=U->∀j,j<n->∀k,(kf j).head? = Y k->sN k=[1]:=λhb j c k hk=>by
  have:=hsh j c
  cases q:kf j with
  |nil=>rw[q]at hk;cases hk
  |cons x r=>
    rw[q]at this hk;cases hk;rw[<-this,hb]at h1;simp only[VI,QI]at h1;split at h1
    .rename_i z;exact bh z
    .cases h1
    .cases h1
    .cases h1
 apply PySem.Calls.call_function_entry kind_sorted plain_sorted entry_sorted (args_sorted1 _);refine wb9 (wu9 ?_);refine wb9 (hc _ _ _ (by rfl) λvs g d e0 ex sz M=>?_);obtain⟨js,u,sl,B⟩:=M;have hl:Z vs=Z js:=by simp_all
 refine wb9 (PySem.wpAny_newList ?_ (by exact aa (af hl) (aa B cV)));have G:∀i,i<Z vs->vs.getD i dG=.ref (av (js.getD i 0))/\js.getD i 0<n:=λi X=>by
  have f:i<Z js:=aa X (af hl);constructor
  .rw[u];simp[f]
  .rw[show js.getD i 0=js[i] by simp[f]];exact sl.lt _ (bw f)
 have h:∀h',(∀b o,b≠g.objs.size->(g.push (ft "list" vs.toArray 0)).get? b=Y o->h'.get? b=Y o)->∀j,j<n->sG P w h' _ _:=λh' q j c=>
  (hk j c).mono λb o e=>by
   have V:=ex b o e;exact q b o (a7 (hl9 V)) (hp9 _ V)
 have C :=λi j X c e=>by
  have a:=G i X
  have f:i<Z js:=aa X (af hl);have m:j<Z js:=aa c (af hl);have V:(js.map kf)[i]?=Y (kf (js.getD i 0)):=by simp[f]
  have e2:(js.map kf)[j]?=Y (kf (js.getD j 0)):=by simp[m]
  rw[(code_inj ((hsh _ a.2).trans (hsh _ (G j c).2).symm) (t _ a.2) e)]at V;exact(jE (by simp_all) sl.nd).mp (V.trans e2.symm)
 have N:UZ (λi j=>yO (codeN (kf (js.getD i 0))) (codeN (kf _))) _:=
  ⟨λi j k _ _ _ x y=>pk.tr _ _ _ x y,λi j X c ne x=>pk.co _ _ (λz=>ne (C i j X c z)) x,λi j _ _ x=>pk.as x⟩
 refine wb9 (bQ (bY slot_list_sort ⟨_,(aC _ W),W⟩ entry_list_sort (Gg (b:=b) (aC _ W) (aa (af hl) B) N (λh2 h' R Q' q H=>?_) (λh' R Q' i j X c q H=>?_) λp I S=>⟨_,W,?_⟩) (args_list_sort _)))
 .rw[u];exact YJ (λj c=>h h' q j (sl.lt j c)) (λj c=>hsh j (sl.lt j c)) h1 (aK (aa h2 (af hl))) H
 .obtain⟨T',D⟩:=G i X
  obtain⟨b1,b2⟩:=G j c
  rw[T',b1];exact adW c3 (h h' q _ D) (h h' q _ b2) ((hsh _ D).trans (hsh _ b2).symm) (t _ D) (λz=>F z _ D) H
 .obtain⟨e,he⟩:=sortedHeap_at (out:=(p.toList.map _).toArray) (aC _ W)
  have L':(p.toList.map λi=>vs.getD i dG)=(p.toList.map λi=>js.getD i 0).map λj=>bZ (av j):=by
   rw[cZ];exact dS λi X=>(G i ((aX.mp (I.pm.mem_iff.mp X)))).1
  rw[L']at he
  have U':(p.toList.map λi=>js.getD i 0).Perm js:=by
   apply (I.pm.map _).trans;rw[hl];apply List.Perm.of_eq;apply kX;intro i;by_cases X:i<Z js
   .simp[X]
   .simp[X]
  refine wu9 ⟨_,W,k _ d e0 _ (p.toList.map _) e (λb o q=>?_) sz ?_ (sl.perm U') ?_⟩
  .have lb:=hl9 (ex b o q);exact(sortedHeap_old (a7 lb) (by rw[size_push'];exact lz lb)).trans (hp9 _ (ex b o q))
  .rwa[L']
  .rw[cZ,fT,fD];intro i j X c J';have:=S i j J' (by rwa[bo,I.sz]at c)
   have V:∀x(K:x<Z p.toList),p.toList[x]=pg p x:=λx K=>by
    have:=Nl (by simpa using K);rw[<-jA,ag K]at this;exact bh this
   rwa[V i X,V j c]
end
end L2
namespace M
open L2
inductive Bop|add|sub|mul|mod|shr|shl|band|bor
inductive Cop|eq|ne|lt|le|gt|ge|isin|nin|isn|nisn
inductive Ty|int|bool|str|tuple|list
inductive Blt|len|any|tuple|isi (t:Ty)|int|str|sorted|sset
inductive Mth|join|upper|get|startswith
inductive Ly|app|ext|seti
mutual
noncomputable def sE:Dat->Dat->cc
 | .non,c=>match c with
   |.non=>U
   |_=>J
 | .bl a,c=>match c with
   |.bl b=>a == b
   |.int j=>(if a then 1 else 0) == j
   |_=>J
 | .int i,c=>match c with
   |.bl b=>i == (if b then 1 else 0)
   |.int j=>i == j
   |_=>J
 | .str x,c=>match c with
   |.str y=>x == y
   |_=>J
 | .tup d,c=>match c with
   |.tup e=>tO d e
   |_=>J
 | .lst d,c=>match c with
   |.lst e=>tO d e
   |_=>J
 |_,_=>J
noncomputable def tO:O Dat->O Dat->cc
 |[],[]=>U
 |x::a,y::b=>sE x y && tO a b
 |_,_=>J
end
mutual
noncomputable def jH:T->Dat->cc
 |_,.dct _ _=>J
 |_,.any=>J
 |_,.exc _ _ _=>J
 |0,.tup _=>J
 |0,.lst _=>J
 |n+1,.tup a=>fW n a
 |n+1,.lst a=>fW n a
 |_,_=>U
noncomputable def fW:T->O Dat->cc
 |_,[]=>U
 |n,x::a=>jH n x && fW n a
end
noncomputable def iZ:Dat->a5 cc
 |.non=>Y J
 |.bl b=>Y b
 |.int i=>Y (i != 0)
 |.str x=>if x.length<=aF then Y ((x.length:cx) != 0)else L
 |.tup a=>Y (!a.isEmpty)
 |.lst a=>Y (!a.isEmpty)
 |.dct c _=>Y (!c.isEmpty)
 |.any=>L
 |.exc _ _ _=>L
noncomputable instance (i j:cx):ei (Le i j):=by unfold Le;infer_instance
noncomputable instance (i j:cx):ei (acF i j):=by unfold acF;infer_instance
noncomputable instance (x:aV) (j:cx):ei (EU x j):=by unfold EU;infer_instance
abbrev g_:=a5 (Dat×cc)
noncomputable def Lx(f:cx->cx->g_):Dat->Dat->g_
 |.int i,.int j=>f i j
 |_,_=>L
def US:Dat->Dat->g_
 | .int i,a=>match a with
   |.int j=>Y (.int (i+j),J)
   |_=>L
 | .str x,a=>match a with
   |.str y=>if x.length+y.length<=aF then Y (.str (x++y),J)else L
   |_=>L
 | .lst b,a=>match a with
   |.lst c=>if b.length+c.length<=aF then Y (.lst (b++c),nv (b++c))else L
   |_=>L
 | .tup b,a=>match a with
   |.tup c=>if b.length+c.length<=aF then Y (.tup (b++c),J)else L
   |_=>L
 |_,_=>L
noncomputable def UR:Dat->Dat->g_
 | .int i,a=>match a with
   |.int j=>if Le i j then Y (.int (i * j),J)else L
   |_=>L
 | .str x,a=>match a with
   |.int j=>if EU x j then Y (.str (PySem.Txt.mul x j),J)else L
   |_=>L
 |_,_=>L
def U5(i j:cx):Prop:=0<=j/\j<=1000000/\i.natAbs<2 ^ 2000
noncomputable instance (i j:cx):ei (U5 i j):=by unfold U5;infer_instance
def hJ:Bop->Dat->Dat->g_
 |.add,a,b=>US a b
 |.sub,a,b=>Lx (λi j=>Y (.int (i - j),J)) a b
 |.mul,a,b=>UR a b
 |.mod,a,b=>Lx (λi j=>if 0<j then Y (.int (i % j),J)else L) a b
 |.shr,a,b=>Lx (λi j=>if 0<=j then Y (.int (i / 2 ^ j.toNat),J)else L) a b
 |.shl,a,b=>Lx (λi j=>if U5 i j then Y (.int (i * 2 ^ j.toNat),J)else L) a b
 |.band,a,b=>Lx (λi j=>Y (.int (LG i j),J)) a b
 |.bor,a,b=>Lx (λi j=>Y (.int (qU i j),J)) a b
noncomputable def rR:Dat->a5 Key
 |.int i=>Y (.inl i)
 |.str x=>Y (.inr x)
 |_=>L
instance aeU (k:O NK) (ks:O (O NK)):ei (k∈ks):=@List.instDecidableMemOfLawfulBEq _ instBEqOfDecidableEq inferInstance k ks
def Dl:O Dat->a5 (O Key)
 |[]=>Y []
 |d::a=>(rR d).bind λk=>(Dl a).map λr=>k::r
def n2I:Dat->a5 N2
 |.int i=>Y (.inl (.inl i))
 |.str x=>Y (.inl (.inr x))
 |.tup a=>(Dl a).map .inr
 |_=>L
def VA:O Dat->a5 (O N2)
 |[]=>Y []
 |d::a=>(n2I d).bind λk=>(VA a).map λr=>k::r
def nkI:Dat->a5 NK
 |.int i=>Y (.inl (.inl i))
 |.str x=>Y (.inl (.inr x))
 |.tup a=>(VA a).map .inr
 |_=>L
def nkL:O Dat->a5 (O NK)
 |[]=>Y []
 |d::a=>(nkI d).bind λk=>(nkL a).map λr=>k::r
def Yi:Dat->a5 (O NK)
 |.tup a=>nkL a
 |_=>L
def yM:O Dat->a5 (O (O NK))
 |[]=>Y []
 |d::a=>(Yi d).bind λk=>(yM a).map λr=>k::r
noncomputable def ig(k:Key):O Key->O Dat->a5 Dat
 |j::a,v::b=>if j=k then Y v else ig k a b
 |_,_=>L
noncomputable def xp(k:Key):O Key->cc
 |[]=>U
 |j::a=>if j=k then !(a.any λi=>decide (i=k))else xp k a
noncomputable def putD(k:Key)(d:Dat):O Key->O Dat->O Key×O Dat
 |j::a,v::b=>if j=k then(j::a,d::b)else((j::(putD k d a b).1),(v::(putD k d a b).2))
 |_,_=>([k],[d])
noncomputable def cII(f:cx->cx->cc):Dat->Dat->a5 cc
 |.int i,.int j=>Y (f i j)
 |_,_=>L
def cIn(a:Dat):Dat->a5 cc
 | .str y=>match a with
   |.str x=>Y (!(jV y x 0 y.length 1).isEmpty)
   |_=>L
 |.lst b=>if jH 20 a && fW 20 b then Y (b.any λy=>sE y a)else L
 |.tup b=>if jH 20 a && fW 20 b then Y (b.any λy=>sE y a)else L
 |.dct c d=>(rR a).map λk=>(ig k c d).isSome
 |_=>L
def aes(a:Dat):Dat->a5 cc
 | .str y=>match a with
   |.str x=>Y (!(!(jV y x 0 y.length 1).isEmpty))
   |_=>L
 |.lst b=>if jH 20 a && fW 20 b then Y (!(b.any λy=>sE y a))else L
 |_=>L
noncomputable def cIs(b:cc)(a:Dat):Dat->a5 cc
 | .non=>match a with
   |.any=>L
   |.non=>Y b
   |_=>Y (!b)
 | .bl c=>match a with
   |.bl x=>Y ((x == c) == b)
   |_=>L
 |_=>L
def jL:Cop->Dat->Dat->a5 cc
 |.eq,a,b=>if jH 20 a && jH 20 b then Y (sE a b)else L
 |.ne,a,b=>if jH 20 a && jH 20 b then Y (!sE a b)else L
 |.lt,a,b=>cII (λi j=>decide (i<j)) a b
 |.le,a,b=>cII (λi j=>decide (i<=j)) a b
 |.gt,a,b=>cII (λi j=>decide (j<i)) a b
 |.ge,a,b=>cII (λi j=>decide (j<=i)) a b
 |.isin,a,b=>cIn a b
 |.nin,a,b=>aes a b
 |.isn,a,b=>cIs U a b
 |.nisn,a,b=>cIs J a b
def xF:Dat->Dat->a5 Dat
 | .lst b,a=>match a with
   |.int i=>yV b i
   |_=>L
 | .tup b,a=>match a with
   |.int i=>yV b i
   |_=>L
 | .str z,a=>match a with
   |.int i=>if z.length<=aF then(yV z.cps.toList i).map λc=>.str ⟨#[c]⟩else L
   |_=>L
 |.dct d e,k=>(rR k).bind λk=>ig k d e
 |_,_=>L
noncomputable def Nt(r:g_):a5 (a5 cx):=r.bind λx=>match x.1 with
 |.int i=>Y (Y i)
 |_=>L
def cutD{α:Type}(xs:O α)(lo hi:a5 cx):O α:=(xs.drop (HT.j8 xs.length 0 lo)).take (HT.j8 xs.length xs.length hi - HT.j8 xs.length 0 lo)
def Fu:Dat->a5 cx->a5 cx->g_
 |.str x,lo,a=>if x.length<=aF then Y (.str (dH x lo a),J)else L
 |.lst b,lo,a=>Y (.lst (cutD b lo a),nv (cutD b lo a))
 |.tup b,lo,a=>Y (.tup (cutD b lo a),J)
 |_,_,_=>L
noncomputable def Om:Ty->Dat->cc
 |.int,.int _=>U
 |.int,.bl _=>U
 |.bool,.bl _=>U
 |.str,.str _=>U
 |.tuple,.tup _=>U
 |.list,.lst _=>U
 |_,_=>J
def abJ(t:Ty):Dat->g_
 |.any=>L
 |.exc _ _ _=>L
 |d=>Y (.bl (Om t d),J)
noncomputable def nax:Dat->cc
 |.any=>J
 |.exc _ _ _=>J
 |_=>U
def Tu(h:abJ t d=Y z):nax d=U/\z=(.bl (Om t d),J):=by
 cases d<;>cases h<;>exact⟨W,W⟩
noncomputable def Co:O Dat->a5 (O aV)
 |[]=>Y []
 |.str x::a=>(Co a).map λr=>x::r
 |_::_=>L
noncomputable def zR:O Dat->a5 (O cx)
 |[]=>Y []
 |.int x::a=>(zR a).map λr=>x::r
 |_::_=>L
noncomputable def xH{α:Type}(lt:α->α->cc)(x:α):O α->O α
 |[]=>[x]
 |y::a=>if lt x y=U then x::y::a else if lt y x=U then y::xH lt x a else y::a
def jb{α:Type}(lt:α->α->cc):O α->O α
 |[]=>[]
 |x::a=>xH lt x (jb lt a)
noncomputable def yR{α:Type}(lt:α->α->cc)(x:α):O α->O α
 |[]=>[x]
 |y::a=>if lt y x=U then y::yR lt x a else x::y::a
def pN{α:Type}(lt:α->α->cc):O α->O α
 |[]=>[]
 |x::a=>yR lt x (pN lt a)
noncomputable def yw(x y:aV):cc:=decide (x.cps.toList<y.cps.toList)
noncomputable def fF(x:aV):O aV:=x.cps.toList.map λc=>⟨#[c]⟩
noncomputable def Ur:T->O cx->Dat
 |0,l=>.int (l.headD 0)
 |1,l=>.str ⟨(l.map wj).toArray⟩
 |_,l=>.tup (l.map .int)
def Zp:O T->O (O cx)->Dat
 |[],_=>.non
 |n::a,c=>if n=3 then .tup (uU Ur a c)else Ur n (c.headD [])
def GH(O':O (O T))(c:O (O (O cx))):Dat:=.tup (uU Zp O' c)
def Lo(g:O (O NK)):O (O T):=(g.headD []).map sN
def Nz(g:O (O NK)):Prop:=(VI (Lo g)).isSome=U/\(Lo g).all C1=U/\(g.all λk=>decide (k.map sN=Lo g))=U/\Z (jb yO (g.map codeN))<=300
noncomputable instance (kk:O (O NK)):ei (Nz kk):=inferInstanceAs (ei (_/\_))
def zv(g:O (O NK)):g_:=
 if Z g<=300/\Nz g then Y (.lst ((jb yO (g.map codeN)).map (GH (Lo g))),U)else L
def Hl(ss:O aV):g_:=if Z ss<4000/\Z (jb yw ss)<64 then Y (.lst ((jb yw ss).map .str),U)else L
def Hn(ss:O aV):g_:=if Z ss<64 then Y (.lst ((pN yw ss).map .str),U)else L
noncomputable def b1(f:Dat->g_):O Dat->g_
 |[d]=>f d
 |_=>L
noncomputable def ZO:Dat->g_
 |.lst a=>Y (.int a.length,J)
 |.tup a=>Y (.int a.length,J)
 |.str x=>if x.length<=aF then Y (.int x.length,J)else L
 |.dct b _=>Y (.int b.length,J)
 |_=>L
noncomputable def acj:Dat->g_
 |.lst a=>Y (.tup a,J)
 |.tup a=>Y (.tup a,J)
 |_=>L
noncomputable def ZP(f:O Dat->g_)(g:aV->g_):Dat->g_
 |.lst a=>f a
 |.str x=>g x
 |_=>L
noncomputable def ack:Dat->g_
 |.int i=>Y (.int i,J)
 |.bl b=>Y (.int (if b then 1 else 0),J)
 |.str x=>if x.length<=640 then(PySem.intText? x).map λi=>(.int i,J)else L
 |_=>L
noncomputable def ZN:Dat->g_
 |.int i=>if i.natAbs.log2<1920 then Y (.str (toString i),J)else L
 |_=>L
noncomputable def x9:O Dat->a5 (O cc)
 |[]=>Y []
 |.bl b::a=>(x9 a).map λr=>b::r
 |_::_=>L
noncomputable def bL(f:O Dat->g_):Dat->g_
 |.lst a=>f a
 |_=>L
def jg:Blt->O Dat->g_
 |.len,l=>b1 ZO l
 |.tuple,l=>b1 acj l
 |.any,l=>b1 (bL λa=>(x9 a).map λbs=>(.bl (bs.any id),J)) l
 |.isi t,l=>b1 (abJ t) l
 |.sset,l=>b1 (ZP (λb=>(yM b).bind zv) λx=>Hl (fF x)) l
 |.sorted,l=>b1 (ZP (λ_=>L) λx=>Hn (fF x)) l
 |.int,l=>b1 ack l
 |.str,l=>b1 ZN l
noncomputable def j9:Dat->a5 (O Dat)
 |.lst a=>Y a
 |.tup a=>Y a
 |.str x=>Y (x.cps.toList.map λc=>Dat.str ⟨#[c]⟩)
 |_=>L
noncomputable def aaN:Dat->a5 (O Dat)
 |.str x=>Y (x.cps.toList.map λc=>Dat.str ⟨#[c]⟩)
 |.lst a=>Y a
 |.tup a=>Y a
 |_=>L
noncomputable def FG:O Dat->a5 (O Dat)
 |[.int j]=>if j<=1000000/\-1000000<=j then Y ((aR j.toNat).map λk:T=>Dat.int k)else L
 |[.int i,.int j]=>if -1000000<=i/\i<=1000000/\-1000000<=j/\j<=1000000 then Y ((aR (j - i).toNat).map λk:T=>Dat.int (i+k))else L
 |[.int i,.int j,.int c]=>if c=-1/\-1000000<=i/\i<=1000000/\-1000000<=j/\j<=1000000 then Y ((aR (i - j).toNat).map λk:T=>Dat.int (i - k))else L
 |_=>L
noncomputable def qc:O Dat->O Dat->O Dat
 |x::a,y::b=>.tup [x,y]::qc a b
 |_,_=>[]
noncomputable def qT:T->O Dat->O Dat
 |_,[]=>[]
 |k,x::a=>.tup [.int k,x]::qT (k+1) a
def rO(f:Dat->a5 g_):O Dat->a5 (O Dat×cc)
 |[]=>Y ([],U)
 | d::a=>(f d).bind λo=>(rO f a).map λr=>match o with
   |some y=>(y.1::r.1,(y.2 || im y.1) && r.2)
   |none=>r
noncomputable def AL:T->O Dat->iO->iO
 |_,[],a=>a
 |k,d::b,a=>AL (k+1) b (a.set k (Y d))
def Jo(y:T)(g:cc)(d:Dat)(ρ:iO):a5 iO:=match g with
 |true=>Y (ρ.set 0 (Y d))
 | false=>match d with
   |.tup a=>if Z a=y then Y (AL 0 a ρ)else L
   |_=>L
noncomputable def j4(g:T)(caps:O T)(ρ:iO):iO:=bH g L++caps.map λj=>(ρ[j]?).join
noncomputable def mS0(f:aV->g_):Dat->O Dat->g_
 | .str x,a=>match a with
   |[]=>f x
   |_=>L
 |_,_=>L
noncomputable def mSL(f:aV->O Dat->g_):Dat->O Dat->g_
 | .str x,a=>match a with
   |[.lst b]=>f x b
   |_=>L
 |_,_=>L
noncomputable def mSw:Dat->O Dat->g_
 |.str x,[.str y,.int i]=>Y (.bl (i7 x y i),J)
 |_,_=>L
def Yu:Dat->O Dat->g_
 |.dct a b,[k,d]=>(rR k).map λk=>((ig k a b).getD d,J)
 |_,_=>L
def je:Mth->Dat->O Dat->g_
 |.join,a,l=>mSL (λx c=>(Co c).bind λb=>if(b.map (·.length)).sum+b.length * x.length<=1000000 then Y (.str (vn x b),J)else L) a l
 |.upper,a,l=>mS0 (λx=>if x.length<=1000000 then Y (.str (ua x),J)else L) a l
 |.startswith,a,l=>mSw a l
 |.get,a,l=>Yu a l
def W5{α:Type}(x:α)(i:cx)(xs:O α):a5 (O α):=(yQ xs.length i).map λk=>xs.set k x
noncomputable def Wj:Dat->O Dat->a5 Dat
 |.lst a,[d]=>if Z a<aF then Y (.lst (a++[d]))else L
 |_,_=>L
noncomputable def LY:Dat->O Dat->a5 Dat
 | .lst b,l=>match l with
   |[.lst a]=>if Z b+Z a<=aF then Y (.lst (b++a))else L
   |[.tup a]=>if Z b+Z a<=aF then Y (.lst (b++a))else L
   |_=>L
 |_,_=>L
def Wi:Dat->O Dat->a5 Dat
 | .lst c,l=>match l with
   |[d,.int i]=>if -1000000<=i/\i<=1000000 then(W5 d i c).map .lst else L
   |_=>L
 | .dct a b,l=>match l with
   |[d,k]=>(rR k).bind λk=>if Z a<aF/\xp k a=U then Y (.dct (putD k d a b).1 (putD k d a b).2)else L
   |_=>L
 |_,_=>L
def kP:Ly->Dat->O Dat->a5 Dat
 |.app,a,l=>Wj a l
 |.ext,a,l=>LY a l
 |.seti,a,l=>Wi a l
abbrev Fs:=T->O Dat->g_
structure Ex where
 fv:O T
 ev:Fs->iO->g_
noncomputable def bA(C:Fs)(e:Ex)(ρ:iO):g_:=e.ev C ρ
def mW(C:Fs):O Ex->iO->a5 (O Dat)
 |[],_=>Y []
 |e::b,a=>(bA C e a).bind λx=>(mW C b a).map λr=>x.1::r
def pT(C:Fs):O Ex->iO->a5 (O Dat×cc)
 |[],_=>Y ([],U)
 |e::b,a=>(bA C e a).bind λx=>(pT C b a).map λr=>(x.1::r.1,(x.2 || im x.1) && r.2)
def DQ(C:Fs):O Ex->iO->a5 cc
 |[],_=>Y U
 |e::b,a=>(bA C e a).bind λx=>(iZ x.1).bind λz=>if z=U then DQ C b a else Y J
noncomputable def Gs(es:O Ex):O T:=es.flatMap (·.fv)
inductive Iw where
 |itv (a:Ex)|rng (es:O Ex)|zip (es:O Ex)|enu (a:Ex)|rev (a:Ex)
noncomputable def adx:Dat->a5 (O Dat)
 |.tup a=>Y a.reverse
 |_=>L
def fvI:Iw->O T
 |.itv a=>a.fv
 |.rng _=>[]
 |.zip b=>Gs b
 |.enu a=>a.fv
 |.rev a=>a.fv
def zip2(a b:Dat):a5 (O Dat):=match a with
 | .str x=>match b with
   |.tup c=>Y (qc ((fF x).map .str) c)
   |_=>L
 |_=>L
def Vk(ds:O Dat):a5 (O Dat):=match ds with
 |[a,b]=>zip2 a b
 |_=>L
def Br(C:Fs)(it:Iw)(ρ:iO):a5 (O Dat):=match it with
 |.itv a=>(bA C a ρ).bind λx=>j9 x.1
 |.rng b=>(mW C b ρ).bind FG
 |.zip b=>(mW C b ρ).bind Vk
 |.enu a=>(bA C a ρ).bind λx=>(aaN x.1).map λc=>qT 0 c
 |.rev a=>(bA C a ρ).bind λx=>adx x.1
def bdE(C:Fs)(ρ:iO):a5 Ex->a5 (a5 cx)
 |none=>Y L
 |some e=>Nt (bA C e ρ)
noncomputable def adO:Dat->g_
 |.int i=>Y (.int (-i),J)
 |_=>L
noncomputable def aey(k:g_):Dat->g_
 |.bl b=>if b=U then k else Y (.bl J,J)
 |_=>L
noncomputable def orD(k:g_):Dat->g_
 |.bl b=>if b=U then Y (.bl U,J)else k
 |_=>L
def qt(C:Fs)(y:T)(g:cc)(ρ0:iO)(ifs:O Ex)(elt:Ex)(d:Dat):a5 g_:=
 (Jo y g d ρ0).bind λa=>(DQ C ifs a).bind λb=>if b=U then(bA C elt a).map Y else Y L
namespace Ex
noncomputable def con(d:Dat):Ex:=⟨[],λ_ _=>Y (d,J)⟩
abbrev e_(i:cx):Ex:=con (.int i)
abbrev f_(x:aV):Ex:=con (.str x)
noncomputable def v(i:T):Ex:=⟨[i],λ_ a=>((a[i]?).join).map λd=>(d,J)⟩
def bin(o:Bop)(a b:Ex):Ex:=⟨a.fv++b.fv,λC c=>(bA C a c).bind λx=>(bA C b c).bind λy=>hJ o x.1 y.1⟩
def neg(a:Ex):Ex:=⟨[],λC b=>(bA C a b).bind λx=>adO x.1⟩
def cmp(o:Cop)(a b:Ex):Ex:=⟨[],λC c=>(bA C a c).bind λx=>(bA C b c).bind λy=>(jL o x.1 y.1).map λr=>(.bl r,J)⟩
def and(a b:Ex):Ex:=⟨a.fv++b.fv,λC c=>(bA C a c).bind λx=>aey (bA C b c) x.1⟩
def or(a b:Ex):Ex:=⟨a.fv++b.fv,λC c=>(bA C a c).bind λx=>orD (bA C b c) x.1⟩
def not(a:Ex):Ex:=⟨[],λC c=>(bA C a c).bind λx=>(iZ x.1).map λb=>(.bl (!b),J)⟩
def ite(c a b:Ex):Ex:=⟨c.fv++a.fv++b.fv,λC d=>(bA C c d).bind λx=>(iZ x.1).bind λz=>if z=U then bA C a d else bA C b d⟩
def tup(es:O Ex):Ex:=⟨Gs es,λC a=>(pT C es a).bind λx=>if Z x.1<=1000000 then Y (.tup x.1,x.2)else L⟩
def lst(es:O Ex):Ex:=⟨Gs es,λC a=>(pT C es a).bind λx=>if Z x.1<=1000000 then Y (.lst x.1,x.2)else L⟩
def ix(a b:Ex):Ex:=⟨a.fv++b.fv,λC c=>(bA C a c).bind λx=>(bA C b c).bind λy=>(xF x.1 y.1).map λd=>(d,J)⟩
noncomputable def ofv(o:a5 Ex):O T:=match o with
 |none=>[]
 |some e=>e.fv
def sl(a:Ex)(lo hi:a5 Ex):Ex:=⟨a.fv++ofv lo++ofv hi,λC b=>(bA C a b).bind λx=>(bdE C b lo).bind λl=>(bdE C b hi).bind λh=>Fu x.1 l h⟩
def call(f:T)(es:O Ex):Ex:=⟨Gs es,λC a=>(mW C es a).bind λb=>C f b⟩
def blt(b:Blt)(es:O Ex):Ex:=⟨Gs es,λC a=>(mW C es a).bind λc=>jg b c⟩
def iH(m:Mth)(o:Ex)(es:O Ex):Ex:=⟨o.fv++Gs es,λC a=>(bA C o a).bind λx=>(mW C es a).bind λb=>je m x.1 b⟩
noncomputable def n6:Ex:=⟨[],λ_ _=>Y (.dct [] [],U)⟩
def comp(y:T)(g:cc)(caps:O T)(it:Iw)(ifs:O Ex)(elt:Ex):Ex:=⟨caps++fvI it,λC a=>(Br C it a).bind λitems=>if Z items<=1000000 then
 (rO (qt C y g (j4 y caps a) ifs elt) items).map λb=>(.lst b.1,b.2)else L⟩
end Ex
abbrev dN:=O g_
set_option genInjectivity true in
inductive Out where
 |nx (ρ:dN)|rt (d:Dat) (fr:cc)|rl (d:Dat) (ρ:dN)|xc (c:T) (f:aV) (k:Key)
noncomputable def wz(ρ:dN):iO:=ρ.map λo=>match o with
 |some (d,J)=>Y d
 |_=>L
noncomputable def full(ρ:dN):iO:=ρ.map λo=>o.map (·.1)
noncomputable def rX(ρ:dN):dN:=ρ.map λo=>o.map λs=>(s.1,J)
def E5(ρ:dN):wz (rX ρ)=full ρ:=by
 unfold wz rX full;rw[cZ];exact dS λo _=>by cases o<;>rfl
noncomputable def l8(is:O T)(ρ:dN):dN:=is.foldl (λρ i=>ρ.modify i λo=>o.map λs=>(s.1,J)) ρ
def zX(C:Fs)(e:Ex)(ρ:dN):a5 (Dat×cc×dN):=(bA C e (full ρ)).bind λx=>if(im x.1 || x.2)=U then Y (x.1,x.2,ρ)
 else(bA C e (wz (l8 e.fv ρ))).map λy=>(y.1,y.2,l8 e.fv ρ)
def abV(C:Fs)(it:Iw)(ρ:dN):a5 (O Dat×dN):=match it with
 |.itv a=>(zX C a ρ).bind λx=>(j9 x.1).map λb=>(b,x.2.2)
 |.rng c=>(Br C (.rng c) (full ρ)).map λb=>(b,ρ)
 |.zip c=>(Br C (.zip c) (wz (l8 (Gs c) ρ))).map λb=>(b,l8 (Gs c) ρ)
 |.enu a=>(Br C (.enu a) (wz (l8 a.fv ρ))).map λb=>(b,l8 a.fv ρ)
 |.rev a=>(Br C (.rev a) (wz (l8 a.fv ρ))).map λb=>(b,l8 a.fv ρ)
noncomputable def qB:O T->O Dat->dN->dN
 |i::b,d::c,a=>qB b c (a.set i (Y (d,J)))
 |_,_,a=>a
def iU(g:cc)(y:O T)(d:Dat)(ρ:dN):a5 dN:=match g with
 | true=>match y with
   |[i]=>Y (ρ.set i (Y (d,J)))
   |_=>L
 | false=>match d with
   |.tup a=>if Z a=(Z y) then Y (qB y a ρ)else L
   |_=>L
noncomputable def Ma(k:dN->a5 Out):Out->a5 Out
 |.nx a=>k a
 |.rt d b=>Y (.rt d b)
 |.rl d a=>Y (.rl d a)
 |.xc c f k=>Y (.xc c f k)
def Cg(test:dN->a5 cc)(body:dN->a5 Out):T->dN->a5 Out
 |0,_=>L
 |n+1,a=>(test a).bind λb=>if b=U then(body a).bind (Ma (Cg test body n))else Y (.nx a)
noncomputable def o5:T:=1000000
def jS(O':Dat->dN->a5 dN)(body:dN->a5 Out):O Dat->dN->a5 Out
 |[],a=>Y (.nx a)
 |d::c,a=>(O' d a).bind λb=>(body b).bind (Ma (jS O' body c))
structure Sx where
 ex:Fs->dN->a5 Out
noncomputable def og(C:Fs)(s:Sx)(ρ:dN):a5 Out:=s.ex C ρ
noncomputable def adt(k:dN->a5 Out):Out->a5 Out
 |.nx a=>k a
 |o=>Y o
def e9(C:Fs):O Sx->dN->a5 Out
 |[],a=>Y (.nx a)
 |s::b,a=>(og C s a).bind (adt (e9 C b))
def ac9(g:O T)(ρ:dN):Dat->a5 Out
 |.tup a=>if Z a=(Z g) then Y (.nx (qB g a ρ))else L
 |_=>L
def abn(g:Ly)(i:T)(ρ:dN)(ds:O Dat):g_->a5 Out
 |some (d,U)=>(kP g d ds).map λa=>.nx (ρ.set i (Y (a,U)))
 |_=>L
namespace Sx
def set(i:T)(e:Ex):Sx:={ ex:=λC a=>(zX C e a).map λx=>.nx (x.2.2.set i (Y (x.1,x.2.1 && !im x.1))) }
def unp(g:O T)(e:Ex):Sx:={ ex:=λC a=>(zX C e a).bind λx=>ac9 g x.2.2 x.1 }
def ret(e:Ex):Sx:={ ex:=λC a=>(bA C e (full a)).map λx=>.rt x.1 x.2 }
noncomputable def aaV(i:T)(x:Dat×cc)(ρ:dN):Out:=match x.2,(ρ[0]?).join with
 |false,Y (_,U)=>.rl x.1 ρ
 |_,_=>.rt x.1 x.2
def uq(i:T):Sx:={ ex:=λ_ a=>((a[i]?).join).map λx=>aaV i x a }
noncomputable def Qh:Sx:={ ex:=λ_ _=>L }
def ifs(c:Ex)(a b:O Sx):Sx:={ ex:=λC d=>(bA C c (full d)).bind λx=>(iZ x.1).bind λz=>if z=U then e9 C a d else e9 C b d }
def loop(g:cc)(y:O T)(it:Iw)(body:O Sx):Sx:={ ex:=λC a=>(abV C it a).bind λx=>jS (iU g y) (e9 C body) x.1 x.2 }
def whl(c:Ex)(body:O Sx):Sx:={ ex:=λC a=>Cg (λa=>(bA C c (full a)).bind λx=>iZ x.1) (e9 C body) o5 a }
def «mut» (g:Ly)(i:T)(es:O Ex):Sx:={ ex:=λC a=>(pT C es (full a)).bind λx=>if x.2=U then abn g i a x.1 (a[i]?).join else L }
end Sx
noncomputable def vt:T:=4000
def adu(c:T)(f:aV)(d:Dat):a5 Out:=(rR d).map λk=>.xc c f k
noncomputable def IS:Dat->a5 Out
 |.exc c f k=>Y (.xc c f k)
 |_=>L
def Sx.rse(c:T)(f:aV)(e:Ex):Sx:={ ex:=λC a=>(bA C e (full a)).bind λx=>adu c f x.1 }
def Sx.VQ(j:T)(es:O Ex):Sx:={ ex:=λC a=>match bA C (.call j es) (full a)with
 |some _=>Y (.nx a)
 |none=>(bA C (.call (j+vt) es) (full a)).bind λx=>IS x.1 }
noncomputable def aem:Out->g_
 |.xc c f k=>Y (.exc c f k,U)
 |_=>L
noncomputable def aen:Out->g_
 |.nx _=>Y (.non,J)
 |.rt d a=>Y (d,a)
 |_=>L
def KS(C:Fs)(np nl:T)(body:O Sx)(ds:O Dat):g_:=
 if Z ds=np then(e9 C body (ds.map (λd=>Y (d,J))++bH (nl - np) L)).bind aen else L
def KR(C:Fs)(np nl:T)(body:O Sx)(ds:O Dat):g_:=
 if Z ds=np then(e9 C body (ds.map (λd=>Y (d,J))++bH (nl - np) L)).bind aem else L
def gE(K:Fg)(C:Fs)(x:Ex):TE:=λc H Q=>∃a d b,bA C x a=Y (d,b)/\tE K a d b c H Q
def gA(K:Fg)(C:Fs)(xs:O Ex):TA:=λc H Q=>∃a b,mW C xs a=Y b/\tEs K a b c H Q
def gF(K:Fg)(C:Fs)(xs:O Ex):TA:=λc H Q=>∃a b al,pT C xs a=Y (b,al)/\tFs K a b al c H Q
def gT(K:Fg)(C:Fs)(x:Ex):TT:=λc H Q=>∃a d e b,bA C x a=Y (d,e)/\iZ d=Y b/\tT K a b c H Q
abbrev SE(X:Cx)(C:Fs)(e:aZ)(x:Ex):Prop:=PE X e (gE X.K C x)
abbrev SA(X:Cx)(C:Fs)(es:O aZ)(xs:O Ex):Prop:=PA X es (gA X.K C xs)
abbrev SF(X:Cx)(C:Fs)(es:O aZ)(xs:O Ex):Prop:=PA X es (gF X.K C xs)
abbrev ST(X:Cx)(C:Fs)(e:aZ)(x:Ex):Prop:=PT X e (gT X.K C x)
def gB(K:Fg)(f:Dat->Dat->g_):R2:=λx y H Q=>∃b a d c,f b a=Y (d,c)/\rD K b a d c x y H Q
def gL(K:Fg)(f:O Dat->g_):O V->Hp->VK->Prop:=λc H Q=>∃a d b,f a=Y (d,b)/\rDs K a d b c H Q
section
variable{X:Cx}{C:Fs}{e:aZ}
def bx{K:Fg}:(J=U->ik K H g d v):=λh=>nomatch h
def wL(h:PE X e (tC v))(y:∀F,Rep X.K F d v):SE X C e (.con d):=
 PE.imp h λb H Q a=>by
  obtain⟨c,f,i,h,F,g,R,k⟩:=a;cases h;exact k v F H (Step.refl g) (y _) bx
def Xh{j}:SE X C (.Constant (.int i) j pos) (.con (.int i)):=wL (λ_ _ _ H _ I h=>wpAny_Constant_int ⟨.int i,H,I.tok _,⟨_,W⟩,h⟩) λ_=>W
def aaU{b:cc}{j}:SE X C (.Constant (.bool b) j pos) (.con (.bl b)):=wL (λ_ _ _ H _ I h=>Constant_bool ⟨.bl b,H,I,W,h⟩) λ_=>W
def D9{α g B:Type}{o:a5 α}{F:a5 g}{f:α->g->a5 B}{z:B}(h:(o.bind λx=>F.bind λy=>f x y)=Y z):∃x y,o=Y x/\F=Y y/\f x y=Y z:=by
 obtain⟨x,a,h⟩:=bX h;obtain⟨y,b,h⟩:=bX h;exact⟨x,y,a,b,h⟩
def Ay(B:∀ρ d fr,bA C x ρ=Y (d,fr)->∃p q,bA C P ρ=Y p/\bA C S ρ=Y q/\f p.1 q.1=Y (d,fr)) :
  ∀I H Q,gE X.K C x I H Q->Vl (gB X.K f) (gE X.K C P) (gE X.K C S) I H Q:=λI H Q j=>by
 refine ac λ_ e=>?_;obtain⟨ρ,d,fr,h,F,g,R,k⟩:=j;obtain⟨⟨E,l⟩,⟨i,m⟩,N,h2,h3⟩:=B ρ d fr h;apply e;exact⟨ρ,E,l,N,F,g,R,λv F1 D a n _=>⟨ρ,i,m,h2,F1,a.good,R.mono a.ff,λw o G b r _=>⟨E,i,d,fr,h3,o,b.good,n.mono b.ff,r,λu s t c y A=>k u s t ((a.trans b).trans c) y λz=>(A z).back (F:=F) (a.hh.trans b.hh)⟩⟩⟩
def tR(o:Cop)(x y:Dat):g_:=(jL o x y).map λr=>(.bl r,J)
def WC(ho:kR X (dk op) (gB X.K (tR o)))(ha:SE X C a P)(S:SE X C b xb)(B:behindInMarks op b=J):ST X C (.Compare a [op] [b] pos) (.cmp o P xb):=
 PT.imp ((show PT X (.Compare a ..) (aas (Vl (gB _ _) (gE _ C P) (gE _ C xb))) by
 intro w s t H Q I h
 refine wpAny_isTrue_Compare1 (jc (ha w s t H _ I h) λv s1 D=>?_) B;obtain⟨x,d,f,g,i⟩:=D;refine jc (S w s1 t d _ f i) λu s2 D=>?_;obtain⟨y,G,j,l,m⟩:=D;refine jc (ho w s2 t G x y v u _ j g l m) λc s3 D=>?_;obtain⟨z,n,o,p,k,e,q⟩:=D
 subst e;cases p;exact gp ⟨n,o,q⟩)) λt H Q c=>by
  refine ac λ_ e=>?_;obtain⟨A,d,E,b,h,S,F,g,R,k⟩:=c;apply e;refine Ay (x:=.cmp o P xb) (f:=tR o) (λA d E h=>D9 h) t H _ ⟨A,d,E,h,F,g,R,λv F1 i st r _=>?_⟩;refine ac λ_ e=>?_;obtain⟨p,q,_,_,N⟩:=D9 h;obtain⟨z,_,j⟩:=dY N;clear N left_2; cases j;cases S;apply e;exact⟨_,r,k F1 i st⟩
def Xb(ha:SE X C a y):SE X C (.UnaryOp .USub a pos) (.neg y):=
 PE.imp (by intro n s m H Q I h;exact UnaryOp_ (jc (ha n s m H _ I h) λv s1 z=>by obtain⟨x,b,c,d,e⟩:=z;exact (unI λ_ _ _ _ _ q=>neg_int q) n s1 m b x v Q c d e)) λm H Q c=>by
  refine ac λ_ e=>?_;obtain⟨p,d,t,h,F,g,R,k⟩:=c;obtain⟨⟨o,f⟩,r,h⟩:=bX h;apply e;refine⟨p,o,f,r,F,g,R,λv F1 j b l _=>?_⟩
  clear e g R r; cases o with
  |int i=>cases h;exact⟨i,l,k _ F1 j b W bx⟩
  |_=>cases h
def He{K:Fg}{F H:Hp}{d:Dat}{v:V}{b:cc}(g:Good F H)(r:Rep K F d v)(h:iZ d=Y b):ZS K v H b:=by
 cases d with
 |non=>rw[r];cases h;exact rfl
 |bl c=>rw[r];cases h;exact rfl
 |int i=>rw[r];cases h;exact rfl
 |str x=>
   rw[r];simp only[iZ]at h;split at h
   .rename_i a;cases h;exact⟨a,W⟩
   .cases h
 |tup j=>
   obtain⟨p,f,rfl,t,r⟩:=r;cases h
   have e:(!j.isEmpty)=!f.isEmpty:=by
    have:=r.length
    cases j<;>cases f<;>first|rfl|cases this
   rw[e];exact .inr (.inl ⟨f,(t.mono g.sub).sq,W⟩)
 |lst j=>
   obtain⟨p,f,rfl,t,r⟩:=r;cases h
   have e:(!j.isEmpty)=!f.isEmpty:=by
    have:=r.length
    cases j<;>cases f<;>first|rfl|cases this
   rw[e];exact .inl ⟨f,g.sub.seq t,W⟩
 |any=>cases h
 |exc _ _ _=>cases h
 |dct l j=>
   obtain⟨p,k,rfl,t,m,r⟩:=r;clear r; cases h
   have e:(!l.isEmpty)=!k.isEmpty:=by
    rw[<-m];cases k<;>rfl
   rw[e];exact .inr (.inr ⟨k,g.sub _ _ t,W⟩)
def lA(h:SE X C e y)(B:∀whole,isTrue e X.env whole=(do let v <-whole;standAt e.pos;holding [v] (truthy v)):=by intro _;rfl):ST X C e y:=
 PT.imp (by intro j s i H Q I b;exact isTrue_plain (jc (h j s i H _ I b) λv s1 g=>by obtain⟨x,c,d,a,f⟩:=g;exact Md j s1 i c x v Q d a f) (B _)) λi H Q z=>by obtain⟨l,d,m,b,h,n,F,g,R,k⟩:=z;exact⟨l,d,m,h,F,g,R,λv F1 c a f _=>⟨b,He a.good f n,k F1 c a⟩⟩
abbrev SW(X:Cx)(C:Fs)(e:aZ)(x:Ex):Prop:=PW X e (gT X.K C x)
def PW.imp(h:PW X e t)(f:∀g H Q,t' g H Q->t g H Q):PW X e t':=λa b s g H Q I q=>h a b s g H Q I (f _ _ _ q)
def Wu{rest:O aZ}(ha:ST X C a y)(P:SW X C (.BoolOp .And (b::rest) pos) B):SW X C (.BoolOp .And (a::b::rest) pos) (.and y B):=
 PW.imp ((show PW X (.BoolOp ..) (adm (gT _ C y) (gT _ C B)) by
 intro g r s p H Q I h;refine isTrue_and (jc (ha r s p H _ I h) λc s1 j=>?_)
 obtain⟨d,e,f⟩:=j;cases c with
 |true=>exact P g r s1 p d Q e f
 |false=>exact⟨d,e,f⟩)) λp H Q n=>by
  refine ac λ_ e=>?_;obtain⟨q,d,u,z,h,j,F,g,R,k⟩:=n;obtain⟨⟨w,l⟩,t,h⟩:=bX h
  apply e;cases w with
  |bl c=>
    cases c with
    |true=>exact⟨q,_,l,U,t,W,F,g,R,λF1 m f=>by
      exact Dq ⟨q,d,u,z,h,j,F1,f.good,R.mono f.ff,λo x i=>k o x (f.trans i)⟩⟩
    |false=>
      cases h;cases j
      exact⟨q,_,l,J,t,W,F,g,R,λF1 m f=>by
       exact Dr (k F1 m f)⟩
  |_=>cases h
def aaA{rest:O aZ}(ha:ST X C a y)(P:SW X C (.BoolOp .Or (b::rest) pos) B):SW X C (.BoolOp .Or (a::b::rest) pos) (.or y B):=
 PW.imp ((show PW X (.BoolOp ..) (tOr (gT _ C y) (gT _ C B)) by
 intro g r s p H Q I h;refine isTrue_or (jc (ha r s p H _ I h) λc s1 j=>?_)
 obtain⟨d,e,f⟩:=j;cases c with
 |true=>exact⟨d,e,f⟩
 |false=>exact P g r s1 p d Q e f)) λp H Q n=>by
  refine ac λ_ e=>?_;obtain⟨q,d,u,z,h,j,F,g,R,k⟩:=n;obtain⟨⟨w,l⟩,t,h⟩:=bX h
  apply e;cases w with
  |bl c=>
    cases c with
    |false=>exact⟨q,_,l,J,t,W,F,g,R,λF1 m f=>by
      exact Dr ⟨q,d,u,z,h,j,F1,f.good,R.mono f.ff,λo x i=>k o x (f.trans i)⟩⟩
    |true=>
      cases h;cases j
      exact⟨q,_,l,U,t,W,F,g,R,λF1 m f=>by
       exact Dq (k F1 m f)⟩
  |_=>cases h
def Xn{rest:O aZ}(ha:SE X C a y)(P:SE X C (.BoolOp .And (b::rest) pos) B):SE X C (.BoolOp .And (a::b::rest) pos) (.and y B):=
 PE.imp ((show PE X (.BoolOp ..) (aaz (gE _ C y) (gE _ C B)) by
 intro t s r H Q I h;refine BoolOp_and (jc (ha t s r H _ I h) λv s1 j=>?_);obtain⟨x,e,f,g,d⟩:=j;obtain⟨c,rfl,d⟩:=d;cases g;apply gp
 cases c with
 |true=>exact P t s1 r e Q f d
 |false=>exact⟨.bl J,e,f,W,d⟩)) λr H Q j=>by
  refine ac λ_ e=>?_;obtain⟨u,d,A,h,F,g,R,k⟩:=j;obtain⟨⟨E,l⟩,w,h⟩:=bX h
  apply e;cases E with
  |bl c=>
    refine⟨u,_,l,w,F,g,R,λv F1 m f n _=>⟨c,n,?_⟩⟩
    clear g w n; cases c with
    |true=>
      exact Dq ⟨u,d,A,h,F1,f.good,R.mono f.ff,λv o K i p q=>k v o K (f.trans i) p λz=>(q z).back (F:=F) f.hh⟩
    |false=>
      cases h;exact Dr (k _ F1 m f W bx)
  |_=>cases h
def aaP{rest:O aZ}(ha:SE X C a y)(P:SE X C (.BoolOp .Or (b::rest) pos) B):SE X C (.BoolOp .Or (a::b::rest) pos) (.or y B):=
 PE.imp ((show PE X (.BoolOp ..) (adh (gE _ C y) (gE _ C B)) by
 intro t s r H Q I h;refine BoolOp_or (jc (ha t s r H _ I h) λv s1 j=>?_);obtain⟨x,e,f,g,d⟩:=j;obtain⟨c,rfl,d⟩:=d;cases g;apply gp
 cases c with
 |false=>exact P t s1 r e Q f d
 |true=>exact⟨.bl U,e,f,W,d⟩)) λr H Q j=>by
  refine ac λ_ e=>?_;obtain⟨u,d,A,h,F,g,R,k⟩:=j;obtain⟨⟨E,l⟩,w,h⟩:=bX h
  apply e;cases E with
  |bl c=>
    refine⟨u,_,l,w,F,g,R,λv F1 m f n _=>⟨c,n,?_⟩⟩
    clear g w n; cases c with
    |false=>
      exact Dr ⟨u,d,A,h,F1,f.good,R.mono f.ff,λv o K i p q=>k v o K (f.trans i) p λz=>(q z).back (F:=F) f.hh⟩
    |true=>
      cases h;exact Dq (k _ F1 m f W bx)
  |_=>cases h
def o6:SA X C [] []:=PA.imp AW λb H Q a=>by
 obtain⟨c,d,h,F,g,R,k⟩:=a;cases h;exact k [] F H (Step.refl g) W
def jw(ha:SE X C e B)(O':SA X C es xs)(hs:aN (e::es) X.env=(J,eval e X.env)::aN es X.env):SA X C (e::es) (B::xs):=
 PA.imp (o9 ha O' hs) λw H Q c=>by
  refine ac λ_ m=>?_;obtain⟨n,x,h,F,g,R,k⟩:=c;obtain⟨⟨d,o⟩,p,h⟩:=bX h;obtain⟨r,q,h⟩:=dY h;cases h;apply m;exact⟨n,d,o,p,F,g,R,λv F1 l a f _=>⟨n,r,q,F1,a.good,R.mono a.ff,λt i u b j=>k _ i u (a.trans b) ⟨v,t,W,f.mono b.ff,j⟩⟩⟩
def qG(h:n<=1000000):n<=aF:=by exact aa h cV
def MA:SF X C [] []:=PA.imp AW λc H Q b=>by
 obtain⟨d,f,al,h,F,g,R,k⟩:=b;cases h;exact k [] F H (Step.refl g) W λ_=>⟨[],eE,(λa z=>by cases z),W,W⟩
def Ht(ha:SE X C e B)(O':SF X C es xs)(hs:aN (e::es) X.env=(J,eval e X.env)::aN es X.env):SF X C (e::es) (B::xs):=
 PA.imp (o9 ha O' hs) λE H Q i=>by
  refine ac λ_ q=>?_;obtain⟨t,I,al,h,F,g,R,k⟩:=i;obtain⟨⟨d,u⟩,w,h⟩:=bX h;obtain⟨⟨r,j⟩,x,h⟩:=dY h;cases h;apply q;refine⟨t,d,u,w,F,g,R,λv F1 p a f l=>⟨t,r,j,x,F1,a.good,R.mono a.ff,λy m A b n o=>k _ m A (a.trans b) ⟨v,y,W,f.mono b.ff,n⟩ λz=>?_⟩⟩;simp only[ah,kj]at z;refine gh.cons a.hh b.hh ?_ (o z.2)
  rcases z.1 with c|c
  .exact l c
  .exact .lj a.good c f
set_option tactic.hygienic true
def W8{x1}(h:SF X C es xs):SE X C (.Tuple es x1 pos) (.tup xs):=
 PE.imp ((show PE X (.Tuple es x1 _) (adf (gF _ C xs)) by intro n s m H Q I c;refine wpAny_Tuple_spliced (jc (h _ n s m H _ I c) λo s1 A=>?_);obtain⟨xs,d,a,r,z,q⟩:=A;refine⟨by rwa[<-r.length],?_⟩;exact⟨.ref _,upd d _ (.tup xs),a.laid (λb u e=>hp9 _ e) (ao _) (⟨z,o,r,⟨_,aC _ W,W,_,W⟩⟩),W,q _ (a.hok.fresh (ao _))⟩)) λm H Q c=>by
  refine ac λ_ e=>?_;obtain⟨t,d,A,h,F,g,R,k⟩:=c;obtain⟨⟨w,al⟩,x,h⟩:=bX h;apply e;dsimp only at h;split at h
  .rename_i f;cases h;exact⟨t,w,_,x,F,g,R,λy F1 j a b i=>⟨by rw[b.length];exact qG f,λp l=>k _ _ _ (a.trans (Step.alloc a.good l)) ⟨p,y,W,.inl bN,b.mono (cz.upd (a.good.sub.free l))⟩ λz=>.tup l (i z)⟩⟩
  .cases h
def Xd(h:SF X C es xs):SE X C (.List es pos) (.lst xs):=
 PE.imp ((show PE X (.List es _) (adj (gF _ C xs)) by intro t s m H Q I c;refine wpAny_List_spliced (jc (h _ t s m H _ I c) λw s1 ⟨xs,d,a,r,z,q⟩=>⟨by rwa[<-r.length],?_⟩);exact⟨.ref _,upd d _ (.lst xs),a.laid (λb u e=>hp9 _ e) (ao _) ⟨z,w,0,r,aC _ W⟩,W,q _ (a.hok.fresh (ao _))⟩)) λm H Q c=>by
  refine ac λ_ e=>?_;obtain⟨x,d,B,h,F,g,R,k⟩:=c;obtain⟨⟨y,al⟩,A,h⟩:=bX h;apply e;dsimp only at h;split at h
  .rename_i f;cases h;refine⟨x,y,_,A,F,g,R,λn F1 l a b i=>⟨by rw[b.length];exact qG f,λp j=>?_⟩⟩;exact k _ _ _ (a.trans (Step.alloc a.good j)) ⟨p,n,W,.inl (.inl bN),(b.mono (cz.upd (o:=.lst n) (a.good.sub.free j)))⟩ λz=>.lst a.hh j (i z)
  .cases h
set_option tactic.hygienic false
def Qj(K:Fg)(n:T)(f:O Dat->g_):Sp:=λa H Q _=>Z a=n/\gL K f a H Q
def tV(B:∀ρ d fr,bA C x ρ=Y (d,fr)->∃ds,mW C xs ρ=Y ds/\f ds=Y (d,fr)) :
  ∀y H Q,gE X.K C x y H Q->tCB (gL X.K f) (gA X.K C xs) y H Q:=λy H Q c=>by
 refine ac λ_ e=>?_;obtain⟨ρ,d,fr,h,F,g,R,k⟩:=c;obtain⟨ds,o,p⟩:=B ρ d fr h;apply e;refine⟨ρ,ds,o,F,g,R,λr F1 n a i=>⟨ds,d,fr,p,F1,a.good,i,λv j q b l m=>k v j q (a.trans b) l λz=>(m z).back (F:=F) a.hh⟩⟩
theorem jJ:∀{xs:O Ex}{ρ:iO}{ds:O Dat},mW C xs ρ=Y ds->Z ds=Z xs
 |[],ρ,ds,h=>by cases h;rfl
 |x::xs,ρ,ds,h=>by
   obtain⟨d,_,h⟩:=bX h;obtain⟨r,a,h⟩:=dY h;cases h;rw[bG,bG,jJ a]
def AM{T':et}(y:lX X (.type T') (gL X.K (jg F)))(S:Gl X x)(c3:X.mg x=L)(hv:dt x=Y (.type T'))(ha:SA X C (e::es) xs)(P:x≠"__name__")(B:(x == ("__debug__":aV))=J)
  (R:aN (e::es) X.env=(J,eval e X.env)::aN es X.env)(O':(eI pos (aN es X.env)).any (·.1)=J):SE X C (.Call (.Name x p) (e::es) [] pos) (.blt F xs):=
 PE.imp (by intro f s g H Q I h;exact eV (mx I S c3 hv (cU (jc (ha _ f s g H _ I h) λi s1 v=>by obtain⟨j,a,b,c,d⟩:=v;exact y f s1 g a j i Q b c d) R O') P B)) (tV λk d l h=>bX h)
end
section
variable{a b:aZ}{xs:O Ex}{s:aj}
theorem mI:∀{n:T}{ds:O Dat}{j:T}{d:Dat},fW n ds=U->ds[j]?=Y d->jH n d=U
 |_,[],_,_,_,e=>by simp at e
 |n,x::xs,0,d,h,e=>by
   simp only[fW,ah]at h;simp at e;subst e;exact h.1
 |n,x::xs,j+1,d,h,e=>by
   simp only[fW,ah]at h;exact mI h.2 (by simpa using e)
theorem rZ:∀xs g:O Dat,tO xs g=((aR (min xs.length g.length)).all (λj=>sE (xs.getD j .non) (g.getD j .non)) && Z xs == Z g)
 |[],[]=>by simp[tO]
 |[],y::g=>by simp[tO]
 |x::xs,[]=>by simp[tO]
 |x::xs,y::g=>by
   have h:=rZ xs g;simp only[tO,bG,Nat.succ_min_succ,Nat.succ_eq_add_one];rw[h,Et,eF];simp[Function.comp_def,zk]
def _root_.L2.Inv.lstR{a:aD}{y:O V}(I:Inv X B σ H s)(g:Good F H)(h:pC X.K F a y):∃its:O ai,cX y its/\PlainL s.heap a its.toArray/\Z y<=aF:=I.list (g.sub.seq h)
def _root_.L2.Inv.tupR{a:aD}{y:O V}(I:Inv X B σ H s)(g:Good F H)(h:Tq X.K F a y):∃its:O ai,cX y its/\BR s.heap a its.toArray/\Z y<=aF:=I.tuple (h.mono g.sub).sq
def _root_.L2.Inv.noLT{a:aD}{y ws:O V}(I:Inv X C σ H s)(g:Good F H)(h:pC X.K F a y)(B:Tq X.K F a ws):False:=by
 obtain⟨j,_,⟨o,n,e,c,_⟩,_⟩:=I.lstR g h;obtain⟨d,_,⟨k,f,i,_⟩,_⟩:=I.tupR g B
 grind
mutual
noncomputable def xq:Dat->cc
 |.dct _ _=>J
 |.any=>J
 |.exc _ _ _=>J
 |.tup xs=>nY xs
 |.lst xs=>nY xs
 |_=>U
noncomputable def nY:O Dat->cc
 |[]=>U
 |x::xs=>xq x && nY xs
end
mutual
theorem qk:∀(n:T)(d:Dat),jH n d=U->xq d=U
 |n,.non,_=>rfl
 |n,.bl _,_=>rfl
 |n,.int _,_=>rfl
 |n,.str _,_=>rfl
 |0,.tup _,h=>by simp[jH]at h
 |0,.lst _,h=>by simp[jH]at h
 |n+1,.tup xs,h=>uB n xs (by simpa [jH]using h)
 |n+1,.lst xs,h=>uB n xs (by simpa [jH]using h)
 |n,.dct _ _,h=>by cases n<;>simp[jH]at h
 |n,.any,h=>by cases n<;>simp[jH]at h
theorem uB:∀(n:T)(ds:O Dat),fW n ds=U->nY ds=U
 |n,[],_=>rfl
 |n,d::ds,h=>by
   have c:jH n d=U/\fW n ds=U:=by cases n<;>simpa [fW]using h
   simp only[nY,qk n d c.1,uB n ds c.2,sS]
end
mutual
theorem AS(I:Inv X B σ H s)(g:Good F H):∀(y O':Dat){x:V},xq y=U->xq O'=U->Rep X.K F y x->Rep X.K F O' x->y=O'
 |.non,O',x,j,i,d,c=>by
   rw[d]at c
   cases O'<;>first|(cases c;done)|(cases c;rfl)|(obtain⟨_,_,z,_⟩:=c;cases z)|exact nomatch i
 |.bl b,O',x,j,i,d,c=>by
   rw[d]at c
   cases O'<;>first|(cases c;done)|(cases c;rfl)|(obtain⟨_,_,z,_⟩:=c;cases z)|exact nomatch i
 |.int b,O',x,j,i,d,c=>by
   rw[d]at c
   cases O'<;>first|(cases c;done)|(cases c;rfl)|(obtain⟨_,_,z,_⟩:=c;cases z)|exact nomatch i
 |.str b,O',x,j,i,d,c=>by
   rw[d]at c
   cases O'<;>first|(cases c;done)|(cases c;rfl)|(obtain⟨_,_,z,_⟩:=c;cases z)|exact nomatch i
 |.dct _ _,_,_,j,_,_,_=>nomatch j
 |.any,_,_,j,_,_,_=>nomatch j
 |.exc _ _ _,_,_,j,_,_,_=>nomatch j
 |.tup m,O',x,j,i,n,c=>by
   obtain⟨p,w,e,t,r⟩:=n;subst e
   cases O' with
   |tup l=>
     obtain⟨q,o,f,k,h⟩:=c;cases f;have u :=I.qz (t.mono g.sub).sq (k.mono g.sub).sq;subst u;rw[wW I g m l j i r h]
   |lst l=>
     obtain⟨q,o,f,k,h⟩:=c;cases f;exact(I.noLT g k t).elim
   |dct _ _=>exact nomatch i
   |any=>exact nomatch i
   |exc _ _ _=>exact nomatch i
   |_=>cases c
 |.lst m,O',x,j,i,n,c=>by
   obtain⟨p,w,e,t,r⟩:=n;subst e
   cases O' with
   |lst l=>
     obtain⟨q,o,f,k,h⟩:=c;cases f;have u :=I.ql (g.sub.seq t) (g.sub.seq k);subst u;rw[wW I g m l j i r h]
   |tup l=>
     obtain⟨q,o,f,k,h⟩:=c;cases f;exact(I.noLT g t k).elim
   |dct _ _=>exact nomatch i
   |any=>exact nomatch i
   |exc _ _ _=>exact nomatch i
   |_=>cases c
theorem wW(I:Inv X B σ H s)(g:Good F H):∀(ds es:O Dat){y:O V},nY ds=U->nY es=U->cQ X.K F ds y->cQ X.K F es y->ds=es
 |[],es,y,o,p,h,n=>by
   rw[show y=[]from h]at n
   cases es with
   |nil=>rfl
   |cons _ _=>obtain⟨_,_,z,_⟩:=n;cases z
 |d::ds,es,y,o,p,j,n=>by
   obtain⟨v,r,e,q,t⟩:=j;subst e
   cases es with
   |nil=>exact nomatch (show v::r=[]from n)
   |cons f u=>
     obtain⟨l,m,k,c,i⟩:=n;cases k;simp only[nY,ah]at o p;rw[AS I g d f o.1 p.1 q c,wW I g ds u o.2 p.2 t i]
end
mutual
theorem DR:∀d,xq d=U->sE d d=U
 |.non,_=>rfl
 |.bl _,_=>by simp[sE]
 |.int _,_=>by simp[sE]
 |.str _,_=>by simp[sE]
 |.tup c,h=>uL c h
 |.lst c,h=>uL c h
 |.dct _ _,h=>nomatch h
 |.any,h=>nomatch h
theorem uL:∀ds,nY ds=U->tO ds ds=U
 |[],_=>rfl
 |d::ds,h=>by
   simp only[nY,ah]at h;simp only[tO,ah];exact⟨DR d h.1,uL ds h.2⟩
end
def Hb(r:cX g its)(h:j<its.toArray.size):∃v,g[j]?=Y v/\RelV v its.toArray[j]:=by
 have f:=r.length;have c:j<Z g:=by simp_all
 obtain⟨u,e,d⟩:=r.get (ag c);refine⟨_,ag c,?_⟩
 have:its.toArray[j]=u:=by
  have i:j<Z its:=by simpa using h
  simp_all
 rwa[this]
inductive Vw (s:aj):Dat->ai->Prop
 |non:Vw s .non .none
 |bl (b:cc):Vw s (.bl b) (.bool b)
 |int (i:cx) (t:JE):Vw s (.int i) (.int i t)
 |str (x:aV) (t:JE):Vw s (.str x) (.str x t)
 |tup {ds:O Dat} {p:aD} {its:c4 ai}:s.heap.IsTuple p its->Vw s (.tup ds) (.ref p)
 |lst {ds:O Dat} {p:aD} {its:c4 ai}:s.heap.IsList p its->Vw s (.lst ds) (.ref p)
def vw(I:Inv X C σ H s)(g:Good F H)(y:jH n B=U)(O':Rep X.K F B x)(P:RelV x u):Vw s B u:=by
 cases B with
 |non=>cases O';rw[P];exact .non
 |bl b=>cases O';rw[P];exact .bl b
 |int i=>cases O';obtain⟨t,rfl⟩:=P;exact .int i t
 |str z=>cases O';obtain⟨t,rfl⟩:=P;exact .str z t
 |tup e=>
   obtain⟨p,f,rfl,t,r⟩:=O';obtain⟨d,c,pl,_⟩:=I.tupR g t;rw[P];exact .tup pl
 |lst e=>
   obtain⟨p,f,rfl,t,r⟩:=O';obtain⟨d,c,pl,_⟩:=I.lstR g t;rw[P];exact .lst pl.isList
 |dct _ _=>exact((show False by cases n<;>simp[jH]at y)).elim
 |any=>exact((show False by cases n<;>simp[jH]at y)).elim
 |exc _ _ _=>exact((show False by cases n<;>simp[jH]at y)).elim
noncomputable def isT:Dat->cc
 |.tup _=>U
 |_=>J
noncomputable def Qn:Dat->cc
 |.lst _=>U
 |_=>J
def PY(a b:Dat):cc:=match a with
 |.tup _=>isT b
 |.lst _=>Qn b
 |_=>J
def Eq3(A:bJ)(s:aj)(u w:ai)(b:cc):Prop:=JH A s u w b/\JG A s u w b/\B2 A s u w (!b)
def O6{A:bJ}(B:A.units<eC)(a:Vw s g u)(b:Vw s db w)(h:PY g db=J):Eq3 A s u w (sE g db):=by
 cases a with
 |non=>
   cases b with
   |non=>exact⟨.same _,.none_none,.none_none⟩
   |bl _=>exact⟨.none_bool _,.none_bool _,.none_bool _⟩
   |int _ _=>exact⟨.none_int _ _,.none_int _ _,.none_int _ _⟩
   |str _ _=>exact⟨.none_str _ _,.none_str _ _,.none_str _ _⟩
   |tup q=>exact⟨.none_tuple q B,.none_tuple q B,.none_tuple q B⟩
   |lst q=>exact⟨.none_list q B,.none_list q B,.none_list q B⟩
 |bl _=>
   clear h; cases b with
   |non=>exact⟨.bool_none _,.bool_none _,.bool_none _⟩
   |bl _=>exact⟨.bool_bool _ _,.bool_bool _ _,.bool_bool _ _⟩
   |int _ _=>exact⟨.bool_int _ _ _,.bool_int _ _ _,.bool_int _ _ _⟩
   |str _ _=>exact⟨.bool_str _ _ _,.bool_str _ _ _,.bool_str _ _ _⟩
   |tup q=>exact⟨.bool_tuple _ q B,.bool_tuple _ q B,.bool_tuple _ q B⟩
   |lst q=>exact⟨.bool_list _ q B,.bool_list _ q B,.bool_list _ q B⟩
 |int _ _=>
   cases b with
   |non=>exact⟨.int_none _ _,.int_none _ _,.int_none _ _⟩
   |bl _=>exact⟨.int_bool _ _ _,.int_bool _ _ _,.int_bool _ _ _⟩
   |int _ _=>exact⟨.int_int _ _ _ _,.int_int _ _ _ _,.int_int _ _ _ _⟩
   |str _ _=>exact⟨.int_str _ _ _ _,.int_str _ _ _ _,.int_str _ _ _ _⟩
   |tup q=>exact⟨.int_tuple _ _ q B,.int_tuple _ _ q B,.int_tuple _ _ q B⟩
   |lst q=>exact⟨.int_list _ _ q B,.int_list _ _ q B,.int_list _ _ q B⟩
 |str _ _=>
   cases b with
   |non=>exact⟨.str_none _ _,.str_none _ _,.str_none _ _⟩
   |bl _=>exact⟨.str_bool _ _ _,.str_bool _ _ _,.str_bool _ _ _⟩
   |int _ _=>exact⟨.str_int _ _ _ _,.str_int _ _ _ _,.str_int _ _ _ _⟩
   |str _ _=>exact⟨.str_str _ _ _ _,.str_str _ _ _ _,.str_str _ _ _ _⟩
   |tup q=>exact⟨.str_tuple _ _ q B,.str_tuple _ _ q B,.str_tuple _ _ q B⟩
   |lst q=>exact⟨.str_list _ _ q B,.str_list _ _ q B,.str_list _ _ q B⟩
 |tup p=>
   cases b with
   |non=>exact⟨.tuple_none p B,.tuple_none p B,.tuple_none p B⟩
   |bl _=>exact⟨.tuple_bool _ p B,.tuple_bool _ p B,.tuple_bool _ p B⟩
   |int _ _=>exact⟨.tuple_int _ _ p B,.tuple_int _ _ p B,.tuple_int _ _ p B⟩
   |str _ _=>exact⟨.tuple_str _ _ p B,.tuple_str _ _ p B,.tuple_str _ _ p B⟩
   |tup q=>cases h
   |lst q=>exact⟨.tuple_list p q B,.tuple_list p q B,.tuple_list p q B⟩
 |lst p=>
   cases b with
   |non=>exact⟨.list_none p B,.list_none p B,.list_none p B⟩
   |bl _=>exact⟨.list_bool _ p B,.list_bool _ p B,.list_bool _ p B⟩
   |int _ _=>exact⟨.list_int _ _ p B,.list_int _ _ p B,.list_int _ _ p B⟩
   |str _ _=>exact⟨.list_str _ _ p B,.list_str _ _ p B,.list_str _ _ p B⟩
   |tup q=>exact⟨.list_tuple p q B,.list_tuple p q B,.list_tuple p q B⟩
   |lst q=>cases h
def xV(I:Inv X h_ σ H s)(g:Good F H):∀(n:T) (A:bJ) (da B:Dat) {x y:V} {u w:ai},A.units+n<eC->jH n da=U->jH n B=U->Rep X.K F da x->Rep X.K F B y->RelV x u->RelV y w->
  Eq3 A s u w (sE da B):=by
 intro n
 induction n with
 |zero=>
   intro A da B x y u w E sa i k l C D;exact O6 E (vw I g sa k C) (vw I g i l D) (by cases da<;>first|rfl|(cases sa;done))
 |succ n S=>
   intro A da B x y u w E sa i k l C D;have c :=aA (be _ _) E;by_cases hk:PY da B=J
   .exact O6 c (vw I g sa k C) (vw I g i l D) hk
   have items:∀{ds es:O _} {vs us:O V} {its f:O ai},fW n ds=U->fW n es=U->cQ X.K F ds vs->cQ X.K F es us->cX vs its->cX us f->
     (∀j(h1:j<its.toArray.size)(h2:j<f.toArray.size),JH A.in1 s its.toArray[j] f.toArray[j] (sE (ds.getD j .non) (es.getD j .non)))/\its.toArray.size=Z ds/\f.toArray.size=Z es:=by
    intro ds es vs us its f s1 s2 J' L' m o;refine⟨λj h1 h2=>?_,by rw[bB,<-m.length,J'.length],by rw[bB,<-o.length,L'.length]⟩;refine ac λ_ a=>?_;obtain⟨v,e1,T'⟩:=Hb m h1;obtain⟨v',e2,U'⟩:=Hb o h2;have M:j<Z ds:=by have:=J'.length;have:=(aM.mp e1).1;simp_all
    have N:j<Z es:=by have:=L'.length;have:=(aM.mp e2).1;simp_all
    obtain⟨z1,P,G⟩:=J'.get (ag M);obtain⟨z2,Q,c3⟩:=L'.get (ag N);apply a;rw[e1]at P;cases P;rw[e2]at Q;cases Q;have e0:ds.getD j .non=ds[j]:=by simp[List.getD,M]
    have g2:es.getD j .non=es[j]:=by simp[List.getD,N]
    rw[e0,g2];exact(S _ _ _ (by grind) (mI s1 (ag M)) (mI s2 (ag N)) G c3 T' U').1
   have both:∀{p q:aD},x=.ref p->y=.ref q->JG A s (.ref p) (.ref q) (sE da B)->B2 A s (.ref p) (.ref q) (!sE da B)->Eq3 A s u w (sE da B):=by
    intro p q e1 e2 h h';subst e1 e2;obtain rfl:u=.ref p:=C;obtain rfl:w=.ref q:=D;refine⟨?_,h,h'⟩;by_cases z:p=q
    .clear h h'; subst z;rw[(show sE da B=U by rw[AS I g da B (qk _ _ sa) (qk _ _ i) k l];exact DR _ (qk _ _ i))];exact .same _
    .exact .of_refs z h
   cases da with
   |tup ds=>
     cases B with
     |tup es=>
       obtain⟨p,vs,rfl,t,r⟩:=id k;obtain⟨its,m,pl,_⟩:=I.tupR g t;obtain⟨q,us,rfl,t',O'⟩:=id l;obtain⟨f,o,d,_⟩:=I.tupR g t';obtain⟨hi,e1,e2⟩:=items sa i r O' m o;have h1:=SeqAt.RcAt.tuples pl d c hi;have h2:=SeqAt.RcNeAt.tuples pl d c hi;rw[e1,e2,<-rZ]at h1 h2;exact both W rfl h1 h2
     |_=>exact absurd rfl hk
   |lst ds=>
     cases B with
     |lst es=>
       obtain⟨p,vs,rfl,t,r⟩:=id k;obtain⟨its,m,pl,_⟩:=I.lstR g t;obtain⟨q,us,rfl,t',O'⟩:=id l;obtain⟨f,o,d,_⟩:=I.lstR g t';obtain⟨hi,e1,e2⟩:=items sa i r O' m o;have e:=rZ ds es;by_cases hsz:its.toArray.size=f.toArray.size
       .have h1:=SeqAt.RcAt.lists pl.isList d.isList hsz c hi;have h2:=SeqAt.RcNeAt.lists pl.isList d.isList hsz c hi;have e3:(Z ds == Z es)=U:=by simp_all
        rw[e3,mo,<-e1,<-e2,<-hsz,Nat.min_self]at e;rw[<-e]at h1 h2;exact both W rfl h1 h2
       .have R:(its.toArray.size != f.toArray.size)=U:=by simpa using hsz
        have h1:=SeqAt.RcAt.lists_lengths pl.isList d.isList R c;have e3:(Z ds == Z es)=J:=by grind
        rw[e3,Bool.and_false]at e;refine both W rfl ?_ ?_
        .show JG _ _ _ _ (tO ds es);rwa[e]
        .show B2 _ _ _ _ (!tO ds es);rw[e];exact (SeqAt.RcNeAt.lists_lengths pl.isList d.isList R c)
     |_=>exact absurd rfl hk
   |_=>exact absurd rfl hk
end
section
variable{X:Cx}
def Ho (h:Y (a,b)=Y (g,y)):a=g/\b=y:=by simp_all
def Nw:kR X (ea .Add) (λx y H Q=>∃a b B,x=.ref a/\y=.ref b/\vj X.K H a []/\vj X.K H b B/\Q (.ref b) H):=by
 intro S s σ H x y v u Q I i j h;refine ac λ_ w=>?_;obtain⟨a,b,B,rfl,rfl,C,E,q⟩:=h;cases i;cases j;obtain⟨F,k,l,_⟩:=I.tuple C;obtain⟨m,t,o,_⟩:=I.tuple E;cases k;obtain⟨⟨N,p,data,sl⟩,A,P,n,R⟩:=id l;obtain⟨⟨g,d,data2,zw⟩,c,e,r,f⟩:=id o;subst P R e f;apply w;exact yB ⟨_,A,W⟩ ⟨_,c,W⟩ Al JB oX oi (nR _ _) (tuple_addW0 a b _ _ n r p d sl zw W) ⟨A,c,.ref b,H,I,W,q⟩
set_option tactic.hygienic true
def So:kR X (ea .Add) (gB X.K (hJ .add)):=by
 intro h_ s σ H x y v u Q I c f h;refine ac λ_ E=>?_;obtain⟨da,N,d,fr,h,F,g,j,m,k⟩:=h;apply E;cases da<;>cases N<;>simp only[hJ,US,reduceCtorEq]at h
 .obtain⟨rfl,rfl⟩:=Ho h;exact X8 h_ s σ H _ _ v u Q I c f ⟨_,_,j,m,k _ F H (Step.refl g) W bx⟩
 .split at h
  .rename_i b;obtain⟨rfl,rfl⟩:=Ho h;exact FU h_ s σ H _ _ v u Q I c f ⟨_,_,j,m,b,k _ F H (Step.refl g) W bx⟩
  .cases h
 .split at h
  .rename_i xs ys b;refine ac λ_ E=>?_;obtain⟨rfl,rfl⟩:=Ho h;clear h; obtain⟨p,vs,rfl,t,r⟩:=j;obtain⟨q,us,rfl,S,a⟩:=m;apply E;by_cases G:vs=[]
   .subst G;have e :=wg r.length.symm;subst e;exact Nw h_ s σ H _ _ v u Q I c f ⟨p,q,us,W,W,(t.mono g.sub).sq,(S.mono g.sub).sq,k _ F H (Step.refl g) ⟨q,us,W,S,a⟩ bx⟩
   refine Sl h_ s σ H _ _ v u Q I c f ⟨p,q,vs,us,W,W,(t.mono g.sub).sq,(S.mono g.sub).sq,G,?_,?_,?_⟩
   .rwa[r.length,a.length]
   .intro z;subst z;have e :=wg a.length.symm;refine k _ F H (Step.refl g) ⟨p,vs,W,t,?_⟩ bx
    simp_all
   .intro _ l hl;exact k _ _ _ (Step.alloc g hl) ⟨l,_,W,.inl bN,(r.append a).mono (cz.upd (g.sub.free hl))⟩ bx
  .cases h
 .split at h
  .rename_i xs ys b;refine ac λ_ E=>?_;obtain⟨rfl,rfl⟩:=Ho h;obtain⟨p,vs,rfl,t,r⟩:=j;obtain⟨q,us,rfl,S,a⟩:=m;obtain⟨V,J',pl,_⟩:=I.lstR g t;obtain⟨w,L',A,_⟩:=I.lstR g S;obtain rfl:v=.ref p:=c;obtain rfl:u=.ref q:=f;obtain⟨⟨cls,O',data,sl⟩,ho,hc,n,hd⟩:=pl.isList;obtain⟨⟨M,B,data2,zw⟩,i,C,P,D⟩:=A.isList;subst hc hd C D;apply E;refine yB ⟨_,ho,W⟩ ⟨_,i,W⟩ noFill_list_add seq_list_add PySem.F.slot_list_add PySem.F.entry_list_add (PySem.F.args_list_add_2 _ _) (list_addW p q _ _ n P O' B sl zw (by rwa[bB,bB,<-J'.length,<-L'.length,r.length,a.length])) ⟨ho,i,?_⟩;have R:V.toArray++w.toArray=(V++w).toArray:=by simp
   rw[R];exact⟨.ref _,_,I.abB (J'.append L') (by rwa[aL,r.length,a.length]),W,k _ _ _ (Step.alloc g I.fresh) ⟨_,_,W,.inl (.inl bN),((r.append a).mono (cz.upd (o:=.lst _) (g.sub.free I.fresh)))⟩ λz=>.lst (cz.refl _) I.fresh (.lj g z (r.append a))⟩
  .cases h
def Nx{I:ET}{o:Bop}{O':cx->cx->Prop}{f:cx->cx->cx}(h:kR X (ea I) (rI O' λi j=>.int (f i j)))
  (P:∀C B d fr,hJ o C B=Y (d,fr)->∃i j,C=.int i/\B=.int j/\O' i j/\d=.int (f i j)/\fr=J):kR X (ea I) (gB X.K (hJ o)):=
 kR.imp h λx y H Q a=>by
  refine ac λ_ e=>?_;obtain⟨C,B,d,fr,h,F,g,b,c,k⟩:=a;obtain⟨i,j,rfl,rfl,l,rfl,rfl⟩:=P C B d fr h;apply e;exact⟨i,j,b,c,l,k _ F H (Step.refl g) W bx⟩
def FV{I:ET}{o:Bop}{f:cx->cx->cx}(h:kR X (ea I) (Qk λi j=>.int (f i j)))
  (P:∀C B d fr,hJ o C B=Y (d,fr)->∃i j,C=.int i/\B=.int j/\d=.int (f i j)/\fr=J):kR X (ea I) (gB X.K (hJ o)):=
 kR.imp h λx y H Q a=>by
  refine ac λ_ e=>?_;obtain⟨C,B,d,fr,h,F,g,b,c,k⟩:=a;obtain⟨i,j,rfl,rfl,rfl,rfl⟩:=P C B d fr h;apply e;exact⟨i,j,b,c,k _ F H (Step.refl g) W bx⟩
def gu9{f:cx->cx->g_}(h:Lx f a b=Y r):∃i j,a=.int i/\b=.int j/\f i j=Y r:=by
 cases a with
 |int i=>
   cases b with
   |int j=>exact⟨i,j,W,W,h⟩
   |_=>cases h
 |_=>cases h
def gc9{f:cx->cx->cc}(h:cII f a b=Y r):∃i j,a=.int i/\b=.int j/\r=f i j:=by
 cases a with
 |int i=>
   cases b with
   |int j=>cases h;exact⟨i,j,W,W,W⟩
   |_=>cases h
 |_=>cases h
def Sa:kR X (ea .Sub) (gB X.K (hJ .sub)):=FV (Sq λ_ _ _ _ _ _ _ q=>sub_int q) λb a d c h=>by
 obtain⟨i,j,rfl,rfl,h⟩:=gu9 h;simp_all
def Sn:kR X (ea .BitAnd) (gB X.K (hJ .band)):=FV (Sq λ_ _ _ _ _ _ _ q=>and_int q) λb a d c h=>by
 obtain⟨i,j,rfl,rfl,h⟩:=gu9 h;simp_all
def XX:kR X (ea .BitOr) (gB X.K (hJ .bor)):=FV (Sq λ_ _ _ _ _ _ _ q=>or_int q) λb a d c h=>by
 cases b<;>cases a<;>simp only[hJ,Lx,US,UR,reduceCtorEq]at h
 simp_all
def Si:kR X (ea .Mult) (gB X.K (hJ .mul)):=by
 intro n s o H x y v u Q I a b h;obtain⟨p,i,d,q,h,F,g,e,f,k⟩:=h;cases p<;>cases i<;>simp only[hJ,UR,reduceCtorEq]at h
 .split at h
  .rename_i c;cases h;exact XZ n s o H _ _ v u Q I a b ⟨_,_,e,f,c,k _ F H (Step.refl g) W bx⟩
  .cases h
 .split at h
  .rename_i z j c;cases h;rw[e]at a;rw[f]at b;obtain⟨t,rfl⟩:=a;obtain⟨r,rfl⟩:=b;exact PySem.SB.mul c λl m=>⟨.str _,H,I.tok m,⟨l,W⟩,k _ F H (Step.refl g) W bx⟩
  .cases h
def Sj:kR X (ea .Mod) (gB X.K (hJ .mod)):=Nx (opI λi j _ _ _ _ _ b q=>by
 exact mod_int' (Int.ne_of_gt b) (by rwa[Int.fmod_eq_emod_of_nonneg i (Int.le_of_lt b)])) λc a d e h=>by
 obtain⟨i,j,rfl,rfl,h⟩:=gu9 h;simp_all
def Sd:kR X (ea .RShift) (gB X.K (hJ .shr)):=Nx (opI λi j _ _ _ _ _ b q=>
 rshift_int b (by rwa[Int.fdiv_eq_ediv_of_nonneg i (by exact Int.natCast_nonneg _)])) λc a d e h=>by
 obtain⟨i,j,rfl,rfl,h⟩:=gu9 h;simp_all
def Se:kR X (ea .LShift) (gB X.K (hJ .shl)):=Nx (O':=U5) (opI λ_ _ _ _ _ _ _ c q=>lshift_int c.1 (by have:=intBits_le c.2.2;have:=c.2.1;grind) q) λe a d f h=>by
 cases e<;>cases a<;>simp only[hJ,Lx,US,UR,reduceCtorEq]at h
 split at h
 .rename_i b;cases h;exact⟨_,_,W,W,b,W,W⟩
 .cases h
def lF(h:tR o g db=Y (d,fr)):∃b,jL o g db=Y b/\d=.bl b/\fr=J:=by
 obtain⟨b,a,c⟩:=dY h
 simp_all
def Pp{I:CmpOp}{o:Cop}{f:cx->cx->cc}(h:kR X (dk I) (Qk λi j=>.bl (f i j)))(P:∀C B b,jL o C B=Y b->∃i j,C=.int i/\B=.int j/\b=f i j):kR X (dk I) (gB X.K (tR o)):=
 kR.imp h λx y H Q a=>by
  refine ac λ_ l=>?_;obtain⟨C,B,d,n,h,F,g,c,e,k⟩:=a;obtain⟨b,m,rfl,rfl⟩:=lF h;obtain⟨i,j,rfl,rfl,rfl⟩:=P C B b m;apply l;exact⟨i,j,c,e,k _ F H (Step.refl g) W bx⟩
def X5(B:X.A.units+20<eC):kR X (dk .Eq) (gB X.K (tR .eq)):=λp s q H x y v u Q I c e a=>by
 refine ac λ_ l=>?_;obtain⟨o,f,d,r,h,F,g,i,j,k⟩:=a;obtain⟨b,m,rfl,rfl⟩:=lF h;apply l;simp only[jL]at m;split at m
 .rename_i n;clear l h; cases m;simp only[ah]at n;exact(xV I g 20 _ o f B n.1 n.2 i j c e).2.1 _ _ _ _ ⟨.bl _,H,I,W,k _ F H (Step.refl g) W bx⟩
 .cases m
set_option tactic.hygienic false
end
structure Ow(K:Fg)(H₀ F H:Hp)(σ:St)(ρ:dN)(Ss:T->O aD):Prop where
 own:∀(i:T)d,ρ[i]?=Y (Y (d,U))->∃v,σ[i]?=Y (Y v)/\lr K H d v (Ss i)/\(Ss i).Nodup/\∀a∈Ss i,F a=L/\H₀ a=L
 sep:∀(i j:T)d d',i≠j->ρ[i]?=Y (Y (d,U))->ρ[j]?=Y (Y (d',U))->∀a∈Ss i,a∉Ss j
structure HZ where
 h:Hp
 z:a5 V
instance:Coe HZ Hp:=⟨HZ.h⟩
structure Rl(K:Fg)(Fz:Hp)(H₀:HZ)(F H:Hp)(σ:St)(ρ:dN):Prop where
 step:Step Fz H₀.h F H
 len:Z σ=Z ρ
 val:∀(i:T)d,ρ[i]?=Y (Y (d,J))->∃v,σ[i]?=Y (Y v)/\Rep K F d v
 keep:∀d v,ρ[0]?=Y (Y (d,U))->H₀.z=Y v->σ[0]?=Y (Y v)
 ow:∃Ss,Ow K H₀.h F H σ ρ Ss
section
variable{K:Fg}{F:Hp}{H₀:HZ}{σ:St}{ρ:dN}
def QV{i:T}{d:Dat}(h:(wz ρ)[i]?=Y (Y d)):ρ[i]?=Y (Y (d,J)):=by
 unfold wz at h;rw[aS]at h
 cases q:ρ[i]? with
 |none=>rw[q]at h;cases h
 |some o=>
   rw[q]at h;clear q; cases o with
   |none=>cases (bh h)
   |some z=>
     obtain⟨a,b⟩:=z
     cases b with
     |true=>cases (bh h)
     |false=>cases (bh h);rfl
def Rl.wz(R:Rl K g H₀ F H σ ρ):oK K F σ (wz ρ):=λi d e=>R.val i d (QV e)
def Ow.moved(O':Ow K H₀.h F H σ ρ y)(st:Step F H B C):Ow K H₀.h B C σ ρ y where
 own:=λi d e=>by
  obtain⟨v,f,b,g,c⟩:=O'.own i d e;refine⟨v,f,b.mono st.hh,g,λa m=>⟨?_,(c a m).2⟩⟩;obtain⟨o,j,_⟩:=b.vE _ a m;exact st.un a o j (c a m).1
 sep:=O'.sep
def Rl.moved(R:Rl K g H₀ F H σ ρ)(st:Step F H y B):Rl K g H₀ y B σ ρ where
 step:=R.step.trans st
 len:=R.len
 val:=λi d e=>by obtain⟨v,a,b⟩:=R.val i d e;exact⟨v,a,b.mono st.ff⟩
 keep:=R.keep
 ow:=by obtain⟨c,f⟩:=R.ow;exact⟨c,f.moved st⟩
def A4(i j:T)(f:g_->g_):(ρ.modify i f)[j]?=if i=j then(ρ[j]?).map f else ρ[j]? :=by
 by_cases h:i=j
 .simp_all
 simp_all
def ji(q:(ρ.modify i λo=>o.map λs=>(s.1,J))[j]?=Y (Y (d,b))):(i=j/\b=J/\∃B,ρ[j]?=Y (Y (d,B)))\/(i≠j/\ρ[j]?=Y (Y (d,b))):=by
 rw[A4]at q;by_cases h:i=j
 .rw[cb h]at q;refine .inl ⟨h,?_⟩
  cases z:ρ[j]? with
  |none=>rw[z]at q;cases q
  |some o=>
    rw[z]at q
    clear z; cases o with
    |none=>cases q
    |some s=>grind
 .rw[cv h]at q;exact .inr ⟨h,q⟩
def Rl.DI(R:Rl K S H₀ F H σ ρ)(O':Ow K H₀.h F H σ ρ P)(I:ρ[i]?=Y (Y (d,U))):Rl K S H₀ (fz F H (P i)) H σ (ρ.modify i λo=>o.map λs=>(s.1,J)):=by
 obtain⟨v,E,N,Q,B⟩:=O'.own i d I;refine⟨⟨Bm R.step.good,R.step.ff.trans (rV R.step.good.sub),R.step.hh,λa o q n=>?_⟩,?_,λj r q=>?_,λr u q=>?_,P,λj r q=>?_,λj k d1 d2 c x y=>?_⟩
 .rw[uI λm=>?_]
  .exact R.step.un a o q n
  simp_all
 .rw[Lk];exact R.len
 .rcases ji q with⟨rfl,_,C,b⟩|⟨_,b⟩
  .rw[I]at b;cases b;exact⟨v,E,N.l8 R.step.good d λa m=>m⟩
  .obtain⟨w,e,f⟩:=R.val j r b;exact⟨w,e,f.mono (rV R.step.good.sub)⟩
 .rcases ji q with⟨_,z,_⟩|⟨_,b⟩
  .cases z
  .exact R.keep _ u b
 .rcases ji q with⟨_,z,_⟩|⟨g,b⟩
  .cases z
  .obtain⟨w,e,f,A,t⟩:=O'.own j r b;refine⟨w,e,f,A,λa m=>⟨?_,(t a m).2⟩⟩;rw[uI (O'.sep j i r d (dn g) b I a m)];exact(t a m).1
 .rcases ji x with⟨_,z,_⟩|⟨_,l⟩
  .cases z
  .rcases ji y with⟨_,z,_⟩|⟨_,p⟩
   .cases z
   .exact O'.sep j k d1 d2 c l p
def Rl.T9(R:Rl K B H₀ F H σ ρ)(i:T):∃y,cz F y/\Rl K B H₀ y H σ (ρ.modify i λo=>o.map λs=>(s.1,J)):=by
 obtain⟨p,r⟩:=R.ow;by_cases n:∃d,ρ[i]?=Y (Y (d,U))
 .obtain⟨d,n⟩:=n;exact⟨_,rV R.step.good.sub,R.DI r n⟩
 .refine⟨F,cz.refl _,⟨R.step,by rw[Lk];exact R.len,λj m q=>?_,λm f q=>?_,p,λj m q=>?_,λj k d1 d2 b g h=>?_⟩⟩
  .rcases ji q with⟨rfl,_,l,a⟩|⟨_,a⟩
   .cases l with
    |true=>exact absurd ⟨_,a⟩ n
    |false=>exact R.val _ m a
   .exact R.val j m a
  .rcases ji q with⟨_,z,_⟩|⟨_,a⟩
   .cases z
   .exact R.keep _ f a
  .rcases ji q with⟨_,z,_⟩|⟨_,a⟩
   .cases z
   .exact r.own j m a
  .rcases ji g with⟨_,z,_⟩|⟨_,c⟩
   .cases z
   .rcases ji h with⟨_,z,_⟩|⟨_,e⟩
    .cases z
    .exact r.sep j k d1 d2 b c e
def Rl.freeze(R:Rl K y H₀ F H σ ρ):∀is:O T,∃g,cz F g/\Rl K y H₀ g H σ (l8 is ρ):=by
 intro is
 induction is generalizing F ρ with
 |nil=>exact⟨F,cz.refl _,R⟩
 |cons i is a=>
   obtain⟨F1,s1,b⟩:=R.T9 i;obtain⟨c,s2,R2⟩:=a b;exact⟨c,s1.trans s2,R2⟩
theorem IQ:∀(is:O T)(ρ:dN)(j:T),(l8 is ρ)[j]?=if j∈is then(ρ[j]?).map (λo=>o.map λs=>(s.1,J))else ρ[j]?
 |[],ρ,j=>by simp[l8]
 |i::is,ρ,j=>by
   have e:l8 (i::is) ρ=l8 is (ρ.modify i λo=>o.map λs=>(s.1,J)):=rfl;rw[e,IQ is,A4];by_cases h:i=j
   .subst h;rw[cb W,cb (jB)];by_cases m:i∈is
    .rw[cb m]
     cases ρ[i]? with
     |none=>rfl
     |some o=>cases o<;>rfl
    .rw[cv m]
   grind
def Rl.hZ(R:Rl K y H₀ F H σ ρ):∃g,cz F g/\Rl K y H₀ g H σ (rX ρ):=by
 obtain⟨g,s,a⟩:=R.freeze _;rw[(show l8 (aR ρ.length) ρ=rX ρ by
  apply kX;intro j;rw[IQ];unfold rX
  simp_all)]at a;exact⟨g,s,a⟩
def eW(q:(ρ.set i x)[j]?=Y (Y (d,b))):(i=j/\x=Y (d,b))\/(i≠j/\ρ[j]?=Y (Y (d,b))):=by
 rw[om]at q;by_cases h:i=j
 .simp_all
 .rw[cv h]at q;exact .inr ⟨h,q⟩
def zL(q:(ρ.set i x)[i]?=Y y):i<Z ρ:=by
 rw[om]at q
 simp_all
def Rl.AJ(R:Rl K y H₀ F H σ ρ)(r:Rep K F d v):Rl K y H₀ F H (σ.set i (Y v)) (ρ.set i (Y (d,J))):=by
 obtain⟨t,s⟩:=R.ow;refine⟨R.step,by simpa using R.len,λj p q=>?_,λp l q=>?_,t,λj p q=>?_,λj k d1 d2 c m n=>?_⟩
 .rcases eW q with⟨rfl,e⟩|⟨a,b⟩
  .cases e;exact⟨v,fh (by rw[R.len];exact zL q),r⟩
  .obtain⟨w,o,f⟩:=R.val j p b;exact⟨w,by simp_all,f⟩
 .rcases eW q with⟨_,e⟩|⟨a,b⟩
  .cases e
  .intro z;rw[dc a];exact R.keep _ l b z
 .rcases eW q with⟨rfl,e⟩|⟨a,b⟩
  .cases e
  .obtain⟨w,o,f⟩:=s.own j p b;exact⟨w,by simp_all,f⟩
 .rcases eW m with⟨_,e⟩|⟨_,g⟩
  .cases e
  .rcases eW n with⟨_,e⟩|⟨_,h⟩
   .cases e
   .exact s.sep j k d1 d2 c g h
def Rl.W3(R:Rl K I H₀ F H σ ρ)(O':Ow K H₀.h F H σ ρ C)(o:lr K H d v S)(P:S.Nodup)(c3:∀a∈S,F a=L/\H₀.h a=L)(h0:i≠0)
  (B:∀(j:T)y,i≠j->ρ[j]?=Y (Y (y,U))->∀a∈C j,a∉S):Rl K I H₀ F H (σ.set i (Y v)) (ρ.set i (Y (d,U))):=by
 refine⟨R.step,by simpa using R.len,λj y q=>?_,λy p q=>?_,λj=>if j=i then S else C j,λj y q=>?_,λj k d1 d2 g r s=>?_⟩
 .rcases eW q with⟨rfl,e⟩|⟨b,c⟩
  .cases e
  .obtain⟨w,t,l⟩:=R.val j y c;exact⟨w,by simp_all,l⟩
 .rcases eW q with⟨e,_⟩|⟨b,c⟩
  .exact absurd e h0
  .intro z;rw[dc b];exact R.keep _ p c z
 .rcases eW q with⟨rfl,e⟩|⟨b,c⟩
  .cases e;rw[cb W];exact⟨v,fh (by rw[R.len];exact zL q),o,P,c3⟩
  .obtain⟨w,t,l⟩:=O'.own j y c;rw[cv (dn b)];exact⟨w,by simp_all,l⟩
 .intro a m
  rcases eW r with⟨rfl,e⟩|⟨u,f⟩
  .grind
  .rw[cv (dn u)]at m
   rcases eW s with⟨rfl,e⟩|⟨x,n⟩
   .rw[cb W];exact B j d1 u f a m
   .rw[cv (dn x)];exact O'.sep j k d1 d2 g f n a m
def Rl.full{K:Fg}(R:Rl K g H₀ F H σ (rX ρ)):oK K F σ (M.full ρ):=by rw[<-E5];exact R.wz
noncomputable def uz(F:Hp)(S:O aD):Hp:=λa=>if a∈S then L else F a
def uX(h:a∈S):uz F S a=L:=cb h
def jT(h:a∉S):uz F S a=F a:=cv h
def IW(R:Rl K Fz H₀ F H σ ρ)(h:zX C e ρ=Y (d,fr,y))
  (k:∀v Fm P I,cz F Fm->Rl K Fz H₀ Fm H σ y->Step Fm H P I->Rep K P d v->(fr=U->ik K H I d v)->Q v I):∃B,bA C e B=Y (d,fr)/\tE K B d fr σ H Q:=by
 obtain⟨⟨d1,s⟩,N,h⟩:=bX h;dsimp only at h;by_cases c:(im d1 || s)=U
 .rw[cb c]at h;have X:d=d1/\fr=s/\y=ρ:=by simp_all
  obtain⟨i,j,l⟩:=X;subst i j l;obtain⟨x,D,t⟩:=R.hZ;refine⟨_,N,x,t.step.good,t.full,λv F1 g A r f=>?_⟩;have b:=Step.shrink R.step.good D A
  cases E:im d with
  |true=>exact k v F _ g (cz.refl _) R b (r.shrink R.step.good A d E) f
  |false=>
    rw[E]at c;obtain⟨S,n,G,o⟩:=f c;have p:Step F H (fz (shr F H F1) g S) g:=by
     refine⟨(Bm (S:=S) b.good),b.ff.trans (rV b.good.sub),b.hh,λa u q nn=>?_⟩;rw[uI λm=>?_]
     .exact b.un a u q nn
     simp_all
    exact k v F _ g (cz.refl _) R p (o.l8 b.good d λa m=>m) f
 .rw[cv c]at h;obtain⟨⟨d2,z⟩,h3,h⟩:=dY h;cases h;obtain⟨w,s2,R2⟩:=R.freeze _;exact⟨_,h3,w,R2.step.good,R2.wz,λv P I A r f=>k v w P I s2 R2 A r f⟩
def Bq(R:Rl K I H₀ F H σ ρ)(h:zX C e ρ=Y (d,fr,g))
  (k:∀v Fm B y,cz F Fm->Rl K I H₀ Fm H σ g->Step Fm H B y->Rep K B d v->(fr=U->ik K H y d v)->Q v y):gE K C e σ H Q:=
 by obtain⟨_,a,b⟩:=IW R h k;exact⟨_,d,fr,a,b⟩
end
def rm(K:Fg)(y:Hp)(g:HZ)(F:Hp)(D:Ends)(EE:XK):Out->Prop
 |.xc c f k=>∀e b j,Step y g.h e b->b j=L->EE (.ref c) (Y j) (upd b j (.xd [(f,kV k)]))
 |.nx i=>∀e b a,cz F e->Rl K y g e b a i->D.nx a b
 |.rt d l=>∀v e b,Step y g.h e b->Rep K e d v->(l=U->ik K g.h b d v)->D.rt v b
 |.rl d i=>∀v e b a,cz F e->Rl K y g e b a i->Rep K e d v->D.rt v b
def rm.mono{K:Fg}{F1:Hp}{D:Ends}(s:cz F F1)(h:rm K y g F D EE o):rm K y g F1 D EE o:=by
 cases o with
 |nx b=>exact λe i a j R=>h e i a (s.trans j) R
 |rt d l=>exact h
 |rl d b=>exact λv e i a j R=>h v e i a (s.trans j) R
 |xc c f k=>exact h
def gS(K:Fg)(C:Fs)(EE:XK)(x:Sx):TS:=λD e H=>∃c a F d b,og C x d=Y b/\Rl K c a F H e d/\rm K c a F D EE b
def gSs(K:Fg)(C:Fs)(EE:XK)(xs:O Sx):TS:=λD e H=>∃c a F d b,e9 C xs d=Y b/\Rl K c a F H e d/\rm K c a F D EE b
abbrev SS(X:Cx)(C:Fs)(EE:XK)(st:fP)(x:Sx):Prop:=PS X st (gS X.K C EE x)
abbrev BI(X:Cx)(C:Fs)(EE:XK)(st:O fP)(xs:O Sx):Prop:=yY X st (gSs X.K C EE xs)
section
variable{X:Cx}{Lu:aZ}{st:fP}{pos:rJ}
def Hk:BI X C EE [] []:=yY.imp (λ_ _ b H _ I h=>jP ⟨b,H,I,h⟩) λD b H a=>by
 obtain⟨e,c,F,f,d,h,R,k⟩:=a;cases h;exact k F H b (cz.refl _) R
def Cp(B:SS X C EE st x)(I:BI X C EE y xs):BI X C EE (st::y) (x::xs):=yY.imp (wY B I) λD q H a=>by
 refine ac λ_ s=>?_;obtain⟨j,l,F,m,n,h,R,k⟩:=a;obtain⟨o,p,h⟩:=bX h;apply s;refine⟨j,_,F,m,o,p,R,?_⟩
 cases o with
 |nx i=>exact λF1 g b s1 e=>⟨j,_,F1,_,_,h,e,k.mono s1⟩
 |rt d r=>cases h;exact k
 |rl d i=>cases h;exact k
 |xc c f t=>cases h;exact k
set_option tactic.hygienic true in
def Rc{i:T}{x:aV}{p:rJ}(S:X.N[i]?=Y x)(hv:P1 X.env.scope x)(B:(x == ("__debug__":aV))=J)(c3:(x == ("__classdict__":aV))=J):SS X C EE (.Return (Y (.Name x p)) pos) (.uq i):=
 PS.imp (M7 (mr S hv B c3)) λD t H f=>by
  obtain⟨u,j,F,w,E,h,R,k⟩:=f;obtain⟨⟨d,b⟩,y,h⟩:=dY h;cases h
  have c:w[i]?=Y (Y (d,b)):=by
   cases q:w[i]? with
   |none=>rw[q]at y;cases y
   |some z=>simp_all
  have e:rm _ u _ F D EE (.rt d b)->aat (vx i) D t H:=λk=>by
   cases b with
   |false=>
     obtain⟨v,l,r⟩:=R.val i d c;exact⟨v,l,k v F H R.step r bx⟩
   |true=>
     obtain⟨I,s⟩:=R.ow;obtain⟨v,l,A,K,g⟩:=s.own i d c;have st:Step u j (fz F H (I i)) H:=by
      refine⟨Bm R.step.good,R.step.ff.trans (rV R.step.good.sub),R.step.hh,λa o q n=>?_⟩;rw[uI λm=>?_]
      .exact R.step.un a o q n
      simp_all
     exact⟨v,l,k v _ H st (A.l8 R.step.good d λa m=>m) λ_=>⟨_,K,λa m=>(g a m).2,A⟩⟩
  unfold Sx.aaV at k;split at k
  .rename_i P _;clear y h e; subst P;obtain⟨v,l,r⟩:=R.val i d c;exact⟨v,l,k v F H t (cz.refl _) R r⟩
  .exact e k
def uk{D:Ends}(P:i≠0)(R:Rl X.K Fz y F H σ ρ)(h1:zX C xe ρ=Y (d,fr,I))(k:rm X.K Fz y F D EE (.nx (I.set i (Y (d,fr && !im d))))) :
  ∃O',bA C xe O'=Y (d,fr)/\tE X.K O' d fr σ H (λv B=>D.nx (σ.set i (Y v)) B):=by
 refine IW R h1 λv Fm A B h c st r f=>?_;have x :=k
 cases e:fr && !im d with
 |false=>
   rw[e]at x;exact x A B _ (h.trans st.ff) ((c.moved st).AJ r)
 |true=>
   rw[e]at x;simp only[ah]at e;obtain⟨S,N,E,o⟩:=f e.1;have b:Step Fm H (uz A S) B:=(by
    refine⟨⟨λa w q=>?_,λa Q q=>?_⟩,λa w q=>?_,st.hh,λa w q n=>?_⟩
    .by_cases m:a∈S
     .rw[uX m]at q;cases q
     .rw[jT m]at q;exact st.good.sub a w q
    .rw[jT λm=>?_]
     .exact st.good.tup a Q q
     .obtain⟨u,b,j⟩:=o.vE _ a m;rw[q]at b;cases b;exact j
    .rw[jT λm=>?_]
     .exact st.ff a w q
     .rw[c.step.good.sub.free (E a m)]at q;cases q
    .by_cases m:a∈S
     .exact uX m
     .rw[jT m];exact st.un a w q n);obtain⟨n,l⟩:=c.ow;refine x _ B _ (h.trans b.ff) ((c.moved b).W3 (l.moved b) o N (λa m=>⟨uX m,R.step.hh.free (E a m)⟩) P λj d2 _ q a m1 m2=>?_);obtain⟨s,p,g,_,_⟩:=l.own j d2 q;obtain⟨u,t,_⟩:=g.vE _ a m1
   simp_all
def Cz(y:i≠0)(O':∀g H Q,gE X.K C B g H Q->I g H Q):∀D g H,gS X.K C EE (.set i B) D g H->Az I (lp i) D g H:=λD g H b=>by
 refine ac λ_ q=>?_;obtain⟨o,c,F,p,e,h,R,k⟩:=b;obtain⟨⟨d,f,j⟩,l,h⟩:=dY h;cases h;obtain⟨a,m,n⟩:=uk y R l k;apply q;exact O' _ _ _ ⟨a,d,f,m,n⟩
end
end M
namespace L2
noncomputable def fO(X:Cx)(scope:n9)(cl:O (aV×aD))(N:O aV)(O':aj)(g:Hp)(C:aD)(ex:O aD):Cx:=
 { X with N:=N,s₀:=O',H₀:=g,env:=compEnvC scope cl C X.env,outer:=X.stack,stack:=X.stack,ex:=ex,fn:=λ_=>J,pn:=[],xe:=λ_ _=>False }
def Qq(X:Cx)(ifs:O aZ)(t:TT):Prop:=
 ∀(b:O (aD×lO))(s:aj)(a:St)(H:Hp)(Q:cc->Hp->Prop),Inv X b a H s->t a H Q->
  aw (aq X.prog X.w) X.A (forIn ifs U λc r=>if r=U then do let ok <-isTrue c X.env (eval c X.env);pure (jZ ok)else pure (jZ r)) (TP X b a Q) X.xe s
noncomputable def jK(g:T)(caps:O T)(y:St):St:=bH g L++caps.map λj=>(y[j]?).join
def Mj(B:TI)(C:T)(caps:O T)(g:TG)(O':TT)(F:TE):TE:=λh H Q=>B h H λo d=>∃n:T->T->O V->Hp->Prop,(∃m,n 0 m [] d)/\∀i m e H,n i m e H->
 (o.stop i H/\Z e<=aF/\∀p,H p=L->Q (.ref p) (upd H p (.lst e)))\/
 (o.go i H/\Z e<aF/\∀x j,o.yld i H x j->g x (jK C caps h) j λf k=>O' f k λb c=>
  if b=U then F f c λy l=>∃a,a<m/\n (i+1) a (e++[y]) l else ∃a,a<m/\n (i+1) a e c)
structure kg(X:Cx)(scope:n9)(tn cn:O aV)(caps:O T):Prop where
 kind:scope.kind=.function
 nocell:∀y∈scope.names,y.2≠.cell
 locs:∀y∈scope.names,y.2=.local->scope.names.lookup y.1=Y .local
 frees:∀y∈scope.names,y.2=.free->X.env.kindOf y.1=Y .cell\/X.env.kindOf y.1=Y .free
 nofree:∀x,scope.names.lookup x=Y .free->(x,eR)∈scope.names
 caps:caps.map (λj=>X.N[j]?)=cn.map Y
 capk:∀x∈cn,X.env.kindOf x=Y .cell\/X.env.kindOf x=Y .free
 capn:∀x∈cn,scope.names.lookup x=Y .free
theorem wX{env:B6}(x:aV):∀names:O (aV×mj),(names.map λ(n,k)=>if(k == eR && env.scope.kind == .function && env.kindOf n == Y .cell)then(n,nF)else(n,k)).lookup x =
  (names.lookup x).map λk=>if(k == eR && env.scope.kind == .function && env.kindOf x == Y .cell)then nF else k
 |[]=>rfl
 |(n,k)::r=>by
   by_cases a:x=n
   .subst a;simp only[az,List.lookup_cons_self,cT];split<;>simp
   .have b:(x == n)=J:=by simpa using a
    rw[dP,b,<-wX x r,az];dsimp only;split<;>rw[dP,b]
def qi(x:aV):(relabel scope env).names.lookup x=(scope.names.lookup x).map λk=>if(k == eR && env.scope.kind == .function && env.kindOf x == Y .cell)then nF else k:=wX x _
def AU{scope:n9}(g:∀y∈scope.names,y.2≠nF)(h:(relabel scope env).names.lookup x=Y .cell\/(relabel scope env).names.lookup x=Y .free):scope.names.lookup x=Y .free:=by
 rw[qi]at h
 cases q:scope.names.lookup x with
 |none=>rw[q]at h;simp at h
 |some k=>
   rw[q]at h;simp only[cT,i6]at h;by_cases a:k=.free
   .rw[a]
   .have b:(k == eR)=J:=by simpa using a
    rw[b]at h
    rcases h with h|h
    .subst h;exact absurd rfl (g _ (iP q))
    .exact absurd h a
section
variable{X:Cx}{h_:O (aD×lO)}{σ:St}{H:Hp}
theorem r8{env:B6}:∀(names:O (aV×mj)) (C:O (aV×aD)),(∀y∈names,y.2=.free->∃c,env.cells.lookup y.1=Y c)->(∀n c,C.lookup n=Y c->env.cells.lookup n=Y c)->
  ∃cl:O (aV×aD),(forIn (m:=B3) names C λx r=>if(x.2 == eR)=U then do let a <-cellOf env x.1;pure (jZ ((x.1,a)::r))else pure (jZ r))=pure cl/\(∀n c,cl.lookup n=Y c->env.cells.lookup n=Y c)/\
   (∀n c,C.lookup n=Y c->∃B,cl.lookup n=Y B)/\∀n,(n,eR)∈names->∃c,cl.lookup n=Y c
 |[],C,_,o=>⟨C,W,o,λn c e=>⟨c,e⟩,λn z=>nomatch z⟩
 |(n,k)::r,C,p,o=>by
   by_cases q:k=.free
   .subst q;obtain⟨c,t⟩:=p (n,.free) jB W
    have b:cellOf env n=pure c:=by
     unfold cellOf;rw[t]
    obtain⟨cl,e,f,g,h⟩:=r8 r ((n,c)::C) (λy i=>p y (jU _ i)) (λm d e=>by
     grind)
    refine⟨cl,?_,f,λm d u=>?_,λm j=>?_⟩
    .rw[yt];simp only[e8,ek,b,pure_bind];exact e
    .by_cases l:m=n
     .simp_all
     .have:(m == n)=J:=by simpa using l
      exact g m d (by rw[dP,this];exact u)
    .rcases ak.mp j with z|z
     .simp_all
     .exact h m z
   .have w:(k == eR)=J:=by simpa using q
    refine ac λ_ s=>?_;obtain⟨cl,e,f,g,h⟩:=r8 r C (λy i=>p y (jU _ i)) o;apply s;refine⟨cl,?_,f,g,λm j=>?_⟩
    .simp_all
    .rcases ak.mp j with z|z
     .grind
     .exact h m z
def x5(ok:X.Ok)(S:kg X scope g B caps):∃cl:O (aV×aD),closureFor scope X.env=pure cl/\(∀n c,cl.lookup n=Y c->X.env.cells.lookup n=Y c)/\∀n,(n,eR)∈scope.names->∃c,cl.lookup n=Y c:=by
 obtain⟨cl,e,a,_,b⟩:=r8 _ [] (λy d f=>ok.has _ (S.frees y d f)) (λn c e=>by simp at e);refine⟨cl,?_,a,b⟩;unfold closureFor;rwa[bind_pure]
def Inv.Hf{D:aD}(I:Inv X h_ σ H s)(B:sk X h_ H D)(hs:X.s₀.heap.objs.size<=D)(y:kL X.prog X.w (upd H D o) s.heap D o):Inv X h_ σ (upd H D o) s:=by
 obtain⟨g,h,C,_,t,A⟩:=B
 have f:∀b a,X.s₀.heap.get? b=Y a->b≠D:=λb a e z=>by
  clear I y g h C left t A; subst z;exact absurd (aQ (hl9 e) hs) (bE _)
 refine⟨I.ok,I.os,I.bare,⟨I.base.keep,I.base.slot,λb a e n i=>?_,I.base.there,λb E e=>?_,λb a u e=>?_⟩,I.loc,I.cell,?_,λx c e=>?_,λp d=>?_,λb u e=>?_,I.len⟩
 .rw[cA (f b a e)];exact I.base.free b a e n i
 .rw[cA (iq (I.base.tups b E e) g)];exact I.base.tups b E e
 .rw[cA (iq (I.base.frzs b a u e) g)];exact I.base.frzs b a u e
 .rw[cA (dn h)];exact I.free
 .rw[cA (t x c e)];exact I.freeC x c e
 .obtain⟨j,k,l,m,r⟩:=I.pin p d;exact⟨j,by rwa[cA (A p d)],l,m,r⟩
 .by_cases F:b=D
  .clear I hs g h C left t A f; subst F;rw[bN]at e;cases e;exact y
  .rw[cA F]at e;exact(I.hok b u e).nj λ_ q=>q
def qu{iter:aZ}{ifs:O aZ}(J':T->aj->Prop)
  (turn:∀n s,J' n s->aw (aq prog w) A (hF it) (λr y=>match r with
   |none=>R (.ok .next) y
   |some v=>aw (aq prog w) A (gs target it v) (λ_ B=>aw (aq prog w) A (hD target env v) (λ_ F=>
     aw (aq prog w) A (forIn ifs U λc r=>if r=U then do let ok <-isTrue c env (eval c env);pure (jZ ok)else pure (jZ r)) (λok O'=>
      if ok=U then aw (aq prog w) A (eval elt env) (λx I=>
       aw (aq prog w) A (call (.builtin "list.append") [acc,x]) (λ_ C=>∃m,m<n/\J' m C) (λ_ _=>False) I) (λ_ _=>False) O'
      else ∃m,m<n/\J' m O') (λ_ _=>False) F) (λ_ _=>False) B) (λ_ _=>False) y) (λ_ _=>False) s)
  (n:T)(h:J' n s) :
  eH (aq prog w) A (.compLoop (.ListComp elt [⟨target,iter,ifs,0⟩] scope pos) 0 it acc env) R s:=by
 refine codeAny_loop W J' (λn s i=>?_) n h;apply wpAny_noted;rw[compTurn_list];refine wb9 (m6 (wb9 (bC (turn n s i) (λr y a=>?_) λ_ _ j=>j.elim)))
 cases r with
 |none=>exact wu9 a
 |some v=>
   refine wb9 (bC a (λ_ B d=>?_) λ_ _ j=>j.elim);refine wb9 (bC d (λ_ F e=>wb9 (bC e (λok O' b=>?_) λ_ _ j=>j.elim)) λ_ _ j=>j.elim)
   cases ok with
   |false=>exact wu9 ⟨W,b⟩
   |true=>
     exact wb9 (wb9 (bC b (λx I f=>wb9 (bC f (λ_ C g=>wu9 (wu9 ⟨W,g⟩)) λ_ _ j=>j.elim)) λ_ _ j=>j.elim))
def rB(y:T)(g:TG):Prop:=∀x σ H Q,g x σ H Q->g x σ H λa b=>Q a b/\Z a=Z σ/\∀i,y<=i->a[i]?=σ[i]?
def wC(h:i<g):rB g (lp i):=λx σ H Q q=>by
 refine⟨q,by simp,λj a=>?_⟩;rw[dc (λz=>(a9 h (aa a (af z.symm))))]
def yi(y:T)(g:V5):Prop:=∀b σ H Q,g b σ H Q->g b σ H λa c=>Q a c/\Z a=Z σ/\∀i,y<=i->a[i]?=σ[i]?
def xN:∀x σ H Q y,(∀g B,Q g B->y g B)->lp i x σ H Q->lp i x σ H y:=λ_ _ _ _ _ h q=>h _ _ q
def BE(X:Cx)(h_:O (aD×lO))(σ:St)(Q:VK)(O':ai)(C:aD)(r:Result)(g:aj):Prop:=
 r=.ok .next/\∃D a,O'=.ref D/\(∃m,g.heap.Ns C m)/\Inv X h_ σ a g/\sk X h_ a C/\Q (.ref D) a
def xZ{iter:aZ}{ifs:O aZ}{cl:O (aV×aD)}
  (hcalm:X.calm=U)(S:kg X scope tn cn caps)(O':∀n c,cl.lookup n=Y c->X.env.cells.lookup n=Y c)(hhas:∀n,(n,eR)∈scope.names->∃c,cl.lookup n=Y c)
  (hg:∀(cl:O (aV×aD))(B:aj)(c3:Hp)(C:aD)(ex:O aD),PG (fO X scope cl (tn++cn) B c3 C ex) tg g)(touch:rB tn.length g)
  (ht:∀(cl:O (aV×aD))(B:aj)(c3:Hp)(C:aD)(ex:O aD),Qq (fO X scope cl (tn++cn) B c3 C ex) ifs tt)
  (he:∀(cl:O (aV×aD))(B:aj)(c3:Hp)(C:aD)(ex:O aD),PE (fO X scope cl (tn++cn) B c3 C ex) elt te)
  (hi:PIE X h_ σ tg (λJ' H1=>∃e0:T->T->O V->Hp->Prop,(∃m,e0 0 m [] H1)/\∀i m ys H,e0 i m ys H->
   (J'.stop i H/\Z ys<=aF/\∀p,H p=L->Q (.ref p) (upd H p (.lst ys)))\/
   (J'.go i H/\Z ys<aF/\∀x H',J'.yld i H x H'->g x (jK tn.length caps σ) H' λσ2 H2=>tt σ2 H2 λb H3=>
    if b=U then te σ2 H3 λy H4=>∃m',m'<m/\e0 (i+1) m' (ys++[y]) H4 else ∃m',m'<m/\e0 (i+1) m' ys H3)) itv B) :
  aw (aq X.prog X.w) X.A (newList []) (λacc s₃=>aw (aq X.prog X.w) X.A (newFunctionEnv scope X.env.globals cl [] X.env.qual L .none (Y X.env)) (λcenv s₄=>
   eH (aq X.prog X.w) X.A (.compStart (.ListComp elt [⟨tg,iter,ifs,0⟩] scope pos) 0 itv acc { cenv with scope:=relabel scope X.env }) (BE X h_ σ Q acc cenv.locals) s₄) E s₃) E B:=by
 refine ac λ_ kq=>?_;obtain⟨it,fp,tnn,J',H2,e,f,T',st2,f2,e0,⟨m0,w0⟩,turn⟩:=hi;subst e;apply kq;refine dI (wpAny_newFunctionEnv S.nocell (by intro y hy;simp at hy) (λh₁ L' t=>?_) S.kind);generalize hH2:B.heap.push { cls:=.type _,dict:=L,data:=.seq _ }=G2 at L' t ⊢;have hC:G2.objs.size=B.heap.objs.size+1:=by rw[<-hH2,fR]
 have hDC:B.heap.objs.size≠G2.objs.size:=by rw[hC];exact a7 (iX _)
 have old :=λb o e=>t.extBut b o (by rw[hC];exact a7 (lz (hl9 e))) (hp9 _ (hH2▸hp9 _ e));have hacc :=t.extBut _ _ hDC (hp9 _ (hH2▸aC _ W));generalize s:B.heap.objs.size=D at *;generalize hCd:G2.objs.size=C at *;have R:D<C:=by rw[hC];exact iX _
 have hDD :=s;have yw:∀b o,B.heap.get? b=Y o->b<D:=λb o e=>s▸hl9 e;have fresh:∀a,D<=a->H2 a=L:=λa h=>f.hok.fresh (s▸h);have M:∀b∈fp,b<D:=λb hb=>by obtain⟨o,e,_⟩:=T'.obj 0 _ st2 b hb;exact yw b o e
 have frL:∀b∈pP _,b<D:=λb hb=>by
  obtain⟨_,o,ho,_⟩:=f.stack.mem hb;exact yw b o ho
 have clL:∀x c,cl.lookup x=Y c->c<D:=λx c e=>by
  obtain⟨v,q⟩:=f.cell x c (O' x c e);exact s▸q.lt
 let e4 :=fO X scope cl (tn++cn) B H2 C fp
 have okY:e4.Ok:=by
  refine⟨f.ok.mod,S.kind,f.ok.glob,f.ok.blt,(aK (aA (af hDD) R)),λx y c h1 h2=>f.ok.inj x y c (O' x c h1) (O' y c h2),λx hx=>?_,(λx c h=>nomatch h),f.ok.hd,f.ok.frames,.inl rfl,λb hb=>⟨(a7 (de (M b hb) R)),λx c e=>((f2 b hb).2.2.2.2.1 x c (O' x c e))⟩,λb o e=>f.bs b o e,(aa f.ok.bsz f.sz),λb o e hb=>?_,λb hb z=>?_,f.stack,f.AB⟩
  .exact hhas x (S.nofree x (AU S.nocell hx))
  .rcases(f2 b hb).2.2.2.1 with z|z
   .exact f.ok.noex b o e z
   .exact absurd (aQ (aQ (hl9 e) f.ok.bsz) z) (bE _)
  .rcases ak.mp (f.wF b z)with q|q
   .exact (f2 b hb).2.1 q
   .exact (f2 b hb).2.2.1 q
 have invY:∀(s':aj) (m:aV->a5 ai),s'.os=B.os->mn _->(∀b o,B.heap.get? b=Y o->s'.heap.get? b=Y o)->s'.heap.Ns C m->(∀(i:T) (x:aV) (v:V),(tn++cn)[i]?=Y x->(jK tn.length caps σ)[i]?=Y _->P1 _ x->∃u,RelV v u/\Look _ _ m x u)->
   Inv e4 (X.pn++h_) (jK _ _ σ) H2 s':=λs' m ho hb hk hn hl=>by
  refine⟨okY,ho,hb,Un.kept hk,⟨m,hn,hl⟩,λx c e=>?_,fresh C (aK R),λx c e=>f.freeC x c (O' x c e),λp hp=>?_,f.hok.kept hk,?_⟩
  .obtain⟨v,q⟩:=f.cell x c (O' x c e);exact⟨v,q.keeps hk⟩
  .obtain⟨q1,q2,q3,q4,q5⟩:=f.pin p (by simpa [e4,fO]using hp);refine⟨hk _ _ q1,q2,(a7 (de (yw _ _ q1) R)),λz=>?_,q5⟩
   .rcases ak.mp (f.wF _ z)with w|w
    .exact q3 w
    .exact q4 w
  .show(jK _ _ σ).length=Z (tn++cn);have e:=c7 iD S.caps;simp only[aE]at e;simp[jK,e]
 have loop:∀s₃:aj,s₃={ B with heap:=h₁,toks:=B.toks+Z ([]:O (aV×ai)) }->
   eH (aq X.prog X.w) X.A (.compLoop (.ListComp elt [⟨tg,iter,ifs,0⟩] scope pos) 0 (.ref it) (.ref D) (compEnvC scope cl C X.env)) (BE X h_ σ Q (.ref D) C) s₃:=by
  rintro s₃ rfl
  have I3:Inv e4 (X.pn++h_) (jK tn.length caps σ) H2 { B with heap:=h₁,toks:=B.toks+Z ([]:O (aV×ai)) }:=by
   refine invY _ _ W f.bare old L' λi x v e1 e2 e3=>?_
   have hi:Z tn<=i:=by
    by_cases hi:Z tn<=i
    .exact hi
    .unfold jK at e2;rw[aO (by simpa using hi),cO]at e2;split at e2<;>cases e2
   unfold jK at e2;rw[aG (by simpa using hi),gW]at e2;rw[aG hi]at e1;rw[aS]at e2
   cases hj:caps[i - Z tn]? with
   |none=>rw[hj]at e2;cases e2
   |some j=>
     rw[hj]at e2;have e2':(σ[j]?).join=Y v:=bh e2
     have hσ:σ[j]?=Y (Y v):=by
      cases q:σ[j]? with
      |none=>rw[q]at e2';cases e2'
      | some z=>rw[q]at e2';clear q; cases z with
        |none=>cases e2'
        |some z=>exact c7 Y e2'
     have hN:X.N[j]?=Y x:=by
      have e:=c7 (λl=>l[i - Z tn]?) S.caps;simp only[aS,hj,e1,cT]at e;exact bh e
     have hk:=S.capk x (aY e1);obtain⟨m,hn,hl⟩:=f.loc;obtain⟨u,ru,l⟩:=hl j x v hN hσ (hk.elim (λz=>.inr (.inl z)) λz=>.inr (.inr z));refine⟨u,ru,.inr ?_⟩
     rcases l with⟨k,_⟩|⟨k,c,ec,hcell⟩
     .rw[k]at hk;rcases hk with z|z<;>cases z
     .
      rcases e3 with z|z|z
      .
       exact absurd z ((show (relabel _ _).names.lookup x≠Y _ by rw[qi,(S.capn x (aY e1))];simp only[cT,ne_eq,i6];split<;>(intro z;cases z)))
      .obtain⟨c',I⟩:=okY.has x (.inl z);have ecc :=bh ((O' x c' I).symm.trans ec);rw[ecc]at I;exact⟨.inl z,c,I,hcell.keeps old⟩
      .obtain⟨c',I⟩:=okY.has x (.inr z);have ecc :=bh ((O' x c' I).symm.trans ec);rw[ecc]at I;exact⟨.inr z,c,I,hcell.keeps old⟩
  have pinD:∀{F:St} {H':Hp} {s':aj} {its:O ai} {n:T},Inv e4 _ F H' s'->H' D=L->s'.heap.get? D=Y { cls:=.type _,data:=.seq _ n }->
    Inv e4 ((X.pn++h_)++[(D,{ cls:=.type "list",data:=.seq its.toArray n })]) F H' s':=λ{F H' s' its n}I' hn hd=>by
   refine I'.tj λp hp=>?_
   rcases aH.mp hp with z|z
   .exact I'.pin p (aB _ z)
   .have e:=ax.mp z;subst e;exact⟨hd,hn,hDC,λz=>absurd (frL D z) (bE _),(λv z=>nomatch z)⟩
  have fpD:∀{H':Hp},H' D=L->∀b,b=D->sk e4 (X.pn++h_) H' b:=λ{H'}hn b hb=>by
   subst hb;refine⟨hn,hDC,λz=>absurd (frL b z) (bE _),.inr (af s),λx c e z=>?_,λp hp z=>?_⟩
   .have:=clL x c e;rw[z]at this;exact absurd this (bE _)
   .have:=yw _ _ (f.pin p (by simpa [e4,fO]using hp)).1;rw[z]at this;exact absurd this (bE _)
  have stat:∀{H':Hp}{pl:O _},(∀b∈fp,H' b=L)->(∀p∈pl,p.1=D)->∀b∈fp,sk e4 ((X.pn++h_)++pl) H' b:=λ{H' pl}hn hpl b hb=>by
   obtain⟨g0,g1,g2,g3,g4,g5⟩:=f2 b hb;refine⟨hn b hb,(a7 (de (M b hb) R)),λz=>?_,.inl hb,λx c e=>g4 x c (O' x c e),λp hp z=>?_⟩
   .rcases ak.mp (f.wF b z)with w|w
    .exact g1 w
    .exact g2 w
   .have G:p∈(X.pn++h_)++pl:=by simpa [e4,fO]using hp
    rcases aH.mp G with w|w
    .exact g5 p w z
    .have h2:=M b hb;rw[<-z,(hpl p w)]at h2;exact absurd h2 (bE _)
  refine qu (λn s'=>∃(i:T) (ys:O V) (its:O ai) (k:T) (H':Hp),Inv e4 _ (jK _ _ σ) H' s'/\H' D=L/\s'.heap.get? D=Y { cls:=.type _,data:=.seq its.toArray k }/\cX ys its/\
   tnn i s'.heap/\(∀b∈fp,H' b=L)/\e0 i n ys H') ?_ m0 ⟨0,[],[],0,H2,I3,fresh D (ao _),hacc,.nil,T'.keep _ _ _ st2 λb hb o e=>old b o e,λb hb=>(f2 b hb).1,w0⟩
  rintro n s4 ⟨i,ys,its,k,H4,I4,hD4,ho4,rv4,st4,fr4,w4⟩;have I4':=pinD I4 hD4 ho4
  have pl1:∀p∈[((D,{ cls:=.type "list",data:=.seq its.toArray k }):aD×lO)],p.1=D:=λp hp=>by
   rw[ax.mp hp]
  rcases turn i n ys H4 w4 with⟨stop,hz,qn⟩|⟨go,hz,step⟩
  .
   refine jc (T'.done e4 W rfl rfl hcalm i _ s4 _ H4 _ I4' (stat fr4 pl1) st4 stop) λr s5 w7=>?_;refine ac λ_ kq=>?_;obtain⟨rfl,I5⟩:=w7;have hd5:=(I5.pin (D,{ cls:=.type _,data:=.seq _ k }) (aB _ (aB _ (ax.mpr W)))).1;have U' :=I5.oo;have up:∀a,D<=a->H4 a=L->sk X h_ H4 a:=λa ha hn=>by
    refine⟨hn,?_,λz=>?_,.inr ?_,λx c e z=>?_,λp hp z=>?_⟩
    .have h1:=f.lt;intro z;rw[<-z,s]at h1;exact absurd (aQ h1 ha) (bE _)
    .exact f.abj (by rwa[s]) z
    .exact aa f.sz (by rwa[s])
    .obtain⟨v,q⟩:=f.cell x c e;have h1:=q.lt;rw[z,s]at h1;exact absurd (aQ h1 ha) (bE _)
    .have h1:=yw _ _ (f.pin p hp).1;rw[z]at h1;exact absurd (aQ h1 ha) (bE _)
   have J6:Inv X h_ σ (upd H4 D (.lst ys)) s5:=(f.VV U'.os U'.base U'.hok U'.bare λb hb=>⟨(f2 b hb).2.2.2.1,(f2 b hb).2.1,(f2 b hb).2.2.2.2.1,(f2 b hb).2.2.2.2.2⟩).Hf (up D (ao _) hD4) (by have h1:=f.sz;rwa[s]at h1) ⟨hz,_,k,rv4,hd5⟩;obtain⟨m5,hn5,_⟩:=U'.loc;apply kq;refine⟨W,D,upd H4 D _,W,⟨m5,hn5⟩,J6,?_,qn D hD4⟩;obtain⟨u0,u1,u2,u3,u4,u5⟩:=up C (aK R) U'.free;exact⟨by rwa[cA (dn hDC)],u1,u2,u3,u4,u5⟩
  .refine jc (T'.item e4 W rfl rfl hcalm i _ s4 _ H4 _ I4' (stat fr4 pl1) st4 go) λr s5 z0=>?_;obtain⟨u,rfl,h5⟩:=z0;refine jc h5 λ_ s6 z1=>?_;refine ac λ_ kq=>?_;obtain⟨x,H6,I6,r6,y6,st6,fr6⟩:=z1;apply kq;refine jc (hg cl B H2 C fp _ s6 _ H6 x u _ (I6.pinned (stat fr6 pl1) (T'.obj _ _ st6)) r6 (touch _ _ _ _ (step x H6 y6))) λ_ s7 z7=>?_
   refine ac λ_ kq=>?_;obtain⟨σ7,H7,I7,q7,l7,e7⟩:=z7;apply kq;have back:∀{H':Hp} {s':aj} {ys':O V} {P:O ai} {k':T} {n':T},Inv e4 (X.pn++h_++nX fp _) _ H' s'->H' D=L->s'.heap.get? D=Y { cls:=.type "list",data:=.seq _ k' }->cX ys' P->e0 _ n' _ H'->
     ∃(i:T) (ys:O V) (its:O ai) (k:T) (H':Hp),Inv e4 _ (jK _ _ σ) H' s'/\H' D=L/\s'.heap.get? D=Y { cls:=.type _,data:=.seq its.toArray k }/\cX ys its/\tnn i _/\(∀b∈fp,H' b=L)/\e0 i n' ys H':=
    λ{H' s' ys' P k' n'}I' hd ho rv w=>by
     refine⟨_,_,P,k',H',(I'.oo).weak (by rw[l7]) (λj v hj=>?_),hd,ho,rv,T'.keep _ _ _ st6 λb hb o e=>(I'.pin _ (aB _ (aB _ (ph hb e)))).1,λb hb=>?_,w⟩
     .have hj':Z tn<=j:=by
       by_cases hj':Z tn<=j
       .exact hj'
       .unfold jK at hj;rw[aO (by simpa using hj'),cO]at hj;split at hj<;>cases hj
      rwa[e7 j hj']
     .obtain⟨o,e,d⟩:=T'.obj _ _ st6 b hb;exact(I'.pin _ (aB _ (aB _ (ph hb e)))).2.1
   have K:∀{F:St}{H':Hp}{s':aj},Inv e4 (((X.pn++h_)++[(D,{ cls:=.type "list",data:=.seq its.toArray k })])++nX fp s6.heap) F H' s'->s'.heap.get? D=Y _/\H' D=L:=λI'=>by
    obtain⟨q1,q2,_⟩:=I'.pin _ (aB _ (aJ _ (aB _ (ax.mpr W))));exact⟨q1,q2⟩
   have dropD:∀{F:St}{H':Hp}{s':aj},Inv e4 (((X.pn++h_)++[(D,{ cls:=.type "list",data:=.seq its.toArray k })])++nX fp s6.heap) F H' s'->Inv e4 _ F H' s':=λI'=>
    I'.tj λp hp=>I'.pin p (aB _ (by
     rcases aH.mp hp with z|z
     .exact aJ _ (aJ _ z)
     .exact aB _ z))
   refine jc (ht cl B H2 C fp _ s7 _ H7 _ I7 q7) λb s8 q0=>?_
   obtain⟨H8,I8,q8⟩:=q0;cases b with
   |false=>
     refine ac λ_ kq=>?_;obtain⟨m',hm,w8⟩:=q8;apply kq;exact⟨m',hm,back (dropD I8) (K I8).2 (K I8).1 rv4 w8⟩
   |true=>
     refine jc (he cl B H2 C fp _ s8 _ H8 _ I8 q8) λv s9 w1=>?_;refine ac λ_ kq=>?_;obtain⟨y,H9,I9,r9,m',hm,w9⟩:=w1;obtain⟨ho9,hD9⟩:=K I9;apply kq;refine wpAny_list_append_plain (hsz:=aK (aA (af rv4.length.symm) hz)) ⟨k,ho9⟩ λh' hl' hs'=>?_;obtain⟨k',hk'⟩:=hl';have I10:Inv e4 (X.pn++h_++nX fp s6.heap) σ7 H9 { s9 with heap:=h' }:=by
      refine (dropD I9).turned (λb o hb e=>hs'.extBut b o hb e) hD9 hDC (.inr (af s)) (fpD hD9 D W).2.2.2.2.1 λp hp=>?_;have G:p∈X.pn++h_++nX fp s6.heap:=by simpa [e4,fO]using hp
      rcases aH.mp G with z|z
      .exact a7 (yw _ _ (f.pin p z).1)
      .exact a7 (M _ (zH z).1)
     refine⟨m',hm,back (k':=k') I10 hD9 ?_ (rv4.append (.cons r9 .nil)) w9⟩;simpa using hk'
 exact codeAny_compStart_list (loop _ W) (T'.self _ 0 _ _ _ (T'.keep _ _ _ st2 λb hb o e=>old b o e) (loop _ W))
def FL{iter:aZ}{ifs:O aZ}{c3:rJ}(hN:X.N.Nodup)(hi':X.N[i]?=Y x)(hx:Loc X.env.scope x)
  (e0:X.calm=U)(S:kg X scope tn cn caps)(hi:PI X tg iter wi)
  (hg:∀(cl:O (aV×aD))(B:aj)(O':Hp)(C:aD)(ex:O aD),PG (fO X scope cl (tn++cn) B O' C ex) tg g)(touch:rB tn.length g)
  (ht:∀(cl:O (aV×aD))(B:aj)(O':Hp)(C:aD)(ex:O aD),Qq (fO X scope cl (tn++cn) B O' C ex) ifs tt)
  (he:∀(cl:O (aV×aD))(B:aj)(O':Hp)(C:aD)(ex:O aD),PE (fO X scope cl (tn++cn) B O' C ex) elt te)
  (hsw:fo (.ListComp elt [⟨tg,iter,ifs,0⟩] scope pos) (Y (.Name x pos')) c3.line X.env=pure U)
  (hs:∀x,eu iter X.env x=pure x)(hf:X.fn x=U\/X.env.scope.names.lookup x=Y .local) :
  PS X (.Assign [.Name x pos'] (.ListComp elt [⟨tg,iter,ifs,0⟩] scope pos) c3) (Az (Mj wi tn.length caps g tt te) (lp i)):=by
 intro h_ s σ H D I h;obtain⟨cl,j,h1,h2⟩:=x5 I.ok S;rw[exec_Assign_Name_used _ _ _ _ hsw];refine wb9 (m6 (wb9 ?_));refine wb9 (bC (JA W hs j S.kind S.locs (jc (hi h_ s σ H _ I h) λv s1 w=>jc w λitv s2 k=>?_)) (λ_ s' y=>wu9 (wu9 y)) λ_ _ e=>e);refine bC (xZ (Q:=λx A=>lp i x σ A _) e0 S h1 h2 hg touch ht he k) (λE s3 F=>bC F (λa U' G=>iQ G λr K L'=>?_) λ_ _ z=>z) λ_ _ z=>z;clear e0 S hi hg touch ht he hsw hs I h j h1 h2 w k F G; obtain⟨rfl,M,H',rfl,⟨m,P⟩,J',c,q⟩:=L';apply hL;refine ac λ_ e1=>?_;obtain⟨f,es,ep,l,d,n⟩:=id P
 apply e1;have R:Inv X (h_++[(a.locals,f)]) σ H' K:=J'.tj λp hp=>by
  rcases aH.mp hp with z|z
  .exact J'.pin p (aB _ z)
  .have e:p=(a.locals,f):=by simpa using z
   subst e;exact⟨l,c.1,c.2.1,c.2.2.1,λv z=>by rw[d]at z;cases z⟩
 refine qg R hN hi' hx (v:=.ref M) W (λV u=>?_) hf;have T':=(u.pin (a.locals,f) (by simp)).1;exact⟨m,⟨f,es,ep,T',d,n⟩,λh' t=>⟨_,H',((u.oo).turned (λb o hb e=>t.extBut b o hb e) c.1 c.2.1 c.2.2.2.1 c.2.2.2.2.1 c.2.2.2.2.2),q⟩⟩
end
end L2
namespace M
open L2
def kM(K:Fg)(F1:Hp)(J':It)(items:O Dat):Prop:=∀F H,Good F H->cz F1 F->
 (∀(i:T)d,items[i]?=Y d->J'.go i H/\∀x a,J'.yld i H x a->∃b,Step F H b a/\Rep K b d x)/\∀i,Z items<=i->J'.stop i H
noncomputable def xO(x:Iw)(F:Hp):Hp:=match x with
 |.rng _=>λ_=>L
 |_=>F
def DH(h:cz F g):cz (xO x F) g:=by
 unfold xO;split
 .intro a o e;cases e
 .exact h
def gI(K:Fg)(C:Fs)(x:Iw):TI:=λc H R=>∃b items F,Br C x b=Y items/\Good F H/\oK K F c b/\∀d F1 a,Step F H F1 a->kM K (xO x F1) d items->R d a
abbrev SI(X:Cx)(C:Fs)(tg iter:aZ)(x:Iw):Prop:=PI X tg iter (gI X.K C x)
noncomputable def Its(x:aV):It:=⟨λi _=>i<x.cps.size,λi H v a=>a=H/\∃c,x.cps[i]?=Y c/\v=V.str ⟨#[c]⟩,λi _=>x.cps.size<=i⟩
def L9{K:au}(x:aV)(t:JE)(it:aD):Turn P w K tg (Its x) [it] it (λi h=>h.IsStrIter it "str_ascii_iterator" x t i) where
 mem:=by simp
 obj:=λi h F b N=>by
  have e:b=it:=by simpa using N
  subst e;obtain⟨o,e,c,d⟩:=F;exact⟨o,e,λv z=>by rw[d]at z;cases z⟩
 keep:=λi h Q F k=>by
  obtain⟨o,e,c,d⟩:=F;exact⟨o,k it (by simp) o e,c,d⟩
 item:=by
  intro X g j l S i h_ s σ H E I R F a;subst g j l;obtain⟨m,n,A,p,q,r⟩:=R it (by simp);have y:x.cps[i]?=Y (x.cps[i]'a):=a8 a;refine wpAny_pyNext_ascii_item F y λQ f B=>?_;have C:Inv X h_ σ H { s with heap:=Q,toks:=s.toks+1 }:=I.turned (λb o N e=>(B.2 b N).trans e) m n p q r;obtain⟨o,e,c,d⟩:=id f;exact⟨_,W,xK (s:={ s with heap:=Q,toks:=s.toks+1 }) e c d cV ⟨.str ⟨#[x.cps[i]'a]⟩,H,C,⟨_,W⟩,⟨W,_,y,W⟩,f,λb N=>(R b N).1⟩⟩
 done:=by
  intro X g j l S i h_ s σ H E I R F a;subst g j l;obtain⟨m,n,A,p,q,r⟩:=R it (by simp);have u:x.cps.size<=i:=a;exact wpAny_pyNext_ascii_end (I.ok.hd S) F (ja u) λQ D=>⟨W,I.turned (t':=s.toks) (λb o N e=>D b o N e) m n p q r⟩
 self:=λ_ _ _ _ _ F h=>wpAny_pyIter_striter_ascii F h
def L6{K:au}(x:aV)(t:JE)(it:aD):Turn P w K tg (Its x) [it] it (λi h=>h.IsStrIter it "str_iterator" x t i) where
 mem:=by simp
 obj:=λi h F b N=>by
  have e:b=it:=by simpa using N
  subst e;obtain⟨o,e,c,d⟩:=F;exact⟨o,e,λv z=>by rw[d]at z;cases z⟩
 keep:=λi h Q F k=>by
  obtain⟨o,e,c,d⟩:=F;exact⟨o,k it (by simp) o e,c,d⟩
 item:=by
  intro X g j l S i h_ s σ H E I R F a;subst g j l;obtain⟨m,n,A,p,q,r⟩:=R it (by simp);have y:x.cps[i]?=Y (x.cps[i]'a):=a8 a;refine wpAny_pyNext_wide_item F y λQ f B=>?_;have C:Inv X h_ σ H { s with heap:=Q,toks:=s.toks+1 }:=I.turned (λb o N e=>(B.2 b N).trans e) m n p q r;obtain⟨o,e,c,d⟩:=id f;exact⟨_,W,xK (s:={ s with heap:=Q,toks:=s.toks+1 }) e c d cV ⟨.str ⟨#[x.cps[i]'a]⟩,H,C,⟨_,W⟩,⟨W,_,y,W⟩,f,λb N=>(R b N).1⟩⟩
 done:=by
  intro X g j l S i h_ s σ H E I R F a;subst g j l;obtain⟨m,n,A,p,q,r⟩:=R it (by simp);have u:x.cps.size<=i:=a;exact wpAny_pyNext_wide_end (I.ok.hd S) F (ja u) λQ D=>⟨W,I.turned (t':=s.toks) (λb o N e=>D b o N e) m n p q r⟩
 self:=λ_ _ _ _ _ F h=>wpAny_pyIter_striter_wide F h
def aed(g:TE):TI:=λb H R=>g b H λv a=>∃x,v=.str x/\R (Its x) a
def Ni(B:PE X l C):PI X tg l (aed C):=by
 intro i s k H R I h;refine jc (B i s k H _ I h) λv s1 g=>?_;obtain⟨y,c,a,d,f⟩:=g;obtain⟨x,rfl,q⟩:=f;obtain⟨t,rfl⟩:=d
 have fin:∀b∈[s1.heap.objs.size],sk X i c b:=λb m=>by
  have e:b=s1.heap.objs.size:=by simpa using m
  subst e;exact a.vC (ao _) (a.hok.fresh (ao _))
 cases j:x.cps.all (·< 128)with
 |true=>exact wpAny_pyIter_ascii j ⟨_,_,_,_,c,W,a.kept λb o e=>hp9 _ e,L9 x t _,⟨_,aC _ W,W,W⟩,fin,q⟩
 |false=>exact wpAny_pyIter_wide j ⟨_,_,_,_,c,W,a.kept λb o e=>hp9 _ e,L6 x t _,⟨_,aC _ W,W,W⟩,fin,q⟩
def Dp{K:Fg}{F1:Hp}:kM K F1 (Its x) (x.cps.toList.map λc=>Dat.str ⟨#[c]⟩):=λF H g s=>by
 refine⟨λi d e=>?_,λi h=>(by simpa using h:x.cps.size<=i)⟩;rw[aS]at e;obtain⟨c,j,rfl⟩:=dY e;have a:x.cps[i]?=Y c:=by simp_all
 refine⟨(bq.mp a).1,λv k y=>?_⟩;obtain⟨rfl,b,f,rfl⟩:=y;rw[a]at f;cases f;exact⟨F,Step.refl g,W⟩
section
variable{iter:aZ}
def PI.imp(h:PI X tg iter w)(f:∀g H R,y g H R->w g H R):PI X tg iter y:=λa s g H R I q=>h a s g H R I (f _ _ _ q)
def PI.or(h:PI X tg iter w)(y:PI X tg iter B):PI X tg iter (λg H R=>w g H R\/B g H R):=λa s g H R I q=>by
 rcases q with q|q
 .exact h a s g H R I q
 .exact y a s g H R I q
def zO{K:Fg}{F1:Hp}(h:pC K F1 a B)(r:cQ K F1 ds B):kM K F1 (Itl K a) ds:=λF H g s=>by
 have b:=g.sub.seq (s.seq h);refine⟨λi d e=>?_,λi j=>⟨B,b,by rwa[r.length]⟩⟩;obtain⟨v,c,f⟩:=r.get e;refine⟨⟨B,v,b,c⟩,λx k y=>?_⟩;obtain⟨rfl,y⟩:=y;have:=y B b;rw[c]at this;clear c b y; cases this;exact⟨F,Step.refl g,f.mono s⟩
def Dm{K:Fg}{F1:Hp}(h:Tq K F1 a B)(r:cQ K F1 ds B):kM K F1 (Itt K a) ds:=λF H g s=>by
 have b:=((h.mono s).mono g.sub).sq;refine⟨λi d e=>?_,λi j=>⟨B,b,by rwa[r.length]⟩⟩;obtain⟨v,c,f⟩:=r.get e;refine⟨⟨B,v,b,c⟩,λx k y=>?_⟩;obtain⟨rfl,y⟩:=y;have:=y B b;rw[c]at this;clear c b y; cases this;exact⟨F,Step.refl g,f.mono s⟩
def WZ(h:SE X C e y):SI X C tg e (.itv y):=PI.imp (PI.or (PI.or (HL h) (Nh h)) (Ni h)) λw H R i=>by
 refine ac λ_ j=>?_;obtain⟨n,items,F,t,g,f,k⟩:=i;obtain⟨⟨d,o⟩,p,m⟩:=bX t
 apply j;clear j t; cases d with
 |lst u=>
   cases m;refine .inl (.inl ⟨n,_,o,p,F,g,f,λv F1 b l r _=>?_⟩);obtain⟨a,q,rfl,c,r⟩:=r;exact⟨a,W,⟨q,l.good.sub.seq c⟩,k _ F1 b l (zO c r)⟩
 |tup u=>
   cases m;refine .inl (.inr ⟨n,_,o,p,F,g,f,λv F1 b l r _=>?_⟩);obtain⟨a,q,rfl,c,r⟩:=r;exact⟨a,W,⟨q,(c.mono l.good.sub).sq⟩,k _ F1 b l (Dm c r)⟩
 |str x=>
   cases m;refine .inr ⟨n,_,o,p,F,g,f,λv F1 b l r _=>?_⟩;cases r;exact⟨x,W,k _ F1 b l Dp⟩
 |_=>cases m
def Oe{K:Fg}{F1:Hp}{lo:cx}:kM K F1 (Itr lo n) ((aR n).map λk:T=>Dat.int (lo+k)):=λF H g s=>by
 refine⟨λi d b=>?_,λi a=>(by simpa using a:n<=i)⟩;rw[aS]at b
 have a:i<n:=by
  by_cases a:i<n
  .exact a
  simp_all
 rw[ag (by simpa using a)]at b;simp only[tY,cT,i6]at b;subst b;refine⟨a,λx c y=>?_⟩;obtain⟨rfl,rfl⟩:=y;exact⟨F,Step.refl g,W⟩
set_option tactic.hygienic true in
def Rt(O':Gl X "range")(S:X.mg "range"=L)(ha:SA X C [a] [y])(hs:aN [a] X.env=[(J,eval a X.env)]):SI X C tg (.Call (.Name "range" p) [a] [] pos) (.rng [y]):=
 PI.imp ((show PI X tg (.Call (.Name _ p) _ [] _) (abO (gA _ C _)) by
 intro x s u H R I h;refine Call_ (mx I O' S boot_range (cU (jc (ha _ x s u H _ I h) λQ s1 l=>?_) hs W));obtain⟨A,i,c,d,b⟩:=l;obtain⟨j,rfl,b,f,q⟩:=b;cases d with
 |cons r g=>
   cases g;obtain⟨t,rfl⟩:=r;exact call_range_1 (M0 c (by simp) (by simp) b f (by simpa using q)))) λu H R c=>by
  obtain⟨B,items,F,E,g,d,k⟩:=c;obtain⟨N,o,m⟩:=bX E;refine⟨B,N,o,F,g,d,λA F1 e P r=>?_⟩;unfold FG at m;split at m
  .rename_i j;split at m
   .rename_i f;cases m;obtain⟨v,w,rfl,h,b⟩:=r;cases h;cases b;refine⟨j,W,by omega,gZ f.1 cV,k _ F1 e P ?_⟩;simpa using (Oe (K:=X.K) (F1:=xO (.rng [y]) F1) (lo:=0) (n:=j.toNat))
   .cases m
  .cases (jJ o)
  .cases (jJ o)
  .cases m
end
def Kt(h:rO f (d::ds)=Y g):∃o r,f d=Y o/\rO f ds=Y r/\g=(match o with|some y=>(y.1::r.1,(y.2 || im y.1) && r.2)|none=>r):=by
 obtain⟨o,a,h⟩:=bX h;obtain⟨r,b,h⟩:=dY h;exact⟨o,r,a,b,by cases o<;>exact h.symm⟩
def ZU(K:Fg)(B:T)(y:cc)(g:TG):Prop:=∀F H c e d x b Q,Good F H->oK K F c e->B<=Z c->Z c=Z e->Rep K F d x->Jo B y d e=Y b->(∀a,oK K F a b->Q a H)->g x c H Q
def CN{K:Fg}{g:St}{ρ:iO}(y:Z g=Z ρ)(R:oK K F g ρ)(r:Rep K F d v):oK K F (g.set i (Y v)) (ρ.set i (Y d)):=λj b q=>by
 rw[om]at q ⊢;by_cases a:i=j
 .simp_all
 .rw[cv a]at q ⊢;exact R j b q
def Q0{K:Fg}:ZU K y U (lp 0):=λF H f h d x c Q g R a e r b k=>by
 simp only[Jo,i6]at b;subst b;exact k _ (CN e R r)
def K3{K:Fg}(R:oK K F σ ρ):oK K F (jK g caps σ) (j4 g caps ρ):=λi d q=>by
 unfold j4 at q;unfold jK;by_cases e:i<g
 .rw[aO (by simpa using e),cO,cb e]at q;cases q
 .rw[aG (by simpa using e),gW,aS]at q;rw[aG (by simpa using e),gW]
  cases b:caps[i - g]? with
  |none=>rw[b]at q;cases q
  |some j=>
    rw[b]at q;have a:(ρ[j]?).join=Y d:=bh q
    have c:ρ[j]?=Y (Y d):=by
     cases z:ρ[j]? with
     |none=>rw[z]at a;cases a
     |some o=>rw[z]at a;exact c7 Y a
    obtain⟨v,f,h⟩:=R j d c
    simp_all
def gTs(K:Fg)(C:Fs)(xs:O Ex):TT:=λc H Q=>∃a b,DQ C xs a=Y b/\tT K a b c H Q
section
variable{iter:aZ}
def Ab{K:Fg}(O':ZU K nt one g)(c3:∀ρ items,Br C it ρ=Y items->True) :
  ∀σ H Q,gE K C (.comp nt one caps it xs xe) σ H Q->Mj (gI K C it) nt caps g (gTs K C xs) (gE K C xe) σ H Q:=λσ H Q z3=>by
 refine ac λ_ S=>?_;obtain⟨ρ,d,fr,h,F,g0,R,k⟩:=z3;obtain⟨items,h1,h⟩:=bX h;apply S;split at h
 .rename_i hz;refine ac λ_ S=>?_;obtain⟨⟨all,T'⟩,h2,h⟩:=dY h;cases h;apply S;refine⟨ρ,_,F,h1,g0,R,λJ' F1 U' j ok=>?_⟩;refine⟨λi m ys H'=>∃F' r u dr w,Step F1 U' F' H'/\rO (qt C nt _ (j4 nt _ ρ) xs xe) (items.drop i)=Y (dr,w)/\all=r++dr/\T'=(u && w)/\cQ K F' r ys/\(u=U->gh K U' H' r ys)/\m=Z items - i/\i<=Z items/\Z r<=i,⟨_,F1,[],U,_,T',Step.refl j.good,h2,W,W,W,λ_=>.nil,W,aU _,ao _⟩,?_⟩;rintro i m ys H' ⟨F',r,u,dr,w,st,D,ha,n,E,L',rfl,hi,y⟩;have V:Z ys<=1000000:=by rw[E.length];exact aa y (aa hi hz)
  obtain⟨M,oks⟩:=ok F' H' st.good (DH st.ff);by_cases a:i<Z items
  .obtain⟨go,yl⟩:=M i _ (ag a);refine .inr ⟨go,by exact aA V cV,λx H2 y2=>?_⟩;obtain⟨N,c,r2⟩:=yl x H2 y2;rw[fE a]at D;obtain⟨o,⟨G,I⟩,h3,e0,h5⟩:=Kt D;obtain⟨s,h6,h3⟩:=bX h3;obtain⟨b,h7,h3⟩:=bX h3;refine O' N H2 _ _ _ x s _ c.good ((K3 R).mono ((j.ff.trans st.ff).trans c.ff)) (by simp[jK]) (by simp[jK,j4]) r2 h6 λσ1 A=>?_;refine⟨s,b,h7,N,c.good,A,λX H3 f=>?_⟩
   clear O' R j r2 h6 h7; cases b with
   |true=>
     refine ac λ_ S=>?_;obtain⟨⟨l,t⟩,h8,h3⟩:=dY h3;cases h3;apply S;refine⟨s,l,t,h8,X,f.good,A.mono f.ff,λv F4 H4 q e1 f4=>?_⟩;have stA:=((st.trans c).trans f).trans q;have e5:dr=l::G/\w=((t || im l) && I):=by simp_all
     refine⟨_,nZ (ws a) (wt (aK a)),F4,_,_,G,I,stA,e0,by rw[ha,e5.1];simp,by rw[n,e5.2,zk],(E.mono ((c.ff.trans f.ff).trans q.ff)).append (.one e1),λz=>?_,W,a,by simp;omega⟩;simp only[ah,kj]at z;have B:=c.hh.trans f.hh;apply gh.snoc (st.hh.trans B) q.hh ((L' z.1).mono B)
     rcases z.2 with P|P
     .exact f4 P
     .exact .lj q.good P e1
   |false=>
     refine ac λ_ kq=>?_;cases h3;apply kq;have e5:dr=G/\w=I:=by simp_all
     exact⟨_,nZ (ws a) (wt (aK a)),X,r,u,G,I,(st.trans c).trans f,e0,by rw[ha,e5.1],by rw[n,e5.2],E.mono (c.ff.trans f.ff),λz=>(L' z).mono (c.hh.trans f.hh),W,a,dA y⟩
  .have e :=aI hi (cB a);subst e;refine .inl ⟨oks _ (ao _),qG V,λp hp=>?_⟩;rw[vR]at D;cases D;rw[aW]at ha;rw[mo]at n;subst ha n;exact k _ _ _ ((j.trans st).trans (Step.alloc st.good hp)) ⟨p,ys,W,.inl (.inl bN),(E.mono (cz.upd (o:=.lst ys) (st.good.sub.free hp)))⟩ λz=>.lst (j.hh.trans st.hh) hp ((L' z).back (F:=F) j.hh)
 .cases h
end
def oB{K:Fg}(h:rR d=Y k)(r:Rep K F d v):v=kV k:=by
 cases d with
 |int i=>cases h;exact r
 |str x=>cases h;exact r
 |_=>cases h
set_option tactic.hygienic true
theorem qE{K:Fg}:∀{ds:O Dat}{g:O (Key×V)},ig k (g.map (·.1)) ds=Y d->cQ K F ds (g.map (·.2))->∃v,qe g k=Y v/\Rep K F d v
 |[],[],h,_=>by cases h
 |[],_::_,h,_=>by cases h
 |_::_,[],h,_=>by cases h
 |e::ds,p::g,h,r=>by
   obtain⟨v,w,q,a,b⟩:=r;cases q;simp only[az,ig]at h;split at h
   .rename_i z;cases h;exact⟨_,by simp[qe,z],a⟩
   .rename_i z;obtain⟨v,c,f⟩:=qE h b;exact⟨v,(wA z).trans c,f⟩
theorem uE{K:Fg}:∀{ds:O Dat}{g:O (Key×V)},ig k (g.map (·.1)) ds=L->cQ K F ds (g.map (·.2))->qe g k=L
 |_,[],_,_=>rfl
 |[],p::g,_,r=>by cases r
 |e::ds,p::g,h,r=>by
   obtain⟨v,w,q,b,a⟩:=r;cases q;simp only[az,ig]at h;split at h
   .cases h
   .rename_i z;exact(wA z).trans (uE h a)
set_option tactic.hygienic false
section
variable{X:Cx}{C:Fs}{e:aZ}{σ:St}{F H:Hp}
def Jq{K:Fg}(r:cQ K F ds g)(h:yV ds i=Y d):∃v,yV g i=Y v/\Rep K F d v:=by
 unfold yV at h ⊢;rw[r.length];obtain⟨j,a,b⟩:=bX h;obtain⟨v,f,c⟩:=r.get b;exact⟨v,by rwa[a],c⟩
set_option tactic.hygienic true in
def ad6(O':X.A.units+1<eC):ZZ X (gB X.K λx y=>(xF x y).map λd=>(d,J)):=by
 intro value slice h_ s σ H x y v u Q I f j h hs;refine ac λ_ e=>?_;obtain⟨M,n,d,fr,h,F,g,l,m,k⟩:=h;obtain⟨V,N,h2⟩:=dY h;clear h; obtain⟨rfl,rfl⟩:V=d/\J=fr:=by cases h2;exact⟨W,W⟩
 apply e;by_cases b:∃G P,M=.dct G P
 .refine ac λ_ e=>?_;obtain⟨G,P,rfl⟩:=b;have o:(rR n).bind (λk=>ig k G P)=Y V:=by cases n<;>exact N
  obtain⟨kk,hk,hl⟩:=bX o;clear o; obtain⟨a,k_,rfl,q,rfl,B⟩:=l;obtain⟨w,R,S⟩:=qE hl B;obtain rfl:=oB hk m;cases f;apply e;have dg:uQ H a (kV kk) (Y w):=by rw[<-R];exact uQ.k (g.sub _ _ q)
  exact Qz (vd I dg) ym.lookup (zZ I dg j λJ' s' I' D=>⟨w,H,I',D,k _ F H (Step.refl g) S bx⟩) hs
 cases M<;>first|exact absurd ⟨_,_,W⟩ b|skip
 all_goals cases n<;>simp only[xF,reduceCtorEq]at N
 .
  split at N
  .rename_i z i E;clear e h2 b; obtain⟨c,h3,rfl⟩:=dY N;exact YT _ _ h_ s σ H x y v u Q I f j ⟨z,i,c,l,m,E,h3,k _ F H (Step.refl g) W bx⟩ hs
  .cases N
 .rename_i P i;obtain⟨p,vs,rfl,t,r⟩:=l;obtain⟨w,R,S⟩:=Jq r N;exact YS _ _ h_ s σ H _ y v u Q I f j ⟨p,vs,i,w,W,m,(t.mono g.sub).sq,R,k _ F H (Step.refl g) S bx⟩ hs
 .rename_i P i;obtain⟨p,vs,rfl,t,r⟩:=l;obtain⟨w,R,S⟩:=Jq r N;exact Bf _ _ h_ s σ H _ y v u Q I f j ⟨p,vs,i,w,W,m,g.sub.seq t,R,k _ F H (Step.refl g) S bx⟩ hs
def gO(K:Fg)(C:Fs)(x:a5 Ex):TO:=λσ H Q=>∃a o F,bdE C a x=Y o/\Good F H/\oK K F σ a/\∀c b,Step F H c b->Q o b
abbrev SO(X:Cx)(C:Fs)(e:a5 aZ)(x:a5 Ex):Prop:=PO X e (gO X.K C x)
def PO.imp{e:a5 aZ}{t t':TO}(h:PO X e t)(f:∀σ H Q,t' σ H Q->t σ H Q):PO X e t':=λa s σ H Q I q=>h a s σ H Q I (f _ _ _ q)
def gSl(K:Fg):V->a5 cx->a5 cx->Hp->VK->Prop:=λx lo g H Q=>∃b d c F,Fu b lo g=Y (d,c)/\Good F H/\Rep K F b x/\∀v f a,Step F H f a->Rep K f d v->(c=U->ik K H a d v)->Q v a
def Bu{K:Fg}(lo hi:a5 cx)(r:cQ K F ds g):cQ K F (cutD ds lo hi) (GI g lo hi):=by
 unfold cutD GI;rw[<-r.length];exact(r.drop _).take _
def tL{s:aj}{sl:aD}{lo:a5 cx}(g:BR s.heap t items)(hs:s.heap.IsSliceOf sl y I .none)(pl:ub y lo)(O':ub I hi)
  (B:HT.j8 items.size 0 lo=0/\HT.j8 items.size items.size hi=items.size)
  (h:Q (.ref t) s):aw (aq prog w) A (gk (.ref t) (.ref sl)) Q E s:=by
 obtain⟨d,b,c,f⟩:=id hs;unfold gk
 try with_reducible apply bQ
 first|refine wb9 _|skip
 refine wb9 (hO g.typeIs cV ?_)
 refine wb9 (cR g.typeIs dR
  (bY dR g.typeIs gU ?_ (hI _ _)))
 show aw _ _ (lP _ >>= _) _ _ s;refine wb9 (tupleItemsOf_ g ?_);refine wb9 (jC ⟨d,b,c⟩ ?_);refine wb9 (HT.ou hs pl O' ?_)
 have a:((((HT.j8 items.size 0 lo):cx) == 0 && (1:cx) == 1 && (HT.j8 items.size items.size hi - HT.j8 items.size 0 lo) == items.size)=U):=by
  rw[B.1,B.2];simp
 show aw _ _ (if(((HT.j8 _ 0 lo):cx) == 0 && (1) == 1 && (HT.j8 _ _ hi - HT.j8 _ 0 lo) == items.size)=U then _ else _) _ _ s;rw[cb a];apply wb9;exact wb9 (jC g.typeIs (wu9 (wb9 (ip (wu9 ⟨_,W,wu9 h⟩)))))
set_option tactic.hygienic true
def aaO{lo:a5 aZ}(ha:SE X C a xa)(hl:SO X C lo xb)(hh:SO X C hi xc):SE X C (.Subscript a (.Slice lo hi L p2) pos) (.sl xa xb xc):=
 PE.imp (Nm (show SlR X (gSl _) by
 intro h_ s σ H x v w y lo hi sl Q I c K pl f h;obtain⟨N,d,fr,F,h,g,m,k⟩:=h
 cases N with
 |lst E=>
   cases h;obtain⟨p,P,rfl,t,r⟩:=m;refine Rq h_ s σ H _ v w y lo hi sl Q I c K pl f ⟨p,P,W,g.sub.seq t,λq b=>?_⟩;exact k _ _ _ (Step.alloc g b) ⟨q,_,W,.inl (.inl bN),((Bu lo hi r).mono (cz.upd (o:=.lst _) (g.sub.free b)))⟩ λz=>.lst (cz.refl _) b (.lj g z (Bu lo hi r))
 |str z=>
   simp only[Fu]at h;split at h
   .rename_i A;cases h;rw[m]at c;obtain⟨t,rfl⟩:=c;obtain⟨o,S,hc,hd⟩:=K;refine⟨_,_,PySem.F.slot_str_getitem.lookup,j0 ..,?_⟩;have fin:∀t' k',EP X h_ σ Q _ _:=λt' k'=>⟨.str _,H,I.tok k',⟨t',W⟩,k _ F H (Step.refl g) W bx⟩
    have a:=aa (B1 z lo hi) A
    clear I g A k; cases pl with
    |none=>
      cases f with
      |none=>exact lI (l:=L) (u:=L) (st:=L) ⟨o,S,hc,hd⟩ W (su ⟨a,fin⟩)
      |int j n=>exact lI (l:=L) (u:=Y (j,n)) (st:=L) ⟨o,S,hc,hd⟩ W (su ⟨a,fin⟩)
    |int i B=>
      cases f with
      |none=>exact lI (l:=Y (i,B)) (u:=L) (st:=L) ⟨o,S,hc,hd⟩ W (su ⟨a,fin⟩)
      |int j n=>exact lI (l:=Y (i,B)) (u:=Y (j,n)) (st:=L) ⟨o,S,hc,hd⟩ W (su ⟨a,fin⟩)
   .cases h
 |tup E=>
   cases h;obtain⟨p,P,rfl,t,r⟩:=m;by_cases D:HT.j8 E.length 0 lo=0/\HT.j8 E.length E.length hi=Z E
   .have e:cutD E lo hi=E:=by
     unfold cutD
     simp_all
    rw[e]at k;cases c;obtain⟨M,G,ht,A⟩:=I.tuple (t.mono g.sub).sq;have hlen:M.toArray.size=Z E:=by rw[bB,<-G.length,r.length]
    exact⟨_,_,dR.lookup,ht.typeIs,tL ht K pl f (by rwa[hlen]) ⟨.ref p,H,I,W,k _ F H (Step.refl g) ⟨p,P,W,t,r⟩ bx⟩⟩
   .exact WW h_ s σ H _ v w y lo hi sl Q I c K pl f ⟨p,P,W,(t.mono g.sub).sq,by rwa[r.length],λq b=>k _ _ _ (Step.alloc g b) ⟨q,_,W,.inl bN,(Bu lo hi r).mono (cz.upd (g.sub.free b))⟩ bx⟩
 |_=>cases h) ha hl hh) λσ H Q j=>by
  refine ac λ_ e=>?_;obtain⟨V,d,fr,h,F,g,R,k⟩:=j;obtain⟨⟨N,m⟩,h1,h⟩:=bX h;obtain⟨l,h2,h⟩:=bX h;obtain⟨u,h3,h⟩:=bX h;apply e;exact⟨V,N,m,h1,F,g,R,λv F1 t b n _=>⟨V,l,F1,h2,b.good,R.mono b.ff,λo H2 c=>⟨V,u,o,h3,c.good,R.mono (b.ff.trans c.ff),λp x f=>⟨N,d,fr,p,h,f.good,n.mono (c.ff.trans f.ff),λw q H4 i r s=>k w q H4 (((b.trans c).trans f).trans i) r λz=>(s z).back (F:=F) ((b.hh.trans c.hh).trans f.hh)⟩⟩⟩⟩
def XY(B:X.A.units+20<eC):kR X (dk .NotEq) (gB X.K (tR .ne)):=λp s σ H x y v u Q I c f a=>by
 refine ac λ_ e=>?_;obtain⟨o,i,d,q,h,F,g,j,l,k⟩:=a;obtain⟨b,m,rfl,rfl⟩:=lF h;apply e;simp only[jL]at m;split at m
 .rename_i n;clear e h; cases m;simp only[ah]at n;exact(xV I g 20 _ o i B n.1 n.2 j l c f).2.2 _ _ _ _ ⟨.bl _,H,I,W,k _ F H (Step.refl g) W bx⟩
 .cases m
set_option tactic.hygienic false
def cis{K:Fg}(a:Rep K F y x)(g:cIs b y .non=Y r):r=bif b then decide (x=.non)else !decide (x=.non):=by
 cases y with
 |any=>cases g
 |non=>cases a;cases g;cases b<;>rfl
 |_=>
   rw[c6 (λe=>by cases e;first|(cases a;done)|(obtain⟨p,c,e,_⟩:=a;cases e))];cases g;cases b<;>rfl
def Sk:kR X (dk .Is) (gB X.K (tR .isn)):=λp s σ H x y v u Q I f i m=>by
 obtain⟨q,n,d,r,h,F,g,j,l,k⟩:=m;obtain⟨b,o,rfl,rfl⟩:=lF h
 clear h; cases n with
 |non=>
   obtain rfl:=cis (b:=U) j o;exact X2 p s σ H x y v u Q I f i ⟨l,k _ F H (Step.refl g) W bx⟩
 |bl c=>
   cases q with
   |bl a=>
     cases o;cases j;cases l;obtain rfl:v=.bool a:=f;obtain rfl:u=.bool c:=i;refine wpAny_is_plain W ⟨_,H,I,?_,k _ F H (Step.refl g) W bx⟩;cases a<;>cases c<;>rfl
   |_=>cases o
 |_=>cases o
def Nv:kR X (dk .IsNot) (gB X.K (tR .nisn)):=λp s σ H x y v u Q I f i m=>by
 obtain⟨q,n,d,r,h,F,g,j,l,k⟩:=m;obtain⟨b,o,rfl,rfl⟩:=lF h
 clear h; cases n with
 |non=>
   obtain rfl:=cis (b:=J) j o;exact Sf p s σ H x y v u Q I f i ⟨l,k _ F H (Step.refl g) W bx⟩
 |bl c=>
   cases q with
   |bl a=>
     cases o;cases j;cases l;obtain rfl:v=.bool a:=f;obtain rfl:u=.bool c:=i;refine wpAny_isNot_plain W ⟨_,H,I,?_,k _ F H (Step.refl g) W bx⟩;cases a<;>cases c<;>rfl
   |_=>cases o
 |_=>cases o
end
end M
namespace L2
def pV(tp:cc)(h:bP)(it l:aD)(i:T):Prop:=match tp with
 |true=>h.IsTupleIter it l i
 |false=>h.IsListIter it l i
def pD(tp:cc)(h:bP)(l:aD)(xs:c4 ai):Prop:=match tp with
 |true=>h.IsTuple l xs
 |false=>h.IsList l xs
def pV.keep{g:bP}(y:pV tp h it l i)(k:∀o,h.get? it=Y o->g.get? it=Y o):pV tp g it l i:=by
 cases tp<;>exact(by obtain⟨o,e,r⟩:=y;exact⟨o,k o e,r⟩)
def pD.keep{g:bP}(y:pD tp h l xs)(k:∀o,h.get? l=Y o->g.get? l=Y o):pD tp g l xs:=by
 cases tp<;>exact(by obtain⟨o,e,r⟩:=y;exact⟨o,k o e,r⟩)
def pV.obj(y:pV tp h it l i):∃o,h.get? it=Y o/\o.cls=.type (if tp then "tuple_iterator" else "list_iterator")/\o.data=.fields #[.ref l,.int i 0]:=by
 cases tp<;>exact y
def pD.obj(y:pD tp h l xs):∃o,h.get? l=Y o/\o.cls=.type (if tp then "tuple" else "list")/\∃n,o.data=.seq xs n:=by
 cases tp<;>exact y
section
open Builtin
variable{A:bJ}{s:aj}
def HX(B:pV tp s.heap it q i)(O':pD tp s.heap q xs)(C:xs[i]?=Y v)
  (k:∀y,pV tp y it q (i+1)->cM it s.heap y->Q v { s with heap:=y }):aw (aq prog w) A (i9 (.ref it)) Q E s:=by
 cases tp
 .exact wpAny_nextOf_list_item B O' C k
 .refine ac λ_ j=>?_;obtain⟨f,b,e,a⟩:=id B;obtain⟨g,c,_,h,d⟩:=O';apply j;refine wb9 (cR B.typeIs ic (bY ic B.typeIs sx ?_ (rL _)));show aw _ _ (ma _ 0 >>= _) _ _ s;refine wb9 (cD b a W ?_);refine wb9 (cD b a W ?_);refine wb9 (dB c d ?_);simp only[Qg,C];refine wb9 (wpAny_setField b a (by simp) (wu9 ⟨v,W,wu9 (k _ ⟨_,du _ b (Obj.isFreed_of_fields (kC a _)),(Obj.cls_mapFields ..).trans e,?_⟩ (pG ..))⟩));rw[kC a];simp[rawInt]
def FW(B:A.handled=L)(O':pV tp s.heap it q i)(C:pD tp s.heap q xs)(F:xs[i]?=L)
  (k:∀y e,G6 it s.heap y->(∃o,y.get? e=Y o/\o.cls=.type "StopIteration")->E (.ref e) { s with heap:=y }):aw (aq prog w) A (i9 (.ref it)) Q E s:=by
 cases tp
 .exact wpAny_nextOf_list_end B O' C F k
 .refine ac λ_ l=>?_;obtain⟨f,a,g,b⟩:=id O';obtain⟨h,c,_,j,d⟩:=C;apply l;refine wb9 (cR O'.typeIs ic (bY ic O'.typeIs sx ?_ (rL _)));show aw _ _ (ma _ 0 >>= _) _ _ s;refine wb9 (cD a b W ?_);refine wb9 (cD a b W ?_);refine wb9 (dB c d ?_);simp only[Qg,F];refine wb9 (ip (wb9 (wpAny_setField a b (by simp) ?_)));apply wb9;refine wb9 (dI (wb9 (lH (by first|rfl|(rfl)) (dI ?_ (by size_fits)))) (by size_fits));refine wb9 (wpAny_handled ?_)
  first|rw[B]|rw[B]
  exact wb9 (wu9 (wpAny_throw (k _ _ (((pG ..).extBut.push _).push _) ⟨_,aC _ W,W⟩)))
end
noncomputable def ad9(tp:cc):et:=if tp then "tuple_iterator" else "list_iterator"
def tG(tp:cc)(l:aD):lO:={ cls:=.type (ad9 tp),data:=.fields #[.ref l,.int 0 0] }
def ID{h:bP}(e:h.get? it=Y (tG tp l)):pV tp h it l 0:=by
 cases tp<;>exact⟨_,e,W,W⟩
section
variable{s:aj}
def qC(B:pD tp s.heap l xs)(k:Q (.ref s.heap.objs.size) { s with heap:=s.heap.push (tG tp l) }):aw (aq prog w) A (EK (.ref l)) Q E s:=by
 cases tp
 .exact pY B k
 .exact hG B k
end
section
end
section
variable{h':bP}
def Inv.qy{t':T}{ch:O aD}(I:Inv X y σ H s)(k:∀b o,b∉ch->s.heap.get? b=Y o->h'.get? b=Y o)(g:∀b∈ch,sk X y H b):Inv X y σ H { s with heap:=h',toks:=t' }:=by
 have a:∀b u,H b=Y u->b∉ch:=λb u e z=>by rw[(g b z).1]at e;cases e
 refine I.step (λb f=>⟨(g b f).2.2.2.1,(g b f).2.1,(g b f).2.2.2.2.1,(g b f).2.2.2.2.2⟩) (λb o _ _ d e _=>k b o d e) (λb o _ _ d e _=>⟨_,k b o d e⟩) (λ_ _ _ _ n=>n)
  (λb o d e=>⟨o,k b o d e⟩) (λ_ _ e=>e) (λ_ _ _ e=>e) (λm c=>?_) (λb u e=>((I.hok b u e).nj λv=>k b v (a b u e))) I.bare
 .obtain⟨o,h,i,j,r⟩:=c;exact⟨o,h,i,k _ o (λz=>(g _ z).2.1 W) j,r⟩
end
def yj(tp:cc)(K:au)(H:Hp)(a:aD)(xs:O V):Prop:=match tp with
 |true=>vj K H a xs
 |false=>pC K H a xs
def yj.inj(I:Inv X B σ H s)(h:yj tp X.K H a xs)(g:yj tp X.K H a y):xs=y:=by
 cases tp
 .exact I.ql h g
 .exact I.qz h g
def yj.at (I:Inv X g σ H s)(h:yj tp X.K H a xs):∃its:O ai,cX xs its/\pD tp s.heap a its.toArray:=by
 cases tp
 .obtain⟨its,b,p,_⟩:=I.list h;exact⟨_,b,p.isList⟩
 .obtain⟨its,b,p,_⟩:=I.tuple h;exact⟨_,b,p⟩
def pU(h:bP)(it:aD)(x:aV)(t:JE)(i:T):Prop:=h.IsStrIter it (fy x) x t i
def pU.keep{g:bP}(y:pU h it x t i)(k:∀o,h.get? it=Y o->g.get? it=Y o):pU g it x t i:=by obtain⟨o,e,r⟩:=y;exact ⟨o,k o e,r⟩
section
open Builtin
variable{A:bJ}{s:aj}
def AA(B:pU s.heap it x t i)(O':x.cps[i]?=Y c)
  (k:∀g,pU g it x t (i+1)->cM it s.heap g->Q (.str ⟨#[c]⟩ s.toks) { s with heap:=g,toks:=s.toks+1 }):aw (aq prog w) A (i9 (.ref it)) Q E s:=by
 unfold pU fy at B k;cases a:x.cps.all (·< 128)
 .simp only[a,dh,eg]at B k;exact wpAny_nextOf_wide_item B O' k
 .simp only[a,ek]at B k;exact wpAny_nextOf_ascii_item B O' k
def Ff(O':A.handled=L)(B:pU s.heap it x t i)(y:x.cps[i]?=L)
  (k:∀g e,G6 it s.heap g->(∃o,g.get? e=Y o/\o.cls=.type "StopIteration")->E (.ref e) { s with heap:=g }):aw (aq prog w) A (i9 (.ref it)) Q E s:=by
 unfold pU fy at B;cases a:x.cps.all (·< 128)
 .simp only[a,dh,eg]at B;exact wpAny_nextOf_wide_end O' B y k
 .simp only[a,ek]at B;exact wpAny_nextOf_ascii_end O' B y k
end
noncomputable def qS(x:aV)(t:JE):lO:={ cls:=.type (fy x),data:=.fields #[.str x t,.int 0 0] }
section
end
noncomputable def Its(x y:aV):It:=
 ⟨λi _=>∃c d,x.cps[i]?=Y c/\y.cps[i]?=Y d,
  λi H v a=>∃T',H T'=L/\v=.ref T'/\∃c d,x.cps[i]?=Y c/\y.cps[i]?=Y d/\a=upd H T' (.tup [.str ⟨#[c]⟩,.str ⟨#[d]⟩]),
  λi _=>x.cps[i]?=L\/y.cps[i]?=L⟩
def Pc{A:bJ}(y:A.handled=L)(it l:aD)(B:l≠it)(items:c4 ai) :
  Draws prog w A it [it,l] items.size (λi v=>items[i]?=Y v) (λi h=>pV tp h it l i/\pD tp h l items) where
 live:=λ_ _ f=>by obtain⟨o,k,_⟩:=f.1.obj;exact ⟨o,k⟩
 frame:=λ_ _ _ f g=>⟨f.1.keep λo e=>g it (by simp) o e,f.2.keep λo e=>g l (by simp) o e⟩
 item:=λi s Q E j f c=>by
  refine HX f.1 f.2 (v:=items[i]) (by simp[j]) λm a b=>?_;exact c _ m s.toks (by simp[j]) ⟨a,f.2.keep λo e=>b.extBut _ o B e⟩ b
 done:=λs Q E f d=>FW y f.1 f.2 (by simp) d
set_option tactic.hygienic true in
def Zj(l:aD)(items:c4 ai) :
  mh (gu.«enumerate.__new__» ⟨[.type "enumerate",.ref l],[]⟩) (λ_ R s=>pD tp s.heap l items/\
   R (.ok (.ret (.ref (s.heap.push (tG tp l)).objs.size))) { s with heap:=(s.heap.push (tG tp l)).push { cls:=.type "enumerate",data:=.fields #[.none,.bool J,.ref s.heap.objs.size,rawInt 0,.none,.none] } }):=
 .of_wp λprog w A R s h=>by
  obtain⟨f,g,d,e,i⟩:=s;obtain⟨a,h⟩:=h;have b:=sub_enumerate;wp_walk
  refine wpAny_stack_any λj=>wu9 ?_;split
  .rename_i c _ _ _ _ _;cases(c == gQ _)
   .wp_walk using qC a
    exact⟨_,W,h⟩
   .wp_walk using qC a
    exact⟨_,W,h⟩
  .wp_walk using qC a
   exact⟨_,W,h⟩
section
variable{s:aj}
def Um(B:pD tp s.heap l items)
  (k:∀g,IsEnum g (s.heap.objs.size+1) s.heap.objs.size 0 .none->pV tp g s.heap.objs.size l 0->(∀b o,s.heap.get? b=Y o->g.get? b=Y o)->Q (.ref (s.heap.objs.size+1)) { s with heap:=g }) :
  aw (aq prog w) A (call (.type "enumerate") [.ref l]) Q E s:=by
 refine yD PySem.F.called_enumerate (by decide) (PySem.F.typeCall_enumerate_1 _) (PySem.F.newCall_enumerate_1 _) (λc=>mO _ _) PySem.F.entry_enumerate_new (Zj l _) ⟨B,?_⟩;have a:((s.heap.push (tG tp l)).push { cls:=.type "enumerate",data:=.fields #[.none,.bool J,.ref s.heap.objs.size,rawInt 0,.none,.none] }).get? (s.heap.push _).objs.size=Y _:=aC _ W;rw[(fR ..)]at a;rw[(fR ..)];exact⟨⟨_,a,W⟩,k _ a (ID (hp9 _ (aC _ W))) λb o x=>hp9 _ (hp9 _ x)⟩
end
noncomputable def Ite(tp:cc)(K:au)(a:aD):It:=
 ⟨λi H=>∃b x,yj tp K H a b/\b[i]?=Y x,
  λi H x d=>∃T',H T'=L/\x=.ref T'/\∃c,(∀b,yj tp K H a b->b[i]?=Y c)/\d=upd H T' (.tup [.int i,c]),
  λi H=>∃b,yj tp K H a b/\Z b<=i⟩
def KW{A:bJ}(g:A.handled=L)(it l:aD)(items:c4 ai)(i:T)(hi:items.size<=i) :
  Draws prog w A it [it,l] i (λ_ _=>True) (λj h=>j=i/\pV tp h it l i/\pD tp h l items) where
 live:=λ_ _ d=>by obtain⟨o,k,_⟩:=d.2.1.obj;exact ⟨o,k⟩
 frame:=λ_ _ _ d f=>⟨d.1,d.2.1.keep λo e=>f it (by simp) o e,d.2.2.keep λo e=>f l (by simp) o e⟩
 item:=λj s Q E a d c=>absurd d.1 (a7 a)
 done:=λs Q E d b=>FW g d.2.1 d.2.2 (by simp[hi]) b
def L8{K:au}(a e it:aD)(O':e≠it)(c3:a≠e)(e0:a≠it) :
  Turn P w K (.Tuple elts k pos) (Ite tp K a) [e,it] e (λi h=>(∃B,IsEnum h e it i B)/\pV tp h it a i) where
 mem:=by simp
 obj:=λi h st c hc=>by
  obtain⟨⟨B,he⟩,h1⟩:=st;obtain⟨e2,e1,_,d1⟩:=h1.obj;simp only[ak,bu,dy]at hc
  rcases hc with rfl|rfl
  .exact⟨_,he,λv z=>nomatch z⟩
  .exact⟨_,e1,λv z=>by rw[d1]at z;cases z⟩
 keep:=λi h h' st k=>by
  obtain⟨⟨B,he⟩,h1⟩:=st;exact⟨⟨B,k e (by simp) _ he⟩,h1.keep λo q=>k it (by simp) o q⟩
 item:=by
  intro X j l m hc i h_ s σ H E I hf st n;subst j l m;obtain⟨xs,x,ha,g⟩:=n;obtain⟨its,r,p⟩:=yj.at I ha;obtain⟨u,D,F⟩:=r.get g;obtain⟨⟨B,he⟩,h1⟩:=st
  have t:i<its.toArray.size:=by
   rw[bB];exact(aM.mp D).1
  refine gi (Pc (tp:=tp) (A:=X.A.in1) (I.ok.hd hc) it a e0 its.toArray) he ⟨h1,p⟩ t O' (by simp[O',dn c3]) λv h' d G J' L' M g4 hk=>?_
  have y:v=u:=by
   have:its.toArray[i]?=Y u:=by simpa using D
   exact bh (G.symm.trans this)
  subst y;refine⟨_,W,fw J' λh'' C b=>?_⟩;have N:∀c∈[e,it],sk X h_ H c:=hf
  have kk:∀c o,c∉[e,it]->s.heap.get? c=Y o->h''.get? c=Y o:=λc o hc q=>by
   simp only[ak,bu,dy,not_or]at hc;exact b.extBut c o hc.1 (hk c o hc.1 hc.2 q)
  have Q:Inv X h_ σ H { s with heap:=h'',toks:=d+1 }:=I.qy (t':=d+1) kk N;have R:s.heap.objs.size≠e:=jm (hl9 he);have S:h''.get? s.heap.objs.size=Y { cls:=.type "tuple",data:=.seq #[.int i d,v] }:=b.extBut _ _ R M;have f:H s.heap.objs.size=L:=I.hok.fresh (ao _)
  have T':Inv X h_ σ (upd H s.heap.objs.size (.tup [.int i,x])) { s with heap:=h'',toks:=d+1 }:=by
   refine Q.Hf (I.vC (ao _) f) I.sz ⟨by rw[eG];show 2<=16777216;decide,[.int i d,v],.cons ⟨_,W⟩ (.cons F .nil),?_⟩;exact⟨_,S,W,_,W⟩
  refine⟨.ref s.heap.objs.size,_,T',W,⟨_,f,W,x,λU' h1=>by rw[yj.inj I h1 ha];exact g,W⟩,⟨⟨_,by simpa using C⟩,L'.1.keep λo q=>b.extBut _ o O'.symm q⟩,λc hc=>?_⟩;rw[cA ?_]
  .exact(hf c hc).1
  .have:c<s.heap.objs.size:=by
    simp only[ak,bu,dy]at hc
    rcases hc with rfl|rfl
    .exact hl9 he
    .obtain⟨_,q,_⟩:=h1.obj;exact hl9 q
   exact a7 this
 done:=by
  intro X j l m hc i h_ s σ H E I hf st n;subst j l m;obtain⟨xs,ha,g⟩:=n;obtain⟨its,r,p⟩:=yj.at I ha;obtain⟨⟨B,he⟩,h1⟩:=st;have V:=r.length;refine gq (KW (tp:=tp) (A:=X.A.in1) (I.ok.hd hc) it a its.toArray i (by simp;exact aa (af V.symm) g)) he ⟨W,h1,p⟩ λh' hk=>⟨W,I.qy (t':=s.toks) (ch:=[it]) (λc o hc q=>?_) λc hc=>hf c ?_⟩
  .exact hk c o (by simpa using hc) q
  .simp only[ak,bu,dy]at hc ⊢;exact .inr hc
 self:=λ_ _ _ _ _ st h=>by obtain⟨⟨_,he⟩,_⟩:=st;exact e6 he h
def Pb{A:bJ}(y:A.handled=L)(it:aD)(x:aV)(t:JE) :
  Draws prog w A it [it] x.cps.size (λi v=>∃u c,x.cps[i]?=Y c/\v=.str ⟨#[c]⟩ u) (λi h=>pU h it x t i) where
 live:=λ_ _ g=>by obtain⟨o,k,_⟩:=g;exact ⟨o,k⟩
 frame:=λ_ _ _ g l=>g.keep λo e=>l it (by simp) o e
 item:=λi s Q E j g d=>AA g (c:=x.cps[i]) (by simp[j]) λm a b=>d _ m _ ⟨_,_,by simp[j],W⟩ a b
 done:=λs Q E g f=>Ff y g (by simp) f
def KU{A:bJ}(g:A.handled=L)(it:aD)(x:aV)(t:JE)(i:T)(hi:x.cps.size<=i) :
  Draws prog w A it [it] i (λ_ _=>True) (λj h=>j=i/\pU h it x t i) where
 live:=λ_ _ d=>by obtain⟨o,f,_⟩:=d.2;exact ⟨o,f⟩
 frame:=λ_ _ _ d k=>⟨d.1,d.2.keep λo e=>k it (by simp) o e⟩
 item:=λj s Q E a d c=>absurd d.1 (a7 a)
 done:=λs Q E d b=>Ff g d.2 (by simp[hi]) b
set_option tactic.hygienic true in
def Zg(x:aV)(t:JE) :
  mh (gu.«enumerate.__new__» ⟨[.type "enumerate",.str x t],[]⟩) (λ_ R s=>
   R (.ok (.ret (.ref (s.heap.push (qS x t)).objs.size))) { s with heap:=(s.heap.push (qS x t)).push { cls:=.type "enumerate",data:=.fields #[.none,.bool J,.ref s.heap.objs.size,rawInt 0,.none,.none] } }):=
 .of_wp λprog w A R s h=>by
  obtain⟨e,g,d,b,f⟩:=s;have a:=sub_enumerate
  wp_walk
  refine wpAny_stack_any λi=>wu9 ?_;split
  .rename_i c _ _ _ _ _;cases(c == gQ "enumerate")
   .wp_walk using pX (x:=x) (t:=t)
    exact⟨_,W,h⟩
   .wp_walk using pX (x:=x) (t:=t)
    exact⟨_,W,h⟩
  .wp_walk using pX (x:=x) (t:=t)
   exact⟨_,W,h⟩
section
variable{s:aj}
def Ul
  (k:∀g,IsEnum g (s.heap.objs.size+1) s.heap.objs.size 0 .none->pU g s.heap.objs.size x t 0->(∀b o,s.heap.get? b=Y o->g.get? b=Y o)->Q (.ref (s.heap.objs.size+1)) { s with heap:=g }) :
  aw (aq prog w) A (call (.type "enumerate") [.str x t]) Q E s:=by
 apply yD PySem.F.called_enumerate cV (PySem.F.typeCall_enumerate_1 _) (PySem.F.newCall_enumerate_1 _) (λc=>mO _ _) PySem.F.entry_enumerate_new (Zg x t);have a:((s.heap.push (qS x t)).push { cls:=.type "enumerate",data:=.fields #[.none,.bool J,.ref s.heap.objs.size,rawInt 0,.none,.none] }).get? _=Y { cls:=.type _,data:=.fields _ }:=aC _ W;rw[(fR ..)]at a;rw[(fR ..)];exact⟨⟨_,a,W⟩,k _ a (⟨_,(hp9 _ (aC _ W)),W,W⟩) λb o x=>hp9 _ (hp9 _ x)⟩
end
noncomputable def Z0(x:aV):It:=
 ⟨λi H=>i<x.cps.size,λi H v a=>∃T',H T'=L/\v=.ref T'/\∃c,x.cps[i]?=Y c/\a=upd H T' (.tup [.int i,.str ⟨#[c]⟩]),λi H=>x.cps.size<=i⟩
def QY{K:au}(x:aV)(t:JE)(e it:aD)(O':e≠it) :
  Turn P w K (.Tuple elts k pos) (Z0 x) [e,it] e (λi h=>(∃B,IsEnum h e it i B)/\pU h it x t i) where
 mem:=by simp
 obj:=λi h R c N=>by
  obtain⟨⟨B,Q⟩,L',e1,_,d1⟩:=R;simp only[ak,bu,dy]at N
  rcases N with rfl|rfl
  .exact⟨_,Q,λv z=>nomatch z⟩
  .exact⟨_,e1,λv z=>by rw[d1]at z;cases z⟩
 keep:=λi h V R k=>by
  obtain⟨⟨B,Q⟩,h1⟩:=R;exact⟨⟨B,k e (by simp) _ Q⟩,h1.keep λo q=>k it (by simp) o q⟩
 item:=by
  intro X f g j N i h_ s σ H E I hf R l;subst f g j;obtain⟨⟨B,Q⟩,h1⟩:=R;refine gi (Pb (A:=X.A.in1) (I.ok.hd N) it x t) Q h1 l O' (by simp[O']) λv V b p r y C M hk=>?_;obtain⟨u,c,m,rfl⟩:=p;refine⟨_,W,fw r λS n a=>?_⟩
  have kk:∀c o,c∉[e,it]->s.heap.get? c=Y o->S.get? c=Y o:=λc o N q=>by
   simp only[ak,bu,dy,not_or]at N;exact a.extBut c o N.1 (hk c o N.1 N.2 q)
  have D:Inv X h_ σ H { s with heap:=S,toks:=b+1 }:=I.qy (t':=b+1) kk hf;have F:s.heap.objs.size≠e:=jm (hl9 Q);have G:S.get? s.heap.objs.size=Y { cls:=.type "tuple",data:=.seq #[.int i b,.str ⟨#[c]⟩ u] }:=a.extBut _ _ F C;have d:H s.heap.objs.size=L:=I.hok.fresh (ao _)
  have J':Inv X h_ σ (upd H s.heap.objs.size (.tup [.int i,.str ⟨#[c]⟩])) { s with heap:=S,toks:=b+1 }:=by
   refine D.Hf (I.vC (ao _) d) I.sz ⟨by rw[eG];show 2<=16777216;decide,[.int i b,.str ⟨#[c]⟩ u],.cons ⟨_,W⟩ (.cons ⟨_,W⟩ .nil),?_⟩;exact⟨_,G,W,_,W⟩
  refine⟨.ref s.heap.objs.size,_,J',W,⟨_,d,W,c,m,W⟩,⟨⟨_,by simpa using n⟩,y.keep λo q=>a.extBut _ o O'.symm q⟩,λc N=>?_⟩;rw[cA ?_]
  .exact(hf c N).1
  .have:c<s.heap.objs.size:=by
    simp only[ak,bu,dy]at N
    rcases N with rfl|rfl
    .exact hl9 Q
    .obtain⟨_,q,_⟩:=h1;exact hl9 q
   exact a7 this
 done:=by
  intro X f g j N i h_ s σ H E I hf R l;subst f g j;obtain⟨⟨B,Q⟩,h1⟩:=R;refine gq (KU (A:=X.A.in1) (I.ok.hd N) it x t i l) Q ⟨W,h1⟩ λV hk=>⟨W,I.qy (t':=s.toks) (ch:=[it]) (λc o N q=>?_) λc N=>hf c ?_⟩
  .exact hk c o (by simpa using N) q
  .simp only[ak,bu,dy]at N ⊢;exact .inr N
 self:=λ_ _ _ _ _ R h=>by obtain⟨⟨_,Q⟩,_⟩:=R;exact e6 Q h
section
end
section
open Builtin
variable{A:bJ}{s:aj}
structure ZAm(z T' U' i j b:aD):Prop where
 Tz:T'≠z
 Uz:U'≠z
 iz:i≠z
 jz:j≠z
 TU:T'≠U'
 Ti:T'≠i
 Tj:T'≠j
 Ui:U'≠i
 Uj:U'≠j
 ij:i≠j
 bz:b≠z
 bU:b≠U'
 bi:b≠i
 bj:b≠j
def M2{T' U':aD}(P:ZAm z T' U' i j b)(B:IsZip s.heap z T' U' .none)(gT:rK s.heap T' (.ref i) (.ref j))(c3:rK s.heap U' c d)
  (e0:pU s.heap i p tp m)(gj:pV U s.heap j b n)(gb:pD U s.heap b ys)(gx:p.cps[m]?=Y x)(gy:ys[n]?=Y y)
  (k:∀I,IsZip I z T' U' (rawInt s.heap.objs.size)->rK I U' (.str ⟨#[x]⟩ s.toks) y->pU I i p tp (m+1)->pV U I j b (n+1)->rK I s.heap.objs.size (.str ⟨#[x]⟩ s.toks) y->I.objs.size=s.heap.objs.size+1->
   (∀e o,e≠z->e≠U'->e≠i->e≠j->s.heap.get? e=Y o->I.get? e=Y o)->Q (Y (.ref s.heap.objs.size)) { s with heap:=I,toks:=s.toks+1 }):aw (aq prog w) A (hF (.ref z)) Q E s:=by
 refine wb9 (iV (cR ⟨_,B,W⟩ kT (bY kT ⟨_,B,W⟩ Ao ?_ (zg _))));refine (?_ : aw (aq _ w) _ (ma _ 2 >>= _) ..);refine wb9 (cD B W (x:=.bool J) W ?_);refine wb9 (cD B W rfl (wb9 (dB gT W ?_)));apply wb9;refine wb9 (cD B W rfl (wu9 ?_));refine wb9 (ip (wb9 (cD B W rfl (wb9 (bW B (by simp) λh1 C s1=>?_)))));apply wb9;simp only[vN,QG,yt,Ve];refine wb9 (wb9 (vH ?_));refine wb9 (AA (e0.keep λo e=>s1.extBut _ o P.iz e) gx λh2 D s2=>wu9 ?_);have f :=s2.extBut _ _ P.Ui (s1.extBut _ _ P.Uz c3);refine wb9 (dB f W (wb9 (t6 f λh3 F s3=>wb9 (m9 (wu9 ?_)))));refine wb9 (wb9 (vH ?_));refine wb9 (HX (gj.keep λo e=>s3.extBut _ o P.Uj.symm (s2.extBut _ o P.ij.symm (s1.extBut _ o P.jz e))) (gb.keep λo e=>s3.extBut _ o P.bU (s2.extBut _ o P.bi (s1.extBut _ o P.bz e))) gy λS G g=>wu9 ?_);have h :=g.extBut _ _ P.Uj F;refine wb9 (dB h W (wb9 (t6 h λK a l=>wb9 (m9 (wu9 (wu9 ?_))))));replace a:rK K U' (.str ⟨_⟩ s.toks) y:=a;refine wb9 (dB a W (wb9 (EI ?_)));have sz:K.objs.size=s.heap.objs.size:=by rw[l.1,g.1,s3.1,s2.1,s1.1]
 have r :=l.extBut _ _ P.Uz.symm (g.extBut _ _ P.jz.symm (s3.extBut _ _ P.Uz.symm (s2.extBut _ _ P.iz.symm C)));apply wb9;refine wb9 (bW (hp9 _ r) (by simp) λV L' M=>?_);refine bW L' (by simp) λh8 u N=>wu9 ⟨_,W,?_⟩;have R:∀e o,e≠z->K.get? e=Y o->h8.get? e=Y o:=λe o t q=>N.extBut _ _ t (M.extBut _ _ t (hp9 _ q));have O' :=N.extBut _ _ (jm (hl9 r)) (M.extBut _ _ (jm (hl9 r)) (aC _ W));have v:h8.objs.size=K.objs.size+1:=by rw[N.1,M.1,fR]
 rw[sz]at u O' v;rw[sz];exact wu9 (k h8 u (R _ _ P.Uz a) ((D.keep λo e=>l.extBut _ o P.Ui.symm (g.extBut _ o P.ij (s3.extBut _ o P.Ui.symm e))).keep λo e=>R _ o P.iz e) ((G.keep λo e=>l.extBut _ o P.Uj.symm e).keep λo e=>R _ o P.jz e) O' v λe o t X e3 H q=>R e o t ((λe o t X e3 H q=>l.extBut _ _ X (g.extBut _ _ H (s3.extBut _ _ X (s2.extBut _ _ e3 (s1.extBut _ _ t q))))) e o t X e3 H q))
def RT{T' U':aD}(O':A.handled=L)(P:ZAm z T' U' i j b)(B:IsZip s.heap z T' U' .none)(gT:rK s.heap T' (.ref i) (.ref j))(c3:rK s.heap U' c d)
  (e0:pU s.heap i p tp m)(gj:pV U s.heap j b n)(gb:pD U s.heap b R)(ge:p.cps[m]?=L\/R[n]?=L)
  (k:∀S,(∀e o,e≠z->e≠U'->e≠i->e≠j->s.heap.get? e=Y o->S.get? e=Y o)->∀tk,Q L { s with heap:=S,toks:=tk }):aw (aq prog w) A (hF (.ref z)) Q E s:=by
 refine wb9 (iV (cR ⟨_,B,W⟩ kT (bY kT ⟨_,B,W⟩ Ao ?_ (zg _))));refine (?_ : aw (aq _ w) _ (ma _ 2 >>= _) ..);refine wb9 (cD B W (x:=.bool J) W ?_);refine wb9 (cD B W rfl (wb9 (dB gT W ?_)));apply wb9;refine wb9 (cD B W rfl (wu9 ?_));refine wb9 (ip (wb9 (cD B W rfl (wb9 (bW B (by simp) λX g s1=>?_)))));apply wb9;simp only[vN,QG,yt,Ve];refine wb9 (wb9 (vH ?_))
 cases y:p.cps[m]? with
 |none=>
   refine wb9 (Ff O' (e0.keep λo e=>s1.extBut _ o P.iz e) y λK e s2 t=>?_);obtain⟨l,a,f⟩:=t;have r :=s2 _ _ P.iz.symm g;exact bW r (by simp) λN _ s3=>wb9 (dU ⟨l,s3.extBut _ _ (λq=>by grind) a,f⟩ t8 (wu9 (k _ (λc o c1 _ u _ q=>s3.extBut _ _ c1 (s2 _ _ u (s1.extBut _ _ c1 q))) _)))
 |some x=>
   have F:R[n]?=L:=by
    grind
   refine wb9 (AA (e0.keep λo e=>s1.extBut _ o P.iz e) y λK G s2=>wu9 ?_);have h :=s2.extBut _ _ P.Ui (s1.extBut _ _ P.Uz c3);refine wb9 (dB h W (wb9 (t6 h λN H s3=>wb9 (m9 (wu9 ?_)))));refine wb9 (wb9 (vH ?_));refine wb9 (FW O' (gj.keep λo e=>s3.extBut _ o P.Uj.symm (s2.extBut _ o P.ij.symm (s1.extBut _ o P.jz e))) (gb.keep λo e=>s3.extBut _ o P.bU (s2.extBut _ o P.bi (s1.extBut _ o P.bz e))) F λM e C t=>?_);obtain⟨l,a,f⟩:=t;have v :=C _ _ P.jz.symm (s3.extBut _ _ P.Uz.symm (s2.extBut _ _ P.iz.symm g));exact bW v (by simp) λV _ D=>wb9 (dU ⟨l,D.extBut _ _ (λq=>by grind) a,f⟩ t8 (wu9 (k _ (λc o c1 c2 u I q=>D.extBut _ _ c1 (C _ _ I (s3.extBut _ _ c2 (s2.extBut _ _ u (s1.extBut _ _ c1 q))))) _)))
end
abbrev zm3(h:bP)(x:aV)(t:JE)(b:aD):bP:=((h.push (qS x t)).push (tG U b)).push { cls:=.type "tuple",data:=.seq #[.ref h.objs.size,.ref (h.push (qS x t)).objs.size] }
abbrev zm4(h:bP)(x:aV)(t:JE)(b:aD):bP:=(zm3 h x t b).push { cls:=.type "tuple",data:=.seq #[.none,.none] }
abbrev Z7(h:bP)(x:aV)(t:JE)(b:aD):bP:=(zm4 h x t b).push { cls:=.type "zip",data:=.fields #[.none,.bool J,.bool J,.ref ((h.push (qS x t)).push (tG U b)).objs.size,.ref (zm3 h x t b).objs.size] }
section
variable{s:aj}
def QN
  (B:pD U s.heap b C)(k:∀y,IsZip y (s.heap.objs.size+4) (s.heap.objs.size+2) (s.heap.objs.size+3) .none->rK y (s.heap.objs.size+2) (.ref s.heap.objs.size) (.ref (s.heap.objs.size+1))->rK y (s.heap.objs.size+3) .none .none->
   pU y s.heap.objs.size x t 0->pV U y (s.heap.objs.size+1) b 0->(∀c o,s.heap.get? c=Y o->y.get? c=Y o)->Q (.ref (s.heap.objs.size+4)) { s with heap:=y }):aw (aq prog w) A (call (.type "zip") [.str x t,.ref b]) Q E s:=by
 refine PySem.callType_new PySem.F.called_zip cV (PySem.F.typeCall_zip_2 _ _) (PySem.F.newCall_zip_2 _ _) (λj=>PySem.F.args_object_init_3 j _ _) PySem.F.entry_zip_new ((show mh (gu.«zip.__new__» ⟨[.type "zip",.str x t,.ref b],[]⟩) (λ_ R s=>pD U s.heap b C/\R (.ok (.ret (.ref (zm4 s.heap x t b).objs.size))) { s with heap:=Z7 s.heap x t b }) from .of_wp λprog w A R s q=>by
   obtain⟨m,g,d,a,n⟩:=s;obtain⟨c,q⟩:=q;have r:=PySem.sub_zip;have p:pD U (Shared.heap ⟨m.push { cls:=.type (fy x),data:=.fields #[.str x t,.int 0 0] },g,d,a,n⟩) b C:=pD.keep c λo e=>hp9 _ e
   wp_walk using PySem.wpAny_pyIter_strU (x:=x) (t:=t),qC p
   exact⟨_,W,q⟩)) ⟨B,?_⟩;have a:(s.heap.push (qS x t)).objs.size=s.heap.objs.size+1:=fR ..;have d:((s.heap.push (qS x t)).push (tG U b)).objs.size=s.heap.objs.size+2:=by rw[fR,a]
 have e:(zm3 s.heap x t b).objs.size=s.heap.objs.size+3:=by rw[fR,d]
 have l:(zm4 s.heap x t b).objs.size=s.heap.objs.size+4:=by rw[fR,e]
 have f:(Z7 s.heap x t b).get? (zm4 _ x t b).objs.size=Y _:=aC _ W;have g:(Z7 s.heap x t b).get? (zm3 _ x t b).objs.size=Y _:=hp9 _ (aC _ W);have h:(Z7 _ x t b).get? ((s.heap.push _).push _).objs.size=Y _:=hp9 _ (hp9 _ (aC _ W));have i:(Z7 _ x t b).get? (s.heap.push _).objs.size=Y _:=hp9 _ (hp9 _ (hp9 _ (aC _ W)));rw[d,e,l]at f;rw[a,d]at h;rw[e]at g;rw[a]at i;rw[l];exact⟨⟨_,f,W⟩,k _ f h g (⟨_,(hp9 _ (hp9 _ (hp9 _ (hp9 _ (aC _ W))))),W,W⟩) (ID i) λc o q=>hp9 _ (hp9 _ (hp9 _ (hp9 _ (hp9 _ q))))⟩
end
noncomputable def Itm(K:au)(x:aV)(b:aD):It:=
 ⟨λi H=>∃c a y,x.cps[i]?=Y c/\yj U K H b a/\a[i]?=Y y,
  λi H v d=>∃T',H T'=L/\v=.ref T'/\∃c y,x.cps[i]?=Y c/\(∀a,yj U K H b a->a[i]?=Y y)/\d=upd H T' (.tup [.str ⟨#[c]⟩,y]),
  λi H=>∃a,yj U K H b a/\(x.cps[i]?=L\/Z a<=i)⟩
def JR{K:au}(x:aV)(t:JE)(b z TI TO B i2:aD)(D:ZAm z TI TO B i2 b) :
  Turn P w K (.Tuple elts k pos) (Itm K x b) [z,TI,TO,B,i2] z (λi h=>IsZip h z TI TO .none/\rK h TI (.ref B) (.ref i2)/\(∃u v,rK h TO u v)/\pU h B x t i/\pV U h i2 b i) where
 mem:=by simp
 obj:=λi h st c hc=>by
  obtain⟨g,d,⟨u,v,f⟩,⟨o1,e1,_,d1⟩,h2⟩:=st;obtain⟨o2,e2,_,d2⟩:=h2.obj;simp only[ak,bu,dy]at hc
  rcases hc with rfl|rfl|rfl|rfl|rfl
  .exact⟨_,g,λv z=>nomatch z⟩
  .exact⟨_,d,λv z=>nomatch z⟩
  .exact⟨_,f,λv z=>nomatch z⟩
  .exact⟨_,e1,λv z=>by rw[d1]at z;cases z⟩
  .exact⟨_,e2,λv z=>by rw[d2]at z;cases z⟩
 keep:=λi h h' st k=>by
  obtain⟨g,d,⟨u,v,f⟩,h1,h2⟩:=st;exact⟨k z (by simp) _ g,k TI (by simp) _ d,⟨u,v,k TO (by simp) _ f⟩,h1.keep λo e=>k B (by simp) o e,h2.keep λo e=>k i2 (by simp) o e⟩
 item:=by
  intro X n p q hc i h_ s σ H E I hf st l;subst n p q;obtain⟨c1,ys,y,J',hb,L'⟩:=l;obtain⟨M,j,r⟩:=yj.at I hb;obtain⟨A,C,F⟩:=j.get L';obtain⟨g,d,⟨N,O',f⟩,h1,h2⟩:=st;refine M2 D g d f h1 h2 r J' (y:=A) (by simpa using C) λh' Q R S T' U' g6 hk=>?_;refine⟨_,W,wpAny_letOwnedTupleGo_zip Q λh'' G a=>?_⟩
  have V:∀c∈[z,TO,B,i2],sk X h_ H c:=λc hc=>hf c (by
   simp only[ak,bu,dy]at hc ⊢
   rcases hc with rfl|rfl|rfl|rfl<;>simp)
  have kk:∀c o,c∉[z,TO,B,i2]->s.heap.get? c=Y o->h''.get? c=Y o:=λc o hc e=>by
   simp only[ak,bu,dy,not_or]at hc;exact a.extBut c o hc.1 (hk c o hc.1 hc.2.1 hc.2.2.1 hc.2.2.2 e)
  have c3:Inv X h_ σ H { s with heap:=h'',toks:=s.toks+1 }:=I.qy (t':=s.toks+1) kk V;have e0:s.heap.objs.size≠z:=jm (hl9 g);have e3:h''.get? s.heap.objs.size=Y { cls:=.type "tuple",data:=.seq #[.str ⟨#[c1]⟩ s.toks,A] }:=a.extBut _ _ e0 U';have m:H s.heap.objs.size=L:=I.hok.fresh (ao _)
  have I2:Inv X h_ σ (upd H s.heap.objs.size (.tup [.str ⟨#[c1]⟩,y])) { s with heap:=h'',toks:=s.toks+1 }:=by
   refine c3.Hf (I.vC (ao _) m) I.sz ⟨by rw[eG];show 2<=16777216;decide,[.str ⟨#[c1]⟩ s.toks,A],.cons ⟨_,W⟩ (.cons F .nil),?_⟩;exact⟨_,e3,W,_,W⟩
  refine⟨.ref s.heap.objs.size,_,I2,W,⟨_,m,W,c1,y,J',λys' h1=>by rw[yj.inj I h1 hb];exact L',W⟩,⟨G,?_,⟨_,_,a.extBut _ _ D.Uz R⟩,S.keep λo e=>a.extBut _ o D.iz e,T'.keep λo e=>a.extBut _ o D.jz e⟩,λc hc=>?_⟩
  .exact a.extBut _ _ D.Tz (hk _ _ D.Tz D.TU D.Ti D.Tj d)
  .rw[cA ?_]
   .exact(hf c hc).1
   .have:c<s.heap.objs.size:=by
     simp only[ak,bu,dy]at hc
     rcases hc with rfl|rfl|rfl|rfl|rfl
     .exact hl9 g
     .exact hl9 d
     .exact hl9 f
     .obtain⟨_,e,_⟩:=h1;exact hl9 e
     .obtain⟨_,e,_⟩:=h2.obj;exact hl9 e
    exact a7 this
 done:=by
  intro X n p q hc i h_ s σ H E I hf st l;subst n p q;obtain⟨g,d,⟨N,O',f⟩,h1,h2⟩:=st;obtain⟨ys,hb,l⟩:=l;obtain⟨M,j,r⟩:=yj.at I hb;refine RT (I.ok.hd hc) D g d f h1 h2 r (l.imp id λh=>by simpa [j.length]using h) λh' hk tk=>⟨W,I.qy (t':=tk) (ch:=[z,TO,B,i2]) (λc o hc e=>?_) λc hc=>hf c ?_⟩
  .simp only[ak,bu,dy,not_or]at hc;exact hk c o hc.1 hc.2.1 hc.2.2.1 hc.2.2.2 e
  .simp only[ak,bu,dy]at hc ⊢
   rcases hc with rfl|rfl|rfl|rfl<;>simp
 self:=λ_ _ _ _ _ st h=>wpAny_pyIter_zip st.1 h
end L2
namespace M
open L2
section
variable{X:Cx}{a b:aZ}{pos:rJ}{xs:O Ex}{σ:St}{F H:Hp}{iter:aZ}
theorem Cb:∀(xs g:O Dat) (i:T),(qc xs g)[i]?=match xs[i]?,g[i]? with
  |some x,Y y=>Y (.tup [x,y])
  |_,_=>L
 |[],_,_=>by simp[qc]
 |_::_,[],i=>by
   simp[qc]
 |x::xs,y::g,0=>by simp[qc]
 |x::xs,y::g,i+1=>by exact Cb xs g i
theorem B9:∀(xs g:O Dat),Z (qc xs g)=min xs.length g.length
 |[],_=>by simp[qc]
 |_::_,[]=>by simp[qc]
 |x::xs,y::g=>by simp only[qc,bG,B9 xs g];simp
def TqK(tp:cc)(K:Fg)(F:Hp)(a:aD)(g:O V):Prop:=match tp with
 |true=>Tq K F a g
 |false=>pC K F a g
def TqK.up{tp:cc}{K:Fg}{F y H:Hp}{a:aD}{B:O V}(h:TqK tp K F a B)(s:cz F y)(g:Good y H):yj tp K H a B:=by
 cases tp
 .exact g.sub.seq (s.seq h)
 .exact((Tq.mono s h).mono g.sub).sq
def abM(K:Fg)(O':TA):TI:=λσ H R=>O' σ H λd c=>∃x b,d=[.str x,.ref b]/\(∃e,yj U K c b e)/\R (L2.Itm K x b) c
def R6(O':Gl X "zip")(c3:X.mg "zip"=L)(ha:PA X [a,b] P)(hs:aN [a,b] X.env=[(J,eval a X.env),(J,eval b X.env)])(B:aN [b] X.env=[(J,eval b X.env)]) :
  PI X (.Tuple elts k C) (.Call (.Name "zip" p) [a,b] [] pos) (abM X.K P):=by
 intro Q s σ H R I h;refine Call_ (mx I O' c3 (by decide +kernel:dt _=Y (.type "zip")) (cU (jc (ha _ Q s σ H _ I h) λus s1 G=>?_) (by rw[hs,B]) (by rw[B];rfl)));obtain⟨vs,j,g,m,n⟩:=G;obtain⟨x,b,rfl,⟨M,o⟩,q⟩:=n;cases m with
 |cons r i=>
   cases i with
   |cons u i=>
     cases i;obtain⟨t,rfl⟩:=r;cases u;obtain⟨D,v,d⟩:=yj.at g o;have E:@LT.lt _ _ b s1.heap.objs.size:=by obtain⟨_,e,_⟩:=d.obj;exact hl9 e
     refine QN d λV l w y z A S=>?_;refine wpAny_pyIter_zip l ⟨_,_,_,_,j,W,(g.kept S),
      JR x t b _ _ _ _ _ ⟨?_,?_,?_,?_,?_,?_,?_,?_,?_,?_,?_,?_,?_,?_⟩,⟨l,w,⟨_,_,y⟩,z,A⟩,λc N=>?_,q⟩
     all_goals try grind
     have f:s1.heap.objs.size<=c:=by
      simp only[ak,bu,dy]at N
      rcases N with rfl|rfl|rfl|rfl|rfl<;>first|simp|exact ao _
     exact g.vC f (g.hok.fresh f)
def signs_get(x:aV)(i:T):((fF x).map Dat.str)[i]?=(x.cps[i]?).map λc=>.str ⟨#[c]⟩:=by
 unfold fF;rw[aS,aS,jA];cases x.cps[i]?<;>rfl
def Wa(h:Vk ds=Y items):∃x g,ds=[.str x,.tup g]/\items=qc ((fF x).map .str) g:=by
 obtain⟨a,b,rfl⟩:∃a b,ds=[a,b]:=by
  cases ds with
  |nil=>cases h
  |cons a r=>
    cases r with
    |nil=>cases h
    |cons b r=>
      cases r with
      |nil=>exact⟨a,b,W⟩
      |cons _ _=>cases h
 cases a with
 |str x=>
   cases b with
   |tup g=>cases h;exact⟨_,_,W,W⟩
   |_=>cases h
 |_=>cases h
def aef(tp:cc)(K:Fg)(O':TA):TI:=λσ H R=>O' σ H λd c=>∃a,d=[.ref a]/\(∃xs,yj tp K c a xs)/\R (Ite tp K a) c
def XC{tp:cc}{elts:O aZ}{k:T}{B:rJ}{O':TA}{p:rJ}(S:Gl X "enumerate")(c3:X.mg "enumerate"=L)(ha:PA X [a] O')(hs:aN [a] X.env=[(J,eval a X.env)]) :
  PI X (.Tuple elts k B) (.Call (.Name "enumerate" p) [a] [] pos) (aef tp X.K O'):=by
 intro t s σ H R I h;refine Call_ (mx I S c3 (by decide +kernel:dt _=Y (.type "enumerate")) (cU (jc (ha _ t s σ H _ I h) λA s1 P=>?_) (by rw[hs];rfl) (by rfl)));obtain⟨C,g,f,l,m⟩:=P;refine ac λ_ b=>?_;obtain⟨i,rfl,⟨xs,n⟩,q⟩:=m;obtain⟨u,rfl,o⟩:=vals1 l;cases o;obtain⟨x,v,pl⟩:=yj.at f n;refine b ?_;refine Um pl λE j r y=>?_;have w:@LT.lt _ _ i s1.heap.objs.size:=by obtain⟨_,e,_⟩:=pl.obj;exact hl9 e
 refine e6 j ⟨_,_,_,_,g,W,(f.kept y),L8 i _ _ ?_ ?_ ?_,⟨⟨_,j⟩,r⟩,λc N=>?_,q⟩
 all_goals try grind
 have d:s1.heap.objs.size<=c:=by
  grind
 exact f.vC d (f.hok.fresh d)
theorem xX:∀(xs:O Dat)(k i:T),(qT k xs)[i]?=(xs[i]?).map λx=>.tup [.int (k+i:T),x]
 |[],_,_=>by simp[qT]
 |x::xs,k,0=>by simp[qT]
 |x::xs,k,i+1=>by
   simp only[qT,fU];rw[xX xs (k+1) i]
   congr 2
   funext y;rw[show k+1+i=k+(i+1)from(jq _ _ _)]
theorem xW:∀(xs:O Dat)(k:T),Z (qT k xs)=Z xs
 |[],_=>rfl
 |x::xs,k=>by simp only[qT,bG,xW xs (k+1)]
noncomputable def Vq:Dat->a5 (cc×O Dat)
 |.lst xs=>Y (J,xs)
 |.tup xs=>Y (U,xs)
 |_=>L
def J7{K:Fg}{F:Hp}{d:Dat}{tp:cc}{xs:O Dat}{v:V}(h:Vq d=Y (tp,xs))(r:Rep K F d v):∃p g,v=.ref p/\TqK tp K F p g/\cQ K F xs g:=by
 cases d with
 |lst c=>cases h;exact r
 |tup c=>cases h;exact r
 |_=>cases h
def Rx{d:Dat}{xs:O Dat}(h:aaN d=Y xs)(hs:∀z,d≠.str z):∃tp,Vq d=Y (tp,xs):=by
 cases d with
 |lst c=>cases h;exact⟨_,W⟩
 |tup c=>cases h;exact⟨_,W⟩
 |str z=>exact absurd rfl (hs z)
 |_=>cases h
def iEs(O':TA):TI:=λσ H R=>O' σ H λd c=>∃x,d=[.str x]/\R (Z0 x) c
def aa7(B:Gl X "enumerate")(O':X.mg "enumerate"=L)(ha:PA X [a] C)(hs:aN [a] X.env=[(J,eval a X.env)]) :
  PI X (.Tuple elts k y) (.Call (.Name "enumerate" p) [a] [] pos) (iEs C):=by
 intro n s σ H R I h;refine Call_ (mx I B O' (by decide +kernel:dt _=Y (.type "enumerate")) (cU (jc (ha _ n s σ H _ I h) λr s1 v=>?_) (by rw[hs];rfl) (by rfl)));obtain⟨w,g,f,j,l⟩:=v;obtain⟨x,rfl,q⟩:=l;obtain⟨u,rfl,t,rfl⟩:=vals1 j;refine Ul λA i m o=>?_;refine e6 i ⟨_,_,_,_,g,W,(f.kept o),QY x t _ _ ?_,⟨⟨_,i⟩,m⟩,λc e=>?_,q⟩
 .simp
 have d:s1.heap.objs.size<=c:=by
  simp only[ak,bu,dy]at e
  rcases e with rfl|rfl<;>first|simp|exact ao _
 exact f.vC d (f.hok.fresh d)
def rT{f:O Dat->g_}{K:Fg}{xs:O V}{H:Hp}{Q:VK}(C:∀ds d fr,f ds=Y (d,fr)->Z ds=1)(h:gL K f xs H Q) :
  ∃y d fr F v,f [y]=Y (d,fr)/\xs=[v]/\Good F H/\Rep K F y v/\∀w I B,Step F H I B->Rep K I d w->(fr=U->ik K H B d w)->Q w B:=by
 refine ac λ_ a=>?_;obtain⟨ds,d,fr,i,F,g,r,k⟩:=h
 apply a;match ds,C ds d fr i with
 |[y],_=>
   clear C a; obtain⟨v,w,rfl,e,c⟩:=r;cases c;exact⟨y,d,fr,F,v,i,W,g,e,k⟩
def PU:∀{ds:O Dat}{r:Dat×cc},b1 f ds=Y r->Z ds=1
 |[_],_,_=>rfl
 |[],_,h=>by cases h
 |_::_::_,_,h=>by cases h
def oG{b:Blt}:∀ds d fr,jg b ds=Y (d,fr)->Z ds=1:=λds d fr h=>by
 cases b<;>first|exact PU h|cases h
set_option tactic.hygienic true
set_option tactic.hygienic false
theorem Ad{K:Fg}:∀{ds:O Dat}{bs:O cc}{g:O V}{y:O ai},x9 ds=Y bs->cQ K F ds g->cX g y->y=bs.map yF
 |[],bs,g,y,h,r,w=>by
   cases h;rw[r]at w;cases w;rfl
 |d::ds,bs,g,y,h,c,w=>by
   obtain⟨v,r,rfl,e,i⟩:=c;cases d with
   |bl b=>
     obtain⟨f,j,h⟩:=dY h;cases h;cases e
     cases w with
     |cons q w=>cases q;rw[Ad j i w];rfl
   |_=>cases h
def FH(bs:O cc):((aR bs.length).any λi=>(bs[i]?).getD J)=bs.any id:=by
 rw[QL,jY,jY];constructor
 .rintro⟨i,d,h⟩;have c:=aX.mp d;rw[ag c]at h;exact⟨_,bw c,h⟩
 .rintro⟨b,e,h⟩;obtain⟨i,d,rfl⟩:=j6 e;exact⟨i,aX.mpr d,by simp_all⟩
theorem zQ{K:Fg}:∀{ds:O Dat}{is:O cx}{g:O V}{y:O ai},zR ds=Y is->cQ K F ds g->cX g y->Ep y is
 |[],is,g,y,h,r,w=>by
   cases h;rw[r]at w;cases w;exact .nil
 |d::ds,is,g,y,h,c,w=>by
   obtain⟨v,r,rfl,e,j⟩:=c;cases d with
   |int i=>
     obtain⟨f,k,h⟩:=dY h;cases h;cases e
     cases w with
     |cons q w=>obtain⟨t,rfl⟩:=q;exact .cons i t (zQ k j w)
   |_=>cases h
def iT(o:Bop):O Dat->g_
 |[x,y]=>hJ o x y
 |_=>L
end
section
variable{X:Cx}{pos:rJ}{xs:O Ex}{F H:Hp}{iter:aZ}
noncomputable def tyName:Ty->et
 |.int=>"int"
 |.bool=>"bool"
 |.str=>"str"
 |.tuple=>"tuple"
 |.list=>"list"
noncomputable def abF:Dat->et
 |.non=>"NoneType"
 |.bl _=>"bool"
 |.int _=>"int"
 |.str _=>"str"
 |.tup _=>"tuple"
 |.lst _=>"list"
 |.dct _ _=>"dict"
 |.any=>"dict"
 |.exc _ _ _=>"NoneType"
def YI(K:Fg)(t:Ty)(d:Dat):PySem.W.kitOne K (.type (abF d)) (.type (tyName t))=Y (Om t d):=by
 cases t<;>cases d<;>rfl
def adF(K:Fg)(t:Ty):O V->Hp->VK->Prop:=λxs H Q=>∃a F v,xs=[v,.ty (tyName t)]/\Good F H/\Rep K F a v/\nax a=U/\Q (.bl (Om t a)) H
end
end M
namespace L2
section
end
def va:hS table "reversed.__next__"=Y gu.«reversed.__next__» :=gg (by kernel_rfl)
def lU:Qv "reversed" "__next__" "reversed.__next__":=.of (owner:="reversed") (n:="__next__") (by kernel_rfl) (by decide +kernel) (by decide +kernel) (by decide +kernel) (.inl (by decide +kernel)) (by kernel_rfl)
def uY:Qv "reversed" "__iter__" "reversed.__iter__":=.of (owner:="reversed") (n:="__iter__") (by kernel_rfl) (by decide +kernel) (by decide +kernel) (by decide +kernel) (.inl (by decide +kernel)) (by kernel_rfl)
section
end
noncomputable abbrev RM(p:aD)(i:cx):lO:={ cls:=.type "reversed",data:=.fields #[.ref p,rawInt i] }
section
variable{s:aj}
end
section
variable{A:bJ}{s:aj}{its:c4 ai}
def wV(y:s.heap.get? I=Y (RM p i)):s.TypeIs (.ref I) "reversed":=⟨_,y,W⟩
def RK(O':its.size<=aF)(B:j<its.size)(F:BR s.heap p its)(y:s.heap.get? I=Y (RM p j))(k:∀C P,C.get? I=Y (RM p ((j:cx) - 1))->cM I s.heap C->Q (Y its[j]) { s with heap:=C,toks:=P }) :
  aw (aq prog w) A (hF (.ref I)) Q E s:=by
 refine wb9 (iV (cR (wV y) lU (bY lU (wV y) va ?_ (by kernel_rfl))));refine (?_ : aw _ _ (ma _ 0 >>= _) _ _ s);refine wb9 (cD y W (x:=.ref p) W ?_);refine wb9 (cD y W rfl ?_);refine wb9 (gG F.typeIs wa.lookup ?_);refine wb9 (wpAny_mkInt ?_);have a:hU (j) its.size=Y j:=by
  unfold hU;have b:¬(j:cx)<0:=by simp
  simp[B,b]
 refine wb9 (iV (tX F (by simp) (gH (vq.mpr (aa B O')) cV) a (a8 B) ?_));refine wb9 (cD y W rfl ?_);exact wb9 (bW y (by simp) λC g c=>wu9 ⟨_,W,wu9 (k C _ g c)⟩)
def Xu(B:A.handled=L)(y:s.heap.get? I=Y (RM p (-1)))(k:∀g,(∀b o,b≠I->s.heap.get? b=Y o->g.get? b=Y o)->Q L { s with heap:=g }) :
  aw (aq prog w) A (hF (.ref I)) Q E s:=by
 refine wb9 (iV (cR (wV y) lU (bY lU (wV y) va ?_ (by kernel_rfl))));refine (?_ : aw _ _ (ma _ 0 >>= _) _ _ s);refine wb9 (cD y W (x:=.ref p) W ?_);refine wb9 (cD y W rfl ?_);refine wb9 (ip ?_);apply wb9;refine wb9 (bW y (by simp) λj a s1=>bW a (by simp) λl c s2=>?_);refine wb9 (vU B λg e d f=>?_);obtain⟨o,h,i⟩:=f;exact wb9 (dU ⟨o,h,i⟩ t8 (wu9 (k _ λb o n q=>d _ _ (s2.extBut _ _ n (s1.extBut _ _ n q)))))
end
end L2
namespace M
open L2
def zq{g:O ai}{is:O aV}(h:rM g is):cX (is.map V.str) g:=by
 induction h with
 |nil=>exact .nil
 |cons n t _ i=>exact .cons ⟨t,W⟩ i
theorem rpS{K:Fg}:∀(is:O aV),cQ K F (is.map Dat.str) (is.map V.str)
 |[]=>rfl
 |i::is=>⟨_,_,W,W,rpS is⟩
theorem abK:∀(is:O aV),nv (is.map Dat.str)=U
 |[]=>rfl
 |i::is=>by exact abK is
section
end
section
end
section
end
section
end
section
variable{X:Cx}{iter:aZ}{ifs:O aZ}
def RC(c3:X.calm=U)(S:kg X scope y P caps)(hi:SI X C tg iter it)(e0:rB y.length g)(R:ZU X.K y.length one g)
  (hg:∀(cl:O (aV×aD))(B:aj)(O':Hp)(Ca:aD)(F:O aD),PG (fO X scope cl (y++P) B O' Ca F) tg g)
  (ht:∀(cl:O (aV×aD))(B:aj)(O':Hp)(Ca:aD)(F:O aD),Qq (fO X scope cl (y++P) B O' Ca F) ifs (gTs X.K C xs))
  (he:∀(cl:O (aV×aD))(B:aj)(O':Hp)(Ca:aD)(F:O aD),SE (fO X scope cl (y++P) B O' Ca F) C elt xe)
  (hs:∀x,eu iter X.env x=pure x):SE X C (.ListComp elt [⟨tg,iter,ifs,0⟩] scope pos) (.comp y.length one caps it xs xe):=
 PE.imp (by intro N s σ H Q I h;obtain⟨cl,c,A,E⟩:=x5 I.ok S;refine JA W hs c S.kind S.locs (jc (hi N s σ H _ I h) λv s1 j=>jc j λitv s2 d=>?_);refine bC (xZ c3 S A E hg e0 ht he d) (λk s3 l=>bC l (λi u n=>iQ n λr w p=>?_) λ_ _ z=>z) λ_ _ z=>z;clear c3 S hi hg e0 ht he hs I h c A E j d l n; obtain⟨rfl,D,G,rfl,⟨m,t⟩,M,a,q⟩:=p;exact⟨m,t,λV f=>⟨.ref D,G,(M.turned (λb o hb e=>f.extBut b o hb e) a.1 a.2.1 a.2.2.2.1 a.2.2.2.2.1 a.2.2.2.2.2),W,q⟩⟩) (Ab R λ_ _ _=>trivial)
end
def ZT(K:Fg)(y:cc)(B:O T)(g:TG):Prop:=∀e b F H f h d x c Q,Rl K e b F H f h->Rep K F d x->iU y B d h=Y c->(∀a,Rl K e b F H a c->Q a H)->g x f H Q
def gNs:O T->V5
 |[]=>KP
 |i::a=>zT (lp i) (gNs a)
theorem OP{K:Fg}:∀(O':O T){y:St}{ρ:dN},Rl K I g F H y ρ->∀ds:O Dat,Z ds=Z O'->(∀B,Rl K I g F H B (qB O' ds ρ)->Q B H)->∀C,cQ K F ds C->gNs O' C y H Q
 |[],y,ρ,R,ds,a,k,C,r=>by
   cases ds with
   |nil=>exact⟨r,k _ R⟩
   |cons _ _=>cases a
 |i::e,y,ρ,R,ds,a,k,C,r=>by
   cases ds with
   |nil=>cases a
   |cons d ds=>
     obtain⟨v,w,rfl,b,c⟩:=r;exact⟨v,w,W,OP e (R.AJ b) ds (by simpa using a) k w c⟩
def Mf{K:Fg}:ZT K J g (OO K g.length (gNs g)):=λj e F H l m d x h Q R r c k=>by
 simp only[iU]at c
 cases d with
 |tup i=>
   dsimp only at c;split at c
   .rename_i b;cases c;obtain⟨a,f,rfl,t,r⟩:=r;exact⟨a,f,W,(t.mono R.step.good.sub).sq,by rwa[r.length],(OP g R i b k f r)⟩
   .cases c
 |_=>cases c
section
variable{X:Cx}{iter:aZ}{pos:rJ}
def xT{K:Fg}(R:Rl K I g F H σ ρ)(h:(Br C it (wz (l8 is ρ))).map (λds=>(ds,l8 is ρ))=Y (items,y))
  (k:∀J' F1 B,cz F F1->Rl K I g F1 B σ y->kM K (xO it F1) J' items->Q J' B):gI K C it σ H Q:=by
 obtain⟨ds,c,h⟩:=dY h;cases h;obtain⟨a,s2,R2⟩:=R.freeze is;exact⟨_,_,a,c,R2.step.good,R2.wz,λJ' F1 B b ok=>k J' F1 B (s2.trans b.ff) (R2.moved b) ok⟩
def tw{K:Fg}{F1:Hp}{D:Ends}(tgs:ZT K one ts g)(s1:cz F F1)(R1:Rl K Fz H₀ F1 H1 S ρ')(le:∀c3,cz F1 c3->cz F0 c3)(ok:kM K F0 J' items)
  (h:jS (iU one ts) (e9 C xs) items ρ'=Y out)(k:rm K Fz H₀ F D EE out):∃e0:T->T->St->Hp->Prop,(∃m,e0 0 m S H1)/\∀i m S H,e0 i m S H->
   (J'.stop i H/\D.nx S H)\/(J'.go i H/\∃N:St->Hp->Prop,(∀O' R,N O' R->∃e1,e1<m/\e0 (i+1) e1 O' R)/\∀x R,J'.yld i H x R->g x S R λσ2 H2=>gSs K C EE xs { D with nx:=N,ct:=N,bk:=D.nx } σ2 H2):=by
 refine⟨λi m S H=>∃F V,Rl K Fz _ F H S V/\cz F1 F/\jS (iU _ ts) _ (items.drop i) V=Y _/\m=Z items - i/\i<=Z items,⟨_,F1,_,R1,cz.refl _,h,W,aU _⟩,?_⟩;rintro i m σ2 H2 ⟨c3,q,R2,s2,Q,rfl,r⟩;obtain⟨s,oks⟩:=ok c3 H2 R2.step.good (le c3 s2);by_cases a:i<Z items
 .obtain⟨go,G⟩:=s i _ (ag a);refine .inr ⟨go,λO' R=>∃e1,e1<Z items - i/\∃F V,Rl K Fz _ F R O' V/\cz F1 F/\jS (iU _ ts) _ (items.drop _) V=Y _/\e1=Z items - (i+1)/\i+1<=Z items,λO' R z=>z,λx A I=>?_⟩;obtain⟨B,j,L'⟩:=G x A I;rw[fE a]at Q;obtain⟨l,t,Q⟩:=bX Q;obtain⟨o,ho,Q⟩:=bX Q;refine tgs Fz _ B A _ q _ x l _ (R2.moved j) L' t λM P=>?_;have b :=s2.trans j.ff;refine⟨Fz,_,B,l,o,ho,P,?_⟩
  cases o with
  |nx n=>exact λu E p w y=>⟨_,nZ (ws a) (wt (aK a)),u,n,y,b.trans w,Q,W,a⟩
  |rt d fr=>
    cases Q;exact k
  |xc c f k1=>
    cases Q;exact k
  |rl d n=>
    cases Q;exact λv u E p w y=>k v u E p ((s1.trans b).trans w) y
 .have e :=aI r (cB a);subst e;rw[vR]at Q;cases Q;exact .inl ⟨oks _ (ao _),k c3 H2 _ (s1.trans s2) R2⟩
def AD(y:qO (aq X.prog X.w) X.A X.env X.xe)(I:X.calm=U)(hi:SI X C tg iter it)(O':∀a,it≠.itv a)(c3:PG X tg g)(e0:ZT X.K one P g)(S:BI X C EE body xs)
  (hs:∀x,eu iter X.env x=pure x):SS X C EE (.For tg iter body [] pos) (.loop one P it xs):=
 PS.imp (M9 y I hi c3 S hs) λD l H c=>by
  obtain⟨m,j,F,r,n,h,R,k⟩:=c;obtain⟨⟨items,i⟩,f,h⟩:=bX h;have fin:∀u F1 b,cz F F1->Rl _ m _ F1 b l i->kM _ (xO it F1) u items->_:=λu F1 b s1 d ok=>tw e0 s1 d (λe s=>DH s) ok h k
  cases it with
  |itv a=>exact absurd rfl (O' a)
  |rng o=>refine ac λ_ v=>?_;obtain⟨t,d,f⟩:=dY f;cases f;obtain⟨c,p,b⟩:=R.hZ;apply v;refine⟨_,_,c,d,b.step.good,b.full,λu F1 B q ok=>?_⟩;have a:=Step.shrink R.step.good p q;exact fin u _ B a.ff (R.moved a) ok
  |zip o=>exact xT R f fin
  |enu a=>exact xT R f fin
  |rev a=>exact xT R f fin
def Mp{Lu:aZ}(hp:qO (aq X.prog X.w) X.A X.env X.xe)(hc:ST X C Lu xc)(hb:BI X C EE body xs):SS X C EE (.While Lu body [] pos) (.whl xc xs):=
 PS.imp ((show PS X (.While Lu _ [] _) (Wo (gT _ C xc) (gSs _ C EE xs)) by
 intro h_ s Q H D I h;obtain⟨M,⟨m0,u⟩,turn⟩:=h;refine wpAny_While (codeAny_whileLoop (λn s'=>∃e P,Inv X h_ e P s'/\M n e P) ?_ m0 ⟨Q,H,I,u⟩);rintro n s1 ⟨d,q,x,y⟩;refine jO hp (jc (hc h_ s1 d q _ x (turn n d q y)) λb s2 z=>?_)
 obtain⟨S,r,i⟩:=z;cases b with
 |true=>
   refine ac λ_ kq=>?_;obtain⟨N,t,i⟩:=i;apply kq;refine jO hp (jc (hb h_ s2 d S _ r i) λf s3 j=>?_)
   cases f with
   |next=>
     obtain⟨a,g,k,l⟩:=j;obtain⟨m,o,p⟩:=t a g l;exact⟨m,o,a,g,k,p⟩
   |cont=>
     obtain⟨a,g,k,l⟩:=j;obtain⟨m,o,p⟩:=t a g l;exact⟨m,o,a,g,k,p⟩
   |brk=>exact j
   |ret v=>exact j
 |false=>
   exact jP ⟨d,S,r,i⟩)) λD Q H E=>by
  obtain⟨V,H₀,F,K,out,h,R,k⟩:=E;have h:Cg (λK=>(bA C xc _).bind _) _ o5 K=Y _:=h;generalize o5=n at h;refine⟨λm Q H=>∃F1 K,Rl _ V _ F1 H Q K/\cz F F1/\Cg (λK=>(bA C xc (full K)).bind _) _ m K=Y _,⟨n,F,K,R,cz.refl _,h⟩,?_⟩;rintro m l J' ⟨F1,ρ1,p,s1,a⟩
  cases m with
  |zero=>cases a
  |succ m=>
    obtain⟨b,q,a⟩:=bX a;obtain⟨⟨d,fr⟩,h1,G⟩:=bX q;obtain⟨I,sp,u⟩:=p.hZ;refine⟨_,d,fr,b,h1,G,I,u.step.good,u.full,λL' S st=>?_⟩;have e:=Step.shrink p.step.good sp st;cases b with
    |false=>
      apply Dr;cases a;exact k _ S l (s1.trans e.ff) (p.moved e)
    |true=>
      apply Dq;obtain⟨o,ho,a⟩:=bX a;refine⟨λg P=>∃y,y<m+1/\∃F1 K,Rl _ V _ F1 P g K/\cz F F1/\Cg (λK=>(bA C xc _).bind λx=>iZ _) _ y K=Y _,λg P z=>z,?_⟩;refine⟨V,_,_,_,o,ho,(p.moved e),?_⟩;clear p ho; cases o with
      |nx i=>exact λr B j s t=>⟨m,ao _,r,i,t,(s1.trans e.ff).trans s,a⟩
      |rt d fr=>
        cases a;exact k
      |xc c f k1=>
        cases a;exact k
      |rl d i=>
        cases a;exact λv r B j s t=>k v r B j ((s1.trans e.ff).trans s) t
set_option tactic.hygienic true in
def WE(S:SE X C e xe)(O':ZT X.K J B I)(c3:PG X y I)
  (hs:fC [y] e pos.line X.env=pure J)(e0:f7 [y] e X.env=pure L)(P:(ej [y] X.env).map (·.2)=[hD y X.env]):SS X C EE (.Assign [y] e pos) (.unp B xe):=
 PS.imp (wZ S c3 hs e0 P) λD t H b=>by
  refine ac λ_ s=>?_;obtain⟨u,n,F,x,w,h,R,k⟩:=b;obtain⟨⟨d,A,l⟩,P,h⟩:=bX h
  apply s;cases d with
  |tup m=>
    have h:(if Z m=(Z B) then Y (Out.nx (qB B m l))else L)=Y _:=h;split at h
    .rename_i c;cases h;refine Bq R P λv Fm o p g i q r f=>?_;refine O' u _ o p t _ _ v (qB B m _) _ (i.moved q) r ?_ λa j=>k o p a (g.trans q.ff) j;simp only[iU];rw[cb c]
    .cases h
  |_=>cases h
end
section
variable{K:Fg}{base:bP}
set_option tactic.hygienic true in
def Zb{st:fP}(F:Z2 K x qual st f fd)(S:mG N I (br st))(c3:Z I<=Z N)
  (O':∀(y:ai)(A:bJ)(outer:O B6)(s:aj)(H:Hp)(E:XK),i5 k (A.deeper (fe qual (br st) s.heap.objs.size f y))->
   BI (kQ sJ P w K mg base N qual (br st) f y A outer s H E).j3 C EE (jQ st) body):jt P w K mg base sJ (k+1) f fd I (Qj K I.length (KS C I.length N.length body)):=by
 refine F.ok S (λvs H Q E h=>h.1) λy A outer s H vs Q E b h=>⟨_,O' _ A _ s H E b,?_⟩
 refine ac λ_ D=>?_;obtain⟨hl,X,d,fr,u,G,g,r,a⟩:=h;apply D;unfold KS at u;split at u
 .rename_i c;obtain⟨o,ho,u⟩:=bX u;refine⟨G,⟨H,L⟩,G,_,o,ho,⟨Step.refl g,?_,λi M q=>?_,λ_ _ _ z=>(nomatch z),λ_=>[],λi M q=>?_,λi j d1 d2 e p t=>?_⟩,?_⟩
  .unfold L2.start;simp[hl,c]
  .have B:i<Z X:=by
    by_cases B:i<Z X
    .exact B
    .rw[aG (by simpa using B),cO]at q;split at q<;>cases q
   rw[aO (by simpa using B),aS]at q;refine ac λ_ D=>?_;obtain⟨d2,V,e2⟩:=dY q;cases e2;obtain⟨v,e3,l⟩:=r.get V;apply D;refine⟨v,?_,l⟩;unfold L2.start;rw[aO (by simp_all),aS,e3];rfl
  .exfalso;by_cases B:i<Z X
   .rw[aO (by simpa using B)]at q
    simp_all
   .rw[aG (by simpa using B),cO]at q;split at q<;>cases q
  .simp
  .clear D hl g r c ho; cases o with
   |nx ρ'=>
     cases u;exact λF' H' m s' R=>a _ F' H' R.step W bx
   |rt M n=>
     cases u;exact a
   |rl _ _=>cases u
   |xc _ _ _=>cases u
 .cases u
end
theorem dq.take{K:Fg}:∀(n:T){ds:O Dat}{y:O V}{S:O aD},dq K H ds y S->∃B O',dq K H (ds.take n) (y.take n) B/\dq K H (ds.drop n) (y.drop n) O'/\S=B++O'
 |0,ds,y,S,h=>⟨[],S,⟨W,W⟩,h,W⟩
 |n+1,[],y,S,h=>by
   obtain⟨rfl,rfl⟩:=h;exact⟨[],[],⟨W,W⟩,⟨W,W⟩,W⟩
 |n+1,d::ds,y,S,b=>by
   refine ac λ_ j=>?_;obtain⟨v,r,B,O',e,k,l,q⟩:=b;subst e q;obtain⟨a,c,f,g,i⟩:=dq.take n l;apply j;exact⟨_,c,⟨v,_,B,a,W,k,f,W⟩,g,by simp_all⟩
theorem dq.setAt{K:Fg}{T':O aD}(C:lr K H I F T'):∀(n:T){ds:O Dat}{y:O V}{S:O aD},n<Z ds->dq K H ds y S->∃B O' P,dq K H (ds.set n I) (y.set n F) (B++T'++P)/\S=B++O'++P
 |n,[],y,S,a,h=>absurd a (by simp)
 |0,d::ds,y,S,_,b=>by
   obtain⟨v,r,B,O',e,l,k,q⟩:=b;subst e q;exact⟨[],B,O',⟨F,r,T',O',W,C,k,by simp⟩,by simp⟩
 |n+1,d::ds,y,S,a,b=>by
   obtain⟨v,r,B,O',e,l,k,q⟩:=b;subst e q;obtain⟨c,g,f,i,j⟩:=dq.setAt C n (by simpa using a) k;refine⟨B++c,g,f,⟨v,_,B,_,W,l,i,by simp⟩,by rw[j];simp⟩
section
variable{K:Fg}
def Rl.mut(R:Rl K Fz I F H σ ρ)(O':Ow K I.h F H σ ρ S)(hi:ρ[i]?=Y (Y (d,U)))(B:σ[i]?=Y (Y v))
  (P:l∈S i)(c3:Lc o')(o:lr K (upd H l o') d' v S')(nd:S'.Nodup)(e0:∀a∈S',a∈S i\/(F a=L/\I.h a=L/\∀(j:T)d2,ρ[j]?=Y (Y (d2,U))->a∉S j)) :
  Rl K Fz I F (upd H l o') σ (ρ.set i (Y (d',U))):=by
 obtain⟨w,G,N,M,p⟩:=O'.own i d hi;obtain⟨ol,r,mul⟩:=N.vE _ l P;refine⟨⟨⟨λa u q=>?_,λa us q=>?_⟩,R.step.ff,λa u q=>?_,R.step.un⟩,by simpa using R.len,λj d2 q=>?_,λd2 s q=>?_,λj=>if j=i then S' else S j,λj d2 q=>?_,λj k d1 d2 n y t=>?_⟩
 .rw[cA (iq q ((p l P).1))];exact R.step.good.sub a u q
 .by_cases X:a=l
  .subst X;rw[bN]at q;cases q;exact c3.elim
  .rw[cA X]at q;exact R.step.good.tup a us q
 .rw[cA (iq q ((p l P).2))];exact R.step.hh a u q
 .rcases eW q with⟨rfl,e⟩|⟨b,g⟩
  .cases e
  .exact R.val j d2 g
 .clear O' B P c3 o nd e0 N p r mul; rcases eW q with⟨rfl,e⟩|⟨b,g⟩
  .exact R.keep _ s hi
  .exact R.keep _ s g
 .rcases eW q with⟨rfl,e⟩|⟨b,g⟩
  .cases e;rw[cb W];refine⟨v,B,o,nd,λa m=>?_⟩
   rcases e0 a m with m|m
   .exact p a m
   .exact⟨m.1,m.2.1⟩
  .rw[cv (dn b)];obtain⟨w,A,C,D,E⟩:=O'.own j d2 g;exact⟨w,A,C.upd (λvs z=>by rw[r]at z;cases z;exact mul) d2 (O'.sep i j d d2 b hi g l P),D,E⟩
 .intro a m
  rcases eW y with⟨rfl,e⟩|⟨h1,f⟩
  .rw[cb W]at m
   rcases eW t with⟨N,_⟩|⟨Q,c⟩
   .exact absurd N n
   .rw[cv (dn Q)]
    rcases e0 a m with m|m
    .exact O'.sep _ k d d2 Q hi c a m
    .exact m.2.2 k d2 c
  .rw[cv (dn h1)]at m
   rcases eW t with⟨rfl,e⟩|⟨Q,c⟩
   .rw[cb W];intro x
    rcases e0 a x with x|x
    .exact O'.sep _ j d d1 h1 hi f a x m
    .exact x.2.2 j d1 f m
   .rw[cv (dn Q)];exact O'.sep j k d1 d2 n f c a m
def Bs(R:Rl K P B F H σ ρ)(h:pT C es (M.full ρ)=Y (ds,U))
  (k:∀g I y S,Step F H I y->dq K y ds g S->S.Nodup->(∀a∈S,H a=L/\I a=L)->Q g y):gF K C es σ H Q:=by
 obtain⟨d,p,c⟩:=R.hZ;refine⟨_,ds,U,h,d,c.step.good,c.full,λg F1 e t r f=>?_⟩;obtain⟨S,n,l,o⟩:=f W;exact k g _ e S (by
  have i:=(Step.shrink R.step.good p t);refine⟨⟨λa j q=>?_,λa g q=>?_⟩,λa j q=>?_,i.hh,λa j q n=>?_⟩
  .by_cases m:a∈S
   .rw[uX m]at q;cases q
   .rw[jT m]at q;exact i.good.sub a j q
  .rw[jT λm=>?_]
   .exact i.good.tup a g q
   .obtain⟨u,b,c⟩:=o.vE _ a m;rw[q]at b;cases b;exact c
  .rw[jT λm=>?_]
   .exact i.ff a j q
   .rw[R.step.good.sub.free (l a m)]at q;cases q
  .by_cases m:a∈S
   .exact uX m
   .rw[jT m];exact i.un a j q n) o n λa m=>⟨l a m,uX m⟩
end
noncomputable def YO:V->a5 Key
 |.int i=>Y (.inl i)
 |.str x=>Y (.inr x)
 |_=>L
def Gi(h:YO v=Y k):v=kV k:=by
 cases v<;>first|(cases h;rfl)|cases h
def To(k:Key):YO (kV k)=Y k:=by cases k<;>rfl
noncomputable def ur(k:Key)(y:V):O (Key×V)->O (Key×V)
 |[]=>[(k,y)]
 |p::r=>if p.1=k then(p.1,y)::r else p::ur k y r
theorem HA:∀(r:O (Key×V)),(r.any λB=>decide (B.1=k))=J->r.map (λB=>if B.1=k then(B.1,y)else B)=r
 |[],_=>rfl
 |p::r,h=>by
   rw[sQ,Bool.or_eq_false_iff]at h;rw[az,cv (of_decide_eq_false h.1),HA r h.2]
theorem HG:∀(g:O (Key×V)),xp k (g.map (·.1))=U->putK g k y=ur k y g
 |[],_=>rfl
 |p::r,h=>by
   simp only[az,xp]at h;by_cases e:p.1=k
   .rw[cb e]at h
    have b:(r.any λa=>decide (a.1=k))=J:=by
     simp only[jG]at h;rwa[List.any_map]at h
    unfold putK ur;rw[cb e,cb (by rw[sQ,c0 e];rfl),az,cb e,HA r b]
   .rw[cv e]at h;unfold ur;rw[cv e,<-(HG (y:=y) r h)];unfold putK;rw[sQ,c6 e,Bool.false_or];split
    .rw[az,cv e]
    .rfl
theorem zD:∀(g:O (Key×V))(ds:O Dat),Z ds=Z g->(ur k y g).map (·.1)=(putD k d (g.map (·.1)) ds).1
 |[],ds,h=>by
   cases ds with
   |nil=>rfl
   |cons _ _=>cases h
 |p::r,[],h=>by cases h
 |p::r,e::ds,h=>by
   have a:=zD (k:=k) (y:=y) (d:=d) r ds (by simpa using h);simp only[ur,az,putD];by_cases q:p.1=k
   .rw[cb q,cb q];rfl
   simp_all
theorem dq.put{K:Fg}{T':O aD}(o:lr K H d y T')(B:T'.Nodup):∀(F:O (Key×V)) (ds:O Dat) (S:O aD),dq K H ds (F.map (·.2)) S->S.Nodup->(∀a∈S,a∉T')->
  ∃C,dq K H (putD k d (F.map (·.1)) ds).2 ((ur k y F).map (·.2)) C/\C.Nodup/\∀a∈C,a∈S\/a∈T'
 |[],[],S,x,f,c=>⟨T',.one o,B,λa m=>.inr m⟩
 |[],e::ds,S,x,f,c=>by
   obtain⟨v,r,i,g,q,_⟩:=x;cases q
 |p::r,[],S,x,f,c=>by
   cases x.1
 |p::r,e::ds,S,x,f,c=>by
   refine ac λ_ w=>?_;obtain⟨v,u,i,g,q,l,j,rfl⟩:=x;cases q;apply w;have h:=cG.mp f;simp only[ur,az,putD];by_cases q:p.1=k
   .rw[cb q,cb q];refine⟨_,⟨y,r.map _,T',g,W,o,j,W⟩,cG.mpr ⟨B,h.2.1,λa m b A z=>c b (aB _ A) (z▸m)⟩,λa m=>?_⟩
    grind
   .rw[cv q,cv q];obtain⟨C,n,s,t⟩:=dq.put o B r ds g j h.2.1 λa m=>c a (aB _ m);refine⟨_,⟨_,(ur k y r).map _,i,C,W,l,n,W⟩,cG.mpr ⟨h.1,s,λa m b A z=>?_⟩,λa m=>?_⟩
    .subst z
     rcases t a A with z|z
     .exact h.2.2 a m a z W
     .exact c a (aJ _ m) z
    grind
noncomputable def Yb:HO->O V->a5 HO
 |.lst a,[y]=>if Z a<aF then Y (.lst (a++[y]))else L
 |_,_=>L
def Kq:HO->O V->a5 HO
 | .lst b,l=>match l with
   |[y,.int i]=>if -1000000<=i/\i<=1000000 then(W5 y i b).map .lst else L
   |_=>L
 | .dK a,l=>match l with
   |[y,v]=>(YO v).bind λk=>if Z a<aF then Y (.dK (putK a k y))else L
   |_=>L
 |_,_=>L
def Ez:Ly->HO->O V->a5 HO
 |.app,a,l=>Yb a l
 |.seti,a,l=>Kq a l
 |_,_,_=>L
def mJ{T':O aD}(g:(S++T').Nodup):S.Nodup/\T'.Nodup/\∀a∈S,a∉T':=by
 obtain⟨b,c,d⟩:=cG.mp g;exact⟨b,c,λa m n=>d a m a n W⟩
def kJ{S T':O aD}(g:S.Nodup)(y:T'.Nodup)(B:∀a∈S,a∉T'):(S++T').Nodup:=cG.mpr ⟨g,y,λa m b n z=>B a m (z▸n)⟩
def Jw(K:Fg)(H:Hp)(g:Ly)(y:Dat)(v:V)(B:O V)(S T':O aD):Prop:=
 ∃l b c d,v=.ref l/\l∈S/\H l=Y b/\Ez g b B=Y c/\Lc c/\lr K (upd H l c) y v d/\d.Nodup/\∀a∈d,a∈S\/a∈T'
section
variable{K:Fg}{T':O aD}
end
def A3{K:Fg}{T':O aD}(h1:op≠.ext)(h:kP op d ds=Y d')(o:lr K H d v S)(P:S.Nodup)(a:dq K H ds vs T')(R:T'.Nodup)(B:∀a∈S,a∉T'):Jw K H op d' v vs S T':=by
 have hd:(∃N,d=.lst N)\/(op=.seti/\∃Q ws,d=.dct Q ws):=by
  clear o P a R B; cases d with
  |lst N=>exact .inl ⟨N,W⟩
  |dct Q ws=>cases op<;>first|exact absurd rfl h1|exact .inr ⟨W,Q,ws,W⟩|cases h
  |any=>cases op<;>first|exact absurd rfl h1|cases h
  |_=>cases op<;>cases h
 rcases hd with hd|⟨rfl,Q,ws,rfl⟩
 rotate_left
 .obtain⟨l,G,M,rfl,F,rfl,I,rfl⟩:=o
  cases ds with
  |nil=>cases h
  |cons d1 ds=>
    cases ds with
    |nil=>cases h
    |cons d0 ds=>
      cases ds with
      |cons _ _=>cases h
      |nil=>
        obtain⟨k,X,h⟩:=bX h;split at h
        .rename_i b;refine ac λ_ E=>?_;cases h;clear h; obtain⟨y,r,t,u,e,c,m,q⟩:=a;obtain⟨w,A,z,n,p,j,f,g⟩:=m;obtain⟨rfl,rfl⟩:=f
         have C:w=kV k/\z=[]:=by
          clear R F I P B b E e c q p g; cases d0 with
          |int i=>cases X;exact j
          |str x=>cases X;exact j
          |_=>cases X
         clear X j; obtain⟨rfl,rfl⟩:=C;apply E;rw[aW]at g;clear E; subst e p g;rw[aW]at q;refine ac λ_ V=>?_;subst q;have h:=a6.mp P;obtain⟨g,i,j,n⟩:=dq.put c R G ws M I h.2 λa m=>B a (jU _ m)
         apply V;have d:l∉g:=λm=>by
          rcases n l m with z|z
          .exact h.1 z
          .exact (B l jB) z
         refine⟨l,_,.dK _,_,W,jB,F,?_,trivial,⟨l,_,g,W,bN,zD G ws (by simpa using I.length.symm),i.upd (λvs z=>by rw[F]at z;cases z) _ d,W⟩,a6.mpr ⟨d,j⟩,λe m=>?_⟩
         .simp only[Ez,Kq,To,bS];rw[cb (by simpa using b.1),HG G b.2]
         grind
        .cases h
 obtain⟨N,rfl⟩:=hd;obtain⟨l,xs,M,rfl,F,I,rfl⟩:=o
 cases op with
 |ext=>exact absurd rfl h1
 |app=>
   cases ds with
   |nil=>cases h
   |cons d1 ds=>
     cases ds with
     |cons _ _=>cases h
     |nil=>
       obtain⟨y,r,t,u,e,c,f,q⟩:=a;obtain⟨rfl,rfl⟩:=f;rw[aW]at q;subst e q;simp only[kP,Wj,LY,Wi]at h;split at h
       .rename_i b;cases h;have f:=a6.mp P;have d :=B l jB;refine⟨l,_,.lst _,_,W,jB,F,by simp only[Ez,Yb];rw[cb (by rwa[I.length])],trivial,⟨l,_,_,W,bN,(I.upd (λvs z=>by rw[F]at z;cases z) _ f.1).append (.one (c.upd (λvs z=>by rw[F]at z;cases z) _ d)),W⟩,?_,λa m=>?_⟩
        .refine a6.mpr ⟨λm=>?_,kJ f.2 R λa m=>B a (jU _ m)⟩
         rcases aH.mp m with m|m
         .exact f.1 m
         .exact d m
        .clear F I P c R B b f d; rcases ak.mp m with rfl|m
         .exact .inl jB
         .rcases aH.mp m with m|m
          .exact .inl (jU _ m)
          .exact .inr m
       .cases h
 |seti=>
   cases ds with
   |nil=>cases h
   |cons d1 ds=>
     cases ds with
     |nil=>cases h
     |cons d0 ds=>
       cases ds with
       |cons _ _=>cases d0<;>cases h
       |nil=>
         cases d0 with
         |int i=>
           obtain⟨y,r,t,u,e,c,m,q⟩:=a;obtain⟨w,A,z,n,p,j,f,g⟩:=m;obtain⟨rfl,rfl⟩:=f;obtain⟨rfl,rfl⟩:=j;rw[aW]at g;subst e p g;rw[aW]at q;subst q;simp only[kP,Wj,LY,Wi]at h;split at h
           .rename_i b;obtain⟨es',s,h⟩:=dY h;cases h;obtain⟨k,D,s⟩:=dY s;subst s;have n :=B l jB;obtain⟨f,r,g,o,rfl⟩:=I.setAt c k ((Bg D).2.1);have h:=mJ (a6.mp P).2;have d:l∉f++T'++g:=λm=>by
             grind
            refine⟨l,_,.lst _,_,W,jB,F,?_,trivial,⟨l,_,_,W,bN,o.upd (λvs z=>by rw[F]at z;cases z) _ d,W⟩,?_,λa m=>?_⟩
            .simp only[Ez,Kq];rw[cb b];unfold W5;rw[I.length,D];rfl
            .refine a6.mpr ⟨d,kJ (kJ (mJ h.1).1 R λa m=>B a (jU _ (aJ _ (aJ _ m)))) h.2.1 λa m m2=>?_⟩
             grind
            grind
           .cases h
         |_=>cases h
section
variable{X:Cx}{K:Fg}
def Y6(h:gF K C [P,S] σ H Q):gE K C P σ H λx B=>gE K C S σ B λy I=>Q [x,y] I:=by
 refine ac λ_ o=>?_;obtain⟨p,E,al,h,F,g,R,k⟩:=h;obtain⟨⟨d,t⟩,u,h⟩:=bX h;obtain⟨⟨r,n⟩,q,h⟩:=dY h;cases h;obtain⟨⟨d2,c⟩,A,i⟩:=bX q;clear q; cases i;apply o;refine⟨p,d,t,u,F,g,R,λv F1 B a e j=>⟨p,d2,c,A,F1,a.good,R.mono a.ff,λw l I b f m=>k _ l I (a.trans b) ⟨v,_,W,e.mono b.ff,w,[],W,f,W⟩ λz=>?_⟩⟩;simp only[mo,kj,ah]at z;refine gh.cons a.hh b.hh ?_ (gh.cons b.hh (cz.refl _) ?_ .nil)
 .rcases z.1 with z|z
  .exact j z
  .exact .lj a.good z e
 .rcases z.2 with z|z
  .exact m z
  .exact .lj b.good z f
def qI(h:gE K C x σ H Q)(f:∀v B,cz H B->Q v B->y v B):gE K C x σ H y:=by
 obtain⟨e,d,a,h,F,g,R,k⟩:=h;exact⟨e,d,a,h,F,g,R,λv i b c r a=>f v b c.hh (k v i b c r a)⟩
def C6(h:og C (.mut op i es) ρ=Y out) :
  ∃ds d g,pT C es (full ρ)=Y (ds,U)/\ρ[i]?=Y (Y (d,U))/\kP op d ds=Y g/\out=.nx (ρ.set i (Y (g,U))):=by
 obtain⟨⟨ds,al⟩,c,h⟩:=bX h;by_cases a:al=U
 .subst a
  cases q:ρ[i]? with
  |none=>rw[q]at h;cases h
  |some z=>
    rw[q]at h
    match z,h with
    |some (d,U),h=>
      obtain⟨g,b,e⟩:=dY h;exact⟨ds,d,g,c,W,b,e.symm⟩
 simp_all
def C5(S:op≠.ext){D:Ends}(h:gS K C EE (.mut op i es) D σ H) :
  ∃l c3,σ[i]?=Y (Y (.ref l))/\H l=Y c3/\(op≠.seti->∃xs,c3=.lst xs)/\gF K C es σ H λvs H1=>∃e0 y,H1 l=Y e0/\Ez op e0 vs=Y y/\D.nx σ (upd H1 l y):=by
 refine ac λ_ V=>?_;obtain⟨Fz,Q,F,ρ,out,h,R,k⟩:=h;obtain⟨ds,d,d',h3,hi,b,rfl⟩:=C6 h;clear h; obtain⟨Ss,O'⟩:=R.ow;obtain⟨v,e1,N,e3,I⟩:=O'.own i d hi
 have c:∃l c3,v=.ref l/\H l=Y c3/\(op≠.seti->∃xs,c3=.lst xs):=by
  clear V R h3 hi k O' e1 e3 I; cases d with
  |lst es=>
    obtain⟨l,xs,S',rfl,x,os,J'⟩:=id N;exact⟨l,_,W,x,λ_=>⟨xs,W⟩⟩
  |dct ks ws=>
    obtain⟨l,k_,S',rfl,x,_⟩:=id N;refine⟨l,_,W,x,λe=>?_⟩
    cases op<;>first|exact absurd rfl S|exact absurd _ h2|exact absurd rfl e|cases b
  |any=>cases op<;>first|exact absurd rfl S|exact absurd _ h2|cases b
  |_=>cases op<;>cases b
 obtain⟨l,c3,rfl,x,f⟩:=c;apply V;refine⟨l,c3,e1,x,f,Bs R h3 λvs F' H' T' P ow t s=>?_⟩;have z:∀a∈Ss i,a∉T':=λa m m2=>by
  obtain⟨u,A,_⟩:=N.vE _ a m
  simp_all
 refine ac λ_ V=>?_;obtain⟨L',e0,y,M,ev,g,n,o,B,E,p,r⟩:=A3 S b (N.mono P.hh) e3 ow t z;cases ev;apply V;refine⟨e0,_,n,o,k F' _ σ P.ff ((R.moved P).mut (O'.moved P) hi e1 g B E p λa m=>?_)⟩
 rcases r a m with m|m
 .exact .inl m
 .refine .inr ⟨(s a m).2,R.step.hh.free (s a m).1,λj d2 q m2=>?_⟩;obtain⟨w,_,G,_⟩:=O'.own j d2 q;obtain⟨u,A,_⟩:=G.vE _ a m2
  simp_all
def Rf{st:fP}(I:op≠.ext)(P:op≠.seti)(S:∀l O' y B H Q,H l=Y O'->Ez op O' B=Y y->(∀u,Q u (upd H l y))->r (.ref l) B H Q)
  (c3:PS X st (Hg (Z8 X.K "list" r (vx i) (gF X.K C es)))):SS X C EE st (.mut op i es):=PS.imp c3 λD x H h=>by
 obtain⟨l,b,e,j,a,g⟩:=C5 I h;obtain⟨m,rfl⟩:=a P;refine⟨_,e,.inl ⟨W,m,pC.of j⟩,?_⟩;refine ac λ_ s=>?_;obtain⟨n,o,al,h,F,c,R,k⟩:=g;apply s;exact⟨n,o,al,h,F,c,R,λB p d st r f=>by obtain⟨O',_,q,t,w⟩:=k B p d st r f;exact S l O' _ B d _ q t λ_=>w⟩
def HC:V->V->V->Hp->(Hp->Prop)->Prop:=λo i v H Q=>∃p a k,o=.ref p/\i=kV k/\H p=Y (.dK a)/\Z a<aF/\Q (upd H p (.dK (putK a k v)))
def AI(B:X.A.units+1<eC):ZW X (λo i v H Q=>CP o i v H Q\/HC o i v H Q):=λS s σ H o i v d e u Q I a b c h=>by
 rcases h with h|⟨p,D,k,rfl,rfl,C,f,q⟩
 .refine ac λ_ l=>?_;obtain⟨p,z,k,j,rfl,rfl,C,f,q⟩:=h;cases a;obtain⟨t,rfl⟩:=b;obtain⟨m,n,r,N,g⟩:=I.lst C;obtain⟨R,h2,h3,y⟩:=Bg f;apply l;have hl:=r.length;have w:=uF
  have E:Inv X S σ (upd H p (.lst (z.set j v))) { s with heap:=s.heap.update p (Obj.mapSeq fun x => x.setIfInBounds j u),toks:=s.toks }:=by
   have a:(s.heap.update p (Obj.mapSeq fun x => x.setIfInBounds j u)).get? p=Y { cls:=.type "list",data:=.seq (m.set j u).toArray n }:=by
    rw[du (Obj.mapSeq _) N (by rw[(Ga _ n j u)]<;>rfl),(Ga _ n j u)]
   exact I.write (by rw[C];trivial) (λy b hb q=>(cy _ _ (dn hb)).trans q) ⟨_,a⟩ ⟨(by simp_all),_,n,(r.set c j),a⟩
  by_cases F:0<=k
  .have P:k.toNat=j:=by
    rw[Qr F y]at R
    simp_all
   exact PySem.W.ki_setAt N F (gH y (gH (fQ.mpr g) cV)) (by simp_all) (by rw[P];exact⟨_,E,q⟩)
  .have P:(k+(m.toArray.size)).toNat=j:=by
    rw[LC (nV.mp F) h3]at R
    simp_all
   exact PySem.W.ki_setBack N (nV.mp F) (by simp_all) (by grind) (by rw[P];exact⟨_,E,q⟩)
 .cases a;exact KZ I (U3.k C f) b c λG E=>⟨_,E,q⟩
set_option tactic.hygienic true in
def Rb{st:fP}(O':PS X st (Az (gE X.K C B) (TZ (vx i) (gE X.K C xi) (λo i v H Q=>CP o i v H Q\/HC o i v H Q)))):SS X C EE st (.mut .seti i [B,xi]):=PS.imp O' λD N H h=>by
 obtain⟨l,d,e,P,_,g⟩:=C5 (by simp) h;refine qI (Y6 g) λx u s1 f=>⟨_,e,qI f λy R s2 m=>?_⟩
 obtain⟨n,A,b,a,c⟩:=m
 cases n with
 |lst E=>
   cases y with
   |int k=>
     simp only[Ez,Kq]at a;split at a
     .obtain⟨w,p,q⟩:=dY a;clear a; cases q;obtain⟨j,r,rfl⟩:=dY p;exact .inl ⟨l,E,k,j,W,W,b,r,c⟩
     .cases a
   |_=>cases a
 |dK F=>
   obtain⟨k,I,a⟩:=bX a;split at a
   .rename_i t;cases a;exact .inr ⟨l,F,k,W,Gi I,b,t,c⟩
   .cases a
 |_=>cases a
end
section
def OE:∀l B g C H(Q:VK),H l=Y B->Ez .app B C=Y g->(∀u,Q u (upd H l g))->HD (.ref l) C H Q:=λl B g C H Q c b d=>by
 cases B with
 |lst e=>
   cases C with
   |nil=>cases b
   |cons y C=>
     cases C with
     |cons _ _=>cases b
     |nil=>
       simp only[Ez,Yb]at b;split at b
       .rename_i a;cases b;exact⟨l,e,y,W,W,c,a,d _⟩
       .cases b
 |_=>cases b
end
def OW(l:aD)(items:c4 ai)(n:T)(b:aD)(B:c4 ai)(F:T)(O':a5 aD)(zw:c4 (a5 ai))(I:¬(!items.isEmpty && jM (items.size+B.size))=U)(y:items.size<=aF)(C:items.size+B.size<=aF+1) :
  mh (gu.«list.extend» ⟨[.ref l,.ref b],[]⟩) (λ_ R s=>s.heap.get? l=Y { cls:=.type "list",dict:=L,data:=.seq items n,slots:=#[] }/\s.heap.get? b=Y { cls:=.type "tuple",dict:=O',data:=.seq B F,slots:=zw }/\R (.ok (.ret dG)) { s with heap:=s.heap.update l (fM λx=>x++B),toks:=s.toks }):=
 .of_wp λprog w A R s h=>by
  obtain⟨f,g,d,a,i⟩:=s;obtain⟨c,e,h⟩:=h
  wp_walk using(jN c W ),sr c,sr e
  exact⟨_,W,h⟩
def OZ(l:aD)(items:c4 ai)(n:T)(b:aD)(B:c4 ai)(F:T)(O':a5 aD)(zw:c4 (a5 ai))(I:¬(!items.isEmpty && jM (items.size+B.size))=U)(y:items.size<=aF)(C:items.size+B.size<=aF+1) :
  mh (gu.«list.extend» ⟨[.ref l,.ref b],[]⟩) (λ_ R s=>s.heap.get? l=Y { cls:=.type "list",dict:=L,data:=.seq items n,slots:=#[] }/\s.heap.get? b=Y { cls:=.type "list",dict:=O',data:=.seq B F,slots:=zw }/\R (.ok (.ret dG)) { s with heap:=s.heap.update l (fM λx=>x++B),toks:=s.toks }):=
 .of_wp λprog w A R s h=>by
  obtain⟨f,g,d,a,i⟩:=s;obtain⟨c,e,h⟩:=h
  wp_walk using(jN c W ),sr c,sr e
  exact⟨_,W,h⟩
section
variable{K:Fg}
def aa2(K:Fg):V->O V->Hp->VK->Prop:=λx d H Q=>∃l b c a,x=.ref l/\d=[.ref b]/\H l=Y (.lst c)/\(pC K H b a\/vj K H b a)/\Z c+Z a<=aF/\Q .non (upd H l (.lst (c++a)))
def V7(K:Fg)(H:Hp)(g:Dat)(v:V)(y:O V)(S T':O aD):Prop:=
 ∃l d b c e,v=.ref l/\l∈S/\H l=Y (.lst d)/\y=[.ref b]/\(pC K H b c\/vj K H b c)/\Z d+Z c<=aF/\lr K (upd H l (.lst (d++c))) g v e/\e.Nodup/\∀a∈e,a∈S\/a∈T'
def OY{T':O aD}(g:H l=Y (.lst xs))(C:dq K H es xs y)(P:(l::y).Nodup)(R:pC K H b zs\/vj K H b zs)(F:dq K H I zs c)(B:∀a∈c,a∈T')(S:c.Nodup)(O':∀a∈l::y,a∉T')(c3:Z es+Z I<=aF) :
  V7 K H (.lst (es++I)) (.ref l) [.ref b] (l::y) T':=by
 have e:=a6.mp P;have d :=λm=>O' l jB (B l m);refine⟨l,xs,b,zs,_,W,jB,g,W,R,by rwa[C.length,F.length],⟨l,_,_,W,bN,(C.upd (λf z=>by rw[g]at z;cases z) _ e.1).append (F.upd (λf z=>by rw[g]at z;cases z) _ d),W⟩,?_,λa m=>?_⟩
 .refine a6.mpr ⟨λm=>?_,kJ e.2 S λa m h=>O' a (jU _ m) (B a h)⟩
  simp_all
 grind
def Ug{T':O aD}(h:kP .ext d ds=Y I)(o:lr K H d v S)(C:S.Nodup)(a:dq K H ds P T')(F:T'.Nodup)(B:∀a∈S,a∉T'):V7 K H I v P S T':=by
 cases d with
 |lst A=>
   obtain⟨l,E,N,rfl,u,w,rfl⟩:=o
   cases ds with
   |nil=>cases h
   |cons d1 ds=>
     cases ds with
     |cons _ _=>cases d1<;>cases h
     |nil=>
       obtain⟨y,r,j,k,e,f,g,q⟩:=a;obtain⟨rfl,rfl⟩:=g;rw[aW]at q;subst e q
       cases d1 with
       |lst x=>
         simp only[kP,LY]at h;split at h
         .rename_i c;cases h;obtain⟨b,i,n,rfl,p,t,rfl⟩:=f;exact OY u w C (.inl (.inl (.inl p))) t (λa m=>jU _ m) (a6.mp F).2 B c
         .cases h
       |tup x=>
         simp only[kP,LY]at h;split at h
         .rename_i c;cases h;obtain⟨b,i,rfl,p,t⟩:=f;exact OY u w C (.inr p.sq) t (λa m=>m) F B c
         .cases h
       |_=>cases h
 |_=>cases h
def WN{st:fP}(O':PS X st (Hg (Z8 X.K "list" (aa2 X.K) (vx i) (gF X.K C es)))):SS X C EE st (.mut .ext i es):=PS.imp O' λD N H h=>by
 obtain⟨l,a,P,x,g⟩:∃l V,N[i]?=Y (Y (.ref l))/\H l=Y (.lst V)/\gF X.K C es N H λQ S=>∃t b c3,S l=Y (.lst t)/\Q=[.ref b]/\(pC X.K S b c3\/vj X.K S b c3)/\Z t+Z c3<=aF/\D.nx N (upd S l (.lst (t++c3))):=(by
  refine ac λ_ kq=>?_;obtain⟨Fz,H₀,F,ρ,out,h,R,k⟩:=h;obtain⟨ds,d,d',h3,hi,p,rfl⟩:=C6 h;obtain⟨Ss,O'⟩:=R.ow;obtain⟨v,P,e2,e3,I⟩:=O'.own i d hi
  have c:∃l V,v=.ref l/\H l=Y (.lst V):=by
   cases d with
   |lst es=>
     obtain⟨l,t,S',rfl,x,os,J'⟩:=id e2;exact⟨l,t,W,x⟩
   |_=>cases p
  obtain⟨l,V,rfl,x⟩:=c;apply kq;refine⟨l,V,P,x,Bs R h3 λQ F' H' T' st ow s r=>?_⟩;have y:∀a∈Ss i,a∉T':=λa m m2=>by
   obtain⟨u,z,_⟩:=e2.vE _ a m
   simp_all
  refine ac λ_ kq=>?_;obtain⟨L',t,b,c3,M,ev,e,f,g,A,B,E,n,o⟩:=Ug p (e2.mono st.hh) e3 ow s y;cases ev;apply kq;refine⟨t,b,c3,f,g,A,B,k F' _ N st.ff ((R.moved st).mut (O'.moved st) hi P e trivial E n λa m=>?_)⟩
  rcases o a m with m|m
  .exact .inl m
  .refine .inr ⟨(r a m).2,R.step.hh.free (r a m).1,λj d2 q m2=>?_⟩;obtain⟨w,_,G,_⟩:=O'.own j d2 q;obtain⟨u,z,_⟩:=G.vE _ a m2
   simp_all);refine⟨_,P,.inl ⟨W,a,pC.of x⟩,?_⟩;obtain⟨ρ,ds,al,h,F,c,R,k⟩:=g;exact⟨ρ,ds,al,h,F,c,R,λQ F' H' st r f=>by obtain⟨t,b,zs,q1,q2,q3,q4,q5⟩:=k Q F' H' st r f;exact ⟨l,b,t,zs,W,q2,q1,q3,q4,q5⟩⟩
end
section
variable{X:Cx}{K:Fg}
theorem zM:∀{ds:O Dat}{q:O Key}{g:O V},Dl ds=Y q->cQ K F ds g->g=q.map kV
 |[],_,_,h,r=>by cases h;exact r
 |d::ds,_,_,h,a=>by
   obtain⟨v,w,e,f,j⟩:=a;obtain⟨k,c,h⟩:=bX h;obtain⟨q,b,h⟩:=dY h;cases h;subst e;rw[az,<-zM b j]
   congr 1
   cases d with
   |int i=>cases c;exact f
   |str x=>cases c;exact f
   |_=>cases c
theorem Ij:∀{ds:O Dat}{q:O N2}{y:O V},VA ds=Y q->cQ K F ds y->NV2 K F q y
 |[],_,_,h,r=>by cases h;exact r
 |d::ds,_,_,h,f=>by
   obtain⟨v,w,e,m,n⟩:=f;obtain⟨k,l,h⟩:=bX h;obtain⟨q,g,h⟩:=dY h;cases h;subst e;have b:=Ij g n
   cases d with
   |int i=>cases l;cases m;exact⟨w,W,b⟩
   |str x=>cases l;cases m;exact⟨w,W,b⟩
   |tup o=>
     obtain⟨j,c,l⟩:=dY l;cases l;obtain⟨a,y,rfl,t,r⟩:=m;rw[zM c r]at t;exact⟨a,w,W,t,b⟩
   |_=>cases l
theorem Ia:∀{ds:O Dat}{q:O NK}{y:O V},nkL ds=Y q->cQ K F ds y->NVs K F q y
 |[],_,_,h,r=>by cases h;exact r
 |d::ds,_,_,h,f=>by
   obtain⟨v,w,e,m,n⟩:=f;obtain⟨k,l,h⟩:=bX h;obtain⟨q,g,h⟩:=dY h;cases h;subst e;have b:=Ia g n
   cases d with
   |int i=>cases l;cases m;exact⟨w,W,b⟩
   |str x=>cases l;cases m;exact⟨w,W,b⟩
   |tup o=>
     obtain⟨j,c,l⟩:=dY l;cases l;obtain⟨a,y,rfl,t,r⟩:=m;exact⟨a,w,y,W,t,Ij c r,b⟩
   |_=>cases l
def SG(h:Yi g=Y k)(r:Rep K F g v):∃a,v=.ref a/\NKy K F k a:=by
 cases g with
 |tup c=>
   obtain⟨a,b,rfl,t,r⟩:=r;exact⟨a,W,b,t,Ia h r⟩
 |_=>cases h
theorem IB:∀{q:O Key}{g:O ai},cX (q.map kV) g->∀h:bP,t4 (Ky X.prog X.w) h q g
 |[],_,w,_=>by cases w;exact .nil
 |k::q,_,w,h=>by
   cases w with
   |cons a b=>exact .cons (xD a) (IB b h)
theorem ux(I:Inv X C σ H s)(g:Good F H):∀{k:O N2}{y:O V}{B:O ai},NV2 X.K F k y->cX y B->t4 (i2 X.prog X.w) s.heap k B
 |[],_,_,h,w=>by rw[h]at w;cases w;exact .nil
 |.inl k::d,_,_,h,w=>by
   obtain⟨r,rfl,h⟩:=h;cases w with
   |cons q w=>exact .cons (xD q) (ux I g h w)
 |.inr q::d,_,_,h,w=>by
   obtain⟨b,r,rfl,t,h⟩:=h;cases w with
   |cons a w=>
     refine .cons ?_ (ux I g h w);cases(a);obtain⟨e,c,⟨o,f,i,n,j⟩,_⟩:=I.tupR g t;exact⟨b,W,o,_,n,f,i,j,by simpa using IB c _⟩
theorem uw(I:Inv X C σ H s)(g:Good F H):∀{k:O NK}{B:O V}{y:O ai},NVs X.K F k B->cX B y->ZY X.prog X.w s.heap k y
 |[],_,_,h,w=>by rw[h]at w;cases w;exact .nil
 |.inl k::e,_,_,h,w=>by
   obtain⟨r,rfl,h⟩:=h;cases w with
   |cons q w=>exact .cons (xD q) (uw I g h w)
 |.inr q::e,_,_,h,w=>by
   obtain⟨b,r,y,rfl,t,a,h⟩:=h;cases w with
   |cons c w=>
     refine .cons ?_ (uw I g h w);cases(c);obtain⟨f,d,⟨o,i,j,n,l⟩,_⟩:=I.tupR g t;exact⟨b,W,o,_,n,i,j,l,by simpa using ux I g a d⟩
def NN(I:Inv X y σ H s)(g:Good F H)(h:NKy X.K F k a):(abl X.prog X.w).is s.heap k a:=by
 refine ac λ_ c=>?_;obtain⟨j,t,r⟩:=h;obtain⟨d,b,⟨o,e,f,n,i⟩,_⟩:=I.tupR g t;apply c;exact⟨o,_,n,e,f,i,by simpa using uw I g r b⟩
end
section
variable{X:Cx}
noncomputable def Ls(g:Dat)(ds:O Dat)(its:O ai)(w:ai):cc:=@decide (∃(i:T) (d:Dat),its[i]?=Y w/\ds[i]?=Y d/\sE d g=U) (nW _)
def GD(I:Inv X R σ H s)(g:Good F H){y:Dat}{ds:O Dat}{C:O V}{its:O ai}(ss:fW 20 ds=U)(r:cQ X.K F ds C)(w:cX C its){i:T}{d:Dat}{u:ai}(P:its[i]?=Y u)(B:ds[i]?=Y d):Ls y ds its u=sE d y:=by
 have x:∀(j:T)q,its[j]?=Y u->ds[j]?=Y q->q=d:=λj q c b=>by
  obtain⟨v,A,E⟩:=r.get B;obtain⟨n,e,f⟩:=r.get b;obtain⟨o,k,m⟩:=w.get A;obtain⟨p,a,h⟩:=w.get e;rw[P]at k;cases k;rw[c]at a;cases a;have:=m.inj h;subst this;exact(AS I g d q (qk 20 _ (mI ss B)) (qk 20 _ (mI ss b)) E f).symm
 by_cases t:sE d y=U
 .rw[t];exact@c0 _ (nW _) ⟨i,d,P,B,t⟩
 .have:sE d y=J:=by simpa using t
  rw[this];refine@c6 _ (nW _) λ⟨j,q,c,b,l⟩=>?_;rw[x j q c b]at l;exact t l
def BG(I:Inv X P σ H s)(g:Good F H)(ss:fW 20 ds=U)(r:cQ X.K F ds B)(w:cX B its):its.any (Ls C ds its)=ds.any λy=>sE y C:=by
 have c:Z its=Z ds:=by rw[<-w.length,r.length]
 rw[QL,jY,jY];constructor
 .rintro⟨u,f,h⟩;obtain⟨i,b,e⟩:=j6 f;have a:=aa b (af c);refine⟨_,bw a,?_⟩;rwa[<-GD I g ss r w (by rw[ag b,e]) (ag a)]
 .rintro⟨d,j,h⟩;obtain⟨i,b,e⟩:=j6 j;have a:=aa b (af c.symm);refine⟨_,bw a,?_⟩;rwa[GD I g ss r w (ag a) (by rw[ag b,e])]
def GC(I:Inv X S σ H s)(g:Good F H)(A:bJ)(B:A.units+20<eC)(P:jH 20 C=U)(ss:fW 20 ds=U)(O':Rep X.K F C x)(c3:RelV x u)(r:cQ X.K F ds R)(w:cX R its) :
  ∀y∈its,JH A s y u (Ls C ds its y):=λy c=>by
 obtain⟨i,k,e⟩:=j6 c;have a:i<Z ds:=aa k (af (by rw[<-w.length,r.length]));have j:its[i]?=Y y:=by simp_all
 have h:=ag a;rw[GD I g ss r w j h];obtain⟨v,l,m⟩:=r.get h;obtain⟨f,b,d⟩:=w.get l;rw[j]at b;cases b;exact(xV I g 20 A _ C B (mI ss h) P m O' d c3).1
set_option tactic.hygienic true
def X3(O':X.A.units+21<eC):kR X (dk .In) (gB X.K (tR .isin)):=λh_ s σ H x y v u Q I e f l=>by
 refine ac λ_ c=>?_;obtain⟨E,o,d,fr,h,F,g,i,j,k⟩:=l;obtain⟨b,S,rfl,rfl⟩:=lF h;apply c;clear h; cases o with
 |str z=>
   cases E with
   |str C=>
     cases S;exact Kp h_ s σ H x y v u Q I e f ⟨_,_,i,j,k _ F H (Step.refl g) W bx⟩
   |_=>cases S
 |lst N=>
   have a:(if jH 20 E && fW 20 N then Y (N.any λy=>sE y E)else L)=Y b:=by cases E<;>exact S
   split at a
   .rename_i R;rw[ah]at R;cases a;obtain⟨p,vs,rfl,t,r⟩:=j;obtain rfl:u=.ref p:=f;obtain⟨P,w,pl,_⟩:=I.lstR g t;refine SeqAt.in_listAt (Ls E N _) pl.isList (λy m=>GC I g _ (by omega) R.1 R.2 i e r w y (by simpa using m)) ⟨.bl _,H,I,W,?_⟩;rw[show P.toArray.any (Ls E N _)=P.any (Ls E N P) by simp,BG I g R.2 r w];exact k _ F H (Step.refl g) W bx
   .cases a
 |tup N=>
   have a:(if jH 20 E && fW 20 N then Y (N.any λy=>sE y E)else L)=Y b:=by cases E<;>exact S
   split at a
   .rename_i R;rw[ah]at R;cases a;obtain⟨p,vs,rfl,t,r⟩:=j;obtain rfl:u=.ref p:=f;obtain⟨P,w,pl,_⟩:=I.tupR g t;refine SeqAt.in_tupleAt (Ls E N _) pl (λy m=>GC I g _ (by omega) R.1 R.2 i e r w y (by simpa using m)) ⟨.bl _,H,I,W,?_⟩;rw[show P.toArray.any (Ls E N _)=P.any (Ls E N P) by simp,BG I g R.2 r w];exact k _ F H (Step.refl g) W bx
   .cases a
 |dct M N=>
   have a:(rR E).map (λk=>(ig k M N).isSome)=Y b:=by cases E<;>exact S
   refine ac λ_ c=>?_;clear S; obtain⟨D,hk,a⟩:=dY a;subst a;obtain⟨p,G,rfl,B,rfl,n⟩:=j;obtain rfl:=oB hk i;obtain rfl:u=.ref p:=f
   apply c;have V:(ig D (G.map (·.1)) N).isSome=(qe G D).isSome:=by
    cases q:ig D (G.map _) N with
    |none=>rw[uE q n];rfl
    |some d=>obtain⟨w,e2,_⟩:=qE q n;rw[e2];rfl
   refine aeo I (uQ.k (g.sub _ _ B)) e λs' I'=>⟨.bl _,H,I',W,?_⟩
   rw[<-V];exact k _ F H (Step.refl g) W bx
 |_=>cases E<;>cases S
def Sh(B:X.A.units+21<eC):kR X (dk .NotIn) (gB X.K (tR .nin)):=λR s S H x y v u Q I f i c=>by
 refine ac λ_ e=>?_;obtain⟨q,m,d,fr,h,F,g,j,l,k⟩:=c;obtain⟨b,E,rfl,rfl⟩:=lF h;apply e;clear e h; cases m with
 |str z=>
   cases q with
   |str o=>
     cases E;exact AX R s S H x y v u Q I f i ⟨_,_,j,l,k _ F H (Step.refl g) W bx⟩
   |_=>cases E
 |lst N=>
   have a:(if jH 20 q && fW 20 N then Y (!(N.any λy=>sE y q))else L)=Y b:=by cases q<;>exact E
   split at a
   .rename_i P;rw[ah]at P;clear E; cases a;obtain⟨p,vs,rfl,t,r⟩:=l;obtain rfl:u=.ref p:=i;obtain⟨C,w,pl,_⟩:=I.lstR g t;refine SeqAt.notIn_listAt (Ls q N _) pl.isList (λy n=>GC I g _ (by omega) P.1 P.2 j f r w y (by simpa using n)) ⟨.bl _,H,I,W,?_⟩;rw[show C.toArray.any (Ls q N _)=C.any (Ls q N C) by simp,BG I g P.2 r w];exact k _ F H (Step.refl g) W bx
   .cases a
 |_=>cases q<;>cases E
set_option tactic.hygienic false
end
def gM(K:Fg)(f:Dat->O Dat->g_):V->O V->Hp->VK->Prop:=λx h H Q=>∃b c d e F,f b c=Y (d,e)/\Good F H/\Rep K F b x/\cQ K F c h/\∀v g a,Step F H g a->Rep K g d v->(e=U->ik K H a d v)->Q v a
section
variable{X:Cx}
def zJ(hs:∀y ds r,je m y ds=Y r->∃z,y=.str z):∀B H Q,gE X.K C (.iH m I xs) B H Q->Z8 X.K "str" (gM X.K (je m)) (gE X.K C I) (gA X.K C xs) B H Q:=λB H Q f=>by
 refine ac λ_ x=>?_;obtain⟨A,d,N,h,F,g,R,k⟩:=f;obtain⟨⟨y,i⟩,P,h⟩:=bX h;obtain⟨ds,S,E⟩:=bX h;obtain⟨z,j⟩:=hs y ds _ E;apply x;refine⟨A,y,i,P,F,g,R,λv F1 u a c _=>⟨?_,A,ds,S,F1,a.good,R.mono a.ff,λvs l D b n=>⟨y,ds,d,N,l,E,b.good,c.mono b.ff,n,λw o p e s t=>k w o p ((a.trans b).trans e) s λq=>(t q).back (F:=F) (a.hh.trans b.hh)⟩⟩⟩;rw[j]at c;rw[c];exact rfl
def FZ(hs:∀y ds r,je m y ds=Y r->∃z,y=.str z):∀B H Q,gE X.K C (.iH m I []) B H Q->aay X.K "str" (gM X.K (je m)) (gE X.K C I) B H Q:=λB H Q e=>by
 refine ac λ_ s=>?_;obtain⟨u,d,x,h,F,g,R,k⟩:=e;obtain⟨⟨y,f⟩,A,h⟩:=bX h;obtain⟨ds,E,t⟩:=bX h;cases E;obtain⟨z,i⟩:=hs y [] _ t;apply s;refine⟨u,y,f,A,F,g,R,λv F1 p a b _=>⟨?_,y,[],d,x,F1,t,a.good,b,W,λw j l c n o=>k w j l (a.trans c) n λq=>(o q).back (F:=F) a.hh⟩⟩;rw[i]at b;rw[b];exact rfl
section
def qo(h:je .startswith g ds=Y r):∃x y i,g=.str x/\ds=[.str y,.int i]/\r=(.bl (i7 x y i),J):=by
 have h:mSw g ds=Y r:=h;unfold mSw at h;split at h
 .cases h;exact⟨_,_,_,W,W,W⟩
 .cases h
def zP(h:je .upper g ds=Y r):∃x,g=.str x/\ds=[]/\je .upper (.str x) []=Y r:=by
 cases g with
 |str x=>
   cases ds with
   |nil=>exact⟨x,W,W,h⟩
   |cons _ _=>cases h
 |_=>cases h
set_option tactic.hygienic true
def Dt(h:je .join g ds=Y r):∃x es,g=.str x/\ds=[.lst es]/\je .join (.str x) [.lst es]=Y r:=by
 cases g with
 |str x=>
   cases ds with
   |nil=>cases h
   |cons d1 ds=>
     cases ds with
     |nil=>
       cases d1 with
       |lst y=>exact⟨x,y,W,W,h⟩
       |_=>cases h
     |cons _ _=>cases d1<;>cases h
 |_=>cases h
theorem Cm:∀{es:O Dat}{y:O aV}{B:O V}{C:O ai},Co es=Y y->cQ X.K F es B->cX B C->StrsAre C y
 |[],y,B,C,h,r,w=>by
   cases h;rw[r]at w;cases w;exact .nil
 |d::es,y,B,C,h,r,w=>by
   cases d with
   |str x=>
     obtain⟨g,e,h⟩:=dY h;cases h;obtain⟨v,q,rfl,a,b⟩:=r;rw[a]at w
     cases w with
     |cons c f=>
       obtain⟨t,rfl⟩:=c;exact .cons x t (Cm e b f)
   |_=>cases h
set_option tactic.hygienic false
end
end
section
variable{X:Cx}{es:O aZ}
def ik.n6{K:Fg}(g:H p=L):ik K H (L2.upd H p (.dK [])) (.dct [] []) (.ref p):=
 ⟨_,by simp,λa m=>by simp_all,p,[],[],W,bN,W,⟨W,W⟩,W⟩
noncomputable def baseOk:aZ->cc
 |.Call (.Name _ _) [] [] _=>J
 |_=>U
def oH(h:baseOk o=U):f9 o m env w=w:=by
 cases o with
 |Call f a k p=>
   cases f with
   |Name x q=>
     cases a with
     |nil=>
       cases k with
       |nil=>cases h
       |cons _ _=>rfl
     |cons _ _=>rfl
   |_=>rfl
 |_=>rfl
def FY(hs:∀B ds r,je m B ds=Y r->∃P ws,B=.dct P ws):∀I H Q,gE X.K C (.iH m S xs) I H Q->Z8 X.K "dict" (gM X.K (je m)) (gE X.K C S) (gA X.K C xs) I H Q:=λI H Q i=>by
 refine ac λ_ z=>?_;obtain⟨A,d,N,h,F,g,R,k⟩:=i;obtain⟨⟨B,j⟩,h1,h⟩:=bX h;obtain⟨ds,h2,E⟩:=bX h;obtain⟨P,ws,l⟩:=hs B ds _ E;apply z;refine⟨A,B,j,h1,F,g,R,λv F1 y b e _=>⟨?_,A,ds,h2,F1,b.good,R.mono b.ff,λvs n G c o=>⟨B,ds,d,N,n,E,c.good,e.mono c.ff,o,λw p s f t u=>k w p s ((b.trans c).trans f) t λq=>(u q).back (F:=F) (b.hh.trans c.hh)⟩⟩⟩;rw[l]at e;obtain⟨a,D,rfl,x,_⟩:=e;exact .inr (.inr ⟨W,D,b.good.sub _ _ x⟩)
def IE(h:je .get g ds=Y r):∃y ws B O' k,g=.dct y ws/\ds=[B,O']/\rR B=Y k/\r=((ig k y ws).getD O',J):=by
 have h:Yu g ds=Y r:=h;unfold Yu at h;split at h
 .obtain⟨k,a,rfl⟩:=dY h;exact⟨_,_,_,_,k,W,W,a,W⟩
 .cases h
def Ob{α:Type}{l:O α}(h:Z l=2):∃a b,l=[a,b]:=by
 obtain⟨a,r,rfl⟩:=di h;obtain⟨b,rfl⟩:=gD.mp (Nat.succ.inj h);exact⟨a,b,W⟩
noncomputable def Zx(m:aV)(k:T):a5 Mth:=
 if m="join"/\k=1 then Y .join else if m="startswith"/\k=2 then Y .startswith else if m="get"/\k=2 then Y .get else if m="upper"/\k=0 then Y .upper else L
set_option tactic.hygienic true in
def UH{c3:Mth}{ap cp:rJ}(hu:X.A.units+21<eC)(h:Zx m (Z es)=Y c3)(R:SE X C o xo)(ha:SA X C es xs)(hlen:Z xs=Z es)(e0:∀e,es=[e]->aN [e] X.env=(J,eval e X.env)::aN [] X.env)(O':∀e e2,es=[e,e2]->aN [e,e2] X.env=(J,eval e X.env)::aN [e2] X.env/\aN [e2] X.env=[(J,eval e2 X.env)])(S:baseOk o=U)(hl:(ap.endLine == cp.line)=U) :
  SE X C (.Call (.Attribute o m ap) es [] cp) (.iH c3 xo xs):=by
 have one:Z es=1->∃e a,es=[e]/\xs=[a]:=λq=>by
  obtain⟨e,rfl⟩:=gD.mp q;obtain⟨a,rfl⟩:=gD.mp hlen;exact⟨e,a,W,W⟩
 have nil:Z es=0->es=[]/\xs=[]:=λq=>by
  simp_all
 unfold Zx at h;split at h
 .rename_i q;cases h;obtain⟨rfl,q⟩:=q;obtain⟨e,a,rfl,rfl⟩:=one q;exact PE.imp (zF oY PySem.F.slot_str_join PySem.F.type_str_join (λh_ s σ H x xs v K Q I b c a=>by
     refine ac λ_ y=>?_;obtain⟨V,ds,d,fr,F,h,g,f,i,k⟩:=a;obtain⟨x',es,rfl,rfl,h⟩:=Dt h;obtain⟨ys,B,h⟩:=bX h;apply y;split at h
     .rename_i j;clear y; cases h;rw[f]at b;obtain⟨t,rfl⟩:=b;obtain⟨w,q,e,⟨p,vs,e1,l,m⟩,n⟩:=i;rw[n]at e;subst e e1;obtain⟨u,rfl,o⟩:=vals1 c;obtain rfl:u=.ref p:=o;obtain⟨its,r,pl,_⟩:=I.lstR g l;exact join_list pl.isList (by simpa using Cm B m r) (aa j cV) λt' k'=>⟨.str _,H,I.tok _,⟨_,W⟩,k _ F H (Step.refl g) W bx⟩
     .cases h) R ha (oH S) (by rw[(e0 e W)];rfl) hl (e0 e W) W) (zJ (λ_ _ _ h=>by obtain⟨x,_,q,_⟩:=Dt h;exact ⟨x,q⟩))
 split at h
 .rename_i q;cases h;obtain⟨rfl,q⟩:=q;obtain⟨e,e2,rfl⟩:=Ob q;obtain⟨a,b,rfl⟩:=Ob hlen;exact have B:=(O' e e2 W).1;have P:=(O' e e2 W).2;PE.imp (zF oY PySem.F.slot_str_startswith PySem.F.type_str_startswith (λh_ s σ H x xs v K Q I b c a=>by
     refine ac λ_ l=>?_;obtain⟨V,ds,d,fr,F,h,g,e,f,k⟩:=a;obtain⟨x',y,i,rfl,rfl,h⟩:=qo h;cases h;apply l;rw[e]at b;clear l; obtain⟨t,rfl⟩:=b;obtain⟨u,j,rfl⟩:∃t u,K=[.str y t,.int i u]:=(by obtain⟨v,q,rfl,a,d,e,rfl,b,n⟩:=f;rw[n,a,b]at c;obtain⟨j,g,rfl,⟨t,rfl⟩,⟨h,rfl⟩⟩:=vals2 c;exact⟨_,_,W⟩);exact SC.startswith3 ⟨.bl _,H,I,W,k _ F H (Step.refl g) W bx⟩) R ha (oH S) (by rw[B,P];rfl) hl B (by rw[P];rfl)) (zJ (λ_ _ _ h=>by obtain⟨x,_,_,q,_⟩:=qo h;exact ⟨x,q⟩))
 split at h
 .rename_i q;clear hu e0 one nil; cases h;obtain⟨rfl,q⟩:=q;obtain⟨e,e2,rfl⟩:=Ob q;obtain⟨a,b,rfl⟩:=Ob hlen;exact have B:=(O' e e2 W).1;have P:=(O' e e2 W).2;PE.imp (zF PySem.F.plainAttrs_dict BO PySem.F.type_dict_get (λh_ s σ H x xs v K Q I j l a=>by
   refine ac λ_ e=>?_;obtain⟨V,ds,d,fr,F,h,g,m,n,k⟩:=a;obtain⟨ks,ws,C,D,kk,rfl,rfl,hk,o⟩:=IE h;clear h; obtain⟨p,k_,rfl,r,rfl,f⟩:=m;obtain⟨E,G,rfl,t,J',L',i,w,y⟩:=n;apply e;rw[y]at i;clear e y; subst i;obtain rfl:=oB hk t;obtain⟨u,M,rfl,z,b⟩:=vals2 l;cases j;refine Zq I (uQ.k (g.sub _ _ r)) z b λN s' I' c=>⟨_,H,I',c,?_⟩
   cases o
   cases q:ig kk _ ws with
   |none=>
     rw[q]at k;rw[uE q f];exact k _ F H (Step.refl g) w bx
   |some d1=>
     rw[q]at k;obtain⟨O',e1,e2⟩:=qE q f;rw[e1];exact k _ F H (Step.refl g) e2 bx) R ha (oH S) (by rw[B,P];rfl) hl B (by rw[P];rfl)) (FY λV ds r h=>by obtain⟨ks,ws,_,_,_,q,_⟩:=IE h;exact⟨ks,ws,q⟩)
 split at h
 .rename_i q;cases h;obtain⟨rfl,q⟩:=q;obtain⟨rfl,rfl⟩:=nil q;exact PE.imp (XN oY PySem.F.slot_str_upper PySem.F.type_str_upper (λh_ s σ H x xs v K Q I b c a=>by
     refine ac λ_ j=>?_;obtain⟨V,ds,d,fr,F,h,g,e,f,k⟩:=a;obtain⟨x',rfl,rfl,h⟩:=zP h;apply j;simp only[je,mS0]at h;split at h
     .rename_i i;clear j; cases h;rw[e]at b;obtain⟨t,rfl⟩:=b;obtain rfl:K=[]:=(by rw[f]at c;cases c;rfl);exact SCL.upper (aa i cV) λ_=>⟨.str _,H,I.tok _,⟨_,W⟩,k _ F H (Step.refl g) W bx⟩
     .cases h) R (oH S) hl) (FZ (λ_ _ _ h=>by obtain⟨x,q,_⟩:=zP h;exact ⟨x,q⟩))
 .cases h
end
end M
namespace L2
section
end
end L2
namespace M
open L2
section
end
structure LO{α:Type}(lt:α->α->cc):Prop where
 irr:∀x,lt x x=J
 tr:∀x y z,lt x y=U->lt y z=U->lt x z=U
 tot:∀x y,lt x y=J->lt y x=J->x=y
def LO.UT (o:LO lt)(h:lt x y=U):lt y x=J:=by
 cases q:lt y x with
 |false=>rfl
 |true=>have:=o.tr _ _ _ h q;rw[o.irr]at this;cases this
def LO.abD (o:LO lt)(h:lt y x=J)(g:lt z y=J):lt z x=J:=by
 cases q:lt z x with
 |false=>rfl
 |true=>
   cases r:lt y z with
   |true=>have:=o.tr _ _ _ r q;rw[h]at this;cases this
   |false=>have:=o.tot _ _ r g;subst this;rw[h]at q;cases q
def VF:LO yw:=⟨λx=>by simp[yw],λx y z h b=>by
  simp only[yw,c5]at *
  exact List.lt_trans h b,λx y h b=>by
  simp only[yw,er]at *;have :=List.le_antisymm (List.not_lt.mp b) (List.not_lt.mp h);obtain⟨a⟩:=x
  simp_all⟩
section
variable{α:Type}
set_option tactic.hygienic true
theorem xw(o:LO lt):∀{l:O α},z∈xH lt x l↔z=x\/z∈l
 |[]=>by simp[xH]
 |y::c=>by
   unfold xH;split
   .rw[ak]
   .rename_i a;split
    .rw[ak,xw o,ak];constructor
     .grind
     grind
    .rename_i b;have:=o.tot x y (by simpa using a) (by simpa using b)
     simp_all
theorem kc(o:LO lt):∀{l:O α},z∈jb lt l↔z∈l
 |[]=>Iff.rfl
 |x::l=>by rw[jb,xw o,kc o,ak]
theorem HF(o:LO lt):∀{l:O α},l.Pairwise (λa b=>lt a b=U)->(xH lt x l).Pairwise (λa b=>lt a b=U)
 |[],_=>by simp[xH]
 |y::f,h=>by
   obtain⟨d,e⟩:=cJ.mp h;unfold xH;split
   .rename_i q;refine cJ.mpr ⟨λz c=>?_,h⟩
    rcases ak.mp c with rfl|c
    .exact q
    .exact o.tr _ _ _ q (d z c)
   .split
    .rename_i q;refine cJ.mpr ⟨λz c=>?_,HF o e⟩
     rcases(xw o).mp c with rfl|c
     .exact q
     .exact d z c
    .exact h
theorem kI(o:LO lt):∀(l:O α),(jb lt l).Pairwise (λa b=>lt a b=U)
 |[]=>.nil
 |x::l=>HF o (kI o l)
def oz(o:LO lt){l:O α}(h:l.Pairwise (λa b=>lt a b=U)):l.Nodup:=h.imp λq e=>by subst e;rw[o.irr]at q;cases q
theorem uv:∀{l:O α},(yR lt x l).Perm (x::l)
 |[]=>.refl _
 |y::a=>by
   unfold yR;split
   .exact(uv.cons y).trans (.swap _ _ _)
   .exact .refl _
theorem mR:∀(l:O α),(pN lt l).Perm l
 |[]=>.refl _
 |x::l=>uv.trans ((mR l).cons x)
theorem HE(o:LO lt):∀{l:O α},l.Pairwise (λa b=>lt b a=J)->(yR lt x l).Pairwise (λa b=>lt b a=J)
 |[],_=>by simp[yR]
 |y::f,h=>by
   obtain⟨d,e⟩:=cJ.mp h;unfold yR;split
   .rename_i q;refine cJ.mpr ⟨λz c=>?_,HE o e⟩
    rcases ak.mp (uv.mem_iff.mp c)with rfl|c
    .exact o.UT q
    .exact d z c
   .rename_i q;refine cJ.mpr ⟨λz c=>?_,h⟩
    rcases ak.mp c with rfl|c
    .exact (by simpa using q)
    .exact o.abD (by simpa using q) (d z c)
set_option tactic.hygienic false
theorem CQ(o:LO lt):∀(l:O α),(pN lt l).Pairwise (λa b=>lt b a=J)
 |[]=>.nil
 |x::l=>HE o (CQ o l)
theorem MS:∀{l:O aV}{p:aV},risingS p l=U->(p::l).Pairwise (λa b=>yw b a=J)
 |[],p,_=>by simp
 |x::r,p,h=>by
   simp only[risingS,ah,jG]at h;obtain⟨c,f⟩:=h;rw[ltCps_eq]at c;have e:=MS f;refine cJ.mpr ⟨λz d=>?_,e⟩
   rcases ak.mp d with rfl|d
   .exact c
   .exact VF.abD c ((cJ.mp e).1 z d)
end
section
variable{X:Cx}
def DM{Q:VK}{F:Hp}{d:Dat}{fr:cc}{l:aD}{is:O aV}(g:Good F H)(B:H l=L)(k:∀w C y,Step F H C y->Rep X.K C (.lst (is.map .str)) w->(U=U->ik X.K H y (.lst (is.map .str)) w)->Q w y):Q (.ref l) (upd H l (.lst (is.map V.str))):=
 k _ _ _ (Step.alloc g B) ⟨l,_,W,.inl (.inl bN),rpS is⟩ λ_=>.lst (cz.refl _) B (.lj g (abK is) (rpS is))
def aaJ{y:O aV}(I:Inv X C σ H s)(O':Z y<64)(F:G3 X.prog X.w X.A s v (λP=>∃B,rM P B/\B.Perm is))(R:∀r:O aV,r.Perm is->r.Pairwise (λa b=>yw b a=J)->r=y)(hi:Z is=Z y)
  (k:∀l,H l=L->Q (.ref l) (upd H l (.lst (y.map V.str)))):aw (aq X.prog X.w) X.A (call (.builtin "sorted") [v]) (EP X C σ Q) E s:=by
 refine Mt (aA (af hi) O') F λi d f l j B e m h g c i2 i3=>?_;obtain rfl:=R B i2 (by
  cases B with
  |nil=>exact .nil
  |cons x r=>exact MS i3);exact⟨.ref l,_,by have a:Inv X C σ (upd H l (.lst (Vd _ B))) { s with heap:=i,toks:=f }:=I.laid m h ⟨(by rw[aE];exact aK (aa O' cV)),_,e,(zq c),g⟩;exact⟨a.ok,a.os,a.bare,a.base,a.loc,a.cell,a.free,a.freeC,a.pin,a.hok,a.len⟩,W,k l (I.hok.fresh h)⟩
end
def Dh:LO yO:=⟨pk.ir,pk.tr,λx y h a=>by
 by_cases e:x=y
 .exact e
 .have:=pk.co _ _ e h;simp_all⟩
theorem Dk:∀{ds:O Dat}{q:O Key},Dl ds=Y q->q.all sK=U->(q.map iK).map Dat.int=ds
 |[],_,h,_=>by cases h;rfl
 |d::ds,_,h,a=>by
   obtain⟨k,c,h⟩:=bX h;obtain⟨q,b,h⟩:=dY h;cases h;simp only[eF,ah]at a;rw[az,az,Dk b a.2]
   cases d with
   |int i=>cases c;rfl
   |str x=>cases c;cases a.1
   |_=>cases c
def Us(h:n2I d=Y x)(g:s2 x<3):Ur (s2 x) (c2 x)=d:=by
 cases d with
 |int i=>cases h;rfl
 |str y=>
   cases h;show Dat.str ⟨((y.cps.toList.map fN).map wj).toArray⟩=_;rw[cZ,show(wj ∘ fN)=id from rfl,G8]
 |tup b=>
   obtain⟨q,a,h⟩:=dY h;cases h;simp only[s2]at g ⊢;by_cases c:q.all sK=U
   .rw[cb c];show Dat.tup ((q.map iK).map _)=_;rw[Dk a c]
   simp_all
 |_=>cases h
theorem DU:∀{ds:O Dat}{k:O N2},VA ds=Y k->(∀n∈k.map s2,n<3)->uU Ur (k.map s2) (k.map c2)=ds
 |[],_,h,_=>by cases h;rfl
 |d::ds,_,h,e=>by
   obtain⟨x,a,h⟩:=bX h;obtain⟨q,b,h⟩:=dY h;cases h;rw[az,az,Es,Us a (e _ jB),DU b λy c=>e y (jU _ c)]
theorem Ii:∀{ds:O Dat}{q:O N2},VA ds=Y q->q.all sI=U->(q.map i2v).map Dat.int=ds
 |[],_,h,_=>by cases h;rfl
 |d::ds,_,h,a=>by
   obtain⟨k,f,h⟩:=bX h;obtain⟨q,b,h⟩:=dY h;cases h;simp only[eF,ah]at a;rw[az,az,Ii b a.2]
   cases d with
   |int i=>cases f;rfl
   |str x=>cases f;cases a.1
   |tup g=>
     obtain⟨e,c,f⟩:=dY f;cases f;cases a.1
   |_=>cases f
def Uq(h:nkI d=Y x)(g:C1 (sN x)=U):Zp (sN x) (cN x)=d:=by
 cases d with
 |int i=>cases h;rfl
 |str y=>
   cases h;show Dat.str ⟨((y.cps.toList.map fN).map wj).toArray⟩=_;rw[cZ,show(wj ∘ fN)=id from rfl,G8]
 |tup b=>
   obtain⟨q,a,h⟩:=dY h;cases h;simp only[sN,cN]at g ⊢;by_cases c:q.all sI=U
   .rw[cb c,cb c];show Dat.tup ((q.map i2v).map _)=_;rw[Ii a c]
   .rw[cv c]at g;rw[cv c,cv c];show Dat.tup _=_;rw[DU a (NB g)]
 |_=>cases h
theorem Jb:∀{ds:O Dat}{k:O NK},nkL ds=Y k->(∀x∈k,C1 (sN x)=U)->uU Zp (k.map sN) (k.map cN)=ds
 |[],_,h,_=>by cases h;rfl
 |d::ds,_,h,e=>by
   obtain⟨x,a,h⟩:=bX h;obtain⟨q,b,h⟩:=dY h;cases h;rw[az,az,Es,Uq a (e x jB),Jb b λy c=>e y (jU _ c)]
def Jc(h:Yi d=Y k)(g:∀x∈k,C1 (sN x)=U):GH (k.map sN) (codeN k)=d:=by
 cases d with
 |tup a=>show Dat.tup _=_;rw[Jb h g]
 |_=>cases h
theorem xr:∀{ds:O Dat}{g:O (O NK)},yM ds=Y g->Z g=Z ds/\∀i,i<Z ds->Yi (ds.getD i .non)=Y (g.getD i [])
 |[],_,h=>by cases h;exact⟨W,λi a=>by cases a⟩
 |d::ds,_,h=>by
   obtain⟨x,b,h⟩:=bX h;obtain⟨q,c,h⟩:=dY h;cases h;refine⟨by simp[(xr c).1],λi a=>?_⟩
   cases i with
   |zero=>exact b
   |succ i=>simpa using (xr c).2 i (by simpa using a)
theorem Iz:∀{ds:O Dat}{q:O Key},Dl ds=Y q->nv ds=U
 |[],_,_=>rfl
 |d::ds,_,h=>by
   obtain⟨k,b,h⟩:=bX h;obtain⟨q,a,_⟩:=dY h;cases d<;>first|(cases b;done)|simp[nv,im,(Iz a)]
theorem NS:∀{ds:O Dat}{q:O N2},VA ds=Y q->nv ds=U
 |[],_,_=>rfl
 |d::ds,_,h=>by
   obtain⟨k,e,h⟩:=bX h;obtain⟨q,b,_⟩:=dY h;cases d with
   |tup f=>
     obtain⟨c,a,_⟩:=dY e;simp[nv,im,(NS b),Iz a]
   |int _=>simp[nv,im,(NS b)]
   |str _=>simp[nv,im,(NS b)]
   |_=>cases e
theorem NP:∀{ds:O Dat}{q:O NK},nkL ds=Y q->nv ds=U
 |[],_,_=>rfl
 |d::ds,_,h=>by
   obtain⟨k,e,h⟩:=bX h;obtain⟨q,b,_⟩:=dY h;cases d with
   |tup f=>
     obtain⟨c,a,_⟩:=dY e;simp[nv,im,(NP b),NS a]
   |int _=>simp[nv,im,(NP b)]
   |str _=>simp[nv,im,(NP b)]
   |_=>cases e
def Yh(h:Yi d=Y q):im d=U:=by
 cases d with
 |tup a=>simp[im,NP h]
 |_=>cases h
theorem CK{K:Fg}(r:cQ K F ds y):∀{g:O T},(∀j∈g,j<Z ds)->cQ K F (g.map λj=>ds.getD j .non) (g.map λj=>y.getD j .non)
 |[],_=>rfl
 |j::g,h=>by
   have a:=h j jB;obtain⟨v,e,q⟩:=r.get (ag a);refine⟨y.getD j _,_,W,?_,CK r λi b=>h i (jU _ b)⟩
   simp_all
def CA{y:O (O NK)}(B:∀j,j<Z y->(y.getD j []).map sN=Lo y)(F:∀x∈Lo y,C1 x=U)(sl:Sel (λi=>y.getD i []) y.length C) :
  (C.map λj=>codeN (y.getD j [])).Perm (jb yO (y.map codeN)):=by
 have d:∀j,j<Z y->∀k∈y.getD j [],C1 _=U:=λj c k l=>F _ (by rw[<-B j c];exact eh l)
 have g:(C.map λj=>codeN (y.getD j [])).Nodup:=by
  exact fT.mpr (jF (λ{a b}f m h e=>h (code_inj ((B _ (sl.lt a f)).trans (B _ (sl.lt b m)).symm) (d _ (sl.lt a f)) e)) (fT.mp sl.nd))
 rw[gR g (oz Dh (kI Dh _))];intro z;rw[kc Dh,bT,bT];constructor
 .rintro⟨j,c,rfl⟩;have:=sl.lt j c;exact⟨_,by simp_all,W⟩
 .rintro⟨k,l,rfl⟩;obtain⟨i,n,rfl⟩:=cF.mp l;obtain⟨j,c,e⟩:=bT.mp (sl.all i n);refine⟨j,c,?_⟩
  simp_all
noncomputable def adr:V->aD
 |.ref a=>a
 |_=>0
theorem Ci{B:T->aD}:∀(g:O T),cX (g.map λj=>V.ref (B j)) (g.map λj=>bZ (B j))
 |[]=>.nil
 |j::g=>.cons rfl (Ci g)
section
end
section
variable{X:Cx}{vs:O V}{kk:O (O NK)}
abbrev avN(vs:O V)(j:T):aD:=adr (vs.getD j .non)
noncomputable abbrev kfN(kk:O (O NK))(j:T):O NK:=kk.getD j []
def mT(r:cQ X.K F ds vs)(y:yM ds=Y kk){j:T}(B:j<Z kk):vs.getD j .non=.ref (avN vs j)/\NKy X.K F (kfN kk j) (avN vs j):=by
 have b:j<Z ds:=aa B (af (xr y).1);obtain⟨v,e,q⟩:=r.get (ag b);have d:=(xr y).2 j b;rw[show ds.getD j _=ds[j] by simp[b]]at d;obtain⟨a,rfl,g⟩:=SG d q;unfold avN;rw[show vs.getD j _=.ref a by simp[e]];exact⟨W,g⟩
theorem IG(y:yM ds=Y kk):∀g:O T,(∀j∈g,j<Z kk)->nv (g.map λj=>ds.getD j Dat.non)=U
 |[],_=>rfl
 |j::g,h=>by
   obtain⟨b,a⟩:=xr y;simp only[az,nv,ah];exact⟨Yh (a j (aa (h j jB) (af b))),IG y g λi c=>h i (jU _ c)⟩
def Cu(o:Nz kk)(B:j<Z kk):(kfN kk j).map sN=Lo kk:=by
 simpa using (bc.mp o.2.2.1 _ (by simp_all))
def Rh(room:X.A.units+8<eC)(I:Inv X h_ σ H s)(g:Good F H)(r:cQ X.K F ds vs)(hk:yM ds=Y kk)(o:Nz kk)(hl:Z kk<=300)
  (hc:G3 X.prog X.w X.A s v (λus=>∃R,us=R.map (λj=>bZ (avN vs j))/\Sel (kfN kk) kk.length R))
  (k:∀w F' H',Step F H F' H'->Rep X.K F' (.lst ((jb yO (kk.map codeN)).map (GH (Lo kk)))) w->(U=U->ik X.K H H' (.lst ((jb yO (kk.map codeN)).map (GH (Lo kk)))) w)->Q w H') :
  aw (aq X.prog X.w) X.A (call (.builtin "sorted") [v]) (EP X h_ σ Q) X.xe s:=by
 obtain⟨y,l⟩:=xr hk;obtain⟨b,hb⟩:=iw.mp o.1;have h3 :=λx D=>bc.mp o.2.1 x D;have m:∀j,j<Z kk->∀k∈kfN kk j,C1 _=U:=λj c k hk=>h3 _ (by rw[<-Cu o c];exact eh hk)
 have E:∀R,Sel _ _ R->Z R=Z (jb yO _):=λR sl=>by
  have:=(CA (λj c=>Cu o c) h3 sl).length_eq
  rwa [aE]at this
 refine sorted_N (by exact jj room) (λj c=>NN I g (mT r hk c).2) (λj c=>Cu o c) h3 hb
  (λG J' Q' e k'=>hc G J' Q' e λn h1 d1 p x1 L' z=>k' n h1 d1 p x1 L' (by obtain⟨R,M,B⟩:=z;exact⟨R,M,B,by rw[E R B];exact o.2.2.2⟩)) λN d3 O' t R e3 u i P sl pw=>?_
 have d :=I.hok.fresh i;refine⟨.ref t,_,by have a:Inv X h_ σ (upd H t (.lst (Vd (fun j => V.ref _) R))) { s with heap:=N,toks:=O' }:=I.laid u i ⟨(by rw[aE];exact aa sl.len (aa hl cV)),_,e3,(Ci R),P⟩;exact⟨a.ok,a.os,a.bare,a.base,a.loc,a.cell,a.free,a.freeC,a.pin,a.hok,a.len⟩,W,?_⟩
 have S:(jb yO (kk.map codeN)).map (GH (Lo kk))=R.map λj=>ds.getD j .non:=by
  rw[((List.Perm.eq_of_pairwise (λa b _ _ h h'=>Dh.tot _ _ h' h) (pw.imp λq=>Dh.UT q) ((kI Dh _).imp λq=>Dh.UT q) (CA (λj c=>Cu o c) h3 sl)).symm),cZ];refine dS λj c=>?_;have f:=sl.lt j c;rw[<-Cu o f];exact Jc (l j (aa f (af y))) (m j f)
 have C:=CK r λj c=>(aa (sl.lt j c) (af y))
 rw[(dS λj c=>(mT r hk (sl.lt j c)).1.symm)];rw[S]at k;exact k _ _ _ (Step.alloc g d) ⟨t,_,W,.inl (.inl bN),C.mono (cz.upd (g.sub.free d))⟩ λ_=>.lst (cz.refl _) d (.lj g (IG hk R sl.lt) C)
def Mo(hh:X.A.handled=L)(room:X.A.units+8<eC)(I:Inv X h_ σ H s)(g:Good F H)(t:pC X.K F l vs)(r:cQ X.K F ds vs)
  (hk:yM ds=Y kk)(h2:zv kk=Y (d,fr))(k:∀w F' H',Step F H F' H'->Rep X.K F' d w->(fr=U->ik X.K H H' d w)->Q w H')
  (fin:∀S s2,aw (aq X.prog X.w) X.A (call (.builtin "sorted") [.ref S]) (EP X h_ σ Q) X.xe s2->Q1 (.ref S) s2):aw (aq X.prog X.w) X.A (call (.type "set") [.ref l]) Q1 E s:=by
 unfold zv at h2;split at h2
 .rename_i R;cases h2;obtain⟨P,p,pl,N⟩:=I.lstR g t;obtain⟨a,C⟩:=xr hk;have c:=r.length;have il:Z P=Z kk:=by exact aI (rP (af p.length.symm) (af c) (af a.symm)) (rP (af a) (af c.symm) (af p.length))
  have h:∀s2:aj,(∀b o,s.heap.get? b=Y o->s2.heap.get? b=Y o)->s2.TypeIs (.ref l) _:=λs2 ex=>by
   obtain⟨o,e1,e2,_⟩:=pl.isList;exact⟨o,ex _ _ e1,e2⟩
  have hsz:P.toArray.size=Z kk:=by omega
  have f:Ek X.prog X.w ..:=(by
   intro d f s1 Q1 sz ex k;have a :=(PlainL.isList pl).at λo e=>ex l o e;have lt:l<s.heap.objs.size:=by obtain⟨o,e,_⟩:=(PlainL.isList pl);exact hl9 e
   refine pY a (k _ _ _ (λg c=>Walks.list c _ l (a7 (de lt sz)) _) (λb R=>?_) ⟨⟨_,aC _ W,W,W⟩,a.push _⟩)
   rcases ak.mp R with z|z
   .exact .inl z
   .exact .inr (by simp_all));rw[hsz]at f;refine J4 hh h PySem.F.sub_list_set PySem.F.sub_list_frozenset cV f (λi v x=>?_) (λj D=>NN I g (mT r hk D).2) R.1 (by exact aK (aK (aK room))) λh' O' y ex=>fin _ _ (Rh room (I.kept ex) g r hk R.2 R.1 (λJ' L' Q' e k'=>K1 hh y R.1 J' L' Q' e λm h1 d1 n x1 M z=>k' m h1 d1 n x1 M z) k)
  .have hi:i<Z kk:=by
    have:i<P.toArray.size:=by rcases bq.mp x with⟨q,_⟩;exact q
    simp_all
   obtain⟨u,G,B⟩:=p.get (ag ((aa hi (aa (af a) (af c.symm)))));have e1:P[i]?=Y v:=by simpa using x
   rw[G]at e1;cases e1;have:=(mT r hk hi).1;rw[show vs.getD i _=vs[i]'(aa hi (aa (af a) (af c.symm))) by simp[show i<(Z vs) from(aa hi (aa (af a) (af c.symm)))]]at this;rwa[this]at B
 .cases h2
end
section
variable{X:Cx}
set_option tactic.hygienic true in
def Bz(O':X.A.units+21<eC)(B:X.calm=U):lX X (.builtin "sorted") (gL X.K (jg .sorted)):=λS s σ H z us Q I r h=>by
 refine ac λ_ c=>?_;obtain⟨q,d,fr,F,v,m,rfl,g,e,k⟩:=rT oG h;obtain⟨u,rfl,f⟩:=vals1 r
 apply c;cases q with
 |str x=>
   cases e;obtain⟨tx,rfl⟩:=f;simp only[jg,b1,ZP,Hn]at m;split at m
   .rename_i a;cases m;have o:Z (fF x)=x.cps.size:=by simp[fF]
    refine aaJ I (aA (af ((mR _).length_eq)) a) (by
     intro c d D e k;exact DX (e.trans (I.ok.hd B)) (by exact aK (aa (aA (af o.symm) a) cV)) λm b j t w y=>k _ m _ b t w ⟨_,by
      obtain⟨m,p⟩:=y
      have e:j.toList.map strOf=fF x:=by
       apply jX
       .simp[fF,m]
       .intro n i b;have C:n<j.size:=by simpa using i
        obtain⟨c,u,d,f⟩:=p n _ (a8 C);simp only[vP,qR,fF];rw[f];have E:n<x.cps.size:=by rwa[<-m]
        rw[a8 E]at d;cases d;rfl
      rw[<-e];refine strsAre_map _ λv hv=>?_;obtain⟨n,g,rfl⟩:=cF.mp hv;obtain⟨c,u,d,f⟩:=p n _ (a8 (by simpa using g));exact⟨_,u,by simpa using f⟩,.refl _⟩) (λr N P=>ng (λa b _ _ h R=>VF.tot _ _ R h) P (CQ VF _) (N.trans (mR _).symm)) ((mR _).length_eq).symm λl b=>DM (fr:=U) (d:=.non) g b k
   .cases m
 |_=>simp only[jg,b1,ZP]at m;cases m
end
section
end
section
variable{X:Cx}
noncomputable def kS:Key->aV
 |.inl _=>""
 |.inr x=>x
def Hh{y:O ai}{g:O Key}(w:kB (λv k=>u7 k v=U) y g)(h:∀k∈g,∃i,k=bM i):rM y (g.map kS):=by
 induction w with
 |nil=>exact .nil
 |cons p _ H=>
   obtain⟨i,rfl⟩:=h _ (.head _)
   rcases dm p with⟨j,t,e,_⟩|⟨x,t,e,rfl⟩
   .cases e
   .cases e;exact .cons _ _ (H λk a=>h k (.tail _ a))
def xm{α g y:Type}{R:g->y->Prop}{f:α->g}{l:O α}{B:O y}(h:kB (λa c=>R (f a) c) l B):kB R (l.map f) B:=by
 induction h with
 |nil=>exact .nil
 |cons p _ i=>exact .cons p i
set_option tactic.hygienic true in
def Ry(c3:X.A.units+21<eC)(B:X.calm=U)(hg:Gl X "sorted")(hm:X.mg "sorted"=L)(O':Gl X "set")(e0:X.mg "set"=L)(ha:SE X C a xa)
  (hs:aN [a] X.env=[(J,eval a X.env)]) :
  SE X C (.Call (.Name "sorted" p) [.Call (.Name "set" p2) [a] [] pos2] [] pos) (.blt .sset [xa]):=by
 intro h_ s σ H Q I h;refine ac λ_ K=>?_;obtain⟨ρ,d,fr,h,F,g,R,k⟩:=h;obtain⟨ds,h1,N⟩:=bX h;obtain⟨⟨da,fa⟩,h3,h1⟩:=bX h1;cases h1;apply K;refine eV (mx I hg hm (by decide +kernel:dt _=Y (.builtin "sorted")) (qV ?_ W rfl));show aw _ _ (spliced ((J,eval (.Call _ _ [] _) _)::eI _ [])) _ _ s;apply JI;refine eV (mx I O' e0 (by decide +kernel:dt _=Y (.type "set")) (cU ?_ (by rw[hs];rfl) W));refine jc ((jw ha o6 (by rw[hs];rfl)) _ h_ s σ H (λvs J'=>∃F1,Step F H F1 J'/\cQ _ F1 [da] vs) I ⟨ρ,_,(by omega),F,g,R,λvs F1 J' m P=>⟨F1,m,P⟩⟩) λus s1 M=>?_;obtain⟨vs,J',V,rv,F1,m,P⟩:=M;have hh:=I.ok.hd B;obtain⟨v,w,rfl,D,e⟩:=P;cases e;obtain⟨u,rfl,e1⟩:=vals1 rv
 have E:∀{is:O aV} {n:T} {h':bP} {L':T} {S:aD},(d,fr)=(Dat.lst ((jb yw is).map .str),U)->Z (jb yw is)<64->(∀b o,s1.heap.get? b=Y o->h'.get? b=Y o)->n<=4000->
   qw (dE X.prog X.w) (qm X.w) h' S n (λq=>∃j,j<Z is/\bM (is.getD j "")=q)->
   aw (aq X.prog X.w) X.A (call (.builtin "sorted") [.ref S]) (EP X h_ σ Q) X.xe { s1 with heap:=h',toks:=L' }:=by
  intro is n h' L' S e T' ex hn y;cases e;exact aaJ (V.kept ex) T' (by
   refine ac λ_ E=>?_;obtain⟨es,ep,t,ks,g,u,c,h,l,b⟩:=y;apply E;intro x C Q' e k;refine vf (e.trans hh) g (by rw[eG];exact rP (af (mS c)) l hn) λh1 d m vs ex sz pm=>k vs h1 d m ex sz ?_;obtain⟨o,p,f⟩:=nK pm (xm (R:=λv k=>u7 k v=U) c)
   have ha:∀k∈ks,∃i,k=bM i:=λk hk=>by
    obtain⟨j,_,e⟩:=(b k).mp hk;exact⟨_,e.symm⟩
   refine⟨_,Hh p λk hk=>ha k (f.mem_iff.mp hk),(f.map kS).trans ?_⟩;rw[gR (by unfold List.Nodup at *;rw[fT];refine jF ?_ h;intro a b d mb c e;obtain⟨i,rfl⟩:=ha a d;obtain⟨j,rfl⟩:=ha b mb;exact c (by simp only[kS]at e;rw[e])) (oz VF (kI VF is))];intro z;rw[kc VF,bT];constructor
   .rintro⟨q,hq,rfl⟩;obtain⟨j,a,rfl⟩:=(b q).mp hq;simp only[kS,fi,ag a,lK];exact bw a
   .intro r;obtain⟨j,a,rfl⟩:=cF.mp r;refine⟨bM _,(b _).mpr ⟨j,a,?_⟩,W⟩;simp only[fi,ag a,lK]) (λr hp hs=>ng (λa b _ _ h h'=>VF.tot _ _ h' h) hs ((kI VF is).imp λq=>VF.UT q) hp) W
   λl U'=>DM (fr:=U) (d:=.non) m.good U' λw F' H' st r f=>k w F' H' (m.trans st) r λz=>ik.back (F:=F1) m.hh (f z)
 clear ha hs h g R h1 rv; cases da with
 |lst ds=>
   obtain⟨l,vs,rfl,t,r'⟩:=D;cases e1;obtain⟨kk,G,q2⟩:=bX N;exact Mo hh (jj c3) V m.good t r' G q2 (λw F' H' st r f=>k w F' H' (m.trans st) r λz=>ik.back (F:=F1) m.hh (f z)) λS s2 q=>ud q
 |str x=>
   refine ac λ_ K=>?_;cases D;obtain⟨tx,rfl⟩:=e1;apply K;simp only[jg,b1,ZP,Hl]at N;have hl:Z (fF x)=x.cps.size:=by simp[fF]
   split at N
   .rename_i hb;refine MB (knd:=dE _ _) hh (λs2 _=>W) (by kernel_rfl) (by kernel_rfl) cV (by intro A1 a s1 Q1 sz ex k;refine wpAny_pyIter_str λo St e1 st=>k o _ St e1 (λb hb=>.inl (ax.mp hb)) st) (λi=>bM ((fF x).getD i "")) (λi v hv=>?_) (by unfold Ak;exact nZ (af hl.symm) hb.1) λh' L' y ex=>?_
    .obtain⟨c,u,G,rfl⟩:=hv
     have e:(fF x).getD i ""=⟨#[c]⟩:=by
      have hi:i<x.cps.size:=by rcases bq.mp G with⟨q,_⟩;exact q
      rw[a8 hi]at G;cases G;simp[fF,hi]
     rw[e];exact⟨zN _ u,W⟩
    .apply ud;rw[<-hl]at y;exact E (bh N).symm hb.2 ex (aK hb.1) y
   .cases N
 |_=>simp only[jg,b1,ZP]at N;cases N
end
noncomputable def posK(k:Key):O Key->a5 T
 |[]=>L
 |j::a=>if j=k then Y 0 else(posK k a).map (·+ 1)
def Yl(g:Ly)(O':Dat)(ds:O Dat):Dat->a5 Dat
 |.dct b ws=>(rR O').bind λk=>(posK k b).bind λj=>(ws[j]?).bind λe=>(kP g e ds).map λa=>.dct b (ws.set j a)
 |_=>L
def abp(g:Ly)(i:T)(ρ:dN)(O':Dat)(ds:O Dat):g_->a5 Out
 |some (d,U)=>(Yl g O' ds d).map λa=>.nx (ρ.set i (Y (a,U)))
 |_=>L
def Sx.mtk(g:Ly)(i:T)(ke:Ex)(es:O Ex):Sx:={ ex:=λC a=>(bA C ke (full a)).bind λy=>(pT C es (full a)).bind λx=>if x.2=U then abp g i a y.1 x.1 (a[i]?).join else L }
theorem HI:∀{g:O (Key×V)}{j:T}{v:V},posK k (g.map (·.1))=Y j->(g.map (·.2))[j]?=Y v->qe g k=Y v
 |[],_,_,h,_=>by cases h
 |p::r,j,v,h,e=>by
   simp only[az,posK]at h;by_cases q:p.1=k
   .rw[cb q]at h;cases h;cases e;simp[qe,q]
   .rw[cv q]at h;obtain⟨b,a,rfl⟩:=dY h;have:=HI a e;unfold qe at this ⊢;rwa[List.find?_cons_of_neg (by simpa using q)]
section
variable{X:Cx}{K:Fg}
def aa1:R2:=λx y H Q=>∃a b k w,x=.ref a/\y=kV k/\H a=Y (.dK b)/\qe b k=Y w/\Q w H
def dq.at (o:dq K H ds y S)(C:ds[k]?=Y e) :
  ∃v B O' F,y[k]?=Y v/\lr K H e v O'/\S=B++(O'++F)/\dq K H (ds.take k) (y.take k) B/\dq K H (ds.drop (k+1)) (y.drop (k+1)) F/\y=y.take k++v::y.drop (k+1):=by
 obtain⟨B,i,d,c,rfl⟩:=o.take k;have a :=(aM.mp C).1
 have l:ds.drop k=e::ds.drop (k+1):=by
  rw[fE a]
  simp_all
 rw[l]at c;refine ac λ_ h=>?_;obtain⟨v,r,O',F,j,f,g,rfl⟩:=c;apply h;have b:k<Z y:=by rwa[o.length]
 rw[(fE b)]at j;refine ac λ_ h=>?_;obtain⟨rfl,rfl⟩:=eO j;apply h;exact⟨_,B,O',F,ag b,f,W,d,g,by simp⟩
structure Chg(K:Fg)(H:Hp)(op:Ly)(p l:aD)(d':Dat)(ws:O V)(S T':O aD)(ob':HO)(S':O aD):Prop where
 own:lr K (upd H l ob') d' (.ref p) S'
 nd:S'.Nodup
 sub:∀a∈S',a∈S\/a∈T'
def SQ{ws:O Dat}{T':O aD}(h1:op≠.ext)(h0:op≠.seti)(B:cz H H')(c3:ws[j]?=Y e)(O':kP op e ds=Y e')(o:lr K H (.dct ks ws) v S)(nd:S.Nodup)
  (a:dq K H' ds us T')(nt:T'.Nodup)(dj:∀a∈S,a∉T'):∃p k_ l xs e0 R S',v=.ref p/\H p=Y (.dK k_)/\k_.map (·.1)=ks/\(k_.map (·.2))[j]?=Y (.ref l)/\H l=Y (.lst xs)/\l∈S/\H' l=Y e0/\Ez op e0 us=Y R/\Lc R/\Chg K H' op p l (.dct ks (ws.set j e')) us S T' R S':=by
 refine ac λ_ q=>?_;obtain⟨p,k_,P,rfl,t,rfl,E,rfl⟩:=o;obtain⟨C,h,x,i,D,y,rfl,F,G,I⟩:=E.at c3;have k:∃l xs,C=.ref l/\H l=Y (.lst xs):=by
  clear B c3 a nt t D E nd dj q F G I; cases e with
  |lst ls=>obtain⟨l,xs,S',rfl,u,_⟩:=id y;exact⟨l,xs,W,u⟩
  |dct ks ws=>cases op<;>first|exact absurd rfl h1|exact absurd _ h2|exact absurd rfl h0|cases O'
  |any=>cases op<;>first|exact absurd rfl h1|exact absurd _ h2|cases O'
  |_=>cases op<;>cases O'
 obtain⟨l,xs,rfl,u⟩:=k;have A:=a6.mp nd;have n:=mJ A.2;have r:=mJ n.2.1
 have c:∀a,a∈h\/a∈x\/a∈i->a∈p::(h++(x++i)):=λa m=>jU _ (by
  grind)
 obtain⟨Q,e0,R,S',ev,b,d,f,V,L',s,M⟩:=A3 h1 O' (y.mono B) r.1 a nt λa m=>dj a (c a (.inr (.inl m)));cases ev
 apply q;have g:∀us,H' l≠Y (.tup us):=λus z=>by rw[d]at z;clear B c3 a t q F G u D I A n r c V s b d L'; cases z;cases op<;>first|exact absurd rfl h1|exact absurd _ h2|cases f
 have w:p≠l:=λz=>A.1 (z▸aB _ (aJ _ b));refine⟨p,k_,l,xs,e0,_,p::(h++(S'++i)),W,t,W,D,u,c l (.inr (.inl b)),d,f,V,⟨p,k_,_,W,(cA w).trans (B _ _ t),W,?_,W⟩,?_,λa m=>?_⟩
 .have N:ws.set j e'=ws.take j++([e']++ws.drop (j+1)):=by
   rw[uf,cb (aM.mp c3).1];rfl
  rw[N];exact I.symm▸(((F.mono B).upd g _ (λm=>n.2.2 l m (aJ _ b))).append ((dq.one L').append ((G.mono B).upd g _ (λm=>r.2.2 l b m))))
 .refine a6.mpr ⟨λm=>?_,kJ n.1 (kJ s r.2.1 λa m m3=>?_) λa m m2=>?_⟩
  .grind
  .grind
  grind
 grind
def WJ{st:fP}(h1:op≠.ext)(h3:op≠.seti)(c3:∀l O' ob' vs H Q,H l=Y O'->Ez op O' vs=Y ob'->(∀u,Q u (upd H l ob'))->r (.ref l) vs H Q)
  (e0:PS X st (Hg (Z8 X.K "list" r (Vl aa1 (vx i) (gE X.K C ke)) (gF X.K C es)))):SS X C EE st (.mtk op i ke es):=PS.imp e0 λD σ H h=>by
 obtain⟨p,e1,g⟩:∃p,σ[i]?=Y (Y (.ref p))/\gE X.K C ke σ H λkv c3=>∃k_ k l xs,kv=kV k/\c3 p=Y (.dK k_)/\qe k_ k=Y (.ref l)/\c3 l=Y (.lst xs)/\gF X.K C es σ c3 λws H2=>∃e0 ob',H2 l=Y e0/\Ez op e0 ws=Y ob'/\D.nx σ (upd H2 l ob'):=(by
  refine ac λ_ kq=>?_;obtain⟨Fz,H₀,F,ρ,out,h,R,G⟩:=h;obtain⟨I,J',k,ds,ks,ws,j,e,e',L',g,M,hi,N,t,c,rfl⟩:∃B c3 k ds ks ws j e O',bA C ke _=Y _/\rR B=Y k/\pT C es _=Y _/\ρ[i]?=Y (Y _)/\posK k ks=Y j/\ws[j]?=Y e/\kP op e ds=Y O'/\out=.nx (ρ.set i (Y (.dct ks _,U))):=(by
   refine ac λ_ m=>?_;obtain⟨⟨B,c3⟩,hk,h⟩:=bX h;obtain⟨⟨ds,al⟩,K,h⟩:=bX h;apply m;by_cases b:al=U
   .subst b
    cases q:ρ[i]? with
    |none=>rw[q]at h;cases h
    |some z=>
      rw[q]at h
      match z,h with
      |some (d,U),h=>
        clear q; obtain⟨d',a,h5⟩:=dY h
        cases d with
        |dct ks ws=>
          refine ac λ_ m=>?_;obtain⟨k,c,a⟩:=bX a;obtain⟨j,f,a⟩:=bX a;obtain⟨e,g,a⟩:=bX a;obtain⟨O',l,rfl⟩:=dY a;apply m;exact⟨B,c3,k,ds,ks,ws,j,e,O',hk,c,K,W,f,g,l,h5.symm⟩
        |_=>cases a
   .rw[cv b]at h;cases h);obtain⟨Ss,O'⟩:=R.ow;obtain⟨v,e1,e2,e3,e4⟩:=O'.own i _ hi;obtain⟨p,k_,S0,rfl,hp,n,os,eS⟩:=id e2;obtain⟨P,sp,x⟩:=R.hZ;apply kq;refine⟨p,e1,_,I,J',L',P,x.step.good,x.full,λkv F1 c3 o Q _=>?_⟩;obtain rfl:=oB g Q;have b:=Step.shrink R.step.good sp o;have r:=R.moved b;have y:=O'.moved b;obtain⟨S,S1,S2,S3,z,U',f3,f4,f5,f6⟩:=os.at t
  have s:∃l xs,S=.ref l/\H l=Y (.lst xs):=by
   clear e0 kq g M hi t G e3 e1 e2 hp n os b r y z f3 f4 f5 f6; cases e with
   |lst ls=>obtain⟨l,xs,S',rfl,hl,_⟩:=id U';exact⟨l,xs,W,hl⟩
   |dct ks ws=>cases op<;>first|exact absurd rfl h1|exact absurd _ h2|exact absurd rfl h3|cases c
   |any=>cases op<;>first|exact absurd rfl h1|exact absurd _ h2|cases c
   |_=>cases op<;>cases c
  obtain⟨l,xs,rfl,hl⟩:=s;refine⟨k_,k,l,xs,W,b.hh _ _ hp,HI (by rwa[n]) z,b.hh _ _ hl,Bs r M λus F' H' T' st ow V d=>?_⟩;have dj:∀a∈Ss i,a∉T':=λa m m2=>by
   obtain⟨u,f,_⟩:=e2.vE _ a m;have:=b.hh _ _ f;rw[(d a m2).1]at this;cases this
  refine ac λ_ kq=>?_;obtain⟨p',A,l',xs',e0,ob',S',q1,B,q3,E,q5,q6,q7,q8,q9,ch⟩:=SQ h1 h3 (b.hh.trans st.hh) t c e2 e3 ow V dj;cases q1;apply kq;rw[hp]at B;cases B;rw[z]at E;refine ac λ_ kq=>?_;cases E;apply kq;refine⟨e0,_,q7,q8,G F' _ σ (b.ff.trans st.ff) ((r.moved st).mut (y.moved st) hi e1 q6 q9 ch.own ch.nd λa m=>?_)⟩
  rcases ch.sub a m with m|m
  .exact .inl m
  .refine .inr ⟨(d a m).2,(r.step.hh.free (d a m).1),λj d2 q m2=>?_⟩
   .obtain⟨w,_,g,_⟩:=y.own j d2 q;obtain⟨u,f,_⟩:=g.vE _ a m2;rw[(d a m).1]at f;cases f);refine⟨_,e1,qI g λm n s1 d=>?_⟩;refine ac λ_ kq=>?_;obtain⟨k_,k,l,xs,rfl,a,b,c,e⟩:=d;apply kq;refine⟨p,k_,k,_,W,W,a,b,.inl ⟨W,xs,pC.of c⟩,?_⟩;refine ac λ_ kq=>?_;obtain⟨ρ,ds,al,h,F,j,R,k⟩:=e;apply kq;exact⟨ρ,ds,al,h,F,j,R,λvs F' H' st r f=>by obtain⟨O',_,a,b,c⟩:=k vs F' H' st r f;exact c3 l O' _ vs H' _ a b λ_=>c⟩
end
end M
namespace L2
noncomputable abbrev dfK:O (aV×ai):=[((("default":et):aV),dG)]
noncomputable def Ql(f:T->cx):T->T->a5 T->a5 T
 |0,_,m=>m
 |k+1,j,L=>Ql f k (j+1) (Y j)
 |k+1,j,Y i=>Ql f k (j+1) (Y (if f j<f i then j else i))
def bestOf(P:T->ai->Prop):a5 T->ai->Prop
 |none,v=>v=.none
 |some i,v=>P i v
def heldBy(P:T->ai->Prop)(g:c4 ai):a5 T->Prop
 |none=>g=#[]
 |some i=>∃b,P i b/\g=#[b,b]
section
variable{A:bJ}{St:T->bP->Prop}
def S6(c3:Walks prog w A.in1 I fp wr n P St)(hc:CmpOf prog w A.in1 .Lt P λi j=>decide (f i<f j))(hf:S∉fp):∀(k j:T) (s:aj) (m:a5 T) (vs:c4 ai) (c:T),n - j=k->j<=n->St j s.heap->heldBy P vs m->
  s.heap.get? S=Y { cls:=.type "list",dict:=L,data:=.seq vs c,slots:=#[] }->
  (∀v h' B,bestOf P (Ql f k j m) v->(∀b o,b∉wr->b≠S->s.heap.get? b=Y o->h'.get? b=Y o)->R (.ok (.ret v)) { s with heap:=h',toks:=B })->
  eH (aq prog w) A (.builtin "min.loop" ⟨[.ref I,.none,.ref S],dfK⟩) R s:=by
 have D :=λh=>hf (c3.sub _ h);intro k
 induction k with
 |zero=>
   intro j s m vs c H E st r Q fin;have e:j=n:=aI (jj E) (nZ (am E) (af H))
   refine fK Aq (by
    refine wb9 (dB Q W ?_);refine wb9 (EG (c3.done s _ _ (e▸st) λh' B K=>?_))
    cases m with
    |none=>
      cases r;exact wb9 (ip (wu9 (fin _ h' B W λb o x _ e=>K b o x e)))
    |some i=>
      obtain⟨b,N,rfl⟩:=r;exact wb9 (jN (K S _ D Q) W (wb9 (m9 (wu9 (fin b _ B N λb o x y e=>(cy _ _ (dn y)).trans (K b o x e)))))))
 |succ k C=>
   intro j s m vs c H E st r Q fin;have lt:j<n:=nZ (ad E) (af H.symm)
   refine fK Aq (by
    refine wb9 (dB Q W ?_);refine wb9 (EG (c3.item j s _ _ lt st λv h' B hp p K=>?_));have a:=K S _ D Q;have keep:∀g:lO->lO,∀b∈fp,∀o,h'.get? b=Y o->(h'.update S g).get? b=Y o:=λg b N o e=>(cy _ _ (λz:S=b=>hf (by rwa[z]))).trans e
    clear hf D E st Q; cases m with
    |none=>
      cases r;refine wb9 (m:=updateSeq S _) (jN a W ?_)
      exact wu9 ⟨iW kE _,C _ _ (Y j) _ _ (aI (rP (ws lt) (wt (aK lt)) (af H)) (rP (af H.symm) (ws (aK lt)) (wt lt))) lt (c3.frame _ _ _ p (keep _)) ⟨v,hp,W⟩ (du _ a W) λt X d N l=>
       fin t X d N λb o x y e=>l b o x y ((cy _ _ (dn y)).trans (K b o x e))⟩
    |some i=>
      obtain⟨b0,u,rfl⟩:=r;refine wb9 (m:=tryCatch (holding _ (richCompare _ v b0 >>= _)) _) (EG (bQ (wb9 (hc j i v b0 _ _ _ hp u ?_))));refine wb9 (bQ (gp (wb9 (m9 (wu9 ?_)))));have F:Ql f (k+1) j (Y i)=Ql f k _ (Y _):=rfl;rw[F]at fin;by_cases q:f j<f i
      .rw[cb q]at fin;simp only[c0 q,ek];refine wb9 (jN a W (wb9 (m9 ?_)))
       exact wu9 ⟨iW kE _,C _ _ (Y j) _ _ (aI (rP (ws lt) (wt (aK lt)) (af H)) (rP (af H.symm) (ws (aK lt)) (wt lt))) lt (c3.frame _ _ _ p (keep _)) ⟨v,hp,W⟩ (du _ a W) λt X d N l=>
        fin t X d N λb o x y e=>l b o x y ((cy _ _ (dn y)).trans (K b o x e))⟩
      .rw[cv q]at fin;simp only[c6 q,dh,eg];exact wb9 (m9 (wu9 ⟨iW kE _,C _ _ (Y i) _ c (aI (rP (ad lt) (am (aK lt)) (af H)) (rP (af H.symm) (ad (aK lt)) (am lt))) lt p ⟨b0,u,W⟩ a λt X d N l=>fin t X d N λb o x y e=>l b o x y (K b o x e)⟩)))
end
def PX(a:ai):argsOk "min" ⟨[a],dfK⟩:=by kernel_rfl
section
variable{A:bJ}{s:aj}
def Px(C:A.handled=L)(I:s.heap.IsList l (hT xs))
  (k:∀v y B,bestOf (λi v=>(hT xs)[i]?=Y v) (Ql (numAt xs) xs.size 0 L) v->(∀b o,s.heap.get? b=Y o->y.get? b=Y o)->Q v { s with heap:=y,toks:=B }) :
  aw (aq prog w) A (call (.builtin "min") [.ref l] dfK) Q E s:=by
 refine rH (fZ PySem.F.plain_min PySem.F.entry_min ?_)
 have main:aw (aq prog w) A.in1 (gu.«min» ⟨[.ref l],dfK⟩) (λfin d=>match fin with
   |.done f=>(match(Except.ok f)with | .ok (.ret v)=>Q v d | .ok _=>False | .error e=>E e d)
   |.again g=>g.quiet=U/\eH (aq prog w) A g (λr d=>match r with | .ok (.ret v)=>Q v d | .ok _=>False | .error e=>E e d) d) E s:=by
  refine wb9 (lH (W) (wb9 (wu9 (wb9 (iter_intList I λs2 e p a ne=>?_)))));subst e;refine wb9 (dI ?_);have t:(hT xs).size=xs.size:=by simp[hT]
  have x:=Walks.list (prog:=prog) (w:=w) (A:=A.in1) C _ l ne (hT xs);refine wu9 ⟨iW kE _,S6 x (CmpOf.ints_lt _ λ_ _=>intItems_at) (λh=>bE _ (a _ h)) _ 0 _ L _ _ W (aU _) (x.frame _ _ _ p λb _ o e=>hp9 _ e) W (aC _ W) λv y B j u=>?_⟩;rw[t]at j
  exact k v y B j λb o e=>by
   have n:=hp9 ({ cls:=.type "list_iterator",data:=.fields #[.ref l,.int 0 0] }) e
   exact u b o (λm=>by
    rcases ak.mp m with rfl|m
    .exact absurd (hl9 e) (bE _)
    .cases m) (a7 (hl9 n)) (hp9 _ n)
 cases q:Manifest.signature? "min" with
 |none=>exact wu9 main
 |some c=>
   exact wu9 main
end
end L2
namespace M
open L2
noncomputable def Yp:cx->O cx->cx
 |i,[]=>i
 |i,j::r=>Yp (if j<i then j else i) r
def SV:Dat->g_
 | .lst a=>(zR a).map λb=>match b with
   |[]=>(.non,J)
   |i::r=>(.int (Yp i r),J)
 |_=>L
def Ex.mnd(a:Ex):Ex:=⟨a.fv,λC b=>(bA C a b).bind λx=>SV x.1⟩
theorem Im(f:T->cx):∀(k j i:T),(Ql f k j (Y i)).map f=Y (Yp (f i) ((List.range' j k).map f))
 |0,_,_=>rfl
 |k+1,j,i=>by
   show(Ql f k (j+1) (Y (if f j<f i then j else i))).map f=_;rw[Im f k (j+1) _,Qd,az];simp only[Yp];split<;>rfl
section
variable{X:Cx}
def adB(K:Fg):O V->Hp->VK->Prop:=gL K (b1 SV)
def Yo(B:X.calm=U)(I:Inv X h_ σ H s)(r:cX vs us)(h:adB X.K vs H Q) :
  aw (aq X.prog X.w) X.A (call (.builtin "min") us dfK) (EP X h_ σ Q) X.xe s:=by
 refine ac λ_ z=>?_;obtain⟨M,d,fr,F,v,N,rfl,g,n,k⟩:=rT (λ_ _ _ h=>PU h) h
 refine z ?_;cases M with
 |lst ds=>
   refine ac λ_ z=>?_;obtain⟨P,hb,N⟩:=dY N;obtain⟨q,o,rfl,t,p⟩:=n;obtain⟨V,x,pl,_⟩:=I.lstR g t;obtain⟨u,rfl,y⟩:=vals1 r;cases y;have f:=zQ hb p x;obtain⟨E,e⟩:=f.allInts.items;refine z ?_;have S:=pl.isList;rw[e]at S
   have l:E.toList.map (·.1)=P:=by
    have N:=nums_intItems E;rw[<-e]at N;exact N.symm.trans f.numsOf
   refine Px (I.ok.hd B) S λv h' G b hk=>?_
   cases P with
   |nil=>
     refine ac λ_ z=>?_;cases N;refine z ?_;have R:E.size=0:=by simp_all
     rw[R]at b;rw[b];exact⟨.non,H,I.kept hk,W,k _ F H (Step.refl g) W bx⟩
   |cons i P=>
     cases N;have R:E.size=Z P+1:=by simpa using c7 iD l
     have C:Ql (numAt E) E.size 0 L=Ql (numAt E) P.length 1 (Y 0):=by rw[R];rfl
     rw[C]at b;obtain⟨r,D,c⟩:=dY (Im _ _ 1 0);rw[D]at b;obtain⟨t,rfl⟩:=intItems_at (b)
     have a:(List.range' 0 E.size).map (numAt E)=i::P:=by
      rw[<-l];refine kX λj=>?_;by_cases m:j<E.size
      .simp[m,numAt]
      .simp[m]
     rw[R]at a;rw[c,(eO a).1,(eO a).2];exact⟨.int _,H,I.kept hk,⟨_,W⟩,k _ F H (Step.refl g) W bx⟩
 |_=>cases N
end
def Yk(g:Ly)(ds:O Dat):Dat->Dat->a5 Dat
 |.lst ws,.int k=>(yQ ws.length k).bind λj=>(ws[j]?).bind λe=>(kP g e ds).map λa=>.lst (ws.set j a)
 |_,_=>L
def abo(g:Ly)(i:T)(ρ:dN)(O':Dat)(ds:O Dat):g_->a5 Out
 |some (d,U)=>(Yk g ds d O').map λa=>.nx (ρ.set i (Y (a,U)))
 |_=>L
def Sx.SX(i:T)(ke xi g:Ex):Sx:={ ex:=λC a=>(bA C g (full a)).bind λx=>if im x.1=U then(bA C ke (full a)).bind λy=>(bA C xi (full a)).bind λz=>abo .seti i a y.1 [x.1,z.1] (a[i]?).join else L }
section
variable{K:Fg}
def SN(h:abo op i ρ y ds (ρ[i]?).join=Y out) :
  ∃ws k j e B,y=.int k/\ρ[i]?=Y (Y (.lst ws,U))/\yQ ws.length k=Y j/\ws[j]?=Y e/\kP op e ds=Y B/\out=.nx (ρ.set i (Y (.lst (ws.set j B),U))):=by
 cases q:ρ[i]? with
 |none=>rw[q]at h;cases h
 |some z=>
   rw[q]at h
   match z,h with
   |some (d,U),h=>
     clear q; obtain⟨m,a,l⟩:=dY h
     cases d with
     |lst ws=>
       cases y with
       |int k=>
         refine ac λ_ g=>?_;obtain⟨j,b,a⟩:=bX a;obtain⟨e,c,a⟩:=bX a;obtain⟨B,f,rfl⟩:=dY a;apply g;exact⟨ws,k,j,e,B,W,W,b,c,f,l.symm⟩
       |_=>cases a
     |_=>cases a
def Il{ws:O Dat}(h1:op≠.ext)(B:cz H H')(c3:ws[j]?=Y e)(e0:kP op e ds=Y e')(o:lr K H (.lst ws) v S)(nd:S.Nodup)(a:dq K H' ds us []) :
  ∃p R l O' P S',v=.ref p/\H p=Y (.lst R)/\Z R=Z ws/\R[j]?=Y (.ref l)/\l∈S/\H' l=Y O'/\Ez op O' us=Y P/\Lc P/\lr K (upd H' l P) (.lst (ws.set j e')) (.ref p) S'/\S'.Nodup/\∀a∈S',a∈S:=by
 refine ac λ_ q=>?_;obtain⟨p,R,M,rfl,u,w,rfl⟩:=o;obtain⟨N,g,y,h,A,C,rfl,E,F,G⟩:=w.at c3;have k:=a6.mp nd;have n:=mJ k.2;have i:=mJ n.2.1;obtain⟨l,O',P,S',rfl,b,c,d,I,D,r,s⟩:=A3 h1 e0 (C.mono B) i.1 a eE λa _ m=>by cases m
 apply q;have t :=λa m=>(s a m).elim id λz=>by cases z
 have f:∀us,H' l≠Y (.tup us):=λus z=>by rw[c]at z;clear B c3 e0 a u w q E F k n i A C G b c I D r s t; cases z;cases op<;>first|exact absurd rfl h1|exact absurd _ h2|cases d
 have x:p≠l:=λz=>k.1 (z▸aB _ (aJ _ b))
 have sub:∀a∈g++(S'++h),a∈g++(y++h):=λa m=>by
  grind
 refine⟨p,R,l,O',_,p::(g++(S'++h)),W,u,w.length,A,jU _ (aB _ (aJ _ b)),c,d,I,⟨p,R,_,W,(cA x).trans (B _ _ u),?_,W⟩,?_,λa m=>?_⟩
 .have V:ws.set j e'=ws.take j++([e']++ws.drop (j+1)):=by
   rw[uf,cb (aM.mp c3).1];rfl
  rw[V];exact G.symm▸(((E.mono B).upd f _ (λm=>n.2.2 l m (aJ _ b))).append ((dq.one D).append ((F.mono B).upd f _ (λm=>i.2.2 l b m))))
 .exact a6.mpr ⟨λm=>k.1 (sub p m),kJ n.1 (kJ r i.2.1 λa m Q=>i.2.2 a (t a m) Q) λa m X=>by
   grind⟩
 grind
def Rl.ask(R:Rl K P I F H σ ρ)(h:bA C x (M.full ρ)=Y (d,fr))
  (k:∀v F1 B,Step F H F1 B->(im d=U->∀y,cz B y->lr K y d v [])->(∀k,rR d=Y k->v=kV k)->(∀i,d=.int i->v=.int i)->Q v B):gE K C x σ H Q:=by
 obtain⟨g,j,f⟩:=R.hZ;refine⟨_,d,fr,h,g,f.step.good,f.full,λv F1 B b c _=>k v _ B (Step.shrink R.step.good j b) (λm y s2=>lr.lj (λa o e=>s2 a o (b.good.sub a o e)) d m c) (λk q=>oB q c) λi q=>?_⟩;rwa[q]at c
set_option tactic.hygienic true
def NY{D:Ends}(h:gS K C EE (.SX i ke xi xe) D σ H) :
  gE K C xe σ H λv H1=>∃p,σ[i]?=Y (Y (.ref p))/\gE K C ke σ H1 λkv H2=>∃xs k l,kv=.int k/\H2 p=Y (.lst xs)/\yV xs k=Y (.ref l)/\gE K C xi σ H2 λc3 e0=>∃ob ob',e0 l=Y ob/\Ez .seti ob [v,c3]=Y ob'/\D.nx σ (upd e0 l ob'):=by
 refine ac λ_ kq=>?_;obtain⟨Fz,N,F,ρ,out,h,R,I⟩:=h;obtain⟨⟨d,fd⟩,h1,h⟩:=bX h;apply kq;split at h
 .rename_i hd;refine ac λ_ kq=>?_;obtain⟨⟨e7,X⟩,h2,h⟩:=bX h;obtain⟨⟨o,fz⟩,h3,h⟩:=bX h;obtain⟨ws,k,j,e,e',rfl,hi,J',y,g,rfl⟩:=SN h;apply kq;refine R.ask h1 λv F1 H1 c ow _ _=>?_;have z:=R.moved c;refine ac λ_ kq=>?_;obtain⟨Ss,O'⟩:=R.ow;obtain⟨v0,e1,e2,e3,e4⟩:=O'.own i _ hi;obtain⟨p,xs,S0,rfl,hp,os,eS⟩:=id e2;apply kq;refine⟨p,e1,z.ask h2 λkv F2 H2 b _ _ hk=>?_⟩;have R2:=z.moved b;refine ac λ_ kq=>?_;obtain⟨L',S1,S2,S3,A,B,f3,f4,f5,f6⟩:=os.at y
  have r:im o=U:=by
   cases e with
   |lst ls=>
     cases o with
     |int n=>rfl
     |_=>cases g
   |dct ks ws=>
     obtain⟨kz,q,_⟩:=bX (g)
     clear g; cases o with
     |int n=>rfl
     |str n=>rfl
     |_=>cases q
   |_=>cases g
  have s:∃l,L'=.ref l:=by
   cases e with
   |lst ls=>obtain⟨l,xs,S',rfl,hl,_⟩:=id B;exact⟨l,W⟩
   |dct ks ws=>obtain⟨l,xs,S',rfl,hl,_⟩:=id B;exact⟨l,W⟩
   |_=>cases g
  obtain⟨l,rfl⟩:=s;apply kq;refine⟨xs,k,l,hk k W,b.hh _ _ (c.hh _ _ hp),by unfold yV;rwa[os.length,J'],R2.ask h3 λc3 M e0 f t hz hn=>?_⟩;refine ac λ_ kq=>?_;obtain⟨p',P,l',ob,ob',S',Q,E,q3,G,S,T',U',V,u,w,x⟩:=Il (by simp) ((c.hh.trans b.hh).trans f.hh) y g e2 e3 ⟨v,_,[],[],W,ow hd e0 (b.hh.trans f.hh),⟨c3,[],[],[],W,t r e0 (λ_ _ e=>e),⟨W,W⟩,W⟩,W⟩;cases Q;apply kq;rw[hp]at E;cases E;rw[A]at G;refine ac λ_ kq=>?_;cases G;apply kq;exact⟨ob,_,T',U',I M _ σ ((c.ff.trans b.ff).trans f.ff) ((R2.moved f).mut (((O'.moved c).moved b).moved f) hi e1 S V u w λa m=>.inl (x a m))⟩
 .cases h
set_option tactic.hygienic false
end
section
variable{K:Fg}
def Tq.uz(y:∀a∈S,∀g,H a≠Y (.tup g))(t:Tq K H a g):Tq K (uz H S) a g:=by
 rcases t with t|t
 .exact .inl (by rwa[jT λm=>y a m g t])
 .exact .inr t
mutual
theorem lr.uz(B:∀a∈S,∀y,H a≠Y (.tup y)):∀(d:Dat){v:V}{T':O aD},lr K H d v T'->(∀a∈T',a∉S)->lr K (M.uz H S) d v T'
 |.non,_,_,h,_=>h
 |.bl _,_,_,h,_=>h
 |.int _,_,_,h,_=>h
 |.str _,_,_,h,_=>h
 |.tup f,_,_,g,n=>by obtain⟨a,y,e,t,r⟩:=g;exact⟨a,y,e,t.uz B,dq.uz B f r n⟩
 |.lst f,_,_,c,n=>by
   obtain⟨a,y,i,e,t,r,rfl⟩:=c;exact⟨a,y,i,e,(jT (n a jB)).trans t,dq.uz B f r (λb m=>n b (jU _ m)),W⟩
 |.dct _ f,_,_,c,n=>by
   obtain⟨a,l,i,e,t,k,r,rfl⟩:=c;exact⟨a,l,i,e,(jT (n a jB)).trans t,k,dq.uz B f r (λb m=>n b (jU _ m)),W⟩
 |.any,_,_,h,_=>h
 |.exc ..,_,_,c,n=>by
   obtain⟨a,j,e,t,r,rfl⟩:=c;exact⟨a,j,e,(jT (n a jB)).trans t,(jT (n j (jU _ jB))).trans r,W⟩
theorem dq.uz(y:∀a∈S,∀g,H a≠Y (.tup g)):∀(ds:O Dat){g:O V}{T':O aD},dq K H ds g T'->(∀a∈T',a∉S)->dq K (M.uz H S) ds g T'
 |[],_,_,h,_=>h
 |d::ds,_,_,b,n=>by
   obtain⟨v,r,c,f,e,i,j,q⟩:=b;subst q;exact⟨v,r,c,f,e,lr.uz y d i (λa m=>n a (aJ _ m)),dq.uz y ds j (λa m=>n a (aB _ m)),W⟩
end
def aam:cz (M.uz H S) H:=λa o e=>by
 by_cases m:a∈S
 .rw[uX m]at e;cases e
 .rwa [jT m]at e
def lr.nt(o:lr K H d v S):∀a∈S,∀g,H a≠Y (.tup g):=λa m g z=>by
 obtain⟨u,b,c⟩:=o.vE _ a m;rw[z]at b;cases b;exact c
end
noncomputable def lnR:Dat×cc->a5 (Dat×Dat)
 |(d,U)=>Y (.non,d)
 |(.tup [r,d],J)=>Y (r,d)
 |_=>L
def WS(K:Fg)(n:T)(f:O Dat->g_):Sp:=λh H Q _=>Z h=n/\∃d i y r e v j S F,h=v::j/\f (d::i)=Y y/\lnR y=Y (r,e)/\lr K H d v S/\S.Nodup/\Good F H/\(∀a∈S,F a=L)/\cQ K F i j/\
 ∀u b c g,Step F (uz H S) b c->Rep K b r u->lr K c e v g->g.Nodup->(∀a∈g,b a=L/\uz H S a=L)->Q u c
noncomputable def yP:T:=2000
noncomputable def abY:Out->g_
 | .nx a=>match(a[0]?).join with
   |some (d,U)=>Y (d,U)
   |_=>L
 | .rl r a=>match(a[0]?).join with
   |some (d,U)=>Y (.tup [r,d],J)
   |_=>L
 |_=>L
def exL(C:Fs)(np nl:T)(body:O Sx):O Dat->g_
 |d::a=>if Z a+1=np then(e9 C body (Y (d,U)::(a.map (λd=>Y (d,J))++bH (nl - np) L))).bind abY else L
 |[]=>L
def IY{ds:O Dat}{m j:T}{d:Dat}{b:cc}(q:(ds.map (λd=>Y (d,J))++bH m L:dN)[j]?=Y (Y (d,b))):b=J/\ds[j]?=Y d:=by
 by_cases a:j<Z ds
 .rw[aO (by simpa using a),aS]at q
  simp_all
 .rw[aG (by simpa using a),cO]at q;split at q<;>cases q
section
variable{K:Fg}{base:bP}
set_option tactic.hygienic true in
def Za{st:fP}(F:Z2 K x qual st f fd)(S:mG N ps (br st))(c3:Z ps<=Z N)
  (e0:∀(cdv:ai)(A:bJ)(outer:O B6)(s:aj)(H:Hp)(E:XK),i5 k (A.deeper (fe qual (br st) s.heap.objs.size f cdv))->
   BI (kQ sJ P w K mg base N qual (br st) f cdv A outer s H E).j3 C EE (jQ st) body):jt P w K mg base sJ (k+1) f fd ps (WS K ps.length (exL C ps.length N.length body)):=by
 refine F.ok S (λvs H Q E h=>h.1) λcdv A outer s H vs Q E I h=>⟨_,e0 _ A _ s H E I,?_⟩
 refine ac λ_ kq=>?_;clear F S c3 e0 I; obtain⟨hl,d,ds,y,V,e,v,us,B,Fz,rfl,he,D,o,nd,g,J',r,G⟩:=h;apply kq;have he:(if Z ds+1=(Z ps) then _ else L)=Y y:=he;split at he
 .rename_i e3;obtain⟨out,ho,he⟩:=bX he;have L':L2.start N (v::us)=Y v::(us.map Y++bH _ L):=rfl;refine⟨Fz,⟨uz H B,Y v⟩,Fz,_,_,ho,⟨⟨g,cz.refl _,aam,λ_ _ _ n=>n⟩,?_,λi d' q=>?_,λd' M q z=>?_,λi=>if i=0 then B else [],λi d' q=>?_,λi j d1 d2 T' X q2=>?_⟩,?_⟩
  .grind
  .cases i with
   |zero=>cases q
   |succ i=>
     obtain⟨w,e1,e2⟩:=r.get (IY q).2;refine⟨w,?_,e2⟩;show(us.map Y++_)[i]?=_;rw[aO (by simpa using ((aM.mp e1).1)),aS,e1];rfl
  .cases z;rfl
  .cases i with
   |zero=>cases q;exact⟨v,W,o,nd,λa m=>⟨J' a m,uX m⟩⟩
   |succ i=>cases(IY q).1
  .grind
  .have own:∀{ρ':dN} {l:Dat},ρ'[0]?=Y (Y _)->∀F' H' b,Rl K Fz ⟨uz H B,_⟩ F' H' b _->∃S',lr K H' l v S'/\S'.Nodup/\∀a∈S',F' a=L/\uz H B a=L:=λh0 F' H' b R=>by
    obtain⟨Ss,O'⟩:=R.ow;obtain⟨M,e1,o',c,p⟩:=O'.own 0 _ h0;have e2:=R.keep _ v h0 W;rw[e1]at e2;cases e2;exact⟨_,o',c,p⟩
   have t:∀{ρ':dN}{g:Dat->Dat×cc},(match(ρ'[0]?).join with|some (d,U)=>Y (g d)|_=>L)=Y y->∃l,ρ'[0]?=Y (Y (l,U))/\y=g l:=λ{ρ' g}he=>by
    cases q:ρ'[0]? with
    |none=>rw[q]at he;cases he
    |some z=>
      rw[q]at he
      match z,he with
      |some (d',U),he=>simp_all
   cases out with
   |nx ρ'=>
     obtain⟨l,h0,rfl⟩:=t he;cases D;intro F' H' b s' R;obtain⟨S',o',c,p⟩:=own h0 F' H' b R;exact G _ F' H' S' R.step W o' c p
   |rl d1 ρ'=>
     obtain⟨l,h0,rfl⟩:=t he;cases D;intro u F' H' b s' R U';obtain⟨S',o',c,p⟩:=own h0 F' H' b R;exact G u F' H' S' R.step U' o' c p
   |rt _ _=>cases he
   |xc _ _ _=>cases he
 .cases he
end
section
variable{K:Fg}{ρ:dN}
def Rl.Hu(R:Rl K B y F H σ ρ):Rl K B y F H (σ.set t z) (ρ.set t L):=by
 obtain⟨l,m⟩:=R.ow
 have ne:∀{j d b},(ρ.set t L)[j]?=Y (Y (d,b))->t≠j/\ρ[j]?=Y (Y _):=λq=>by
  rcases eW q with⟨_,e⟩|z
  .cases e
  .exact z
 refine⟨R.step,by simpa using R.len,λj i q=>?_,λi c q h=>?_,l,λj i q=>?_,λj k d1 d2 a f g=>m.sep j k d1 d2 a (ne f).2 (ne g).2⟩
 .rw[dc (ne q).1];exact R.val j i (ne q).2
 .rw[dc (ne q).1];exact R.keep i c (ne q).2 h
 .rw[dc (ne q).1];exact m.own j i (ne q).2
def ad1(C:Fs)(j i:T)(ρ:dN)(ds:O Dat):g_->a5 Out
 |some (d,U)=>(C j (d::ds)).bind λx=>(lnR x).map λp=>.nx (ρ.set i (Y (p.2,U)))
 |_=>L
def Sx.lnd(j i:T)(es:O Ex):Sx:={ ex:=λC ρ=>(mW C es (wz (l8 (Gs es) ρ))).bind λa=>ad1 C j i (l8 (Gs es) ρ) a ((l8 (Gs es) ρ)[i]?).join }
def WL(G:jt X.prog X.w X.K X.mg X.base sJ k f fd ps (WS X.K n (C j)))(hr:i5 k X.A)(hg:Gl X x)(hm:X.mg x=Y (.ref f))(hk:dJ X.K (.ref f)=U)(hb:Binds X.K fd ps [])
  (hv:PE X e (vx i))(ha:SA X C es xs)(hn:Z xs+1=n)(c3:(x == ("__debug__":aV))=J)(he:aN (e::es) X.env=(J,eval e X.env)::aN es X.env)(e0:(eI cp (aN es X.env)).any (·.1)=J) :
  SS X C EE (.Expr (.Call (.Name x p) (e::es) [] cp) pos) (.lnd j i xs):=
 PS.imp (tf (AV G hr hg hm hk hb .nil Nr (o9 hv ha he) c3 he e0) W) λD σ H l=>by
  refine ac λ_ kq=>?_;obtain⟨Fz,H₀,F,ρ,out,h,R,r⟩:=l;obtain⟨ds,h1,h⟩:=bX h
  obtain⟨d,y,p,hi,s,t,rfl⟩:∃d y p,(l8 (Gs xs) ρ)[i]?=Y (Y _)/\C j _=Y y/\lnR y=Y p/\out=.nx ((l8 _ ρ).set i (Y _)):=by
   cases q:(l8 _ ρ)[i]? with
   |none=>rw[q]at h;cases h
   |some z=>
     rw[q]at h
     match z,h with
     |some (d,U),h=>
       obtain⟨y,h2,h3⟩:=bX h;obtain⟨p,u,h5⟩:=dY h3;exact⟨d,y,p,W,h2,u,h5.symm⟩
  obtain⟨B,s2,R2⟩:=R.freeze _;obtain⟨Ss,O'⟩:=R2.ow;obtain⟨v,e1,V,e3,L'⟩:=O'.own i d hi;apply kq;refine⟨v,e1,_,ds,h1,B,R2.step.good,R2.wz,λvs F1 E b c=>?_⟩;have g:=O'.moved b;clear kq O' L'; obtain⟨_,_,M,_,I⟩:=g.own i d hi;show WS _ n _ _ E _ _;rw[aW];refine⟨by rw[bG,c.length,jJ h1,hn],d,ds,y,_,_,v,vs,_,F1,W,s,t,V.mono b.hh,e3,b.good,λa m=>(I a m).1,c,λ_ F' H' S' N _ o nd J'=>?_⟩;exact r F' H' σ ((s2.trans b.ff).trans N.ff) (by
   obtain⟨w,P,V,e3,G⟩:=g.own i d hi
   have up:∀a u,H₀.h a=Y u->uz E (Ss i) a=Y u:=λa u q=>by
    rw[jT λm=>by simp_all];exact (Rl.moved R2 b).step.hh a u q
   have Q:∀j d2,i≠j->(l8 _ ρ)[j]?=Y _->∀a∈Ss j,∃u,uz E _ a=Y u/\F1 a=L:=λj d2 t q a m=>by
    refine ac λ_ I=>?_;obtain⟨_,_,l,_,x⟩:=g.own j d2 q;obtain⟨u,p,_⟩:=l.vE _ a m;apply I;exact⟨u,by rwa[jT (g.sep j i d2 d (dn t) q hi a m)],(x a m).1⟩
   refine⟨⟨N.good,(Rl.moved R2 b).step.ff.trans N.ff,λa u q=>N.hh a u (up a u q),λa u q n=>N.un a u (up a u q) ((Rl.moved R2 b).step.un a u q n)⟩,by simpa using (Rl.moved R2 b).len,λj d2 q=>?_,λd2 A q=>?_,λj=>if j=i then S' else Ss j,λj d2 q=>?_,λj k d1 d2 r D C a m=>?_⟩
   .rcases eW q with⟨rfl,z⟩|⟨_,c⟩
    .cases z
    .obtain⟨w,y,l⟩:=(Rl.moved R2 b).val j d2 c;exact⟨w,y,l.mono N.ff⟩
   .clear g e1 N o nd J' P V e3 G up Q; rcases eW q with⟨rfl,_⟩|⟨_,c⟩
    .exact (Rl.moved R2 b).keep _ A hi
    .exact (Rl.moved R2 b).keep _ A c
   .rcases eW q with⟨rfl,z⟩|⟨f,c⟩
    .cases z;rw[cb W];refine⟨v,e1,o,nd,λa m=>⟨(J' a m).1,?_⟩⟩
     cases q:H₀.h a with
     |none=>rfl
     |some u=>have:=up a u q;simp_all
    .rw[cv (dn f)];obtain⟨w,y,l,S,x⟩:=g.own j d2 c;refine⟨w,y,(l.uz V.nt d2 λa m=>g.sep j i d2 d (dn f) c hi a m).mono N.hh,S,λa m=>⟨?_,(x a m).2⟩⟩;obtain⟨u,p,hf⟩:=Q j d2 f c a m;exact N.un a u p hf
   .rcases eW D with⟨rfl,_⟩|⟨h1,s⟩
    .rcases eW C with⟨z,_⟩|⟨h2,K⟩
     .exact absurd z r
     .rw[cv (dn h2)];intro m2;obtain⟨u,p,_⟩:=Q k d2 h2 K a m2
      simp_all
    .rw[cv (dn h1)]at m
     rcases eW C with⟨rfl,_⟩|⟨h2,K⟩
     .intro m2;obtain⟨u,p,_⟩:=Q j d1 h1 s a m
      simp_all
     .rw[cv (dn h2)];exact g.sep j k d1 d2 r s K a m)
end
section
variable{C:Fs}{K:Fg}
def acp(C:Fs)(t i:T)(ρ:dN)(xi g:Ex)(O':Dat):g_->a5 Out
 | some (.lst ws,U)=>match O' with
   |.int k=>(yQ ws.length k).bind λj=>(ws[j]?).bind λe=>(bA C g ((full ρ).set t (Y e))).bind λx=>if im x.1=U then(bA C xi ((full ρ).set t (Y e))).bind λz=>
     (kP .seti e [x.1,z.1]).map λa=>.nx ((ρ.set i (Y (.lst (ws.set j a),U))).set t L)else L
   |_=>L
 |_=>L
def Sx.alp(t i:T)(ke xi g:Ex):Sx:={ ex:=λC a=>if t<(Z a) then(bA C ke (full a)).bind λy=>acp C t i a xi g y.1 (a[i]?).join else L }
set_option tactic.hygienic true
def UU(h:acp C t i ρ xi F y (ρ[i]?).join=Y out) :
  ∃ws k j e x O' z fz B,y=.int k/\ρ[i]?=Y (Y (.lst ws,U))/\yQ ws.length k=Y j/\ws[j]?=Y e/\bA C F ((full ρ).set t (Y e))=Y (x,O')/\im x=U/\bA C xi ((full ρ).set t (Y e))=Y (z,fz)/\kP .seti e [x,z]=Y B/\out=.nx ((ρ.set i (Y (.lst (ws.set j B),U))).set t L):=by
 cases q:ρ[i]? with
 |none=>rw[q]at h;cases h
 |some z=>
   rw[q]at h
   clear q; rcases z with _|⟨D,R⟩
   .cases h
   cases D with
   |lst ws=>
     cases R with
     |true=>
       cases y with
       |int k=>
         refine ac λ_ l=>?_;obtain⟨j,a,h⟩:=bX h;obtain⟨e,b,h⟩:=bX h;obtain⟨⟨x,O'⟩,c,h⟩:=bX h;refine l ?_;split at h
         .rename_i d;obtain⟨⟨z,fz⟩,f,h⟩:=bX h;obtain⟨B,g,h⟩:=dY h;exact⟨ws,k,j,e,x,O',z,fz,B,W,W,a,b,c,d,f,g,h.symm⟩
         .cases h
       |_=>cases h
     |false=>cases h
   |_=>cases h
def Rl.acn{Fz F H:Hp}{H₀:HZ}{σ:St}{ρ:dN}{i t j:T}{ws:O Dat}{e:Dat}{x:Ex}{d:Dat}{fr:cc}{Q:VK}{p l:aD}{xs:O V}(R:Rl K Fz H₀ F H σ ρ)(hi:ρ[i]?=Y (Y (.lst ws,U)))(c3:ws[j]?=Y e)(e0:σ[i]?=Y (Y (.ref p)))(hp:H p=Y (.lst xs))(hl:xs[j]?=Y (.ref l))
  (h:bA C x ((M.full ρ).set t (Y e))=Y (d,fr))
  (k:∀v F1 B,Step F H F1 B->(im d=U->∀H2,cz B H2->lr K H2 d v [])->(∀k,rR d=Y k->v=kV k)->(∀i,d=.int i->v=.int i)->Q v B):gE K C x (σ.set t (Y (.ref l))) H Q:=by
 obtain⟨Ss,O'⟩:=R.ow;obtain⟨I,X,e2,e3,J'⟩:=O'.own i _ hi;rw[e0]at X;refine ac λ_ A=>?_;cases X;obtain⟨L',vs,N,ep,b,os,w⟩:=id e2;cases ep;refine A ?_;rw[hp]at b;refine ac λ_ A=>?_;cases b;obtain⟨P,S,T',U',g,y,z,_⟩:=os.at c3;refine A ?_;rw[hl]at g;cases g;have D:Rep K (fz F H (Ss i)) e _:=y.l8 R.step.good e λa m=>by
  rw[w,z];exact jU _ (aB _ (aJ _ m))
 obtain⟨E,sp,n⟩:=((R.DI O' hi).AJ D).hZ
 have G:M.full ((ρ.modify i λo=>o.map λs=>(s.1,J)).set t (Y (e,J)))=(M.full ρ).set t (Y e):=by
  unfold M.full;rw[List.map_set]
  congr 1
  apply kX;intro m;rw[aS,aS,A4];by_cases r:i=m
  .rw[cb r]
   cases ρ[m]? with
   |none=>rfl
   |some o=>cases o<;>rfl
  .rw[cv r]
 have u:=n.full;rw[G]at u;refine⟨_,d,fr,h,E,n.step.good,u,λv F1 B c f _=>k v _ B (Step.shrink R.step.good ((rV R.step.good.sub).trans sp) c) (λm H2 s2=>lr.lj (λa o e=>s2 a o (c.good.sub a o e)) d m f) (λk q=>oB q f) λi q=>?_⟩;rwa[q]at f
set_option tactic.hygienic false
end
section
variable{K:Fg}
end
section
variable{K:Fg}
end
section
end
end M
namespace L2
section
end
section
end
end L2
namespace M
open L2
section
end
noncomputable def Zu:Dat×cc->Dat×cc->g_
 |(.lst a,U),(.lst b,U)=>if Z a+Z b<=aF then Y (.lst (a++b),U)else L
 |_,_=>L
def Ex.cat(a b:Ex):Ex:=⟨a.fv++b.fv,λC c=>(bA C a c).bind λx=>(bA C b c).bind λy=>Zu x y⟩
def aa4(K:Fg):R2:=λx y H Q=>∃c d F a b,Good F H/\Rep K F (.lst c) x/\Rep K F (.lst d) y/\lr K H (.lst c) x a/\lr K H (.lst d) y b/\Z c+Z d<=aF/\
 ∀p f e,H p=L->Step F H f e->Rep K f (.lst (c++d)) (.ref p)->lr K e (.lst (c++d)) (.ref p) (p::(a.tail++b.tail))->Q (.ref p) e
section
def Xk(ha:SE X C a xa)(hb:SE X C b xb):SE X C (.BinOp a .Add b pos) (.cat xa xb):=
 PE.imp (Vu (show kR X (ea _) (aa4 _) by intro h_ s σ H x y v u Q I j m h;refine ac λ_ A=>?_;obtain⟨S,V,F,o,w,g,⟨l,vs,rfl,t,r⟩,⟨q,us,rfl,t',f⟩,⟨l',a,c,e1,hl,os,rfl⟩,⟨z,b,d,e2,i,e,rfl⟩,n,k⟩:=h;cases e1;cases e2;obtain rfl:=I.ql (pC.of hl) (g.sub.seq t);obtain rfl:=I.ql (pC.of i) (g.sub.seq t');apply A;exact X6 h_ s σ H _ _ v u Q I j m ⟨l,q,a,b,W,W,hl,i,by rwa[r.length,f.length],λp P=>k p _ _ P (Step.alloc g P) ⟨p,_,W,.inl (.inl bN),(r.append f).mono (cz.upd (g.sub.free P))⟩ ⟨p,_,_,W,bN,(os.append e).mono (cz.upd P),W⟩⟩) ha hb) λσ H Q r=>by
  refine ac λ_ O'=>?_;obtain⟨ρ,d,fr,h,F,g,R,k⟩:=r;obtain⟨L',h1,h⟩:=bX h;obtain⟨M,h2,h⟩:=bX h;obtain⟨S,V,rfl,rfl,s,e⟩:∃S V,L'=(.lst S,U)/\M=(.lst V,U)/\Z S+Z V<=aF/\(d, fr)=(.lst (S++V),U):=(by
   unfold Zu at h;split at h
   .simp_all
   .cases h);obtain⟨rfl,rfl⟩:=Prod.mk.inj e;apply O';refine⟨ρ,_,_,h1,F,g,R,λv F1 N f t x=>⟨ρ,_,_,h2,F1,f.good,R.mono f.ff,λw y H2 c A B=>?_⟩⟩;obtain⟨j,D,e1,l⟩:=x W;obtain⟨n,E,e2,q⟩:=B W
  have d1:∀a∈j,H2 a≠L:=λa m z=>by
   obtain⟨u,i,_⟩:=l.vE _ a m;have:=c.hh _ _ i;rw[z]at this;cases this
  have d12:∀a∈j,a∉n:=λa m m2=>by
   obtain⟨u,i,_⟩:=l.vE _ a m;rw[e2 a m2]at i;cases i
  have d2:∀a∈n,H2 a≠L:=λa m z=>by
   obtain⟨u,i,_⟩:=q.vE _ a m;rw[z]at i;cases i
  refine⟨S,V,y,j,n,c.good,t.mono c.ff,A,l.mono c.hh,q,s,λp G I P o J' K=>k _ G I ((f.trans c).trans o) J' λ_=>⟨_,?_,?_,K⟩⟩
  .refine a6.mpr ⟨λm=>?_,kJ ((LL _).nodup D) ((LL _).nodup E) λa m m2=>d12 a (iC m) (iC m2)⟩
   rcases aH.mp m with m|m
   .exact d1 p (iC m) P
   .exact d2 p (iC m) P
  .intro a m
   rcases ak.mp m with rfl|m
   .exact(f.hh.trans c.hh).free P
   .rcases aH.mp m with m|m
    .exact e1 a (iC m)
    .exact f.hh.free (e2 a (iC m))
end
end M
namespace L2
noncomputable def Itd(lo:cx)(n:T):It:=⟨λi _=>i<n,λi H x a=>a=H/\x=.int (lo - i),λi _=>n<=i⟩
def JT{K:au}(it:aD)(lo:cx)(n:T):Turn P w K tg (Itd lo n) [it] it (λi h=>IsRangeIter h it (lo+(i:T) * (-1)) ((n:cx) - (i:T)) (-1)) where
 mem:=by simp
 obj:=λi h C b F=>by
  have e:b=it:=by simpa using F
  subst e
  exact⟨_,C,λv z=>by
   have u:Data.fields _=Data.cell v:=z
   cases u⟩
 keep:=λi h N C k=>k it (by simp) _ C
 item:=by
  intro X c d f R i S s σ H E I Q C g;subst c d f;obtain⟨j,l,x,m,p,q⟩:=Q it (by simp);have D:=Walks.range (prog:=X.prog) (w:=X.w) (I.ok.hd R) it lo (-1) n;refine D.item i s _ _ g C λv N r y a G=>?_;obtain⟨t,rfl⟩:=y;have A:Inv X S σ H { s with heap:=N,toks:=r }:=I.turned (λb o F e=>G b o (by simpa using F) e) j l m p q;refine⟨_,W,xK (s:={ s with heap:=N,toks:=r }) (n:="range_iterator") a W rfl cV ⟨.int (lo - i),H,A,⟨t,?_⟩,⟨W,W⟩,a,λb F=>(Q b F).1⟩⟩
  congr 1
  exact Vg (iw0) (iw0)
 done:=by
  intro X c d f R i S s σ H E I Q C g;subst c d f;obtain⟨j,l,x,m,p,q⟩:=Q it (by simp);exact Lz (I.ok.hd R) C (by have:n<=i:=g;omega) λN B=>⟨W,I.turned (t':=s.toks) (λb o F e=>B b o F e) j l m p q⟩
 self:=λ_ _ _ _ _ C h=>LB C h
def rh(a b:cx):jR a b (-1)=if a > b then a - b else 0:=by
 unfold jR;simp
section
def abN(O':TA):TI:=λb H R=>O' b H λc a=>∃i j:cx,c=[.int i,.int j,.int (-1)]/\(-1000000<=i/\i<=1000000/\-1000000<=j/\j<=1000000)/\R (Itd i (i - j).toNat) a
end
end L2
namespace M
open L2
set_option tactic.hygienic true in
def Rr(c3:Gl X "range")(e0:X.mg "range"=L)(ha:SA X C [a,b,c] [xa,xb,xc])(hs:aN [a,b,c] X.env=[(J,eval a X.env),(J,eval b X.env),(J,eval c X.env)])(O':aN [b,c] X.env=[(J,eval b X.env),(J,eval c X.env)]) :
  SI X C tg (.Call (.Name "range" p) [a,b,c] [] pos) (.rng [xa,xb,xc]):=
 PI.imp ((show PI X tg (.Call (.Name _ p) _ [] _) (abN (gA _ C _)) by
 intro Q s N H R I h;refine Call_ (mx I c3 e0 boot_range (cU (jc (ha _ Q s N H _ I h) λus s1 y=>?_) (by rw[hs,O']) (by rw[O'];rfl)));obtain⟨vs,j,k,l,f⟩:=y;obtain⟨lo,A,rfl,⟨f,m,n,u⟩,q⟩:=f;cases l with
 |cons r E=>
   cases E with
   |cons v E=>
     cases E with
     |cons g E=>
       cases E;obtain⟨t,rfl⟩:=r;obtain⟨S,rfl⟩:=v;obtain⟨d,rfl⟩:=g;refine call_range_3 cV ?_ (.inl (PyProof.noPylong_small cV));apply hH (Va ..) (by unfold yq;rw[rh];simp only[Builtin.Range.rangeFitsLong,ah,kj,c5,ef,show¬((-1) > 0) by decide,eg];split<;>grind);have i:Inv X Q N j { s1 with heap:=s1.heap.push { cls:=.type "range",data:=.fields #[.int lo t,.int A S,.int (-1) d] },toks:=s1.toks }:=k.kept λb o e=>hp9 _ e
       refine⟨(s1.heap.push { cls:=.type _,data:=.fields _ }).objs.size,[(s1.heap.push { cls:=.type _,data:=.fields _ }).objs.size],_,_,j,W,
        i.kept λb o e=>hp9 _ e,JT _ lo _,?_,λb hb=>?_,q⟩
       .have z:lo+((0:T)) * (-1)=lo:=by simp
        have D:(((lo - A).toNat)) - ((0:T))=jR lo A (-1):=by
         rw[rh];split<;>grind
        rw[z,D];exact aC _ W
       .have e:b=(s1.heap.push { cls:=.type "range",data:=.fields #[.int lo t,.int A S,.int (-1) d] }).objs.size:=by simpa using hb
        subst e;exact i.vC (ao _) (i.hok.fresh (ao _)))) λN H R l=>by
  obtain⟨G,items,F,A,g,m,k⟩:=l;obtain⟨M,P,B⟩:=bX A;refine⟨G,M,P,F,g,m,λvs F1 n st r=>?_⟩;unfold FG at B;split at B
  .have:=jJ P;cases this
  .cases (jJ P)
  .rename_i i j c;split at B
   .rename_i d;clear m P; obtain⟨rfl,d⟩:=d;cases B;obtain⟨v,w,rfl,o,q,s,rfl,e,t,u,rfl,f,h⟩:=r;cases o;cases e;cases f;cases h;exact⟨i,j,W,d,k _ F1 n st (λF H g s=>by
     refine⟨λe d K=>?_,λe A=>(by simpa using A:((i - j).toNat)<=e)⟩;rw[aS]at K
     have A:e<((i - j).toNat):=by
      by_cases A:e<((i - j).toNat)
      .exact A
      simp_all
     rw[ag (by simpa using A)]at K;simp only[tY,cT,i6]at K;subst K;refine⟨A,λx V y=>?_⟩;obtain⟨rfl,rfl⟩:=y;exact⟨F,Step.refl g,W⟩)⟩
   .cases B
  .cases B
end M
namespace L2
noncomputable def Itv(K:au)(a:aD)(n:T):It:=
 ⟨λi H=>i<n/\∃b,vj K H a b/\Z b=n,λi H x c=>c=H/\∀b,vj K H a b->b[n - 1 - i]?=Y x,λi H=>n<=i⟩
def L7{K:au}(a it:aD)(n:T):Turn P w K tg (Itv K a n) [it] it (λi h=>i<=n/\h.get? it=Y (RM a ((n:cx) - 1 - (i:T)))) where
 mem:=by simp
 obj:=λi h st b hb=>by
  have e:b=it:=by simpa using hb
  subst e;exact⟨_,st.2,λv z=>nomatch z⟩
 keep:=λi h h' st k=>⟨st.1,k it (by simp) _ st.2⟩
 item:=by
  intro X c d f hc i h_ s σ H E I hf st j;subst c d f;obtain⟨hi,xs,C,D⟩:=j;obtain⟨its,F,p,L'⟩:=I.tuple C;have hl:=F.length;obtain⟨x,G⟩:∃x,xs[n - 1 - i]?=Y x:=⟨_,ag (rP (p9 (n - 1) i) (wS n 1 (jj hi)) (af D.symm))⟩
  obtain⟨u,M,N⟩:=F.get G;obtain⟨l,m,O',q,r,t⟩:=hf it (by simp);have e:(n:cx) - 1 - (i:T)=((n - 1 - i:T):cx):=by grind
  have y:=st.2;rw[e]at y;have R:n - 1 - i<its.toArray.size:=by simp;exact Yy (p9 (n - 1) i) (wS n 1 (jj hi)) (af D.symm) (af hl)
  have B:its.toArray[n - 1 - i]=u:=by have:=aM.mp M;simpa using this.2
  refine RK (its:=its.toArray) (by simp;exact aa (af hl.symm) L') R p y λh' J' g S=>?_;rw[B];have e2:((n - 1 - i:T):cx) - 1=(n:cx) - 1 - ((i+1:T):cx):=Vg (Lp (qb e.symm)) (Lp (qb e));rw[e2]at g;have T':Inv X h_ σ H { s with heap:=h',toks:=J' }:=I.turned (λb o hb e=>S.extBut _ _ hb e) l m q r t;exact⟨u,W,xK (s:={ s with heap:=h',toks:=J' }) (n:="reversed") g W rfl cV ⟨x,H,T',N,⟨W,λys U'=>by rw[I.qz U' C];exact G⟩,⟨hi,g⟩,λb hb=>(hf b hb).1⟩⟩
 done:=by
  intro X c d f hc i h_ s σ H E I hf st j;subst c d f;obtain⟨l,m,O',q,r,t⟩:=hf it (by simp);have y:=st.2;rw[show(n:cx) - 1 - (i:T)=-1 by have:n<=i:=j;have:=st.1;omega]at y;exact Xu (I.ok.hd hc) y λh' V=>⟨W,I.turned (t':=s.toks) (λb o hb e=>V b o hb e) l m q r t⟩
 self:=λA i s Q E st k=>by
  refine yz (wV st.2) uY (bY uY (wV st.2) (show hS table "reversed.__iter__"=Y gu.«dict_keyiterator.__iter__» from EL (id':="dict_keyiterator.__iter__") (by kernel_rfl) W (by decide +kernel) (by kernel_rfl)) ?_ (by kernel_rfl));exact wu9 ⟨_,W,"reversed",_,wV st.2,lU.lookup,k⟩
section
variable{p:rJ}{ta:TA}
def aee(K:au)(ta:TA):TI:=λc H R=>ta c H λd a=>∃p b,d=[.ref p]/\vj K a p b/\R (Itv K p b.length) a
def XB(B:Gl X "reversed")(O':X.mg "reversed"=L)(ha:PA X [a] ta)(hs:aN [a] X.env=[(J,eval a X.env)]):PI X tg (.Call (.Name "reversed" p) [a] [] pos) (aee X.K ta):=by
 intro y s C H R I h;refine eV (mx I B O' (by decide +kernel:dt _=Y (.type "reversed")) (cU (jc (ha _ y s C H _ I h) λQ s1 v=>?_) (by rw[hs];rfl) W));refine ac λ_ z=>?_;obtain⟨S,d,c,f,q,r,rfl,g,k⟩:=v;obtain⟨u,rfl,i⟩:=vals1 f;cases i;obtain⟨t,j,m,E⟩:=c.tuple g;apply z;rw[eG]at E;have el:=j.length;refine (yD ⟨by decide +kernel,PySem.F.create_reversed,⟨_,_,PySem.F.mro_reversed⟩,PySem.F.made_reversed,by decide +kernel,PySem.F.sub_reversed_self,.of (owner:="object") (n:="__init__") (by kernel_rfl) (by decide +kernel) (by decide +kernel) (by decide +kernel) (.inl (by decide +kernel)) (by kernel_rfl)⟩ cV (PySem.F.typeCall_reversed_1 _) (PySem.F.newCall_reversed_1 _) (λa=>mO a _) PySem.F.entry_reversed_new ((show mh (gu.«reversed.__new__» ⟨[.type _,.ref q],[]⟩) (λ_ R s=>BR s.heap q _/\∀O',R (.ok (.ret (.ref s.heap.objs.size))) { s with heap:=s.heap.push (RM q _),toks:=O' }) from .of_wp λprog w A R s a=>by
   obtain⟨m,b⟩:=a;refine wb9 (lH (newClass_reversed _) ?_);refine wb9 (lH (by first|rfl|kernel_rfl) ?_);refine wb9 (lH (by first|rfl|kernel_rfl) ?_);refine wb9 (gG m.typeIs (show typeLookup (.type _) _=pure L by kernel_rfl) ?_);apply wb9;refine wb9 (dU m.typeIs (show ez (.type _) (.type _)=pure J by kernel_rfl) ?_);refine wb9 (gG m.typeIs wa.lookup ?_);apply lH (by first|rfl|kernel_rfl);refine wb9 (vM m (nV.mp (by simp;omega)) ?_);refine (?_ : aw _ _ (newObj _ (.fields [bZ q,rawInt _].toArray) >>= _) ..);exact wb9 (dI (wu9 ⟨_,W,b _⟩) (by size_fits)))) (⟨m,λB=>⟨⟨_,aC _ W,W⟩,(λl=>?_) B⟩⟩));have T':=L7 (P:=X.prog) (w:=X.w) (K:=X.K) (tg:=tg) q s1.heap.objs.size r.length;have x:(0<=Z r/\(s1.heap.push _).get? _=Y (RM q ((r.length) - 1 - ((0:T))))):=⟨aU _,by rw[show(r.length) - 1 - ((0:T))=((t.toArray.size):cx) - 1 by simp_all];exact aC _ W⟩
 refine T'.self _ 0 _ _ _ x ⟨_,_,_,_,d,W,c.kept λb o e=>hp9 _ e,T',x,λb N=>?_,k⟩;have e:b=s1.heap.objs.size:=by simpa using N
 subst e;exact c.vC (ao _) (c.hok.fresh (ao _))
end
end L2
namespace M
open L2
section
variable{X:Cx}
end
end M
namespace L2
section
variable{X:Cx}
def PS.j3{st:fP}(h:PS X.j3 st t):PS X st t:=λb s c H D I a=>bC (h b s c H D (I.oZ _) a) (λ_ _ q=>q.iY) λ_ _ z=>bK z
def PA.j3(h:PA X.j3 es t):PA X es t:=λb c s d H Q I a=>bC (h _ c s d H Q (I.oZ _) a) (λ_ _ l=>by obtain⟨e,f,g,r,q⟩:=l;exact ⟨e,f,g.iY,r,q⟩) λ_ _ z=>bK z
def PI.j3{iter:aZ}(h:PI X.j3 tg iter t):PI X tg iter t:=λd s f H R I a=>bC (h d s f H R (I.oZ _) a) (λ_ _ q=>bC q (λ_ _ v=>by obtain⟨g,i,j,m,k,e,l,T',b,c,r⟩:=v;exact ⟨g,i,j,m,k,e,l.iY,T',b,c,r⟩) λ_ _ z=>bK z) λ_ _ z=>bK z
def PG.j3(h:PG X.j3 tg t):PG X tg t:=λc s d H v u Q I r b=>bC (h c s d H v u Q (I.oZ _) r b) (λ_ _ l=>by obtain⟨a,e,f,q⟩:=l;exact ⟨a,e,f.iY,q⟩) λ_ _ z=>bK z
def PE.j3(h:PE X.j3 e t):PE X e t:=λb s c H Q I a=>bC (h b s c H Q (I.oZ _) a) (λ_ _ l=>by obtain⟨v,d,f,q⟩:=l;exact ⟨v,d,f.iY,q⟩) λ_ _ z=>bK z
def PT.j3(h:PT X.j3 e t):PT X e t:=λb s c H Q I a=>bC (h b s c H Q (I.oZ _) a) (λ_ _ l=>by obtain⟨d,f,q⟩:=l;exact ⟨d,f.iY,q⟩) λ_ _ z=>bK z
end
end L2
namespace M
open L2
def gLx(K:Fg)(g:O Dat->g_):O V->Hp->XK->Prop:=λe H E=>∃d c f k h,g d=Y (.exc c f k,h)/\∃F,Good F H/\cQ K F d e/\∀i a b,Step F H i a->a b=L->E (.ref c) (Y b) (upd a b (.xd [(f,kV k)]))
def Qi(K:Fg)(n:T)(f g:O Dat->g_):Sp:=λa H Q E=>Z a=n/\(gL K f a H Q\/gLx K g a H E)
def Tn{K:Fg}(h:rR d=Y k)(r:Rep K F d w):w=kV k:=by
 cases d with
 |int i=>cases h;exact r
 |str x=>cases h;exact r
 |_=>cases h
section
variable{st:fP}
end
section
variable{K:Fg}{base:bP}
def CJ{N y:O aV}(g:Good B H)(r:cQ K B ds C)(F:Z C=Z y)(O':Z ds=Z y)(I:Z y<=Z N) :
  Rl K B ⟨H,L⟩ B H (L2.start N C) (ds.map (λd=>Y (d,J))++bH (Z N - Z y) L):=by
 refine⟨Step.refl g,?_,λi h q=>?_,λ_ _ _ z=>(nomatch z),λ_=>[],λi h q=>?_,λi j d1 d2 a c e=>?_⟩
 .unfold L2.start;simp[F,O']
 .have f:i<Z ds:=by
   by_cases f:i<Z ds
   .exact f
   .rw[aG (by simpa using f),cO]at q;split at q<;>cases q
  rw[aO (by simpa using f),aS]at q;obtain⟨d2,k,l⟩:=dY q;cases l;obtain⟨v,m,b⟩:=r.get k;refine⟨v,?_,b⟩;unfold L2.start;rw[aO (by simp_all),aS,m];rfl
 .exfalso;by_cases f:i<Z ds
  .rw[aO (by simpa using f)]at q
   simp_all
  .rw[aG (by simpa using f),cO]at q;split at q<;>cases q
 .simp
end
noncomputable def abI(g:O (T×cc)):Dat->g_
 |.exc c _ _=>(g.lookup c).map λb=>(.bl b,J)
 |_=>L
def Ex.ED(g:O (T×cc))(a:Ex):Ex:=⟨a.fv,λC b=>(bA C a b).bind λx=>abI g x.1⟩
section
variable{X:Cx}{C:Fs}{a:aZ}
def adE(K:Fg)(g:O (T×cc))(vc:V):O V->Hp->VK->Prop:=λd H Q=>∃c f k F v b,d=[v,vc]/\Good F H/\Rep K F (.exc c f k) v/\g.lookup c=Y b/\Q (.bl b) H
def Eg(K:Fg)(g:O (T×cc))(u:ai):Prop:=∀c b,g.lookup c=Y b->Ce K c=U/\mL K (.ref c) u=Y b
def MD(c3:Gl X "isinstance")(e0:X.mg "isinstance"=L)(hc:PE X (.Name x y) (tC vc))(hu:∀w,RelV vc w->w=u)(P:Eg X.K tab u)(ha:SE X C a S)
  (he:aN [a,.Name x y] X.env=(J,eval a X.env)::aN [.Name x y] X.env)(O':(eI pos (aN [.Name x y] X.env)).any (·.1)=J) :
  SE X C (.Call (.Name "isinstance" p) [a,.Name x y] [] pos) (.ED tab S):=
 PE.imp (xj ((show lX X (.builtin "isinstance") (adE _ tab vc) from λh_ s σ H xs us Q I r h=>by
 refine ac λ_ n=>?_;obtain⟨c,f,k,F,v,b,rfl,g,⟨p,dx,rfl,e,m⟩,o,q⟩:=h;obtain⟨i,w,rfl,j,d⟩:=vals2 r;clear r; obtain rfl:=hu w d;obtain rfl:i=.ref p:=j;apply n;exact hV (YH (P _ _ o).1) I.xE (I.hok p _ (g.sub _ _ e)).1 (P _ _ o).2 (λz=>nomatch z) λl=>⟨.bl _,H,I.tok l,W,q⟩)) c3 e0 (by decide +kernel) (o9 ha (o9 hc AW) he) (by decide) (by decide) he O') λσ H Q h=>by
  refine ac λ_ n=>?_;obtain⟨E,d,fr,h1,F,g,R,k⟩:gE X.K C S σ H λv O'=>∃c f k F b,Good F O'/\Rep X.K F (.exc c f k) v/\tab.lookup c=Y b/\∀N t,Step F O' N t->Q (.bl b) t:=(by
   refine ac λ_ n=>?_;obtain⟨E,d,fr,h,F,g,R,k⟩:=h;obtain⟨⟨M,j⟩,h3,A⟩:=bX h
   apply n; clear h; cases M with
   |exc c f e=>
     refine ac λ_ n=>?_;obtain⟨b,o,A⟩:=dY A;cases A;apply n;exact⟨E,_,j,h3,F,g,R,λv F1 O' B r _=>⟨c,f,e,F1,b,B.good,r,o,λN t i=>k _ N t (B.trans i) W bx⟩⟩
   |_=>cases A);apply n;exact⟨E,d,fr,h1,F,g,R,λv F1 e B r f=>by refine ac λ_ V=>?_;obtain⟨c,f,key,D,b,G,r2,o,q⟩:=k v F1 e B r f;apply V;exact⟨c,f,_,D,v,b,W,G,r2,o,q D e (Step.refl G)⟩⟩
noncomputable def kD:Key->Dat
 |.inl i=>.int i
 |.inr x=>.str x
def acm(y:O T)(f:aV):Dat->g_
 |.exc c g k=>if c∈y/\g=f then Y (kD k,J)else L
 |_=>L
def Ex.Jp(g:O T)(f:aV)(a:Ex):Ex:=⟨a.fv,λC b=>(bA C a b).bind λx=>acm g f x.1⟩
def Xm(O':∀c∈cs,E2 X.K c f=U)(he:SE X C a xa)(hb:f9 a f X.env (eval a X.env)=eval a X.env):SE X C (.Attribute a f pos) (.Jp cs f xa):=
 PE.imp ((show PE X (.Attribute a f _) (λB H Q=>(gE _ C xa) B H λv O'=>∃e c A k,v=.ref e/\O' e=Y (.ext (XO e c A))/\O' A=Y (.xd [(f,kV k)])/\E2 X.K c f=U/\Q (kV k) O') by
 intro h_ s B H Q I h;refine Attribute_any_ (jc (he h_ s B H _ I h) λu s1 y=>?_) (by rw[arm_eval_Attribute,hb]);refine ac λ_ z=>?_;obtain⟨x,O',i,m,e,c,A,k,rfl,n,o,hf,q⟩:=y;obtain rfl:u=bZ e:=m;obtain⟨p,r,j⟩:=i.hok A _ o;apply z;have b:=j f;rw[dP,e8]at b;clear o z j; obtain⟨hh,g,d,t,os⟩:=s1
 cases l:p f with
 |none=>rw[l]at b;exact bK b
 |some w=>
   rw[l]at b;exact QQ i.xE hf (i.hok e _ n).1 r.ns l (by
    cases k with
    |inl i=>obtain⟨t,rfl⟩:=b;rfl
    |inr x=>obtain⟨t,rfl⟩:=b;rfl) ⟨_,O',i.tok _,b,q⟩)) λB H Q y=>by
  refine ac λ_ z=>?_;obtain⟨G,d,fr,h,F,g,R,k⟩:=y
  obtain⟨⟨M,i⟩,h3,N⟩:=bX h
  apply z;clear z; cases M with
  |exc c D b=>
    have e:(if c∈cs/\D=f then Y (kD b,J)else L)=Y _:=N;clear N h;by_cases E:c∈cs/\D=f
    .rw[cb E]at e;refine ac λ_ P=>?_;cases e;obtain⟨E,rfl⟩:=E;apply P;refine⟨G,_,i,h3,F,g,R,λv F1 j S r _=>?_⟩;refine ac λ_ P=>?_;obtain⟨p,A,rfl,l,m⟩:=r;apply P;exact⟨p,c,A,b,W,S.good.sub _ _ l,S.good.sub _ _ m,O' c E,k _ F1 j S (by cases b<;>rfl) bx⟩
    simp_all
  |_=>cases N
end
def O2(h:IS d=Y o):∃c f k,d=.exc c f k/\o=.xc c f k:=by
 cases d with
 |exc c f k=>cases h;exact⟨c,f,k,W,W⟩
 |_=>cases h
section
variable{X:Cx}{st:fP}
set_option tactic.hygienic true in
def E3{j n:T}{xs:O Ex}{D:Ends}{B:St}{H I F:Hp}{y:HZ}{ρ:dN}{out:Out}{Q:VK}{mk:Dat×cc->Out}(c3:Z xs=n)(h:(match bA C (.call j xs) (full ρ)with|some x=>Y (mk x)|none=>(bA C (.call (j+vt) xs) (full ρ)).bind λx=>IS x.1)=Y out)(R:Rl X.K I y F H B ρ)(k:rm X.K I y F D EE out)
  (e0:∀d fr,out=mk (d,fr)->∀v O' S P,cz F O'->Rl X.K I y O' H B (rX ρ)->Step O' H S P->Rep X.K S d v->(fr=U->ik X.K H P d v)->Q v P) :
  Ml (Qi X.K n (C j) (C (j+vt))) [] EE (gA X.K C xs) B H Q:=by
 obtain⟨O',N,i⟩:=R.hZ;have b:∀(g:T)(d:Dat)(fr:cc),bA C (.call g xs) (full ρ)=Y _->∃t,mW C xs _=Y t/\C g t=Y (d,fr):=λg d fr h=>bX h;split at h
 .rename_i x w;refine ac λ_ G=>?_;obtain⟨d,fr⟩:=x;cases h;obtain⟨t,u,A⟩:=b j d fr w;apply G;refine⟨_,t,u,O',i.step.good,i.full,λvs F1 o a l=>?_⟩;show Qi _ _ _ _ _ o _ _;rw[aW];exact⟨by rw[l.length,jJ u,c3],.inl ⟨t,d,fr,A,F1,a.good,l,λv p E e r s=>e0 d fr W v O' p E N i (a.trans e) r λz=>(s z).back (F:=O') a.hh⟩⟩
 .refine ac λ_ G=>?_;clear R e0 N; obtain⟨⟨d,fr⟩,w,h⟩:=bX h;obtain⟨c,f,m,M,rfl⟩:=O2 h;obtain rfl:d=.exc c f m:=M;obtain⟨t,u,A⟩:=b _ _ fr w;apply G;refine⟨_,t,u,O',i.step.good,i.full,λvs F1 o a l=>?_⟩;show Qi _ _ _ _ _ o _ _;rw[aW];exact⟨by rw[l.length,jJ u,c3],.inr ⟨t,c,f,m,fr,A,F1,a.good,l,λp E V e q=>k p E V (i.step.trans (a.trans e)) q⟩⟩
end
section
variable{K:Fg}{base:bP}
set_option tactic.hygienic true in
def Y9{st:fP}(F:Z2 K x qual st f fd)(S:mG N B (br st))(c3:Z B<=Z N)
  (O':∀(y:ai)(A:bJ)(outer:O B6)(s:aj)(H:Hp)(E:XK),i5 k (A.deeper (fe qual (br st) s.heap.objs.size f y))->
   BI (kQ (vF P w) P w K mg base N qual (br st) f y A outer s H E) C E (jQ st) body) :
  jt P w K mg base (vF P w) (k+1) f fd B (Qi K B.length (KS C B.length N.length body) (KR C B.length N.length body)):=by
 refine ac λ_ v=>?_;obtain⟨oc,od,kV,X,pm,an,y,ct,osl,rfl,j,b⟩:=F.ex;apply v;refine OS j b S (λvs H Q E h=>h.1) λA outer s H vs Q E l h=>⟨_,O' _ A _ s H E l,?_⟩
 obtain⟨I,h|h⟩:=h
 .obtain⟨z,d,fr,q,t,g,r,a⟩:=h;unfold KS at q;split at q
  .rename_i i;obtain⟨o,u,q⟩:=bX q;refine⟨t,_,t,_,o,u,CJ g r I i c3,?_⟩
   clear c3 I g r i u; cases o with
   |nx D=>refine ac λ_ v=>?_;cases q;apply v;exact λG M m V R=>a _ G M R.step W bx
   |rt d2 p=>cases q;exact a
   |_=>cases q
  .cases q
 .obtain⟨z,c,fl,n,fr,q,t,g,r,a⟩:=h;unfold KR at q;split at q
  .rename_i i;obtain⟨o,u,q⟩:=bX q;refine⟨t,_,t,_,o,u,CJ g r I i c3,?_⟩
   clear c3 I g r i u; cases o with
   |xc c f e=>cases q;exact a
   |_=>cases q
  .cases q
def _root_.L2.jt.calm(F:jt P w K y base (vF P w) k f fd B (Qi K n g g')):jt P w K y base sJ k f fd B (Qj K n g):=
 ⟨λd H Q E h=>F.len d H Q E0 ⟨h.1,.inl h.2⟩,λA outer s H args i d Q E b c j hv h=>iQ (F.run A _ s H _ i d Q E0 b c j hv ⟨h.1,.inl h.2⟩) λr m a=>by
  cases r with
  |error e=>
    refine ac λ_ o=>?_;obtain⟨_,_,_,_,_,_,_,_,_,z⟩:=a;apply o;exact bK z
  |ok l=>cases l<;>exact a⟩
end
noncomputable def Wm(y m:T)(ok:O T)(ρ:dN)(fr:cc):Dat->a5 Out
 |.exc c f k=>if c∈ok/\fr=U then Y (.nx ((ρ.set y (Y (.exc c f k,U))).set m L))else L
 |_=>L
def Sx.Wn(i j:T)(xs:O Ex)(y m:T)(ok:O T):Sx:={ ex:=λC a=>match zX C (.call j xs) a with
 |some x=>if i=0\/y=0 then L else Y (.nx (x.2.2.set i (Y (x.1,x.2.1 && !im x.1))))
 |none=>if i=0\/y=0 then L else(zX C (.call (j+vt) xs) a).bind λx=>Wm y m ok x.2.2 x.2.1 x.1 }
section
variable{K:Fg}
end
section
variable{X:Cx}{xs:O Ex}
set_option tactic.hygienic true in
def Me(O':m≠y)(c3:Z xs=n)(hok:∀c∈ok,iJ X.K (.ref c) (.ref CD)=Y U) :
  ∀D σ H,gS X.K C EE (.Wn i j xs y m ok) D σ H->aar X.K (Qi X.K n (C j) (C (j+vt))) CD i y m (gA X.K C xs) D σ H:=λD σ H M=>by
 refine ac λ_ kq=>?_;obtain⟨Fz,H₀,F,ρ,out,h,R,k⟩:=M;apply kq;have s:∀(g:T)(e:iO)(d:Dat)(fr:cc),bA C (.call g xs) e=Y _->∃ds,mW C xs e=Y ds/\C g ds=Y (d,fr):=λg e d fr h=>bX h;have h:(match zX C _ ρ with|some x=>if i=0\/y=0 then L else Y (Out.nx (x.2.2.set i (Y (x.1,x.2.1 && !im _))))|none=>if i=0\/y=0 then L else(zX C (.call _ xs) ρ).bind λx=>Wm y m ok ..)=Y _:=h;split at h
 .rename_i x h1;obtain⟨d,fr,ρ'⟩:=x;split at h
  .cases h
  rename_i h0;cases h;obtain⟨e,e1,E,ge,G,ke⟩:=uk (X:=X) (D:=D) (i:=i) (λz=>h0 (.inl z)) R h1 k;obtain⟨ds,e2,e3⟩:=s j e d fr e1;refine⟨e,ds,e2,E,ge,G,λvs F1 N p w=>⟨by rw[w.length,jJ e2,c3],.inl ⟨ds,d,fr,e3,F1,p.good,w,λv I H2 r P Q=>?_⟩⟩⟩;exact ke v I H2 (p.trans r) P λz=>(Q z).back (F:=E) p.hh
 .split at h
  .cases h
  rename_i h0;obtain⟨⟨d,fr,ρ'⟩,h1,h⟩:=bX h
  cases d with
  |exc c f l=>
    have J':(if c∈ok/\fr=U then Y (Out.nx ((ρ'.set y (Y _)).set m L))else L)=Y _:=h;clear h;split at J'
    .rename_i hc;refine ac λ_ kq=>?_;obtain⟨hc,rfl⟩:=hc;cases J';have k2:rm _ Fz _ F { D with nx:=λt H'=>D.nx (t.set m L) H' } EE (.nx (ρ'.set y (Y _))):=λF' H' t s' S=>k F' H' _ s' S.Hu;obtain⟨e,e1,E,ge,G,ke⟩:=uk (X:=X) (D:={ D with nx:=λt H'=>D.nx _ H' }) (i:=y) (λz=>h0 (.inr z)) R h1 k2;obtain⟨ds,e2,e3⟩:=s _ e _ _ e1;apply kq;refine⟨e,ds,e2,E,ge,G,λvs F1 N p w=>⟨by rw[w.length,jJ e2,c3],.inr ⟨ds,c,f,l,_,e3,F1,p.good,w,λI H2 dx r A=>?_⟩⟩⟩;refine⟨c,dx,W,W,hok c hc,λa ha=>?_⟩;have u:a≠dx:=λz=>by subst z;rw[bN]at ha;cases ha
     have B:=(r.trans (Step.alloc (o:=.xd [(f,kV l)]) r.good A))
     have q:=ke _ _ _ (p.trans (B.trans (Step.alloc (o:=.ext (XO a c dx)) B.good ha))) ⟨a,dx,W,bN,(by rw[cA u.symm,bN])⟩ λ_=>⟨_,by simp[u],λb hb=>?_,a,dx,W,bN,(by rw[cA u.symm,bN]),W⟩
     .have es:((σ.set m (Y (V.ref a))).set y (Y (.ref a))).set m L=(σ.set y (Y (.ref a))).set m L:=by
       rw[List.set_comm _ _ O',List.set_set]
      simp_all
     .rcases ak.mp hb with rfl|hb
      .exact(p.trans r).hh.free (by rwa[cA u]at ha)
      .rw[ax.mp hb];exact(p.trans r).hh.free A
    .cases J'
  |_=>cases h
end
end M
namespace L2
section
variable{X:Cx}{f:aD}{D:aV}{e:aZ}{t:TA}
def P4(X:Cx)(hs:O vL)(b:O fP)(t:TS):Prop:=∀(g:O (aD×lO))(s:aj)(h:St)(H:Hp)(D:Ends),Inv X g h H s->t D h H->
 aw (aq X.prog X.w) X.A (j_ b X.env) (λf d=>match f with | .next=>aw (aq X.prog X.w) X.A (j_ [] X.env) (SP X g D) X.xe d|f=>SP X g D f d)
  (λe d=>aw (aq X.prog X.w) X.A (hY e X.env) (λ_ a=>aw (aq X.prog X.w) X.A (h9 e L) (λ_ c=>aw (aq X.prog X.w) X.A (handleBy e X.env hs) (SP X g D) X.xe c) X.xe a) X.xe d) s
def P4.imp{t:TS}(h:P4 X hs b t)(g:∀D y H,u D y H->t D y H):P4 X hs b u:=λa s y H D I z=>h a s y H D I (g _ _ _ z)
def Xz{t:TS}(y:PT X.j3 c B)(ha:P4 X hs a t)(C:P4 X hs b u):P4 X hs [.If c a b pos] (Wp B t u):=λl s m H D I h=>by
 have fin:∀{b:O fP}{s1:aj}{g:ai->aj->Prop}{Q:Flow->aj->Prop},aw (aq X.prog X.w) X.A (j_ b X.env) Q g s1->aw (aq X.prog X.w) X.A (j_ b X.env) (λf n=>match f with | .next=>aw (aq X.prog X.w) X.A (j_ [] X.env) Q g n|f=>Q f n) g s1:=λh=>bC h (λf n q=>by
  cases f with
  |next=>exact jP q
  |_=>exact q) λ_ _ z=>z
 refine qM (wpAny_If (bC (y l s m H _ (I.oZ _) h) (λd s1 q=>?_) λ_ _ z=>bK z));obtain⟨i,j,k⟩:=q
 cases d with
 |true=>exact fin (ha l s1 m i D j.iY k)
 |false=>exact fin (C l s1 m i D j.iY k)
def M3(hN:X.N.Nodup)(O':X.stack=X.env::X.outer)(c3:X.env.frame=Y X.env.locals)(e0:Gl X D)(hmD:X.mg D=Y (.ref CD))(hdD:(D == ("__debug__":aV))=J)
  (hi:X.N[i]?=Y x)(hli:Loc X.env.scope x)(hfi:X.fn x=U\/X.env.scope.names.lookup x=Y .local)
  (hm:X.N[m]?=Y n)(hlm:X.env.scope.names.lookup n=Y .local)(hj:X.N[j]?=Y y)(hlj:Loc X.env.scope y)(hfn:X.fn y=U\/X.env.scope.names.lookup y=Y .local)(hn1:(n == ("__debug__":aV))=J)(hn2:(n == ("__classdict__":aV))=J)
  (F:jt X.prog X.w X.K X.mg X.base (vF X.prog X.w) k f fd ps sp)(hr:i5 k X.A)(hg:Gl X fn)(hmf:X.mg fn=Y (.ref f))(hk:dJ X.K (.ref f)=U)(hb:Binds X.K fd ps [])(hdb:(fn == ("__debug__":aV))=J)
  (ha:PA X.j3 (e::es) t)(he:aN (e::es) X.env=(J,eval e X.env)::aN es X.env)(hpl:(eI cpos (aN es X.env)).any (·.1)=J) :
  P4 X [.ExceptHandler (Y (.Name D dp)) (Y n) [.Assign [.Name y py] (.Name n np) ypos] hpos] [.Assign [.Name x px] (.Call (.Name fn p) (e::es) [] cpos) apos] (aar X.K sp CD i j m t):=by
 intro h_ s σ H Q I h;refine qM (hM (eV (qH I hg hmf ?_ hdb)) W);refine ER (h₀:=X.base) I.ok.mod.kin hk (bC (ha _ h_ s σ H _ (I.oZ _) h) (λus s1 L'=>?_) λ_ _ z=>bK z) he hpl;obtain⟨vs,E,b,r,q⟩:=L';refine⟨b.iY.xE,?_⟩;have b:=b.iY;have hl:Z us=Z ps:=by rw[<-r.length];exact F.len _ _ _ _ q
 have c:=hb s1 us b.xE (by rwa[aW]);rw[aW]at c;refine rH (iQ (F.run _ _ s1 E _ us vs _ _ hr b.Zh c r q) λr s' d=>?_)
 cases r with
 |error e=>
   refine ac λ_ kq=>?_;obtain⟨a,C,dx,H2,B,rfl,ho,g,o,R,G,e1,e2,J',l⟩:=d;cases e1;cases e2;apply kq;have ν:=(l a o.fr);rw[O']at o;refine HY (by rw[b.ok.frames,O']) c3 o.fly λh2 η p=>?_;refine vZ η λh3 r t=>?_;have c:=o.step r (p.trans t);have i:Inv X h_ σ (upd H2 a _) { s' with heap:=h3 }:=Flt.inv b (by rwa[O']) ho g;refine yS J' (qH (i.VG _) e0 hmD ⟨W,i.xE,let ⟨oe,_,z1,z2,_⟩:=c.fly.there;⟨oe,z1,z2⟩,?_⟩ hdD);refine vZ c.fly λx μ G=>?_;have θ:=c.step μ G;refine qg (Flt.inv b (by rwa[O']) ho g) hN hm (.inl hlm) (v:=.ref a) W (λM P=>?_) (.inr hlm)
   have f:(σ.set m (Y (V.ref a)))[m]?=Y (Y (.ref a)):=by
    rw[fh (by rw[b.len];exact(aM.mp hm).1)]
   have ps:yY (X.VG (.ref a)) [.Assign [.Name y py] (.Name n np) ypos] _:=HH (M6 hN hj hlj (mr hm (.inl hlm) hn1 hn2) W hfn);refine bC (ps h_ M _ _ { nx:=λι k=>ι=(σ.set m (Y _)).set j (Y _)/\k=upd H2 a (.ext _),rt:=λ_ _=>False } (P.VG _) ⟨_,f,W,W⟩) (λfl δ z=>?_) λ_ _ z=>bK z
   .cases fl with
    |next=>
      refine ac λ_ kq=>?_;obtain⟨ι,k,d,rfl,rfl⟩:=z;have d:=d.adK b.ok;obtain⟨R,ε,_⟩:=id d.loc;apply kq;exact wpAny_nameGoes_keeps hlm ε (by rw[b.ok.kind];rfl) λS v ζ h=>⟨_,_,by
       refine ac λ_ kq=>?_;clear hlm; obtain⟨m0,α,hl⟩:=id d.loc;obtain⟨G,_,_,i,_⟩:=id ε
       apply kq; have t:m0=R:=by
        obtain⟨θ,A,B,K,L',_,M⟩:=id α
        grind
       have a:∀ι η,X.s₀.heap.get? ι=Y η->ι≠X.env.locals:=λι η e=>a7 (aQ (hl9 e) d.ok.above);have cellK:∀x c,X.env.cells.lookup x=Y c->∀v,δ.heap.IsCell c v->S.IsCell c v:=λx c e v U'=>by obtain⟨η,ho,hd⟩:=U';exact ⟨η,(h.2 c (d.VU x c e)).trans ho,hd⟩
       refine⟨d.ok,d.os,d.bare,⟨λι η e n hb f=>((h.2 ι (a ι η e)).trans (d.base.keep ι η e n hb f)),λι η e n hb f=>?_,d.base.free,λι η e f=>?_,d.base.tups,d.base.frzs⟩,⟨_,ζ,λj y C e1 e2 e3=>?_⟩,λy c e=>?_,d.free,d.freeC,λp hp=>?_,λι D e=>((d.hok ι D e).nj λw ν=>(h.2 ι λz=>by rw[z,d.free]at e;cases e).trans ν),by simpa using d.len⟩
       .obtain⟨sl,e1⟩:=d.base.slot ι η e n hb f;exact⟨sl,(h.2 ι (a ι η e)).trans e1⟩
       .obtain⟨o',e1⟩:=d.base.there ι η e f;exact⟨o',(h.2 ι (a ι η e)).trans e1⟩
       .have β:m≠j:=λz=>by
         subst z;rw[om]at e2
         simp_all
        rw[dc β]at e2
        have μ:y≠n:=λz=>by
         subst z;exact β ((jE (aM.mp hm).1 hN).mp (hm.trans e1.symm))
        obtain⟨u,r,κ⟩:=hl j y C e1 e2 e3;refine⟨u,r,?_⟩
        rcases κ with⟨o,P⟩|⟨k,c,e,z⟩
        .exact .inl ⟨o,by simp_all⟩
        .exact .inr ⟨k,c,e,cellK y c e _ z⟩
       .obtain⟨v,z⟩:=d.cell y c e;exact⟨v,cellK y c e v z⟩
       .obtain⟨e,n,ne,nf,γ⟩:=d.pin p hp;exact⟨(h.2 _ ne).trans e,n,ne,nf,γ⟩,ν⟩
    |brk=>obtain⟨_,_,_,z⟩:=z;exact bK z
    |cont=>obtain⟨_,_,_,z⟩:=z;exact bK z
    |ret u=>obtain⟨_,_,_,_,_,z⟩:=z;exact bK z
 |ok fl=>
   cases fl with
   |ret u=>
     refine ac λ_ kq=>?_;obtain⟨v,H2,L',M,l⟩:=b.after d;apply kq;exact qg L' hN hi hli M (λs3 P=>jP (jP ⟨_,_,P,l⟩)) hfi
   |next=>exact bK d
   |brk=>exact bK d
   |cont=>exact bK d
end
end L2
namespace M
open L2
structure Xg where
 exc:O (aV×T×aV)
 cls:O (aV×O (T×cc))
 Jp:O (aV×O T)
 hnd:O (aV×O T)
 rai:O aV
structure Sg where
 fns:O (aV×T)
 con:O (aV×Dat)
 x:Xg
structure Sc where
 N:O aV
 nm:O (aV×mj)
 top:cc
noncomputable def mY:O aV:=["len","range","zip","all","any","isinstance","list","tuple","reversed","int","bool","str","sorted","set","min","max","enumerate","sum","dict","abs"]
noncomputable def nu(x:aV):O aV->a5 T
 |[]=>L
 |y::r=>if y=x then Y 0 else(nu x r).map (·+ 1)
set_option tactic.hygienic true
theorem eK:∀{N:O aV}{i:T},nu x N=Y i->N[i]?=Y x
 |[],_,h=>by cases h
 |y::r,i,h=>by
   have h:(if y=x then Y 0 else(nu x r).map (·+ 1))=Y i:=h;split at h
   .cases h;rename_i e;subst e;rfl
   .obtain⟨j,a,rfl⟩:=dY h;exact(fU ..).trans (eK a)
noncomputable def Bn(x:aV):T->O (aV×T)->a5 (T×T)
 |_,[]=>L
 |k,y::r=>if y.1=x then Y (k,y.2)else Bn x (k+1) r
theorem qp:∀{L':O (aV×T)}{k j n:T},Bn x k L'=Y (j,n)->∃i,j=k+i/\L'[i]?=Y (x,n)
 |[],_,_,_,h=>by cases h
 |y::r,k,j,n,h=>by
   have h:(if y.1=x then Y (k,y.2)else Bn x (k+1) r)=Y (j,n):=h;split at h
   .cases h;rename_i e;clear h; subst e;exact⟨0,W,W⟩
   .obtain⟨i,a,b⟩:=qp h;exact⟨i+1,aI (jj (af a)) (jj (af a.symm)),(fU ..).trans b⟩
set_option tactic.hygienic false
noncomputable def g9(x:aV):cc:=!(x == ("__debug__":aV)) && !(x == ("__classdict__":aV)) && !(x == ("__name__":aV))
noncomputable def ac7:a5 mj->cc
 |some .local=>U
 |some .cell=>U
 |some .free=>U
 |_=>J
noncomputable def adZ:a5 mj->cc
 |some .local=>U
 |some .cell=>U
 |_=>J
def vv(S:Sc)(x:aV):cc:=ac7 (S.nm.lookup x)
def vA(S:Sc)(x:aV):cc:=adZ (S.nm.lookup x)
noncomputable def BY(S:Sc)(x:aV):cc:=S.nm.lookup x == Y .globalImplicit
noncomputable def dM:aZ->cc
 |.Starred _ _=>J
 |_=>U
noncomputable def uy:aZ->cc
 |.Set _ _ _=>J
 |_=>U
noncomputable def pO:aZ->cc
 |.IfExp _ _ _ _=>J
 |_=>U
noncomputable def ZF:ET->a5 Bop
 |.Add=>Y .add
 |.Sub=>Y .sub
 |.Mult=>Y .mul
 |.Mod=>Y .mod
 |.RShift=>Y .shr
 |.LShift=>Y .shl
 |.BitAnd=>Y .band
 |.BitOr=>Y .bor
 |_=>L
noncomputable def ace:CmpOp->a5 Cop
 |.Eq=>Y .eq
 |.NotEq=>Y .ne
 |.Lt=>Y .lt
 |.Gt=>Y .gt
 |.Is=>Y .isn
 |.IsNot=>Y .nisn
 |.In=>Y .isin
 |.NotIn=>Y .nin
 |_=>L
noncomputable def cTy(x:aV):a5 Ty:=
 if x="int" then Y .int else if x="bool" then Y .bool else if x="str" then Y .str else if x="tuple" then Y .tuple else if x="list" then Y .list else L
noncomputable def ZE(x:aV):a5 Blt:=
 if x="len" then Y .len else if x="tuple" then Y .tuple else if x="any" then Y .any else if x="int" then Y .int else if x="str" then Y .str else if x="sorted" then Y .sorted else L
noncomputable def CM(S:Sc)(g:n9):O (aV×mj):=g.names.map λp=>if(p.2 == eR && S.nm.lookup p.1 == Y .cell)then(p.1,nF)else p
noncomputable def i4:aZ->a5 aV
 |.Name x _=>Y x
 |_=>L
def eA(h:i4 e=Y x):∃p,e=.Name x p:=by
 unfold i4 at h;split at h
 .cases h;exact⟨_,W⟩
 .cases h
def namesOf:O aZ->a5 (O aV)
 |[]=>Y []
 |e::r=>(i4 e).bind λt=>(namesOf r).map λa=>t::a
def qA:aZ->a5 (cc×O aV)
 |.Name t _=>Y (U,[t])
 |.Tuple a _ _=>(namesOf a).map λb=>(J,b)
 |_=>L
noncomputable def freeOf(g:n9):O aV:=g.names.filterMap λp=>if p.2=.free then Y p.1 else L
def vg(N:O aV):O aV->a5 (O T)
 |[]=>Y []
 |x::r=>(nu x N).bind λi=>(vg N r).map λa=>i::a
noncomputable def Pn(S:Sc)(g:n9)(B C:O aV):cc:=
 decide (g.kind=.function) && g.names.all (λy=>!decide (y.2=.cell)) && g.names.all (λy=>!decide (y.2=.local) || decide (g.names.lookup y.1=Y .local))
  && g.names.all (λy=>!decide (y.2=.free) || decide (S.nm.lookup y.1=Y .cell) || decide (S.nm.lookup y.1=Y .free))
  && C.all (λx=>(decide (S.nm.lookup x=Y .cell) || decide (S.nm.lookup x=Y .free)) && decide (g.names.lookup x=Y .free))
  && decide (B++C).Nodup && B.all λx=>decide (g.names.lookup x=Y .local)
def inner(S:Sc)(g:n9)(y B:O aV):Sc:=⟨y++B,CM S g,J⟩
noncomputable def DL(f:Ex->Ex->Ex):O Ex->a5 Ex
 |[]=>L
 | x::r=>match r with
   |[]=>Y x
   |_::_=>(DL f r).map (f x)
def tu(f:aZ->a5 Ex):O aZ->a5 (O Ex)
 |[]=>Y []
 |e::r=>if dM e=U then(f e).bind λx=>(tu f r).map λa=>x::a else L
noncomputable def jI{α:Type}:O α->a5 α
 |[]=>L
 |a::r=>if r.isEmpty=U then Y a else L
def eY (h:jI l=Y a):l=[a]:=by
 match l,h with
 |[b],h=>cases h;rfl
def C0{α:Type}:O α->a5 (α×α)
 |[]=>L
 |a::r=>(jI r).map λb=>(a,b)
def tm (h:C0 l=Y p):l=[p.1,p.2]:=by
 cases l with
 |nil=>cases h
 |cons a r=>
   obtain⟨b,c,rfl⟩:=dY h;rw[eY c]
structure Ca where
 fn:aZ
 args:O aZ
 kws:O kx
 pos:rJ
noncomputable def Uy:aZ->a5 Ca
 |.Call b args a p=>Y ⟨b,args,a,p⟩
 |_=>L
def BC(h:Uy e=Y c):e=.Call c.fn c.args c.kws c.pos:=by
 unfold Uy at h;split at h
 .cases h;rfl
 .cases h
def se(e:aZ):a5 (aV×O aZ):=(Uy e).bind λc=>if c.kws.isEmpty=U then(i4 c.fn).map λx=>(x,c.args)else L
def mK(h:se e=Y (x,args)):∃p q,e=.Call (.Name x p) args [] q:=by
 obtain⟨⟨i,as,c,q⟩,d,b⟩:=bX h;clear h; obtain rfl:=BC d;split at b
 .rename_i j;obtain⟨y,f,g⟩:=dY b;clear b; cases g;obtain⟨p,a⟩:=eA f
  grind
 .cases b
noncomputable def isTup:aZ->cc
 |.Tuple _ _ _=>U
 |_=>J
def Ds(h:isTup e=U):∃es k p,e=.Tuple es k p:=by
 unfold isTup at h;split at h
 .exact⟨_,_,_,W⟩
 .cases h
def Vv{α:Type}:O α->a5 (α×α×α)
 |[]=>L
 |a::r=>(C0 r).map λb=>(a,b)
def aca(S:Sc)(f:aZ->a5 Ex)(tg:aZ)(x:aV)(args:O aZ):a5 Iw:=
 if BY S x=U then(tu f args).bind λb=>
  if x="range" then(match jI b with
   |some a=>Y (.rng [a])
   |none=>(Vv b).map λt=>.rng [t.1,t.2.1,t.2.2])
  else if(decide (x="zip") && isTup tg)=U then(C0 b).map λp=>.zip [p.1,p.2]
  else if(decide (x="enumerate") && isTup tg)=U then(jI b).map .enu else if x="reversed" then(jI b).map .rev else L
 else L
noncomputable def YZ(x:aV):cc:=decide (x="range") || decide (x="zip") || decide (x="enumerate") || decide (x="reversed")
def Oh(e:aZ):a5 (aV×O aZ):=(se e).bind λc=>if YZ c.1=U then Y c else L
def cI(S:Sc)(f:aZ->a5 Ex)(tg iter:aZ):a5 Iw:=match Oh iter with
 |some c=>aca S f tg c.1 c.2
 |none=>(f iter).map .itv
def aeu(f:aZ->a5 Ex):O aZ->a5 (O Ex)
 |[]=>Y []
 |c::r=>if(r.isEmpty && pO c)=U then(f c).map λx=>[x]else L
noncomputable def PC(f:aZ->a5 Ex):a5 aZ->a5 (a5 Ex)
 |none=>Y L
 |some e=>(f e).map Y
noncomputable def ZC:Const->a5 Dat
 |.int i=>Y (.int i)
 |.bool b=>Y (.bl b)
 |.none=>Y .non
 |.str x=>Y (.str x)
 |_=>L
def VX(G:Sg)(S:Sc)(x:aV):a5 Ex:=if g9 x=U then(if vv S x=U then(nu x S.N).map .v else if BY S x=U then(G.con.lookup x).map .con else L)else L
def cUn(f:aZ->a5 Ex)(a:aZ):UnaryOp->a5 Ex
 |.USub=>(f a).map .neg
 |.Not=>if pO a=U then(f a).map .not else L
 |_=>L
def ZD(f:aZ->a5 Ex)(es:O aZ):BoolOp->a5 Ex
 |.And=>(tu f es).bind (DL .and)
 |.Or=>(tu f es).bind (DL .or)
def V1(f:aZ->a5 Ex)(a:aZ)(O':O CmpOp)(bs:O aZ):a5 Ex:=(f a).bind λc=>match jI O' with
 |some e=>(jI bs).bind λb=>if uy b=U then(ace e).bind λo=>(f b).map λd=>.cmp o c d else L
 |none=>L
def PJ(f:aZ->a5 Ex)(g:O (a5 aZ))(y:O aZ):a5 Ex:=
 if(g.isEmpty && y.isEmpty)=U then Y .n6
 else L
noncomputable def kH:aZ->a5 (a5 aZ×a5 aZ×a5 aZ)
 |.Slice lo a b _=>Y (lo,a,b)
 |_=>L
def ab5(f:aZ->a5 Ex)(a b:aZ):a5 Ex:=(f a).bind λc=>match kH b with
 |some t=>if t.2.2.isNone=U then(PC f t.1).bind λd=>(PC f t.2.1).map λe=>.sl c d e else L
 |none=>(f b).map λg=>.ix c g
def VY(G:Sg)(S:Sc)(f:aZ->a5 Ex)(o:aZ)(m:aV)(g:rJ)(args:O aZ)(y:rJ):a5 Ex:=
 if(g.endLine == y.line)=U then(tu f args).bind λc=>if baseOk o=U then(f o).bind λa=>(Zx m args.length).map λb=>.iH b a c else L
 else L
def ZA(S:Sc)(f:aZ->a5 Ex)(args:O aZ):a5 Ex:=(C0 args).bind λp=>(i4 p.2).bind λt=>
 if(BY S "isinstance" && BY S t && dM p.1)=U then(cTy t).bind λty=>(f p.1).map λa=>.blt (.isi ty) [a]else L
def Zw(S:Sc)(f:aZ->a5 Ex)(x y:aV)(b:Blt)(args:O aZ):a5 Ex:=(jI args).bind λe=>(se e).bind λc=>if c.1=y then(jI c.2).bind λa=>
 if(BY S x && BY S y && dM a)=U then(f a).map λd=>.blt b [d]else L else L
def acd(G:Sg)(S:Sc)(x:aV)(xs:O Ex):a5 Ex:=
 if(g9 x && BY S x)=U then match Bn x 0 G.fns with
  |some a=>if Z xs=a.2 then Y (.call a.1 xs)else L
  | none=>match jI xs with
    |some c=>(ZE x).map λb=>.blt b [c]
    |none=>L
 else L
def acb(G:Sg)(S:Sc)(f:aZ->a5 Ex)(args:O aZ):a5 Ex:=(C0 args).bind λp=>(i4 p.2).bind λt=>
 if(BY S "isinstance" && BY S t && dM p.1 && g9 t)=U then(G.x.cls.lookup t).bind λb=>(f p.1).map λa=>.ED b a else L
def GO(G:Sg)(S:Sc)(f:aZ->a5 Ex)(x:aV)(args:O aZ):a5 Ex:=
 if x="isinstance" then(match ZA S f args with|some z=>Y z|none=>acb G S f args)else match(if x="sorted" then Zw S f "sorted" "set" .sset args else L)with
  |some z=>Y z
  |none=>(tu f args).bind (acd G S x)
noncomputable def yh:aZ->a5 (aZ×aV×rJ)
 |.Attribute o m a=>Y (o,m,a)
 |_=>L
def uM(h:yh e=Y t):e=.Attribute t.1 t.2.1 t.2.2:=by
 unfold yh at h;split at h
 .cases h;rfl
 .cases h
def Jl(G:Sg)(S:Sc)(f:aZ->a5 Ex)(g:aZ)(args:O aZ)(y:rJ):a5 Ex:=match yh g with
 |some t=>VY G S f t.1 t.2.1 t.2.2 args y
 |none=>(i4 g).bind λx=>GO G S f x args
structure Gn where
 tg:aZ
 it:aZ
 ifs:O aZ
def VM(O':O Comprehension):a5 Gn:=(jI O').bind λg=>if g.is_async=0 then Y ⟨g.target,g.iter,g.ifs⟩else L
def V0(S:Sc)(f:Sc->aZ->a5 Ex)(elt:aZ)(g:Gn)(y:n9):a5 Ex:=(qA g.tg).bind λt=>(vg S.N (freeOf y)).bind λa=>
 if(Pn S y t.2 (freeOf y) && uy g.it)=U then
  (cI S (f S) g.tg g.it).bind λb=>(aeu (f (inner S y t.2 (freeOf y))) g.ifs).bind λc=>(f (inner S y t.2 (freeOf y)) elt).map λd=>.comp t.2.length t.1 a b c d
 else L
noncomputable def Oq:aZ->cc
 |.List _ _=>U
 |.ListComp _ _ _ _=>U
 |_=>J
noncomputable def Ot:ET->cc
 |.Add=>U
 |_=>J
def KH(h:Ot op=U):op=.Add:=by cases op<;>first|rfl|cases h
def Ux(g:ET)(a b:aZ):cc:=Ot g && Oq a && Oq b
noncomputable def Oo:aZ->cc
 | .Constant c _ _=>match c with
   |.none=>U
   |_=>J
 |_=>J
def KG(h:Oo e=U):∃c p,e=.Constant .none c p:=by
 unfold Oo at h;split at h
 .split at h
  .exact⟨_,_,W⟩
  .cases h
 .cases h
def Zy(S:Sc)(f:aZ->a5 Ex)(y:aZ)(args:O aZ)(g:O kx):a5 Ex:=(i4 y).bind λx=>(jI args).bind λa=>(jI g).bind λk=>
 if(decide (x="min") && BY S x && dM a && Oo k.value && decide (k.arg=Y "default"))=U then(f a).map .mnd else L
def cE(G:Sg):T->Sc->aZ->a5 Ex
 |0,_,_=>L
 | n+1,S,e=>match e with
   |.Constant c _ _=>(ZC c).map .con
   |.Name x _=>VX G S x
   |.BinOp a j b _=>if Ux j a b=U then(cE G n S a).bind λd=>(cE G n S b).map λf=>.cat d f else(ZF j).bind λo=>(cE G n S a).bind λd=>(cE G n S b).map λf=>.bin o d f
   |.UnaryOp j a _=>cUn (cE G n S) a j
   |.BoolOp j k _=>if k.all pO=U then ZD (cE G n S) k j else L
   |.Compare a h bs _=>V1 (cE G n S) a h bs
   |.IfExp c a b _=>if pO c=U then(cE G n S c).bind λxc=>(cE G n S a).bind λd=>(cE G n S b).map λf=>.ite xc d f else L
   |.Tuple k _ _=>(tu (cE G n S) k).map .tup
   |.List k _=>(tu (cE G n S) k).map .lst
   |.Dict r t _=>PJ (cE G n S) r t
   |.Subscript a b _=>ab5 (cE G n S) a b
   |.Call q args l u=>if l.isEmpty=U then Jl G S (cE G n S) q args u else Zy S (cE G n S) q args l
   |.Attribute a m _=>if baseOk a=U then(G.x.Jp.lookup m).bind λw=>(cE G n S a).map λd=>.Jp w m d else L
   |.ListComp p i y _=>(VM i).bind λg=>V0 S (cE G n) p g y
   |_=>L
def CV(K:Fg)(d:Dat)(v:V):Prop:=(∀F,Rep K F d v)/\∀a,v=.ref a->∃o,K.lookup a=Y o/\o.cls=.type "tuple"/\o.dict=L
def P6(K:Fg)(y:aV->a5 ai)(x:aV)(g:O (T×cc)):Prop:=(∃C,y x=Y (.ref C)/\Eg K g (.ref C))\/∃T',y x=L/\dt x=Y (.type T')/\x≠"__name__"/\Eg K g (.type T')
structure oU(G:Sg)(C:Fs)(S:Sc)(X:Cx):Prop where
 N:X.N=S.N
 nm:X.env.scope.names=S.nm
 kind:X.env.scope.kind=.function
 calm:X.calm=U
 un:X.A.units+21<eC
 xe:X.xe=λ_ _=>False
 fn:S.top=U->∀x,X.fn x=U
 fns:∀(j:T)x n,G.fns[j]?=Y (x,n)->∃k f fd ps,(jt X.prog X.w X.K X.mg X.base sJ k f fd ps (Qj X.K n (C j))/\jt X.prog X.w X.K X.mg X.base sJ k f fd ps (WS X.K n (C (j+yP))))/\i5 k X.A/\X.mg x=Y (.ref f)/\dJ X.K (.ref f)=U/\Binds X.K fd ps []
 blt:∀x∈mY,X.mg x=L
 con:∀x d,G.con.lookup x=Y d->∃v u,X.mg x=Y u/\RelV v u/\CV X.K d v
 cls:∀x tab,G.x.cls.lookup x=Y tab->P6 X.K X.mg x tab
 Jp:∀f cs,G.x.Jp.lookup f=Y cs->∀c∈cs,E2 X.K c f=U
inductive Args (P:aZ->Ex->Prop):O aZ->O Ex->Prop
 |nil:Args P [] []
 |cons {e:aZ} {es:O aZ} {x:Ex} {xs:O Ex}:dM e=U->P e x->Args P es xs->Args P (e::es) (x::xs)
def bO (h:(if b=U then x else L)=Y y):b=U/\x=Y y:=by
 simp_all
section
variable{G:Sg}{C:Fs}{S:Sc}{X:Cx}{e:aZ}{x:aV}
def mF(T':oU G C S X)(h:vv S x=U):P1 X.env.scope x:=by
 unfold vv at h;unfold P1;rw[T'.nm]
 cases q:S.nm.lookup x with
 |none=>rw[q]at h;cases h
 |some k=>rw[q]at h;cases k<;>first|(simp;done)|cases h
def qF(T':oU G C S X)(h:vA S x=U):L2.Loc X.env.scope x:=by
 unfold vA at h;unfold L2.Loc;rw[T'.nm]
 cases q:S.nm.lookup x with
 |none=>rw[q]at h;cases h
 |some k=>rw[q]at h;cases k<;>first|(simp;done)|cases h
def jr(T':oU G C S X)(h:BY S x=U):Gl X x:=by
 unfold Gl uc;rw[T'.nm];exact beq_iff_eq.mp h
def eo(h:g9 x=U):(x == ("__debug__":aV))=J/\(x == ("__classdict__":aV))=J/\x≠"__name__":=by
 unfold g9 at h
 simp_all
def cj(h:dM e=U):aN (e::es) env=(J,eval e env)::aN es env:=by
 cases e<;>first|rfl|cases h
theorem lT:∀{es:O aZ},es.all dM=U->(eI pos (aN es env)).any (·.1)=J
 |[],_=>rfl
 |e::es,h=>by
   rw[eF,ah]at h;rw[cj h.1];have q:=lT (pos:=pos) (env:=env) h.2;unfold eI at q ⊢;rw[az,sQ,q];rfl
theorem j7(g:∀e x,f e=Y x->P e x):∀{es:O aZ}{xs:O Ex},tu f es=Y xs->Args P es xs
 |[],_,h=>by cases h;exact .nil
 |e::r,_,h=>by
   obtain⟨a,h⟩:=bO h;obtain⟨x,b,h⟩:=bX h;obtain⟨xs,c,rfl⟩:=dY h;exact .cons a (g _ _ b) (j7 g c)
def Args.sa{es:O aZ}{xs:O Ex}(g:Args (SE X C) es xs):SA X C es xs:=by
 induction g with
 |nil=>exact o6
 |cons a h _ r=>exact jw h r (cj a)
def Args.sf{es:O aZ}{xs:O Ex}(g:Args (SE X C) es xs):SF X C es xs:=by
 induction g with
 |nil=>exact MA
 |cons a h _ r=>exact Ht h r (cj a)
def Args.star{es:O aZ}{xs:O Ex}(g:Args P es xs):es.all dM=U:=by
 induction g with
 |nil=>rfl
 |cons a _ _ r=>rw[eF,a,r];rfl
def Args.len{es:O aZ}{xs:O Ex}(g:Args P es xs):Z xs=Z es:=by
 induction g with
 |nil=>rfl
 |cons _ _ _ r=>exact c7 (·+ 1) r
def Args.one(h:Args P es [z]):∃a,es=[a]/\dM a=U/\P a z:=by
 cases h with
 |cons s p r=>cases r;exact⟨_,W,s,p⟩
def Args.two(h:Args P es [z,w]):∃a b,es=[a,b]/\dM a=U/\dM b=U/\P a z/\P b w:=by
 cases h with
 |cons s p r=>
   obtain⟨b,rfl,d,c⟩:=r.one;exact⟨_,b,W,s,d,p,c⟩
def Args.three(h:Args P es [z,w,u]):∃a b c,es=[a,b,c]/\dM a=U/\dM b=U/\dM c=U/\P a z/\P b w/\P c u:=by
 cases h with
 |cons s p r=>
   refine ac λ_ e=>?_;obtain⟨b,c,rfl,g,s2,d,f⟩:=r.two;refine e ?_;exact⟨_,b,c,W,s,g,s2,p,d,f⟩
def UO(h:ZF op=Y o):kR X (ea op) (gB X.K (hJ o)):=by
 cases op<;>first|(cases h;first|exact So|exact Sa|exact Si|exact Sj|exact Sd|exact Se|exact Sn|exact XX)|cases h
def Jk(B:X.A.units+21<eC)(h:ace op=Y o):kR X (dk op) (gB X.K (tR o)):=by
 cases op<;>first|(cases h;first|exact X5 (aK B)|exact XY (aK B)|exact (show kR X (dk .Lt) (gB _ (tR _)) from Pp (abh λ_ _ _ _ _ _ _ q=>pH q) λ_ _ _=>gc9)|exact (show kR X (dk .Gt) (gB _ (tR _)) from Pp (abh λ_ _ _ _ _ _ _ q=>gt_int q) λ_ _ _=>gc9)|exact op_geD|exact Sk|exact Nv|exact X3 B|exact Sh B)|cases h
def NL(h:uy b=U):behindInMarks op b=J:=by
 cases b<;>first|rfl|cases h
def Z6(X:Cx)(C:Fs)(e:aZ)(x:Ex):Prop:=SE X C e x/\(pO e=U->ST X C e x)
def zW{x:Ex}(g:Args (Z6 X C) es xs):es.all pO=U->DL .and xs=Y x->SE X C (.BoolOp .And es pos) x/\SW X C (.BoolOp .And es pos) x:=by
 induction g generalizing x with
 |nil=>intro _ h;cases h
 |cons _ p e i=>
   intro n h;rw[eF,ah]at n;cases e with
   |nil=>cases h;exact⟨λf s j H Q I b=>BoolOp_one (p.1 f s j H Q I b),by
          intro b f s j H Q I h;refine isTrue_and (jc ((p.2 n.1) f s j H Q I h) λc s1 d=>?_)
          cases c with
          |true=>exact isTrue_and_nil d
          |false=>exact d⟩
   |cons s q r=>obtain⟨z,k,rfl⟩:=dY h;obtain⟨a,i2⟩:=i n.2 k;exact⟨Xn p.1 a,Wu (p.2 n.1) i2⟩
def DK{x:Ex}(g:Args (Z6 X C) es xs):es.all pO=U->DL .or xs=Y x->SE X C (.BoolOp .Or es pos) x/\SW X C (.BoolOp .Or es pos) x:=by
 induction g generalizing x with
 |nil=>intro _ h;cases h
 |cons _ p e i=>
   intro n h;rw[eF,ah]at n;cases e with
   |nil=>cases h;exact⟨λf s j H Q I b=>BoolOp_one (p.1 f s j H Q I b),by
          intro b f s j H Q I h;refine isTrue_or (jc ((p.2 n.1) f s j H Q I h) λc s1 d=>?_)
          cases c with
          |false=>exact isTrue_or_nil d
          |true=>exact d⟩
   |cons s q r=>obtain⟨z,k,rfl⟩:=dY h;obtain⟨a,i2⟩:=i n.2 k;exact⟨aaP p.1 a,aaA (p.2 n.1) i2⟩
set_option tactic.hygienic true
def RE(T':oU G C S X)(P:ZE x=Y bt)(hp:g9 x=U)(O':BY S x=U)(hs:dM e=U)(he:SE X C e xa):SE X C (.Call (.Name x p) [e] [] pos) (.blt bt [xa]):=by
 have B:aN _ X.env=(J,eval e _)::aN [] _:=cj hs;have ha:SA X C _ _:=jw he o6 B;obtain⟨d1,d2,d3⟩:=eo hp;have a:=jr T' O';unfold ZE at P;split at P
 .rename_i q;subst q;cases P;exact PE.imp (xj (λE s K H xs N Q I r h=>by
     refine ac λ_ M=>?_;obtain⟨D,d,fr,F,v,B,rfl,g,c,k⟩:=rT oG h
     apply M;clear h; cases D with
     |lst V=>
       cases B;obtain⟨p,R,rfl,t,e⟩:=c;refine tS E s K H _ N Q I r ⟨p,R,W,.inl (g.sub.seq t),?_⟩;rw[e.length];exact k _ F H (Step.refl g) W bx
     |tup V=>
       cases B;obtain⟨p,R,rfl,t,e⟩:=c;refine tS E s K H _ N Q I r ⟨p,R,W,.inr (t.mono g.sub).sq,?_⟩;rw[e.length];exact k _ F H (Step.refl g) W bx
     |str z=>
       simp only[jg,b1,ZO]at B;split at B
       .rename_i f;cases B;cases c;exact BA E s K H _ N Q I r ⟨z,W,f,k _ F H (Step.refl g) W bx⟩
       .cases B
     |dct ks V=>
       cases B;obtain⟨p,k_,rfl,i,rfl,l⟩:=c;obtain⟨u,rfl,j⟩:=vals1 r;clear r; cases j;refine ab0 I (.inl (g.sub _ _ i)) λt s' I'=>⟨.int _,H,I',⟨t,W⟩,?_⟩
       rw[((aE ..).symm)];exact k _ F H (Step.refl g) W bx
     |_=>cases B) a (T'.blt _ (by decide +kernel)) PySem.boot_len ha d3 d1 B W) (tV λρ b fr n=>bX n)
 split at P
 .rename_i q;refine ac λ_ M=>?_;subst q;cases P;apply M;exact AM (λE s K H xs N Q I r h=>by
   refine ac λ_ a=>?_;obtain⟨D,d,fr,F,v,B,rfl,g,e,k⟩:=rT oG h
   apply a;cases D with
   |lst V=>
     cases B;obtain⟨p,R,rfl,t,c⟩:=e;exact rp E s K H _ N Q I r ⟨p,R,W,.inl ⟨g.sub.seq t,λl hl=>k _ _ _ (Step.alloc g hl) ⟨l,R,W,.inl bN,c.mono (cz.upd (g.sub.free hl))⟩ bx⟩⟩
   |tup V=>
     cases B;obtain⟨p,R,rfl,t,c⟩:=e;exact rp E s K H _ N Q I r ⟨p,R,W,.inr ⟨(t.mono g.sub).sq,k _ F H (Step.refl g) ⟨p,R,W,t,c⟩ bx⟩⟩
   |_=>cases B) a (T'.blt _ (by decide +kernel)) (by decide +kernel) ha d3 d1 B W
 split at P
 .rename_i q;refine ac λ_ M=>?_;subst q;cases P;apply M;exact PE.imp (xj (λE s K H xs N Q I r h=>by
     refine ac λ_ a=>?_;obtain⟨D,d,fr,F,v,B,rfl,g,l,k⟩:=rT oG h
     apply a;cases D with
     |lst V=>
       refine ac λ_ a=>?_;obtain⟨bs,P,B⟩:=dY B;cases B;obtain⟨p,R,rfl,t,m⟩:=l;obtain⟨its,n,pl,_⟩:=I.lstR g t;obtain⟨u,rfl,o⟩:=vals1 r;cases o;apply a;have f:=Ad P m n;refine call_any_walk (pY pl.isList ?_)
       refine⟨_,_,_,_,_,_,λi=>(bs[i]?).getD J,W,Walks.list (A:=X.A.in1) (I.ok.hd T'.calm) _ p (a7 pl.lt) _,
        ⟨⟨_,aC _ W,W,W⟩,pl.isList.push _⟩,λi v s' Q' w q j=>?_,λh' x hk=>?_⟩
       .subst f;have c:(bs.map yF)[i]?=Y v:=by simpa using q
        rw[aS]at c
        cases hi:bs[i]? with
        |none=>simp_all
        |some b=>
          rw[hi]at c;cases c;simp only[hi,lK]at j;exact gp j
       .have e1:its.toArray.size=Z bs:=by rw[f];simp
        rw[e1,FH];exact⟨.bl _,H,I.kept (λb x e=>hk b x (λc=>absurd (hl9 e) (by simp_all)) (hp9 _ e)),W,k _ F H (Step.refl g) W bx⟩
     |_=>cases B) a (T'.blt _ (by decide +kernel)) (by decide +kernel) ha d3 d1 B W) (tV λρ y fr z=>bX z)
 split at P
 .rename_i q;subst q;cases P;exact AM (λE s K H xs N Q I r h=>by
   refine ac λ_ M=>?_;obtain⟨D,d,fr,F,v,B,rfl,g,c,k⟩:=rT oG h
   apply M;clear h; cases D with
   |int i=>
     cases B;cases c;exact K8 E s K H _ N Q I r (.inl ⟨i,W,k _ F H (Step.refl g) W bx⟩)
   |bl b=>
     cases B;cases c;obtain⟨u,rfl,e⟩:=vals1 r;cases e;exact call_int_bool ⟨.int _,H,I.tok _,⟨_,W⟩,k _ F H (Step.refl g) W bx⟩
   |str x=>
     simp only[jg,b1,ZO,acj,ZP,ack,ZN]at B;split at B
     .rename_i hl;obtain⟨i,h2,B⟩:=dY B;cases B;cases c;obtain⟨u,rfl,t,rfl⟩:=vals1 r;exact PySem.W.KIN.call_text h2 hl ⟨.int i,H,I.tok _,⟨_,W⟩,k _ F H (Step.refl g) W bx⟩
     .cases B
   |_=>cases B) a (T'.blt _ (by decide +kernel)) (by decide +kernel) ha d3 d1 B W
 split at P
 .rename_i q;subst q;cases P;exact AM (λE s K H xs N Q I r h=>by
   refine ac λ_ a=>?_;obtain⟨D,d,fr,F,v,B,rfl,g,c,k⟩:=rT oG h
   apply a;clear a h; cases D with
   |int i=>
     simp only[jg,b1,ZN]at B;split at B
     .rename_i hl;cases B;cases c;exact Bx E s K H _ N Q I r ⟨i,W,hl,k _ F H (Step.refl g) W bx⟩
     .cases B
   |_=>cases B) a (T'.blt _ (by decide +kernel)) (by decide +kernel) ha d3 d1 B W
 split at P
 .rename_i q;clear hp O' d2; subst q;cases P;exact PE.imp (xj (Bz T'.un T'.calm) a (T'.blt _ (by decide +kernel)) (by decide +kernel) ha d3 d1 B W) (tV λρ d fr h=>bX h)
 .cases P
def UM(T':oU G C S X)(ha:Args (SE X C) es xs)(h:acd G S x xs=Y z):SE X C (.Call (.Name x p) es [] pos) z:=by
 obtain⟨t,h⟩:=bO h;rw[ah]at t;obtain⟨d1,d2,d3⟩:=eo t.1
 cases a:Bn x 0 _ with
 |some l=>
   obtain⟨j,n⟩:=l;rw[a]at h;have h:(if Z xs=n then Y (Ex.call j xs)else L)=Y z:=h;split at h
   .rename_i c;cases h;obtain⟨i,E,v⟩:=qp a;obtain⟨k,f,D,ps,F,d,g,K,N⟩:=T'.fns i x n v;rw[fj]at E;subst E
    cases ha with
    |nil=>exact PE.imp (by intro h_ s w H Q I h;exact eV (qH I (jr T' t.2) g (PySem.W.callWith_K0 I.xE K (MP F.1 d N (.nil) Nr I .nil h)) d1)) λw H Q h=>by
            refine ac λ_ a=>?_;obtain⟨y,P,u,e,i,R,k⟩:=(tV (xs:=[]) (x:=.call j []) (λy b fr h=>bX h) w H Q h);cases u;apply a;exact⟨by rw[c.symm];rfl,k [] e H (Step.refl i) W⟩
    |cons A B r=>exact PE.imp (AV F.1 d (jr T' t.2) g K N .nil Nr (jw B r.sa (cj A)) d1 (cj A) (lT r.star)) λw H Q h=>by
                     refine ac λ_ i=>?_;obtain⟨y,P,u,l,o,R,k⟩:=(tV (x:=.call j _) (λy e fr h=>bX h) w H Q h);apply i;refine⟨y,P,u,l,o,R,λvs F1 b a q=>?_⟩;show Qj _ n _ _ b Q E0;rw[aW];exact⟨by rw[q.length,jJ u,c],k vs F1 b a q⟩
   .cases h
 |none=>
   rw[a]at h
   cases ho:jI xs with
   |some m=>
     obtain rfl:=eY ho;obtain⟨b,u,rfl⟩:=dY h;obtain⟨e,rfl,A,B⟩:=ha.one;exact RE T' u t.1 t.2 A B
   |none=>
     rw[ho]at h;cases h
def Zv(h:cTy t=Y ty):dt t=Y (.type (tyName ty))/\t∈mY/\(t == ("__debug__":aV))=J/\t≠"__name__":=by
 unfold cTy at h
 repeat' (split at h;(rename_i q;subst q;cases h;exact⟨by decide +kernel,by decide +kernel,by decide +kernel,by decide +kernel⟩))
 cases h
def VZ{iter:aZ}(T':oU G C S X)(hf:∀e x,f e=Y x->SE X C e x)(h:cI S f tg iter=Y it):SI X C tg iter it/\∀a,it=.itv a->SE X C iter a:=by
 unfold cI at h
 cases E:Oh _ with
 |none=>
   rw[E]at h;obtain⟨x,P,rfl⟩:=dY h;exact⟨WZ (hf _ _ P),λa z=>by cases z;exact hf _ _ P⟩
 |some c=>
   rw[E]at h;obtain⟨x,args⟩:=c;obtain⟨o,P,Q⟩:=bX E;obtain⟨_,Q⟩:=bO Q;obtain rfl:o=(x,args):=bh Q;obtain⟨p,q,rfl⟩:=mK P;obtain⟨r,h3⟩:=bO h;clear h P Q E;obtain⟨xs,m,g⟩:=bX h3;have ha:=j7 hf m;clear h3 m;have l:=jr T' r;split at g
   .rename_i e;subst e
    cases ho:jI xs with
    |some n=>
      rw[ho]at g;cases g;obtain rfl:=eY ho;obtain⟨a,rfl,N,he⟩:=ha.one;exact⟨Rt l (T'.blt _ (by decide +kernel)) (jw he o6 (cj N)) (cj N),λa z=>nomatch z⟩
    |none=>
      rw[ho]at g;refine ac λ_ t=>?_;obtain⟨p,i,rfl⟩:=dY g;clear g; obtain rfl:xs=[p.1,p.2.1,p.2.2]:=(by
       clear T' ha l t; cases xs with
       |nil=>cases i
       |cons a r=>
         obtain⟨b,P,rfl⟩:=dY i;rw[tm P]);obtain⟨a,b,c,rfl,N,d,j,he,hb,hc⟩:=ha.three;apply t;exact⟨Rr l (T'.blt _ (by decide +kernel)) (jw he (jw hb (jw hc o6 (cj j)) (cj d)) (cj N)) ((cj N).trans (c7 _ ((cj d).trans (c7 _ (cj j))))) ((cj d).trans (c7 _ (cj j))),λa z=>nomatch z⟩
   split at g
   .rename_i e;simp only[ah,c5]at e;obtain⟨rfl,ht⟩:=e;obtain⟨p,i,rfl⟩:=dY g;obtain rfl:=tm i;obtain⟨s,k,tp,rfl⟩:=Ds ht;obtain⟨a,b,rfl,N,d,he,hb⟩:=ha.two;exact⟨λh_ u σ H R I f=>by
     refine ac λ_ t=>?_;obtain⟨V,items,F,E,g,h,kk⟩:=f;obtain⟨ds,P,Q⟩:=bX E;clear E; obtain⟨x,ys,rfl,rfl⟩:=Wa Q;apply t;refine R6 l (T'.blt _ (by decide +kernel)) (jw he (jw hb o6 (cj d)) (cj N)) ((cj N).trans (c7 _ (cj d))) (cj d) h_ u σ H R I ⟨V,_,P,F,g,h,λvs F1 i st r=>?_⟩;refine ac λ_ t=>?_;obtain⟨v,w,rfl,j,n,o,rfl,z,M⟩:=r;cases M;cases j;obtain⟨m,c,rfl,e,y⟩:=z;apply t;exact⟨x,m,W,⟨c,TqK.up e (cz.refl _) st.good⟩,kk _ F1 i st (λF H g s=>by
      have n:yj U _ H m c:=TqK.up e s g;refine⟨λi d K=>?_,λi E=>⟨c,n,?_⟩⟩
      .rw[Cb,signs_get]at K
       cases D:x.cps[i]? with
       |none=>rw[D]at K;cases K
       |some c1=>
         cases e2:ys[i]? with
         |none=>simp_all
         |some d2=>
           rw[D,e2]at K;cases K;obtain⟨w,f,k⟩:=y.get e2;refine⟨⟨c1,c,w,D,n,f⟩,λv H' z=>?_⟩;obtain⟨T',h,rfl,d1,o,j,l,rfl⟩:=z;rw[D]at j;cases j;have m:=bh (f.symm.trans (l c n));clear n f l; subst m;refine⟨_,Step.alloc g h,⟨T',_,W,.inl bN,?_⟩⟩;exact⟨_,_,W,W,w,[],W,k.mono (s.trans (cz.upd (g.sub.free h))),W⟩
      .rw[B9]at E;simp only[fF,aE,bo]at E;rw[y.length]
       grind)⟩,λa z=>nomatch z⟩
   split at g
   case isFalse=>
    split at g
    .rename_i e;subst e;obtain⟨n,i,rfl⟩:=dY g;obtain rfl:=eY i;obtain⟨a,rfl,N,he⟩:=ha.one;exact⟨(show SI X C tg (.Call (.Name _ p) _ [] q) _ from λh_ s σ H R I z6=>by
      refine ac λ_ h=>?_;obtain⟨V,items,F,E,g,c,kk⟩:=z6;obtain⟨⟨d,fr⟩,P,Q⟩:=bX E
      apply h;cases d with
      |tup ds=>
        cases Q;refine XB l (T'.blt _ (by decide +kernel)) (jw he o6 (cj N)) (cj N) h_ s σ H R I ⟨V,[.tup ds],by simp only[mW,P,bS,cT],F,g,c,λvs F1 e st r=>?_⟩;refine ac λ_ h=>?_;obtain⟨v,w,rfl,⟨j,b,rfl,t,f⟩,M⟩:=r;cases M;apply h;exact⟨j,b,W,(t.mono st.good.sub).sq,kk _ F1 e st (λF H g s=>by
         have o:=((t.mono s).mono g.sub).sq;refine⟨λi d K=>?_,λi E=>?_⟩
         .have E:i<Z ds:=by
           by_cases z:i<Z ds
           .exact z
           .rw[gY (by simpa using z)]at K;cases K
          rw[EY E]at K;obtain⟨v,D,e2⟩:=f.get K;have hl:=f.length;refine⟨⟨aa E (af hl.symm),b,o,W⟩,λx H' y=>?_⟩;obtain⟨rfl,y⟩:=y;have:=y b o;rw[hl,D]at this;cases this;exact⟨F,Step.refl g,e2.mono s⟩
         .show (Z b)<=i;rw[f.length];simpa using E)⟩
      |_=>cases Q),λa z=>nomatch z⟩
    .cases g
   .rename_i e;simp only[ah,c5]at e;obtain⟨rfl,ht⟩:=e;obtain⟨s,k,tp,rfl⟩:=Ds ht;obtain⟨n,i,rfl⟩:=dY g;obtain rfl:=eY i;obtain⟨a,rfl,N,he⟩:=ha.one;exact⟨λh_ b σ H R I B=>by
     refine ac λ_ kq=>?_;obtain⟨V,items,F,E,g,j,kk⟩:=B;obtain⟨⟨d,fr⟩,P,Q⟩:=bX E;obtain⟨xs,h3,rfl⟩:=dY Q;apply kq;by_cases x:∃z,d=.str z
     .refine ac λ_ kq=>?_;obtain⟨z,rfl⟩:=x;cases h3;apply kq;refine aa7 l (T'.blt _ (by decide +kernel)) (jw he o6 (cj N)) (cj N) h_ b σ H R I ⟨V,[.str z],by simp only[mW,P,bS,cT],F,g,j,λvs F1 c st r=>?_⟩;obtain⟨v,w,rfl,f,M⟩:=r;cases M;cases f;exact⟨z,W,kk _ F1 c st (λF H g b=>by
       refine⟨λi d K=>?_,λi E=>?_⟩
       .rw[xX,aS,Qa]at K;obtain⟨c,hc,rfl⟩:=dY K;have e:z.cps[i]?=Y c:=by simpa using hc
        refine⟨((bq.mp e).1),λv H' y=>?_⟩;obtain⟨T',f,rfl,c2,Q,rfl⟩:=y;rw[e]at Q;cases Q;exact ⟨_,Step.alloc g f,⟨T',_,W,.inl bN,(⟨_,[.str _],W,by rw[fj];exact rfl,.str _,[],W,W,W⟩)⟩⟩
       .rw[xW]at E;show z.cps.size<=i;simpa using E)⟩
     .obtain⟨A,t⟩:=Rx h3 (λz e=>x ⟨z,e⟩);refine XC (tp:=A) l (T'.blt _ (by decide +kernel)) (jw he o6 (cj N)) (cj N) h_ b σ H R I ⟨V,[d],by simp only[mW,P,bS,cT],F,g,j,λvs F1 c st r=>?_⟩;obtain⟨v,w,rfl,f,M⟩:=r;cases M;obtain⟨u,h,rfl,m,i⟩:=J7 t f;exact⟨u,W,⟨h,m.up (cz.refl _) st.good⟩,kk _ F1 c st (λF H g s=>by
       have e:=m.up s g;refine⟨λo d K=>?_,λo E=>⟨h,e,?_⟩⟩
       .rw[xX]at K
        cases D:xs[o]? with
        |none=>rw[D]at K;cases K
        |some d1=>
          rw[D]at K;cases K;obtain⟨c,f,k⟩:=i.get D;refine⟨⟨h,c,e,f⟩,λx H' y=>?_⟩;obtain⟨T',j,rfl,x1,l,rfl⟩:=y;have m:=bh (f.symm.trans (l h e));subst m;refine⟨_,Step.alloc g j,⟨T',_,W,.inl bN,?_⟩⟩;exact⟨_,_,W,by rw[fj];exact rfl,c,[],W,k.mono (s.trans (cz.upd (g.sub.free j))),W⟩
       .rw[xW]at E;rwa[i.length])⟩,λa z=>nomatch z⟩
set_option tactic.hygienic false
def lD(h:uy e=U):∀v,eu e X.env v=pure v:=λv=>by
 cases e<;>first|rfl|cases h
theorem D0:∀{g:O aV}{is:O T},vg N g=Y is->is.map (λj=>N[j]?)=g.map Y
 |[],_,h=>by cases h;rfl
 |x::r,_,h=>by
   obtain⟨i,a,h⟩:=bX h;obtain⟨is,b,rfl⟩:=dY h;rw[az,az,eK a,D0 b]
theorem lookup_mem:∀{L':O (aV×mj)},L'.lookup x=Y k->(x,k)∈L'
 |[],h=>by cases h
 |(y,j)::r,h=>by
   rw[dP]at h;split at h
   .simp_all
   .exact jU _ (lookup_mem h)
structure Jx(S:Sc)(sc:n9)(tn cn:O aV):Prop where
 kind:sc.kind=.function
 nocell:∀y∈sc.names,y.2≠.cell
 locs:∀y∈sc.names,y.2=.local->sc.names.lookup y.1=Y .local
 frees:∀y∈sc.names,y.2=.free->S.nm.lookup y.1=Y .cell\/S.nm.lookup y.1=Y .free
 capk:∀x∈cn,(S.nm.lookup x=Y .cell\/S.nm.lookup x=Y .free)/\sc.names.lookup x=Y .free
 nd:(tn++cn).Nodup
 tl:∀x∈tn,sc.names.lookup x=Y .local
def Pl(h:Pn S sc g B=U):Jx S sc g B:=by
 unfold Pn at h;simp only[ah,bc,c5,kj,jG,er]at h;obtain⟨⟨⟨⟨⟨⟨f,i⟩,j⟩,b⟩,k⟩,c⟩,d⟩:=h;refine⟨f,i,λy a e=>?_,λy a e=>?_,k,c,d⟩
 .rcases j y a with z|z
  .exact absurd e z
  .exact z
 .rcases b y a with(z|z)|z
  .exact absurd e z
  .exact .inl z
  .exact .inr z
def Bv(T':oU G C S X)(h:Jx S sc B g)(F:vg S.N g=Y caps):kg X sc B g caps where
 kind:=h.kind
 nocell:=h.nocell
 locs:=h.locs
 frees:=λy b e=>by unfold uc;rw[T'.nm];exact h.frees y b e
 nofree:=λx e=>lookup_mem e
 caps:=by rw[T'.N];exact D0 F
 capk:=λx a=>by unfold uc;rw[T'.nm];exact(h.capk x a).1
 capn:=λx a=>(h.capk x a).2
def uh(T':oU G C S X)(h:Jx S sc g y)(cl:O (aV×aD))(O':aj)(F:Hp)(Ca:aD)(B:O aD):oU G C (inner S sc g y) (fO X sc cl (g++y) O' F Ca B) where
 N:=rfl
 nm:=by
  show(relabel sc X.env).names=CM S sc;unfold relabel CM uc;rw[T'.nm,T'.kind];refine dS λp _=>?_;obtain⟨n,k⟩:=p;dsimp only;rw[show(B4 == B4)=U from rfl,mo]
 kind:=h.kind
 calm:=T'.calm
 un:=T'.un
 xe:=rfl
 fn:=λz=>nomatch z
 fns:=T'.fns
 blt:=T'.blt
 con:=T'.con
 cls:=T'.cls
 Jp:=T'.Jp
end
section
variable{G:Sg}{C:Fs}{S:Sc}{X:Cx}{e:aZ}{x:aV}{f:aZ->a5 Ex}
def Nk(T':oU G C S y)(B:S.N.Nodup)(hi:S.N[i]?=Y t)(g:S.nm.lookup t=Y .local):PG y (.Name t p) (lp i):=by
 refine HN (by rwa[T'.N]) (by rwa[T'.N]) ?_ (.inr (by rwa[T'.nm]));unfold L2.Loc;rw[T'.nm];exact .inl g
def tz{g:n9}(h:g.names.lookup x=Y .local):(CM S g).lookup x=Y .local:=by
 unfold CM;generalize g.names=L' at h
 induction L' with
 |nil=>cases h
 |cons p r a=>
   obtain⟨y,k⟩:=p;rw[dP]at h;rw[az];by_cases b:(k == eR && S.nm.lookup y == Y .cell)=U
   .dsimp only;rw[cb b,dP];split at h
    .simp_all
    .exact a h
   .rw[cv b,dP];split at h
    .exact h
    .exact a h
theorem pf:∀{es:O aZ}{g:O aV},namesOf es=Y g->Z (ej es env)=Z es/\(ej es env).findIdx? (·.1)=L/\Z g=Z es
 |[],g,h=>by cases h;exact⟨W,W,W⟩
 |e::es,g,h=>by
   obtain⟨t,i,h⟩:=bX h;obtain⟨a,j,rfl⟩:=dY h;obtain⟨p,rfl⟩:=eA i;obtain⟨b,c,d⟩:=pf (env:=env) j;have k:ej (.Name t p::es) env=(J,hD _ _)::ej es _:=rfl;rw[k];refine⟨by simp[b],?_,by simp[d]⟩;rw[List.findIdx?_cons];simp[c]
def gK:T->T->V5
 |_,0=>KP
 |k,n+1=>zT (lp k) (gK (k+1) n)
theorem IM:∀n k x y H Q B,(∀g F,Q g F->B g F)->gK k n x y H Q->gK k n x y H B
 |0,_=>λ_ _ _ _ _ h q=>⟨q.1,h _ _ q.2⟩
 |n+1,k=>λ_ _ _ _ _ h c=>by obtain⟨v,r,e,q⟩:=c;exact⟨v,r,e,xN _ _ _ _ _ (λ_ _ a=>(IM n _) _ _ _ _ _ h a) q⟩
theorem DG:∀n k,k+n<=B->yi B (gK k n)
 |0,_,_=>λo p H Q z=>by obtain⟨e,q⟩:=z;exact ⟨e,q,W,λ_ _=>W⟩
 |n+1,k,h=>(show yi B (zT _ (gK _ n)) from λo p H Q a=>by
 obtain⟨v,r,e,q⟩:=a;refine⟨v,r,e,?_⟩;exact xN _ _ _ _ _ (λt u l=>by obtain⟨b,c,s2⟩:=l;exact (IM n _) _ _ _ _ _ (λd j y=>by obtain⟨f,g,s3⟩:=y;exact⟨f,g.trans c,λi m=>(s3 i m).trans (s2 i m)⟩) ((DG n _ (jj h)) _ _ _ _ b)) ((wC (aA (be _ _) h)) _ _ _ _ q))
theorem OQ{K:Fg}:∀(ds:O Dat)(y:O V)(k:T)(g:St)(ρ:iO)(Q:St->Hp->Prop),cQ K F ds y->oK K F g ρ->Z g=Z ρ->(∀B,oK K F B (AL k ds ρ)->Q B H)->gK k ds.length y g H Q
 |[],y,k,g,ρ,Q,r,R,c,q=>⟨r,q g R⟩
 |d::ds,y,k,g,ρ,Q,r,R,c,q=>by
   obtain⟨v,w,rfl,a,b⟩:=r;exact⟨v,w,W,OQ ds w _ _ _ Q b (CN c R a) (by simpa using c) q⟩
set_option tactic.hygienic true
def Mg{K:Fg}:ZU K n J (OO K n (gK 0 n)):=λF H m j d x o Q g R c p r h k=>by
 cases d with
 |tup i=>
   have h:(if Z i=n then Y (AL 0 i j)else L)=Y _:=h;split at h
   .rename_i b;cases h;clear h; obtain⟨a,l,rfl,t,r⟩:=r;subst b;exact⟨a,l,W,(t.mono g.sub).sq,r.length,OQ i l 0 m j Q r R p k⟩
   .cases h
 |_=>cases h
theorem CW(T':oU G C S B)(y:S.N.Nodup):∀{es:O aZ}{g:O aV}(k:T),namesOf es=Y g->(∀i t,g[i]?=Y t->S.N[k+i]?=Y t)->(∀t∈g,S.nm.lookup t=Y .local)->PGs B es (gK k es.length)
 |[],_,_,_,_,_=>HM
 |e::es,g,k,h,d,b=>by
   obtain⟨t,j,h⟩:=bX h;obtain⟨a,l,rfl⟩:=dY h;obtain⟨p,rfl⟩:=eA j;refine CY (Nk T' y (d 0 t W) (b t jB)) (CW T' y _ l (λi c e=>?_) λc m=>b c (jU _ m));rw[show k+1+i=k+(i+1)from(jq ..)]
   simp_all
def aap(T':oU G C S X)(I:qA tg=Y (one,F))(h:Jx S sc F (freeOf sc)) :
  ∃g,rB F.length g/\ZU X.K F.length one g/\∀(cl:O (aV×aD))(B:aj)(O':Hp)(Ca:aD)(y:O aD),PG (fO X sc cl (F++freeOf sc) B O' Ca y) tg g:=by
 cases tg with
 |Name t p=>
   cases I;exact⟨_,wC (by simp),Q0,λcl B O' Ca y=>Nk (uh T' h cl B O' Ca y) h.nd W (tz (h.tl t (by simp)))⟩
 |Tuple r k l=>
   obtain⟨b,d,j⟩:=dY I;cases j;refine⟨OO _ _ _,λx u H Q c=>by refine ac λ_ s=>?_;obtain⟨a,o,e,d,j,q⟩:=c;apply s;exact⟨a,o,e,d,j,(DG _ 0 (iG (ao _) (aU _))) _ _ _ _ q⟩,Mg,λcl B O' Ca y=>?_⟩;have a:=uh T' h cl B O' Ca y;have n:=pf (env:=(fO X sc cl (F++freeOf sc) B O' Ca y).env) d;have q:=CW a h.nd 0 d (λi t e=>by rw[fj];exact(aO (aM.mp e).1).trans e) λt m=>tz (h.tl t m);rw[<-n.2.2]at q;exact Nj a.calm q (n.1.trans n.2.2.symm) n.2.1
 |_=>cases I
def Ih(G:Sg)(C:Fs)(f:Sc->aZ->a5 Ex):Prop:=∀S e x,f S e=Y x->∀X,oU G C S X->Z6 X C e x
def D3(T':oU G C S X)(h:VX G S x=Y z):SE X C (.Name x p) z:=by
 obtain⟨m,h⟩:=bO h;obtain⟨d1,d2,d3⟩:=eo m;split at h
 .rename_i a;obtain⟨i,j,rfl⟩:=dY h;exact PE.imp (mr (by rw[T'.N];exact eK j) (mF T' a) d1 d2) λw H Q b=>by
    obtain⟨l,d,y,h,F,g,R,k⟩:=b;obtain⟨A,c,n⟩:=dY h;clear h; cases n
    have e:l[i]?=Y (Y d):=by
     cases q:l[i]? with
     |none=>rw[q]at c;cases c
     |some z=>simp_all
    obtain⟨v,o,r⟩:=R i d e;exact⟨v,o,k v F H (Step.refl g) r bx⟩
 .obtain⟨d,j,rfl⟩:=dY (bO h).2;obtain⟨v,u,c,r,t⟩:=T'.con x d j;exact wL (λ_ _ _ H _ I a=>qH I (jr T' (bO h).1) c ⟨v,H,I,r,a⟩ d1) t.1
def D4(P:∀e x,f e=Y x->SE X C e x)(h:PJ f y B=Y z):SE X C (.Dict y B pos) z:=by
 unfold PJ at h;split at h
 .rename_i q;simp only[ah,gP]at q;obtain⟨rfl,rfl⟩:=q;cases h;exact PE.imp (show PE X (.Dict [] [] _) Wq from λj s i H Q I h=>
   wpAny_Dict_empty ⟨.ref _,_,I.laid (λ_ _ q=>hp9 _ q) (ao _) (Pe _ (de cV ((I.mod.glob.keeps I.bk).lt))),W,h _ (I.hok.fresh (ao _))⟩) λi H Q a p c=>by
   refine ac λ_ b=>?_;obtain⟨l,d,m,h,F,g,R,k⟩:=a;cases h;apply b;exact k _ _ _ (Step.alloc g c) ⟨p,[],W,bN,W,W⟩ λ_=>.n6 c
 .cases h
def D2(B:∀e x,f e=Y x->SE X C e x)(h:PC f o=Y z):SO X C o z:=by
 cases o with
 |none=>cases h;exact PO.imp (by intro m s j H Q I h;exact wu9 ⟨L,H,I,.none,h⟩) λj H Q a=>by
         obtain⟨n,o,F,l,g,R,k⟩:=a;cases l;exact k F H (Step.refl g)
 |some e=>
   obtain⟨y,w,rfl⟩:=dY h;exact PO.imp ((show PO X _ (aau (gE _ C y)) by intro m s j H Q I a;refine jc ((B _ _ w) m s j H _ I a) λu s1 g=>?_;obtain⟨x,b,c,d,f⟩:=g;obtain⟨i,rfl,q⟩:=f;obtain⟨t,rfl⟩:=d;exact⟨_,b,c,.int i t,q⟩)) λj H Q a=>by
    obtain⟨n,o,F,l,g,R,k⟩:=a;obtain⟨⟨d,A⟩,c,p⟩:=bX l
    clear l; cases d with
    |int i=>
      cases p;exact⟨n,_,A,c,F,g,R,λv F1 b E r _=>⟨i,r,k F1 b E⟩⟩
    |_=>cases p
def o7(h:kH b=L):BJ b:=by
 cases b<;>first|(intro o i;rfl)|cases h
def Jj(T':oU G C S X)(y:∀e x,f e=Y x->SE X C e x)(h:ab5 f a b=Y z):SE X C (.Subscript a b pos) z:=by
 obtain⟨i,o,h⟩:=bX h
 cases m:kH b with
 |some t=>
   rw[m]at h;obtain⟨lo,r,q⟩:=t;obtain⟨j,n,g⟩:=bX (bO h).2;obtain⟨k,u,rfl⟩:=dY g;clear g; obtain⟨p,rfl⟩:∃p,b=.Slice lo r q p:=by
    unfold kH at m;split at m
    .cases m;exact⟨_,W⟩
    .cases m
   clear m; cases q with
   |none=>exact aaO (y _ _ o) (D2 y n) (D2 y u)
   |some _=>cases (bO h).1
 |none=>
   rw[m]at h;refine ac λ_ c=>?_;obtain⟨l,n,rfl⟩:=dY h;apply c;exact PE.imp (HP (ad6 (aA (JK T'.un) cV)) (y _ _ o) (y _ _ n) (o7 m)) (Ay λw d A h=>D9 h)
def UL(T':oU G C S X)(hf:∀e x,f e=Y x->SE X C e x)(h:ZA S f es=Y z):SE X C (.Call (.Name "isinstance" p) es [] pos) z:=by
 obtain⟨⟨a,t'⟩,m,b⟩:=bX h;clear h; obtain rfl:es=[a,t']:=tm m;clear m; obtain⟨t,A,c⟩:=bX b;clear b; obtain⟨d,h5⟩:=eA A;obtain rfl:t'=.Name t d:=h5;obtain⟨B,g⟩:=bO c;simp only[ah]at B;clear c; obtain⟨ty,P,i⟩:=bX g;clear g; obtain⟨k,j,rfl⟩:=dY i;obtain⟨b1,b2,b3,b4⟩:=Zv P;exact PE.imp (xj (show lX X (.builtin _) (adF _ ty) from λh_ s σ H xs us Q I r h=>by
  obtain⟨E,F,v,rfl,g,a,N,q⟩:=h;obtain⟨u,w,rfl,b,l⟩:=vals2 r;clear r; obtain rfl:w=.type _:=l;have e:=YI X.K ty E;have fin:∀f,EP X h_ σ Q _ _:=λf=>⟨.bl _,H,I.tok f,W,q⟩
  clear q; cases E with
  |non=>cases a;obtain rfl:u=.none:=b;exact hV PySem.W.kitx_none I.xE lY e (λz=>nomatch z) fin
  |bl y=>cases a;obtain rfl:u=.bool y:=b;exact hV PySem.W.kitx_bool I.xE lY e (λz=>nomatch z) fin
  |int y=>cases a;obtain⟨c,rfl⟩:=b;exact hV PySem.W.kitx_int I.xE lY e (λz=>nomatch z) fin
  |str y=>cases a;obtain⟨c,rfl⟩:=b;exact hV PySem.W.kitx_str I.xE lY e (λz=>nomatch z) fin
  |tup D=>
    obtain⟨p,vs,rfl,c,_⟩:=a;obtain rfl:u=.ref p:=b;obtain⟨M,_,⟨o,m,A,_⟩,_⟩:=I.tupR g c;exact hV PySem.W.kitx_tuple I.xE ⟨o,m,A⟩ e (λz=>nomatch z) fin
  |lst D=>
    obtain⟨p,vs,rfl,c,_⟩:=a;obtain rfl:u=.ref p:=b;obtain⟨M,_,⟨o,n,m,A,_⟩,_⟩:=I.lstR g c;exact hV PySem.W.kitx_list I.xE ⟨o,m,A⟩ e (λz=>nomatch z) fin
  |dct ks D=>
    refine ac λ_ kq=>?_;obtain⟨p,k_,rfl,c,_⟩:=a;obtain rfl:u=.ref p:=b;obtain⟨_,_,_,_,o,es,ep,m,A,_⟩:=I.hok p _ (g.sub _ _ c);apply kq;exact hV PySem.W.kitx_dict I.xE ⟨o,m,A.1⟩ e (λz=>nomatch z) fin
  |any=>cases N
  |exc _ _ _=>cases N) (jr T' B.1.1) (T'.blt _ (by decide +kernel)) (by decide +kernel) (o9 (hf _ _ j) (o9 (λ_ _ _ H _ I h=>mx I (jr T' B.left.right) (T'.blt t b2) b1 ⟨(V.ty _),H,I,W,h⟩ b4 b3) AW) (cj B.2)) (by decide) (by decide) (cj B.2) (lT (by rfl))) λσ H Q b=>by
   refine ac λ_ i=>?_;obtain⟨ρ,l,fr,h,F,g,R,k⟩:=b;obtain⟨D,m,A⟩:=bX h;clear h; obtain⟨⟨E,c⟩,P,m⟩:=bX m;cases m;obtain⟨N,e⟩:=Tu (A);clear A; cases e;apply i;exact⟨ρ,E,c,P,F,g,R,λv F1 f st r _=>⟨E,F1,v,W,st.good,r,N,k _ F1 f st W bx⟩⟩
def La(T':oU G C S X)(F:∀e x,f e=Y x->SE X C e x)(h:GO G S f x es=Y z):SE X C (.Call (.Name x p) es [] pos) z:=by
 unfold GO at h;split at h
 .rename_i b;subst b
  cases c:ZA S f es with
  |some j=>rw[c]at h;cases h;exact UL T' F c
  |none=>rw[c]at h;obtain⟨⟨a,P⟩,u,g⟩:=bX h;clear h; obtain rfl:es=[a,P]:=tm u;clear u; obtain⟨t,A,i⟩:=bX g;clear g; obtain⟨j,Q⟩:=eA A;obtain rfl:P=.Name t j:=Q;obtain⟨y,k⟩:=bO i;simp only[ah]at y;clear i; obtain⟨⟨⟨c1,c2⟩,b⟩,l⟩:=y;obtain⟨R,E,m⟩:=bX k;clear k; obtain⟨q,c,rfl⟩:=dY m;rcases T'.cls t _ E with⟨n,K,N⟩|⟨Ty,K,N,m3,o⟩
         .exact MD (vc:=.ref n) (jr T' c1) (T'.blt _ (by decide +kernel)) (λ_ _ _ H _ I h=>qH I (jr T' c2) K ⟨(V.ref n),H,I,W,h⟩ ((eo l).1)) (λw r=>r) N (F _ _ c) (cj b) (lT (by rfl))
         .exact MD (vc:=.ty Ty) (jr T' c1) (T'.blt _ (by decide +kernel)) (λ_ _ _ H _ I h=>mx I (jr T' c2) K N ⟨(V.ty Ty),H,I,W,h⟩ m3 ((eo l).1)) (λw r=>r) o (F _ _ c) (cj b) (lT (by rfl))
 .generalize d:(if x="sorted" then Zw S f _ _ _ es else L)=w at h
  cases w with
  |some w=>
    cases h;split at d
    .rename_i b;subst b;have hl:∀n B(p q s pos:rJ),dM n=U->Gl X (Str.ofString _)->Gl X (Str.ofString _)->SE X C n B->SE X C (.Call (.Name (Str.ofString _) p) [.Call (.Name (Str.ofString _) q) _ [] s] [] pos) (.blt _ _):=λa k _ _ _ _ hs g i ha=>Ry T'.un T'.calm g (T'.blt _ (by decide +kernel)) i (T'.blt _ (by decide +kernel)) ha (by rw[cj hs];rfl);obtain⟨e,u,c⟩:=bX d;clear d; obtain⟨⟨l,as⟩,A,b⟩:=bX c;clear c; obtain⟨q,s,rfl⟩:=mK A;clear A; obtain rfl:=eY u;split at b
     .rename_i r;clear u; obtain rfl:l=(Str.ofString _):=r;obtain⟨n,E,o⟩:=bX b;clear b; obtain rfl:as=[n]:=eY E;obtain⟨y,j⟩:=bO o;simp only[ah]at y;clear o; obtain⟨B,k,rfl⟩:=dY j;exact hl n B _ _ _ _ y.2 (jr T' y.1.1) (jr T' y.1.2) (F _ _ k)
     .cases b
    .cases d
  |none=>
    obtain⟨v,u,h⟩:=bX h;exact UM T' (j7 F u) h
def D6(T':oU G C S X)(g:∀e x,f e=Y x->SE X C e x)(h:Jl G S f fn es pos=Y z):SE X C (.Call fn es [] pos) z:=by
 unfold Jl at h
 cases a:yh fn with
 |some t=>
   obtain rfl:=uM a;obtain⟨a,h⟩:=bO h;obtain⟨n,i,h⟩:=bX h;have d:=j7 g i;obtain⟨j,h⟩:=bO h;obtain⟨b,k,h⟩:=bX h;obtain⟨c,l,rfl⟩:=dY h;exact UH (by have:=T'.un;omega) l (g _ _ k) d.sa d.len (λe z=>by subst z;exact cj (by simpa using d.star)) (λe m z=>by subst z;have q:=bc.mp d.star;exact⟨cj (q e (by simp)),cj (q m (by simp))⟩) j a
 |none=>
   rw[a]at h;obtain⟨x,i,h⟩:=bX h;obtain⟨p,rfl⟩:=eA i;exact La T' g h
def DF(h:VM y=Y g):y=[⟨g.tg,g.it,g.ifs,0⟩]:=by
 obtain⟨c,d,a⟩:=bX h;clear h; obtain rfl:=eY d;split at a
 .rename_i b;clear d; cases a;cases c;cases b;rfl
 .cases a
set_option tactic.hygienic false
def D5(c3:Ih G C F)(T':oU G C S X)(h:V0 S F elt g sc=Y z) :
  ∃tn caps P it xs xe e0,z=.comp tn caps P it xs xe/\∃tl:O aV,Z tl=tn/\kg X sc tl (freeOf sc) P/\SI X C g.tg g.it it/\rB tl.length e0/\ZU X.K tl.length caps e0/\
   (∀(cl:O (aV×aD))(B:aj)(O':Hp)(Ca:aD)(ex:O aD),PG (fO X sc cl (tl++freeOf sc) B O' Ca ex) g.tg e0/\Qq (fO X sc cl (tl++freeOf sc) B O' Ca ex) g.ifs (gTs X.K C xs)/\SE (fO X sc cl (tl++freeOf sc) B O' Ca ex) C elt xe)/\uy g.it=U:=by
 obtain⟨⟨P,tn⟩,N,h⟩:=bX h;obtain⟨caps,t,h⟩:=bX h;obtain⟨u,h⟩:=bO h;simp only[ah]at u;obtain⟨it,h2,h⟩:=bX h;obtain⟨xs,p,h⟩:=bX h;obtain⟨xe,k,rfl⟩:=dY h;have d:=Pl u.1;obtain⟨e0,a,i,l⟩:=aap T' N d;refine⟨_,_,_,it,xs,xe,e0,W,tn,W,Bv T' d t,(VZ T' (λe x q=>(c3 _ _ _ q X T').1) h2).1,a,i,λcl B O' Ca ex=>?_,u.2⟩;have j:=uh T' d cl B O' Ca ex;refine⟨l cl B O' Ca ex,?_,(c3 _ _ _ k _ j).1⟩;generalize g.ifs=ifs at p
 cases ifs with
 |nil=>cases p;exact λw s A H Q I a=>by
        refine ac λ_ c=>?_;obtain⟨E,b,h,F,g,R,k⟩:=a;cases h;apply c;exact wpAny_tests_nil ⟨H,I,(k F H (Step.refl g))⟩
 |cons c r=>
   obtain⟨b,v⟩:=bO p;simp only[ah,gP]at b;clear p; obtain⟨rfl,b⟩:=b;obtain⟨y,m,rfl⟩:=dY v;exact λw s A H Q I a=>by
    refine ac λ_ i=>?_;obtain⟨E,n,o,F,g,R,k⟩:=a;apply i;apply λa=>wpAny_tests_one (((c3 _ _ _ m _ j).2 b) w s A H Q I a);simp only[DQ]at o;refine ac λ_ D=>?_;obtain⟨⟨d,fr⟩,t,o⟩:=bX o;obtain⟨z,e,o⟩:=bX o;apply D;refine⟨E,d,fr,z,t,e,F,g,R,λF1 f st=>?_⟩
    grind
def UI(T':oU G C S X)(B:∀e x,f e=Y x->SE X C e x)(h:Zy S f fn args y=Y z):SE X C (.Call fn args y pos) z:=by
 obtain⟨x,q,h⟩:=bX h;obtain⟨a,r,h⟩:=bX h;obtain⟨k,u,h⟩:=bX h;obtain⟨t,h⟩:=bO h;obtain⟨j,d,rfl⟩:=dY h;simp only[ah,c5]at t;obtain⟨⟨⟨⟨rfl,g⟩,w⟩,i⟩,A⟩:=t;obtain⟨p,rfl⟩:=eA q;obtain rfl:=eY r;obtain rfl:=eY u;clear u; obtain⟨l,m,N⟩:=k;obtain⟨c,P,rfl⟩:=KG i;cases A;have b:=cj (es:=[]) (env:=X.env) w;exact PE.imp (λE s F H Q I h=>by
   exact eV (mx I (jr T' g) (T'.blt _ (by decide +kernel)) PyProof.Rows.boot_min (callWith_kw (jc ((jw (B _ _ d) o6 b) _ E s F H _ I h) λR s1 v=>by obtain⟨vs,o,n,e,f⟩:=v;exact kws_cons (Constant_none (kws_nil (Yo T'.calm n e f)))) (by rw[b];rfl) (by rw[b];rfl) W rfl) cV cV))
   (tV λK l fr h=>by
    obtain⟨x,q,r⟩:=bX h
    exact⟨[x.1],by show(bA C j K).bind _=_;rw[q];rfl,r⟩)
theorem vh:∀n,Ih G C (cE G n)
 |0=>λ_ _ _ h=>by cases h
 |n+1=>λS e z h X T'=>by
   have t:=λe x h=>vh n S e x h X T';have E:=λe x h=>(t e x h).1
   cases e with
   |Constant c k p=>
     obtain⟨d,B,rfl⟩:=dY h
     have q:SE X C (.Constant c k p) (.con d):=by
      cases c<;>first|(cases B;first|exact Xh|exact aaU|exact wL (λ_ _ _ H _ I h=>Constant_none ⟨.non,H,I,W,h⟩) λ_=>W|exact wL (λ_ _ _ H _ I h=>Calls.Constant_str ⟨.str s,H,I.tok _,⟨_,W⟩,h⟩) λ_=>W)|cases B
     exact⟨q,λ_=>lA q⟩
   |Name x p=>exact⟨D3 T' h,λ_=>lA (D3 T' h)⟩
   |BinOp a D b p=>
     have h:(if Ux D a b=U then(cE G n S a).bind λl=>(cE G n S b).map _ else(ZF D).bind λo=>(cE G n S a).bind λl=>(cE G n S b).map _)=Y z:=h;by_cases hc:Ux D a b=U
     .rw[cb hc]at h;obtain⟨l,B,h⟩:=bX h;obtain⟨r,h2,rfl⟩:=dY h;simp only[Ux,ah]at hc;obtain rfl:=KH hc.1.1;have q:=Xk (pos:=p) (E _ _ B) (E _ _ h2);exact⟨q,λ_=>lA q⟩
     rw[cv hc]at h;obtain⟨o,h0,h⟩:=bX h;obtain⟨l,B,h⟩:=bX h;obtain⟨r,h2,rfl⟩:=dY h;have q:SE X C (.BinOp a D b p) (.bin o l r):=PE.imp (Vu (UO h0) (E a l B) (E b r h2)) (Ay λM d fr h=>D9 h);exact⟨q,λ_=>lA q⟩
   |UnaryOp D a p=>
     cases D with
     |USub=>
       obtain⟨l,B,rfl⟩:=dY h;have q:=Xb (pos:=p) (E _ _ B);exact⟨q,λ_=>lA q⟩
     |Not=>
       obtain⟨s,h⟩:=bO h;obtain⟨l,B,rfl⟩:=dY h;exact⟨by rintro N s K H Q I ⟨M,d,fr,h,F,g,R,k⟩;refine ac λ_ e=>?_;refine ac λ_ kq=>?_;obtain⟨⟨V,i⟩,o,h⟩:=bX h;obtain⟨b,hb,h⟩:=dY h;cases h;apply kq;apply e;refine UnaryOp_ (jc ((E _ _ B) N s K H (λv f=>∃F1,Step F H F1 f/\Rep _ F1 V v) I ⟨M,V,i,o,F,g,R,λv F1 f st r _=>⟨F1,st,r⟩⟩) λv s1 y=>?_);obtain⟨x,f,j,q,F1,st,r⟩:=y;refine not_of (jc (Md N s1 K f x v (λc P=>c=b/\P=f) j q ⟨b,He st.good r hb,W,W⟩) ?_);rintro c s2 ⟨P,m,rfl,rfl⟩;exact⟨.bl _,P,m,W,k _ F1 P st W bx⟩,λ_=>PT.imp (by intro N d K H Q I h;exact isTrue_not (((t _ _ B).2 s) N d K H _ I h)) λK H Q b=>by
         refine ac λ_ e=>?_;obtain⟨M,d,fr,z,h,c,F,g,R,k⟩:=b;obtain⟨⟨V,f⟩,j,h⟩:=bX h;obtain⟨i,hb,h⟩:=dY h;cases h;cases c;apply e;exact⟨M,V,f,i,j,hb,F,g,R,k⟩⟩
     |_=>cases h
   |BoolOp D es p=>
     obtain⟨s,h⟩:=bO h
     cases D with
     |And=>
       obtain⟨xs,B,h⟩:=bX h;have q:=zW (pos:=p) (j7 t B) s h;exact⟨q.1,λ_=>q.2.pt⟩
     |Or=>
       obtain⟨xs,B,h⟩:=bX h;have q:=DK (pos:=p) (j7 t B) s h;exact⟨q.1,λ_=>q.2.pt⟩
   |Compare a u bs p=>
     have q:SE X C (.Compare a u bs p) z/\ST X C (.Compare a u bs p) z:=(by
      obtain⟨k,B,d⟩:=bX h;clear h
      cases ho:jI u with
      |some D=>
        obtain rfl:=eY ho;obtain⟨b,h2,g⟩:=bX d;clear d; obtain rfl:=eY h2;obtain⟨hs,i⟩:=bO g;clear g; obtain⟨o,c,j⟩:=bX i;clear i; obtain⟨l,h3,rfl⟩:=dY j;exact⟨PE.imp ((show PE X (.Compare a _ _ p) (Vl (gB _ (tR o)) (gE _ C k) (gE _ C l)) by intro N s K H Q I h;exact wpAny_Compare1 (ZL (E _ _ B) (E _ _ h3) I h λv u s2 x y P f d e q=>(Jk T'.un c) N s2 K P x y v u Q f d e q) (NL hs))) (Ay λM d fr h=>D9 h),WC (Jk T'.un c) (E _ _ B) (E _ _ h3) (NL hs)⟩
      |none=>
        simp_all);exact⟨q.1,λ_=>q.2⟩
   |IfExp c a b p=>
     obtain⟨s,h⟩:=bO h;obtain⟨xc,B,h⟩:=bX h;obtain⟨l,h2,h⟩:=bX h;obtain⟨r,h3,rfl⟩:=dY h;exact⟨PE.imp ((show PE X _ (tIf (gT _ C xc) (gE _ C l) (gE _ C r)) by
      intro N i K H Q I h;refine wpAny_IfExp (jc (((t _ _ B).2 s) N i K H _ I h) λd s1 j=>?_)
      obtain⟨e,f,g⟩:=j;cases d with
      |true=>exact (E _ _ h2) N s1 K e Q f g
      |false=>exact (E _ _ h3) N s1 K e Q f g)) λK H Q m=>by
       refine ac λ_ e=>?_;obtain⟨M,d,fr,h,F,g,R,k⟩:=m;obtain⟨⟨V,n⟩,u,h⟩:=bX h;obtain⟨z,o,h⟩:=bX h;apply e;refine⟨M,V,n,z,u,o,F,g,R,λF1 q x=>?_⟩
       cases z with
       |true=>
         exact Dq ⟨M,d,fr,h,F1,x.good,R.mono x.ff,λv i P f j w=>k v i P (x.trans f) j λz=>(w z).back (F:=F) x.hh⟩
       |false=>
         exact Dr ⟨M,d,fr,h,F1,x.good,R.mono x.ff,λv i P f j w=>k v i P (x.trans f) j λz=>(w z).back (F:=F) x.hh⟩,λz=>by cases z⟩
   |Tuple es k p=>
     obtain⟨xs,B,rfl⟩:=dY h;have q:=W8 (x1:=k) (pos:=p) (j7 E B).sf;exact⟨q,λ_=>lA q⟩
   |List es p=>
     obtain⟨xs,B,rfl⟩:=dY h;have q:=Xd (pos:=p) (j7 E B).sf;exact⟨q,λ_=>lA q⟩
   |Dict ks vs p=>exact⟨D4 E h,λ_=>lA (D4 E h)⟩
   |Subscript a b p=>exact⟨Jj T' E h,λ_=>lA (Jj T' E h)⟩
   |Call fn args kws cp=>
     by_cases hk:kws.isEmpty=U
     .cases kws with
      |nil=>exact⟨D6 T' E h,λ_=>lA (D6 T' E h)⟩
      |cons _ _=>cases hk
     .have h:(if kws.isEmpty=U then Jl G S _ fn _ cp else Zy S _ fn _ _)=Y z:=h;rw[cv hk]at h;have q:=UI (pos:=cp) T' E h;exact⟨q,λ_=>lA q⟩
   |Attribute a m p=>
     obtain⟨hb,h⟩:=bO h;obtain⟨cs,B,h⟩:=bX h;obtain⟨l,h2,rfl⟩:=dY h;have q:=Xm (pos:=p) (T'.Jp m cs B) (E _ _ h2) (oH hb);exact⟨q,λ_=>lA q⟩
   |ListComp elt y sc p=>
     refine ac λ_ kq=>?_;obtain⟨g,B,h⟩:=bX h;obtain rfl:=DF B;obtain⟨_,_,_,it,xs,xe,A,rfl,tl,rfl,k1,k2,k3,v,k5,w⟩:=D5 (vh n) T' h;apply kq;have q:=RC (pos:=p) T'.calm k1 k2 k3 v (λcl i j Ca ex=>(k5 cl i j Ca ex).1) (λcl i j Ca ex=>(k5 cl i j Ca ex).2.1) (λcl i j Ca ex=>(k5 cl i j Ca ex).2.2) (lD w);exact⟨q,λ_=>lA q⟩
   |_=>cases h
end
noncomputable def pe:aZ->cc
 |.ListComp _ _ _ _=>J
 |.SetComp _ _ _ _=>J
 |.DictComp _ _ _ _ _=>J
 |_=>U
noncomputable def Mm(S:Sc)(g:n9)(y:rJ)(t:aV)(p:rJ):cc:=S.nm.lookup t == Y .local && p.line == y.line && !(g.names.any λ(n,k)=>n == t && (k == .local || k == .cell))
noncomputable def ab8(m:aV)(k:T):a5 Ly:=
 if m="append"/\k=1 then Y .app else if m="extend"/\k=1 then Y .ext else L
def MT(S:Sc)(e:aZ):a5 T:=(i4 e).bind λx=>if(g9 x && vv S x)=U then nu x S.N else L
def ab7(G:Sg)(S:Sc)(f:aZ->a5 Ex):a5 aZ->a5 Sx
 |none=>L
 | some e=>match MT S e with
   |some i=>Y (.uq i)
   |none=>(f e).map .ret
def wD:aZ->a5 (aV×aZ)
 |.Subscript a ix _=>(i4 a).map λx=>(x,ix)
 |_=>L
def Wv:aZ->a5 (aV×aZ×aZ)
 |.Subscript a k _=>(wD a).map λz=>(z.1,z.2,k)
 |_=>L
def ZG(S:Sc)(f:aZ->a5 Ex)(t e:aZ):a5 Sx:=match i4 t with
 |some x=>if vA S x=U then(nu x S.N).bind λi=>if i≠0 then(f e).map λb=>.set i b else L else L
 | none=>match wD t with
   |some (x,ix)=>if(vv S x && g9 x && (kH ix).isNone && pe e)=U then(nu x S.N).bind λi=>(f e).bind λb=>(f ix).map λc=>.mut .seti i [b,c]else L
   | none=>match Wv t with
    |some (x,ix,k)=>if(vv S x && g9 x && (kH ix).isNone && (kH k).isNone && pe e)=U then(nu x S.N).bind λi=>(f e).bind λb=>(f ix).bind λc=>(f k).map λa=>.SX i c a b else L
    |none=>(qA t).bind λd=>if(d.2.all (vA S) && !isTup e && !d.1)=U then(vg S.N d.2).bind λg=>(f e).map λb=>.unp g b else L
structure Mc where
 x:aV
 m:aV
 ap:rJ
 args:O aZ
 cp:rJ
def Yt(e:aZ):a5 Mc:=(Uy e).bind λc=>(yh c.fn).bind λt=>(i4 t.1).bind λx=>if c.kws.isEmpty=U then Y ⟨x,t.2.1,t.2.2,c.args,c.pos⟩else L
noncomputable def adL:O aZ->a5 aZ
 |[a]=>Y a
 |_=>L
structure Mk where
 x:aV
 ix:aZ
 ap:rJ
 a:aZ
 cp:rJ
def Yq(e:aZ):a5 Mk:=(Uy e).bind λc=>(yh c.fn).bind λt=>(wD t.1).bind λz=>(adL c.args).bind λa=>if(c.kws.isEmpty && t.2.1 == "append")=U then Y ⟨z.1,z.2,t.2.2,a,c.pos⟩else L
def cLn(G:Sg)(S:Sc)(f:aZ->a5 Ex)(e:aZ):a5 (T×T×O Ex):=(se e).bind λc=>match c.2 with
 |a::d=>(i4 a).bind λy=>if(g9 c.1 && BY S c.1 && vv S y && g9 y && d.all dM)=U then(Bn c.1 0 G.fns).bind λb=>(nu y S.N).bind λi=>(tu f d).bind λg=>if Z g+1=b.2 then Y (b.1+yP,i,g)else L else L
 |[]=>L
def ab9(G:Sg)(S:Sc)(f:aZ->a5 Ex)(e:aZ):a5 Sx:=(cLn G S f e).map λz=>.lnd z.1 z.2.1 z.2.2
def cExp(G:Sg)(S:Sc)(f:aZ->a5 Ex)(e:aZ):a5 Sx:=match Yt e with
 |some c=>if(vv S c.x && g9 c.x && (c.ap.endLine == c.cp.line))=U then(nu c.x S.N).bind λi=>(tu f c.args).bind λd=>(ab8 c.m d.length).map λg=>.mut g i d else L
 | none=>match Yq e with
   |some c=>if(vv S c.x && g9 c.x && (kH c.ix).isNone && (c.ap.endLine == c.cp.line) && dM c.a)=U then(nu c.x S.N).bind λi=>(f c.ix).bind λh=>(f c.a).map λb=>.mtk .app i h [b]else L
   |none=>ab9 G S f e
def Eb:fP->a5 (aZ×aZ×rJ)
 |.Assign a e p=>(jI a).map λt=>(t,e,p)
 |_=>L
def VW(S:Sc)(f:aZ->a5 Ex)(s t:fP):a5 Sx:=(Eb s).bind λa=>(Eb t).bind λb=>(i4 a.1).bind λy=>(wD a.2.1).bind λz=>(wD b.1).bind λu=>
 if(decide (u.1=y) && vA S y && vv S y && g9 y && vv S z.1 && g9 z.1 && (kH z.2).isNone && (kH u.2).isNone && pe b.2.1)=U then(nu y S.N).bind λt=>(nu z.1 S.N).bind λi=>(f z.2).bind λc=>(f u.2).bind λd=>(f b.2.1).map λe=>.alp t i c d e else L
def rj(f:fP->a5 Sx)(g:fP->fP->a5 Sx):O fP->O Sx
 |[]=>[]
 |[s]=>[(f s).getD .Qh]
 | s::t::r=>match g s t with
   |some y=>y::rj f g r
   |none=>(f s).getD .Qh::rj f g (t::r)
def Jr(b:O fP):a5 (aV×aV×O aZ):=(jI b).bind λs=>(Eb s).bind λz=>(i4 z.1).bind λx=>(se z.2.1).map λc=>(x,c)
def VH(hs:O vL):a5 (aV×aV×aV):=(jI hs).bind λ
 |.ExceptHandler t n b _=>t.bind λt=>(i4 t).bind λD=>n.bind λn=>(jI b).bind λs=>(Eb s).bind λz=>(i4 z.1).bind λy=>(i4 z.2.1).bind λw=>if w=n then Y (D,n,y)else L
def GL(G:Sg)(S:Sc)(f:aZ->a5 Ex)(h:aV×aV×aV)(b:O fP):a5 Sx:=(Jr b).bind λa=>
 if(g9 a.2.1 && BY S a.2.1 && !a.2.2.isEmpty && g9 h.1 && BY S h.1 && g9 h.2.1 && S.nm.lookup h.2.1 == Y .local && vA S a.1 && vA S h.2.2 && h.2.1 != h.2.2)=U then
  (Bn a.2.1 0 G.fns).bind λc=>(tu f a.2.2).bind λd=>if Z d=c.2 then(G.x.hnd.lookup h.1).bind λok=>(nu a.1 S.N).bind λi=>(nu h.2.1 S.N).bind λm=>(nu h.2.2 S.N).map λy=>.Wn i c.1 d y m ok else L
 else L
def OB(b:O fP):a5 (aZ×O fP×O fP):=(jI b).bind λ
 |.If c a b _=>Y (c,a,b)
 |_=>L
def ab4(G:Sg)(S:Sc)(f:aZ->a5 Ex)(b:O fP)(hs:O vL):a5 Sx:=(VH hs).bind λh=>match OB b with
 |some z=>if pO z.1=U then(f z.1).bind λxc=>(GL G S f h z.2.1).bind λa=>(GL G S f h z.2.2).map λc=>.ifs xc [a] [c]else L
 |none=>GL G S f h b
def Pz(G:Sg)(S:Sc)(f:aZ->a5 Ex)(e:aZ):a5 Sx:=(se e).bind λc=>if(g9 c.1 && BY S c.1 && !c.2.isEmpty && G.x.rai.contains c.1)=U then(Bn c.1 0 G.fns).bind λa=>(tu f c.2).bind λb=>if Z b=a.2 then Y (.VQ a.1 b)else L else L
def ab6(G:Sg)(S:Sc)(f:aZ->a5 Ex)(v w:a5 aZ):a5 Sx:=v.bind λe=>if w.isNone=U then(se e).bind λc=>if(g9 c.1 && BY S c.1)=U then(jI c.2).bind λa=>if dM a=U then(G.x.exc.lookup c.1).bind λd=>(f a).map λb=>.rse d.1 d.2 b else L else L else L
def cS(G:Sg)(S:Sc):T->fP->a5 Sx
 |0,_=>L
 | n+1,h=>match h with
   |.Return v _=>ab7 G S (cE G n S) v
   |.Assign f e _=>(jI f).bind λt=>ZG S (cE G n S) t e
   | .Expr e _=>match Pz G S (cE G n S) e with
     |some y=>Y y
     |none=>cExp G S (cE G n S) e
   |.If c a b _=>if pO c=U then(cE G n S c).map λxc=>.ifs xc (rj (cS G S n) (VW S (cE G n S)) a) (rj (cS G S n) (VW S (cE G n S)) b)else L
   |.For g iter body d _=>if d.isEmpty=U then(qA g).bind λt=>if(t.2.all (vA S) && uy iter)=U then(vg S.N t.2).bind λf=>(cI S (cE G n S) g iter).map λi=>.loop t.1 f i (rj (cS G S n) (VW S (cE G n S)) body)else L else L
   |.While c body d _=>if(d.isEmpty && pO c)=U then(cE G n S c).map λxc=>.whl xc (rj (cS G S n) (VW S (cE G n S)) body)else L
   |.Try b j d fin _=>if(d.isEmpty && fin.isEmpty)=U then ab4 G S (cE G n S) b j else L
   |.Raise v w _=>ab6 G S (cE G n S) v w
   |_=>L
section
variable{G:Sg}{C:Fs}{X:Cx}{f:aZ->a5 Ex}
def IL{f:fP->a5 Sx}(g:∀s y,f s=Y y->SS X C EE s y)(s:fP):SS X C EE s ((f s).getD .Qh):=by
 cases q:f s with
 |none=>exact λe b i H D I a=>by
         obtain⟨j,c,F,l,d,h,R,k⟩:=a;cases h
 |some y=>exact g _ _ q
structure StX(G:Sg)(C:Fs)(X:Cx)(EE:XK):Prop where
 wx:Ef X EE
 px:qx (vF X.prog X.w) X EE
 po:qO (aq X.prog X.w) X.A X.env X.xe
 fx:∀(j:T)x n,G.fns[j]?=Y (x,n)->∃k f fd ps,jt X.prog X.w X.K X.mg X.base (vF X.prog X.w) k f fd ps (Qi X.K n (C j) (C (j+vt)))/\i5 k X.A/\X.mg x=Y (.ref f)/\dJ X.K (.ref f)=U/\Binds X.K fd ps []
 ex:∀x c f,G.x.exc.lookup x=Y (c,f)->∃fI fd k,X.mg x=Y (.ref c)/\wu X.K c fI=U/\jt X.prog X.w X.K X.mg X.base sJ k fI fd ["self",f] (wI c f)/\i5 (k+1) X.A/\Binds X.K fd ["self",f] []
 hnd:∀n ok,G.x.hnd.lookup n=Y ok->∃CD,X.mg n=Y (.ref CD)/\∀c∈ok,iJ X.K (.ref c) (.ref CD)=Y U
 st:X.stack=X.env::X.outer
 fm:X.env.frame=Y X.env.locals
theorem jd{f:fP->a5 Sx}{g:fP->fP->a5 Sx}(B:∀s y,f s=Y y->SS X C EE s y)(O':∀s t y,g s t=Y y->∀ss xs,BI X C EE ss xs->BI X C EE (s::t::ss) (y::xs)):∀(ss:O fP),BI X C EE ss (rj f g ss)
 |[]=>Hk
 |[s]=>Cp (IL B s) Hk
 |s::t::r=>by
   unfold rj
   cases q:g s t with
   |some y=>exact O' s t y q _ _ (jd B O' r)
   |none=>exact Cp (IL B s) (jd B O' _)
def FO(T':oU G C S X)(g:S.top=U)(B:S.N.Nodup)(hi:S.N[i]?=Y t)(y:vA S t=U):PG X (.Name t p) (lp i):=
 HN (by rwa[T'.N]) (by rwa[T'.N]) (qF T' y) (.inl (T'.fn g t))
theorem C4(T':oU G C S X)(B:S.top=U)(y:S.N.Nodup):∀{es:O aZ}{g:O aV}{O':O T},namesOf es=Y g->g.all (vA S)=U->vg S.N g=Y O'->PGs X es (gNs O')/\Z O'=Z es
 |[],g,O',h,_,d=>by
   cases h;cases d;exact⟨HM,W⟩
 |e::es,g,O',h,j,d=>by
   obtain⟨t,k,h⟩:=bX h;obtain⟨a,l,rfl⟩:=dY h;obtain⟨p,rfl⟩:=eA k;obtain⟨i,m,d⟩:=bX d;obtain⟨o,n,rfl⟩:=dY d;rw[eF,ah]at j;obtain⟨b,c⟩:=C4 T' B y l j.2 n;exact⟨CY (FO T' B y (eK m) j.1) b,c7 _ c⟩
def Mh(T':oU G C S X)(B:S.top=U)(O':S.N.Nodup)(I:qA tg=Y (one,P))(hl:P.all (vA S)=U)(y:vg S.N P=Y ts) :
  ∃g,ZT X.K one ts g/\PG X tg g:=by
 cases tg with
 |Name t p=>
   cases I;obtain⟨i,e,y⟩:=bX y;cases y;exact⟨_,λn j F H o q d x m Q R r l k=>by
    simp only[iU,i6]at l;subst l;exact k _ (R.AJ r),FO T' B O' (eK e) (by simpa using hl)⟩
 |Tuple u k p=>
   obtain⟨a,e,h⟩:=dY I;cases h;obtain⟨b,c⟩:=C4 T' B O' e hl y;exact⟨_,Mf,Nj T'.calm b ((pf e).1.trans c.symm) (pf e).2.1⟩
 |_=>cases I
def UG(T':oU G C S X)(B:∀e x,f e=Y x->SE X C e x)(h:ab7 G S f v=Y y):SS X C EE (.Return v pos) y:=by
 cases v with
 |none=>cases h
 |some e=>
   have h:(match MT S e with|some i=>Y _|none=>(f e).map _)=Y y:=h
   cases a:MT S e with
   |some i=>
     rw[a]at h;cases h;obtain⟨x,j,l⟩:=bX a;obtain⟨p,rfl⟩:=eA j;obtain⟨m,l⟩:=bO l;rw[ah]at m;obtain⟨d1,d2,d3⟩:=eo m.1;exact Rc (by rw[T'.N];exact eK l) (mF T' m.2) d1 d2
   |none=>
     rw[a]at h;obtain⟨A,j,rfl⟩:=dY h;exact PS.imp (M7 (B _ _ j)) λD E H b=>by
      refine ac λ_ s=>?_;obtain⟨I,n,F,K,o,h,R,k⟩:=b;obtain⟨⟨d,q⟩,g,h⟩:=dY h;cases h;obtain⟨c,P,a⟩:=R.hZ;apply s;exact⟨_,d,q,g,c,a.step.good,a.full,λv t u w r f=>k v t u (a.step.trans w) r λz=>(f z).back (F:=F) R.step.hh⟩
def ug{ix:aZ}(h:pe e=U):fC [.Subscript a ix sp] e line env=pure J/\f7 [.Subscript a ix sp] e env=pure L:=by
 cases e<;>first|exact⟨W,W⟩|cases h
def JU(h:isTup e=J):fC [.Tuple es k tp] e line env=pure J/\f7 [.Tuple es k tp] e env=pure L:=by
 cases e<;>first|exact⟨W,W⟩|cases h
def qf{ix:aZ}(h:wD t=Y (x,ix)):∃p sp,t=.Subscript (.Name x p) ix sp:=by
 unfold wD at h;split at h
 .obtain⟨a,b,c⟩:=dY h;clear h; cases c;obtain⟨p,rfl⟩:=eA b;exact⟨p,_,W⟩
 .cases h
def Q4{ix:aZ}(h:Wv t=Y (x,ix,k)):∃p sp B,t=.Subscript (.Subscript (.Name x p) ix sp) k B:=by
 unfold Wv at h;split at h
 .obtain⟨⟨y,z⟩,b,c⟩:=dY h;clear h; cases c;obtain⟨p,a,rfl⟩:=qf b;exact⟨p,a,_,W⟩
 .cases h
def aaq(h:qA t=Y (J,g)):∃es k tp,t=.Tuple es k tp:=by
 unfold qA at h;split at h
 .cases h
 .exact⟨_,_,_,W⟩
 .cases h
def YW{ix:aZ}(h:kH ix=L):∀v,hD (.Subscript o ix p) env v=(do
   let g <-holding [v] (eval o env);let y <-holding [v,g] (eval ix env)
   standAt p
   holding [v,g,y] (kl g y v)
   release [v,g,y] []):=λv=>by
 cases ix<;>first|rfl|cases h
def UD(F:i≠0)(T':oU G C S X)(top:S.top=U)(nd:S.N.Nodup)(I:vA S x=U)(R:nu x S.N=Y i)(y:cE G n S e=Y P):SS X C EE (.Assign [.Name x p] e pos) (.set i P):=by
 have d:X.N.Nodup:=by rwa[T'.N]
 have A:X.N[i]?=Y x:=by rw[T'.N];exact eK R
 have q:=(vh n S e P y X T').1;by_cases H:pe e=U
 .exact PS.imp (M6 d A (qF T' I) q (by cases e<;>first|rfl|cases H) (.inl (T'.fn top x))) (Cz F λ_ _ _ h=>h)
 .obtain⟨o,h,r,t,rfl⟩:∃o B r t,e=.ListComp o B r t:=by
   clear F T' top I d A q; cases n with
   |zero=>cases y
   |succ n=>
     cases e with
     |ListComp o B r t=>exact⟨_,_,_,_,W⟩
     |SetComp _ _ _ _=>cases y
     |DictComp _ _ _ _ _=>cases y
     |_=>exact absurd rfl H
  have c:fo (.ListComp o h r t) (Y (.Name x p)) pos.line X.env=pure (Mm S r t x p):=by
   unfold fo Mm;have w:X.env.blockKind=.function:=by unfold Env.blockKind;rw[T'.kind];rfl
   simp only[pure_bind,w,uc,T'.nm];rfl
  cases w:Mm S r t x p with
  |false=>
    rw[w]at c;exact PS.imp (M6 d A (qF T' I) q c (.inl (T'.fn top x))) (Cz F λ_ _ _ h=>h)
  |true=>
    rw[w]at c
    clear q w; cases n with
    |zero=>cases y
    |succ n=>
      refine ac λ_ s=>?_;obtain⟨g,K,j⟩:=bX y;clear y; obtain rfl:=DF K;obtain⟨_,_,_,it,D,P,m,rfl,tl,rfl,Q,v,z,k,E,l⟩:=D5 (vh n) T' j;apply s;exact PS.imp (FL d A (qF T' I) T'.calm Q v (λcl a b Ca u=>(E cl a b Ca u).1) z (λcl a b Ca u=>(E cl a b Ca u).2.1) (λcl a b Ca u=>(E cl a b Ca u).2.2) c (lD l) (.inl (T'.fn top x))) (Cz F (Ab k λ_ _ _=>trivial))
set_option tactic.hygienic true
def UP(T':oU G C S X)(top:S.top=U)(nd:S.N.Nodup)(h:ZG S (cE G n S) t e=Y y):SS X C EE (.Assign [t] e pos) y:=by
 have F:=λe x(h)=>(vh n S e x h X T').1;unfold ZG at h
 cases ht:i4 t with
 |some x=>
   obtain⟨p,rfl⟩:=eA ht;obtain⟨I,d⟩:=bO h;clear h; obtain⟨i,E,b⟩:=bX d;split at b
   .rename_i h0;obtain⟨xe,K,rfl⟩:=dY b;exact UD h0 T' top nd I E K
   .cases b
 |none=>
   rw[ht]at h
   cases hs:wD t with
   |some z=>
     obtain⟨x,ix⟩:=z;obtain⟨p,sp,rfl⟩:=qf hs;obtain⟨P,d⟩:=bO h;simp only[ah,dC]at P;refine ac λ_ M=>?_;clear h; obtain⟨⟨⟨hv,Q⟩,j⟩,l⟩:=P;obtain⟨i,E,b⟩:=bX d;obtain⟨xe,K,m⟩:=bX b;obtain⟨V,R,rfl⟩:=dY m;obtain⟨d1,d2,d3⟩:=eo Q;apply M;have c:=ug (line:=pos.line) (env:=X.env) (a:=.Name x p) (ix:=ix) (sp:=sp) l;exact Rb (wZ (F _ _ K) (FP (mr (pos:=p) (by rw[T'.N];exact eK E) (mF T' hv) d1 d2) (F _ _ R) (AI (jj T'.un)) (YW j)) c.1 c.2 W)
   |none=>
    rw[hs]at h
    cases q:Wv t with
    |some z=>
     obtain⟨x,ix,k⟩:=z;obtain⟨p,sp,r,rfl⟩:=Q4 q;obtain⟨P,d⟩:=bO h;simp only[ah,dC]at P;refine ac λ_ M=>?_;obtain⟨⟨⟨⟨hv,Q⟩,j⟩,s⟩,l⟩:=P;obtain⟨i,E,b⟩:=bX d;obtain⟨xe,K,m⟩:=bX b;obtain⟨V,R,u⟩:=bX m;obtain⟨B,v,rfl⟩:=dY u;obtain⟨d1,d2,d3⟩:=eo Q;apply M;have c:=ug (line:=pos.line) (env:=X.env) (a:=.Subscript (.Name x p) ix sp) (ix:=k) (sp:=r) l;exact PS.imp (wZ (F _ _ K) (FP (HP Bf (mr (by rw[T'.N];exact eK E) (mF T' hv) d1 d2) (F _ _ R) (o7 j)) (F _ _ v) (AI (by have:=T'.un;exact jj this)) (YW s)) c.1 c.2 W) λD σ H h=>by
      refine qI (NY h) λv o s1 P=>?_;obtain⟨p,e1,g⟩:=P;refine⟨_,e1,qI g λt H2 s2 P=>?_⟩;obtain⟨xs,k,l,e2,Q,ha,d⟩:=P;refine⟨p,xs,k,_,W,e2,pC.of Q,ha,qI d λy u s3 P=>?_⟩;obtain⟨e,_,b,a,A⟩:=P
      cases e with
      |lst ys=>
        cases y with
        |int n=>
          simp only[Ez,Kq]at a;split at a
          .obtain⟨w,f,m⟩:=dY a;clear a; cases m;obtain⟨z,q,rfl⟩:=dY f;exact .inl ⟨l,ys,n,z,W,W,b,q,A⟩
          .cases a
        |_=>cases a
      |dK k_=>
        obtain⟨n,hk,a⟩:=bX a;split at a
        .rename_i r;cases a;exact .inr ⟨l,k_,n,W,Gi hk,b,r,A⟩
        .cases a
      |_=>cases a
    |none=>
     rw[q]at h;obtain⟨⟨one,tn⟩,h0,d⟩:=bX h;clear h; obtain⟨I,b⟩:=bO d;simp only[ah,jG]at I;refine ac λ_ M=>?_;obtain⟨ts,E,m⟩:=bX b;obtain⟨xe,R,rfl⟩:=dY m;obtain⟨g,w,A⟩:=Mh T' top nd h0 I.1.1 E;obtain rfl:one=J:=I.2;obtain⟨es,k,tp,rfl⟩:=aaq h0;apply M;have c:=JU (line:=pos.line) (env:=X.env) (es:=es) (k:=k) (tp:=tp) I.1.2;exact WE (F _ _ R) w A c.1 c.2 W
def S7(h:Yt e=Y c):∃p,e=.Call (.Attribute (.Name c.x p) c.m c.ap) c.args [] c.cp:=by
 refine ac λ_ d=>?_;obtain⟨⟨j,as,g,r⟩,k,i⟩:=bX h;clear h; obtain⟨⟨o,m,l⟩,n,a⟩:=bX i;clear i; obtain⟨x,q,b⟩:=bX a;clear a; cases (bO b).2;obtain⟨p,f⟩:=eA q;obtain rfl:o=.Name x p:=f;obtain rfl:g=[]:=gP.mp (bO b).1;obtain rfl:j=.Attribute _ m l:=uM n;apply d;exact⟨p,BC k⟩
def SY(h:Yq e=Y c):∃p sp,e=.Call (.Attribute (.Subscript (.Name c.x p) c.ix sp) "append" c.ap) [c.a] [] c.cp:=by
 obtain⟨⟨n,args,b,t⟩,q,g⟩:=bX h;clear h; obtain⟨⟨o,m,r⟩,j,g⟩:=bX g;obtain⟨⟨x,ix⟩,k,g⟩:=bX g;obtain⟨a,l,g⟩:=bX g;obtain⟨i,g⟩:=bO g;cases g;simp only[ah,ef]at i;obtain⟨p,sp,d⟩:=qf k;clear k; obtain rfl:o=.Subscript _ ix sp:=d;obtain rfl:b=[]:=gP.mp i.1;obtain rfl:m="append":=i.2;obtain rfl:n=.Attribute (.Subscript _ ix sp) "append" r:=uM j
 clear j; obtain⟨f,rfl⟩:∃f,args=[f]:=by rcases args with _|⟨f,_|_⟩<;>first|exact⟨_,W⟩|cases l
 cases l;exact⟨p,sp,BC q⟩
def tU(h:Eb s=Y z):s=.Assign [z.1] z.2.1 z.2.2:=by
 cases s with
 |Assign a e p=>
   obtain⟨t,b,rfl⟩:=dY h;rw[eY b]
 |_=>cases h
def GN(T':oU G C S X.j3)(top:S.top=U)(nd:S.N.Nodup)(hf:∀e x,f e=Y x->SE X.j3 C e x)(h:VW S f s t=Y y)(h3:BI X C EE ss xs):BI X C EE (s::t::ss) (y::xs):=by
 refine ac λ_ kq=>?_;obtain⟨⟨B,e1,D⟩,n,h⟩:=bX h;obtain⟨⟨E,e2,o⟩,p,h⟩:=bX h;obtain⟨v,q,h⟩:=bX h;obtain⟨⟨x,ix⟩,r,h⟩:=bX h;obtain⟨⟨b,k⟩,u,h⟩:=bX h;obtain⟨hc,h⟩:=bO h;apply kq;simp only[ah,dC,c5]at hc;refine ac λ_ kq=>?_;obtain⟨⟨⟨⟨⟨⟨⟨⟨ev,hl⟩,hv⟩,hp⟩,c⟩,d⟩,g⟩,j⟩,l⟩:=hc;obtain⟨w,b1,h⟩:=bX h;obtain⟨i,b2,h⟩:=bX h;obtain⟨ke,b3,h⟩:=bX h;obtain⟨xi,b4,h⟩:=bX h;obtain⟨xe,b5,rfl⟩:=dY h;obtain rfl:b=v:=ev;obtain⟨F,rfl⟩:=eA q;obtain⟨H,I,rfl⟩:=qf r;obtain⟨z,A,rfl⟩:=qf u;apply kq;rw[tU n,tU p];refine ac λ_ kq=>?_;obtain⟨d1,d2,_⟩:=eo hp;obtain⟨c1,c2,_⟩:=eo d;apply kq;have m:=ug (line:=o.line) (env:=X.env) (a:=.Name b z) (ix:=k) (sp:=A) l
 exact yY.imp (wY (PS.j3 (wZ (HP Bf (mr (by rw[T'.N];exact eK b2) (mF T' c) c1 c2) (hf _ _ b3) (o7 g)) (FO T' top nd (eK b1) hl) W rfl rfl)) (wY (PS.j3 (wZ (hf _ _ b5) (FP (mr (by rw[T'.N];exact eK b1) (mF T' hv) d1 d2) (hf _ _ b4) (AI (by have:=T'.un;exact jj this)) (YW j)) m.1 m.2 W)) h3)) λD σ H P=>by
   refine ac λ_ kq=>?_;obtain⟨Fz,H₀,F,ρ,out,h,R,S⟩:=P;obtain⟨o,K,h⟩:=bX h;apply kq;have K:(if w<(Z ρ) then _ else L)=Y o:=K;split at K
   .rename_i r;refine ac λ_ kq=>?_;obtain⟨⟨kd,fk⟩,g0,K⟩:=bX K;obtain⟨ws,k,α,e,x,fx,z,T',e',U',δ,V,d,c3,e0,g4,γ,rfl⟩:=UU K;obtain⟨Ss,O'⟩:=R.ow;obtain⟨v0,e1,e2,e3,e4⟩:=O'.own i _ δ;obtain⟨p,vs,S0,rfl,hp,os,eS⟩:=id e2;obtain⟨vk,S1,S2,S3,f,J',f3,f4,f5,f6⟩:=os.at d
    have s:im z=U:=by
     cases e with
     |lst ls=>
       cases z with
       |int n=>rfl
       |_=>cases γ
     |dct ks ws=>
       obtain⟨kz,q,_⟩:=bX (γ)
       clear γ; cases z with
       |int n=>rfl
       |str n=>rfl
       |_=>cases q
     |_=>cases γ
    have u:∃l,vk=.ref l:=by
     cases e with
     |lst ls=>obtain⟨l,xs,S',rfl,β,_⟩:=id J';exact⟨l,W⟩
     |dct ks ws=>obtain⟨l,xs,S',rfl,β,_⟩:=id J';exact⟨l,W⟩
     |_=>cases γ
    obtain⟨l,rfl⟩:=u;apply kq;refine⟨_,e1,R.ask g0 λkv F1 H1 s1 _ _ hk=>⟨p,vs,k,_,W,hk k U',pC.of (s1.hh _ _ hp),by unfold yV;rwa[os.length,V],?_⟩⟩;have L':=R.moved s1;refine L'.acn δ d e1 (s1.hh _ _ hp) f c3 λv F2 H2 s2 ow _ _=>?_;have R2:=L'.moved s2;refine⟨_,fh (by rwa[R.len]),R2.acn δ d e1 (s2.hh _ _ (s1.hh _ _ hp)) f g4 λQ F3 y s3 A _ _=>?_⟩;have sm:=(s1.hh.trans s2.hh).trans s3.hh;refine ac λ_ kq=>?_;obtain⟨p',vs',l',ob,ob',S',q1,M,q3,e7,B,N,b,q9,E,G,I⟩:=Il (by simp) sm d γ e2 e3 ⟨v,_,[],[],W,ow e0 y (s3.hh),⟨Q,[],[],[],W,A s y (λ_ _ e=>e),⟨W,W⟩,W⟩,W⟩;cases q1;apply kq;rw[hp]at M;cases M;rw[f]at e7;cases e7;have fin:gSs _ C EE xs D (σ.set w (Y (.ref l))) (upd y l _):=⟨Fz,_,F3,_,_,h,((R2.moved s3).mut (((O'.moved s1).moved s2).moved s3) δ e1 B q9 E G λa m=>.inl (I a m)).Hu,S.mono ((s1.ff.trans s2.ff).trans s3.ff)⟩
    cases ob with
    |lst ys=>
      cases Q with
      |int n=>
        simp only[Ez,Kq]at b;split at b
        .obtain⟨zs,e7,q5⟩:=dY b;clear b; cases q5;obtain⟨α,B,rfl⟩:=dY e7;exact .inl ⟨l,ys,n,α,W,W,N,B,fin⟩
        .cases b
      |_=>cases b
    |dK k_=>
      obtain⟨n,hk,b⟩:=bX b;split at b
      .rename_i hz;cases b;exact .inr ⟨l,k_,n,W,Gi hk,N,hz,fin⟩
      .cases b
    |_=>cases b
   .cases K
def UN(T':oU G C S X)(hf:∀e x,f e=Y x->SE X C e x)(h:cExp G S f e=Y y):SS X C EE (.Expr e pos) y:=by
 unfold cExp at h
 cases j:Yt e with
 |none=>
   rw[j]at h
   cases hk:Yq e with
   |none=>
     rw[hk]at h;obtain⟨z,P,rfl⟩:=dY h;clear h; obtain⟨g,p,a,M,q,k,i,V,ps,rfl,F,b,c,d,hk,hb,hv,ha,hd,he,hp⟩:∃g p a M q k f' V ps,e=.Call (.Name g p) (a::M) [] q/\jt X.prog X.w X.K X.mg X.base sJ k f' V ps (WS X.K (Z z.2.2+1) (C z.1))/\i5 k X.A/\Gl X g/\X.mg g=Y (.ref f')/\dJ X.K (.ref f')=U/\Binds X.K V ps []/\PE X a (vx z.2.1)/\SA X C M z.2.2/\(g == ("__debug__":aV))=J/\aN (a::M) X.env=(J,eval a X.env)::aN M X.env/\(eI q (aN M X.env)).any (·.1)=J:=(by
      obtain⟨⟨g,as⟩,l,P⟩:=bX P;obtain⟨p,q,rfl⟩:=mK l
      clear l; cases as with
      |nil=>cases P
      |cons a M=>
        have P:(i4 a).bind (λy=>if(g9 g && BY S g && vv S y && g9 y && M.all dM)=U then(Bn g 0 _).bind λd=>(nu y _).bind _ else L)=Y z:=P;obtain⟨v,o,P⟩:=bX P;obtain⟨R,P⟩:=bO P;simp only[ah]at R;refine ac λ_ I=>?_;obtain⟨⟨⟨⟨r,b⟩,s⟩,hp⟩,c⟩:=R;obtain⟨⟨j,n⟩,t,P⟩:=bX P;obtain⟨i,u,P⟩:=bX P;obtain⟨xs,B,P⟩:=bX P;apply I;split at P
        .rename_i D;refine ac λ_ I=>?_;cases P;obtain⟨J',rfl⟩:=eA o;obtain⟨m,e1,e2⟩:=qp t;clear t; obtain⟨k,f',V,ps,F,E,H,hk,hb⟩:=T'.fns m g n e2;apply I;rw[fj]at e1;subst e1;subst D;exact⟨g,p,_,M,q,k,f',V,ps,W,F.2,E,jr T' b,H,hk,hb,mr (by rw[T'.N];exact eK u) (mF T' s) (eo hp).1 (eo hp).2.1,(j7 hf B).sa,(eo r).1,cj W,lT c⟩
        .cases P);exact WL F b c d hk hb hv ha W hd he hp
   |some c=>
     rw[hk]at h;clear j; obtain⟨p,sp,rfl⟩:=SY hk;clear hk; obtain⟨x,ix,ap,a,cp⟩:=c;obtain⟨R,k⟩:=bO h;simp only[ah,dC]at R;refine ac λ_ kq=>?_;obtain⟨⟨⟨⟨hv,hp⟩,o⟩,g⟩,q⟩:=R;obtain⟨i,h1,l⟩:=bX k;obtain⟨xi,h2,n⟩:=bX l;obtain⟨r,h3,rfl⟩:=dY n;obtain⟨d1,d2,d3⟩:=eo hp;apply kq;have d:=mr (pos:=p) (by rw[T'.N];exact eK h1) (mF T' hv) d1 d2;have b:aN _ X.env=(J,eval a _)::aN [] _:=cj q;exact WJ (by simp) (by simp) OE (tf (zF oh nQ yG zI (HP (by
      intro value slice h_ s σ H x y v u Q I b c h hs;refine ac λ_ i=>?_;obtain⟨a,k_,k,w,rfl,rfl,d,e,q⟩:=h;cases b;apply i;have dg:uQ H a (kV k) (Y w):=by rw[<-e];exact uQ.k d
      exact Qz (vd I dg) ym.lookup (zZ I dg c λg s' I' f=>⟨w,H,I',f,q⟩) hs) d (hf _ _ h2) (o7 o)) (Ht (hf _ _ h3) MA b) W (by rw[b];rfl) g b W) W)
 |some c=>
   rw[j]at h;obtain⟨p,rfl⟩:=S7 j;obtain⟨x,m,ap,args,cp⟩:=c;obtain⟨R,k⟩:=bO h;simp only[ah]at R;obtain⟨⟨hv,hp⟩,g⟩:=R;obtain⟨i,h1,l⟩:=bX k;obtain⟨xs,h2,n⟩:=bX l;obtain⟨op,h3,rfl⟩:=dY n;obtain⟨d1,d2,d3⟩:=eo hp;have ha:=j7 hf h2;have d:=mr (pos:=p) (by rw[T'.N];exact eK h1) (mF T' hv) d1 d2;clear h k l n j h2;unfold ab8 at h3;split at h3
   .rename_i j;obtain⟨rfl,hk⟩:=j;cases h3;obtain⟨r,rfl⟩:=gD.mp hk;obtain⟨e,rfl,hs,he⟩:=ha.one;exact Rf (by simp) (by simp) OE (tf (zF oh nQ yG zI d ha.sf W (by rw[(cj hs)];rfl) g (cj hs) W) W)
   split at h3
   .rename_i j;obtain⟨rfl,hk⟩:=j;cases h3;obtain⟨r,rfl⟩:=gD.mp hk;obtain⟨e,rfl,hs,he⟩:=ha.one;have b:aN _ X.env=(J,eval e _)::aN [] _:=cj hs;exact WN (tf (zF oh nP PySem.F.type_list_extend (by
     intro h_ s σ H x vs v us Q I t w h;obtain⟨l,b,xs,m,rfl,rfl,o,f,y,q⟩:=h;cases t;obtain⟨u,rfl,A⟩:=w.one;clear w; cases A;obtain⟨z,its,n,r,hl,e⟩:=I.Tc o
     have fin:∀(a:O ai)(p:T),cX m a->EP X h_ σ Q _ { s with heap:=s.heap.update l (fM λx=>x++a.toArray),toks:=p }:=λa p c=>
      ⟨.non,_,I.aby o e (by simp) (r.append c) (by simp_all),W,q⟩
     have d:∀{a:O ai},cX m a->its.toArray.size+a.toArray.size<=aF:=λc=>by rwa[bB,bB,<-r.length,<-c.length]
     rcases f with f|f
     .refine ac λ_ B=>?_;obtain⟨a,c,⟨j,k,e2,R,hd,hs⟩,_⟩:=I.list f;obtain⟨g,i,data2,zw⟩:=j;subst R hd hs;apply B;exact PySem.call_meets nP ⟨_,e,W⟩ P9 (LD _ _) (OZ l _ n b _ k _ zw (by rw[NH (d c)];simp) (by simp_all) (dA (d c))) ⟨e,e2,fin a _ c⟩
     .refine ac λ_ B=>?_;obtain⟨a,c,⟨j,e2,R,k,hd⟩,_⟩:=I.tuple f;obtain⟨g,i,data2,zw⟩:=j;subst R hd;apply B;exact PySem.call_meets nP ⟨_,e,W⟩ P9 (LD _ _) (OW l _ n b _ k i zw (by rw[NH (d c)];simp) (by exact aa (af hl.symm) z) (dA (d c))) ⟨e,e2,fin a _ c⟩) d ha.sf W (by rw[b];rfl) g b W) W)
   .cases h3
def qq:e9 C [y] ρ=og C y ρ:=by
 show(og C y ρ).bind _=_
 cases og C y ρ with
 |none=>rfl
 |some o=>cases o<;>rfl
def BD{D:aV}(T':oU G C S X.j3)(c3:StX G C X EE)(top:S.top=U)(nd:S.N.Nodup)(hf:∀e x,f e=Y x->SE X.j3 C e x)(h:GL G S f (D,n,yn) b=Y y):P4 X [.ExceptHandler (Y (.Name D dp)) (Y n) [.Assign [.Name yn py] (.Name n np) yp] hp] b (gS X.K C EE y):=by
 obtain⟨⟨x,fn,as⟩,h1,s⟩:=bX h;clear h; obtain⟨px,p,cp,ap,rfl⟩:∃px p cp ap,b=[.Assign _ (.Call _ as [] cp) ap]:=(by refine ac λ_ kq=>?_;obtain⟨st,l,a⟩:=bX h1;obtain⟨⟨ts,e,ap⟩,h0,a⟩:=bX a;obtain⟨y,h3,d⟩:=bX a;obtain⟨px,e3⟩:=eA h3;obtain⟨c,g,i⟩:=dY d;cases i;obtain⟨p,q,j⟩:=mK g;apply kq;exact⟨px,p,q,ap,by rw[eY l,tU h0,e3,j]⟩);clear h1; obtain⟨hc,t⟩:=bO s;simp only[ah,ef,bne_iff_ne]at hc;clear s; obtain⟨⟨⟨⟨⟨⟨⟨⟨⟨c1,c2⟩,u⟩,v⟩,w⟩,A⟩,B⟩,E⟩,H⟩,c10⟩:=hc;obtain⟨⟨j,k⟩,h3,I⟩:=bX t;clear t; obtain⟨xs,J',a⟩:=bX I;split at a
 .rename_i L';refine ac λ_ kq=>?_;clear I; obtain⟨ok,h5,M⟩:=bX a;clear a; obtain⟨i,O',P⟩:=bX M;clear M; obtain⟨m,o,Q⟩:=bX P;clear P; obtain⟨R,h8,rfl⟩:=dY Q;clear Q; obtain⟨CD,d,hok⟩:=c3.hnd D ok h5;obtain⟨d1,d2,d3⟩:=eo c1;obtain⟨e1,e2,e3⟩:=eo v;obtain⟨U',V,f3⟩:=eo A;obtain⟨i',e,e0⟩:=qp h3;apply kq;rw[fj]at e;clear h3 kq; subst e;obtain⟨kk,fa,fd,ps,F,e4,hm,hk,hb⟩:=c3.fx _ fn k e0;have ha:=j7 hf J';have c:X.N=S.N:=T'.N;have l:m≠R:=λz=>by
   subst z;have z1:=eK o;have q:=eK h8;simp_all
  clear hf J' e0; cases ha with
  |nil=>simp_all
  |cons hs he r=>
    exact P4.imp (M3 (by rwa[c]) c3.st c3.fm (jr (X:=X.j3) T' w) d e1 (by rw[c];exact eK O') (qF (X:=X.j3) T' E) (.inl (T'.fn top _)) (by rw[c];exact eK o) (by rwa[show X.env.scope.names=S.nm from T'.nm]) (by rw[c];exact eK h8) (qF (X:=X.j3) T' H) (.inl (T'.fn top _)) U' V F e4 (jr (X:=X.j3) T' c2) hm hk hb d1 (jw he r.sa (cj hs)) (cj hs) (lT r.star)) (Me l L' hok)
 .cases a
def TF(h:OB b=Y z):∃p,b=[.If z.1 z.2.1 z.2.2 p]:=by
 obtain⟨s,a,c⟩:=bX h;obtain rfl:=eY a
 grind
def UC(T':oU G C S X.j3)(c3:StX G C X EE)(top:S.top=U)(B:S.N.Nodup)(hf:∀e x,f e=Y x->SE X.j3 C e x/\(pO e=U->ST X.j3 C e x))(h:ab4 G S f b hs=Y y):SS X C EE (.Try b hs [] [] pos) y:=by
 obtain⟨⟨D,n,i⟩,h2,d⟩:=bX h;obtain⟨E,t,K,u,A,rfl⟩:∃E O' K M A,hs=[.ExceptHandler (Y _) _ [.Assign _ _ M] A]:=(by
  refine ac λ_ V=>?_;obtain⟨hd,P,d⟩:=bX h2;obtain⟨t,r,b,A⟩:=hd;obtain⟨t,rfl,g⟩:=bX d;obtain⟨s,Q,w⟩:=bX g;clear g; obtain⟨m,rfl,j⟩:=bX w;clear w; obtain⟨st,h5,a⟩:=bX j;clear j; obtain⟨⟨ts,e,M⟩,h0,a⟩:=bX a;obtain⟨u,k,l⟩:=bX a;obtain⟨z,h8,c⟩:=bX l;clear l; obtain⟨E,e3⟩:=eA Q;obtain⟨O',o⟩:=eA k;obtain⟨K,p⟩:=eA h8;apply V;split at c
  .rename_i q;refine ac λ_ V=>?_;cases c;apply V;exact⟨E,O',K,M,A,by rw[eY P,eY h5,tU h0,e3,o,p,q]⟩
  .cases c);have g:=λe x h=>(hf e x h).1
 cases hi:OB b with
 |none=>
   rw[hi]at d;exact λh_ s σ H D I z=>wpAny_Try_except ((BD T' c3 top B g d) h_ s σ H D I z)
 |some z=>
   obtain⟨c,a,v⟩:=z;have d:(match OB b with|some z=>if pO _=U then(f _).bind λxc=>(GL G S f _ _).bind λj=>(GL G S f _ _).map λk=>Sx.ifs xc _ [k]else L|none=>_)=Y y:=d;rw[hi]at d;refine ac λ_ V=>?_;obtain⟨p,rfl⟩:=TF hi;obtain⟨l,m⟩:=bO d;obtain⟨xc,Q,o⟩:=bX m;obtain⟨j,r,s⟩:=bX o;obtain⟨k,h5,rfl⟩:=dY s;apply V;exact λh_ s x y D I w=>wpAny_Try_except ((P4.imp (Xz ((hf _ _ Q).2 l) (BD T' c3 top B g r) (BD T' c3 top B g h5)) (λD σ H c=>by
       refine ac λ_ V=>?_;obtain⟨Fz,H₀,F,ρ,out,h,R,k⟩:=c;obtain⟨⟨d,fr⟩,P,h⟩:=bX h;obtain⟨z,e,h⟩:=bX h;obtain⟨g,sp,b⟩:=R.hZ;apply V;refine (λ_ _ _ q=>q) _ _ _ ⟨_,d,fr,z,P,e,g,b.step.good,b.full,λF1 i st=>?_⟩;have a:=Step.shrink R.step.good sp st
       cases z with
       |true=>exact Dq ⟨Fz,_,_,ρ,_,qq▸h,R.moved a,k.mono a.ff⟩
       |false=>exact Dr ⟨Fz,_,_,ρ,_,qq▸h,R.moved a,k.mono a.ff⟩)) h_ s x y D I w)
set_option tactic.hygienic false
theorem PB(T':oU G C S X.j3)(c3:StX G C X EE)(top:S.top=U)(nd:S.N.Nodup):∀(n:T)(st:fP)(y:Sx),cS G S n st=Y y->SS X C EE st y
 |0,_,_,h=>by cases h
 |n+1,st,y,h=>by
   have m:=λe x(h)=>vh n S e x h _ T';have hf:=λe x h=>(m e x h).1;have E:=PB T' c3 top nd n;have k:=λs t y(h:VW S _ s t=Y y)ss xs=>GN (EE:=EE) (ss:=ss) (xs:=xs) T' top nd hf h
   cases st with
   |Return v p=>exact PS.j3 (UG T' hf h)
   |Assign ts e p=>
     obtain⟨t,I,j⟩:=bX h;obtain rfl:=eY I;exact PS.j3 (UP T' top nd j)
   |Expr e p=>
     cases o:Pz G S _ e with
     |some z=>
       have h:(match Pz G S _ e with|some y=>Y y|none=>cExp G S _ e)=Y y:=h;rw[o]at h;cases h;obtain⟨⟨x,args⟩,I,b⟩:=bX o;clear o; obtain⟨s,cp,rfl⟩:=mK I;clear I; obtain⟨B,c⟩:=bO b;simp only[ah]at B;obtain⟨⟨j,n⟩,K,d⟩:=bX c;obtain⟨xs,h3,a⟩:=bX d;have a:(if Z xs=n then Y (Sx.VQ j xs)else L)=Y y:=a;split at a
       .rename_i g;cases a;obtain⟨d1,d2,d3⟩:=eo B.1.1.1;obtain⟨i,e1,e2⟩:=qp K;rw[fj]at e1;clear K; subst e1;obtain⟨k,q,fd,ps,F,l,m,hk,hb⟩:=c3.fx _ x n e2;have ha:=j7 hf h3;clear hf h3 e2; cases ha with
        |nil=>exact absurd B.1.2 (by simp)
        |cons E he r=>exact PS.imp (tf (AV F l (jr (X:=X.j3) T' B.1.1.2) m hk hb .nil c3.px (PA.j3 (jw he r.sa (cj E))) d1 (cj E) (lT r.star)) W) λD σ H b=>by
                         refine ac λ_ M=>?_;obtain⟨Fz,P,G,V,Q,h,R,k⟩:=b
                         apply M;exact E3 (mk:=λ_=>.nx V) g h R k λd fr e v c F' H' sp t st i fq=>by
                          subst e;have a:=Step.shrink R.step.good sp st;exact k _ H' σ a.ff (R.moved a)
       .cases a
     |none=>
       have h:(match Pz G S _ e with|some y=>Y y|none=>cExp G S _ e)=Y y:=h;rw[o]at h;exact PS.j3 (UN T' hf h)
   |If c a b p=>
     refine ac λ_ M=>?_;obtain⟨q,j⟩:=bO h;obtain⟨xc,I,rfl⟩:=dY j;apply M;exact PS.imp (aa6 (PT.j3 ((m _ _ I).2 q)) (jd E k _) (jd E k _)) λD σ H r=>by
      refine ac λ_ M=>?_;obtain⟨Fz,P,F,V,Q,h,R,k⟩:=r;obtain⟨⟨d,fr⟩,i,h⟩:=bX h;obtain⟨z,e,h⟩:=bX h;obtain⟨f,sp,l⟩:=R.hZ;apply M;refine⟨_,d,fr,z,i,e,f,l.step.good,l.full,λF1 g st=>?_⟩;have o:=Step.shrink R.step.good sp st
      cases z with
      |true=>
        exact Dq ⟨Fz,_,_,V,_,h,R.moved o,k.mono o.ff⟩
      |false=>
        exact Dr ⟨Fz,_,_,V,_,h,R.moved o,k.mono o.ff⟩
   |For tg iter body l p=>
     obtain⟨he,j⟩:=bO h;obtain rfl:=gP.mp he;obtain⟨⟨one,tn⟩,h0,r⟩:=bX j;clear j; obtain⟨B,u⟩:=bO r;rw[ah]at B;obtain⟨ts,I,A⟩:=bX u;clear u; obtain⟨g,d,i⟩:=Mh T' top nd h0 B.1 I;have hp:=c3.po;obtain⟨it,K,rfl⟩:=dY A;clear A; obtain⟨k1,k2⟩:=VZ T' hf K
     cases it with
     |itv a=>exact have z:=(PE.j3 (k2 a W));PS.imp (M9 hp T'.calm (PI.or (PI.or (HL z) (Nh z)) (Ni z)) (PG.j3 i) (jd E k _) (lD B.2)) λD σ H q=>by
               refine ac λ_ M=>?_;obtain⟨Fz,P,F,V,Q,h,R,k⟩:=q;obtain⟨⟨items,ρ'⟩,I,h⟩:=bX h;obtain⟨⟨w,fr,ρ1⟩,K,h3⟩:=bX I;obtain⟨ds,c,h5⟩:=dY h3;clear h3; cases h5
               apply M;cases w with
               |lst es=>
                 cases c;refine .inl (.inl (Bq R K λv Fm F' H' l b st r f=>?_));obtain⟨o,vs,rfl,t,rr⟩:=r;exact⟨o,W,⟨vs,st.good.sub.seq t⟩,tw d (l.trans st.ff) (b.moved st) (λe s=>s) (zO t rr) h k⟩
               |tup es=>
                 cases c;refine .inl (.inr (Bq R K λv Fm F' H' l b st r f=>?_));obtain⟨o,vs,rfl,t,rr⟩:=r;exact⟨o,W,⟨vs,(t.mono st.good.sub).sq⟩,tw d (l.trans st.ff) (b.moved st) (λe s=>s) (Dm t rr) h k⟩
               |str x=>
                 refine ac λ_ M=>?_;cases c;apply M;refine .inr (Bq R K λv Fm F' H' l b st r f=>?_);cases r;exact⟨x,W,tw d (l.trans st.ff) (b.moved st) (λe s=>s) Dp h k⟩
               |_=>cases c
     |rng es=>exact AD hp T'.calm (PI.j3 k1) (λa z=>nomatch z) (PG.j3 i) d (jd E k _) (lD B.2)
     |zip es=>exact AD hp T'.calm (PI.j3 k1) (λa z=>nomatch z) (PG.j3 i) d (jd E k _) (lD B.2)
     |enu a=>exact AD hp T'.calm (PI.j3 k1) (λa z=>nomatch z) (PG.j3 i) d (jd E k _) (lD B.2)
     |rev a=>exact AD hp T'.calm (PI.j3 k1) (λa z=>nomatch z) (PG.j3 i) d (jd E k _) (lD B.2)
   |While c body l p=>
     obtain⟨B,j⟩:=bO h;rw[ah]at B;obtain rfl:=gP.mp B.1;obtain⟨xc,I,rfl⟩:=dY j;exact Mp c3.po (PT.j3 ((m _ _ I).2 B.2)) (jd E k _)
   |Try b E l fin p=>
     obtain⟨B,j⟩:=bO h;rw[ah]at B;obtain rfl:=gP.mp B.1;obtain rfl:=gP.mp B.2;exact UC T' c3 top nd m j
   |Raise v w p=>obtain⟨e,rfl,g0⟩:=bX h;obtain⟨b,d⟩:=bO g0;clear g0; obtain rfl:=dC.mp b;obtain⟨⟨x,args⟩,I,g⟩:=bX d;obtain⟨f,cp,rfl⟩:=mK I;obtain⟨B,i⟩:=bO g;rw[ah]at B;refine ac λ_ M=>?_;obtain⟨a,K,j⟩:=bX i;obtain rfl:=eY K;obtain⟨E,l⟩:=bO j;obtain⟨⟨c,fl⟩,h3,m⟩:=bX l;obtain⟨t,n,rfl⟩:=dY m;obtain⟨d1,d2,d3⟩:=eo B.1;obtain⟨fI,fd,k,o,q,F,r,hb⟩:=c3.ex x c fl h3;apply M;exact PS.imp (M8 c3.wx T'.calm (jr (X:=X.j3) T' B.2) o q d1 F r hb (jw (hf _ _ n) o6 (cj E)) (cj E)) λD σ H g=>by
                   refine ac λ_ M=>?_;obtain⟨Fz,P,G,V,Q,h,R,k⟩:=g;obtain⟨⟨d,fr⟩,I,h⟩:=bX h;obtain⟨i,K,h⟩:=dY h;cases h;obtain⟨j,sp,u⟩:=R.hZ;apply M;refine⟨_,[d],by simp only[mW];rw[I];rfl,j,u.step.good,u.full,λvs F' H' st y=>?_⟩;obtain⟨w,m,rfl,l,e⟩:=y;cases e;exact⟨w,W,λdx b=>by rw[Tn K l];exact k F' H' dx (u.step.trans st) b⟩
   |_=>cases h
end
structure Df where
 st:fP
 p:T
 n:T
 body:O Sx
noncomputable def Df.name(d:Df):aV:=match d.st with
 |.FunctionDef x _ _ _ _ _ _ _ _ _=>x
 |_=>""
def Df.ps(d:Df):O aV:=(v9 d.st).args.map λa=>a.arg
def Df.N(d:Df):O aV:=d.ps++((br d.st).names.filterMap λp=>if(p.2 == .local || p.2 == .cell) && !(d.ps.contains p.1)then Y p.1 else L)
def Cn(D:O Df):T->Fs
 |0=>λ_ _=>L
 | n+1=>λj a=>match D[j]? with
   |some d=>KS (Cn D n) d.p d.n d.body a
   | none=>if vt<=j then match D[j - vt]? with
     |some d=>KR (Cn D n) d.p d.n d.body a
     |none=>L
     else if yP<=j then match D[j - yP]? with
     |some d=>exL (Cn D n) d.p d.n d.body a
     |none=>L
     else L
def J2(D:O Df)(con:O (aV×Dat))(xg:Xg):Sg:=⟨D.map λd=>(d.name,d.p),con,xg⟩
structure Z5(G:Sg)(d:Df):Prop where
 sc:mG d.N d.ps (br d.st)
 pn:Z d.ps=d.p
 nn:Z d.N=d.n
 cmp:rj (cS G ⟨d.N,(br d.st).names,U⟩ 40) (VW ⟨d.N,(br d.st).names,U⟩ (cE G 40 ⟨d.N,(br d.st).names,U⟩)) (jQ d.st)=d.body
section
variable{P:ck}{w:cW}{K:Fg}{mg:aV->a5 ai}{base:bP}
structure At(K:Fg)(mg:aV->a5 ai)(d:Df)(f:aD)(fd:iR):Prop where
 fn:Z2 K d.name d.name d.st f fd
 mgf:mg d.name=Y (.ref f)
 bd:∀us:O ai,Z us=Z d.ps->gw fd ⟨us,[]⟩=pure (d.ps.zip us)
def rdK(K:Fg)(d:Df):a5 (aD×ai×a5 aD×iR×c4 (a5 ai)):=match fJ K c9 d.name with
 | some (Y (.ref f))=>match K.lookup f with
   |some ⟨a,b,.func c,l⟩=>Y (f,a,b,c,l)
   |_=>L
 |_=>L
def fnK(d:Df)(kV g B:ai)(C:a5 aD)(y F:ai):iR:=oW d.name d.name (v9 d.st) (jQ d.st) (br d.st) .none kV g B C y F
def rdB(K:Fg)(d:Df):cc:=match rdK K d with
 |some x=>p8 K x.2.2.2.1.code d.name && dJ K (.ref x.1)
 |none=>J
def rdF(K:Fg)(d:Df):a5 iR:=(rdK K d).map λx=>x.2.2.2.1
def rdG(K:Fg)(d:Df):a5 iR:=(rdK K d).map λx=>fnK d x.2.2.2.1.kwdefaults x.2.2.2.1.doc x.2.2.2.1.pyModule x.2.2.2.1.annotations x.2.2.2.1.code x.2.2.2.1.closureTuple
def ZQ{D:O Df}(X:K.In h)(G:h.Ns c9 mg)(I:D.map (rdF K)=D.map (rdG K))(B:D.all (rdB K)=U)(R:∀(kV C S:ai) (an:a5 aD) (F ct:ai) (u:T->ai),D.map (λd=>gw (fnK d kV C S an F ct) ⟨(aR d.ps.length).map u,[]⟩)=D.map λd=>pure (d.ps.zip ((aR d.ps.length).map u))) :
  ∀d∈D,∃f y,At K mg d f y:=λd m=>by
 have j:=uV.mp I d m;have k:=bc.mp B d m;unfold rdB at k;unfold rdF rdG at j
 cases e:rdK K d with
 |none=>rw[e]at k;cases k
 |some x=>
   obtain⟨f,o,p,y,l⟩:=x;rw[e]at j k;have j :=bh j;unfold rdK at e;split at e
   .rename_i r a;split at e
    .rename_i b;refine ac λ_ c=>?_;cases e;apply c;refine⟨f,y,⟨⟨_,_,_,_,_,_,_,_,_,j,b,(eP.mp k).1⟩,(eP.mp k).2⟩,nO X G a,λn g=>?_⟩;have:=uV.mp (R y.kwdefaults y.doc y.pyModule y.annotations y.code y.closureTuple λi=>n.getD i .none) d m
     have q:(aR d.ps.length).map (λi=>n.getD i .none)=n:=by
      refine jX (by rw[aE,ba,g]) λi I B=>?_;rw[vP,tY,fi,ag B];rfl
     rw[q]at this;exact(c7 (λz=>gw z _) j).trans this
    .cases e
   .cases e
def acC(K:Fg)(mg:aV->a5 ai)(x:aV)(c:aD)(f:aV):Prop:=mg x=Y (.ref c)/\∃a b,wu K c a=U/\(∀P w base k,jt P w K mg base sJ (k+1) a b ["self",f] (wI c f))/\Binds K b ["self",f] []
structure Here(K:Fg)(mg:aV->a5 ai)(D:O Df)(con:O (aV×Dat))(xg:Xg):Prop where
 ok:∀d∈D,Z5 (J2 D con xg) d
 fn:∀d∈D,∃f fd,At K mg d f fd
 ln:Z D<=yP
 blt:∀x∈mY,mg x=L
 con:∀x d,con.lookup x=Y d->∃v u,mg x=Y u/\RelV v u/\CV K d v
 exc:∀x c f,xg.exc.lookup x=Y (c,f)->acC K mg x c f
 cls:∀x tab,xg.cls.lookup x=Y tab->P6 K mg x tab
 Jp:∀f cs,xg.Jp.lookup f=Y cs->∀c∈cs,E2 K c f=U
 hnd:∀n ok,xg.hnd.lookup n=Y ok->∃CD,mg n=Y (.ref CD)/\∀c∈ok,iJ K (.ref c) (.ref CD)=Y U
def _root_.L2.i5.mono(r:i5 k A)(h:m<=k):i5 m A:=⟨r.hd,by have:=r.dp;exact nZ this (Nat.mul_le_mul_left 3 h),by have:=r.un;exact nZ this (Nat.mul_le_mul_left 16 h)⟩
theorem GW{D:O Df}{con:O (aV×Dat)}{xg:Xg}(T':Here K mg D con xg):∀(n j:T)(d:Df)(f:aD)(fd:iR),D[j]?=Y d->At K mg d f fd->jt P w K mg base sJ (n+2) f fd d.ps (Qj K d.ps.length (Cn D n j))/\jt P w K mg base sJ (n+2) f fd d.ps (WS K d.ps.length (Cn D n (j+yP)))/\jt P w K mg base (vF P w) (n+2) f fd d.ps (Qi K d.ps.length (Cn D n j) (Cn D n (j+vt)))
 |0,j,d,f,fd,t,_=>by
   have no:∀vs H Q E,¬Qj K d.ps.length (Cn D 0 j) vs H Q E:=λvs H Q E h=>by
    obtain⟨_,ds,z,fr,h,_⟩:=h;cases h
   have B:∀vs H Q E,¬WS K d.ps.length (Cn D 0 (j+yP)) vs H Q E:=λvs H Q E h=>by
    obtain⟨_,d,ds,y,r,e,v,us,S,F,_,h,_⟩:=h;cases h
   have C:∀vs H Q E,¬Qi K d.ps.length (Cn D 0 j) (Cn D 0 (j+vt)) vs H Q E:=λvs H Q E h=>by
    obtain⟨_,⟨ds,z,fr,h,_⟩|⟨ds,c,f,k,fr,h,_⟩⟩:=h<;>cases h
   exact⟨⟨λvs H Q E h=>absurd h (no vs H Q E),λA outer s H args us vs Q E _ _ _ _ h=>absurd h (no vs H Q E)⟩,⟨λvs H Q E h=>absurd h (B vs H Q E),λA outer s H args us vs Q E _ _ _ _ h=>absurd h (B vs H Q E)⟩,⟨λvs H Q E h=>absurd h (C vs H Q E),λA outer s H args us vs Q E _ _ _ _ h=>absurd h (C vs H Q E)⟩⟩
 |n+1,j,d,f,fd,t,at_=>by
   have ok:=T'.ok d (aY t);have J':j<yP:=aQ (aM.mp t).1 T'.ln
   have e:Cn D (n+1) j=KS (Cn D n) d.ps.length d.N.length d.body:=by
    funext ds;simp only[Cn,t,ok.pn,ok.nn]
   have L':Cn D (n+1) (j+yP)=exL (Cn D n) d.ps.length d.N.length d.body:=by
    funext ds;have I:¬vt<=j+yP:=by unfold vt yP at *;exact fun z => (a9 z (rN J'))
    simp only[Cn,(gY (aa T'.ln (jy _ _))),cv I,cb (jy yP j),LK,t,ok.pn,ok.nn]
   have M:Cn D (n+1) (j+vt)=KR (Cn D n) d.ps.length d.N.length d.body:=by
    funext ds;have o:D[j+vt]?=L:=gY (aa T'.ln (by unfold vt yP;simp));simp only[Cn,o,cb (jy vt j),LK,t,ok.pn,ok.nn]
   have p:Z d.ps<=Z d.N:=by have:=c7 iD ok.sc.pre;grind
   have G:∀(i:T)(x:aV)(m:T),(J2 D con xg).fns[i]?=Y (x,m)->∃d' l b,D[i]?=Y d'/\x=d'.name/\m=Z d'.ps/\At K mg d' l b:=λi x m hi=>by
    unfold J2 at hi;rw[aS]at hi;obtain⟨d',e1,e2⟩:=dY hi;cases e2;obtain⟨l,b,a⟩:=T'.fn d' (aY e1);exact⟨d',l,b,e1,W,(T'.ok d' (aY e1)).pn.symm,a⟩
   have S:∀(u:U4)(cdv:ai)(A:bJ)(outer:O B6)(s:aj)(H:Hp)(E:XK),i5 _ (A.deeper (fe d.name (br _) _ f cdv))->oU (J2 D _ xg) _ ⟨d.N,(br _).names,U⟩ (kQ u P w K mg _ d.N _ (br _) f _ A outer s H E).j3:=λu cdv A outer s H E g=>by
    refine⟨W,W,ok.sc.kind,W,?_,W,λ_ _=>W,λi x m hi=>?_,T'.blt,T'.con,T'.cls,T'.Jp⟩
    .show(A.deeper _).units+21<eC;exact jj g.units
    .refine ac λ_ kq=>?_;obtain⟨d',l,b,e1,rfl,rfl,a⟩:=G i x m hi;apply kq;have q:=GW T' n i d' l b e1 a;exact⟨_,l,b,_,⟨q.1,q.2.1⟩,g,a.mgf,a.fn.kp,.all a.bd⟩
   have c3:∀(u:U4)(X:Cx)(EE:XK)(cdv:ai)(A:bJ)(outer:O B6)(s:aj)(H:Hp)(E:XK),i5 (n+2) (A.deeper (fe d.name (br d.st) s.heap.objs.size f cdv))->X=kQ u P w K mg base d.N d.name (br d.st) f cdv A outer s H E\/X=(kQ u P w K mg base d.N d.name (br d.st) f cdv A outer s H E).j3->Ef X EE->qx (vF _ _) X EE->qO (aq _ _) ..->StX (J2 D _ xg) _ X EE:=λu X EE cdv A outer s H E g e O' R U'=>by
    refine⟨O',R,U',λi x m hi=>?_,λx c fl I=>?_,?_,?_,?_⟩
    .obtain⟨d',l,b,e1,rfl,rfl,a⟩:=G i x m hi;rcases e with rfl|rfl<;>exact⟨_,l,b,_,((GW T' n i d' l b e1 a).2.2),g,a.mgf,a.fn.kp,.all a.bd⟩
    .refine ac λ_ kq=>?_;obtain⟨V,fI,fd,q,F,hb⟩:=T'.exc x c fl I
     apply kq;rcases e with rfl|rfl<;>exact⟨fI,fd,1,V,q,F _ _ _ 0,g.mono (by simp),hb⟩
    .rcases e with rfl|rfl<;>exact T'.hnd
    .rcases e with rfl|rfl<;>rfl
    .rcases e with rfl|rfl<;>rfl
   rw[e,L',M]
   have hb:∀(cdv:ai)(A:bJ)(outer:O B6)(s:aj)(H:Hp)(E:XK),i5 _ (A.deeper (fe _ (br _) _ f cdv))->BI (kQ sJ P w K mg _ _ _ (br _) f _ A _ s H E).j3 _ E0 (jQ _) _:=λcdv A outer s H E g=>
    ok.cmp▸jd (PB (X:=(kQ sJ P w K mg _ d.N _ (br _) f _ A _ s H E).j3) (S sJ _ A _ s H E g) (c3 sJ _ E0 _ A _ s H E g (.inr rfl) (λ_ _ _ _ _ _ _ _ _ _ _ _ _ z=>z) (λ_ _ _ _ _ _ _ z=>by
     obtain⟨_,_,_,_,_,_,_,_,_,z⟩:=z
     exact z) PassesOwn.never) W ok.sc.nd 40) (λe0 e3 y h ss xs=>GN (S sJ _ A _ s H E g) W ok.sc.nd (λe x h=>(vh 40 _ e x h _ (S sJ _ A outer s H E g)).1) h) _
   exact⟨Zb at_.fn ok.sc p hb,Za at_.fn ok.sc p hb,Y9 (k:=n+2) at_.fn ok.sc p λcdv A outer s H E g=>ok.cmp▸jd (PB (S _ _ A _ s H E g) (c3 _ _ E _ A _ s H E g (.inl rfl) LV Ko PassesOwn.leaving) W ok.sc.nd 40) (λe0 e3 y h ss xs=>GN (S _ _ A _ s H E g) W ok.sc.nd (λe x h=>(vh 40 _ e x h _ (S _ _ A _ s H E g)).1) h) _⟩
def Ms(K:Fg):Sp:=λc H Q _=>∃(a:aD) (b:O cx),c=[.ref a]/\pC K H a (b.map V.int)/\Z b<=63/\∀d,Q (.bl U) d
def Kf(ns:O cx):cQ K F (ns.map Dat.int) (ns.map V.int):=by
 induction ns with
 |nil=>exact rfl
 |cons n r a=>exact⟨_,_,W,W,a⟩
def YE{D:O Df}{con:O (aV×Dat)}{xg:Xg}{l:j5}(T':Here K mg D con xg)(C:D[j]?=Y d)(O':d.ps=[x])(F:mg d.name=Y (.ref y))
  (B:∀ns:O cx,Z ns<=63->∃fr,Cn D n j [.lst (ns.map Dat.int)]=Y (.bl U,fr)) :
  ∃g:iR,(∀(s:aj)(u:ai),Eo s g ⟨[u],[]⟩ [(x,u)])/\∀base:bP,K.In base->base.Ns c9 mg->jt l.prog w K mg base sJ (n+2) y g [x] (Ms K):=by
 refine ac λ_ i=>?_;obtain⟨f,g,c⟩:=T'.fn d (aY C);have e:=F.symm.trans c.mgf
 cases e;apply i;refine⟨g,λs u=>?_,λbase _ _=>?_⟩
 .have:=c.bd [u] (by rw[O'];rfl)
  rw[O']at this;exact .of_eq this
 .have:jt l.prog w K mg base sJ _ y g _ (Ms K):=jt.imp (GW T' n j d y g C c).1 λp H Q E k=>by
    obtain⟨a,ns,rfl,b,m,q⟩:=k;obtain⟨fr,h⟩:=B ns m;refine⟨by rw[(Eq.mpr (id (c7 (fun _a => Z _a = 1) O')) (Eq.refl _))];rfl,_,_,fr,h,H,⟨cz.refl _,λ_ _ z=>z⟩,⟨_,_,W,⟨a,_,W,b,Kf ns⟩,W⟩,λv t o _ r _=>?_⟩;rw[r];exact q o
  simp_all
def walk{l:j5}{d:DefRec}{K:Params->Fg}(c3:l.most=Y 63)(S:i5 n iy)(B:d.params.defaults=[])
  (e0:∀(w:cW)(h:bP),YP w h->(K w.params).In h)
  (F:∀(w:cW)(mg:aV->a5 ai)(O':aD)(h:bP),(K w.params).In h->h.Ns c9 mg->mg d.name=Y (.ref O')->
   ∃I:iR,(∀(s:aj)(u:ai),Eo s I ⟨[u],[]⟩ [(x,u)])/\∀base:bP,(K w.params).In base->base.Ns c9 mg->jt l.prog w (K w.params) mg base sJ n O' I [x] (Ms (K w.params))) :
  yE q loose XP YP l.row.toRowW d [] (λf R=>JC f R):=
 (by have k:∀(w:cW)(H:Hp)(f:aD)(u:O _),Z u<=63->ZX H->pC (K w.params) H f (u.map _)->(fun w => Ms (K _)) w _ H (λv _=>v=.bl U) λ_ _ _=>False:=λ_ _ a X hl _ b=>⟨a,X,W,b,hl,λ_=>W⟩;have A:∀(w:cW)(H:Hp)(s:aj)(e:ai)(E:aj),(fun w => sJ) w [] H s (λ_ _ _=>False) e E->False:=λ_ _ _ _ _ z=>z;refine Att.Ea c3 B λw N Q mg D C o pm s doc f R u G h ho hd m i c hints hlen p=>?_;have j:=e0 w _ h;obtain⟨I,hb,r⟩:=F w mg C _ j G.T.g i;exact Od j G.T.g G.T.b G.T.builtins G.T.nolimit p c hints (aa hlen cV) S r hb (λH t y=>k w H f u hlen t y) λH e E=>A w H _ e E)
end
def UQ{K:Fg}(X:K.In h)(G:h.Ns c9 g)(z:mY.map (λx=>fJ K c9 x)=bH 20 (Y L)):∀x∈mY,g x=L:=λx a=>by
 have q:fJ K c9 x∈mY.map (λx=>fJ K _ x):=bT.mpr ⟨x,a,W⟩;rw[z]at q;exact PySem.W.mg_none_of X G (List.eq_of_mem_replicate q)
def dfL(G:Sg)(d:Df):ScopeKind×cc×cc×cc×T×T×O Sx:=((br d.st).kind,(br d.st).isCoroutine,(br d.st).isGenerator,decide (d.N.Nodup/\(∀x∈d.ps,(br d.st).names.lookup x=Y .local\/(br d.st).names.lookup x=Y .cell)/\∀y∈(br d.st).names,y.2≠.free),d.ps.length,d.N.length,rj (cS G ⟨d.N,(br d.st).names,U⟩ 40) (VW ⟨d.N,(br d.st).names,U⟩ (cE G 40 ⟨d.N,(br d.st).names,U⟩)) (jQ d.st))
def X9{G:Sg}{D:O Df}(h:D.map (dfL G)=D.map λd=>(.function,J,J,U,d.p,d.n,d.body)):∀d∈D,Z5 G d:=λd j=>by
 have e:=uV.mp h d j;unfold dfL at e;simp only[qW]at e;obtain⟨k,l,m,f,e5,g,i⟩:=e;obtain⟨a,b,c⟩:=c8 f;exact⟨⟨k,l,m,a,List.take_left' W,b,c⟩,e5,g,i⟩
end M
namespace M
open L2
section
@[simp] def pB:hJ .add (.int i) (.int j)=Y (.int (i+j),J):=rfl
@[simp] def ZM:hJ .sub (.int i) (.int j)=Y (.int (i - j),J):=rfl
def pA(h:0<j):hJ .mod (.int i) (.int j)=Y (.int (i % j),J):=cb h
@[simp] def sg:jg .len [.lst xs]=Y (.int xs.length,J):=rfl
@[simp] def GP:jg .len [.tup xs]=Y (.int xs.length,J):=rfl
@[simp] def tH(ns:O cx):nv (ns.map Dat.int)=U:=by
 induction ns with
 |nil=>rfl
 |cons n r a=>show(U && nv (r.map Dat.int))=U;rw[a];rfl
end
section
def fG{ds:O Dat}(h:Z ds=np)(B:e9 C body (ds.map (λd=>Y (d,J))++bH (nl - np) L)=Y (.rt d fr)):KS C np nl body ds=Y (d,fr):=by
 unfold KS;rw[cb h,B];rfl
def lL(h:og C s ρ=Y (.nx ρ1)):e9 C (s::ss) ρ=e9 C ss ρ1:=by show(og C s ρ).bind _=_;rw[h];rfl
def Q7(h:og C s ρ=Y (.rt d fr)):e9 C (s::ss) ρ=Y (.rt d fr):=by show(og C s ρ).bind _=_;rw[h];rfl
def AY(h:og C s ρ=Y (.nx ρ1)):e9 C [s] ρ=Y (.nx ρ1):=by show(og C s ρ).bind _=_;rw[h];rfl
def IH(h:bA C e (full ρ)=Y (d,fr))(g:iZ d=Y U):og C (.ifs e a b) ρ=e9 C a ρ:=by show(bA C e _).bind _=_;rw[h];show(iZ d).bind _=_;rw[g];rfl
def Dy(h:bA C e (full ρ)=Y (d,fr))(g:iZ d=Y J):og C (.ifs e a b) ρ=e9 C b ρ:=by show(bA C e _).bind _=_;simp_all
end
section
def yg(g:-18446744073709551616<i)(y:i<18446744073709551616):hJ .mul (.int i) (.int j)=Y (.int (i * j),J):=cb (.inl ⟨g,y⟩)
def Bp{C:Fs}{i:T}{e:Ex}{ρ:dN}:og C (.set i e) ρ=(bA C e (full ρ)).bind λx=>if(im x.1 || x.2)=U then Y (.nx (ρ.set i (Y (x.1,x.2 && !im x.1))))else(bA C e (wz (l8 e.fv ρ))).map λy=>.nx ((l8 e.fv ρ).set i (Y (y.1,y.2 && !im y.1))):=by
 show(zX C e ρ).map _=_;unfold zX
 cases bA C e (full ρ)with
 |none=>rfl
 |some x=>
   show pI _ (if(im _ || x.2)=U then _ else _)=if(im _ || x.2)=U then _ else _
   cases im _ || x.2 with
   |true=>rfl
   |false=>exact Qa ..
section
end
def uC{ds:O Dat}(h:Z ds<1000000):kP .app (.lst ds) [d]=Y (.lst (ds++[d])):=cb (by exact aa h cV)
def xP:og C (.loop one g (.rng es) body) ρ=(Br C (.rng es) (full ρ)).bind λds=>jS (iU one g) (e9 C body) ds ρ:=by
 show((Br C _ _).map _).bind _=_;cases Br C _ _<;>rfl
def uK:og C (.loop one g (.itv e) body) ρ=(bA C e (full ρ)).bind λx=>if(im x.1 || x.2)=U then(j9 x.1).bind λds=>jS (iU one g) (e9 C body) ds ρ
  else(bA C e (wz (l8 e.fv ρ))).bind λy=>(j9 y.1).bind λds=>jS (iU one g) (e9 C body) ds (l8 e.fv ρ):=by
 show((zX C e ρ).bind λx=>(j9 _).map _).bind _=_;unfold zX
 cases bA C e (full ρ)with
 |none=>rfl
 |some x=>
   refine (?_ : bV (bV (if(im _ || x.2)=U then _ else _) _) _=if(im _ || x.2)=U then _ else _)
   cases im _ || x.2 with
   |true=>refine (?_ : ((j9 x.1).map _).bind _=(j9 _).bind _);cases j9 _<;>rfl
   |false=>
     cases bA C e (wz (l8 _ ρ))with
     |none=>rfl
     |some y=>refine (?_ : ((j9 y.1).map _).bind _=(j9 _).bind _);cases j9 _<;>rfl
section
def ael:jL .eq (.str x) (.str y)=Y (x == y):=rfl
def aek(y:fW 19 ds=U)(B:fW 19 g=U):jL .eq (.tup ds) (.tup g)=Y (tO ds g):=by simp only[jL,jH,y,B,sS,ek,sE]
def adP(y:fW 19 ds=U)(B:fW 19 g=U):jL .ne (.tup ds) (.tup g)=Y (!tO ds g):=by simp only[jL,jH,y,B,sS,ek,sE]
end
def v8(h:bA C a ρ=Y (.bl x,f)):bA C (.and a b) ρ=if x=U then bA C b ρ else Y (.bl J,J):=by
 show(bA C a ρ).bind _=_;rw[h];rfl
def xU(h:bA C a ρ=Y (.bl x,f)):bA C (.or a b) ρ=if x=U then Y (.bl U,J)else bA C b ρ:=by
 show(bA C a ρ).bind _=_;rw[h];rfl
def IX(h:bA C c ρ=Y (d,f))(g:iZ d=Y x):bA C (.ite c a b) ρ=if x=U then bA C a ρ else bA C b ρ:=by
 show(bA C c ρ).bind _=_;simp_all
end
section
def n5:bA C (.v i) ρ=((ρ[i]?).join).map λd=>(d,J):=rfl
def qr:bA C (.bin o a b) ρ=(bA C a ρ).bind λx=>(bA C b ρ).bind λy=>hJ o x.1 y.1:=rfl
def GB:bA C (.cmp o a b) ρ=(bA C a ρ).bind λx=>(bA C b ρ).bind λy=>(jL o x.1 y.1).map λr=>(.bl r,J):=rfl
def xQ:bA C (.tup es) ρ=(pT C es ρ).bind λx=>if Z x.1<=1000000 then Y (.tup x.1,x.2)else L:=rfl
def Gy:bA C (.lst es) ρ=(pT C es ρ).bind λx=>if Z x.1<=1000000 then Y (.lst x.1,x.2)else L:=rfl
def IV:bA C (.ix a b) ρ=(bA C a ρ).bind λx=>(bA C b ρ).bind λy=>(xF x.1 y.1).map λd=>(d,J):=rfl
def O4:bA C (.sl a b c) ρ=(bA C a ρ).bind λx=>(bdE C ρ b).bind λl=>(bdE C ρ c).bind λh=>Fu x.1 l h:=rfl
def lM:bA C (.call f es) ρ=(mW C es ρ).bind λds=>C f ds:=rfl
def Ze:bA C (.blt f es) ρ=(mW C es ρ).bind λds=>jg f ds:=rfl
def df:mW C (e::es) ρ=(bA C e ρ).bind λx=>(mW C es ρ).map λr=>x.1::r:=rfl
def dZ:pT C (e::es) ρ=(bA C e ρ).bind λx=>(pT C es ρ).map λr=>(x.1::r.1,(x.2 || im x.1) && r.2):=rfl
def v5:bA C (.iH m o es) ρ=(bA C o ρ).bind λx=>(mW C es ρ).bind λds=>je m x.1 ds:=rfl
def IU:Br C (.itv a) ρ=(bA C a ρ).bind λx=>j9 x.1:=rfl
def Uk:Br C (.rng es) ρ=(mW C es ρ).bind FG:=rfl
def pz{ifs:O Ex}(hi:Br C it ρ=Y items)(F:Z items<=1000000)(B:rO (qt C g one (j4 g caps ρ) ifs elt) items=Y (y,fr)) :
  bA C (.comp g one caps it ifs elt) ρ=Y (.lst y,fr):=by
 show(Br C it ρ).bind _=_
 simp_all
def Ac:qt C 1 U ρ0 [] elt d=(bA C elt (ρ0.set 0 (Y d))).map Y:=rfl
def DW{ρ0:iO}(h:bA C i (ρ0.set 0 (Y d))=Y (x,f))(g:iZ x=Y t):qt C 1 U ρ0 [i] elt d=if t=U then(bA C elt (ρ0.set 0 (Y d))).map Y else Y L:=by
 unfold qt;simp only[Jo,bS,DQ,h,g];cases t<;>rfl
end
mutual
noncomputable def same:Dat->Dat->cc
 | .non,c=>match c with
   |.non=>U
   |_=>J
 | .bl a,c=>match c with
   |.bl b=>a == b
   |_=>J
 | .int i,c=>match c with
   |.int j=>i == j
   |_=>J
 | .str x,c=>match c with
   |.str y=>x == y
   |_=>J
 | .tup d,c=>match c with
   |.tup e=>wN d e
   |_=>J
 | .lst d,c=>match c with
   |.lst e=>wN d e
   |_=>J
 |_,_=>J
noncomputable def wN:O Dat->O Dat->cc
 |[],[]=>U
 |x::a,y::b=>same x y && wN a b
 |_,_=>J
end
mutual
theorem Hx:∀(x y:Dat),same x y=U->x=y
 |.non,y,h=>by cases y<;>first|rfl|(simp[same]at h)
 |.bl a,y,h=>by cases y<;>first|(simp[same]at h;rw[h])|(simp[same]at h)
 |.int a,y,h=>by cases y<;>first|(simp[same]at h;rw[h])|(simp[same]at h)
 |.str a,y,h=>by cases y<;>first|(simp[same]at h;rw[h])|(simp[same]at h)
 |.tup a,y,h=>by cases y<;>first|(rw[wM _ _ h])|(simp[same]at h)
 |.lst a,y,h=>by cases y<;>first|(rw[wM _ _ h])|(simp[same]at h)
theorem wM:∀(x y:O Dat),wN x y=U->x=y
 |[],y,h=>by cases y<;>first|rfl|(simp[wN]at h)
 |x::a,y,h=>by
   cases y with
   |nil=>simp[wN]at h
   |cons y b=>
     simp[wN]at h;rw[Hx _ _ h.1,wM _ _ h.2]
end
def sZ:g_->g_->cc
 |some (d,b),Y (e,c)=>same d e && b == c
 |none,L=>U
 |_,_=>J
def qh(h:sZ x y=U):x=y:=by
 cases x with
 |none=>cases y<;>first|rfl|(simp[sZ]at h)
 |some x=>
   cases y with
   |none=>simp[sZ]at h
   |some y=>
     obtain⟨d,b⟩:=x;simp[sZ]at h;rw[Hx _ _ h.1,h.2]
def CC{n dflt:T}{i:cx}(g:0<=i)(y:i<=n):HT.j8 n dflt (Y i)=i.toNat:=by
 obtain⟨k,rfl⟩:=kO g;exact gf (fQ.mp y)
def Jd{α:Type}{xs:O α}{i:cx}(g:0<=i)(y:i<=Z xs):cutD xs (Y i) L=xs.drop i.toNat:=by
 unfold cutD;rw[CC g y,HT.CF];rw[gC (by simp)]
def Je{α:Type}{xs:O α}{i:cx}(g:0<=i)(y:i<=Z xs):cutD xs L (Y i)=xs.take i.toNat:=by
 unfold cutD;rw[CC g y];rfl
def sj{xs g:O Dat}(h:Z xs+Z g<=1000000):hJ .add (.lst xs) (.lst g)=Y (.lst (xs++g),nv (xs++g)):=cb (qG h)
noncomputable abbrev T'(l:O T):aV:=⟨l.toArray⟩
def Jv(a b:O T):T' a++T' b=T' (a++b):=by
 show Str.mk _=_;simp[T']
def acu(a b:O T):(T' a == T' b)=decide (a=b):=by
 by_cases h:a=b
 .subst h;simp
 simp_all
def qv(a:O T):(T' a).length=a.length:=by show(a.toArray).size=_;rfl
def Ol:jL .isin (.str (T' [c])) (.str (T' l))=Y (decide (c∈l)):=by
 show Y _=_;rw[PySem.StrLaws.found_one _ c]
def NQ:jL .nin (.str (T' [c])) (.str (T' l))=Y (!decide (c∈l)):=by
 show Y _=_;rw[G4 _ c]
def AG:fF (T' l)=l.map λc=>T' [c]:=by
 unfold fF;simp[T']
def len_T{l:O T}(h:Z l<=1000000):jg .len [.str (T' l)]=Y (.int l.length,J):=by
 show(if(T' l).length<=aF then Y (Dat.int _,J)else L)=_;rw[qv,cb (by exact aa h cV)]
def Ee{a b:O T}(h:a.length+b.length<=1000000):hJ .add (.str (T' a)) (.str (T' b))=Y (.str (T' (a++b)),J):=by
 show(if(T' a).length+(T' b).length<=aF then Y (Dat.str _,J)else L)=_;rw[cb (by exact aa h cV),Jv]
def YV{l:O T}(g:Z l<=1000000)(h:i<Z l):xF (.str (T' l)) (.int (i:T))=Y (.str (T' [l[i]])):=by
 show(if(T' l).length<=aF then(yV _ _).map λc=>Dat.str ⟨_⟩else L)=_;rw[cb (by exact aa g cV)];rw[show yV _ _=Y l[i]from lN (by simp[h])];rfl
theorem Hi:∀ws:O (O T),Co (ws.map λl=>Dat.str (T' l))=Y (ws.map T')
 |[]=>rfl
 |x::r=>by simp only[az,Co,Hi r,cT]
def YR:∀ws:O (O T),vn (T' []) (ws.map T')=T' ws.flatten:=by
 intro ws;rw[show vn _ _=Str.join _ (ws.map T')from StrLaws.glued_eq_join _ _]
 induction ws with
 |nil=>rfl
 |cons x r a=>
   cases r with
   |nil=>show T' x=_;simp
   |cons y r=>
     show(T' x++T' []++Str.join _ _)=_;rw[a,Jv,Jv];simp
def A5{ws:O (O T)}(h:(ws.map (·.length)).sum<=1000000):je .join (.str (T' [])) [.lst (ws.map λl=>Dat.str (T' l))]=Y (.str (T' ws.flatten),J):=by
 simp only[je,mSL,Hi,bS];rw[cb,YR];rw[qv,cZ];have e:(Vd ((λx:aV=>x.length) ∘ T') ws)=ws.map _:=dS λl _=>qv l;rw[e];simpa using h
def ne_T(a b:O T):jL .ne (.str (T' a)) (.str (T' b))=Y (!decide (a=b)):=by
 show Y (!(T' a == T' b))=_;rw[acu]
theorem AH(k:T):∀a:O cx,fW k (a.map Dat.int)=U
 |[]=>by simp[fW]
 |a::as=>by simp[fW,jH,AH k as]
def GQ{xs g:O Dat}(h:Z xs+Z g<=1000000):hJ .add (.tup xs) (.tup g)=Y (.tup (xs++g),J):=cb (qG h)
end M
namespace M
open L2
noncomputable def oA:O T:=[97,98,99,100,101,102,103,104,105,106,107,108,109,110,111,112,113,114,115,116,117,118,119,120,121,122]
noncomputable def V6:O T:=[119,98,109,101]
abbrev Fm:=O T×O cx×O T
abbrev kA(t:Fm):Dat:=.tup [.str (T' t.1),.tup (t.2.1.map Dat.int),.str (T' t.2.2)]
def VP(xs:O T):(xs.map λc=>[c]).flatten=xs:=by
 induction xs with
 |nil=>rfl
 |cons a r b=>simp_all
def aaC(xs:O T):((xs.map λc=>[c]).map (·.length)).sum=Z xs:=by
 induction xs with
 |nil=>rfl
 |cons a r b=>rw[az,az,List.sum_cons,b];exact vp _ _
def Z9(k:T):O T:=(aR 4).filterMap λi=>if k / 2 ^ i % 2=1 then V6[i]? else L
def Oz(f:Fm):im (kA f)=U:=by
 show(U && (nv (f.2.1.map _) && (U && U)))=U;rw[tH];rfl
theorem pq:∀g:O Fm,nv (g.map kA)=U
 |[]=>rfl
 |f::g=>by show(im (kA f) && nv (g.map kA))=U;rw[Oz,pq g];rfl
def zw(a b c:Dat):Fu (.tup [a,b,c]) L (Y 2)=Y (.tup [a,b],J):=rfl
def Ct(f:Fm):jH 20 (.tup [.str (T' f.1),.tup (f.2.1.map Dat.int)])=U:=by
 show(U && (fW 18 (f.2.1.map _) && U))=U;rw[AH];rfl
noncomputable abbrev tI(l:O cx):Dat:=.tup (l.map Dat.int)
open Builtin Builtin.Str
def AF{x:O T}(g:p<=q)(y:q<=Z x)(h:strSliceIndices l u 1 (Z x)=strSliceIndices (Y (p:cx)) (Y (q:cx)) 1 x.length):dH (T' x) l u=T' ((x.drop p).take (q - p)):=by
 have e:=PySem.StrLaws.sliced_plain (T' x) g (by exact y);rw[qv]at e;unfold dH;rw[qv,h,e,PySem.StrLaws.strSliceIndices_plain g y];split
 .rename_i z;simp at z;have a:p=0:=aI (rP (ws g) y (af z.symm)) (lw0);clear g y h e; subst a;rw[z,Vf,vO]
 .rfl
open Builtin Builtin.Str
def My{x:O T}{q:T}(h:q<=Z x):dH (T' x) L (Y (q:cx))=T' (x.take q):=by
 rw[AF (aU _) h]
 .rfl
 .have e:max (0:cx) (min ((0)) (x.length))=0:=by rfl
  simp only[strSliceIndices,Int.lt_irrefl,eg,e,show((1) > 0)=True by simp,ek]
  rfl
end M
namespace M
open L2
section
variable{K:Fg}
mutual
noncomputable def RP(K:Fg):Dat->ai->cc
 |.str x,u=>match u with
   |.str y _=>decide (x=y)
   |_=>J
 |.int i,u=>match u with
   |.int j _=>decide (i=j)
   |_=>J
 | .tup b,u=>match u with
   |.ref p=>match K.lookup p with
     |some ⟨.type c,L,.seq a _,_⟩=>decide (c="tuple") && decide (a.size<=aF) && MW K b a.toList
     |_=>J
   |_=>J
 |_,_=>J
noncomputable def MW(K:Fg):O Dat->O ai->cc
 |[],[]=>U
 |d::a,u::b=>RP K d u && MW K a b
 |_,_=>J
end
set_option tactic.hygienic true
mutual
theorem HB:∀(d:Dat)(u:ai),RP K d u=U->∃v,RelV v u/\CV K d v
 |.str x,u,h=>by
   unfold RP at h;split at h
   .cases c8 h;exact⟨.str x,⟨_,W⟩,λ_=>W,λ_ z=>nomatch z⟩
   .cases h
 |.int i,u,h=>by
   unfold RP at h;split at h
   .cases c8 h;exact⟨.int i,⟨_,W⟩,λ_=>W,λ_ z=>nomatch z⟩
   .cases h
 |.tup e,u,h=>by
   unfold RP at h;split at h
   .rename_i p;split at h
    .rename_i c f n l a;obtain⟨h1,h2⟩:=eP.mp (eP.mp h).1;cases c8 h1;obtain⟨vs,r,q⟩:=CL e _ (eP.mp h).2;exact⟨.ref p,W,λF=>⟨p,vs,W,.inr ⟨_,_,n,a,W,W,c8 h2,r⟩,q F⟩,λb z=>by cases z;exact⟨_,a,W,W⟩⟩
    .cases h
   .cases h
 |.non,_,h=>nomatch h
 |.bl _,_,h=>nomatch h
 |.lst _,_,h=>nomatch h
 |.dct _ _,_,h=>nomatch h
 |.any,_,h=>nomatch h
 |.exc _ _ _,_,h=>nomatch h
theorem CL:∀(ds:O Dat)(y:O ai),MW K ds y=U->∃g,cX g y/\∀F,cQ K F ds g
 |[],[],_=>⟨[],.nil,λ_=>W⟩
 |d::ds,u::y,h=>by
   obtain⟨c,e⟩:=eP.mp h;obtain⟨v,r,q⟩:=HB d u c;obtain⟨g,a,b⟩:=CL ds y e;exact⟨v::g,.cons r a,λF=>⟨v,g,W,q.1 F,b F⟩⟩
 |[],_::_,h=>nomatch h
 |_::_,[],h=>nomatch h
end
def ab2(K:Fg)(p:aV×Dat):cc:=match fJ K c9 p.1 with
 |some (Y u)=>RP K p.2 u
 |_=>J
theorem Jh(X:K.In h)(G:h.Ns c9 g):∀{con:O (aV×Dat)},con.all (ab2 K)=U->∀x d,con.lookup x=Y d->∃v u,g x=Y u/\RelV v u/\CV K d v
 |(y,e)::i,h,x,d,q=>by
   obtain⟨b,f⟩:=eP.mp h;rw[dP]at q;split at q
   .rename_i z;cases q;rw[eq_of_beq z];unfold ab2 at b;split at b
    .rename_i u a;obtain⟨v,r,c⟩:=HB _ _ b;exact⟨v,u,nO X G a,r,c⟩
    .cases b
   .exact Jh X G f x d q
set_option tactic.hygienic false
end
section
variable{K:Fg}
noncomputable def aeb:fP->cc
 |.FunctionDef _ _ _ _ _ _ _ _ _ _=>U
 |_=>J
def Y1:fP->fP
 |.ClassDef _ _ _ b _ _ _ _ _ _ _=>(b.find? aeb).getD (.Pass ⟨0,0,0,0⟩)
 |s=>s
noncomputable def isC(x:aV):fP->cc
 |.ClassDef y _ _ _ _ _ _ _ _ _ _=>y == x
 |_=>J
def Y0(B:O fP)(x:aV):Df:=⟨Y1 ((B.find? (isC x)).getD (.Pass ⟨0,0,0,0⟩)),2,2,[]⟩
noncomputable def rdI(K:Fg)(c:T):a5 (aD×ai×a5 aD×iR×c4 (a5 ai)):=match K.lookup c with
 | some ⟨_,_,.cls a,_⟩=>match fJ K a.ns "__init__" with
   | some (Y (.ref f))=>match K.lookup f with
     |some ⟨b,d,.func e,l⟩=>Y (f,b,d,e,l)
     |_=>L
   |_=>L
 |_=>L
def fnI(d:Df)(g:iR):iR:=oW g.name g.qualname (v9 d.st) (jQ d.st) (br d.st) .none g.kwdefaults g.doc g.pyModule g.annotations g.code g.closureTuple
def adH(d:Df):rJ×rJ×rJ×rJ:=match jQ d.st with
 |[.Assign [.Attribute (.Name _ a) _ b] (.Name _ c) e]=>(a,b,c,e)
 |_=>(⟨0,0,0,0⟩,⟨0,0,0,0⟩,⟨0,0,0,0⟩,⟨0,0,0,0⟩)
noncomputable def bdI(f:aV)(p:rJ×rJ×rJ×rJ):O fP:=[.Assign [.Attribute (.Name "self" p.1) f p.2.1] (.Name f p.2.2.1) p.2.2.2]
def exB(K:Fg)(x:aV)(c:T)(f:aV):cc:=match rdI K c with
 |some z=>p8 K z.2.2.2.1.code z.2.2.2.1.qualname && dJ K (.ref z.1) && wu K c z.1 && LQ K c && (mM K (.ref c) f == Y L) && (mM K (.ref c) "__setattr__" == Y (Y (.builtin "object.__setattr__"))) && (fJ K c9 x == Y (Y (.ref c))) && !(f == ("__debug__":aV)) && !(f == ("__classdict__":aV))
 |none=>J
set_option tactic.hygienic true
theorem lkM{α g:Type}[BEq α][LawfulBEq α]{x:α}{y:g}:∀{L':O (α×g)},L'.lookup x=Y y->(x,y)∈L'
 |(a,b)::L',q=>by
   rw[dP]at q;split at q
   .simp_all
   .exact jU _ (lkM q)
def Uh(X:K.In h)(G:h.Ns c9 mg)(R:(rdI K c).map (λz=>z.2.2.2.1)=(rdI K c).map λz=>fnI d z.2.2.2.1)(F:exB K x c f=U)
  (h3:((br d.st).kind,(br d.st).isCoroutine,(br d.st).isGenerator,decide (d.N.Nodup/\(∀x∈d.ps,(br d.st).names.lookup x=Y .local\/(br d.st).names.lookup x=Y .cell)/\∀y∈(br d.st).names,y.2≠.free),d.N,d.ps,jQ d.st)=(.function,J,J,U,[("self":aV),f],[("self":aV),f],bdI f (adH d)))
  (O':∀(I:iR)(u v:ai),gw (fnI d I) ⟨[u,v],[]⟩=pure [(("self":aV),u),(f,v)]):acC K mg x c f:=by
 unfold exB at F
 cases e:rdI K c with
 |none=>rw[e]at F;cases F
 |some z=>
   obtain⟨g,H,Q,I,l⟩:=z;rw[e]at R F;have M :=bh R;simp only[ah,ef,jG]at F;obtain⟨⟨⟨⟨⟨⟨⟨⟨V,k2⟩,k3⟩,i⟩,k5⟩,j⟩,m⟩,n⟩,o⟩:=F
   have p:K.lookup g=Y ⟨H,Q,.func I,l⟩:=by
    unfold rdI at e;split at e
    .split at e
     .split at e
      .grind
      .cases e
     .cases e
    .cases e
   simp only[qW]at h3;obtain⟨q,r,s,t,A,e5,B⟩:=h3;obtain⟨a,b,C⟩:=c8 t;rw[A]at a;rw[e5]at b;have S:mG ["self",f] ["self",f] (br d.st):=⟨q,r,s,a,W,b,C⟩
   have wz:∀y∈[("self":aV),f],P1 (br d.st) y:=λy D=>(b y D).imp id .inl;refine⟨nO X G m,g,I,k3,λP w base k=>Uc ⟨⟨H,Q,_,_,_,_,_,_,l,M,p,V⟩,k2⟩ S B ⟨i,k5,j⟩ (wz _ jB) (wz _ (jU _ jB)) n o λ_ _=>W,.all λus E=>?_⟩;obtain⟨u,v,rfl⟩:=Ob E;exact(c7 (λz=>gw z ⟨[u,v],[]⟩) M).trans (O' I u v)
def clB(K:Fg)(q:aV×O (T×cc)):cc:=q.2.all (λp=>Ce K p.1) && match fJ K c9 q.1 with
 |some (Y (.ref C))=>q.2.all λp=>mL K (.ref p.1) (.ref C) == Y p.2
 | some L=>match dt q.1 with
   |some (.type T')=>(q.1 != "__name__") && q.2.all λp=>mL K (.ref p.1) (.type T') == Y p.2
   |_=>J
 |_=>J
def Uu(X:K.In h)(G:h.Ns c9 y){L':O (aV×O (T×cc))}(B:L'.all (clB K)=U):∀x g,L'.lookup x=Y g->P6 K y x g:=λx g b=>by
 obtain⟨e,d⟩:=eP.mp (bc.mp B _ (lkM b));split at d
 .rename_i C a;exact .inl ⟨C,nO X G a,λc b q=>by
   exact⟨bc.mp e _ (lkM q),eq_of_beq (bc.mp d _ (lkM q))⟩⟩
 .rename_i a;split at d
  .rename_i T' c;exact .inr ⟨T',EN X G a,c,by simpa using (eP.mp d).1,λc b q=>by
    exact⟨bc.mp e _ (lkM q),eq_of_beq (bc.mp ((eP.mp d).2) _ (lkM q))⟩⟩
  .cases d
 .cases d
noncomputable def hnB(K:Fg)(n:aV)(c:T):cc:=match fJ K c9 n with
 |some (Y (.ref a))=>iJ K (.ref c) (.ref a) == Y U
 |_=>J
def TK(X:K.In h)(G:h.Ns c9 y)(e:hnB K n c=U):∃g,y n=Y (.ref g)/\∀O'∈[c],iJ K (.ref O') (.ref g)=Y U:=by
 unfold hnB at e;split at e
 .rename_i g a;exact⟨g,nO X G a,λO' b=>by simp_all⟩
 .cases e
set_option tactic.hygienic false
end
end M
namespace K32
open L2 M
noncomputable def top(i:T):fP:=oN.main.body.getD i (.Pass ⟨0,0,0,0⟩)
def Kw:O Sx:=[.mtk .app 1 (.ix (.v 3) (.e_ 0)) [.v 3]]
abbrev GX:Ex:=.tup [.v 0,.bin .add (.iH .upper (.ix (.v 1) (.e_ 0)) []) (.sl (.v 1) (Y (.e_ 1)) L),.bin .add (.v 4) (.v 2),.v 3]
def ZV:Ex:=.con (.tup [.str (ae "out"),.str (ae "in"),.str (ae "done"),.str (ae "num"),.str (ae "let"),.str (ae "all")])
def c10:Ex:=.and (.cmp .lt (.v 3) (.blt .len [.v 0])) (.and (.cmp .lt (.bin .add (.v 2) (.v 3)) (.blt .len [.v 1])) (.cmp .eq (.ix (.v 0) (.v 3)) (.ix (.v 1) (.bin .add (.v 2) (.v 3)))))
def B14:O Sx:=[.ifs (.and (.cmp .eq (.v 3) (.blt .len [.v 1])) (.call 2 [.v 4])) [.SX 2 (.v 3) (.v 4) (.e_ 0)] [.SX 2 (.v 3) (.v 4) (.call 13 [.ix (.v 0) (.v 4),.v 1,.v 3,.v 2])]]
def plX:Ex:=.iH .join (.f_ "") [.comp 1 U [6] (.rng [.e_ 4]) [.cmp .eq (.bin .band (.bin .shr (.v 1) (.v 0)) (.e_ 1)) (.e_ 1)] (.ix (.f_ "wbme") (.v 0))]
def wB:O Sx:=[.set 7 (.call 16 [.call 11 [.ix (.v 2) (.v 6),.v 1,.v 5],.v 5,.v 3,.ix (.ix (.v 3) (.v 5)) (.v 6)]),.mut .app 4 [.v 7],.set 5 (.bin .add (.v 5) (.blt .len [.ix (.v 7) (.e_ 1)])),.set 6 (.ix (.v 7) (.e_ 3))]
def abE:O Sx:=[.ifs (.and (.cmp .eq (.blt .len [.ix (.v 2) (.e_ 0)]) (.e_ 1)) (.cmp .nin (.ix (.v 2) (.e_ 0)) (.v 1))) [.mut .app 1 [.ix (.v 2) (.e_ 0)],.ifs (.cmp .gt (.blt .len [.ix (.ix (.v 0) (.e_ 1)) (.e_ 0)]) (.e_ 0)) [.mut .app 1 [.iH .upper (.ix (.v 2) (.e_ 0)) []]] []] []]
def iB:O Sx:=[.set 5 (.call 28 [.v 0,.v 3,.v 2,.v 1]),.ifs (.cmp .nin (.sl (.v 5) L (Y (.e_ 2))) (.comp 1 U [] (.itv (.v 4)) [] (.sl (.v 0) L (Y (.e_ 2))))) [.set 6 (.call 24 [.v 0,.bin .add (.e_ 10) (.v 3),.e_ 25031,.bin .add (.blt .len [.v 4]) (.e_ 1)]),.set 4 (.bin .add (.bin .add (.sl (.v 4) L (Y (.v 6))) (.lst [.v 5])) (.sl (.v 4) (Y (.v 6)) L))] []]
def b0:O Sx:=[.ret (.iH .join (.f_ "") [.blt .sset [.iH .join (.f_ "") [.comp 1 U [] (.itv (.v 0)) [] (.ix (.v 0) (.e_ 0))]]])]
def b1:O Sx:=[.set 1 (.call 0 [.ix (.v 0) (.e_ 0)]),.set 2 (.ite (.cmp .eq (.ix (.ix (.v 0) (.e_ 1)) (.e_ 0)) (.tup [])) (.f_ "") (.iH .upper (.v 1) [])),.set 3 (.sl (.f_ "0123456789") L (Y (.blt .len [.ix (.v 0) (.e_ 2)]))),.ret (.iH .join (.f_ "") [.blt .sorted [.bin .add (.bin .add (.bin .add (.f_ " ") (.v 3)) (.v 2)) (.v 1)]])]
def b2:O Sx:=[.ret (.cmp .isin (.v 0) (.con (.tup [.str (ae "out"),.str (ae "done"),.str (ae "num")])))]
def b3:O Sx:=[.ret (.comp 1 U [] (.itv (.tup [.f_ "out",.f_ "done",.f_ "num"])) [] (.tup [.v 0,.f_ " ",.tup [.e_ 0],.f_ "out"]))]
def b4:O Sx:=[.ifs (.cmp .eq (.v 1) (.tup [])) [.ret (.lst [])] [],.set 2 (.lst [.tup [.f_ "num",.f_ "",.ix (.v 0) (.e_ 3),.f_ "let"]]),.loop J [3,4] (.zip [.f_ "0123456789",.v 1]) [.mut .app 2 [.tup [.f_ "out",.v 3,.bin .add (.ix (.v 0) (.e_ 2)) (.tup [.v 4]),.f_ "num"]],.mut .app 2 [.tup [.f_ "done",.v 3,.bin .add (.ix (.v 0) (.e_ 2)) (.tup [.v 4]),.f_ "num"]],.mut .app 2 [.tup [.f_ "num",.v 3,.tup [.v 4],.f_ "num"]]],.uq 2]
def b5:O Sx:=[.set 1 (.lst []),.loop J [2,3,4] (.itv (.v 0)) [.loop J [5,6,7] (.itv (.con (.tup [.tup [.str (ae "w"),.str (ae "out"),.str (ae "done")],.tup [.str (ae "w"),.str (ae "let"),.str (ae "done")],.tup [.str (ae "b"),.str (ae "out"),.str (ae "in")],.tup [.str (ae "b"),.str (ae "let"),.str (ae "in")],.tup [.str (ae "m"),.str (ae "in"),.str (ae "in")],.tup [.str (ae "e"),.str (ae "in"),.str (ae "done")]]))) [.ifs (.cmp .isin (.v 5) (.v 4)) [.mut .app 1 [.tup [.v 6,.v 2,.v 3,.v 7]]] []]],.uq 1]
def b6:O Sx:=[.ret (.comp 4 J [1] (.itv (.v 0)) [] GX)]
def b7:O Sx:=[.set 2 (.lst []),.loop J [3,4,5] (.itv (.v 0)) [.loop J [6,7,8] (.itv (.con (.tup [.tup [.str (ae "w"),.str (ae "out"),.str (ae "done")],.tup [.str (ae "w"),.str (ae "let"),.str (ae "done")],.tup [.str (ae "b"),.str (ae "out"),.str (ae "all")],.tup [.str (ae "b"),.str (ae "let"),.str (ae "all")],.tup [.str (ae "m"),.str (ae "all"),.str (ae "all")],.tup [.str (ae "e"),.str (ae "all"),.str (ae "done")]]))) [.ifs (.and (.cmp .isin (.v 6) (.v 5)) (.or (.cmp .ne (.v 6) (.f_ "w")) (.cmp .gt (.blt .len [.v 3]) (.e_ 1)))) [.set 9 (.ite (.cmp .eq (.v 7) (.f_ "all")) (.tup []) (.v 1)),.mut .app 2 [.tup [.v 7,.iH .upper (.v 3) [],.bin .add (.v 9) (.v 4),.v 8]]] []]],.uq 2]
def b8:O Sx:=[.set 1 (.ix (.v 0) (.e_ 0)),.set 2 (.ix (.v 0) (.e_ 1)),.set 3 (.call 5 [.v 1]),.ifs (.cmp .ne (.ix (.v 2) (.e_ 0)) (.tup [])) [.set 3 (.bin .add (.v 3) (.call 6 [.v 3,.ix (.v 2) (.e_ 0)]))] [],.ifs (.cmp .ne (.ix (.v 2) (.e_ 1)) (.tup [])) [.set 3 (.bin .add (.v 3) (.call 7 [.v 1,.ix (.v 2) (.e_ 1)]))] [],.ifs (.cmp .eq (.ix (.v 0) (.e_ 2)) (.tup [])) [.set 3 (.comp 1 U [] (.itv (.v 3)) [.cmp .ne (.ix (.v 0) (.e_ 0)) (.f_ "let")] (.v 0))] [],.ret (.blt .sset [.bin .add (.bin .add (.v 3) (.call 3 [])) (.call 4 [.v 2,.ix (.v 0) (.e_ 2)])])]
def b9:O Sx:=[.set 1 .n6,.loop U [2] (.itv ZV) [.mut .seti 1 [.lst [],.v 2]],.loop U [3] (.itv (.call 8 [.v 0])) Kw,.uq 1]
def b10:O Sx:=[.set 2 (.call 1 [.v 0]),.loop J [3,4] (.enu (.v 1)) [.ifs (.cmp .nin (.v 4) (.v 2)) [.rse 139 (ae "place") (.v 3)] []]]
def b11:O Sx:=[.ret (.comp 1 U [2,1] (.itv (.v 0)) [.iH .startswith (.v 2) [.ix (.v 0) (.e_ 1),.v 1]] (.v 0))]
def b12:O Sx:=[.set 3 (.ix (.ix (.v 2) (.bin .add (.v 1) (.blt .len [.ix (.v 0) (.e_ 1)]))) (.ix (.v 0) (.e_ 3))),.ret (.ite (.cmp .isn (.v 3) (.con .non)) (.con .non) (.bin .add (.blt .len [.ix (.v 0) (.e_ 2)]) (.v 3)))]
def b13:O Sx:=[.set 4 (.comp 1 U [3,2] (.itv (.call 11 [.v 0,.v 1,.v 2])) [] (.call 12 [.v 0,.v 2,.v 1])),.ret (.mnd (.comp 1 U [] (.itv (.v 4)) [.cmp .nisn (.v 0) (.con .non)] (.v 0)))]
def b14:O Sx:=[.set 2 (.cat (.comp 1 U [] (.itv (.v 1)) [] .n6) (.lst [.n6])),.loop U [3] (.rng [.blt .len [.v 1],.neg (.e_ 1),.neg (.e_ 1)]) [.loop U [4] (.rev ZV) B14],.uq 2]
def b15:O Sx:=[.VQ 10 [.v 0,.v 1],.set 2 (.call 14 [.call 9 [.v 0],.v 1]),.set 3 (.lst []),.loop U [4] (.itv (.v 2)) [.mut .app 3 [.comp 1 U [4] (.itv ZV) [] (.ix (.v 1) (.v 0))]],.uq 3]
def b16:O Sx:=[.ret (.ix (.comp 1 U [2,1,3] (.itv (.v 0)) [.cmp .eq (.call 12 [.v 0,.v 2,.v 1]) (.v 3)] (.v 0)) (.e_ 0))]
def b17:O Sx:=[.set 1 (.lst []),.loop U [2] (.itv (.v 0)) [.mut .ext 1 [.ix (.v 2) (.e_ 2)]],.ret (.blt .tuple [.v 1])]
def b18:O Sx:=[.VQ 10 [.v 0,.v 1],.set 2 (.call 9 [.v 0]),.set 3 (.call 14 [.v 2,.v 1]),.set 4 (.lst []),.set 5 (.e_ 0),.set 6 (.f_ "out"),.whl (.cmp .lt (.v 5) (.blt .len [.v 1])) wB,.ret (.tup [.call 17 [.v 4],.v 4])]
def b19:O Sx:=[.set 1 .n6,.loop J [2,3] (.enu (.v 0)) [.mut .seti 1 [.bin .bor (.iH .get (.v 1) [.v 3,.e_ 0]) (.bin .shl (.e_ 1) (.v 2)),.v 3]],.uq 1]
def b20:O Sx:=[.set 2 (.iH .get (.v 1) [.ix (.v 0) (.e_ 0),.e_ 0]),.loop J [3,4] (.enu (.v 0)) [.set 2 (.bin .band (.v 2) (.bin .shr (.iH .get (.v 1) [.v 4,.e_ 0]) (.v 3)))],.uq 2]
def b21:O Sx:=[.set 4 (.bin .band (.ix (.ix (.v 0) (.v 1)) (.ix (.v 2) (.e_ 0))) (.call 20 [.ix (.v 2) (.e_ 2),.v 3])),.alp 5 0 (.bin .add (.v 1) (.blt .len [.ix (.v 2) (.e_ 1)])) (.ix (.v 2) (.e_ 3)) (.bin .bor (.iH .get (.v 5) [.ix (.v 2) (.e_ 3),.e_ 0]) (.bin .shl (.v 4) (.blt .len [.ix (.v 2) (.e_ 2)])))]
def b22:O Sx:=[.set 3 (.call 9 [.v 0]),.set 4 (.call 19 [.v 2]),.set 5 (.cat (.comp 1 U [] (.itv (.v 1)) [] .n6) (.lst [.n6])),.SX 5 (.e_ 0) (.f_ "out") (.e_ 1),.loop U [6] (.rng [.bin .add (.blt .len [.v 1]) (.e_ 1)]) [.loop U [7] (.itv ZV) [.ifs (.cmp .ne (.iH .get (.ix (.v 5) (.v 6)) [.v 7,.e_ 0]) (.e_ 0)) [.loop U [8] (.itv (.call 11 [.ix (.v 3) (.v 7),.v 1,.v 6])) [.lnd (21+yP) 5 [.v 6,.v 8,.v 4]]] []]],.set 9 (.comp 1 U [5,1] (.itv ZV) [.call 2 [.v 0]] (.iH .get (.ix (.v 1) (.blt .len [.v 2])) [.v 0,.e_ 0])),.ret (.blt .any [.comp 1 U [2] (.itv (.v 9)) [] (.cmp .eq (.bin .band (.bin .shr (.v 0) (.blt .len [.v 1])) (.e_ 1)) (.e_ 1))])]
def b23:O Sx:=[.ifs (.cmp .lt (.v 1) (.blt .len [.v 0])) [.ret (.ix (.v 0) (.v 1))] [],.ret (.e_ 0)]
def b24:O Sx:=[.set 4 (.bin .mod (.bin .add (.bin .add (.bin .mul (.call 23 [.v 0,.v 1]) (.e_ 48271)) (.bin .mul (.bin .mul (.e_ 7919) (.v 1)) (.v 1))) (.e_ 11)) (.v 2)),.ret (.bin .mod (.bin .mod (.bin .mul (.v 4) (.e_ 7919)) (.e_ 999983)) (.v 3))]
def b25:O Sx:=[.ret (.and (.blt (.isi .int) [.v 0]) (.not (.blt (.isi .bool) [.v 0])))]
def b26:O Sx:=[.set 3 (.bin .add (.e_ 1) (.call 24 [.v 0,.v 1,.e_ 10007,.e_ 2])),.ifs (.cmp .eq (.call 24 [.v 0,.v 1,.e_ 10009,.e_ 8]) (.e_ 0)) [.set 3 (.bin .add (.e_ 1) (.call 24 [.v 0,.v 1,.e_ 10037,.e_ 4]))] [],.ret (.blt .tuple [.comp 1 U [2,1,0] (.rng [.v 3]) [] (.bin .add (.e_ 1) (.call 24 [.v 3,.v 2,.bin .add (.e_ 10039) (.bin .mul (.e_ 22) (.v 0)),.v 1]))])]
def b27:O Sx:=[.set 1 (.bin .add (.e_ 1) (.call 24 [.v 0,.e_ 0,.e_ 15013,.e_ 3])),.ifs (.cmp .eq (.call 24 [.v 0,.e_ 0,.e_ 15017,.e_ 6]) (.e_ 0)) [.set 1 (.bin .add (.e_ 1) (.call 24 [.v 0,.e_ 0,.e_ 15031,.e_ 6]))] [],.set 2 (.call 24 [.v 0,.e_ 1,.e_ 15053,.e_ 26]),.set 3 (.ix (.lst [.e_ 1,.e_ 3,.e_ 5,.e_ 7,.e_ 9,.e_ 11,.e_ 15]) (.call 24 [.v 0,.e_ 1,.e_ 15061,.e_ 7])),.ret (.comp 1 U [2,3] (.rng [.v 1]) [] (.ix (.f_ "abcdefghijklmnopqrstuvwxyz") (.bin .mod (.bin .add (.v 1) (.bin .mul (.v 0) (.v 2))) (.e_ 26))))]
def b28:O Sx:=[.set 4 (.bin .add (.e_ 1) (.call 24 [.v 0,.bin .add (.e_ 10) (.v 1),.e_ 20021,.e_ 3])),.ifs (.cmp .eq (.call 24 [.v 0,.bin .add (.e_ 10) (.v 1),.e_ 20023,.e_ 8]) (.e_ 0)) [.set 4 (.bin .add (.e_ 1) (.call 24 [.v 0,.bin .add (.e_ 10) (.v 1),.e_ 20029,.e_ 6]))] [],.set 5 (.iH .join (.f_ "") [.comp 1 U [1,2,0] (.rng [.v 4]) [] (.ix (.v 2) (.call 24 [.v 3,.bin .add (.e_ 10) (.v 1),.bin .add (.e_ 20047) (.bin .mul (.e_ 22) (.v 0)),.blt .len [.v 2]]))]),.set 6 (.bin .add (.e_ 1) (.call 24 [.v 0,.bin .add (.e_ 10) (.v 1),.e_ 25013,.e_ 15])),.set 7 plX,.ret (.tup [.v 5,.call 26 [.v 0,.bin .add (.e_ 20) (.v 1),.v 3],.v 7])]
def b29:O Sx:=[.set 2 (.call 27 [.v 0]),.set 4 (.comp 1 U [1,2,0] (.rng [.blt .len [.v 2]]) [] (.tup [.ix (.v 2) (.v 0),.call 26 [.v 3,.bin .add (.e_ 4) (.v 0),.v 1],.f_ "wbme"])),.loop U [3] (.rng [.call 24 [.v 0,.e_ 2,.e_ 20011,.e_ 6]]) iB,.ret (.blt .tuple [.v 4])]
def b30:O Sx:=[.ret (.sl (.call 26 [.v 0,.v 1,.v 2]) L (Y (.e_ 2)))]
def b31:O Sx:=[.set 1 (.ix (.lst [.e_ 3,.e_ 6,.e_ 63]) (.call 24 [.v 0,.e_ 2,.e_ 30011,.e_ 3])),.set 2 (.lst [.tup [],.tup [],.tup [],.tup []]),.ifs (.cmp .eq (.call 24 [.v 0,.e_ 3,.e_ 30013,.e_ 3]) (.e_ 0)) [.mut .seti 2 [.call 30 [.v 0,.e_ 25,.v 1],.e_ 0],.ifs (.cmp .eq (.call 24 [.v 0,.e_ 3,.e_ 30029,.e_ 2]) (.e_ 0)) [.mut .seti 2 [.call 30 [.v 0,.e_ 26,.v 1],.e_ 1]] []] [],.set 3 (.lst []),.ifs (.cmp .eq (.call 24 [.v 0,.e_ 3,.e_ 30047,.e_ 3]) (.e_ 0)) [.set 4 (.bin .add (.e_ 1) (.call 24 [.v 0,.e_ 3,.e_ 30059,.e_ 3])),.ifs (.cmp .eq (.call 24 [.v 0,.e_ 3,.e_ 30071,.e_ 6]) (.e_ 0)) [.set 4 (.bin .add (.e_ 1) (.call 24 [.v 0,.e_ 3,.e_ 30089,.e_ 10]))] [],.set 3 (.comp 1 U [1,0] (.rng [.v 4]) [] (.bin .add (.e_ 1) (.call 24 [.v 2,.e_ 27,.bin .add (.e_ 30091) (.bin .mul (.e_ 22) (.v 0)),.v 1]))),.mut .seti 2 [.call 30 [.v 0,.e_ 28,.v 1],.e_ 2],.mut .seti 2 [.call 30 [.v 0,.e_ 29,.v 1],.e_ 3]] [],.ret (.tup [.call 29 [.v 0,.v 1],.blt .tuple [.v 2],.blt .tuple [.v 3]])]
def b32:O Sx:=[.set 1 (.cat (.lst [.f_ " "]) (.comp 1 U [] (.rng [.blt .len [.ix (.v 0) (.e_ 2)]]) [] (.blt .str [.v 0]))),.loop U [2] (.itv (.ix (.v 0) (.e_ 0))) abE,.uq 1]
def b33:O Sx:=[.set 3 (.call 32 [.v 1]),.set 3 (.bin .add (.v 3) (.sl (.v 3) (Y (.e_ 1)) L)),.ret (.iH .join (.f_ "") [.comp 1 U [0,3] (.rng [.v 2]) [] (.ix (.v 2) (.call 24 [.v 1,.bin .add (.e_ 31) (.v 0),.e_ 35023,.blt .len [.v 2]]))])]
def b34:O Sx:=[.set 1 (.lst []),.ifs (.ED [(139,U)] (.v 0)) [.mut .app 1 [.tup [.f_ "sign",.Jp [139] (ae "place") (.v 0)]]] [],.ifs (.ED [(139,J)] (.v 0)) [.mut .app 1 [.tup [.f_ "reading",.Jp [139] (ae "place") (.v 0)]]] [],.ifs (.ED [(139,J)] (.v 0)) [.mut .app 1 [.tup [.f_ "lines",.e_ 0]]] [],.ifs (.or (.ED [(139,J)] (.v 0)) (.or (.ED [(139,J)] (.v 0)) (.ED [(139,J)] (.v 0)))) [.mut .app 1 [.tup [.f_ "other",.e_ 0]]] [],.ifs (.or (.ED [(139,J)] (.v 0)) (.or (.ED [(139,J)] (.v 0)) (.ED [(139,J)] (.v 0)))) [.mut .app 1 [.tup [.f_ "other",.e_ 0]]] [],.ifs (.or (.ED [(139,J)] (.v 0)) (.or (.ED [(139,J)] (.v 0)) (.ED [(139,J)] (.v 0)))) [.mut .app 1 [.tup [.f_ "other",.e_ 0]]] [],.ifs (.or (.cmp .ne (.blt .len [.v 1]) (.e_ 1)) (.or (.not (.ED [(139,U)] (.v 0))) (.not (.call 25 [.ix (.ix (.v 1) (.e_ 0)) (.e_ 1)])))) [.ret (.tup [.f_ "unlike",.e_ 0])] [],.ret (.ix (.v 1) (.e_ 0))]
def b35:O Sx:=[.set 3 (.f_ " !\"#$&'()*+,-./0123456789:;<=>?@ABCDEFGHIJKLMNOPQRSTUVWXYZ[\\]^_"),.set 3 (.bin .add (.v 3) (.f_ "\nabcdefghijklmnopqrstuvwxyz{|}~")),.set 4 (.call 32 [.v 2]),.set 5 (.comp 1 U [4] (.itv (.v 3)) [.cmp .nin (.v 0) (.v 1)] (.v 0)),.ret (.ix (.v 5) (.call 24 [.v 0,.v 1,.e_ 40009,.blt .len [.v 5]]))]
def b36:O Sx:=[.set 3 (.con .non),.set 4 (.con .non),.ifs (.cmp .eq (.v 2) (.e_ 0)) [.Wn 4 15 [.v 0,.v 1] 3 5 [139]] [.Wn 4 18 [.v 0,.v 1] 3 5 [139]],.ifs (.cmp .nisn (.v 3) (.con .non)) [.ret (.call 34 [.v 3])] [],.ret (.tup [.f_ "told",.blt .len [.v 4]])]
def b37:O Sx:=[.set 1 (.call 31 [.v 0]),.set 2 (.call 33 [.v 0,.v 1,.call 24 [.v 0,.e_ 2,.e_ 35027,.e_ 21]]),.set 3 (.call 32 [.v 1]),.set 4 (.v 2),.loop U [5] (.rng [.call 24 [.v 0,.e_ 30,.e_ 40013,.e_ 4]]) [.set 6 (.call 24 [.v 0,.bin .add (.e_ 52) (.v 5),.e_ 40031,.bin .add (.blt .len [.v 4]) (.e_ 1)]),.set 4 (.bin .add (.bin .add (.sl (.v 4) L (Y (.v 6))) (.call 35 [.v 0,.bin .add (.e_ 55) (.v 5),.v 1])) (.sl (.v 4) (Y (.v 6)) L))],.set 7 (.comp 1 U [3,4] (.rng [.blt .len [.v 4]]) [.cmp .nin (.ix (.v 2) (.v 0)) (.v 1)] (.v 0)),.set 8 (.lst [.tup [.f_ "told",.bin .add (.blt .len [.v 2]) (.e_ 1)],.tup [.f_ "told",.e_ 2]]),.ifs (.cmp .gt (.blt .len [.v 7]) (.e_ 0)) [.set 8 (.lst [.tup [.f_ "sign",.ix (.v 7) (.e_ 0)],.tup [.f_ "sign",.ix (.v 7) (.e_ 0)]]),.ifs (.or (.cmp .nisn (.call 22 [.v 1,.v 4,.tup []]) (.con (.bl J))) (.cmp .nisn (.call 22 [.v 1,.v 4,.ix (.call 18 [.v 1,.v 2]) (.e_ 0)]) (.con (.bl J)))) [.ret (.con (.bl J))] []] [],.set 9 (.call 24 [.v 0,.e_ 30,.e_ 40037,.e_ 2]),.loop U [10] (.itv (.lst [.v 9,.bin .sub (.e_ 1) (.v 9)])) [.ifs (.cmp .ne (.call 36 [.v 1,.v 4,.v 10]) (.ix (.v 8) (.v 10))) [.ret (.con (.bl J))] [],.ifs (.cmp .ne (.call 36 [.v 1,.v 2,.v 10]) (.ix (.lst [.tup [.f_ "told",.bin .add (.blt .len [.v 2]) (.e_ 1)],.tup [.f_ "told",.e_ 2]]) (.v 10))) [.ret (.con (.bl J))] []],.ret (.cmp .eq (.call 36 [.v 1,.v 4,.v 9]) (.ix (.v 8) (.v 9)))]
def d0:Df:=⟨top 16,1,1,b0⟩
def d1:Df:=⟨top 17,1,4,b1⟩
def d2:Df:=⟨top 23,1,1,b2⟩
def d3:Df:=⟨top 24,0,0,b3⟩
def d4:Df:=⟨top 25,2,5,b4⟩
def d5:Df:=⟨top 26,1,8,b5⟩
def d6:Df:=⟨top 27,2,2,b6⟩
def d7:Df:=⟨top 28,2,10,b7⟩
def d8:Df:=⟨top 29,1,4,b8⟩
def d9:Df:=⟨top 30,1,4,b9⟩
def d10:Df:=⟨top 32,2,5,b10⟩
def d11:Df:=⟨top 33,3,3,b11⟩
def d12:Df:=⟨top 34,3,4,b12⟩
def d13:Df:=⟨top 35,4,5,b13⟩
def d14:Df:=⟨top 36,2,5,b14⟩
def d15:Df:=⟨top 37,2,5,b15⟩
def d16:Df:=⟨top 38,4,4,b16⟩
def d17:Df:=⟨top 39,1,3,b17⟩
def d18:Df:=⟨top 40,2,8,b18⟩
def d19:Df:=⟨top 41,1,4,b19⟩
def d20:Df:=⟨top 42,2,5,b20⟩
def d21:Df:=⟨top 43,4,6,b21⟩
def d22:Df:=⟨top 44,3,10,b22⟩
def d23:Df:=⟨top 46,2,2,b23⟩
def d24:Df:=⟨top 47,4,5,b24⟩
def d25:Df:=⟨top 48,1,1,b25⟩
def d26:Df:=⟨top 49,3,4,b26⟩
def d27:Df:=⟨top 50,1,4,b27⟩
def d28:Df:=⟨top 51,4,8,b28⟩
def d29:Df:=⟨top 52,2,7,b29⟩
def d30:Df:=⟨top 53,3,3,b30⟩
def d31:Df:=⟨top 54,1,5,b31⟩
def d32:Df:=⟨top 55,1,3,b32⟩
def d33:Df:=⟨top 56,3,4,b33⟩
def d34:Df:=⟨top 57,1,2,b34⟩
def d35:Df:=⟨top 58,3,6,b35⟩
def d36:Df:=⟨top 59,3,6,b36⟩
def d37:Df:=⟨top 60,1,11,b37⟩
def D:O Df:=[d0,d1,d2,d3,d4,d5,d6,d7,d8,d9,d10,d11,d12,d13,d14,d15,d16,d17,d18,d19,d20,d21,d22,d23,d24,d25,d26,d27,d28,d29,d30,d31,d32,d33,d34,d35,d36,d37]
noncomputable def con:O (aV×Dat):=[(ae "FIGURES",(.str (ae "0123456789"))),(ae "STATES",(.tup [(.str (ae "out")),(.str (ae "in")),(.str (ae "done")),(.str (ae "num")),(.str (ae "let")),(.str (ae "all"))])),(ae "END_STATES",(.tup [(.str (ae "out")),(.str (ae "done")),(.str (ae "num"))])),(ae "WAYS",(.tup [(.tup [(.str (ae "w")),(.str (ae "out")),(.str (ae "done"))]),(.tup [(.str (ae "w")),(.str (ae "let")),(.str (ae "done"))]),(.tup [(.str (ae "b")),(.str (ae "out")),(.str (ae "in"))]),(.tup [(.str (ae "b")),(.str (ae "let")),(.str (ae "in"))]),(.tup [(.str (ae "m")),(.str (ae "in")),(.str (ae "in"))]),(.tup [(.str (ae "e")),(.str (ae "in")),(.str (ae "done"))])])),(ae "ALL_GREAT_WAYS",(.tup [(.tup [(.str (ae "w")),(.str (ae "out")),(.str (ae "done"))]),(.tup [(.str (ae "w")),(.str (ae "let")),(.str (ae "done"))]),(.tup [(.str (ae "b")),(.str (ae "out")),(.str (ae "all"))]),(.tup [(.str (ae "b")),(.str (ae "let")),(.str (ae "all"))]),(.tup [(.str (ae "m")),(.str (ae "all")),(.str (ae "all"))]),(.tup [(.str (ae "e")),(.str (ae "all")),(.str (ae "done"))])]))]
noncomputable def xg:Xg:=⟨[("NoSign",139,"place")],(["NoReading","NoLines","NoForm","NoLetter","NoMark","NoTable","NoEntry","NoLine","TooMany","Twice","Two"]:O aV).map (λx=>(x,[(139,J)]))++([("NoSign",[(139,U)]),("ValueError",[(139,U)])]:O (aV×O (T×cc))),[("place",[139])],[("DotError",[139])],["check_signs","prices","written"]⟩
def G:Sg:=J2 D con xg
def oks:∀d∈D,Z5 G d:=X9 (by kernel_rfl)
end K32
namespace K32
open L2 M
structure KL(f:Fm):Prop where
 ne:f.1≠[]
 low:∀c∈f.1,c∈oA
 ll:Z f.1<=6
 c1:0<Z f.2.1
 cl:Z f.2.1<=4
 pp:∃k,1<=k/\k<16/\f.2.2=Z9 k
noncomputable abbrev iN2(i:cx):N2:=.inl (.inl i)
theorem xt:∀g:O cx,VA (g.map Dat.int)=Y (g.map iN2)
 |[]=>rfl
 |c::r=>by simp only[az,VA,n2I,xt r,bS,cT]
end K32
namespace K32E
open L2 M K32
abbrev sT(l:O T):Dat:=.str (T' l)
def AR(h:bA C a (full ρ)=Y (d,fl)):e9 C [.ret a] ρ=Y (.rt d fl):=by
 show bV (pI _ (bA C a _)) _=_;rw[h];rfl
def ie(h:bA C a (full ρ)=Y (d,fl))(hi:im d=U):og C (.set i a) ρ=Y (.nx (ρ.set i (Y (d,J)))):=by
 rw[Bp]
 simp_all
def MC(h:bA C a (full ρ)=Y (.lst ds,U)):og C (.set i a) ρ=Y (.nx (ρ.set i (Y (.lst ds,U)))):=by
 rw[Bp,h];rfl
def Ev(C:Fs)(e:Ex)(ρ:iO)(P:Dat->Prop):Prop:=∃d f,bA C e ρ=Y (d,f)/\im d=U/\P d
def Ei(C:Fs)(e:Ex)(ρ:iO)(P:T->Prop):Prop:=∃q f,bA C e ρ=Y (.int (q:T),f)/\P q
def Go(C:Fs)(ss:O Sx)(ρ:dN)(Q:Out->Prop):Prop:=∃o,e9 C ss ρ=Y o/\Q o
def Dw(C:Fs)(N:Dat):Prop:=∀k p m:cx,0<=k/\k<=1000->0<p->0<m->∃q:T,C 24 [N,.int k,.int p,.int m]=Y (.int (q:T),J)/\(q:cx)<m
section
def iu(y:Dw C N)(B:bA C a ρ=Y (N,f))(F:bA C k ρ=Y (.int i,g))(I:bA C p ρ=Y (.int j,h))(R:bA C m ρ=Y (.int l,w))(S:0<=i/\i<=1000)(hp:0<j)(O':0<l)(H:∀q:T,(q:cx)<l->P q):Ei C (.call 24 [a,k,p,m]) ρ P:=by
 obtain⟨q,r,b⟩:=y i j l S hp O';exact⟨q,J,by rwa[lM,df,B,df,F,df,I,df,R],H q b⟩
def GG(h:Ei C e ρ P)(g:∀q,P q->y (1+q)):Ei C (.bin .add (.e_ 1) e) ρ y:=by obtain⟨q,f,r,b⟩:=h;refine⟨_,J,?_,g q b⟩;rw[qr,r];show Y _=_;simp
def vb{b:T}(y:Dw C N)(B:bA C a ρ=Y (N,f))(F:bA C k ρ=Y (.int i,g))(I:bA C p ρ=Y (.int j,h))(P:bA C m ρ=Y (.int l,w))(R:0<=i/\i<=1000)(S:0<j)(O':0<l)(hb:l<=b):Ei C (.bin .add (.e_ 1) (.call 24 [a,k,p,m])) ρ λv=>1<=v/\v<=b:=
 GG (iu y B F I P R S O' λ_ h=>h) λq h=>by grind
def IZ{is:O T}(B:bA C x ρ=Y (.lst (is.map λi:T=>Dat.int i),f))(h:Ei C e ρ (·< Z is))(y:∀q∈is,P q):Ei C (.ix x e) ρ P:=by
 obtain⟨q,g,r,a⟩:=h;refine⟨_,J,?_,y _ (bw a)⟩;rw[IV,B,r];show((yV _ _).map _)=_;rw[lN (by rw[aS,ag a];rfl)];rfl
def xY(h:Ei C e ρ P)(j:cx):∃t f,bA C (.cmp .eq e (.con (.int j))) ρ=Y (.bl t,f):=by
 obtain⟨q,f,r,_⟩:=h;exact⟨_,J,by rw[GB,r];rfl⟩
def km(I:bA C a ρ=Y (B,f))(F:bA C e ρ=Y (y,g))(h:jL o B y=Y r):bA C (.cmp o a e) ρ=Y (.bl r,J):=by rw[GB,F];simp_all
def iT(B:bA C a ρ=Y (F,f))(I:bA C e ρ=Y (y,g))(h:hJ o F y=r):bA C (.bin o a e) ρ=r:=by rwa[qr,B,I]
def lG(g:bA C a ρ=Y (y,f))(h:jg o [y]=r):bA C (.blt o [a]) ρ=r:=by rwa[Ze,df,g]
def abv(g:bA C a ρ=Y (y,f))(h:je o y []=r):bA C (.iH o a []) ρ=r:=by rwa[v5,g]
def Yr(B:bA C a ρ=Y (F,f))(I:bA C e ρ=Y (y,g))(h:je o F [y]=r):bA C (.iH o a [e]) ρ=r:=by rwa[v5,B,df,I]
def yy(F:bA C a ρ=Y (B,f))(I:bA C e ρ=Y (y,g))(h:xF B y=Y d):bA C (.ix a e) ρ=Y (d,J):=by rw[IV,F,I];show(xF B y).map _=_;rw[h];rfl
def aaM(y:bA C a ρ=Y (B,f))(F:bA C e ρ=Y (.int i,g))(h:Fu B L (Y i)=r):bA C (.sl a L (Y e)) ρ=r:=by rw[O4,y];show bV (Nt _) _=_;rwa[F]
def WX(y:bA C a ρ=Y (B,f))(F:bA C e ρ=Y (.int i,g))(h:Fu B (Y i) L=r):bA C (.sl a (Y e) L) ρ=r:=by rw[O4,y];show bV (Nt _) _=_;rwa[F]
def rq(g:bA C a ρ=Y (y,f)):bA C (.call q [a]) ρ=C q [y]:=by rw[lM,df,g];rfl
def oF(B:bA C a ρ=Y (F,f))(I:bA C e ρ=Y (y,g)):bA C (.call q [a,e]) ρ=C q [F,y]:=by rw[lM,df,B,df,I];rfl
def x6(B:bA C a ρ=Y (F,f))(I:bA C e ρ=Y (y,g))(P:bA C x ρ=Y (z,h)):bA C (.call q [a,e,x]) ρ=C q [F,y,z]:=by rw[lM,df,B,df,I,df,P];rfl
def pv(h:Ei C e ρ P):Ev C e ρ (λd=>∃q:T,d=.int (q:T)/\P q):=by
 obtain⟨q,f,r,b⟩:=h;exact⟨_,f,r,W,q,W,b⟩
def Gx(h:bA C a ρ=Y (.int i,f))(y:bA C e ρ=Y (.int j,g))(hi:0<=i/\i<=1000):bA C (.bin .mul a e) ρ=Y (.int (i * j),J):=by
 rw[qr,h,y];exact yg (Lp hi.1) (gZ hi.2 cV)
def mV(h:bA C a ρ=Y (.int i,f))(y:bA C e ρ=Y (.int j,g)):bA C (.bin .add a e) ρ=Y (.int (i+j),J):=by
 rw[qr,h,y];rfl
def u9{m:T}(h:bA C e ρ=Y (.int (m:T),f))(B:m<=1000):Br C (.rng [e]) ρ=Y ((aR m).map λk:T=>Dat.int k):=by
 rw[Uk,df,h];show(if _ then _ else L)=_;rw[cb (by grind)];simp
def Gz{y:O T}{P:T->Prop}(B:bA C x ρ=Y (.lst (y.map λc=>sT [c]),f))(h:Ei C e ρ (·< Z y))(F:∀c∈y,P c):∃c b,bA C (.ix x e) ρ=Y (sT [c],b)/\P c:=by
 obtain⟨q,g,r,a⟩:=h;refine⟨_,J,?_,F _ (bw a)⟩;rw[IV,B,r];show((yV _ _).map _)=_;rw[lN (by rw[aS,ag a];rfl)];rfl
def tQ{α I:Type}{caps:O T}{it:Iw}{elt:Ex}{xs:O α}{e:α->Dat}(g:I->Dat)(P:α->I->Prop)(hi:Br C it ρ=Y (xs.map e))(R:Z xs<=1000)(B:∀y,im (g y)=U)(h:∀x∈xs,∃y b,bA C elt ((j4 1 caps ρ).set 0 (Y (e x)))=Y (g y,b)/\P x y):∃F:O I,bA C (.comp 1 U caps it [] elt) ρ=Y (.lst (F.map g),U)/\Z F=Z xs/\(∀y∈F,∃x∈xs,P x y)/\∀x∈xs,∃y∈F,P x y:=by
 suffices ∃F:O I,rO (qt C 1 U (j4 1 _ ρ) [] _) _=Y _/\Z F=Z xs/\(∀y∈F,∃x∈xs,P x y)/\∀x∈xs,∃y∈F,P x y by
  obtain⟨F,a,b⟩:=this;exact⟨F,pz hi (by rw[aE];exact aa R cV) a,b⟩
 clear hi R
 induction xs with
 |nil=>exact⟨[],W,W,(λ_ h=>nomatch h),(λ_ h=>nomatch h)⟩
 |cons x xs d=>
   refine ac λ_ i=>?_;obtain⟨y,b,k,j⟩:=h x jB;obtain⟨F,l,m,n,f⟩:=d λz c=>h z (jU _ c);apply i;refine⟨y::F,?_,by simp_all,λz c=>?_,λz c=>?_⟩
   .rw[az,rO,Ac,k,l];simp[B y]
   .rcases ak.mp c with rfl|c
    .exact⟨x,jB,j⟩
    simp_all
   .rcases ak.mp c with rfl|c
    .exact⟨y,jB,j⟩
    simp_all
end
section
variable{C:Fs}{ρ:dN}{e:Ex}{ss:O Sx}{Q:Out->Prop}{P:Dat->Prop}{i:T}
def dT(h:og C s ρ=Y (.nx ρ1))(k:Go C ss ρ1 Q):Go C (s::ss) ρ Q:=by
 obtain⟨o,a,b⟩:=k;exact⟨o,by rwa[lL h],b⟩
def n4(h:Ev C e (full ρ) P)(k:∀d,P d->Go C ss (ρ.set i (Y (d,J))) Q):Go C (.set i e::ss) ρ Q:=by
 obtain⟨d,f,a,b,c⟩:=h;exact dT (ie a b) (k d c)
def eZ(h:bA C e (full ρ)=Y (.lst ds,U))(k:Go C ss (ρ.set i (Y (.lst ds,U))) Q):Go C (.set i e::ss) ρ Q:=dT (MC h) k
def iN(h:bA C e (full ρ)=Y (d,f))(q:Q (.rt d f)):Go C [.ret e] ρ Q:=⟨_,AR h,q⟩
def cP(q:Q (.nx ρ)):Go C [] ρ Q:=⟨_,W,q⟩
def xu(hi:(ρ[i]?).join=Y (d,U))(g:pT C es (full ρ)=Y (ds,U))(B:kP op d ds=Y y):og C (.mut op i es) ρ=Y (.nx (ρ.set i (Y (y,U)))):=by
 show((pT C es _).bind λx=>if x.2=U then abn op i ρ _ _ else L)=_;rw[g,hi];show(kP op d ds).map _=_;rw[B];rfl
def xM(h:Ev C e (full ρ) P)(hi:(ρ[i]?).join=Y (.lst ds,U))(g:Z ds<1000000)(k:∀d,P d->Go C ss (ρ.set i (Y (.lst (ds++[d]),U))) Q):Go C (.mut .app i [e]::ss) ρ Q:=by
 obtain⟨d,f,a,c,b⟩:=h;exact dT (xu hi (by rw[dZ,a];show Y _=_;simp_all) (uC g)) (k d b)
def Bc(B:g d ρ=Y ρ1)(h:body ρ1=Y (.nx y)):jS g body (d::ds) ρ=jS g body ds y:=by
 simp only[jS,B,bS,h];rfl
theorem De{α:Type}{O':Dat->dN->a5 dN}{body:O Sx}{V:α->Dat}{I:O α->dN->Prop}:∀(xs g:O α)(ρ:dN),(∀(F:O α)x(R:O α)ρ,g++xs=F++x::R->I F ρ->∃ρ1,O' (V x) ρ=Y ρ1/\Go C body ρ1 λo=>∃B,o=.nx B/\I (F++[x]) B)->I g ρ->∃y,jS O' (e9 C body) (xs.map V) ρ=Y (.nx y)/\I (g++xs) y
 |[],g,ρ,_,h=>⟨ρ,W,by simp_all⟩
 |x::xs,g,ρ,b,h=>by
   obtain⟨ρ1,c,_,d,B,rfl,f⟩:=b g x xs ρ W h;obtain⟨y,a,j⟩:=De xs (g++[x]) B (λF z R ρ q=>b F z R ρ (by simp_all)) f;rw[az,Bc c d]
   simp_all
def lV{α:Type}{g:cc}{O':O T}{it:Iw}{body:O Sx}{V:α->Dat}{xs:O α}{ρ0:dN}{I:O α->dN->Prop}(S:og C (.loop g O' it body) ρ=jS (iU g O') (e9 C body) (xs.map V) ρ0)(c3:I [] ρ0)(hs:∀(F:O α)x(R:O α)ρ,xs=F++x::R->I F ρ->∃ρ1,iU g O' (V x) ρ=Y ρ1/\Go C body ρ1 λo=>∃B,o=.nx B/\I (F++[x]) B)(K:∀y,I xs y->Go C ss y Q):Go C (.loop g O' it body::ss) ρ Q:=by
 obtain⟨y,b,a⟩:=De xs [] _ hs c3;exact dT (by rwa[S]) (K _ a)
def rQ(g:bA C e (full ρ)=Y (d,f))(y:j9 d=Y ds)(B:(im d || f)=U):og C (.loop one F (.itv e) body) ρ=jS (iU one F) (e9 C body) ds ρ:=by
 rw[uK,g,bS,cb B,y];rfl
def OL{O':O T}{body:O Sx}{I:O T->dN->Prop}{P:T->Prop}(y:Ei C e (full ρ) P)(S:∀m,P m->m<=1000)(c3:I [] ρ)(hs:∀m,P m->∀(F:O T)x(R:O T)ρ,aR m=F++x::R->I F ρ->∃ρ1,iU U O' (.int (x:T)) ρ=Y ρ1/\Go C body ρ1 λo=>∃B,o=.nx B/\I (F++[x]) B)(K:∀m,P m->∀g,I (aR m) g->Go C ss g Q):Go C (.loop U O' (.rng [e]) body::ss) ρ Q:=by
 obtain⟨m,f,y,a⟩:=y;exact lV (by rw[xP,u9 y (S m a)];rfl) c3 (hs m a) (K m a)
def DC{J':dN->Prop}{A:O Sx}(h:∃t f,bA C e (full ρ)=Y (.bl t,f))(B:Go C A ρ λo=>∃g,o=.nx g/\J' g)(O':J' ρ)(k:∀g,J' g->Go C ss g Q):Go C (.ifs e A []::ss) ρ Q:=by
 obtain⟨t,f,h⟩:=h;cases t
 .exact dT (by rw[Dy h W];rfl) (k ρ O')
 .obtain⟨_,b,g,rfl,a⟩:=B;exact dT (by rwa[IH h W]) (k _ a)
def Bk{e1 e2 e3:Ex}{P:T->Prop}(y:Ei C e1 (full ρ) P)(B:∀v:T,∃t f,bA C e2 (full (ρ.set i (Y (.int (v:T),J))))=Y (.bl t,f))(F:∀v:T,Ei C e3 (full (ρ.set i (Y (.int (v:T),J)))) P)(K:∀v:T,P v->Go C ss (ρ.set i (Y (.int (v:T),J))) Q):Go C (.set i e1::.ifs e2 [.set i e3] []::ss) ρ Q:=by
 refine n4 (pv y) λd g=>?_;obtain⟨v,rfl,b⟩:=g;refine DC (J':=λc=>∃v:T,P v/\c=ρ.set i (Y (.int (v),J))) (B v) (n4 (pv (F v)) λd g=>?_) ⟨v,b,W⟩ λc h=>?_
 .obtain⟨w,rfl,a⟩:=g;exact cP ⟨_,W,w,a,List.set_set _⟩
 .obtain⟨w,a,rfl⟩:=h;exact K w a
def lE{A B:O Sx}{b:cc}{f:cc}{J':dN->Prop}(h:bA C e (full ρ)=Y (.bl b,f))(O':b=U->Go C A ρ λo=>∃g,o=.nx g/\J' g)(y:b=J->Go C B ρ λo=>∃g,o=.nx g/\J' g)(k:∀g,J' g->Go C ss g Q):Go C (.ifs e A B::ss) ρ Q:=by
 cases b
 .obtain⟨_,c,g,rfl,a⟩:=y W;exact dT (by rwa[Dy h W]) (k _ a)
 .obtain⟨_,c,g,rfl,a⟩:=O' W;exact dT (by rwa[IH h W]) (k _ a)
end
def OK(h:bA C e (full ρ)=Y (.bl U,f))(O':e9 C A ρ=Y (.rt d g))(q:Q (.rt d g)):Go C (.ifs e A B::ss) ρ Q:=⟨_,by rw[Q7 (by rwa[IH h W])],q⟩
def nM(h:bA C e (full ρ)=Y (.bl J,f))(k:Go C ss ρ Q):Go C (.ifs e A []::ss) ρ Q:=dT (by rw[Dy h W];rfl) k
def rk{ds:O Dat}(B:Z ds=np)(h:Go (Cn D n) body (ds.map (λd=>Y (d,J))++bH (nl - np) L) λo=>o=.rt d b):KS (Cn D n) np nl body ds=Y (d,b):=by
 obtain⟨_,a,rfl⟩:=h;exact fG B a
def dw{ns:O cx}:Dw (Cn D (n+2)) (.lst (ns.map Dat.int)):=λk p m f r a=>by
 obtain⟨j,b⟩:=kO f.1;obtain⟨c,g⟩:∃c:cx,Cn D (n+1) 23 [.lst (ns.map _),.int _]=Y (.int c,J):=(by
  have i:jg .len [.lst (ns.map Dat.int)]=Y (.int (ns.length),J):=by simp
  by_cases h:j<Z ns
  .refine⟨ns[j],rk W (OK (km W (lG W i) (c7 Y (c0 (show(j:cx)<(ns.length)from(vq.mpr h))))) (AR (yy W rfl (lN (by simp_all)))) W)⟩
  .exact⟨0,rk W (nM (km W (lG W i) (c7 Y (c6 (show¬(j:cx)<(ns.length)from(λz=>(wm z (fQ.mpr (cB h)))))))) (iN W rfl))⟩);rw[<-b]at g;have h:Go (Cn D (n + 1)) b24 [Y ((Dat.lst (Vd _ ns)),J),Y (.int k,J),Y (.int p,J),Y (.int m,J),L] λo=>o=.rt (.int _) J:=(by refine dT (ie (iT (iT (iT (iT g W (cb (.inr ⟨cV,cV⟩))) (iT (iT W rfl (yg cV cV)) W (cb (.inr ⟨(Lp f.1),(gZ f.2 cV)⟩))) W) W rfl) W (pA r)) W) ?_;exact iN (iT (iT (iT W rfl (cb (.inr ⟨cV,cV⟩))) W (pA cV)) W (pA a)) W);generalize e:(c * 48271+7919 * k * k+11) % p * 7919 % 999983=y at h;have l:y % m<m:=Int.emod_lt_of_pos _ a;obtain⟨q,d⟩:=kO (Vh _ (Int.ne_of_gt a));rw[d]at l h;exact⟨q,rk W h,l⟩
def qJ{C:Fs}{ρ:iO}{α:Type}{caps:O T}{it:Iw}{c:Ex}{xs:O α}{e:α->Dat}(p:α->cc)(hi:Br C it ρ=Y (xs.map e))(g:Z xs<=1000)(B:∀x,im (e x)=U)(h:∀x∈xs,∃f,bA C c ((j4 1 caps ρ).set 0 (Y (e x)))=Y (.bl (p x),f))(O':∀d:Dat,bA C (.v 0) ((j4 1 caps ρ).set 0 (Y d))=Y (d,J):=by intro;rfl):bA C (.comp 1 U caps it [c] (.v 0)) ρ=Y (.lst ((xs.filter p).map e),U):=by
 apply pz hi (by rw[aE];exact aa g cV);clear hi g
 induction xs with
 |nil=>rfl
 |cons x xs a=>
   obtain⟨f,i⟩:=h x jB;rw[az,rO,DW i W,a λy b=>h y (jU _ b),O'];cases q:p x<;>simp[q,B]
def tP{C:Fs}{ρ:iO}{α:Type}{caps:O T}{it:Iw}{elt:Ex}{xs:O α}{e g:α->Dat}(hi:Br C it ρ=Y (xs.map e))(F:Z xs<=1000)(B:∀x∈xs,im (g x)=U)(h:∀x∈xs,∃f,bA C elt ((j4 1 caps ρ).set 0 (Y (e x)))=Y (g x,f)):bA C (.comp 1 U caps it [] elt) ρ=Y (.lst (xs.map g),U):=by
 refine pz hi (by grind) ?_;clear hi F
 induction xs with
 |nil=>rfl
 |cons x xs b=>
   obtain⟨f,c⟩:=h x jB;rw[az,rO,Ac,c,b (λy a=>B y (jU _ a)) λy a=>h y (jU _ a)];simp[B x jB]
abbrev Ed:=aV×O T×O cx×aV
abbrev fB(e:Ed):Dat:=.tup [.str e.1,.str (T' e.2.1),.tup (e.2.2.1.map Dat.int),.str e.2.2.2]
abbrev O9(e:Ed):O NK:=[.inl (.inr e.1),.inl (.inr (T' e.2.1)),.inr (e.2.2.1.map iN2),.inl (.inr e.2.2.2)]
def Vz(e:Ed):Yi (fB e)=Y (O9 e):=by
 simp only[Yi,nkL,nkI,xt,cT,bS]
theorem NO:∀es:O Ed,yM (es.map fB)=Y (es.map O9)
 |[]=>rfl
 |e::es=>by
   rw[az,yM,Vz,NO es];rfl
theorem allI:∀l:O cx,(l.map iN2).all sI=U
 |[]=>rfl
 |a::r=>by rw[az,eF,allI r];rfl
noncomputable abbrev shE:O (O T):=[[1],[1],[2],[1]]
def zx(e:Ed):(O9 e).map sN=shE:=by
 simp only[az,List.map_nil,sN,allI,ek]
abbrev Lv(e:Ed):O (O (O cx)):=codeN (O9 e)
def JY(es:O Ed):O Dat:=(jb yO (es.map Lv)).map (GH shE)
def Vy(e:Ed):∀x∈O9 e,C1 (sN x)=U:=λx a=>by
 have:sN x∈(O9 e).map sN:=eh a;rw[zx]at this;exact bc.mp cV _ this
def Pu(h:Lv a=Lv b):a=b:=by
 have d :=code_inj ((zx a).trans (zx b).symm) (Vy a) h;simp only[O9,gV,Sum.inl.injEq,Sum.inr.injEq,and_true]at d;obtain⟨d,f,e,c⟩:=d;exact G7 d (G7 (by simp_all) (G7 ((Lj (λx y z=>uR (uR z))).mp e) c))
def A2{α:Type}[BEq α][LawfulBEq α]{l g:O α}(B:l.Nodup)(h:∀x∈l,x∈g):Z l<=Z g:=by
 induction l generalizing g with
 |nil=>exact aU _
 |cons a r c=>
   have d:=h a jB;have:=c (a6.mp B).2 λx b=>(List.mem_erase_of_ne (λe:x=a=>(a6.mp B).1 (e▸b))).mpr (h x (jU _ b))
   grind
def WQ(es:O Ed):∃E:O Ed,JY es=E.map fB/\E.Nodup/\(∀e,e∈E↔e∈es)/\Z E<=Z es:=by
 have a:∀l:O (O (O _)),(∀c∈l,∃e:Ed,c=Lv e)->l.Nodup->∃E:O Ed,l=E.map Lv/\E.Nodup:=λl=>by
  induction l with
  |nil=>intro _ _;exact⟨[],W,eE⟩
  |cons c r d=>
    intro h b;obtain⟨e,rfl⟩:=h c jB;obtain⟨E,i,j⟩:=d (λc k=>h c (jU _ k)) (a6.mp b).2;refine⟨_,by rw[i];rfl,a6.mpr ⟨λm=>(a6.mp b).1 ?_,j⟩⟩;rw[i];exact eh m
 obtain⟨E,i,j⟩:=a _ (λc k=>by
  obtain⟨e,_,rfl⟩:=bT.mp ((kc Dh).mp k)
  exact⟨e,W⟩) (oz Dh (kI Dh _))
 refine⟨E,?_,j,λe=>?_,?_⟩
 .unfold JY;rw[i,cZ];exact dS λe _=>by have:=Jc (Vz e) (Vy e);rwa[zx]at this
 .have:=kc Dh (z:=Lv e) (l:=es.map Lv);rw[i]at this;constructor
  .intro h;obtain⟨f,n,q⟩:=bT.mp (this.mp (eh h));rwa[<-Pu q]
  .intro h;obtain⟨f,n,q⟩:=bT.mp (this.mpr (eh h));rwa[<-Pu q]
 .have:=A2 (oz Dh (kI Dh (es.map Lv))) λx g=>(kc Dh).mp g;rwa[i,aE,aE]at this
def We(es:O Ed):Z (jb yO (es.map Lv))<=Z es:=by
 have:=A2 (oz Dh (kI Dh (es.map Lv))) λx a=>(kc Dh).mp a
 simp_all
def Ra{es:O Ed}(g:Z es<=300)(B:es≠[]):jg .sset [.lst (es.map fB)]=Y (.lst (JY es),U):=by
 cases es with
 |nil=>exact absurd rfl B
 |cons e r=>
   have a:Lo ((e::r).map O9)=shE:=zx e
   have b:(((e::r).map O9).all λk=>decide (k.map sN=Lo ((e::r).map O9)))=U:=by
    rw[bc];intro k c;obtain⟨q,_,rfl⟩:=bT.mp c;rw[a];exact c0 (zx q)
   show(yM _).bind zv=_;rw[NO];show zv _=_;unfold zv Nz;rw[cb ⟨by rw[aE];omega,by rfl,by rw[a];rfl,b,by rw[cZ];exact aa (We _) g⟩,a,cZ];rfl
structure Tb where
 fs:O Fm
 m0:O cx
 m1:O cx
 m2:O cx
 m3:O cx
 fg:O cx
structure NA(t:Tb):Prop where
 ho:∀f∈t.fs,KL f
 hl:Z t.fs<=12
 h0:Z t.m0<=2
 h1:Z t.m1<=2
 h2:Z t.m2<=2
 h3:Z t.m3<=2
 hf:Z t.fg<=10
abbrev S4(t:Tb):Dat:=.tup [tI t.m0,tI t.m1,tI t.m2,tI t.m3]
abbrev tb(t:Tb):Dat:=.tup [.tup (t.fs.map kA),S4 t,tI t.fg]
def NM(m:O cx):jL .ne (tI m) (.tup [])=Y (!m.isEmpty):=by
 cases m with
 |nil=>rfl
 |cons a r=>
   rw[adP (AH 19 _) W];rfl
def GF(m:O cx):jL .eq (tI m) (.tup [])=Y m.isEmpty:=by
 cases m with
 |nil=>rfl
 |cons a r=>
   rw[aek (AH 19 (a::r)) W];rfl
def uG(m:O cx):jg .len [tI m]=Y (.int (m.length:T),J):=by rw[GP,aE]
def rS(m:O cx):im (tI m)=U:=tH m
def GZ(a b:O cx)(h:Z a+Z b<=1000):hJ .add (tI a) (tI b)=Y (tI (a++b),J):=by
 rw[GQ (by rw[aE,aE];exact aa h cV),<-fX]
noncomputable abbrev uO:aV:=ae "out"
noncomputable abbrev rG:aV:=ae "let"
def OA(a b c:aV)(m:O cx):im (.tup [.str a,.str b,tI m,.str c])=U:=by
 simp[im,nv,(tH m)]
def Nd(u:O T)(f:T->O T):(BZ (T' u) λ_ c=>f c)=(u.flatMap f).toArray:=by
 apply Array.ext';simp only[BZ];rw[Array.toList_flatten,Array.toList_mapIdx]
 have e:∀(u:O _),(u.mapIdx λ_ c=>(f c).toArray)=u.map λc=>(f c).toArray:=λu=>by
  apply jX<;>simp
 rw[e,cZ]
 congr 1
def vT(h:∀c∈u,c∈oA)(g:Z u<=1000):je .upper (.str (T' u)) []=Y (.str (T' (u.map (·- 32))),J):=by
 show(if(T' u).length<=1000000 then Y (Dat.str _,J)else L)=_;rw[qv,cb (aa g cV)]
 have:ua (T' u)=T' (u.map (·- 32)):=by
  show(⟨_⟩:aV)=_;rw[Nd];show T' _=T' _
  congr 1
  clear g
  induction u with
  |nil=>rfl
  |cons a r b=>
    rw[uW,c8 (bc.mp (show (oA.all λa=>decide (vm a=[a - 32]))=U by kernel_rfl) a (h a jB)),b λc m=>h c (jU _ m)];rfl
 rw[this]
def TN(l:O T):O T:=(T' [l.headD 0 - 32]++dH (T' l) (Y 1) L).cps.toList
noncomputable abbrev uT(l:O T):O T:=l.map (·- 32)
noncomputable abbrev V8:aV:=ae "all"
noncomputable abbrev BK:aV:=ae "done"
theorem Ov:∀es:O Ed,nv (es.map fB)=U
 |[]=>rfl
 |e::es=>by rw[az,nv,OA,Ov es];rfl
noncomputable abbrev qL:aV:=ae "num"
noncomputable abbrev FIG:aV:=ae "0123456789"
noncomputable def uJ:O T:=[48,49,50,51,52,53,54,55,56,57]
noncomputable def ZJ:O Ed:=[("out",[32],[0],"out"),("done",[32],[0],"out"),("num",[32],[0],"out")]
noncomputable abbrev P5:aV:=ae "in"
def PW:ae "w"=T' [119]:=by decide +kernel
def PE:ae "e"=T' [101]:=by decide +kernel
def xI(e:Ed):im (fB e)=U:=OA ..
def Zl(es:O Ed)(e:Ed):es.map fB++[fB e]=(es++[e]).map fB:=by simp
theorem oE{α y:Type}{g:α->O y}{m:T}:∀{l:O α},(∀x∈l,Z (g x)<=m)->Z (l.flatMap g)<=m * Z l
 |[],_=>by simp
 |a::r,h=>by
   rw[uW,aL,bG,Nat.mul_add];have:=h a jB;have:=oE λx b=>h x (jU _ b);grind
def ite_le{α:Type}{x y:O α}(g:Z x<=n)(B:Z y<=n):Z (if b=U then x else y)<=n:=by
 split
 .exact g
 .exact B
def Nc{α:Type}{l g y:O α}{x:α}(h:l=g++x::y):Z g<Z l:=by
 rw[h,aL];exact bf (be _ _)
section
variable{es:O Ed}
def xR(g:bA C a ρ=Y (.str e.1,f1))(y:bA C b ρ=Y (sT e.2.1,f2))(F:bA C c ρ=Y (tI e.2.2.1,I))(B:bA C d ρ=Y (.str e.2.2.2,f4)):Ev C (.tup [a,b,c,d]) ρ (·= fB e):=
 ⟨_,_,by rw[xQ,dZ,g,dZ,y,dZ,F,dZ,B];rfl,xI e,W⟩
def adX(h:Ev C x ρ (·= d)):bA C (.lst [x]) ρ=Y (.lst [d],U):=by
 obtain⟨_,b,a,c,rfl⟩:=h;rw[Gy,dZ,a];show Y _=_;rw[c,p6];rfl
def DD(h:Ev C x (full ρ) (·= fB e))(hi:(ρ[i]?).join=Y (.lst (es.map fB),U))(g:Z es<1000)(k:Go C ss (ρ.set i (Y (.lst ((es++[e]).map fB),U))) Q):Go C (.mut .app i [x]::ss) ρ Q:=
 xM h hi (by rw[aE];exact aa g cV) λd a=>by rwa[a,Zl]
def TY(h:bA C c (full ρ)=Y (.bl b,y))(B:Ev C x (full ρ) (·= fB e))(hi:(ρ[i]?).join=Y (.lst (es.map fB),U))(O':ρ.set i (Y (.lst (es.map fB),U))=ρ)(g:Z es<1000)(k:Go C ss (ρ.set i (Y (.lst ((es++if b=U then [e]else []).map fB),U))) Q):Go C (.ifs c [.mut .app i [x]] []::ss) ρ Q:=by
 refine lE (J':=λa=>a=ρ.set i (Y (.lst _,U))) h (λq=>?_) (λq=>cP ⟨_,W,?_⟩) λa e=>by rwa[e]
 .rw[cb q];exact DD B hi g (cP ⟨_,W,W⟩)
 simp_all
def aco(h:bA C a ρ=Y (.bl x,f))(B:bA C b ρ=Y (.bl y,g)):∃g,bA C (.and a b) ρ=Y (.bl (x && y),g):=by
 cases x
 .exact⟨J,v8 h⟩
 .exact⟨g,by rwa[v8 h]⟩
def or2(h:bA C a ρ=Y (.bl x,f))(B:bA C b ρ=Y (.bl y,g)):∃g,bA C (.or a b) ρ=Y (.bl (x || y),g):=by
 cases x
 .exact⟨g,by rwa[xU h]⟩
 .exact⟨J,xU h⟩
end
noncomputable def W6:O (T×aV×aV):=[(119,"out","done"),(119,"let","done"),(98,"out","in"),(98,"let","in"),(109,"in","in"),(101,"in","done")]
noncomputable def A6:O (T×aV×aV):=[(119,"out","done"),(119,"let","done"),(98,"out","all"),(98,"let","all"),(109,"all","all"),(101,"all","done")]
abbrev w6D(w:T×aV×aV):Dat:=.tup [sT [w.1],.str w.2.1,.str w.2.2]
noncomputable abbrev Qo(f:Fm)(w:T×aV×aV):O Ed:=if decide (w.1∈f.2.2)=U then [(w.2.1,f.1,f.2.1,w.2.2)]else []
abbrev E6(f:Fm):O Ed:=W6.flatMap (Qo f)
def Gm{α:Type}{b:cc}{e:α}:Z (if b=U then [e]else [])<=1:=ite_le (ao 1) (aU 1)
def Pa(f:Fm):Z (E6 f)<=6:=oE λ_ _=>Gm
abbrev TV(m:O cx)(e:Ed):Ed:=(e.1,TN e.2.1,m++e.2.2.1,e.2.2.2)
theorem zS{m:O cx}(O':m.length<=2)(B:Dat):∀es:O Ed,(∀e∈es,∃f,KL f/\e.2.1=f.1/\e.2.2.1=f.2.1)->rO (qt C 4 J (j4 4 [1] [Y B,Y (tI m)]) [] GX) (es.map fB)=Y ((es.map (TV m)).map fB,U)
 |[],_=>rfl
 |e::es,h=>by
   obtain⟨f,o,p,u⟩:=h e jB;obtain⟨l,n,i,j,k,g⟩:∃(B:T) (O':aV),xF (.str (T' f.1)) (.int 0)=Y (.str (T' [B]))/\je _ (.str (T' [B])) []=Y (.str (T' [B - 32]),J)/\Fu (.str (T' f.1)) (Y 1) L=Y (.str O',J)/\hJ .add (.str (T' [B - 32])) (.str O')=Y (.str (T' (TN _)),J):=(by
    obtain⟨B,d,t⟩:∃c r,f.1=c::r:=by
     cases q:f.1 with
     |nil=>exact absurd q o.ne
     |cons c r=>exact⟨c,r,W⟩
    have b :=o.low B (by simp_all);refine⟨B,dH _ _ L,?_,vT (λc t=>by simp_all) (by simp),cb (aa o.ll cV),?_⟩
    .rw[t];exact YV (by rw[<-t];exact aa o.ll cV) (by simp)
    .have w:(T' _).length=f.1.length:=qv _;have p:(T' [B - 32]).length=1:=qv _;have x:f.1.headD 0=B:=by rw[t];rfl
     show(if(T' _).length+(dH (T' _) _ L).length<=aF then Y (Dat.str (T' _++dH (T' _) _ L),J)else L)=_;rw[cb (by rw[p,eG];exact rP (B1 (T' f.1) _ L) (af w) o.ll)];unfold TN;rw[x]);obtain⟨d,b,y,E,rfl⟩:=xR (ρ:=[Y _,Y (sT e.2.1),Y (tI _),Y (.str e.2.2.2),Y (tI m)]) (e:=TV m e) (a:=.v 0) (b:=.bin _ (.iH _ (.ix (.v 1) (.e_ 0)) []) (.sl (.v 1) (Y (.e_ 1)) L)) (c:=.bin .add (.v 4) (.v 2)) (d:=.v 3) W (iT (abv (yy W rfl (by rwa[p])) j) (WX W rfl (by rwa[p])) (by rwa[<-p]at g)) (GZ m _ (by rw[u];exact aa (nU O' o.cl) cV)) W
   have t:qt C 4 J (j4 4 [1] [Y B,Y (tI m)]) [] GX (fB e)=Y (Y (fB (TV m e),b)):=by
    show(bA C GX [Y (.str _),Y (sT _),Y (tI _),Y (.str _),Y _]).map Y=_;rw[y];rfl
   rw[az];unfold rO;rw[zS O' B es λe A=>h e (jU _ A)]
   simp_all
def Kc{n:T}{m:O cx}(B:Z m<=2){es:O Ed}(h:∀e∈es,∃f,KL f/\e.2.1=f.1/\e.2.2.1=f.2.1)(g:Z es<=1000):Cn D (n+1) 6 [.lst (es.map fB),tI m]=Y (.lst ((es.map (TV m)).map fB),U):=
 fG W (AR (pz W (by rw[aE];exact aa g cV) (zS B _ es h)))
noncomputable abbrev bg(f:Fm)(w:T×aV×aV):cc:=decide (w.1∈f.2.2) && (!decide ([w.1]=[119]) || decide (1<(f.1.length:cx)))
def Lr(m:O cx)(f:Fm)(w:T×aV×aV):O Ed:=if bg f w=U then [(w.2.1,uT f.1,(if(w.2.1 == V8)=U then []else m)++f.2.1,w.2.2)]else []
abbrev H6(m:O cx)(f:Fm):O Ed:=A6.flatMap (Lr m f)
def Gq(m:O cx)(f:Fm):Z (H6 m f)<=6:=oE λ_ _=>Gm
abbrev pF(t:Tb)(p:T×cx):O Ed:=[(uO,[p.1],t.m2++[p.2],qL),(BK,[p.1],t.m2++[p.2],qL),(qL,[p.1],[p.2],qL)]
abbrev Bo(t:Tb):O (T×cx):=uJ.zip t.fg
abbrev fgD(p:T×cx):Dat:=.tup [sT [p.1],.int p.2]
theorem Ha:∀(l:O T)(g:O cx),qc ((l.map λc=>T' [c]).map Dat.str) (g.map Dat.int)=(l.zip g).map fgD
 |[],_=>by simp[qc]
 |_::_,[]=>by simp[qc]
 |c::l,x::g=>by
   have:=Ha l g;simp only[az,qc,Li,this]
abbrev rF(t:Tb):O Ed:=if t.fg.isEmpty=U then []else(qL,[],t.m3,rG)::(Bo t).flatMap (pF t)
def DN(t:Tb):Z (Bo t)<=10:=by
 rw[yr];exact kr _ _
def aex : es++[a]++[b]++[c]=es++[a,b,c]:=by simp
abbrev C3(e:Ed):cc:=!(e.1 == rG)
def BH(A B:O Ed)(h:Z A+Z B<=1000):hJ .add (.lst (A.map fB)) (.lst (B.map fB))=Y (.lst ((A++B).map fB),U):=by
 rw[sj (by rw[aE,aE];exact aa h cV),<-fX,Ov]
abbrev s0(t:Tb):O Ed:=t.fs.flatMap E6
abbrev s1(t:Tb):O Ed:=if t.m0.isEmpty=U then s0 t else s0 t++(s0 t).map (TV t.m0)
abbrev Ey(t:Tb):O Ed:=if t.m1.isEmpty=U then s1 t else s1 t++t.fs.flatMap (H6 t.m1)
abbrev s3(t:Tb):O Ed:=if t.fg.isEmpty=U then(Ey t).filter C3 else Ey t
abbrev got(t:Tb):O Ed:=s3 t++ZJ++rF t
def FC{t:Tb}(g:Z t.fs<=12):Z (s0 t)<=72:=by
 exact nZ (oE λf _=>Pa f) (Nat.mul_le_mul_left 6 g)
def MI{t:Tb}(g:Z t.fs<=12):Z (s1 t)<=144:=by
 have h:=FC g;exact ite_le (aa h cV) (by rw[aL,aE];exact aa (nU h h) cV)
def FA{t:Tb}(g:Z t.fs<=12):Z (Ey t)<=216:=by
 have h:=MI g;exact ite_le (aa h cV) (by exact rP h (oE (l:=t.fs) λf _=>Gq t.m1 f) (Nat.mul_le_mul_left 6 g))
def MG{t:Tb}(g:Z t.fs<=12):Z (s3 t)<=216:=ite_le (aa (dv _ _) (FA g)) (FA g)
def M1(t:Tb):Z (rF t)<=31:=by
 have h:=DN t;have a:=oE (g:=pF t) (l:=Bo t) λ_ _=>ao 3;exact ite_le (aU _) (by grind)
abbrev e5(t:Tb)(es:O Ed):dN:=[Y (tb t,J),Y (.tup (t.fs.map kA),J),Y (S4 t,J),Y (.lst (es.map fB),U)]
def Oy(t:Tb):im (S4 t)=U:=by
 simp only[im,nv,mo,ah];exact⟨rS _,rS _,rS _,rS _⟩
def VL{B:O Ed}(h:bA C c (full (e5 t A))=Y (.bl (!b),f))(O':bA C y (full (e5 t A))=Y (.lst (B.map fB),U))(k:Go C ss (e5 t (if b=U then A else B)) Q):Go C (.ifs c [.set 3 y] []::ss) (e5 t A) Q:=by
 refine lE (J':=λa=>a=e5 t _) h (λq=>eZ O' (cP ⟨_,W,?_⟩)) (λq=>cP ⟨_,W,?_⟩) λa h=>by rwa[h]
 .rw[cv (by simpa using q)];rfl
 .rw[cb (by simpa using q)]
def zA(F:NA t)(B:Z (got t)<=300):Cn D (n+2) 8 [tb t]=Y (.lst (JY (got t)),U):=by
 have d:=Kc (n:=n) F.h0 (λe S=>by
  obtain⟨f,K,h⟩:=l5.mp S;obtain⟨w,_,h⟩:=l5.mp h;unfold Qo at h;split at h
  .rw[ax.mp h];exact⟨f,F.ho f K,W,W⟩
  .cases h) (aa (FC F.hl) cV)
 have a:=FC F.hl;have p:=MI F.hl;have b:=MG F.hl;have r:=oE (l:=t.fs) λf _=>Gq t.m1 f;have m:=F.hl;refine rk W ?_;refine dT (ie W (pq _)) (dT (ie W (Oy t)) (eZ ((show Cn D (n+1) 5 [.tup (t.fs.map kA)]=Y (.lst ((t.fs.flatMap E6).map fB),U) by refine rk W ?_;refine eZ W (lV (I:=λk ρ=>∃c d N a H b,ρ=[Y (.tup _,J),Y (.lst ((k.flatMap E6).map fB),U),c,d,N,a,H,b]) (rQ W rfl (by show(nv _ || J)=U;rw[pq];rfl)) ⟨_,_,_,_,_,_,W⟩ ?_ λρ G=>by obtain⟨_,_,_,_,_,_,h⟩:=G;rw[h];exact⟨_,W,W⟩);rintro k f Q _ i ⟨_,_,_,a,H,b,rfl⟩;have X:=oE (l:=k) λf _=>Pa f;refine⟨_,W,lV (V:=w6D) (xs:=W6) (I:=λws ρ=>∃a H b,ρ=[Y (.tup (t.fs.map kA),J),Y (.lst ((k.flatMap E6++ws.flatMap (Qo f)).map fB),U),Y (sT f.1,J),Y (tI f.2.1,J),Y (sT f.2.2,J),a,H,b]) (rQ W rfl rfl) ⟨a,H,b,by rw[vQ,aW];rfl⟩ ?_ λρ G=>by obtain⟨_,_,_,h⟩:=G;rw[h];exact cP ⟨_,W,_,_,_,_,_,_,by rw[iS,kW]⟩⟩;rintro ws w Q _ e ⟨_,_,_,rfl⟩;have h2:=oE (g:=Qo f) (l:=ws) λ_ _=>Gm;have R:Z ws<6:=Nc e;exact⟨_,W,TY (km W rfl Ol) (xR W rfl rfl rfl) W rfl (by grind) (cP ⟨_,W,_,_,_,by rw[iS,kW,<-aT];rfl⟩)⟩)) ?_));refine VL (km W rfl (NM _)) (iT W d (BH _ _ (by rw[aE];exact aa (nU a a) cV))) ?_;refine VL (A:=s1 t) (km W rfl (NM _)) (iT W ((show Cn D (n+1) 7 [.tup (t.fs.map kA),tI t.m1]=Y (.lst ((t.fs.flatMap (H6 t.m1)).map fB),U) by
  refine rk W ?_;generalize Cn D n=C;refine eZ W (lV (I:=λk ρ=>∃p N r H d i c,ρ=[Y (.tup _,J),Y _,Y (.lst ((k.flatMap (H6 t.m1)).map fB),U),p,N,r,H,d,i,c]) (rQ W rfl (by show(nv _ || J)=U;rw[pq];rfl)) ⟨_,_,_,_,_,_,_,W⟩ ?_ λρ G=>by obtain⟨_,_,_,_,_,_,_,h⟩:=G;rw[h];exact⟨_,W,W⟩);rintro k f Q _ s ⟨_,_,_,H,d,i,c,rfl⟩;have j:=oE (l:=k) λf _=>Gq t.m1 f;have K:=F.ho f (by rw[s];simp);refine⟨_,W,lV (V:=w6D) (xs:=A6) (I:=λws ρ=>∃H d i c,ρ=[Y (.tup (t.fs.map kA),J),Y (tI t.m1,J),Y (.lst ((k.flatMap (H6 t.m1)++ws.flatMap (Lr t.m1 f)).map fB),U),Y (sT f.1,J),Y (tI f.2.1,J),Y (sT f.2.2,J),H,d,i,c]) (rQ W rfl rfl) ⟨H,d,i,c,by rw[vQ,aW];rfl⟩ ?_ λρ G=>by obtain⟨_,_,_,_,h⟩:=G;rw[h];exact cP ⟨_,W,_,_,_,_,_,_,_,by rw[iS,kW]⟩⟩;rintro ws w Q _ E ⟨_,_,_,c,rfl⟩;have h2:=oE (g:=Lr t.m1 f) (l:=ws) λ_ _=>Gm;have R:Z ws<6:=Nc E;refine⟨_,W,?_⟩;rw[iS,kW,<-aT];have o:Z (k.flatMap (H6 t.m1)++ws.flatMap (Lr t.m1 f))<1000:=by grind
  generalize k.flatMap _++ws.flatMap _=es at o ⊢;obtain⟨z,u⟩:=or2 (ρ:=full [Y (.tup _,J),Y _,Y (.lst _,U),Y (sT _,J),Y (tI _,J),Y (sT _,J),Y (sT _,J),Y (.str _,J),Y (.str _,J),c]) (a:=.cmp _ (.v 6) (.con (sT [119]))) (b:=.cmp .gt (.blt _ [.v 3]) (.e_ 1)) (km W rfl (ne_T _ _)) (km (lG W (len_T (aa K.ll cV))) W rfl);obtain⟨A,x⟩:=aco (km (a:=.v 6) (e:=.v 5) W rfl Ol) u;refine lE (J':=λρ=>∃c,ρ=[Y (.tup _,J),Y _,Y (.lst _,U),Y (sT _,J),Y (tI _,J),Y _,Y (sT [w.1],J),Y (.str w.2.1,J),Y (.str w.2.2,J),c]) x (λq=>?_) (λq=>cP ⟨_,W,c,by unfold Lr;rw[cv (by rw[show bg f w=J from q];decide),aW];rfl⟩) λρ ⟨c,h⟩=>cP ⟨_,W,_,_,_,c,h⟩
  have y:bA C (.ite (.cmp .eq (.v 7) (.con (.str V8))) (.tup []) (.v 1)) (full [Y (.tup (t.fs.map kA),J),Y (tI t.m1,J),Y (.lst (es.map fB),U),Y (sT f.1,J),Y (tI f.2.1,J),Y (sT f.2.2,J),Y (sT [w.1],J),Y (.str w.2.1,J),Y (.str w.2.2,J),c])=Y (tI (if(w.2.1 == V8)=U then []else t.m1),w.2.1 == V8):=by
   rw[IX (km W rfl ael) W];cases w.2.1 == V8<;>rfl
  refine dT (ie y (rS _)) (DD (e:=(w.2.1,uT _,(if(w.2.1 == V8)=U then []else t.m1)++f.2.1,w.2.2)) (xR W (abv W (vT K.low (aa K.ll cV))) (GZ _ _ (aa (nU (ite_le (aU _) F.h1) K.cl) cV)) W) W o (cP ⟨_,W,_,by unfold Lr;rw[cb (q)];rfl⟩)))) (BH _ _ (rP p r (Nat.mul_le_mul_left 6 m)))) ?_;refine lE (J':=λρ=>ρ=e5 t (s3 t)) (km W rfl (GF _)) (λq=>eZ (qJ C3 W (aa (FA F.hl) cV) xI λe _=>⟨J,km W rfl rfl⟩) (cP ⟨_,W,?_⟩)) (λq=>cP ⟨_,W,?_⟩) ?_
 .show _=e5 t (if t.fg.isEmpty=U then(Ey t).filter C3 else Ey t);rw[cb q];rfl
 .show _=e5 t (if t.fg.isEmpty=U then(Ey t).filter C3 else Ey t);rw[cv (show¬t.fg.isEmpty=U by rw[q];decide)]
 .rintro _ rfl;exact iN (lG (iT (iT W ((show Cn D _ 3 []=Y (.lst _,U) by exact qh (by kernel_rfl))) (BH _ _ (Nat.add_le_add_right (aa b cV) _))) ((show Cn D _ 4 [S4 t,tI _]=Y (.lst _,U) by
   refine rk (body:=b4) W ?_;generalize Cn D n=C;have P:bA C (.cmp _ (.v 1) (.tup [])) (full [Y (S4 t,J),Y (tI t.fg,J),L,L,L])=Y _:=km W rfl (GF _);unfold K32.b4 rF;revert P;cases t.fg.isEmpty
   .intro P;refine nM P (eZ (ds:=[(qL,[],t.m3,rG)].map fB) (adX (xR W rfl rfl rfl)) (lV (V:=fgD) (xs:=Bo t) (ρ0:=[Y (S4 t,J),Y (tI t.fg,J),Y _,L,L]) (I:=λk ρ=>∃c N,ρ=[Y _,Y _,Y (.lst (((qL,[],t.m3,rG)::k.flatMap (pF t)).map fB),U),c,N]) ?_ ⟨_,_,W⟩ ?_ λρ G=>by obtain⟨_,_,h⟩:=G;rw[h];exact⟨_,W,W⟩))
    .show bV (pI (λds=>(ds,[Y _,Y (tI _,J),Y _,L,L])) (Y (qc _ _))) (λx:O _×dN=>jS _ ..)=_;rw[AG,Ha];rfl
    .rintro k p Q _ d ⟨_,_,rfl⟩;have X:=DN t;have R:=oE (g:=pF t) (l:=k) λ_ _=>ao 3;refine⟨_,W,?_⟩;rw[iS,<-pL];have a:Z ((qL,[],t.m3,rG)::k.flatMap (pF t))<900:=by grind
     generalize (qL,[],t.m3,rG)::k.flatMap _=es at a ⊢;have b:=GZ _ [p.2] (by exact aA F.h2 (by decide));exact DD (e:=(uO,[p.1],t.m2++[p.2],qL)) (xR W rfl b W) W (aa a (by decide)) (DD (e:=(BK,[p.1],t.m2++[p.2],qL)) (xR W rfl b W) W (by simp;exact aA a (by decide)) (DD (xR W rfl rfl rfl) W (by simp;exact bf (aA a (by decide))) (cP ⟨_,W,_,_,by rw[aex];rfl⟩)))
   .intro P;exact OK P W rfl)) (BH _ _ (by rw[aL];show _+3+_<=_;exact nZ b (M1 t)))) (Ra B (by intro e;simp[ZJ]at e))) W
theorem DP:∀{a b:O Sx}{ρ g:dN},e9 C a ρ=Y (.nx g)->e9 C (a++b) ρ=e9 C b g
 |[],_,ρ,g,h=>by cases h;rfl
 |s::a,b,ρ,g,h=>by
   obtain⟨o,d,c⟩:=bX h
   obtain⟨_,rfl⟩:∃r,o=.nx r:=by cases o<;>first|exact⟨_,W⟩|cases c
   rw[pL,lL d];exact DP c
noncomputable abbrev jx:O aV:=["out","in","done","num","let","all"]
theorem HJ{g g':aV->Dat}{s:aV}:∀{l:O aV},l.Nodup->s∈l->(∀y∈l,y≠s->g' y=g y)->∃j,posK (.inr s) (l.map bM)=Y j/\(l.map g)[j]?=Y (g s)/\(l.map g).set j (g' s)=l.map g'
 |a::r,b,c,h=>by
   obtain⟨d,f⟩:=a6.mp b;by_cases q:a=s
   .subst q;refine⟨0,cb W,W,?_⟩;have :=dS λy m=>(h y (jU _ m) λe=>d (e▸m)).symm
    grind
   .obtain⟨j,k,i,n⟩:=HJ f ((ak.mp c).resolve_left λe=>q e.symm) λy m=>h y (jU _ m);refine⟨j+1,?_,i,?_⟩
    .show(if(bM a)=.inr s then Y 0 else(posK _ _).map _)=_
     simp_all
    simp_all
noncomputable abbrev D7(E:O Ed)(s:aV):O Ed:=E.filter λe=>e.1 == s
abbrev VN(E:O Ed)(s:aV):Dat:=.lst ((D7 E s).map fB)
abbrev mX(E:O Ed):Dat:=.dct (jx.map bM) (jx.map (VN E))
abbrev EF(d:Dat)(E:O Ed)(z:g_):dN:=[Y (d,J),Y (mX E,U),Y (.str "all",J),z]
theorem N7:∀(es E:O Ed)(z:g_),Z E+Z es<1000->(∀e∈es,e.1∈jx)->∃B,jS (iU U [3]) (e9 C Kw) (es.map fB) (EF d E z)=Y (.nx (EF d (E++es) B))
 |[],E,z,_,_=>⟨z,by rw[aW];rfl⟩
 |e::es,E,z,c,f=>by
   obtain⟨B,a⟩:=N7 es (E++[e]) _ (by exact jj c) λx b=>f x (jU _ b);refine⟨B,?_⟩;rw[aT]at a;show((e9 C Kw (EF d E _)).bind _)=_;rwa[(show e9 C Kw (EF d E (Y _))=Y (.nx (EF d _ (Y _))) by
    apply AY;show((bA C (.ix (.v 3) (.e_ 0)) (full (EF d E (Y (fB e,J))))).bind λy=>(pT C [.v 3] (full (EF d E (Y _)))).bind λx=>if x.2=U then abp _ 1 (EF d E _) y.1 x.1 (Y _)else L)=_
    have a:pT C [.v 3] (full (EF d E (Y (fB e,J))))=Y ([fB e],U):=by
     show Y _=_;rw[(xI e)];rfl
    rw[a];show(Yl ..).map _=_;rw[((show Yl _ (.str _) [fB e] _=Y (mX _) by
     obtain⟨j,g,i,k⟩:=HJ (g':=VN (E++[e])) (by decide +kernel) (f e jB) λm _ q=>by
      unfold VN D7;rw[tZ,List.filter_cons_of_neg (by simpa using λh=>q h.symm),List.filter_nil,aW]
     have a:kP .app (VN E e.1) [fB e]=Y (VN (E++[e]) e.1):=by
      unfold VN D7;rw[uC (by rw[aE];exact aA (dv _ _) (aa (aA (be _ _) c) cV)),tZ,List.filter_cons_of_pos (by simp),fX];rfl
     show((posK (.inr _) _).bind λj=>((jx.map _)[j]?).bind λd=>(kP _ d _).map λl=>Dat.dct _ ((jx.map _).set j l))=_;rw[g,bS,i,bS,a,cT,k]))];rfl)]
def MR{E:O Ed}(B:Cn D (n+2) 8 [tb t]=Y (.lst (E.map fB),U))(g:Z E<=300)(hs:∀e∈E,e.1∈jx):Cn D (n+3) 9 [tb t]=Y (mX E,U):=by
 apply fG W;refine (?_ : e9 (Cn D _) ([.set 1 _,.loop U _ (.itv (.con (.tup [(.str (ae _)),(.str (ae _)),(.str (ae _)),(.str (ae _)),(.str (ae _)),(.str (ae _))]))) [(.mut _ 1 _)]]++[.loop U _ (.itv (.call 8 _)) Kw,.uq 1]) [Y _,L,L,L]=_);rw[DP (by kernel_rfl)];obtain⟨a,b⟩:=N7 E [] L (aA (m8 g _) cV) hs
 have c:og (Cn D (n+2)) (.loop U [3] (.itv (.call 8 [.v 0])) Kw) (EF (tb t) [] L)=Y (.nx (EF (tb t) E a)):=by
  rw[uK];have:bA (Cn D (n+2)) (.call 8 [.v 0]) (full (EF (tb t) [] L))=Y _:=B;rwa[this]
 rw[lL c];rfl
noncomputable abbrev pre(x:O T)(p:T)(e:Ed):cc:=decide (e.2.1 <+: x.drop p)
def aaB{x:O T}(g:p<=x.length):i7 (T' x) (T' y) (p:cx)=decide (y <+: x.drop p):=by
 have c:PySem.fromIndex (T' x).length (p)=p:=by
  rfl
 unfold i7;rw[c];have a:(T' x).length=x.length:=bB;have b:(T' y).length=y.length:=bB;unfold Builtin.Str.subAt;rw[b]
 have d:((T' x).cps.extract p (p+y.length) == (T' y).cps)=decide ((x.drop p).take y.length=y):=by
  rw[show(T' x).cps.extract p _=((x.drop p).take y.length).toArray by simp]
  grind
 rw[d];by_cases h:y <+: x.drop p
 .rw[c0 h,c0 (pJ.mp h).symm,c0 (rP (ws g) h.length_le (af a.symm))];rfl
 grind
def FF{es:O Ed}{x:O T}(g:p<=Z x)(y:Z es<=1000):Cn D (n+1) 11 [.lst (es.map fB),.str (T' x),.int (p:T)]=Y (.lst ((es.filter (pre x p)).map fB),U):=
 fG W (AR (qJ _ W y xI λe _=>⟨J,by
  refine (?_ : Y (Dat.bl (i7 _ (T' _) _),J)=_)
  rw[aaB g]⟩))
abbrev Row:=aV->a5 T
class VD (α:Type) where
 v:α->Dat
 i:∀a,im (v a)=U
noncomputable instance:VD T:=⟨λk=>.int (k:T),λ_=>W⟩
noncomputable def vD{α:Type}[VD α]:a5 α->Dat
 |none=>.non
 |some k=>VD.v k
abbrev dD{α:Type}[VD α](l:O aV)(g:aV->a5 α):Dat:=.dct (l.map bM) (l.map λs=>vD (g s))
theorem N9{α:Type}[VD α]{g:aV->a5 α}{s:aV}:∀{l:O aV},s∈l->ig (.inr s) (l.map bM) (l.map λs=>vD (g s))=Y (vD (g s))
 |a::r,h=>by
   show(if(bM a)=.inr s then Y (vD (g a))else ig (.inr s) (r.map bM) (r.map λs=>vD (g s)))=_;by_cases q:a=s
   .simp_all
   .rw[cv λe=>q (p7 e)];exact N9 ((ak.mp h).resolve_left λe=>q e.symm)
noncomputable abbrev uP:O aV:=["out","done","num"]
structure gE(E:O Ed):Prop where
 b:∀e∈E,e.1∈jx
 o:∀e∈E,e.2.2.2∈jx
 t:∀e∈E,Z e.2.1<=1000
 n:∀e∈E,e.2.1=[]->e.1="num"/\e.2.2.2="let"
 l:Z E<=300
def MN(hs:s∈jx):Cn D (n+1) 2 [.str s]=Y (.bl (decide (s∈uP)),J):=qh (bc.mp ((show (jx.all λs=>sZ (Cn D _ 2 [.str s]) (Y (.bl (decide _),J)))=U by kernel_rfl)) s hs)
theorem Be:∀{l:O aV},s∈l->ig (.inr s) (l.map bM) (l.map g)=Y (g s)
 |a::r,h=>by
   show(if(bM a)=.inr s then Y (g a)else ig (.inr s) (r.map bM) (r.map g))=_;by_cases q:a=s
   .simp_all
   .rw[cv λe=>q (p7 e)];exact Be ((ak.mp h).resolve_left λe=>q e.symm)
theorem A8:∀ds:O Dat,rO (qt C 1 U ρ0 [] .n6) ds=Y (bH ds.length (.dct [] []),U)
 |[]=>rfl
 |d::ds=>by
   show bV (Y (Y (Dat.dct [] [],U))) _=_;rw[A8 ds];rfl
def cq(b:T)(g:O cx):Prop:=0<Z g/\Z g<=b/\∀c∈g,1<=c/\c<=63
def Cw(C:Fs)(N:Dat):Prop:=∀k a:cx,0<=k/\k<=100->0<a/\a<=63->∃c b,C 26 [N,.int k,.int a]=Y (tI c,b)/\cq 4 c
def DY(F:Dw C N)(hi:bA C it ρ=Y (.int (m:T),f))(O':m<=10)(I:0<=k/\k<=1000)(hp:0<p)(P:0<y/\y<=63)
  (R:∀d,bA C e1 ((j4 1 caps ρ).set 0 (Y d))=Y (N,J))(S:∀d,bA C e2 ((j4 1 caps ρ).set 0 (Y d))=Y (.int k,J))(h3:∀d,bA C e3 ((j4 1 caps ρ).set 0 (Y d))=Y (.int y,J)) :
  ∃B:O cx,bA C (.comp 1 U caps (.rng [it]) [] (.bin .add (.e_ 1) (.call 24 [e1,e2,.bin .add (.con (.int p)) (.bin .mul (.e_ 22) (.v 0)),e3]))) ρ=Y (.lst (B.map Dat.int),U)/\Z B=m/\∀c∈B,1<=c/\c<=63:=by
 obtain⟨B,a,l,h,_⟩:=tQ (elt:=.bin _ _ (.call 24 [e1,e2,.bin _ (.con (.int p)) (.bin _ (.e_ 22) (.v 0)),e3])) (λc:T=>.int _) (λ_ c:T=>(1:cx)<=c/\(c:cx)<=63) (u9 hi (aa O' cV)) (by grind) (λ_=>W) λj b=>
  GG (iu F (R _) (S _) (mV W (Gx W (j:=(j)) (g:=J) (by rw[n5];simp[j4]) cV)) (h3 _) I (by grind) P.1 λ_ h=>h) λq h=>by omega
 rw[ba]at l;refine⟨B.map _,by rwa[cZ],by rw[aE,l],λc e=>?_⟩;obtain⟨d,F,rfl⟩:=bT.mp e;obtain⟨_,_,q⟩:=h d F;exact q
def cw{ns:O cx}:Cw (Cn D (n+3)) (.lst (ns.map Dat.int)):=λk c q r=>by
 have g:Dw (Cn D (n+2)) (.lst (ns.map _)):=dw
 suffices h:Go (Cn D _) _ [Y (.lst (ns.map _),J),Y _,Y _,L] λo=>∃f b,o=.rt (tI f) b/\cq 4 f by
  obtain⟨_,j,f,b,rfl,i⟩:=h;exact⟨f,b,fG W j,i⟩
 generalize Dat.lst (ns.map _)=N at g ⊢;have a:0<=k/\k<=1000:=⟨q.1,(gH q.2 (by decide))⟩
 refine Bk (P:=λv=>1<=v/\v<=4) (vb g W rfl rfl rfl a (by decide) (by decide) (by decide)) (λv=>xY (iu g W rfl rfl rfl a (by decide) (by decide) λ_ _=>trivial) 0) (λv=>vb g W rfl rfl rfl a (by decide) (by decide) (by decide)) λm d=>?_;obtain⟨j,i⟩:=d
 .obtain⟨f,e,l,t⟩:=DY (ρ:=full [Y (N,J),Y (.int k,J),Y (.int c,J),Y (.int _,J)]) (p:=10039) (caps:=[2,1,0]) (it:=.v 3) (e1:=.v 3) (e2:=.v 2) (e3:=.v 1) g W (aa i (by decide)) a (by decide) r (λ_=>W) (λ_=>W) (λ_=>W);exact iN (lG e W) ⟨f,_,W,aa j (af l.symm),aa (af l) i,t⟩
section
def Zf{z:cx}{f:cc}(h:bA C e ρ=Y (.int z,f)):∃c b,bA C (.ix (.f_ "abcdefghijklmnopqrstuvwxyz") (.bin .mod e (.e_ 26))) ρ=Y (sT [c],b)/\c∈oA:=by
 have i:0<=z % 26:=Vh _ cV;obtain⟨q,a⟩:=kO i;have g:q<Z oA:=by show q<26;grind
 refine⟨_,J,?_,bw g⟩;rw[IV,qr,h];show((hJ .mod (.int z) (.int 26)).bind λy=>(xF (.str (T' oA)) _).map λd=>(d,J))=_;rw[pA cV,a];show((xF (.str _) (.int _)).map _)=_;rw[YV cV g];rfl
def VR{elt:Ex}{caps:O T}{P:T->Prop}{r:T->Prop}(h:Ei C e ρ r)(B:∀m,r m->m<=1000)(hs:∀m,r m->∀i,i<m->∃c b,bA C elt ((j4 1 caps ρ).set 0 (Y (.int ((i:T):cx))))=Y (sT [c],b)/\P c):Ev C (.iH .join (.f_ "") [.comp 1 U caps (.rng [e]) [] elt]) ρ λd=>∃y:O T,d=sT y/\r (Z y)/\∀c∈y,P c:=by
 refine ac λ_ k=>?_;obtain⟨m,f,q,g⟩:=h;have a:=B m g;obtain⟨y,e,l,n,_⟩:=tQ (λc=>sT _) _ (u9 q a) (by simp_all) (λ_=>W) λi o=>hs m g i (aX.mp o);apply k;rw[ba]at l;have j:=A5 (by rw[aaC];exact aa (af l) (aa a cV));rw[VP,cZ]at j;exact⟨_,J,by rwa[v5,df,e],W,y,W,by rwa[l],λc p=>by obtain⟨_,_,q⟩:=n c p;exact q⟩
end
def lq(g:O T):Prop:=0<Z g/\Z g<=6/\∀c∈g,c∈oA
abbrev Qm(g:O T):Dat:=.lst (g.map λc=>sT [c])
def Lw(C:Fs)(N:Dat):Prop:=∃a,C 27 [N]=Y (Qm a,U)/\lq a
def lo(g:O T)(f:Fm):Prop:=KL f/\(∀c∈f.1,c∈g)/\∀c∈f.2.1,1<=c/\c<=63
def Fw(C:Fs)(N:Dat):Prop:=∀(k a:cx)(c:O T),0<=k/\k<=10->0<a/\a<=63->lq c->∃f b,C 28 [N,.int k,Qm c,.int a]=Y (kA f,b)/\lo c f
section
def Yj{F:O Fm}(B:bA C x (full ρ)=Y (.lst (F.map kA),g))(I:Z F<=1000)(O':bA C y (full ρ)=Y (kA f,g')):∃t P,bA C (.cmp .nin (.sl y L (Y (.e_ 2))) (.comp 1 U [] (.itv x) [] (.sl (.v 0) L (Y (.e_ 2))))) (full ρ)=Y (.bl t,P):=by
 obtain⟨a,e,_,_⟩:=tQ (elt:=.sl (.v 0) L (Y (.e_ 2))) (λf:Fm=>.tup [sT _,tI _]) (λ_ _=>True) (by rw[IU,B];rfl) I (λf=>by
  show(U && (nv (f.2.1.map _) && U))=U
  rw[tH];rfl) λf _=>⟨f,J,W,trivial⟩
 have d:∀F:O Fm,fW 20 (F.map λf=>Dat.tup [sT f.1,tI f.2.1])=U:=λF=>by
  induction F with
  |nil=>rfl
  |cons g r b=>show(jH 20 _ && fW 20 _)=U;rw[Ct,b];rfl
 obtain⟨t,c⟩:∃t,jL .nin (.tup [sT f.1,tI f.2.1]) (.lst (a.map λf=>.tup [sT f.1,tI f.2.1]))=Y t:=⟨_,cb (by rw[Ct,d];rfl)⟩
 refine⟨t,J,?_⟩;rw[GB,e,O4,O'];show((jL _ (.tup [sT _,tI _]) _).map _)=_;rw[c];rfl
def Bj(h:Ev C x (full ρ) P)(O':bA C y (full ρ)=Y (.int k,g))(hi:(ρ[i]?).join=Y (.lst ds,U))(K:∀d,P d->∃B,kP .seti (.lst ds) [d,.int k]=Y (.lst B)/\Go C ss (ρ.set i (Y (.lst B,U))) Q):Go C (.mut .seti i [x,y]::ss) ρ Q:=by
 refine ac λ_ c=>?_;obtain⟨d,f,e,l,j⟩:=h;obtain⟨B,a,b⟩:=K d j;apply c;exact dT (xu hi (by rw[dZ,e,dZ,O'];show Y ([d,.int k],(f || im d) && ((g || U) && U))=_;simp_all) a) b
end
structure fq(ls:O T)(fs:O Fm):Prop where
 o:∀f∈fs,lo ls f
 w:∀c∈ls,∃cs,([c],cs,V6)∈fs
abbrev E22(N:Dat)(O':cx)(g:O T)(y:O Fm)(C F B:g_):dN:=[Y (N,J),Y (.int O',J),Y (Qm g,U),C,Y (.lst (y.map kA),U),F,B]
def I22(N:Dat)(O':cx)(g:O T)(y:O T)(ρ:dN):Prop:=∃(d:O Fm) (a b c:g_),ρ=E22 N O' g d a b c/\Z d<=Z g+Z y/\fq g d
def aaK{g:O Fm}(h:q<=Z g):Fu (.lst (g.map kA)) L (Y (q:cx))=Y (.lst ((g.take q).map kA),U):=by
 show Y (Dat.lst (M.cutD _ L (Y _)),nv (M.cutD _ L (Y _)))=_;rw[Je (fY _) (by simp_all),show((q:cx)).toNat=q by rfl,<-BV,pq]
def P0{A B:O Fm}(h:Z A+Z B<=1000):hJ .add (.lst (A.map kA)) (.lst (B.map kA))=Y (.lst ((A++B).map kA),U):=by
 rw[sj (by rw[aE,aE];exact aa h cV),<-fX,pq]
def Wy(S:Dw C N)(c3:Fw C N)(hf:0<y/\y<=63)(R:lq F){I:O T}(e0:Z I<=5)(hx:x<=5)(h:I22 N y F I ρ):∃ρ1,iU U [3] (.int (x:T)) ρ=Y ρ1/\Go C iB ρ1 λo=>∃O',o=.nx O'/\I22 N y F (I++[x]) O':=by
 refine ac λ_ n=>?_;obtain⟨e,r,s,z,rfl,p,t⟩:=h;apply n;refine⟨_,W,?_⟩;refine ac λ_ n=>?_;obtain⟨f,b,k,l⟩:=c3 _ _ F (⟨(fY _),(gH (fQ.mpr hx) cV)⟩) hf R;apply n;have m:=R.2.1;refine dT (ie k (Oz f)) ?_;refine DC (Yj W (rP p m e0) W) ?_ ⟨e,_,_,_,W,by rw[aL];exact dA p,t⟩ λu h=>cP ⟨_,W,h⟩;have d:jg .len [.lst (e.map kA)]=Y (.int (e.length),J):=by simp
 refine n4 (pv (P:=(·<=Z e)) (iu S W (mV W rfl) W (mV (d) W) (by grind) cV (by simp) λq h=>by grind)) ?_;rintro _ ⟨q,rfl,j⟩;refine eZ ?_ (cP ⟨_,W,e.take q++[f]++e.drop q,_,_,_,W,?_,?_,?_⟩)
 .have E:bA C (.sl (.v 4) L (Y (.v 6))) (full (E22 N y F e (Y (.int (x),J)) (Y (kA f,J)) (Y (.int _,J))))=Y _:=aaK j;have H:bA C (.sl (.v 4) (Y (.v 6)) L) (full (E22 N y F e (Y (.int (x),J)) (Y (kA f,J)) (Y (.int _,J))))=Y _:=(by show Y (Dat.lst (M.cutD _ _ L),nv (M.cutD _ _ L))=_;rw[Jd (fY _) (by rw[aE];exact fQ.mpr j),show((q:cx)).toNat=q by rfl,<-List.map_drop,pq]);have K:bA C (.lst [.v 5]) (full (E22 N y F e (Y (.int (x),J)) (Y (kA f,J)) (Y (.int (q),J))))=Y (.lst ([f].map kA),im (kA f) && U):=rfl;show bA C _ (full (E22 N _ F e (Y _) _ (Y _)))=_;rw[qr,qr,E,H,K,bS,bS];rw[(P0 (A:=e.take q) (B:=[f]) (by simp;exact Yy (pS q e.length) p m e0))];exact (P0 (A:=e.take q++[f]) (B:=e.drop q) (by simp;exact a4 (kr q _) (ws j) p m e0))
 .rw[aL,jW,aL,aL,fL,gf j,bG,jq,iF j];exact bf p
 .intro g a
  rcases aH.mp a with a|a
  .rcases aH.mp a with a|a
   .exact t.o g (cY a)
   simp_all
  .exact t.o g (fS a)
 .intro c Q;obtain⟨X,i⟩:=t.w c Q;refine⟨X,?_⟩;rw[<-bp q e]at i
  grind
def Ow(C:Fs)(N:Dat):Prop:=∀a:cx,0<a/\a<=63->∃(d:O T) (c:O Fm) (b:cc),C 29 [N,.int a]=Y (.tup (c.map kA),b)/\Z c<=11/\lq d/\fq d c
def CO(h:aR m=us++x::g):Z us<m/\x<m:=by
 have a:=c7 iD h;rw[ba,aL]at a;exact⟨aA (be _ _) (af a.symm),aX.mp (by rw[h];simp)⟩
def ow{ns:O cx}:Ow (Cn D (n+5)) (.lst (ns.map Dat.int)):=λa hf=>by
 have K:Dw (Cn D (n+4)) (.lst (ns.map Dat.int)):=dw;have Q:Cw (Cn D (n+4)) (.lst (ns.map Dat.int)):=cw;have d:Fw (Cn D (n+4)) (.lst (ns.map Dat.int)):=(λk a H hk hf hl=>by
  have K:Dw (Cn D (n+3)) (.lst (ns.map Dat.int)):=dw;have Q:Cw (Cn D (n+3)) (.lst (ns.map Dat.int)):=cw
  suffices h:Go (Cn D (n+3)) b28 [Y (.lst (ns.map Dat.int),J),Y (.int k,J),Y (Qm H,J),Y (.int a,J),L,L,L,L] λo=>∃f b,o=.rt (kA f) b/\lo H f by
   obtain⟨_,R,f,b,rfl,X⟩:=h;exact⟨f,b,fG W R,X⟩
  generalize Dat.lst (ns.map Dat.int)=N at K Q ⊢;generalize Cn D (n+3)=C at K Q ⊢;obtain⟨u,z,low⟩:=hl;refine Bk (P:=λv=>1<=v/\v<=6) (vb K W (mV W rfl) W rfl (⟨(Lp hk.1),(Lp hk.2)⟩) (by decide) (by decide) (by decide)) (λv=>xY (iu K W (mV W rfl) W rfl (⟨(Lp hk.1),(Lp hk.2)⟩) (by decide) (by decide) λ_ _=>trivial) 0) (λv=>vb K W (mV W rfl) W rfl (by grind) (by decide) (by decide) (by decide)) λm t=>?_;have j:jg .len [Qm H]=Y (.int (H.length),J):=by simp
  refine n4 (VR (r:=λm=>1<=m/\m<=6) ⟨m,_,W,t⟩ (λm h=>(aa h.2 (by decide))) λm t i hi=>Gz W (iu K W (mV W rfl) (mV W (Gx W rfl (by decide))) (j) (⟨(Lp hk.1),(Lp hk.2)⟩) (by grind) (yK.mpr u) λq h=>by simp_all) λc Q=>Q) ?_;rintro _ ⟨G,rfl,w,d⟩;refine n4 (pv (P:=λm=>1<=m/\m<16) (GG (iu K W (mV W rfl) W rfl (⟨(Lp hk.1),(Lp hk.2)⟩) (by decide) (by decide) λq h=>by omega) λq h=>by grind)) ?_;rintro _ ⟨l,rfl,p,g⟩;refine dT (ie (qh (bc.mp ((show ((aR 16).all λl=>sZ (bA C plX [L,L,L,L,L,L,Y (.int (l:T))]) (Y (.str (T' (Z9 l)),J)))=U by kernel_rfl)) l (aX.mpr g))) W) ?_;refine ac λ_ V=>?_;obtain⟨M,b,x,c1,c2,y⟩:=Q (20+k) a (⟨(Lp hk.1),(Lp hk.2)⟩) hf
  apply V;have s:∀S:iO,S[0]?=Y (Y N)->S[1]?=Y (Y (.int k))->S[3]?=Y (Y (.int a))->bA C (.call 26 [.v 0,.bin .add (.e_ 20) (.v 1),.v 3]) S=Y (tI M,b):=λS h0 R h3=>by
   rw[lM,df,n5,h0,df,qr,n5,R,df,n5,h3];exact x
  refine iN (f:=U) ?_ ⟨(G,M,Z9 l),_,W,⟨λe=>?_,λc Q=>low c (d c Q),w.2,c1,c2,l,p,g,W⟩,d,y⟩
  .rw[xQ,dZ,dZ,s _ W rfl rfl];show Y (kA (G,M,Z9 l),((b || im (tI M)) && U))=_;rw[rS,p6];rfl
  simp_all);obtain⟨H,el,hl⟩:Lw (Cn D (n+4)) (.lst (ns.map Dat.int)):=by
  have K:Dw (Cn D ((n + 1)+2)) (.lst (ns.map Dat.int)):=dw
  suffices h:Go (Cn D ((n + 1)+2)) b27 [Y (.lst (ns.map Dat.int),J),L,L,L] λo=>∃H,o=.rt (Qm H) U/\lq H by
   obtain⟨_,R,H,rfl,X⟩:=h;exact⟨H,fG W R,X⟩
  generalize Dat.lst (ns.map Dat.int)=N at K ⊢;refine Bk (P:=λv=>1<=v/\v<=6) (vb K W rfl rfl rfl (by decide) (by decide) (by decide) (by decide)) (λv=>xY (iu K W rfl rfl rfl (by decide) (by decide) (by decide) λ_ _=>trivial) 0) (λv=>vb K W rfl rfl rfl (by decide) (by decide) (by decide) (by decide)) λm a=>?_;obtain⟨R,X⟩:=a;refine n4 (pv (iu K W rfl rfl rfl (by decide) (by decide) (by decide) λq h=>trivial)) ?_;rintro _ ⟨b,rfl,-⟩;refine n4 (pv (IZ (is:=[1,3,5,7,9,11,15]) W (iu K W rfl rfl rfl (by decide) (by decide) (by decide) λq h=>by show q<7;omega) λ_ _=>trivial)) ?_;rintro _ ⟨st,rfl,-⟩;obtain⟨H,e,l,hl,_⟩:=tQ (ρ:=full [Y _,Y (.int _,J),Y (.int _,J),Y (.int _,J)]) (caps:=[2,3]) (it:=.rng [.v 1]) (elt:=.ix (.f_ _) (.bin _ (.bin _ (.v 1) (.bin _ (.v 0) (.v 2))) _)) (λc=>sT _) _ (u9 W (aa X (by decide))) (by rw[ba];exact aa X (by decide)) (λ_=>W) λi hi=>Zf (mV W (Gx W rfl (by grind)));rw[ba]at l;exact iN e ⟨H,W,aa R (af l.symm),aa (af l) X,λc Q=>by obtain⟨_,_,q⟩:=hl c Q;exact q⟩
 suffices h:Go (Cn D _) _ [Y (.lst (ns.map _),J),Y _,L,L,L,L,L] λo=>∃(fs:O Fm) (b:cc),o=.rt (.tup (fs.map kA)) b/\Z fs<=11/\fq H fs by
  refine ac λ_ V=>?_;obtain⟨_,R,fs,b,rfl,X,h3⟩:=h;apply V;exact⟨H,fs,b,fG W R,X,hl,h3⟩
 generalize Dat.lst (ns.map _)=N at K Q d el ⊢;generalize Cn D _=C at K Q d el ⊢;have s:=hl.2.1;have g:jg .len [Qm H]=Y (.int (H.length),J):=by simp
 refine eZ el ?_
 obtain⟨fs,e,l,R,X⟩:=tQ (ρ:=full [Y (N,J),Y (.int a,J),Y (Qm H,U),L,L,L,L]) (caps:=[1,2,0]) (it:=.rng [.blt .len [.v 2]]) (elt:=.tup [.ix (.v 2) (.v 0),.call 26 [.v 3,.bin .add (.e_ 4) (.v 0),.v 1],.f_ "wbme"]) kA (λ(k)(f)=>lo H f/\∀h:k<Z H,f.1=[H[k]]/\f.2.2=V6) (u9 (g) (aa s (by decide))) (by rw[ba];exact aa s (by decide)) (λf=>Oz f) λi hi=>by
  have hi:=aX.mp hi;refine ac λ_ V=>?_;obtain⟨M,b,t,c1,c2,u⟩:=Q (4+(i)) a (by grind) hf
  apply V;have j:xF (Qm H) (.int (i))=Y (sT [H[i]]):=by
   show yV _ _=_;rw[lN (by rw[aS,ag hi];rfl)]
  refine⟨([H[i]],M,V6),U,?_,⟨⟨by simp,λc h=>?_,by simp,c1,c2,15,by decide,by decide,cV⟩,λc h=>?_,u⟩,λ_=>⟨W,W⟩⟩
  .show bV (bV (pI _ (xF _ (.int _))) _) _=_;rw[j];show bV (pI _ (bV (C 26 [N,.int _,.int a]) _)) _=_;rw[t];show Y (kA ([H[i]],M,V6),((b || im _) && U))=_;rw[rS,p6];rfl
  .rw[ax.mp h];exact hl.2.2 _ (bw hi)
  simp_all
 rw[ba]at l;refine eZ e ?_;refine OL (I:=I22 N a H) (iu K W rfl rfl rfl (by decide) (by decide) (by decide) λq h=>by omega) (λm h=>by grind) ⟨fs,_,_,_,W,af l,⟨λf hf=>?_,λc Q=>?_⟩⟩ (λm w us x vs ρ r p=>Wy K d hf hl (by have:=CO r;omega) (by have:=CO r;omega) p) λm w ρ p=>?_
 .obtain⟨_,_,q,_⟩:=R f hf;exact q
 .obtain⟨i,hi,rfl⟩:=j6 Q;obtain⟨f,hf,_,q⟩:=X i (aX.mpr hi);obtain⟨y,z⟩:=q hi;exact⟨_,by rw[<-y,<-z];exact hf⟩
 .obtain⟨fs,B,E,F,rfl,j,A⟩:=p;rw[ba]at j;exact iN (by rfl) ⟨fs,_,W,by grind,A⟩
def Mw(C:Fs)(N:Dat):Prop:=∀k a:cx,0<=k/\k<=100->0<a/\a<=63->∃c b,C 30 [N,.int k,.int a]=Y (tI c,b)/\cq 2 c
def mq(b:T)(m:O cx):Prop:=Z m<=b/\∀c∈m,1<=c/\c<=63
def uD(b:T):mq b []:=⟨aU _,λ_ h=>nomatch h⟩
def cq.m{b:T}{m:O cx}(h:cq b m):mq b m/\m≠[]:=⟨⟨h.2.1,h.2.2⟩,λe=>by rw[e]at h;exact absurd h.1 cV⟩
structure wT(t:Tb):Prop where
 ok:NA t
 own:∀f∈t.fs,∀c∈f.1,∃cs,([c],cs,V6)∈t.fs
 cf:∀f∈t.fs,∀c∈f.2.1,1<=c/\c<=63
 cm:∀m∈[t.m0,t.m1,t.m2,t.m3,t.fg],∀c∈m,1<=c/\c<=63
 m1:t.m1≠[]->t.m0≠[]
 m3:t.fg≠[]->t.m3≠[]
def v7(O':Mw C N)(B:ρ[0]?=Y (Y (N,J)))(F:ρ[1]?=Y (Y (.int g,J)))(I:0<=k/\k<=100)(P:0<g/\g<=63):Ev C (.call 30 [.v 0,.con (.int k),.v 1]) (full ρ) λd=>∃y,d=tI y/\cq 2 y:=by
 obtain⟨y,b,e,h⟩:=O' k _ I P;refine⟨_,b,?_,rS y,y,W,h⟩;have a:bA C (.v 0) (full ρ)=Y (N,J):=by rw[n5,full,aS,B];rfl
 have c:bA C (.v 1) (full ρ)=Y (.int g,J):=by rw[n5,full,aS,F];rfl
 rwa[lM,df,a,df,df,c]
abbrev mk4(g y B C:O cx):Dat:=.lst [tI g,tI y,tI B,tI C]
noncomputable def ltN(a b:T):cc:=decide (a<b)
def loN:M.LO ltN:=⟨λx=>by simp[ltN],λx y z h a=>by simp[ltN]at *;exact de h a,λx y h a=>by simp[ltN]at *;exact aI a h⟩
def lt1(a b:T):yw (T' [a]) (T' [b])=ltN a b:=by
 refine decide_eq_decide.mpr ⟨λh=>?_,λh=>(List.Lex.rel h)⟩
 .cases h with
  |rel h=>exact h
  |cons h=>cases h
theorem Dx{α C:Type}{lt:α->α->cc}{B:C->C->cc}{g:α->C}(h:∀a b,B (g a) (g b)=lt a b)(x:α):∀l:O α,xH B (g x) (l.map g)=(xH lt x l).map g
 |[]=>rfl
 |y::c=>by
   simp only[az,xH,h];split
   .rfl
   .split
    .rw[Dx h x c];rfl
    .rfl
theorem zo{α y:Type}{lt:α->α->cc}{B:y->y->cc}{g:α->y}(h:∀a b,B (g a) (g b)=lt a b):∀l:O α,jb B (l.map g)=(jb lt l).map g
 |[]=>rfl
 |x::l=>by simp only[az,jb,zo h l,Dx h]
theorem Dv{α C:Type}{lt:α->α->cc}{B:C->C->cc}{g:α->C}(h:∀a b,B (g a) (g b)=lt a b)(x:α):∀l:O α,yR B (g x) (l.map g)=(yR lt x l).map g
 |[]=>rfl
 |y::c=>by
   simp only[az,yR,h];split
   .rw[Dv h x c];rfl
   .rfl
theorem zl{α y:Type}{lt:α->α->cc}{B:y->y->cc}{g:α->y}(h:∀a b,B (g a) (g b)=lt a b):∀l:O α,pN B (l.map g)=(pN lt l).map g
 |[]=>rfl
 |x::l=>by simp only[az,pN,zl h l,Dv h]
abbrev c1(l:O T):O Dat:=l.map λc=>sT [c]
def WD{l:O T}(h:Z l<4000)(B:Z (jb ltN l)<64):jg .sset [.str (T' l)]=Y (.lst (c1 (jb ltN l)),U):=by
 show Hl (fF _)=_;rw[AG];unfold Hl;rw[zo lt1,cb ⟨by simp_all,by simp_all⟩,cZ];rfl
def acf(l:O T):c1 l=(l.map λc=>[c]).map λl=>Dat.str (T' l):=by rw[cZ];rfl
def join_1{l:O T}(h:Z l<=1000):je .join (.str (T' [])) [.lst (c1 l)]=Y (.str (T' l),J):=by
 have:=A5 (by rw[aaC];exact aa h cV);rwa[VP,<-acf]at this
noncomputable def lets(g:O Fm):O T:=(g.map (·.1)).flatten
def U'(g:O Fm):O T:=jb ltN (lets g)
def Oa(B:∀f∈y,KL f):Z (lets y)<=6 * Z y:=by
 induction y with
 |nil=>simp[lets]
 |cons f r c=>
   have a:=c λg m=>B g (jU _ m);simp only[lets,az,List.flatten_cons,aL,bG]at a ⊢;exact nZ ((B f jB).ll) a
def zK:c∈U' g↔∃f∈g,c∈f.1:=by
 rw[U',kc loN];unfold lets;simp
def V3(g:∀f∈y,KL f):∀c∈U' y,c∈oA:=λc a=>by
 obtain⟨f,b,d⟩:=zK.mp a;exact(g f b).low c d
def V4(g:∀f∈y,KL f):Z (U' y)<=26:=A2 (oz loN (kI loN _)) λc a=>V3 g c a
def Kb{g:O Fm}(h:Z g<=100)(y:∀f∈g,KL f):Cn D (n+1) 0 [.tup (g.map kA)]=Y (sT (U' g),J):=by
 refine fG W ?_;have b:=Oa y
 have c:je .join (.str (T' [])) [.lst (g.map λf=>sT f.1)]=Y (.str (T' (lets g)),J):=by
  rw[show(g.map λf=>sT _)=(g.map (·.1)).map λl=>.str (T' l) by rw[cZ];rfl];refine A5 ?_
  have e:((g.map (·.1)).map (·.length)).sum=Z (lets g):=by
   unfold lets;rw[List.length_flatten]
  exact rP (af e) b (Nat.mul_le_mul_left 6 h)
 have a:=V4 y;exact AR (Yr W (lG (Yr W (tP (C:=Cn D n) (ρ:=[Y (.tup _)]) (caps:=[]) (it:=.itv _) (elt:=.ix _ _) W (aa h cV) (λ_ _=>W) λf _=>⟨J,W⟩) c) (WD (nZ b (Nat.mul_le_mul_left 6 h)) (aA a cV))) (join_1 (aa a cV)))
def adq(h:k<=10):Fu (.str (T' uJ)) L (Y (k:T))=Y (.str (T' (uJ.take k)),J):=qh (bc.mp (show ((aR 11).all λk=>sZ (Fu (.str _) L (Y _)) (Y (.str (T' (uJ.take k)),J)))=U by kernel_rfl) k (aX.mpr (bf h)))
noncomputable def Lq(t:Tb)(u:O T):O T:=if t.m0.isEmpty=U then []else u.map (·- 32)
def raw(t:Tb):O T:=[32]++uJ.take (Z t.fg)++Lq t (U' t.fs)++U' t.fs
def abT(B:∀c∈u,c∈oA)(g:Z u<=1000):bA C (.ite (.cmp .eq (.ix (.ix (.v 0) (.e_ 1)) (.e_ 0)) (.tup [])) (.f_ "") (.iH .upper (.v 1) [])) [Y (tb t),Y (sT u),a,b]=Y (sT (Lq t u),J):=by
 have h:bA C (.cmp .eq (.ix (.ix (.v 0) (.e_ 1)) (.e_ 0)) (.tup [])) [Y (tb t),Y (sT u),a,b]=Y (.bl t.m0.isEmpty,J):=by
  show(jL _ (tI _) (.tup [])).map _=_;rw[GF];rfl
 rw[IX h W];unfold Lq;cases t.m0.isEmpty
 .exact vT B g
 .rfl
def zy(y:NA t):∃s,Cn D (n+2) 1 [tb t]=Y (sT s,J)/\∀c,c∈s↔c∈raw t:=by
 refine⟨pN ltN _,?_,λc=>(mR _).mem_iff⟩;have r:=Kb (n:=n) (aa y.hl cV) y.ho;have e:=V4 y.ho;have j:=V3 y.ho;have h:Z (Lq t (U' t.fs))<=Z (U' t.fs):=(by
  unfold Lq;split
  .exact aU _
  simp);have d:Z (uJ.take t.fg.length)<=10:=by rw[fL];exact pS _ _
 have m:raw t=[32]++uJ.take _++Lq t _++U' _:=rfl;have f:Z (raw t)<64:=by rw[m];exact Yy d h e e
 have o:=Ee (a:=[32]++uJ.take _) (b:=Lq t _) (by exact rP d h e);have k:=Ee (a:=[32]++uJ.take _++Lq t _) (b:=U' _) (by exact Yy d h e e);rw[<-m]at k;apply fG W;generalize Cn D _=C at r ⊢;refine (?_ : e9 C (.set 1 _::.set 2 _::.set 3 (.sl _ L (Y (.blt _ _)))::.ret (.iH _ _ [.blt _ [.bin _ (.bin _ (.bin ..) _) _]])::[]) [Y _,L,L,L]=_);have s1:og C (.set 1 (.call 0 [.ix (.v 0) (.e_ 0)])) [Y (tb t,J),L,L,L]=Y (.nx [Y _,Y (sT _,J),L,L]):=ie r W;rw[lL s1];generalize q:U' _=u at *;rw[lL (ie (C:=C) (i:=2) (ρ:=[Y _,Y _,L,L]) (abT j (aa e cV)) W)];generalize Lq t u=g at *
 have s3:og C (.set 3 (.sl (.f_ "0123456789") L (Y (.blt .len [.ix (.v 0) (.e_ 2)])))) [Y (tb t,J),Y (sT u,J),Y (sT g,J),L]=Y (.nx [Y (tb t,J),Y (sT u,J),Y (sT g,J),Y (sT (uJ.take t.fg.length),J)]):=by
  exact ie (fl:=J) (aaM W (lG W (uG _)) (adq y.hf)) W
 show e9 C _ [Y _,Y _,Y _,L]=_;rw[lL s3];exact AR (Yr W (lG (iT (iT (iT W rfl (Ee (a:=[32]) (aa (m8 d _) cV))) W o) W k) (by show Hn _=_;rw[AG];unfold Hn;rw[zl lt1,cb (by simp_all),cZ];rfl)) (join_1 (l:=pN _ _) (by rw[(mR _).length_eq];exact aK (aa f cV))))
def Zc{ds:O Dat}(h:Z ds=np)(B:e9 C body (ds.map (λd=>Y (d,J))++bH (nl - np) L)=Y (.nx ρ)):KS C np nl body ds=Y (.non,J):=by
 unfold KS;rw[cb h,B];rfl
abbrev Oc:O Sx:=[.ifs (.cmp .nin (.v 4) (.v 2)) [.rse 139 (ae "place") (.v 3)] []]
theorem abz:∀(x:O T)(k:T)(B y:g_),(∀c∈x,c∈s)->∃O' F,jS (iU J [3,4]) (e9 C Oc) (qT k (c1 x)) [Y (a,J),Y (b,J),Y (sT s,J),B,y]=Y (.nx [Y (a,J),Y (b,J),Y (sT s,J),O',F])
 |[],k,B,y,_=>⟨B,y,W⟩
 |c::x,k,B,y,h=>by
   obtain⟨f,g,i⟩:=abz x _ (Y (.int _,J)) (Y (sT _,J)) λd e=>h d (jU _ e);refine⟨f,g,?_⟩;exact (Bc (ρ1:=[Y _,Y _,Y _,Y (.int _,J),Y (sT _,J)]) W (AY (by rw[Dy (km W rfl (by rw[NQ,c0 (h c jB)];rfl)) W];rfl))).trans i
def zB(g:NA t)(O':∀c∈x,c∈raw t)(y:Z x<=1000):Cn D (n+3) 10 [tb t,sT x]=Y (.non,J):=by
 obtain⟨s,r,f⟩:=zy g;obtain⟨d,e,h⟩:=abz (C:=Cn D _) (a:=tb t) (b:=sT x) x 0 L L λc i=>(f c).mpr (O' c i);apply Zc (ρ:=[Y (tb t,J),Y (sT x,J),Y (sT s,J),d,e]) W;generalize Cn D _=C at r h ⊢;have s1:og C (.set 2 (.call 1 [.v 0])) [Y (tb t,J),Y (sT x,J),L,L,L]=Y (.nx [Y _,Y _,Y _,L,L]):=ie r W;refine (?_ : e9 C (.set 2 (.call 1 _)::.loop J _ (.enu _) Oc::[]) [Y _,Y _,L,L,L]=_);rw[lL s1];apply AY;exact h
def zr(h:k<10):jg .str [.int (k:T)]=Y (.str (T' [48+k]),J)/\uJ[k]?=Y (48+k):=by
 have:=bc.mp (show ((aR 10).all λk=>sZ (jg .str [.int (k:T)]) (Y (.str (T' [48+k]),J)) && decide (uJ[k]?=Y (48+k)))=U by kernel_rfl) k (aX.mpr h);rw[ah]at this;exact⟨qh this.1,c8 this.2⟩
def NR:jL .nin (sT [c]) (.lst (c1 l))=Y (!decide (c∈l)):=by
 have d:∀l:O _,fW 20 (c1 l)=U:=λl=>by
  induction l with
  |nil=>rfl
  |cons a r b=>show(U && fW 20 (c1 r))=U;rw[b];rfl
 show(if(U && fW 20 _)=U then Y (!(c1 l).any λy=>sE y (sT _))else L)=_;rw[d,sS,cb W]
 congr 2
 induction l with
 |nil=>rfl
 |cons a r b=>
   show((T' _ == T' _) || (c1 r).any λy=>sE y (sT _))=_;rw[b]
   grind
def Tf(h:bA C a ρ=Y (tI m,f)):bA C (.cmp .gt (.blt .len [a]) (.e_ 0)) ρ=Y (.bl (!m.isEmpty),J):=km (lG h (uG m)) W (by
 show Y (decide (0<((m.length):cx)))=_
 clear h; cases m with
 |nil=>rfl
 |cons a r=>simp)
def MX{t:Tb}(g:f∈t.fs)(y:c∈f.1)(B:t.m0.isEmpty=J):c - 32∈raw t:=by
 refine aJ _ (aB _ ?_);unfold Lq;rw[B];exact bT.mpr ⟨c,zK.mpr ⟨f,g,y⟩,W⟩
def Vr{t:Tb}(g:k<Z t.fg)(h:k<10):48+k∈raw t:=by
 refine aJ _ (aJ _ (aB _ ?_));have:=(zr h).2;exact lR.mpr ⟨k,by simp_all⟩
def MZ(t:Tb):32∈raw t:=aJ _ (aJ _ (aJ _ jB))
def sq(t:Tb)(b:T)(ss:O T):Prop:=ss≠[]/\Z ss<=b/\∀c∈ss,c∈raw t
abbrev Z4(t:Tb)(ss:O T)(z:g_):dN:=[Y (tb t,J),Y (.lst (c1 ss),U),z]
def Mr(h:sq t b ss)(g:c∈raw t):sq t (b+1) (ss++[c]):=⟨by simp,by rw[aL];exact bf h.2.1,λd a=>by
 rcases aH.mp a with q|q
 .exact h.2.2 d q
 simp_all⟩
def PM(B:O T)(c:T):c1 B++[sT [c]]=c1 (B++[c]):=by show _=Vd _ _;rw[fX];rfl
structure hv(t:Tb)(us:O Fm)(ss:O T):Prop where
 u:∀c∈ss,c∈oA->t.m0.isEmpty=J->c - 32∈ss
 f:∀f∈us,∀c,f.1=[c]->c∈ss
 d:∀k,k<Z t.fg->48+k∈ss
 b:32∈ss
def adY:∀c∈oA,c - 32∉oA:=by decide +kernel
set_option tactic.hygienic true in
def hv.all(h:hv t t.fs ss)(w:wT t):∀c∈raw t,c∈ss:=by
 have g:∀c∈U' _,c∈ss/\c∈oA:=λc e=>by
  obtain⟨f,j,e⟩:=zK.mp e;obtain⟨n,m⟩:=w.own f j c e;exact⟨h.f _ m c W,(w.ok.ho f j).low c e⟩
 intro c e
 rcases aH.mp e with e|e
 .rcases aH.mp e with e|e
  .rcases aH.mp e with e|e
   .rw[ax.mp e];exact h.b
   .obtain⟨k,i⟩:=lR.mp e
    have a:k<Z t.fg:=by
     rw[cL]at i
     simp_all
    rw[cL,cb a,(zr (aa a w.ok.hf)).2]at i;rw[<-bh i];exact h.d k a
  .unfold Lq at e;split at e
   .cases e
   .rename_i q;obtain⟨d,l,rfl⟩:=bT.mp e;exact h.u d (g d l).1 (g d l).2 (by simpa using q)
 .exact(g c e).1
def hv.app(h:hv t us ss)(O':∀c∈r,c∈oA->t.m0.isEmpty=J->c - 32∈ss++r):hv t us (ss++r):=⟨λc i g a=>(aH.mp i).elim (λz=>aJ _ (h.u c z g a)) λz=>O' c z g a,λf j c e=>aJ _ (h.f f j c e),λk l=>aJ _ (h.d k l),aJ _ h.b⟩
def hv.snoc{f:Fm}(h:hv t us ss)(y:∀c,f.1=[c]->c∈ss):hv t (us++[f]) ss:=⟨h.u,λg a=>(aH.mp a).elim (h.f g) λz=>by rw[ax.mp z];exact y,h.d,h.b⟩
def J27(t:Tb)(g:O Fm)(ρ:dN):Prop:=∃a z,ρ=Z4 t a z/\sq t (11+2 * Z g) a/\hv t g a
def aaF(I:NA t){y:O Fm}(F:f∈t.fs)(R:Z y<=100)(h:J27 t y ρ):∃ρ1,iU U [2] (kA f) ρ=Y ρ1/\Go C abE ρ1 λo=>∃O',o=.nx O'/\J27 t (y++[f]) O':=by
 obtain⟨r,z,rfl,u,A⟩:=h;refine⟨_,W,?_⟩;have g:=I.ho f F;have hlen:=u.2.1;have fin:∀w,sq t (11+2 * Z y+2) w->hv t (y++[f]) _->∃O',Out.nx (Z4 t _ (Y (kA f,J)))=.nx O'/\J27 t _ O':=λw h K=>⟨_,W,_,_,W,⟨h.1,by rw[aL];exact h.2.1,h.2.2⟩,K⟩
 have n:bA C (.cmp .eq (.blt _ [.ix (.v 2) (.e_ 0)]) (.e_ 1)) (full (Z4 t r (Y (kA f,J))))=Y (.bl (decide (Z f.1=1)),J):=km (lG W (len_T (aa g.ll cV))) W (by
  show Y (decide _)=_
  rw[decide_eq_decide.mpr (show((f.1.length):cx)=1↔Z f.1=1 by grind)])
 by_cases B:Z f.1=1
 .obtain⟨c,E⟩:∃c,f.1=[c]:=by
   match q:f.1,B with
   |[c],_=>exact⟨c,W⟩
  have a:c∈f.1:=by simp_all
  have i:∀{l:O _},c∈l->∀d,f.1=[d]->d∈l:=λh d e=>by
   grind
  have p:bA C (.cmp _ (.ix (.v 2) (.e_ 0)) (.v 1)) (full (Z4 t r (Y (kA f,J))))=Y (.bl (!decide _),J):=km W rfl (by rw[E,NR])
  have k:bA C (.and (.cmp .eq (.blt .len [.ix (.v 2) (.e_ 0)]) (.e_ 1)) (.cmp .nin (.ix (.v 2) (.e_ 0)) (.v 1))) (full (Z4 t r (Y (kA f,J))))=Y (.bl (!decide (c∈r)),J):=by
   rwa[v8 n,c0 B]
  refine lE k (λ_=>?_) (λq=>cP (fin r ⟨u.1,EX hlen,u.2.2⟩ (A.snoc (i (by simpa using q))))) λx h=>cP ⟨_,W,h⟩;refine xM (P:=(·= sT _)) ⟨sT _,J,W,W,by rw[E]⟩ W (by exact rP hlen R R) λd j=>?_;rw[j,PM];have b:=Mr u (aB _ (zK.mpr ⟨f,F,a⟩));refine lE (Tf W) (λq=>?_) (λq=>cP (fin _ ⟨b.1,dA b.2.1,b.2.2⟩ ((A.app λ_ _ _ z=>by rw[z]at q;cases q).snoc (i (by simp))))) λx h=>cP ⟨_,W,h⟩;have m :=vT (λd j=>by rw[ax.mp j];exact g.low c a) (by simp);refine xM (P:=(·= sT [c - 32])) ⟨sT _,J,?_,W,W⟩ W (by exact rP hlen R R) λd j=>?_
  .show je .upper (sT _) []=_;rwa[E]
  .rw[j,PM];refine cP (fin _ (Mr b (MX F a (by simpa using q))) ?_);rw[aT];refine(A.app λd j H _=>?_).snoc (i (by simp))
   rcases aH.mp j with j|j
   .rw[ax.mp j];simp
   .rw[ax.mp j]at H;exact absurd H (adY c (g.low c a))
 .have k:bA C (.and (.cmp .eq (.blt .len [.ix (.v 2) (.e_ 0)]) (.e_ 1)) (.cmp .nin (.ix (.v 2) (.e_ 0)) (.v 1))) (full (Z4 t r (Y (kA f,J))))=Y (.bl J,J):=by
   rw[v8 n,c6 B];rfl
  exact lE k (λq=>absurd q cV) (λ_=>cP (fin r ⟨u.1,EX hlen,u.2.2⟩ (A.snoc λc e=>absurd (by rw[e];rfl) B))) λx h=>cP ⟨_,W,h⟩
def FE(w:wT t):∃ss,Cn D (n+1) 32 [tb t]=Y (.lst (c1 ss),U)/\Z ss<=40/\∀c,c∈ss↔c∈raw t:=by
 have i:=w.ok
 suffices h:Go _ _ [Y _,L,L] λo=>∃ss,o=.rt (.lst (c1 ss)) U/\Z ss<=40/\∀c,c∈ss↔c∈raw t by
  refine ac λ_ s=>?_;obtain⟨_,l,ss,rfl,m⟩:=h;apply s;exact⟨ss,fG W l,m⟩
 generalize Cn D n=C;have a:=i.hf;have e:bA C (.comp 1 U [] (.rng [.blt .len [.ix (.v 0) (.e_ 2)]]) [] (.blt .str [.v 0])) (full [Y (tb t,J),L,L])=Y (.lst ((aR _).map λk=>sT _),U):=tP (xs:=aR _) (e:=λk:T=>Dat.int _) (u9 (uG _) (aa a cV)) (by simp;exact aa a (by decide)) (λ_ _=>W) λk d=>⟨J,(zr (aa (aX.mp d) a)).1⟩
 have b:(aR t.fg.length).map (λk=>sT [48+k])=c1 ((aR t.fg.length).map (48 + ·)):=by rw[c1,cZ];rfl
 rw[b]at e;refine eZ (ds:=c1 (32::(aR t.fg.length).map (48 + ·))) ?_ ?_
 .show bV (bA C (.comp 1 U [] (.rng [.blt _ [.ix _ _]]) [] (.blt _ _)) (full [Y _,L,L])) _=_;rw[e];show(if 1+Z (((aR _).map _).map λc=>sT _)<=aF then _ else L)=_;rw[cb (by rw[eG,aE,aE,ba];exact jj a)];rfl
 .refine lV (I:=J27 t) (rQ W rfl (by show(nv _ || J)=U;rw[pq];rfl)) ⟨32::(aR _).map _,_,W,⟨by simp,by simp_all,λc g=>?_⟩,⟨λc g p=>?_,(λ_ h=>nomatch h),λk d=>jU _ (bT.mpr ⟨k,aX.mpr d,W⟩),jB⟩⟩ (λx f y A q h=>aaF i (by rw[q];simp) (by have:=i.hl;grind) h) λr h=>?_
  .rcases ak.mp g with rfl|g
   .exact MZ t
   obtain⟨k,d,rfl⟩:=bT.mp g;have d:=aX.mp d;exact Vr d (aQ d a)
  .exfalso
   have:c<97:=by
    rcases ak.mp g with rfl|g
    .decide
    obtain⟨k,d,rfl⟩:=bT.mp g;have d:=aX.mp d;exact nZ d a
   exact absurd this ((by decide +kernel:∀c∈oA,¬c<97) c p)
  .obtain⟨ss,z,rfl,j,u⟩:=h;exact⟨_,W,ss,W,by have:=j.2.1;have:=i.hl;grind,λc=>⟨j.2.2 c,u.all w c⟩⟩
def MJ{ns:O cx}(w:wT t)(O':m<=100):∃x b,Cn D (n+3) 33 [.lst (ns.map Dat.int),tb t,.int (m:T)]=Y (sT x,b)/\Z x=m/\∀c∈x,c∈raw t:=by
 have E:Dw (Cn D (n+2)) (.lst (ns.map _)):=dw;obtain⟨A,r,P,p⟩:=FE (n:=n+1) w;have Q:=λc F=>(p c).mp F;suffices h:Go (Cn D _) _ [Y (.lst (ns.map _),J),Y _,Y (.int _,J),L] λo=>∃x b,o=.rt (sT x) b/\Z x=m/\∀c∈x,c∈raw t by
  obtain⟨_,I,x,b,rfl,B⟩:=h;exact⟨x,b,fG W I,B⟩
 generalize Dat.lst (ns.map _)=N at E ⊢;have g :=fu.mpr (List.ne_nil_of_mem ((p 32).mpr (MZ t)));refine eZ r ?_
 have C:∀l:O _,nv (c1 l)=U:=λl=>by
  induction l with
  |nil=>rfl
  |cons a r s=>show(U && nv _)=U;rw[s];rfl
 refine eZ (ds:=c1 (A++A.drop 1)) ?_ ?_
 .have K:Fu (.lst (c1 A)) (Y 1) L=Y (.lst (c1 (A.drop 1)),U):=by
   show Y (Dat.lst (cutD _ _ L),nv (cutD _ _ L))=_;rw[Jd (by simp) (by rw[aE];exact fQ.mpr g)];show Y (Dat.lst ((c1 A).drop 1),nv ((c1 A).drop 1))=_;rw[List.map_drop.symm,C]
  apply iT W (WX W rfl K);rw[sj (by grind),fX.symm,C]
 .have B:∀c∈A++A.drop 1,c∈raw t:=λc F=>by
   grind
  have H:0<Z (A++A.drop 1):=by rw[aL];exact QE _ g
  generalize A++A.drop 1=s2 at B H ⊢;have j:jg .len [.lst (c1 s2)]=Y (.int (s2.length),J):=by simp
  refine ac λ_ G=>?_;obtain⟨d,f,e,_,z,rfl,u,k⟩:=VR (ρ:=full [Y (N,J),Y _,Y (.int _,J),Y (.lst (c1 s2),U)]) (e:=.v 2) (caps:=[0,3]) (elt:=.ix (.v 2) (.call 24 [.v 1,.bin _ (.e_ 31) (.v 0),.e_ 35023,.blt .len [.v 2]])) (r:=(·= m)) ⟨m,_,W,W⟩ (λm h=>(aa (af h) (aa O' cV))) λy h i C=>Gz W (iu E W (mV W rfl) W (j) (by grind) cV (yK.mpr H) λq h=>by simp_all) B;apply G;exact iN e ⟨z,f,W,u,k⟩
def gX(t:Tb)(f:Fm)(w:T×aV×aV):O Ed:=Qo f w++(if t.m0.isEmpty=U then []else(Qo f w).map (TV t.m0))
abbrev W4:O (T×aV):=[(119,BK),(98,P5),(109,P5),(101,BK)]
def hit(b:aV)(w:T×aV):cc:=decide (w.1∈[119,98]) == !(b == P5)
def hX(t:Tb)(f:Fm)(b:aV)(w:T×aV):O Ed:=if hit b w=U then gX t f (w.1,b,w.2)else []
section
variable{t:Tb}{f:Fm}(ht:NA t)(ho:KL f)
include ht ho
end
abbrev bs(t:Tb):O aV:=if t.fg.isEmpty=U then [uO]else [uO,rG]
abbrev F1(t:Tb)(f:Fm):O Ed:=(bs t++[P5]).flatMap λb=>W4.flatMap (hX t f b)
abbrev dg(t:Tb)(k:T):O Ed:=pF t (48+k,t.fg.getD k 0)
variable{t:Tb}
def F9:e∈s0 t↔∃f∈t.fs,∃w∈W6,e∈Qo f w:=by
 simp
def A7:e∈s3 t↔e∈Ey t/\(t.fg.isEmpty=U->e.1≠rG):=by
 show e∈(if t.fg.isEmpty=U then(Ey t).filter C3 else Ey t)↔_;cases t.fg.isEmpty
 .simp
 simp
def ol:¬uO=rG:=cV
def il:¬P5=rG:=cV
def al:¬V8=rG:=cV
end K32E
namespace K32E
open L2 M K32
def tJ:TN (c::r)=(c - 32)::r:=by
 have h:dH (T' (c::r)) (Y 1) L=T' r:=by
  refine(AF (p:=1) (by simp) (ao _) ?_).trans (by simp);have e:max (0:cx) (min ((c::r).length) ((c::r).length))=((c::r).length):=by rw[Int.min_self,Int.max_eq_right (Int.natCast_nonneg _)]
  simp only[Builtin.Str.strSliceIndices,show((1) > 0)=True by simp,ek];rw[cv (show¬(((c::r).length):cx)<0 from(λz=>(wm z (fY _)))),e];rfl
 unfold TN;rw[h,Jv];rfl
variable{t:Tb}{e:Ed}
def mr1:e∈s1 t↔∃B∈s0 t,e=B\/(t.m0.isEmpty=J/\e=TV t.m0 B):=by
 show e∈(if t.m0.isEmpty=U then s0 t else s0 t++(s0 t).map (TV _))↔_;cases t.m0.isEmpty
 .refine (?_ : e∈s0 t++(s0 t).map (TV _)↔_);rw[aH,bT];constructor
  .rintro(h|⟨B,h,rfl⟩)
   .exact⟨e,h,.inl rfl⟩
   .exact⟨B,h,.inr ⟨W,W⟩⟩
  .rintro⟨B,h,rfl|⟨_,rfl⟩⟩
   .exact .inl h
   .exact .inr ⟨B,h,W⟩
 .constructor
  .intro h;exact⟨e,h,.inl rfl⟩
  .rintro⟨B,h,rfl|⟨q,_⟩⟩
   .exact h
   .cases q
def mrb:e∈Ey t↔e∈s1 t\/(t.m1.isEmpty=J/\∃f∈t.fs,∃w∈A6,e∈Lr t.m1 f w):=by
 show e∈(if t.m1.isEmpty=U then s1 t else s1 t++t.fs.flatMap (H6 _))↔_;cases t.m1.isEmpty
 .simp
 simp
structure Vx(e:Ed):Prop where
 b:e.1∈jx
 o:e.2.2.2∈jx
 t:Z e.2.1<=6
 n:e.2.1=[]->e.1=qL/\e.2.2.2=rG
 c:e.2.2.1≠[]
 z:(∀c∈e.2.2.1,c≠0)\/(e.1∈uP/\e.2.2.2=uO)
 k:Z e.2.2.1<=6
def zG(g:e.1∈jx)(y:e.2.2.2∈jx)(C:Z e.2.1<=6)(B:e.2.1≠[])(F:e.2.2.1≠[])(O':∀c∈e.2.2.1,c≠0)(I:Z e.2.2.1<=6):Vx e:=⟨g,y,C,λh=>absurd h B,F,.inl O',I⟩
def Y5(w:wT t):∀e∈got t,Vx e:=λe C=>by
 have H:=w.ok;have d:∀m∈[t.m0,t.m1,t.m2,t.m3,t.fg],∀c∈m,c≠0:=λm u c B=>by have:=w.cm m u c B;exact λz=>(QK this.1 (gZ (qb z) cV))
 have app:∀{a b:O cx},(∀c∈a,c≠0)->(∀c∈b,c≠0)->∀c∈a++b,c≠0:=λQ R c B=>(aH.mp B).elim (Q c) (R c)
 rcases aH.mp C with C|C
 .rcases aH.mp C with C|C
  .have j:∀f∈t.fs,KL f/\(∀c∈f.2.1,c≠0)/\f.2.1≠[]/\∃c r,f.1=c::r:=λf I=>by
    have E:=H.ho f I;refine⟨E,λc B=>by have:=w.cf f I c B;exact λz=>(QK this.1 (gZ (qb z) (by decide))),fu.mp E.c1,?_⟩
    cases q:f.1 with
    |nil=>exact absurd q E.ne
    |cons c r=>exact⟨c,r,W⟩
   rcases mrb.mp (A7.mp C).1 with h|⟨_,f,I,k,n,h⟩
   .obtain⟨v,K,h⟩:=mr1.mp h;obtain⟨f,I,k,n,K⟩:=F9.mp K;obtain⟨E,l,i,c,r,B⟩:=j f I;have g:=bc.mp (show (W6.all λw=>decide (w.2.1∈jx) && decide (w.2.2∈jx))=U by decide +kernel) k n;rw[ah,c5,c5]at g
    have o:v=(k.2.1,f.1,f.2.1,k.2.2):=by
     unfold Qo at K;split at K
     .exact ax.mp K
     .cases K
    subst o;have P:=E.ll
    rcases h with rfl|⟨_,rfl⟩
    .exact zG g.1 g.2 P E.ne i l (by exact aa E.cl cV)
    .refine zG g.1 g.2 ?_ ?_ (λh=>i (Ew.mp h).2) (app (d _ (by simp)) l) ?_
     .show(TN _).length<=6;rw[B,tJ];rwa[B]at P
     .show TN _≠[];rw[B,tJ];simp
     .show(t.m0++f.2.1).length<=6;rw[aL];have:=H.h0;have:=E.cl;grind
   .obtain⟨E,l,i,c,r,B⟩:=j f I;have g:=bc.mp (show (A6.all λw=>decide (w.2.1∈jx) && decide (w.2.2∈jx))=U by decide +kernel) k n;rw[ah,c5,c5]at g;unfold Lr at h;split at h
    .rw[ax.mp h];refine zG g.1 g.2 ?_ ?_ (λh=>i (Ew.mp h).2) ?_ ?_
     .rw[aE];exact E.ll
     .rw[B];simp
     .refine app (λc B=>?_) l;split at B
      .cases B
      .exact d _ (by simp) c B
     .have F:=H.h1;have N:=E.cl;rw[aL];split
      .exact aa (m8 N _) cV
      .exact aa (nU F N) cV
    .cases h
  .have g:(ZJ.all λe=>decide (e.1∈jx) && (decide (e.2.2.2∈jx) && (decide (Z e.2.1<=6) && (decide (e.2.1≠[]) && (decide (e.2.2.1≠[]) && (decide (e.1∈uP) && (decide (e.2.2.2=uO) && decide (Z e.2.2.1<=6))))))))=U:=by decide +kernel
   have:=bc.mp g e C;simp only[ah,c5]at this;obtain⟨F,N,S,x,X,y,A,s⟩:=this;exact⟨F,N,S,λh=>absurd h x,X,.inr ⟨y,A⟩,s⟩
 .have C:e∈(if t.fg.isEmpty=U then []else(qL,[],t.m3,rG)::(Bo t).flatMap _):=C;split at C
  .cases C
  .rename_i q
   rcases ak.mp C with rfl|C
   .exact⟨by show qL∈jx;decide,by show rG∈jx;decide,aU _,λ_=>⟨W,W⟩,w.m3 (λz=>q (by rw[z];rfl)),.inl (d _ (by simp)),by exact aa H.h3 cV⟩
   .obtain⟨p,hp,h⟩:=l5.mp C;have F:∀c∈[p.2],c≠0:=λc B=>by rw[ax.mp B];exact (d _ (by simp) _ (jv hp).2)
    simp only[pF,ak,bu,dy]at h
    rcases h with rfl|rfl|rfl
    .exact zG (by show uO∈jx;decide) (by show qL∈jx;decide) (by simp) (by simp) (by simp) (app (d _ (by simp)) F) (by rw[aL];exact aA H.h2 cV)
    .exact zG (by show BK∈jx;decide) (by show qL∈jx;decide) (by simp) (by simp) (by simp) (app (d _ (by simp)) F) (by rw[aL];exact aA H.h2 (by decide))
    .exact zG (by show qL∈jx;decide) (by show qL∈jx;decide) (by simp) (by simp) (by simp) F (by show 1<=6;decide)
def Bh(g:NA t):Z (got t)<=300:=by
 rw[aL,aL];show _+3+_<=_;exact nZ (MG g.hl) (M1 t)
def Qn(t:Tb)(d:T):Prop:=∃c∈U' t.fs,d=c\/(t.m0.isEmpty=J/\d=c - 32)
def YD(w:wT t)(F:Qn t d)(B:v∈W6)(C:t.fg.isEmpty=U->v.2.1≠rG):∃y,(v.2.1,[d],y,v.2.2)∈got t:=by
 obtain⟨c,l,h⟩:=F;obtain⟨f,j,a⟩:=zK.mp l;obtain⟨y,b⟩:=w.own f j c a;have g:(W6.all λv=>decide (v.1∈V6))=U:=cV;have k :=F9.mpr ⟨_,b,v,B,by
  unfold Qo;rw[cb (c0 (c8 (bc.mp g v B)))]
  exact ax.mpr W⟩
 clear w B j a b g; rcases h with rfl|⟨i,rfl⟩
 .exact⟨y,aJ _ (aJ _ (A7.mpr ⟨mrb.mpr (.inl (mr1.mpr ⟨_,k,.inl rfl⟩)),C⟩))⟩
 .refine⟨t.m0++y,aJ _ (aJ _ (A7.mpr ⟨mrb.mpr (.inl (mr1.mpr ⟨_,k,.inr ⟨i,?_⟩⟩)),C⟩))⟩;show _=(v.2.1,TN [c],t.m0++y,v.2.2)
  rw[tJ]
variable{E:O Ed}{x:O T}
inductive fin (E:O Ed) (x:O T):T->aV->Prop
 |z {s:aV}:s∈uP->fin E x x.length s
 |s {p:T} {e:Ed}:p<=Z x->e∈E->pre x p e=U->fin E x (p+Z e.2.1) e.2.2.2->fin E x p e.1
def Ud(h:fin E x p s):(p=Z x/\s∈uP)\/∃e∈E,e.1=s/\pre x p e=U/\fin E x (p+Z e.2.1) e.2.2.2:=by
 cases h with
 |z h=>exact .inl ⟨W,h⟩
 |s a b c d=>exact .inr ⟨_,b,W,c,d⟩
def zC(w:wT t)(h:d∈raw t)(B:¬Qn t d):d=32\/∃k,k<Z t.fg/\d=48+k:=by
 rcases aH.mp h with h|h
 .rcases aH.mp h with h|h
  .rcases aH.mp h with h|h
   .exact .inl (ax.mp h)
   .obtain⟨k,b⟩:=lR.mp h
    have a:k<Z t.fg:=by
     rw[cL]at b
     simp_all
    rw[cL,cb a,(zr (aa a w.ok.hf)).2]at b;exact .inr ⟨k,a,(bh b).symm⟩
  .exfalso;unfold Lq at h;split at h
   .cases h
   .rename_i q;obtain⟨c,f,rfl⟩:=bT.mp h;exact B ⟨c,f,.inr ⟨by simpa using q,W⟩⟩
 .exact absurd ⟨d,h,.inl rfl⟩ B
structure cl(t:Tb)(E:O Ed)(x:O T)(p:T):Prop where
 o:fin E x p uO
 i:(∃d,x[p]?=Y d/\Qn t d)->fin E x p P5
 d:(¬ ∃d,x[p]?=Y d/\Qn t d)->fin E x p BK
 n:t.fg.isEmpty=J->fin E x p qL
theorem Ju(w:wT t)(B:∀e,e∈E↔e∈got t)(O':∀c∈x,c∈raw t):∀(m p:T),p+m=Z x->cl t E x p
 |0,p,h=>by
   subst (by omega);refine⟨.z cV,?_,λ_=>.z cV,λ_=>.z cV⟩;rintro⟨d,hd,_⟩;rw[gY (ao _)]at hd;cases hd
 |m+1,p,h=>by
   have hp :=aA (be _ _) (af h);have j:=Ju w B O' m (p+1) (aI (jj (af h)) (jj (af h.symm)));have f:[x[p]] <+: x.drop p:=by
    rw[fE hp];exact⟨x.drop _,W⟩
   have go:∀{s o:aV}{A:O _},(s,[x[p]],A,o)∈got t->fin E x (p+1) o->fin E x p s:=λ{s o A}he hf=>.s (aK hp) ((B _).mpr he) (c0 f) hf;by_cases g:Qn t x[p]
   .have b:∀{v:T×aV×aV},v∈W6->(t.fg.isEmpty=U->v.2.1≠rG)->fin E x _ _->fin E x p _:=λ{v} y hl hf=>by
     obtain⟨A,he⟩:=YD w g y hl;exact go he hf
    have C:fin E x p rG->t.fg.isEmpty=J->fin E x p qL:=λhl hf=>.s (aK hp) ((B _).mpr ((show (qL,[],t.m3,rG)∈got t by
     apply aB _
     grind))) (c0 List.nil_prefix) hl;by_cases u:∃d,x[p+1]?=Y d/\Qn t d
    .have hi:=j.i u;refine⟨b (v:=(98,uO,P5)) cV (λ_=>by decide) hi,λ_=>b (v:=(109,P5,P5)) cV (λ_=>by decide) hi,λq=>absurd ⟨_,(ag hp),g⟩ q,λq=>C (b (v:=(98,rG,P5)) cV (λz=>by rw[q]at z;cases z) hi) q⟩
    .have hi:=j.d u;refine⟨b (v:=(119,uO,BK)) cV (λ_=>by decide) hi,λ_=>b (v:=(101,P5,BK)) cV (λ_=>by decide) hi,λq=>absurd ⟨_,(ag hp),g⟩ q,λq=>C (b (v:=(119,rG,BK)) cV (λz=>by rw[q]at z;cases z) hi) q⟩
   .have hi:¬ ∃d,x[p]?=Y d/\Qn t d:=by
     rintro⟨d,h1,h2⟩;rw[(ag hp)]at h1;exact g (bh h1▸h2)
    rcases zC w (O' _ (bw hp)) g with e|⟨k,hk,e⟩
    .have hb:∀{s:aV},s∈uP->fin E x p s:=λ{s}hs=>go (by rw[e];refine aJ _ (aB _ ?_);have a:(uP.all λs=>decide ((s,[32],[0],uO)∈ZJ))=U:=by decide +kernel
                                                       exact c8 (bc.mp a s hs)) j.o;exact⟨hb cV,λz=>absurd z hi,λ_=>hb cV,λ_=>hb cV⟩
    .have l:t.fg.isEmpty=J:=by
      cases h:t.fg with
      |nil=>rw[h]at hk;cases hk
      |cons a r=>rfl
     have hb:∀{s:aV},s∈uP->fin E x p s:=λ{s}hs=>by
      obtain⟨A,he⟩:∃A,(s,[48+k],A,qL)∈got t:=(by
       have c:(48+k,t.fg[k])∈Bo t:=by
        refine lR.mpr ⟨k,?_⟩;rw[List.getElem?_zip_eq_some];exact⟨((zr (aa hk w.ok.hf)).2),ag hk⟩
       have b:t.fg.isEmpty=J:=by
        omega
       have a:∀e∈pF t _,e∈got t:=λe he=>by
        apply aB _;show e∈(if t.fg.isEmpty=U then []else(qL,[],t.m3,rG)::(Bo t).flatMap _);rw[b];exact jU _ (l5.mpr ⟨_,c,he⟩)
       simp only[uP,ak,bu,dy]at hs
       rcases hs with rfl|rfl|rfl
       .exact⟨_,a _ jB⟩
       .exact⟨_,a _ (jU _ jB)⟩
       .exact⟨_,a _ (jU _ (jU _ jB))⟩);exact go (by rwa[e]) (j.n l)
     exact⟨hb cV,λz=>absurd z hi,λ_=>hb cV,λ_=>hb cV⟩
end K32E
namespace K32E
open L2 M K32
variable{x:O T}{s:aV}
noncomputable abbrev um(S:O Ed):O cx:=S.flatMap λe=>e.2.2.1
def Ch:aV->O Ed->aV->Prop
 |s,[],o=>s=o
 |s,e::S,o=>e.1=s/\Ch e.2.2.2 S o
theorem Pt:∀{S:O Ed}{a b:aV}{e:Ed},Ch a S b->e.1=b->Ch a (S++[e]) e.2.2.2
 |[],_,_,_,h,q=>⟨q.trans h.symm,W⟩
 |_::S,_,_,_,h,q=>⟨h.1,Pt h.2 q⟩
noncomputable abbrev txO(S:O Ed):O T:=S.flatMap λe=>e.2.1
abbrev Lu(C:Fs)(ρ:dN):a5 cc:=(bA C (.cmp .lt (.v 5) (.blt .len [(.v 1)])) (full ρ)).bind λx=>iZ x.1
def Hv(h:bA C a (full ρ)=Y (d,U))(hi:im d=J):og C (.set i a) ρ=Y (.nx (ρ.set i (Y (d,U)))):=by
 rw[Bp,h];show(if(im d || U)=U then Y (Out.nx (ρ.set i (Y _)))else _)=_;rw[hi];rfl
def Wd:og C (.whl c b) ρ=Cg (λρ=>(bA C c (full ρ)).bind λx=>iZ x.1) (e9 C b) o5 ρ:=rfl
end K32E
namespace K32E
open L2 M K32
variable{F:O Ed}{x:O T}{p:T}{s:aV}
structure Rw{α:Type}(ks:O aV)(g:aV->a5 α):Prop where
 nd:ks.Nodup
 mem:∀s,s∈ks↔∃k,g s=Y k
 st:∀s∈ks,s∈jx
noncomputable abbrev Wg{α:Type}(g:aV->a5 α)(s:aV)(v:α):aV->a5 α:=λr=>if r=s then Y v else g r
theorem Dg:∀{l:O aV},s∉l->ig (.inr s) (l.map bM) (l.map g)=L
 |[],_=>rfl
 |a::r,h=>by
   have q:¬(bM a:Key)=.inr s:=λe=>h (p7 e▸jB);show(if(bM a)=.inr s then _ else ig ..)=L;rw[cv q,Dg λm=>h (jU _ m)]
def N8{α:Type}[VD α]{y:O aV}{g:aV->a5 α}(h:Rw y g):ig (.inr s) (y.map bM) (y.map λs=>vD (g s))=(g s).map VD.v:=by
 by_cases m:s∈y
 .obtain⟨k,a⟩:=(h.mem s).mp m;rw[N9 m,a];rfl
 .rw[Dg m]
  cases q:g s with
  |none=>rfl
  |some k=>exact absurd ((h.mem s).mpr ⟨k,q⟩) m
theorem Vs{α:Type}[VD α]{g:aV->a5 α}{v:α}:∀{y:O aV},y.Nodup->∃B:O aV,putD (.inr s) (VD.v v) (y.map bM) (y.map λs=>vD (g s))=(B.map bM,B.map λr=>vD (Wg g s v r))/\xp (.inr s) (y.map bM)=U/\B.Nodup/\∀r,r∈B↔r∈y\/r=s
 |[],_=>⟨[s],by show([bM s],[VD.v v])=([bM s],[vD (if s=s then Y v else g s)]);rw[cb W];rfl,W,by simp,by simp⟩
 |a::l,h=>by
   obtain⟨b,d⟩:=a6.mp h;by_cases q:a=s
   .subst q
    have e :=dS λr m=>by
     show vD (g r)=vD (if r=a then Y v else g r);rw[cv λz:r=a=>b (z▸m)]
    refine⟨_,?_,?_,h,λr=>⟨.inl,λz=>z.elim id λz=>z▸jB⟩⟩
    .show(if(bM a)=.inr a then((bM a)::l.map bM,VD.v v::l.map λr=>vD _)else _)=(_,vD (if a=a then Y v else g a)::_)
     rw[cb W,cb W,e];rfl
    .show(if(bM a)=.inr a then !((l.map bM).any λi=>decide _)else _)=U
     grind
   .obtain⟨B,f,j,k,c⟩:=Vs (v:=v) d;refine⟨a::B,?_,?_,a6.mpr ⟨λm=>?_,k⟩,λr=>?_⟩
    .show(if(bM a)=.inr s then _ else((bM a)::(putD _ _ _ (l.map λs=>vD _)).1,vD _::(putD _ _ _ (l.map λs=>vD _)).2))=(_,vD (if a=s then Y v else g a)::_)
     rw[cv (λe=>q (p7 e)),cv q,f];rfl
    .show(if(bM a)=.inr s then _ else xp _ _)=U;rw[cv (λe=>q (p7 e)),j]
    .simp_all
    .rw[ak,ak,c,or_assoc]
def VB{α:Type}[VD α]{y:O aV}{g:aV->a5 α}(h:Rw y g)(hs:s∈jx)(v:α):∃B,kP .seti (dD y g) [VD.v v,.str s]=Y (dD B (Wg g s v))/\Rw B (Wg g s v):=by
 refine ac λ_ b=>?_;obtain⟨B,c,d,e,a⟩:=Vs (v:=v) h.nd;apply b;refine⟨B,?_,e,λr=>?_,λr m=>?_⟩
 .show(if(y.map bM).length<aF/\xp _ _=U then Y (Dat.dct (putD _ _ _ (y.map λs=>vD _)).1 (putD _ _ _ (y.map λs=>vD _)).2)else L)=_;rw[cb ⟨by rw[aE];exact aA (A2 h.nd h.st) cV,d⟩,c]
 .rw[a];show _↔∃k,(if r=s then Y v else g r)=Y k;by_cases q:r=s
  .simp[q]
  .rw[h.mem];simp[q]
 .rcases(a r).mp m with m|m
  .exact h.st r m
  .exact m▸hs
structure CT{α:Type}[VD α](L':O Dat)(n:T)(G:T->aV->a5 α):Prop where
 l:Z L'=n+1
 r:∀q,q<=n->∃ks,L'[q]?=Y (dD ks (G q))/\Rw ks (G q)
abbrev Ax{α:Type}(G:T->aV->a5 α)(p:T)(s:aV)(v:α):T->aV->a5 α:=λq=>if q=p then Wg (G p) s v else G q
section
variable{G:T->Row}
def abu{α:Type}[VD α]{L':O Dat}{n i:T}{v:α}{G:T->aV->a5 α}{ρ:dN}{ke xi y:Ex}{R S I:cc}(h:CT L' n G)(B:p<=n)(hs:s∈jx)(P:(ρ[i]?).join=Y (.lst L',U))(e1:bA C y (full ρ)=Y (VD.v v,R))(e2:bA C ke (full ρ)=Y (.int (p:T),S))(e3:bA C xi (full ρ)=Y (.str s,I)) :
  ∃O',og C (.SX i ke xi y) ρ=Y (.nx (ρ.set i (Y (.lst O',U))))/\CT O' n (Ax G p s v):=by
 obtain⟨k,g,c⟩:=h.r p B;obtain⟨a,b,b2⟩:=VB c hs v;refine⟨L'.set p (dD a (Wg (G p) s v)),?_,by rw[QH];exact h.l,λq f=>?_⟩
 .have o:yQ L'.length ((p))=Y p:=by
   unfold yQ;rw[cb (fY _),cb (by rw[h.l];exact vq.mpr (bf B))];simp
  have m:Yk .seti [VD.v v,.str s] (.lst L') (.int (p))=Y (.lst (L'.set p (dD a (Wg (G p) s v)))):=by
   show((yQ _ _).bind λj=>(L'[j]?).bind λd=>(kP _ d _).map λt=>Dat.lst _)=_
   simp_all
  refine (?_ : bV (bA C y _) _=_);rw[e1];show(if im _=U then _ else L)=_;rw[cb (VD.i v),e2];rw[e3];rw[P];show(Yk _ _ _ (.int _)).map _=_;rw[m];rfl
 .by_cases e:q=p
  .subst e;rw[fh (by rw[h.l];exact bf B)];show ∃k,Y _=Y (dD k (if q=q then _ else _))/\Rw k (if q=q then _ else _);rw[cb W];exact⟨a,W,b2⟩
  .rw[dc (dn e)];show ∃k,L'[q]?=Y (dD k (if q=p then _ else _))/\Rw k (if q=p then _ else _);rw[cv e];exact h.r q f
def Aa{α:Type}[VD α]{L':O Dat}{n q:T}{G:T->aV->a5 α}(h:CT L' n G)(B:q<=n):∃g,xF (.lst L') (.int (q:T))=Y (dD g (G q))/\Rw g (G q):=
 let ⟨g,a,b⟩:=h.r q B
 ⟨g,lN a,b⟩
def Tr{α:Type}[VD α]{y:O aV}{g:aV->a5 α}{v:α}(h:Rw y g)(e:g s=Y v):xF (dD y g) (.str s)=Y (VD.v v):=by
 show ig _ _ (y.map λs=>vD _)=_;rw[N8 h,e];rfl
def OM(h:Rw y g):je .get (dD y g) [.str s,.int (v:T)]=Y (.int ((g s).getD v:T),J):=by
 show Y ((ig _ _ (y.map λs=>vD _)).getD (.int _),J)=_;rw[N8 h];cases g s<;>rfl
def Ks(B:bA C a ρ=Y (I,f))(P:bA C b ρ=Y (y,g))(R:bA C c ρ=Y (z,h))(h:je o I [y,z]=r):bA C (.iH o a [b,c]) ρ=r:=by rwa[v5,B,df,P,df,R]
def Fl(x:O T)(p:T)(e:Ed)(G:T->Row):T->Row:=if pre x p e=U then match G (p+Z e.2.1) e.2.2.2 with
 |none=>G
 |some c=>Ax G p e.1 (min ((G p e.1).getD (Z e.2.2.1+c)) (Z e.2.2.1+c))else G
end
end K32E
namespace K32E
open L2 M K32
variable{E F:O Ed}{x:O T}{p:T}{s:aV}{G:T->Row}
def qD(g:p<=Z x)(h:pre x p e=U):p+Z e.2.1<=Z x:=by
 grind
structure Iv(E F:O Ed)(x:O T)(p:T)(us:O Ed)(G:T->Row):Prop where
 hi:∀q,p<q->q<=Z x->∀s,(G q s).isSome=U↔fin E x q s
 lo:∀q,q<p->∀s,(G q s).isSome=J
 a:∀s,(G p s).isSome=U->fin E x p s
 b:∀e∈us,pre x p e=U->e.2.1≠[]->fin E x (p+Z e.2.1) e.2.2.2->(G p e.1).isSome=U
 c:∀e∈us.drop F.length,e.2.1=[]->fin E x p rG->(G p qL).isSome=U
 z:p=Z x->∀s∈uP,(G p s).isSome=U
def Hc:Ax G p s v p=Wg (G p) s v:=cb W
def LX(h:q≠p):Ax G p s v q=G q:=cv h
end K32E
namespace K32E
open L2 M K32
variable{F:O Ed}{x:O T}{s:aV}
def CT.to{G:T->Row}(h:CT L' n G)(e:∀q,q<=n->G q=g q):CT L' n g:=⟨h.l,λq a=>by rw[<-e q a];exact h.r q a⟩
def PV(h:aR m=us++b::g):b=Z us/\Z us<m:=by
 have a:Z us<m:=by have:=c7 iD h;simp at this;simp_all
 have c:=c7 (·[us.length]?) h;simp[a]at c;exact⟨c.symm,a⟩
end K32E
namespace K32E
open L2 M K32
variable{E F:O Ed}{x:O T}{p:T}{s:aV}
section
variable{S:O Ed}
structure Wk(E:O Ed)(x:O T)(S:O Ed)(p:T)(s:aV):Prop where
 he:∀e∈S,e∈E
 hp:p<=Z x
 hs:s∈jx
 hl:Z S<=2 * p+1/\(s≠rG->Z S<=2 * p)
 hk:fin E x p s
 hc:Ch uO S s
 ht:txO S=x.take p
end
end K32E
namespace K32E
open L2 M K32
variable{F:O Ed}{x:O T}{s:aV}
def adM(h:bA C a ρ=Y (.bl b,f)):bA C (.not a) ρ=Y (.bl (!b),J):=by
 rw[(show bA C _ ρ=(bA C a ρ).bind λx=>(iZ _).map _ from rfl),h];rfl
end K32E
namespace K32E
open L2 M K32
noncomputable abbrev CU(r:O cx)(q:T)(e:Ed):cc:=decide (e.2.2.1 <+: r.drop q)
inductive Wl (E:O Ed) (x:O T) (r:O cx):T->T->aV->Prop
 |z:Wl E x r 0 0 uO
 |s {p q:T} {e:Ed}:Wl E x r p q e.1->e∈E->pre x p e=U->CU r q e=U->Wl E x r (p+Z e.2.1) (q+Z e.2.2.1) e.2.2.2
section
variable{E:O Ed}{x:O T}{r:O cx}
def Wl.le{p q:T}{s:aV}(h:Wl E x r p q s):p<=Z x/\q<=Z r:=by
 induction h with
 |z=>simp
 |s _ _ b c a=>exact⟨qD a.1 b,by grind⟩
def Wl.st(g:∀e∈E,e.2.2.2∈jx){p q:T}{s:aV}(h:Wl E x r p q s):s∈jx:=by
 cases h with
 |z=>exact jB
 |s _ a _ _=>exact g _ a
def isW(E:O Ed)(x:O T)(r:O cx):Prop:=∃s∈uP,Wl E x r x.length r.length s
end
section
variable{G:T->Row}
end
section
variable{E:O Ed}{x:O T}{r:O cx}{A:T->O (T×aV)}
noncomputable abbrev spt(a:T×aV)(e:Ed):T×aV:=(a.1+Z e.2.1,e.2.2.2)
abbrev gd(x:O T)(r:O cx)(q:T)(a:T×aV)(e:Ed):cc:=(e.1 == a.2 && CU r q e) && pre x a.1 e
noncomputable abbrev upA(A:T->O (T×aV))(k:T)(a:T×aV):T->O (T×aV):=λq=>if q=k then A k++[a]else A q
def stA(x:O T)(r:O cx)(q:T)(a:T×aV)(e:Ed)(A:T->O (T×aV)):T->O (T×aV):=if(gd x r q a e && !decide (spt a e∈A (q+Z e.2.2.1)))=U then upA A (q+Z e.2.2.1) (spt a e)else A
structure Sw(E:O Ed)(x:O T)(r:O cx)(A:T->O (T×aV)):Prop where
 z:(0,uO)∈A 0
 s:∀q,∀a∈A q,Wl E x r a.1 q a.2
 n:∀q,(A q).Nodup
abbrev Cy(x:O T)(r:O cx)(A:T->O (T×aV))(q:T)(a:T×aV)(e:Ed):Prop:=gd x r q a e=U->spt a e∈A (q+Z e.2.2.1)
end
section
variable{r:O cx}{k:T}{A:T->O (T×aV)}{SL:O Dat}{a:T×aV}
noncomputable abbrev Qj(a:T×aV):Dat:=.tup [.int (a.1:T),.str a.2]
structure SR(SL:O Dat)(n k:T)(A:T->O (T×aV)):Prop where
 l:Z SL=n+1
 r:∀q,k<=q->q<=n->SL[q]?=Y (.lst ((A q).map Qj))
end
section
variable{E F:O Ed}{x:O T}{r:O cx}{q:T}{e:Ed}{A:T->O (T×aV)}{a:T×aV}{A0:O (T×aV)}
structure Ic(E F:O Ed)(x:O T)(r:O cx)(q:T)(A0:O (T×aV))(A:T->O (T×aV)):Prop where
 w:Sw E x r A
 c:∀k,k<q->∀a∈A k,∀e∈F,Cy x r A k a e
 e:A q=A0
end
section
variable{E F:O Ed}
abbrev A1:T->O (T×aV):=λq=>if q=0 then [(0,uO)]else []
end
def Av{α:Type}{G:T->aV->a5 α}{p:T}{s:aV}{v:α}:Ax G p s v p s=Y v:=by grind
def Aw{α:Type}{G:T->aV->a5 α}{p q:T}{s t:aV}{v:α}(h:¬(q=p/\t=s)):Ax G p s v q t=G q t:=by
 show(if q=p then(λr=>if r=s then Y v else G p r)else G q) t=_;by_cases c:q=p
 .simp_all
 .rw[cv c]
instance {α:Type} [VD α]:VD (a5 α):=⟨vD,λo=>match o with
 |none=>rfl
 |some k=>VD.i k⟩
variable{E:O Ed}{x:O T}
def Pg{α:Type}[VD α](n:T):CT (α:=α) (bH n (.dct [] [])++[.dct [] []]) n λ_ _=>L:=by
 refine⟨by simp,λq a=>⟨[],?_,eE,λs=>by simp,λs h=>nomatch h⟩⟩;rw[<-List.replicate_succ',cO,cb (Qb a)];rfl
abbrev Km:=T->aV->a5 (a5 T)
noncomputable def mnN:T->O T->T
 |a,[]=>a
 |a,b::r=>mnN (if b<a then b else a) r
def NZ:O T->a5 T
 |[]=>L
 |a::r=>Y (mnN a r)
theorem VC:∀(r:O T)(a:T),Yp (a:cx) (r.map λk:T=>(k:cx))=(mnN a r:T)
 |[],_=>rfl
 |b::r,a=>by
   show Yp (if(b:cx)<(a)then(b)else(a)) _=_;rw[show(if(b:cx)<(a)then(b:cx)else(a))=((if b<a then b else a:T)) by grind];exact VC r _
theorem NX:∀(r:O T)(a:T),mnN a r∈a::r
 |[],a=>jB
 |b::r,a=>by
   show mnN (if b<a then b else a) r∈_
   rcases ak.mp (NX r (if b<a then b else a))with h|h
   .rw[h];split<;>simp
   .simp[h]
def S5(h:NZ l=Y m):m∈l:=by
 cases l with
 |nil=>cases h
 |cons a r=>cases h;exact NX r a
def Y2(o:a5 T):im (vD o)=U:=by cases o<;>rfl
theorem Fo:∀ws:O (a5 T),(ws.filter QB).map vD=(ws.filterMap id).map λk:T=>Dat.int (k:T)
 |[]=>rfl
 |none::r=>Fo r
 |some k::r=>c7 (Dat.int (k)::·) (Fo r)
theorem Ou:∀g:O T,zR (g.map λk:T=>Dat.int (k:T))=Y (g.map λk:T=>(k:cx))
 |[]=>rfl
 |k::r=>by show(zR _).map _=_;rw[Ou r];rfl
section
variable{G:Km}{p:T}{e:Ed}{s:aV}
noncomputable abbrev rE(G:Km)(p:T)(e:Ed):a5 T:=(G (p+Z e.2.1) e.2.2.2).join.map λk=>Z e.2.2.1+k
def MK(h:CT L' m G)(y:p+Z e.2.1<=m)(g:Z e.2.1<=1000)(O':(G (p+Z e.2.1) e.2.2.2).isSome=U):Cn D (n+1) 12 [fB e,.int (p:T),.lst L']=Y (vD (rE G p e),J):=by
 obtain⟨o,O'⟩:=iw.mp O';obtain⟨b,a,i2⟩:=Aa h y;unfold rE;rw[O'];refine rk W ?_;generalize Cn D n=C;apply dT (ie (yy (yy W (iT W (lG W (len_T (aa g (by decide)))) W) a) W (Tr i2 O')) (Y2 o))
 cases o with
 |none=>exact iN W rfl
 |some r=>
   have b2:bA C (.bin .add (.blt _ [.ix (.v 0) (.e_ 2)]) (.v 3)) [Y (fB e),Y (.int (p)),Y (.lst L'),Y (.int (r))]=Y (.int _,J):=iT (lG W (uG _)) W rfl;exact iN b2 W
abbrev Jf(E:O Ed)(x:O T)(G:Km)(p:T)(s:aV):O T:=((D7 E s).filter (pre x p)).filterMap (rE G p)
def Xq{n:T}{es:O Ed}(h:CT L' m G)(F:p<=Z x)(B:Z es<=1000)(g:∀e∈es,pre x p e=U->Z e.2.1<=1000/\p+Z e.2.1<=m/\(G (p+Z e.2.1) e.2.2.2).isSome=U) :
  Cn D (n+2) 13 [.lst (es.map fB),.str (T' x),.int (p:T),.lst L']=Y (vD (NZ ((es.filter (pre x p)).filterMap (rE G p))),J):=by
 have d:Z (es.filter (pre x p))<=1000:=aa (dv _ _) B;have a:=FF (n:=n) F B
 have b:∀e∈es.filter _,Cn D (n+1) 12 [fB e,.int _,.lst L']=Y (vD _,J):=λe m=>by
  obtain⟨i,j⟩:=bI.mp m;obtain⟨k,f,l⟩:=g e i j;exact MK h f k l
 refine rk W ?_;generalize Cn D _=C at a b ⊢;generalize es.filter _=fs at d a b ⊢;refine eZ (ds:=(fs.map (rE G p)).map vD) ?_ (iN ?_ W)
 .rw[cZ];exact tP (by show bV (C 11 [.lst _,.str _,.int _]) _=_;rw[a];rfl) d (λ_ _=>Y2 _) λe g=>⟨J,b e g⟩
 .rw[show fs.filterMap _=(fs.map (rE G p)).filterMap id by simp];have c2:=qJ (C:=C) (ρ:=[Y (.lst (es.map fB)),Y (.str (T' x)),Y (.int (p)),Y (.lst L'),Y (.lst ((fs.map (rE G p)).map vD))]) (caps:=[]) (it:=.itv (.v 4)) (c:=.cmp .nisn (.v 0) (.con .non)) QB W (by simp_all) Y2 λo _=>⟨J,by cases o<;>rfl⟩
  rw[Fo]at c2;show bV (bA C (.comp 1 U [] (.itv _) [(.cmp _ _ (.con _))] _) [Y (.lst _),Y (.str _),Y (.int _),Y (.lst L'),Y (.lst ((fs.map _).map vD))]) (λy=>SV _)=_;rw[c2];show(zR _).map _=_;rw[Ou]
  cases (List.filterMap id (Vd _ fs)) with
  |nil=>rfl
  |cons a r=>
    show Y (Dat.int (Yp (a) _),J)=_;rw[VC];rfl
end
structure Kn(E:O Ed)(x:O T)(P:T->aV->Prop)(G:Km):Prop where
 w:∀q s k,G q s=Y (Y k)->(q=Z x/\s∈uP)\/∃e∈E,e.1=s/\pre x q e=U/\rE G q e=Y k
 f:∀q s,P q s->fin E x q s->∃k,G q s=Y (Y k)
 d:∀q s,P q s↔(G q s).isSome=U
abbrev Pd(x:O T)(p:T)(g:O aV):T->aV->Prop:=λq s=>(p<q/\q<=Z x/\s∈jx)\/(q=p/\s∈g)
set_option tactic.hygienic true in
def YG{G:Km}(g:gE E)(h:Kn E x (Pd x p us) G)(I:p<=Z x)(hs:s∉us)(O':s=qL->rG∈us)
  (B:v=if p=Z x/\s∈uP then Y 0 else NZ (Jf E x G p s)):Kn E x (Pd x p (us++[s])) (Ax G p s v):=by
 have A:¬(G p s).isSome=U:=λz=>by
  rcases(h.d p s).mpr z with z|z
  .exact absurd z.1 (bE _)
  .exact hs z.2
 have l:∀{q t},(G q t).isSome=U->Ax G p s v q t=G q t:=λ{q t}z=>Aw λc=>A (c.1▸c.2▸z)
 have i:∀{q:T}{e:Ed}{k:T},rE G q e=Y k->rE (Ax G p s v) q e=Y k:=λ{q e k}z=>by
  have:(G (q+Z e.2.1) e.2.2.2).isSome=U:=by
   cases c:G _ _ with
   |none=>simp_all
   |some _=>rfl
  unfold rE;rwa[l this]
 refine⟨λq t k u=>?_,λq t C F=>?_,λq t=>?_⟩
 .by_cases c:q=p/\t=s
  .obtain⟨rfl,rfl⟩:=c;rw[Av]at u;have u :=bh u;rw[B]at u;split at u
   .rename_i z;exact .inl z
   .obtain⟨e,m,r⟩:=jh.mp (S5 u);obtain⟨H,K⟩:=bI.mp m;exact .inr ⟨e,(bI.mp H).1,by simpa using (bI.mp H).2,K,i r⟩
  .rw[Aw c]at u;exact(h.w q t k u).imp id λD=>by obtain⟨e,a,b,c,d⟩:=D;exact ⟨e,a,b,c,i d⟩
 .by_cases c:q=p/\t=s
  .obtain⟨rfl,rfl⟩:=c;rw[Av];by_cases z:q=Z x/\t∈uP
   .exact⟨0,by rw[B,cb z]⟩
   .rw[B,cv z]
    rcases Ud F with y|⟨e,a,b,c,d⟩
    .exact absurd y z
    .obtain⟨k,u⟩:=h.f _ _ (by
      by_cases y:e.2.1=[]
      .rw[y,(g.n e a y).2];exact .inr ⟨W,O' (b▸(g.n e a y).1)⟩
      .exact .inl ⟨Er (fu.mpr y),qD I c,g.o e a⟩) d
     have m:Z e.2.2.1+k∈Jf E x G q t:=jh.mpr ⟨e,bI.mpr ⟨bI.mpr ⟨a,by simpa using b⟩,c⟩,by unfold rE;rw[u];rfl⟩
     cases y:Jf E x G q t with
     |nil=>rw[y]at m;cases m
     |cons j r=>exact⟨_,W⟩
  .rw[Aw c];exact h.f q t (C.imp id λz=>⟨z.1,(aH.mp z.2).elim id λy=>absurd ⟨z.1,ax.mp y⟩ c⟩) F
 .by_cases c:q=p/\t=s
  .rw[c.1,c.2,Av];exact⟨λ_=>W,λ_=>.inr ⟨W,by simp⟩⟩
  .rw[Aw c,<-h.d q t];exact⟨λz=>z.imp id λz=>⟨z.1,(aH.mp z.2).elim id λy=>absurd ⟨z.1,ax.mp y⟩ c⟩,λz=>z.imp id λz=>⟨z.1,aJ _ z.2⟩⟩
noncomputable abbrev Qp:O aV:=["all","let","num","done","in","out"]
abbrev Uo(E:O Ed)(x:O T)(L':O Dat)(a b:g_):dN:=[Y (mX E,J),Y (.str (T' x),J),Y (.lst L',U),a,b]
def Hy(h:Qp=us++qL::g):rG∈us:=by
 match us,h with
 |[],h=>exact absurd (eO h).1 (by decide)
 |[a],h=>exact absurd (eO (eO h).2).1 (by decide)
 |a::b::l,h=>grind
def Wz{G:Km}(g:gE E)(c3:Z x<=1000)(P:p<=Z x)(O':Qp=us++s::vs)(h:CT L' x.length G)(R:Kn E x (Pd x p us) G) :
  ∃ρ1,iU U [4] (.str s) (Uo E x L' (Y (.int (p:T),J)) z)=Y ρ1/\Go (Cn D (n+2)) B14 ρ1 λo=>∃B,o=.nx B/\∃L' G z,B=Uo E x L' (Y (.int (p:T),J)) z/\CT L' x.length G/\Kn E x (Pd x p (us++[s])) G:=by
 have K :=(by decide:∀s∈Qp,s∈jx) s (by rw[O'];simp)
 have c :=λm=>by
  have:Qp.Nodup:=by decide
  rw[O']at this;exact(cG.mp this).2.2 s m s jB W
 refine⟨_,W,?_⟩
 have j:=Xq (n:=n) (es:=D7 E s) h P (aa (dv _ _) (aa g.l (by decide))) λe S b=>by
  obtain⟨A,N⟩:=bI.mp S;have N:e.1=s:=by simpa using N
  refine⟨g.t e A,qD P b,(R.d _ _).mp ?_⟩;by_cases y:e.2.1=[]
  .rw[y,(g.n e A y).2];exact .inr ⟨W,Hy (by rw[O',<-N,(g.n e A y).1])⟩
  .exact .inl ⟨Er (fu.mpr y),qD P b,g.o e A⟩
 have u:Cn D (n+2) 2 _=Y (.bl (decide _),J):=MN K;generalize Cn D _=C at j u ⊢
 have F:bA C (.cmp .eq (.v 3) (.blt _ [.v 1])) (full (Uo E x L' (Y (.int _,J)) (Y (.str s,J))))=Y (.bl (decide (p=Z x)),J):=km W (lG W (len_T (aa c3 (by decide)))) (by
  show Y (decide _)=_
  rw[decide_eq_decide.mpr (Int.ofNat_inj)])
 obtain⟨M,H⟩:=aco F ((rq (a:=.v 4) W).trans u)
 have fin:∀(v:a5 _)(Q:Ex)(f:cc),bA C Q (full (Uo E x L' (Y (.int _,J)) (Y (.str s,J))))=Y (vD v,f)->v=(if p=Z x/\s∈uP then Y 0 else NZ _)->Go C [.SX 2 _ _ Q] (Uo E x L' (Y (.int _,J)) (Y _)) λo=>∃w,o=.nx w/\∃L' G z,w=Uo E x L' (Y (.int _,J)) z/\CT L' _ G/\Kn E x (Pd x p _) G:=λv Q f r k=>by
  obtain⟨I,X,m2⟩:=abu (i:=2) h P K W r (ke:=.v 3) (xi:=.v 4) W rfl;exact dT X (cP ⟨_,W,I,_,_,W,m2,(λv k=>YG (v:=v) g R P c (λq=>Hy (q▸O')) k) v k⟩)
 refine lE H (λq=>(fin (Y 0) _ J W (by simp_all))) (λq=>?_) λw q=>cP ⟨_,W,q⟩
 .refine fin _ _ J ?_ (cv (by simpa using q)).symm;have hd:xF (mX E) (.str s)=Y (.lst _):=Be K;rwa[lM,df,yy W rfl hd]
def zz(g:gE E)(O':Z x<=1000):∃L' G,Cn D (n+3) 14 [mX E,.str (T' x)]=Y (.lst L',U)/\CT (α:=a5 T) L' x.length G/\Kn E x (λq s=>q<=Z x/\s∈jx) G:=by
 suffices h:Go (Cn D _) _ [Y _,Y (.str _,J),L,L,L] λo=>∃L' G,o=.rt (.lst L') U/\CT L' _ G/\Kn E x _ G by
  refine ac λ_ H=>?_;obtain⟨_,h1,L',G,rfl,h2⟩:=h;apply H;exact⟨L',G,fG W h1,h2⟩
 have e:=λ(p)G (L')(us vs)(s)(z)(hp:p<=Z x)(l:Qp=us++s::vs)(h:CT L' _ G)(hk)=>Wz (n:=n) (z:=z) g O' hp l h hk;generalize Cn D _=C at e ⊢;have c1:bA C (.cat (.comp 1 U [] (.itv (.v 1)) [] .n6) (.lst [.n6])) [Y (mX E),Y (.str (T' x)),L,L,L]=Y (.lst (bH x.length (.dct [] [])++[.dct [] []]),U):=by
  have A:bA C (.comp 1 U [] (.itv (.v 1)) [] .n6) [Y (mX E),Y (.str (T' x)),L,L,L]=Y (.lst (bH x.length (.dct [] [])),U):=by
   refine pz (items:=(T' x).cps.toList.map λc=>Dat.str ⟨#[c]⟩) ?_ (by simp;exact aa O' cV) (by rw[A8];simp)
   first|rfl|simp
  show bV (bA C (.comp 1 U [] (.itv _) [] _) [Y _,Y (.str _),L,L,L]) _=_;rw[A];show(if(bH _ _).length+1<=aF then _ else L)=_;rw[cb (by rw[gW];exact aA O' cV)]
 apply eZ c1
 have rng:FG [.int (x.length),.int (-1),.int (-1)]=Y ((aR (Z x+1)).map λk:T=>Dat.int ((x.length) - k)):=by
  show(if(-1)=-1/\-1000000<=((x.length):cx)/\((x.length):cx)<=1000000/\-1000000<=(-1)/\(-1)<=1000000 then Y ((aR _).map λk:T=>Dat.int _)else L)=_;rw[cb ⟨W,by simp,gH (fQ.mpr O') cV,cV,by simp⟩,show(((x.length):cx) - (-1)).toNat=Z x+1 by rfl]
 refine lV (I:=λus m=>∃L' G a b,m=Uo E x L' a b/\CT L' _ G/\Kn E x (λq s=>Z x<q+Z us/\q<=Z x/\s∈jx) G) (by
  rw[xP];show bV (bV (bV (jg .len [.str _]) _) _) _=_;rw[(len_T (aa O' (by decide)))];show bV (FG [.int _,.int _,.int _]) _=_
  rw[rng];rfl) ⟨_,_,L,L,W,Pg _,(λq s k h=>nomatch h),(λq s h=>absurd h.1 (QD h.2.1)),λq s=>⟨λh=>absurd h.1 (QD h.2.1),λh=>nomatch h⟩⟩ ?_ ?_
 .rintro us k vs _ l ⟨L',G,a,b,rfl,h,hk⟩;obtain⟨rfl,B⟩:=PV l;obtain⟨p,hp,r⟩:∃p:T,p+Z us=Z x/\((x.length:cx) - (us.length))=(p):=⟨Z x - Z us,ue (bb B),Eq.symm (Int.ofNat_sub (bb B))⟩
  have i:∀q s,(Z x<q+Z us/\q<=Z x/\s∈jx)↔Pd x p [] q s:=λq s=>⟨λz=>.inl ⟨nZ (af hp) z.1,z.2⟩,λz=>z.elim (λz=>⟨nZ (af hp.symm) z.1,z.2⟩) λz=>nomatch z.2⟩
  refine⟨Uo E x L' (Y (.int _,J)) b,by rw[r];rfl,lV (xs:=Qp) (I:=λus m=>∃L' G z,m=Uo E x L' (Y (.int (p),J)) z/\CT L' _ G/\Kn E x (Pd x p us) G) (by rfl) ⟨L',G,b,W,h,hk.w,λq s z=>hk.f q s ((i q s).mpr z),λq s=>(i q s).symm.trans (hk.d q s)⟩ ?_ ?_⟩
  .rintro t s u _ y ⟨L',G,z,rfl,h,hk⟩;exact e p G L' t u s z (aa (be _ _) (af hp)) y h hk
  .rintro _ ⟨L',G,z,rfl,h,hk⟩
   have j:∀q s,(Z x<q+Z (us++[us.length])/\q<=Z x/\s∈jx)↔Pd x p Qp q s:=λq s=>by
    rw[aL,List.length_singleton];have F:s∈Qp↔s∈jx:=⟨(by decide:∀s∈Qp,s∈jx) s,(by decide:∀s∈jx,s∈Qp) s⟩
    constructor
    .intro z
     grind
    .rintro(z|z)
     .exact⟨nZ (af hp.symm) z.1,z.2⟩
     .exact⟨nZ (af hp.symm) (af z.1.symm),aa (EX (af z.1)) (af hp),F.mp z.2⟩
   exact cP ⟨_,W,L',G,_,_,W,h,hk.w,λq s z=>hk.f q s ((j q s).mp z),λq s=>(j q s).trans (hk.d q s)⟩
 .rintro _ ⟨L',G,a,b,rfl,h,hk⟩;rw[ba]at hk;have i:∀q s,(Z x<q+(Z x+1)/\q<=Z x/\s∈jx)↔(q<=Z x/\s∈jx):=λq s=>⟨λz=>z.2,λz=>⟨jy _ _,z⟩⟩
  exact⟨_,W,L',G,W,h,hk.w,λq s z=>hk.f q s ((i q s).mpr z),λq s=>(i q s).symm.trans (hk.d q s)⟩
section
variable{G:Km}{L':O Dat}{p:T}{s:aV}
def aal(a b:a5 T):jL .eq (vD a) (vD b)=Y (decide (a=b)):=by
 cases a with
 |none=>cases b<;>rfl
 |some j=>
   cases b with
   |none=>rfl
   |some k=>
     show Y (decide _)=_;rw[decide_eq_decide.mpr (show(j:cx)=(k)↔Y j=Y k by simp;grind)]
abbrev chp(G:Km)(p:T)(o:a5 T)(e:Ed):cc:=decide (rE G p e=o)
def RJ{es:O Ed}(h:CT L' x.length G)(y:Z es<=1000)(g:∀e∈es,Z e.2.1<=1000/\p+Z e.2.1<=Z x/\(G (p+Z e.2.1) e.2.2.2).isSome=U)(B:(es.filter (chp G p o)).head? = Y e) :
  Cn D (n+2) 16 [.lst (es.map fB),.int (p:T),.lst L',vD o]=Y (fB e,J):=by
 refine fG W (AR ?_);refine yy (qJ (chp G p o) W y xI λe m=>⟨J,km (MK h (g e m).2.1 (g e m).1 (g e m).2.2) W (aal _ _)⟩) W ?_;exact lN (by rw[aS,<-List.head?_eq_getElem?,B];rfl)
def pin(G:Km)(p:T)(s:aV):Prop:=∃k,G p s=Y (Y k)
structure Wr(E:O Ed)(x:O T)(G:Km)(S:O Ed)(p:T)(s:aV):Prop where
 hc:Ch uO S s
 he:∀e∈S,e∈E
 hp:p<=Z x
 ht:txO S=x.take p
 hf:pin G p s
 hs:s∈jx
 hl:Z S<=2 * p+1/\(s≠rG->Z S<=2 * p)
abbrev Ld(t:Tb)(x:O T)(E:O Ed)(L':O Dat)(S:O Ed)(p:T)(s:aV)(z:g_):dN:=[Y (tb t,J),Y (sT x,J),Y (mX E,U),Y (.lst L',U),Y (.lst (S.map fB),U),Y (.int (p:T),J),Y (.str s,J),z]
def Wx(g:gE E)(c3:Z x<=1000)(O':CT L' x.length G)(hk:Kn E x (λq s=>q<=Z x/\s∈jx) G)(h:Wr E x G S p s)(R:p<Z x):∃e e0,e9 (Cn D (n+2)) wB (Ld t x E L' S p s z)=Y (.nx (Ld t x E L' (S++[e]) (p+Z e.2.1) e.2.2.2 e0))/\Wr E x G (S++[e]) (p+Z e.2.1) e.2.2.2/\(e.2.1=[]->s=qL/\e.2.2.2=rG):=by
 refine ac λ_ M=>?_;obtain⟨e,o,ho,I,K,X,a,y⟩:∃e o,G p s=Y o/\(((D7 E s).filter _).filter _).head? = Y e/\e∈E/\e.1=s/\e.2.1 <+: x.drop p/\pin G _ _:=(by
  obtain⟨k,a⟩:=h.hf
  rcases hk.w _ _ _ a with q|⟨e,K,N,h2,Q⟩
  .simp_all
  have d:e∈((D7 E s).filter _).filter (chp G p _):=bI.mpr ⟨bI.mpr ⟨bI.mpr ⟨K,by simpa using N⟩,h2⟩,c0 Q⟩
  cases I:((D7 E s).filter _).filter (chp G p _)with
  |nil=>rw[I]at d;cases d
  |cons f r=>
    have h5:f∈((D7 E s).filter (pre x p)).filter (chp G p (Y k)):=by rw[I];exact jB
    refine ac λ_ b=>?_;obtain⟨h8,i⟩:=bI.mp (bI.mp h5).1;obtain⟨j,l,_⟩:=dY (c8 (bI.mp h5).2);apply b;exact⟨f,_,a,by rw[I];rfl,(bI.mp h8).1,by simpa using (bI.mp h8).2,c8 i,j,Option.join_eq_some_iff.mp l⟩);apply M;have hlen:=a.length_le;rw[jW]at hlen;have i:=g.n e K;have b:=FF (n:=n+1) (es:=D7 E s) (aK R) (aa (dv _ _) (aa g.l cV))
 have c:=RJ (n:=n) O' (aa (dv _ _) (aa (dv _ _) (aa g.l cV))) (λf V=>by
  obtain⟨N,h2⟩:=bI.mp V;obtain⟨Q,_⟩:=bI.mp N;have:=qD (aK R) h2
  exact⟨g.t f Q,this,(hk.d _ _).mp ⟨this,g.o f Q⟩⟩) I
 have A:Wr E x G (S++[e]) (p+Z e.2.1) e.2.2.2:=by
  refine⟨Pt h.hc X,λf V=>?_,nZ (ad (aK R)) hlen,?_,y,g.o e K,?_⟩
  .rcases aH.mp V with q|q
   .exact h.he f q
   simp_all
  .show(S++[e]).flatMap _=_;rw[iS,uW,vQ,aW,show(S.flatMap _)=x.take p from h.ht,List.take_add]
   congr 1
   exact pJ.mp a
  .rw[aL];show Z S+1<=_/\(_->Z S+1<=_)
   obtain⟨F,B⟩:=h.hl;by_cases q:e.2.1=[]
   .obtain⟨w,H⟩:=i q;rw[X]at w;have:=B (by rw[w];decide)
    simp_all
   .have :=fu.mpr q
    grind
 refine⟨e,Y (fB e,J),?_,A,λq=>⟨X▸(i q).1,(i q).2⟩⟩;have hl:=h.hl.1;generalize Cn D (n+2)=C at b c ⊢;have d1:xF (mX E) (.str s)=Y (.lst _):=Be h.hs;refine ac λ_ M=>?_;obtain⟨ks,d2,d3⟩:=Aa O' (aK R)
 have j:bA C (.call 11 [(.ix (.v 2) (.v 6)),(.v 1),(.v 5)]) (full (Ld t x E L' S p s z))=Y (.lst (((D7 E s).filter (pre x p)).map fB),U):=by
  rwa[lM,df,yy W rfl d1]
 have m:bA C (.call 16 [(.call 11 [(.ix (.v 2) (.v 6)),(.v 1),(.v 5)]),(.v 5),(.v 3),(.ix (.ix (.v 3) (.v 5)) (.v 6))]) (full (Ld t x E L' S p s z))=Y (fB e,J):=by
  rwa[lM,df,j,df,df,df,(yy (yy W rfl d2) W (Tr d3 ho))]
 have u:Go C wB (Ld t x E L' S p s z) λo=>o=.nx (Ld t x E L' (S++[e]) (p+Z e.2.1) e.2.2.2 (Y (fB e,J))):=by
  refine dT (ie m (xI e)) (xM (P:=(·= fB e)) ⟨fB e,J,W,xI e,W⟩ W (by grind) λd hd=>?_);rw[hd,show S.map fB++[fB e]=(S++[e]).map fB by simp];exact dT (ie (iT W (lG W (len_T (aa (g.t e K) cV))) W) W) (dT (ie W rfl) (cP W))
 obtain⟨_,N,rfl⟩:=u;apply M;exact N
theorem VE(g:gE E)(B:Z x<=1000)(P:CT L' x.length G)(I:Kn E x (λq s=>q<=Z x/\s∈jx) G):∀(m fuel:T)(S:O Ed)(p:T)(s:aV)(z:g_),Wr E x G S p s->2 * (Z x - p)+(if s=qL then 1 else 0)<=m->m<fuel->∃y F O',Cg (Lu (Cn D (n+2))) (e9 (Cn D (n+2)) wB) fuel (Ld t x E L' S p s z)=Y (.nx (Ld t x E L' y x.length F O'))/\Wr E x G y x.length F
 |m,0,S,p,s,z,h,a,r=>absurd r (yJ _)
 |m,fuel+1,S,p,s,z,h,a,r=>by
   have b :=len_T (aa B (by decide))
   have w:Lu (Cn D (n+2)) (Ld t x E L' S p s z)=Y (decide (p<Z x)):=by
    generalize Cn D (n+2)=C;have:bA C (.cmp .lt (.v 5) (.blt .len [(.v 1)])) (full (Ld t x E L' S p s z))=Y (.bl (decide (p<Z x)),J):=km W (lG W b) (by show Y (decide ((p:cx)<(x.length)))=_;simp);unfold Lu;rw[this];rfl
   unfold Cg;rw[w];by_cases o:p<Z x
   .rw[c0 o];refine ac λ_ M=>?_;obtain⟨e,O',A,u,H⟩:=Wx g B P I h o;have f:=u.hp
    obtain⟨c,d⟩:∃c,m=c+1:=⟨m - 1,(ue (aa (Nat.mul_pos (Nat.succ_pos 1) (Nat.sub_pos_of_lt o)) (aa (be _ _) a))).symm⟩
    subst d
    obtain⟨y,F,i,j,K⟩:=VE g B P I c fuel (S++[e]) (p+Z e.2.1) e.2.2.2 O' u (by
     by_cases q:e.2.1=[]
     .obtain⟨k,l⟩:=H q;rw[cb k]at a;rw[q,l];exact bb a
     .have :=fu.mpr q
      split<;>omega) (bb r)
    apply M;refine⟨y,F,i,?_,K⟩;rw[A];exact j
   .rw[c6 o];have :=aI h.hp (cB o);subst this;exact⟨S,s,z,W,h⟩
def OV(h:bA C (.call j es) (full ρ)=Y d):og C (.VQ j es) ρ=Y (.nx ρ):=by
 show(match bA C _ (full ρ)with|some _=>Y _|none=>_)=_;rw[h]
def uZ(w:wT t)(c3:JY (got t)=E.map fB)(g:gE E)(e0:∀e,e∈E↔e∈got t)(ok:∀e∈E,Vx e)(O':∀c∈x,c∈raw t)(P:Z x<=1000):∃S s b,Cn D (n+5) 18 [tb t,sT x]=Y (.tup [tI (um S),.lst (S.map fB)],b)/\(∀e∈S,e∈E)/\Ch uO S s/\s∈uP/\txO S=x/\Z (um S)<=6 * (2 * Z x+1):=by
 have i:=zB (n:=n+1) w.ok O' P;have j:=MR (n:=n+1) (by rw[zA w.ok (Bh w.ok),c3]) g.l g.b;refine ac λ_ M=>?_;obtain⟨L',G,m,F,K⟩:=zz g P;have q:=K.f 0 uO ⟨aU _,by decide⟩ (Ju w e0 O' _ 0 (fj _)).o;obtain⟨S,s,A,B,a⟩:=VE (t:=t) g P F K (2 * Z x+1) o5 [] 0 uO L ⟨W,(λ_ h=>nomatch h),aU _,W,q,cV,by simp⟩ (by split<;>simp) (by unfold o5;exact nZ P P)
 have r:Z (um S)<=6 * (2 * Z x+1):=by
  have H:Z (um S)<=6 * Z S:=oE λe N=>(ok e (a.he e N)).k;have:=a.hl.1;exact nZ H (Nat.mul_le_mul_left 6 this)
 obtain⟨u,y⟩:∃b,Cn D ((n + 3)+1) 17 [.lst (S.map fB)]=Y (tI _,b):=by
  suffices h:Go (Cn D _) _ [Y (.lst _,J),L,L] λo=>∃b,o=.rt (tI (um S)) b by
   obtain⟨_,H,b,rfl⟩:=h;exact⟨b,fG W H⟩
  refine eZ W (lV (I:=λQ R=>∃z,R=[Y (.lst (S.map fB),J),Y (.lst ((um Q).map Dat.int),U),z]) (by rfl) ⟨L,W⟩ ?_ ?_)
  .rintro Q e X _ a ⟨z,rfl⟩
   have H:Z (um Q)+Z e.2.2.1<=100000:=by
    grind
   refine⟨_,W,dT (xu (ds:=[tI e.2.2.1]) W ?_ (cb (qG (by rw[aE,aE];exact aa H cV)))) (cP ⟨_,W,Y (fB e,J),?_⟩)⟩
   .show Y ([tI _],(J || im (tI _)) && U)=_;rw[rS];rfl
   simp
  .rintro _ ⟨z,rfl⟩;exact iN W ⟨_,W⟩
 apply M;suffices h:Go (Cn D _) _ [Y _,Y _,L,L,L,L,L,L] λo=>∃b,o=.rt (.tup [tI (um S),.lst (S.map fB)]) b by
  obtain⟨_,H,b,rfl⟩:=h;exact⟨S,s,b,fG W H,a.he,a.hc,by
   obtain⟨k,a.hf⟩:=a.hf
   rcases K.w _ _ _ a.hf with q|⟨e,N,rfl,b,_⟩
   .exact q.2
   .have c:=c8 b;rw[vR]at c;rw[(g.n e N (List.prefix_nil.mp c)).1];decide,by rw[a.ht,vO],r⟩
 generalize Cn D (n+4)=C at i j m y B ⊢;refine dT (OV (d:=(.non,J)) i) (dT (Hv j W) (dT (MC m) (eZ W (dT (ie W rfl) (dT (ie W rfl) (dT (by rwa[Wd]) ?_))))));have z:bA C (.call 17 [.v 4]) (full (Ld t x E L' S x.length s A))=Y (tI _,u):=y
 exact iN (by
  show bV (pT C [.call 17 _,.v 4] (full (Ld t x E L' S _ s A))) _=_;rw[dZ,z]
  rfl) ⟨_,W⟩
end
end K32E
namespace K32E
open L2 M K32
noncomputable abbrev xS(p:T):Dat:=.exc 139 (ae "place") (.inl ((p:T):cx))
def Td(y:g d ρ=Y ρ1)(h:body ρ1=Y (.xc c f k)):jS g body (d::ds) ρ=Y (.xc c f k):=by
 simp only[jS,y,bS,h];rfl
theorem lpx(g:c∉s):∀(y:O T)(k:T)(O' B:g_),(∀d∈y,d∈s)->jS (iU J [3,4]) (e9 C Oc) (qT k (c1 (y++c::r))) [Y (a,J),Y (b,J),Y (sT s,J),O',B]=Y (.xc 139 (ae "place") (.inl ((k+Z y:T):cx)))
 |[],k,O',B,_=>by
   apply Td (ρ1:=[Y _,Y _,Y _,Y (.int _,J),Y (sT _,J)]) W;show e9 C Oc _=_;rw[qq,IH (km W rfl (by rw[NQ,c6 g];rfl)) W,qq];rfl
 |d::y,k,O',B,h=>by
   refine(Bc (ρ1:=[Y _,Y _,Y _,Y (.int _,J),Y (sT _,J)]) W ?_).trans ((lpx (C:=C) (a:=a) (b:=b) (r:=r) g y (k+1) (Y (.int (k),J)) (Y (sT [d],J)) λd e=>h d (jU _ e)).trans (by rw[bG,ki,vp 1]));exact AY (by rw[Dy (km W rfl (by rw[NQ,c0 (h d jB)];rfl)) W];rfl)
def Gw{ds:O Dat}(h:Z ds=np)(O':e9 C body (ds.map (λd=>Y (d,J))++bH (nl - np) L)=Y (.xc c f k)):KS C np nl body ds=L/\KR C np nl body ds=Y (.exc c f k,U):=by
 unfold KS KR;rw[cb h,cb h,O'];exact⟨W,W⟩
def wU(g:NA t)(O':∀d∈y,d∈raw t)(B:c∉raw t)(F:Z (y++c::r)<=1000):Cn D (n+3) 10 [tb t,sT (y++c::r)]=L/\Cn D (n+3) (10+vt) [tb t,sT (y++c::r)]=Y (xS y.length,U):=by
 obtain⟨s,q,e⟩:=zy g
 suffices h:e9 (Cn D _) _ [Y _,Y (sT _,J),L,L,L]=Y (.xc _ (ae _) (.inl _))from Gw (np:=2) (nl:=5) W h
 have h:=lpx (C:=Cn D (n+2)) (a:=tb t) (b:=sT (y++c::r)) (s:=s) (c:=c) (r:=r) (λz=>B ((e c).mp z)) y 0 L L λd f=>(e d).mpr (O' d f);generalize Cn D _=C at q h ⊢;have s1:og C (.set 2 (.call 1 [.v 0])) [Y (tb t,J),Y (sT (y++c::r),J),L,L,L]=Y (.nx [Y _,Y (sT _,J),Y _,L,L]):=ie q W;show e9 C (.set 2 (.call 1 _)::.loop J _ (.enu _) Oc::[]) [Y _,Y (sT _,J),L,L,L]=_;rwa[lL s1,qq,<-fj y.length]
def OU(h:bA C (.call j es) (full ρ)=L)(g:bA C (.call (j+vt) es) (full ρ)=Y (.exc c f k,b)):og C (.VQ j es) ρ=Y (.xc c f k):=by
 show(match bA C _ (full ρ)with|some _=>Y _|none=>(bA C (.call _ es) _).bind λx=>IS _)=_;rw[h,g];rfl
def Jg(h:og C s ρ=Y (.xc c f k)):e9 C (s::ss) ρ=Y (.xc c f k):=by
 show(og C s ρ).bind _=_;rw[h];rfl
def CI(g:NA t)(O':∀d∈y,d∈raw t)(B:c∉raw t)(C:Z (y++c::r)<=1000):Cn D (n+4) 15 [tb t,sT (y++c::r)]=L/\Cn D (n+4) (15+vt) [tb t,sT (y++c::r)]=Y (xS y.length,U):=by
 obtain⟨a,b⟩:=wU (n:=n) g O' B C
 suffices h:e9 (Cn D _) _ [Y _,Y (sT _,J),L,L,L]=Y (.xc _ (ae _) (.inl _))from Gw (np:=2) (nl:=5) W h
 exact Jg (OU ((oF W rfl).trans a) ((oF W rfl).trans b))
def FD(R:NA t)(O':Cn D (n+3) 9 [tb t]=Y (mX E,U))(g:gE E)(c3:∀c∈x,c∈raw t)(P:Z x<=1000):∃L' f,Cn D (n+4) 15 [tb t,sT x]=Y (.lst L',f)/\Z L'=Z x+1:=by
 have k:=zB (n:=n) R c3 P;obtain⟨L',G,p,j,N⟩:=zz (n:=n) g P
 suffices h:Go (Cn D _) _ [Y _,Y _,L,L,L] λo=>∃L' b,o=.rt (.lst L') b/\Z L'=Z x+1 by
  refine ac λ_ kq=>?_;obtain⟨_,B,L',b,rfl,F⟩:=h;apply kq;exact⟨L',b,fG W B,F⟩
 generalize Cn D _=C at *;apply dT (OV (d:=(.non,J)) ((oF W rfl).trans k));refine dT (MC ((oF ((rq W).trans O') W).trans p)) (eZ W ?_)
 have Q:∀d∈L',∃H g,d=dD H g/\Rw (α:=a5 _) H g/\∀s∈jx,∃v,g s=Y v:=λd m=>by
  obtain⟨q,A,rfl⟩:=cF.mp m;have a:q<=Z x:=by have:=j.l;exact bb (aa A (af this))
  obtain⟨H,B,F⟩:=j.r q a;rw[ag A]at B;exact⟨H,_,bh B,F,λs m=>iw.mp ((N.d q s).mp ⟨a,m⟩)⟩
 refine lV (V:=id) (xs:=L') (I:=λK S=>∃M z,S=[Y _,Y _,Y (.lst L',J),Y (.lst M,U),z]/\Z M=Z K) (by rw[uK,G8];rfl) ⟨[],L,W,W⟩ ?_ ?_
 .rintro K d X _ y ⟨M,z,rfl,u⟩;have w:=c7 iD y;rw[j.l,aL,bG]at w;obtain⟨H,g,rfl,B,F⟩:=Q d (y▸aB _ jB);refine⟨_,W,dT (xu W (ds:=[.lst (jx.map λs=>(g s).elim .non VD.v)]) ?_ (uC (rP (af u) (af w.symm) P))) (cP ⟨_,W,_,_,W,by simp[u]⟩)⟩;rw[dZ,tP (xs:=jx) (e:=Dat.str) (g:=λs=>(g s).elim _ _) W (by decide) (λs m=>?_) (λs m=>?_)]
  .rfl
  .obtain⟨v,e⟩:=F s m;rw[e];exact VD.i v
  .obtain⟨v,e⟩:=F s m;refine⟨_,yy W rfl ?_⟩;rw[e];exact Tr B e
 .rintro _ ⟨M,z,rfl,u⟩;exact⟨_,W,_,_,W,u.trans j.l⟩
theorem x8{α:Type}{g:α->cc}:∀xs:O α,x9 (xs.map λx=>Dat.bl (g x))=Y (xs.map g)
 |[]=>rfl
 |x::xs=>by simp only[az,x9,x8 xs,cT]
section
end
section
variable{E:O Ed}{x:O T}{r:O cx}{G:T->Row}
abbrev Snd(E:O Ed)(x:O T)(r:O cx)(G:T->Row):Prop:=∀p s m q,G p s=Y m->m.testBit q=U->Wl E x r p q s
abbrev By(r:O cx)(G:T->Row)(p:T)(s:aV)(e:Ed):Prop:=∀m q,G p s=Y m->m.testBit q=U->CU r q e=U->∃a,G (p+Z e.2.1) e.2.2.2=Y a/\a.testBit (q+Z e.2.2.1)=U
noncomputable abbrev Sy(G:T->Row)(p:T)(e:Ed)(m pl:T):T:=((G (p+Z e.2.1) e.2.2.2).getD 0) ||| ((m &&& pl) <<< Z e.2.2.1)
def Hd(h:Ax G p s v g y=Y m):(g=p/\y=s/\m=v)\/(¬(g=p/\y=s)/\G g y=Y m):=by
 by_cases c:g=p
 .subst c;rw[Hc]at h
  grind
 .rw[LX c]at h;exact .inr ⟨λz=>c z.1,h⟩
def sV:Ax G p s v p s=Y v:=by rw[Hc];exact cb W
def sW(h:¬(g=p/\y=s)):Ax G p s v g y=G g y:=by
 by_cases c:g=p
 .subst c;rw[Hc];exact cv λd=>h ⟨W,d⟩
 .exact congrFun (LX c) _
variable{pl:T}
def Jn{s0:aV}(B:¬(g=p+Z e.2.1/\s0=e.2.2.2))(h:By r G g s0 d):By r (Ax G (p+Z e.2.1) e.2.2.2 (Sy G p e m pl)) g s0 d:=λf q b i j=>by
 rw[sW B]at b;obtain⟨a,c1,c2⟩:=h f q b i j;by_cases c:g+Z d.2.1=p+Z e.2.1/\d.2.2.2=e.2.2.2
 .rw[c.1,c.2]at c1 ⊢;exact⟨_,sV,by simp_all⟩
 .exact⟨a,(sW c).trans c1,c2⟩
def Wc(hi:∃m,G 0 uO=Y m/\m.testBit 0=U)(h:∀p s,p<=Z x->s∈jx->∀e∈E,e.1=s->pre x p e=U->By r G p s e)(g:∀e∈E,e.1∈jx)(w:Wl E x r p q s):∃m,G p s=Y m/\m.testBit q=U:=by
 induction w with
 |z=>exact hi
 |s w b c d a=>
   obtain⟨m,c1,c2⟩:=a;exact h _ _ w.le.1 (g _ b) _ b W c m _ c1 c2 d
end
section
end
def GS(a b:T):hJ .band (.int (a:T)) (.int (b:T))=Y (.int ((a &&& b:T):cx),J):=rfl
def V2(a b:T):hJ .bor (.int (a:T)) (.int (b:T))=Y (.int ((a ||| b:T):cx),J):=c7 (λi=>Y (Dat.int i,J)) (by
 have h:∀n:T,iM (n)=yu n:=λn=>by unfold iM;grind
 have c:∀n:T,iM (yu n)=(n):=λn=>by unfold iM;simp
 unfold qU;rw[h,h];show iM (iM _)=_
 simp_all)
def Vn(ha:a<2 ^ 2000)(g:k<=1000000):hJ .shl (.int (a:T)) (.int (k:T))=Y (.int ((a <<< k:T):cx),J):=by
 refine(cb (⟨fY _,fQ.mpr g,ha⟩)).trans (c7 _ ?_);rw[Nat.shiftLeft_eq];simp
def Vm(a k:T):hJ .shr (.int (a:T)) (.int (k:T))=Y (.int ((a >>> k:T):cx),J):=by
 have h:hJ .shr (.int (a)) (.int (k))=if(0)<=((k))then Y (.int _,J)else L:=rfl
 rw[h,Nat.shiftRight_eq_div_pow];rfl
abbrev dF(y:O Key)(g:Key->a5 T):Dat:=.dct y (y.map λk=>vD (g k))
structure Fk(ks:O Key)(g:Key->a5 T):Prop where
 nd:ks.Nodup
 mem:∀k,k∈ks↔∃v,g k=Y v
noncomputable abbrev upK(g:Key->a5 T)(k:Key)(v:T):Key->a5 T:=λj=>if j=k then Y v else g j
theorem Bd{g:Key->a5 T}{k:Key}:∀y:O Key,(k∈y->ig k y (y.map λk=>vD (g k))=Y (vD (g k)))/\(k∉y->ig k y (y.map λk=>vD (g k))=L)
 |[]=>⟨(λh=>nomatch h),λ_=>W⟩
 |a::r=>by
   show(_->(if a=k then Y (vD _)else ig k r (r.map λk=>vD _))=_)/\(_->(if a=k then Y (vD _)else ig k r (r.map λk=>vD _))=_)
   by_cases q:a=k
   .subst q;simp
   .rw[cv q];exact⟨λm=>(Bd r).1 ((ak.mp m).elim (λz=>absurd z.symm q) id),λh=>(Bd r).2 λm=>h (jU _ m)⟩
def YC(h:Fk y g)(k:Key):ig k y (y.map λk=>vD (g k))=(g k).map λv=>.int (v:T):=by
 by_cases m:k∈y
 .obtain⟨v,a⟩:=(h.mem k).mp m;rw[(Bd y).1 m,a];rfl
 .rw[(Bd y).2 m]
  cases q:g k with
  |none=>rfl
  |some v=>exact absurd ((h.mem k).mpr ⟨v,q⟩) m
def ON(h:Fk y g):je .get (dF y g) [.int c,.int (v:T)]=Y (.int ((g (.inl c)).getD v:T),J):=by
 show Y ((ig _ y (y.map λk=>vD _)).getD (.int _),J)=_;rw[YC h];simp
theorem Vt:∀{y:O Key},y.Nodup->∃O',putD k (.int (v:T)) y (y.map λk=>vD (g k))=(O',O'.map λj=>vD (upK g k v j))/\xp k y=U/\O'.Nodup/\(∀j,j∈O'↔j∈y\/j=k)/\Z O'<=Z y+1
 |[],_=>⟨_,by show([k],[Dat.int _])=([k],[vD (if k=k then Y v else g k)]);rw[cb W];rfl,W,by simp,by simp,ao _⟩
 |a::l,h=>by
   obtain⟨c,d⟩:=a6.mp h;by_cases q:a=k
   .subst q
    have e :=dS λr m=>by
     show vD (g r)=vD (if r=a then Y v else g r);rw[cv λz:r=a=>c (z▸m)]
    refine⟨_,?_,?_,h,λr=>⟨.inl,λz=>z.elim id λz=>z▸jB⟩,oR _⟩
    .show(if a=a then(a::l,Dat.int _::l.map λr=>vD _)else _)=(_,vD (if a=a then Y v else g a)::_)
     rw[cb W,cb W,e];rfl
    .show(if a=a then !(l.any λi=>decide _)else _)=U
     grind
   .refine ac λ_ p=>?_;obtain⟨O',f,n,o,b,e5⟩:=Vt d;apply p;refine⟨a::O',?_,?_,a6.mpr ⟨λm=>?_,o⟩,λr=>?_,bf e5⟩
    .show(if a=k then _ else(a::(putD k (.int _) l (l.map λk=>vD _)).1,vD _::(putD k (.int _) l (l.map λk=>vD _)).2))=(_,vD (if a=k then Y v else g a)::_)
     rw[cv q,cv q,f]
    .show(if a=k then _ else xp k l)=U;rw[cv q,n]
    .simp_all
    .rw[ak,ak,b,or_assoc]
def abm(h:Fk y g)(C:Z y<=2000)(c:cx)(v:T):∃B,kP .seti (dF y g) [.int (v:T),.int c]=Y (dF B (upK g (.inl c) v))/\Fk B (upK g (.inl c) v)/\Z B<=Z y+1:=by
 refine ac λ_ b=>?_;obtain⟨B,d,e,f,a,e5⟩:=Vt h.nd;refine b ?_;refine⟨B,?_,⟨f,λr=>?_⟩,e5⟩
 .show(if Z y<aF/\xp _ y=U then Y (Dat.dct (putD _ (.int _) y (y.map λk=>vD _)).1 (putD _ (.int _) y (y.map λk=>vD _)).2)else L)=_;rw[cb ⟨by exact aA C (by decide),e⟩,d]
 .rw[a];show _↔∃k,(if r=.inl c then Y v else g r)=Y k;by_cases q:r=.inl c
  .simp[q]
  .rw[h.mem];simp[q]
theorem Bt{α:Type}{f:α->Dat}:∀(r:O α)(k:T),qT k (r.map f)=(r.zipIdx k).map λz=>.tup [.int (z.2:T),f z.1]
 |[],_=>rfl
 |a::r,k=>by rw[az,qT,Bt r _];rfl
def LP{α:Type}{r:O α}{g y:O (α×T)}{z:α×T}(h:r.zipIdx=g++z::y):z.2=Z g/\g.map (·.1)=r.take (Z g)/\r[g.length]?=Y z.1/\Z g<Z r:=by
 have c:(r.zipIdx)[g.length]?=Y z:=by rw[h,aG (ao _),jl];rfl
 rw[List.getElem?_zipIdx]at c;obtain⟨a,d,rfl⟩:=dY c;have b:=c7 (λl=>(l.take g.length).map (·.1)) h;simp only[nJ]at b;rw[BV,sy]at b;exact⟨fj _,b.symm,d,(aM.mp d).1⟩
section
variable{r:O cx}{g:Key->a5 T}
abbrev Fr(r:O cx)(g:Key->a5 T):Prop:=∀c q,((g (.inl c)).getD 0).testBit q=decide (r[q]?=Y c)
def lb9:O Sx:=[(.mut .seti 1 [(.bin .bor (.iH .get (.v 1) [(.v 3),(.e_ 0)]) (.bin .shl (.e_ 1) (.v 2))),(.v 3)])]
def Xr(O':Z r<=1000):∃y g,Cn D (n+1) 19 [tI r]=Y (dF y g,U)/\Fk y g/\Fr r g:=by
 suffices h:Go _ _ [Y _,L,L,L] λo=>∃y g,o=.rt (dF y g) U/\Fk y g/\Fr r g by
  refine ac λ_ v=>?_;obtain⟨_,E,y,g,rfl,x⟩:=h;apply v;exact⟨y,g,fG W E,x⟩
 generalize Cn D n=C;apply dT (Hv W rfl);refine lV (V:=λz:cx×T=>.tup [.int (z.2),.int z.1]) (xs:=r.zipIdx) (I:=λt F=>∃y g e f,F=[Y (tI r,J),Y (dF y g,U),e,f]/\Fk y g/\Z y<=Z t/\Fr (t.map (·.1)) g) ?_ ⟨[],λ_=>L,L,L,W,⟨eE,λk=>by simp⟩,ao _,λc q=>by simp⟩ ?_ ?_
 .show jS _ _ (qT 0 (r.map _)) _=_;rw[Bt];rfl
 .rintro t ⟨c,i⟩ P _ s ⟨y,g,e,f,rfl,w,A,u⟩;obtain⟨rfl,Q,R,l⟩:=LP s;refine⟨_,W,?_⟩;show Go C _ [Y _,Y _,Y (.int (t.length),J),Y (.int c,J)] _
  obtain⟨j,H,K,N⟩:=abm w (rP A l O') c ((g _).getD 0 ||| (1 <<< Z t));refine dT (xu W (by rw[dZ,(iT (Ks W rfl rfl (ON w)) (iT W rfl (Vn (Nat.one_lt_two_pow (by decide)) (aK (aa l (aa O' (by decide)))))) (V2 _ _))];rfl) H) (cP ⟨_,W,j,_,_,_,W,K,by rw[aL];exact aa N (bf A),λd q=>?_⟩);rw[fX];show((if(yZ d)=.inl c then Y _ else g _).getD 0).testBit q=_;have a:Z (t.map (·.1))=Z t:=aE _;by_cases B:d=c
  .subst B;rw[cb W,lK,Nat.testBit_or,u,Nat.one_shiftLeft,Lh];by_cases b:q<Z t
   .rw[aO (by rwa[a]),c6 (jm b),Bool.or_false]
   .rw[aG (by rw[a];simp_all),gY (by rw[a];simp_all),a];by_cases x:Z t=q
    .subst x;simp
    rw[c6 x,gY (Nat.sub_pos_of_lt (bD (cB b) x))];rfl
  .rw[cv (λz=>B (uR z)),u];by_cases b:q<Z t
   .rw[aO (by rwa[a])]
   .rw[aG (by rw[a];simp_all),gY (by rw[a];simp_all)];refine decide_eq_decide.mpr ⟨(λz=>nomatch z),λz=>?_⟩
    cases p:q - (Z (t.map _)) with
    |zero=>rw[p]at z;exact absurd (bh z).symm B
    |succ m=>rw[p]at z;cases z
 .rintro _ ⟨y,g,e,f,rfl,w,A,u⟩;rw[sy]at u;exact⟨_,W,y,g,W,w,u⟩
def Na:(a++[c]) <+: l↔a <+: l/\l[a.length]?=Y c:=by
 constructor
 .rintro⟨t,rfl⟩;simp
 .rintro⟨⟨t,rfl⟩,h⟩;rw[aG (ao _),jl]at h
  cases t with
  |nil=>cases h
  |cons d t=>simp_all
def Xp(y:Fk B g)(C:Fr r g)(F:cs≠[]):∃pl:T,Cn D (n+1) 20 [tI cs,dF B g]=Y (.int (pl:T),J)/\∀q,pl.testBit q=decide (cs <+: r.drop q):=by
 suffices h:Go _ _ [Y _,Y _,L,L,L] λo=>∃pl:T,o=.rt (.int (pl)) J/\∀q,pl.testBit q=decide (cs <+: r.drop q) by
  obtain⟨_,u,pl,rfl,w⟩:=h;exact⟨pl,fG W u,w⟩
 obtain⟨b,a⟩:∃b,cs[0]?=Y b:=⟨_,ag (fu.mpr F)⟩
 refine dT (ie (Ks W (yy W rfl (lN (by rw[aS,a];rfl))) W (ON y)) W) ?_;refine lV (V:=λz:cx×T=>.tup [.int (z.2),.int z.1]) (xs:=cs.zipIdx) (ρ0:=[Y (tI cs,J),Y (dF B g,J),Y (.int ((g (.inl b)).getD 0),J),L,L]) (I:=λp x=>∃(m:T) (d e:g_),x=[Y _,Y _,Y (.int (m),J),d,e]/\∀q,m.testBit q=(decide (r[q]?=Y b) && decide (p.map (·.1) <+: r.drop q))) ?_ ⟨_,L,L,W,λq=>by rw[C];simp⟩ ?_ ?_
 .show jS _ _ (qT 0 (cs.map _)) _=_;rw[Bt];rfl
 .rintro p ⟨c,i⟩ E _ j ⟨m,d,e,rfl,f⟩;obtain⟨rfl,H,K,k⟩:=LP j;refine⟨_,W,?_⟩;refine dT (ie (iT W (iT (Ks W rfl rfl (ON y)) W (Vm _ _)) (GS _ _)) W) (cP ⟨_,W,_,_,_,W,λq=>?_⟩);rw[Vc,f,Nat.testBit_shiftRight,C,fX,zk]
  congr 1
  rw[<-QM];refine decide_eq_decide.mpr (Iff.trans ?_ Na.symm);rw[aE,ku,vp]
 .rintro _ ⟨m,d,e,rfl,f⟩;refine⟨_,W,m,W,λq=>?_⟩;rw[f,sy,<-QM];refine decide_eq_decide.mpr ⟨λz=>z.2,λz=>⟨?_,z⟩⟩;obtain⟨t,A⟩:=z;have:=c7 (λl=>l[0]?) A;simp only[ku,Nat.add_zero]at this;rw[<-this,aO (fu.mpr F),a]
end
section
variable{x:O T}{G:T->Row}
def Pf(h:CT L' n G)(g:p<=n)(hs:s∈jx):∃d y,L'[p]?=Y d/\yQ L'.length ((p:T):cx)=Y p/\kP .seti d [.int (v:T),.str s]=Y y/\CT (L'.set p y) n (Ax G p s v):=by
 obtain⟨i,b,c⟩:=h.r p g;obtain⟨a,b3,b2⟩:=VB c hs v;refine⟨_,_,b,?_,b3,by rw[QH];exact h.l,λq f=>?_⟩
 .unfold yQ;rw[cb (fY _),cb (by rw[h.l];exact vq.mpr (bf g))];simp
 .by_cases e:q=p
  .subst e;rw[fh (by rw[h.l];exact bf g),Hc];exact⟨a,W,b2⟩
  .rw[dc (dn e),LX e];exact h.r q f
def ab3:Cn D (k+1) (21+yP) ds=exL (Cn D k) 4 6 b21 ds:=rfl
end
section
variable{E:O Ed}{x:O T}{r:O cx}{ks:O Key}{g:Key->a5 T}{L':O Dat}{G:T->Row}{p m pl:T}{s:aV}{e:Ed}{P:T->aV->Prop}
structure Ib(E:O Ed)(x:O T)(r:O cx)(P:T->aV->Prop)(G:T->Row):Prop where
 s:Snd E x r G
 z:∃m,G 0 uO=Y m/\m.testBit 0=U
 c:∀e∈E,∀p,P p e.1->pre x p e=U->By r G p e.1 e
def TH(h:Ib E x r P G)(y:e∈E)(C:pre x p e=U)(F:G p e.1=Y m)(B:∀q,pl.testBit q=CU r q e)(O':¬P (p+Z e.2.1) e.2.2.2):Ib E x r P (Ax G (p+Z e.2.1) e.2.2.2 (Sy G p e m pl)):=by
 refine⟨λb o a q i f=>by
  rcases Hd i with⟨rfl,rfl,rfl⟩|⟨_,i⟩
  .rcases (show (∃B,G (p+Z e.2.1) e.2.2.2=Y B/\B.testBit q=U)\/∃k,q=k+Z e.2.2.1/\m.testBit k=U/\pl.testBit k=U by
    rw[Nat.testBit_or,kj]at f
    rcases f with f|f
    .cases c:G _ _ with
     |none=>rw[c]at f;simp at f
     |some B=>rw[c]at f;exact .inl ⟨B,rfl,f⟩
    .rw[Nat.testBit_shiftLeft,ah,Vc,ah]at f;exact .inr ⟨_,by simp_all,f.2⟩) with⟨a,c1,c2⟩|⟨k,rfl,c1,c2⟩
   .exact h.s _ _ _ _ c1 c2
   .exact .s (h.s _ _ _ _ F c1) y C ((B k).symm.trans c2)
  .exact h.s _ _ _ _ i f,?_,λd l a j i=>Jn (λz=>O' (z.1▸z.2▸j)) (h.c d l a j i)⟩;obtain⟨n,c1,c2⟩:=h.z;by_cases c:0=p+Z e.2.1/\uO=e.2.2.2
 .rw[c.1,c.2]at c1 ⊢;refine⟨_,sV,?_⟩;rw[<-c.1];grind
 .exact⟨n,(sW c).trans c1,c2⟩
abbrev Pr(p:T)(y:O aV):T->aV->Prop:=λa s0=>a<p\/(a=p/\s0∈y)
def WA(h:jx=us++s::y)(hs:s=qL):rG∉us:=by
 have b:us=jx.take us.length:=by rw[h,nJ]
 have a:∀i<6,jx[i]?=Y qL->rG∉jx.take i:=by decide +kernel
 rw[b];exact a _ (by have:=c7 iD h;simp at this;exact aA (be _ _) (af this.symm)) (by rw[h,aG (ao _),jl,hs];rfl)
variable{t:Tb}
abbrev EB(t:Tb)(E:O Ed)(x:O T)(r:O cx)(ks:O Key)(g:Key->a5 T)(b:cc)(L':O Dat)(O' y B:g_):dN:=[Y (tb t,J),Y (sT x,J),Y (tI r,J),Y (mX E,U),Y (dF ks g,b),Y (.lst L',U),O',y,B,L]
def lbE:O Sx:=[(.lnd (21+yP) 5 [(.v 6),(.v 8),(.v 4)])]
def lbS:O Sx:=[(.ifs (.cmp .ne (.iH .get (.ix (.v 5) (.v 6)) [(.v 7),(.e_ 0)]) (.e_ 0)) [(.loop U [8] (.itv (.call 11 [(.ix (.v 3) (.v 7)),(.v 1),(.v 6)])) lbE)] [])]
end
section
variable{x:O T}{r:O cx}{G:T->Row}
def lbP:O Sx:=[(.loop U [7] (.itv ZV) lbS)]
def RH(ge:gE E)(ok:∀e∈E,Vx e)(c3:Cn D (k+3) 9 [tb t]=Y (mX E,U))(O':Z x<=900)(e0:Z r<=1000):∃b,Cn D (k+4) 22 [tb t,sT x,tI r]=Y (.bl b,J)/\(b=U↔isW E x r):=by
 refine ac λ_ kq=>?_;obtain⟨ks,g,H,hk,hf⟩:=Xr e0
 apply kq;suffices h:Go (Cn D (k+3)) b22 [Y (tb t,J),Y (sT x,J),Y (tI r,J),L,L,L,L,L,L,L] λo=>∃b,o=.rt (.bl b) J/\(b=U↔isW E x r) by
  refine ac λ_ kq=>?_;obtain⟨_,h1,b,rfl,h2⟩:=h;apply kq;exact⟨b,fG W h1,h2⟩
 have j :=len_T (aa O' (by decide));have u:∀s∈jx,Cn D (k+3) 2 [.str s]=Y (.bl (decide (s∈uP)),J):=λs hs=>MN hs
 have c1:bA (Cn D (k+3)) (.cat (.comp 1 U [] (.itv (.v 1)) [] .n6) (.lst [.n6])) [Y (tb t),Y (sT x),Y (tI r),Y (mX E),Y (dF ks g),L,L,L,L,L]=Y (.lst (bH x.length (.dct [] [])++[.dct [] []]),U):=by
  have K:bA (Cn D (k+3)) (.comp 1 U [] (.itv (.v 1)) [] .n6) [Y (tb t),Y (sT x),Y (tI r),Y (mX E),Y (dF ks g),L,L,L,L,L]=Y (.lst (bH x.length (.dct [] [])),U):=by
   refine pz (items:=(T' x).cps.toList.map λc=>Dat.str ⟨#[c]⟩) ?_ (by simp;exact aa O' (by decide)) (by rw[A8];simp)
   first|rfl|simp
  show bV (bA (Cn D (k+3)) (.comp 1 U [] (.itv (.v 1)) [] .n6) [Y (tb t),Y (sT x),Y (tI r),Y (mX E),Y (dF ks g),L,L,L,L,L]) _=_;rw[K];show(if(bH x.length (Dat.dct [] [])).length+1<=aF then _ else L)=_;rw[cb (by rw[gW,eG];exact aA O' (by decide))]
 refine ac λ_ kq=>?_;obtain⟨d,d',m1,m2,m3,J'⟩:=Pf (v:=1) (Pg (α:=T) x.length) (aU _) (s:=uO) (by decide)
 apply kq;have B:Ib E x r (Pr 0 []) (Ax (λ_ _=>L) 0 uO 1):=by
  refine⟨λp s m q h1 h2=>?_,⟨1,sV,by decide⟩,λe he p h0=>by rcases h0 with h0|⟨_,h0⟩<;>cases h0⟩
  rcases Hd h1 with⟨rfl,rfl,rfl⟩|⟨_,h1⟩
  .have:q=0:=by
    have:=Lh (n:=0) (m:=q);simp_all
   rw[this];exact .z
  .cases h1
 have y:∀(p:T)(b:cc)(a f i:g_)(V:O Dat)(G:T->Row),p<=Z x->CT V x.length G->Ib E x r (Pr p []) G->∃ρ1,iU U [6] (.int (p)) (EB t E x r ks g b V a f i)=Y ρ1/\Go (Cn D (k+3)) lbP ρ1 λo=>∃A,o=.nx A/\∃b a f i V G,A=EB t E x r ks g b V a f i/\CT V x.length G/\Ib E x r (Pr (p+1) []) G:=λp b a f i V G hp h hi=>(by
  refine⟨_,W,?_⟩;refine lV (xs:=jx) (I:=λus ρ=>∃b f i V G,ρ=EB t E x r ks g b V (Y (.int (p),J)) f i/\CT V _ G/\Ib E x r (Pr p us) G) (by rfl) ⟨b,f,i,V,G,W,h,hi⟩ ?_ ?_
  .rintro us s vs _ d ⟨b,f,i,V,G,rfl,h,hi⟩;have hs:s∈jx:=by rw[d];simp
   have fin:∀{G:T->Row},Ib E x r (Pr p us) G->(∀e∈E,e.1=s->pre x p e=U->By r G p s e)->Ib E x r (Pr p (us++[s])) G:=λh1 h2=>⟨h1.s,h1.z,λe he A h0 γ=>by
    rcases h0 with h0|⟨h0,h3⟩
    .exact h1.c e he A (.inl h0) γ
    .rcases aH.mp h3 with h3|h3
     .exact h1.c e he A (.inr ⟨h0,h3⟩) γ
     .have h3:=ax.mp h3;subst h0
      exact h3▸h2 e he h3 γ⟩
   refine⟨_,W,?_⟩;obtain⟨kp,H,i2⟩:=Aa h hp
   have β:bA (Cn D ((k + 1)+2)) (.cmp .ne (.iH .get (.ix (.v 5) (.v 6)) [(.v 7),(.e_ 0)]) (.e_ 0)) (full (EB t E x r ks g b V (Y (.int (p),J)) (Y (.str s,J)) i))=Y (.bl (((G p s).getD 0) != (0:cx)),J):=
    km (Ks (yy W rfl H) W rfl (OM i2)) W rfl
   by_cases P:(G p s).getD 0=0
   .refine nM (by rw[P]at β;exact β) (cP ⟨_,W,b,_,_,V,G,W,h,fin hi λe _ _ _ m q h1 h2 _=>?_⟩)
    simp_all
   .obtain⟨m,α⟩:∃m,G p s=Y m:=by
     cases c:G p s with
     |none=>simp_all
     |some m=>exact⟨m,W⟩
    have K:(((G p s).getD 0) != (0:cx))=U:=by simpa using P
    rw[K]at β;refine lE (J':=λρ=>∃b i V G,ρ=EB t E x r ks g b V (Y (.int (p),J)) (Y (.str s,J)) i/\CT V x.length G/\Ib E x r (Pr p (us++[s])) G) β (λ_=>?_) (λz=>nomatch z) λρ' h=>cP ⟨_,W,by refine ac λ_ kq=>?_;obtain⟨b,z,V,G,h1,h2⟩:=h;apply kq;exact⟨b,_,z,V,G,h1,h2⟩⟩;have hlen:Z (D7 E s)<=1000:=aa (dv _ _) (aa ge.l (by decide))
    have M:bA (Cn D ((k + 1)+2)) (.call 11 [(.ix (.v 3) (.v 7)),(.v 1),(.v 6)]) (full (EB t E x r ks g b V (Y (.int (p),J)) (Y (.str s,J)) i))=Y (.lst (((D7 E s).filter (pre x p)).map fB),U):=
     (x6 (yy W rfl (show xF (mX E) (.str s)=_ from Be hs)) W rfl).trans (FF hp hlen)
    refine lV (I:=λvs ρ=>∃b i V G,ρ=EB t E x r ks g b V (Y (.int (p),J)) (Y (.str s,J)) i/\CT V x.length G/\Ib E x r (Pr p us) G/\G p s=Y m/\∀e∈vs,By r G p s e) (rQ M W (by rfl)) ⟨b,i,V,G,W,h,hi,α,λ_ h=>nomatch h⟩ ?_ ?_
    .rintro N e ws _ hv ⟨b,i,V,G,rfl,h,hi,α,hb⟩;refine⟨_,W,?_⟩;have j:e∈(D7 E s).filter (pre x p):=by rw[hv];simp
     refine ac λ_ kq=>?_;clear J' hs fin β P K hlen M hv; obtain⟨Q,C⟩:=bI.mp j;obtain⟨n,u⟩:=bI.mp Q;have u:e.1=s:=by simpa using u
     subst u;have hl:m<2 ^ 2000:=aQ (Nat.lt_pow_two_of_testBit m λi c=>by
       cases q:m.testBit i with
       |false=>rfl
       |true=>exact absurd (hi.s p e.fst m i α q).le.2 (λz=>(a9 c z))) (Nat.pow_le_pow_right (by decide) (aA e0 (by decide)));obtain⟨F,pl,c1,c2,R⟩:∃i pl,Cn D ((k + 1)+2) (21+yP) [.lst V,.int (p:T),fB e,dF ks g]=Y (.lst i,U)/\(∀q,pl.testBit q=CU r q e)/\CT i x.length (Ax G (p+Z e.2.1) e.2.2.2 (Sy G p e m pl)):=(by
      refine ac λ_ kq=>?_;obtain⟨pl,h1,h2⟩:=Xp hk hf (ok e n).c;have A:=qD hp C;obtain⟨X,d',c1,c2,l,F⟩:=Pf h A (ok e n).o;apply kq;refine⟨_,pl,?_,h2,F⟩;rw[ab3];generalize Cn D ((k + 1)+1)=q at h1;refine ac λ_ kq=>?_;obtain⟨k1,s,i2⟩:=Aa h hp;obtain⟨k2,u,w⟩:=Aa h A;apply kq;have b :=len_T (aa (ok e n).t (by decide));show bV (e9 q b21 [Y (.lst V,U),Y (.int (p),J),Y (fB e,J),Y (dF ks g,J),L,L]) abY=_
      have y:bA q (.bin .band (.ix (.ix (.v 0) (.v 1)) (.ix (.v 2) (.e_ 0))) (.call 20 [(.ix (.v 2) (.e_ 2)),(.v 3)])) (full [Y (.lst V,U),Y (.int (p),J),Y (fB e,J),Y (dF ks g,J),L,L])=Y (.int ((m &&& pl):cx),J):=
       iT (yy (yy W rfl s) W (Tr i2 α)) ((oF W rfl).trans h1) (GS _ _)
      have s1:=ie (i:=4) y W
      have hd:X=dD k2 (G (p+Z e.2.1)):=by
       have:=u;have z:xF (.lst V) (.int ((p+Z e.2.1:T)))=Y X:=lN c1
       simp_all
      subst hd;have γ:m &&& pl<2 ^ 2000:=aA Nat.and_le_left hl;have j:=(ok e n).k
      have s2:og q (.alp 5 0 (.bin .add (.v 1) (.blt .len [(.ix (.v 2) (.e_ 1))])) (.ix (.v 2) (.e_ 3)) (.bin .bor (.iH .get (.v 5) [(.ix (.v 2) (.e_ 3)),(.e_ 0)]) (.bin .shl (.v 4) (.blt .len [(.ix (.v 2) (.e_ 2))])))) [Y (.lst V,U),Y (.int (p),J),Y (fB e,J),Y (dF ks g,J),Y (.int ((m &&& pl):cx),J),L]=Y (.nx [Y (.lst (V.set (p+Z e.2.1) d'),U),Y (.int (p),J),Y (fB e,J),Y (dF ks g,J),Y (.int ((m &&& pl):cx),J),L]):=by
       have b3:bA q (.bin .add (.v 1) (.blt .len [(.ix (.v 2) (.e_ 1))])) (full [Y (.lst V,U),Y (.int (p),J),Y (fB e,J),Y (dF ks g,J),Y (.int ((m &&& pl):cx),J),L])=Y (.int ((p+Z e.2.1):cx),J):=iT W (lG W b) W
       have b4:bA q (.bin .bor (.iH .get (.v 5) [(.ix (.v 2) (.e_ 3)),(.e_ 0)]) (.bin .shl (.v 4) (.blt .len [(.ix (.v 2) (.e_ 2))]))) [Y (.lst V),Y (.int (p)),Y (fB e),Y (dF ks g),Y (.int ((m &&& pl):cx)),Y (dD k2 (G (p+Z e.2.1)))]=Y (.int (Sy G p e m pl),J):=
        iT (Ks W rfl rfl (OM w)) (iT W (lG W (uG _)) (Vn γ (aa j (by decide)))) (V2 _ _)
       show(if 5<6 then(bA q _ _).bind _ else L)=_;rw[b3];show(yQ V.length (((p+Z e.2.1:T)))).bind _=_;rw[c2,bS,c1];show(bA q _ [Y (.lst V),Y (.int (p)),Y (fB e),Y (dF ks g),Y (.int ((m &&& pl):cx)),Y (dD k2 (G (p+Z e.2.1)))]).bind _=_;rw[b4];show(kP .seti _ [.int (Sy G p e m pl),.str e.2.2.2]).map _=_;rw[l];rfl
      have s3:e9 q b21 [Y (.lst V,U),Y (.int (p),J),Y (fB e,J),Y (dF ks g,J),L,L]=Y (.nx [Y (.lst (V.set (p+Z e.2.1) d'),U),Y (.int (p),J),Y (fB e,J),Y (dF ks g,J),Y (.int ((m &&& pl):cx),J),L]):=(lL s1).trans ((lL s2).trans rfl);rw[s3];rfl);obtain⟨S,w⟩:¬Pr p us (p+Z e.2.1) e.2.2.2/\¬(p=p+Z e.2.1/\e.1=e.2.2.2):=by
      by_cases q:e.2.1=[]
      .obtain⟨α,b⟩:=ge.n e n q;rw[b];refine⟨λz=>z.elim (λz=>absurd z (by simp)) λz=>WA d α z.2,λz=>?_⟩;rw[α]at z;exact absurd z.2 (by decide +kernel)
      simp_all
     apply kq;have s1:og (Cn D ((k + 1)+2)) (.lnd (21+yP) 5 [(.v 6),(.v 8),(.v 4)]) (EB t E x r ks g b V (Y (.int (p),J)) (Y (.str e.1,J)) (Y (fB e,J)))=Y (.nx (EB t E x r ks g J F (Y (.int (p),J)) (Y (.str e.1,J)) (Y (fB e,J)))):=by
      show(Cn D ((k + 1)+2) (21+yP) [.lst V,.int (p),fB e,dF ks g]).bind _=_;rw[c1];rfl
     refine dT s1 (cP ⟨_,W,J,_,F,_,W,R,TH hi n C α c2 S,(sW w).trans α,λX hd=>?_⟩)
     rcases aH.mp hd with hd|hd
     .exact Jn w (hb X hd)
     .rw[ax.mp hd];exact λm0 q h1 h2 h3=>by
       rw[sW w,α]at h1;cases h1;refine⟨_,sV,?_⟩
       simp_all
    .rintro _ ⟨b,i,V,G,rfl,h,hi,α,hb⟩;exact cP ⟨_,W,b,_,V,G,W,h,fin hi λe he y γ=>hb e (bI.mpr ⟨bI.mpr ⟨he,by simp[y]⟩,γ⟩)⟩
  .rintro _ ⟨b,f,i,V,G,rfl,h,hi⟩
   exact cP ⟨_,W,b,_,_,_,V,G,W,h,hi.s,hi.z,λe he α h0 γ=>hi.c e he α (by
    rcases h0 with h0|⟨_,h0⟩
    .rcases jo α p with q|q
     .exact .inl q
     .exact .inr ⟨aI (bb h0) q,ge.b e he⟩
    .cases h0) γ⟩);generalize Cn D (k+3)=C at c3 H c1 u y ⊢;refine dT (Hv ((rq W).trans c3) W) (dT (Hv ((rq W).trans H) W) (eZ c1 ?_));generalize bH x.length (Dat.dct [] [])++[.dct [] []]=L0 at m1 m2 J' ⊢
 have s1:og C (.SX 5 (.e_ 0) (.con (.str uO)) (.e_ 1)) (EB t E x r ks g U L0 L L L)=Y (.nx (EB t E x r ks g U (L0.set 0 d') L L L)):=by
  show(pI _ (bV (yQ L0.length ((0:T))) _))=_
  simp_all
 refine dT s1 (lV (I:=λus ρ=>∃b a f i V G,ρ=EB t E x r ks g b V a f i/\CT V x.length G/\Ib E x r (Pr us.length []) G) (by rw[xP,u9 (m:=Z x+1) (iT (lG W j) W rfl) (aA O' (by decide))];rfl) ⟨U,L,L,L,_,_,W,J',B⟩ ?_ ?_)
 .rintro us p vs _ N ⟨b,a,f,i,V,G,rfl,h,hi⟩;obtain⟨rfl,hp⟩:=PV N;rw[aL];exact y _ b a f i V G (bb hp) h hi
 rintro _ ⟨b,a,f,i,V,G,rfl,h,hi⟩;rw[ba]at hi;obtain⟨S,P,i2⟩:=Aa h (ao _)
 have F:∀l:O aV,(∀s∈l,s∈jx)->rO (qt C 1 U (j4 1 [5,1] (full (EB t E x r ks g b V a f i))) [(.call 2 [(.v 0)])] (.iH .get (.ix (.v 1) (.blt .len [(.v 2)])) [(.v 0),(.e_ 0)])) (l.map Dat.str)=Y ((l.filter λs=>decide (s∈uP)).map λs=>Dat.int ((G x.length s).getD 0),U):=by
  intro l
  induction l with
  |nil=>exact λ_=>W
  |cons s l Q=>
    intro hs;rw[az,rO,DW ((rq W).trans (u s (hs s jB))) W,Q λs' h'=>hs s' (jU _ h')];have e1:bA C (.iH .get (.ix (.v 1) (.blt .len [(.v 2)])) [(.v 0),(.e_ 0)]) ((j4 1 [5,1] (full (EB t E x r ks g b V a f i))).set 0 (Y _))=Y (.int ((G _ s).getD 0),J):=Ks (yy W (lG W j) P) W rfl (OM i2);rw[Qf];cases decide (s∈uP)
    .rfl
    .rw[e1];rfl
 have e2:=pz (it:=.itv ZV) W (by decide) (F jx λ_ h=>h);refine eZ e2 ?_
 have e3:bA C (.comp 1 U [2] (.itv (.v 9)) [] (.cmp .eq (.bin _ (.bin _ (.v 0) (.blt _ [(.v 1)])) (.e_ 1)) (.e_ 1))) (full ((EB t E x r ks g b V a f i).set 9 (Y (.lst (uP.map λs=>Dat.int ((G x.length s).getD 0)),U))))=Y (.lst (uP.map λs=>Dat.bl (((G _ s).getD 0).testBit _)),U):=
  tP W (by decide) (λ_ _=>W) λs _=>⟨J,km (iT (iT W (lG W (uG _)) (Vm _ _)) W (GS _ 1)) W (by
  have:((G x.length s).getD 0).testBit (Z r)=decide ((((G x.length s).getD 0) >>> Z r) % 2=1):=by
   simp
  rw[this,Nat.and_one_is_mod];exact c7 Y (decide_eq_decide.mpr (by grind)))⟩
 refine iN (lG e3 (r:=Y (.bl ((uP.map λs=>((G x.length s).getD 0).testBit r.length).any id),J)) ?_) ⟨_,W,?_⟩
 .simp only[jg,M.b1,bL,x8,cT]
 .rw[List.any_map,jY];constructor
  .rintro⟨s,hs,h1⟩;have h1:((G _ s).getD 0).testBit _=U:=h1
   cases q:G _ s with
   |none=>rw[q]at h1;simp at h1
   |some m=>rw[q]at h1;exact⟨s,hs,hi.s _ _ _ _ q h1⟩
  .rintro⟨s,hs,w⟩;obtain⟨m,h1,h2⟩:=Wc hi.z (λp s hp _ e he h1 R=>h1▸hi.c e he p (.inl (Qb hp)) R) ge.b w;exact⟨s,hs,by simp_all⟩
end
def TX(w:wT t)(h:e∈got t):∀c∈e.2.1,c∈raw t:=by
 have y:=w.ok
 rcases aH.mp h with a|a
 .rcases aH.mp a with a|a
  .have g:∀{b:Ed},b∈s0 t->∃f∈t.fs,b.2.1=f.1:=λo=>by
    obtain⟨f,u,i,j,o⟩:=F9.mp o;unfold Qo at o;split at o
    .rw[ax.mp o];exact⟨f,u,W⟩
    .cases o
   rcases mrb.mp (A7.mp a).1 with h|⟨A,f,u,i,j,h⟩
   .obtain⟨b,o,h⟩:=mr1.mp h;obtain⟨f,u,x⟩:=g o
    rcases h with rfl|⟨m,rfl⟩
    .rw[x];exact λc l=>aB _ (zK.mpr ⟨f,u,l⟩)
    .refine (?_ : ∀c∈TN _,_);rw[x]
     cases q:f.1 with
     |nil=>exact absurd q (y.ho f u).ne
     |cons d r=>
       rw[tJ];intro c l
       rcases ak.mp l with rfl|l
       .exact MX u (by rw[q];simp) m
       .exact aB _ (zK.mpr ⟨f,u,(by rw[q];exact jU _ l)⟩)
   .unfold Lr at h;split at h
    .rw[ax.mp h];intro c l;obtain⟨d,E,rfl⟩:=bT.mp l;apply MX u E;have x:=w.m1 (λz=>by rw[z]at A;cases A)
     grind
    .cases h
  .have n:(ZJ.all λe=>e.2.1.all (·== 32))=U:=by decide +kernel
   intro c l;rw[show c=32 by simpa using bc.mp (bc.mp n e a) c l];exact MZ t
 .have a:e∈(if t.fg.isEmpty=U then []else(qL,[],t.m3,rG)::(Bo t).flatMap _):=a;split at a
  .cases a
  .rcases ak.mp a with rfl|a
   .simp
   .obtain⟨p,B,h⟩:=l5.mp a;rw[(show Bo t=(aR t.fg.length).map λk=>(48+k,t.fg.getD k 0) by refine jX (by rw[aE,ba];rw[yr];exact Nat.min_eq_right y.hf) λi A x=>?_;rw[aE,ba]at x;rw[List.getElem_zip,((aM.mp (zr (aa x y.hf)).2).2)];simp[x])]at B;obtain⟨k,C,rfl⟩:=bT.mp B;have F:e.2.1=[48+k]:=by
     simp only[pF,ak,bu,dy]at h
     rcases h with rfl|rfl|rfl<;>rfl
    rw[F];intro c l;rw[ax.mp l];exact Vr (aX.mp C) (aQ (aX.mp C) y.hf)
set_option tactic.hygienic true in
def Wb{R:T->Prop}(h:∀e∈E,∀c∈e.2.1,R c)(w:Wl E x r p q s):∀c∈x.take p,R c:=by
 induction w with
 |z=>exact λc b=>nomatch b
 |s w d f g a=>
   rename_i p q e;intro c b;rw[List.take_add]at b
   rcases aH.mp b with b|b
   .exact a c b
   .rw[<-pJ.mp (c8 f)]at b;exact h e d c b
noncomputable abbrev J3(p:T):Dat:=.tup [.str (ae "sign"),.int (p:T)]
noncomputable abbrev Fc(l:T):Dat:=.tup [.str (ae "told"),.int (l:T)]
def abU(h:bA C e (full ρ)=L):zX C e ρ=L:=by
 unfold zX;rw[h];rfl
def VT(h:bA C e (full ρ)=Y (d,f))(g:bA C e (wz (l8 e.fv ρ))=Y (d,f))(y:l8 e.fv ρ=ρ):zX C e ρ=Y (d,f,ρ):=by
 unfold zX;rw[h,bS,g,y];split<;>rfl
def IT{C:Fs}{i j y m:T}{xs:O Ex}{ok:O T}{ρ:dN}:og C (.Wn i j xs y m ok) ρ=match zX C (.call j xs) ρ with
 |some x=>if i=0\/y=0 then L else Y (.nx (x.2.2.set i (Y (x.1,x.2.1 && !im x.1))))
 |none=>if i=0\/y=0 then L else(zX C (.call (j+vt) xs) ρ).bind λx=>Wm y m ok x.2.2 x.2.1 x.1:=rfl
noncomputable abbrev EA(a x:Dat)(u:cx)(O' g:g_):dN:=[Y (a,J),Y (x,J),Y (.int u,J),O',g,L]
abbrev uj(u:cx)(j:T):Prop:=(u=0/\j=15)\/(u=1/\j=18)
def asked(O':uj u j)(h:og C (.Wn 4 j [.v 0,.v 1] 3 5 [139]) (EA a x u (Y (.non,J)) (Y (.non,J)))=Y (.nx ρ))(k:Go C [.ifs (.cmp .nisn (.v 3) (.con .non)) [.ret (.call 34 [.v 3])] [],.ret (.tup [.f_ "told",.blt .len [.v 4]])] ρ Q):Go C b36 (EA a x u L L) Q:=by
 refine dT (ie W rfl) (dT (ie W rfl) ?_)
 rcases O' with⟨rfl,rfl⟩|⟨rfl,rfl⟩
 .exact lE (b:=U) (J':=(·= ρ)) W (λ_=>dT h (cP ⟨_,W,W⟩)) (λz=>nomatch z) λ_ z=>z▸k
 .exact lE (b:=J) (J':=(·= ρ)) W (λz=>nomatch z) (λ_=>dT h (cP ⟨_,W,W⟩)) λ_ z=>z▸k
def CG(O':uj u j)(h:Cn D (n+5) j [a,x]=Y (d,f))(g:jg .len [d]=Y (.int (l:T),J)):∃b,Cn D (n+6) 36 [a,x,.int u]=Y (Fc l,b):=by
 suffices h:Go (Cn D _) _ (EA a x u L L) λo=>∃b,o=.rt (Fc l) b by
  obtain⟨_,c,b,rfl⟩:=h;exact⟨b,fG W c⟩
 generalize Cn D _=C at h ⊢;refine asked (ρ:=EA a x u (Y (.non,J)) (Y (d,f && !im d))) O' ?_ (nM W (iN (f:=U) ?_ ⟨_,W⟩))
 .rw[IT,VT ((oF W rfl).trans h) ((oF W rfl).trans h) W];rfl
 .rw[xQ,dZ,dZ,lG W g];rfl
def wQ(O':uj u j)(h:Cn D (n+5) j [a,x]=L/\Cn D (n+5) (j+vt) [a,x]=Y (xS p,U)):∃b,Cn D (n+6) 36 [a,x,.int u]=Y (J3 p,b):=by
 obtain⟨b,c⟩:∃b,Cn D ((n + 3)+2) 34 [xS p]=Y _:=by
  have a:Cn D ((n + 3)+1) 25 [.int (p:T)]=Y (.bl U,J):=rk (body:=b25) W (iN W rfl)
  suffices h:Go (Cn D _) _ [Y _,L] λo=>∃b,o=.rt (J3 p) b by
   obtain⟨_,e,b,rfl⟩:=h;exact⟨b,fG W e⟩
  generalize Cn D _=C at a ⊢;refine eZ W (lE (b:=U) (J':=λρ=>ρ=[Y _,Y (.lst _,U)]) W (λ_=>xM (P:=(·= J3 p)) ⟨_,_,W,W,W⟩ W (by decide) λd g=>cP ⟨_,W,by rw[g];rfl⟩) (λz=>nomatch z) λi z=>?_);subst z;refine nM W (nM W (nM W (nM W (nM W (nM (f:=J) ?_ (iN W ⟨_,W⟩))))));rw[xU (x:=J) (f:=J) W,cv (by decide),xU (x:=J) (f:=J) W,cv (by decide)];exact adM ((rq W).trans a)
 suffices h:Go (Cn D _) _ _ λo=>∃b,o=.rt (J3 p) b by
  obtain⟨_,e,b,rfl⟩:=h;exact⟨b,fG W e⟩
 generalize Cn D _=C at h c ⊢;refine asked (ρ:=EA a x u (Y (xS p,U)) (Y (.non,J))) O' ?_ (OK W (AR ((rq W).trans c)) ⟨_,W⟩);rw[IT,abU ((oF W rfl).trans h.1),VT ((oF W rfl).trans h.2) ((oF W rfl).trans h.2) W];rfl
noncomputable abbrev sA:aV:=ae " !\"#$&'()*+,-./0123456789:;<=>?@ABCDEFGHIJKLMNOPQRSTUVWXYZ[\\]^_"
noncomputable abbrev sB:aV:=ae "\nabcdefghijklmnopqrstuvwxyz{|}~"
def Q8:O T:=(sA++sB).cps.toList
def Fj:hJ .add (.str sA) (.str sB)=Y (sT Q8,J):=by kernel_rfl
def abA:∀c∈oA,97<=c:=by decide +kernel
def aa0(w:wT t):33∉raw t:=λh=>by
 have b:∀c∈U' _,97<=c:=λc a=>by
  obtain⟨f,d,a⟩:=zK.mp a;exact abA c ((w.ok.ho f d).low c a)
 by_cases q:Qn t 33
 .obtain⟨c,a,q|⟨_,q⟩⟩:=q<;>have:=b c a<;>grind
 .rcases zC w h q with q|⟨k,_,q⟩<;>grind
def Tt{x:O T}(h:Z x<=1000):j9 (sT x)=Y (c1 x):=by
 unfold j9
 simp
theorem IP(R:T->Prop):∀z:O T,(∀c∈z,R c)\/∃y c r,z=y++c::r/\(∀d∈y,R d)/\¬R c
 |[]=>.inl λ_ h=>nomatch h
 |a::z=>by
   by_cases h:R a
   .rcases IP R z with b|⟨y,c,r,rfl,b,g⟩
    .exact .inl λc f=>(ak.mp f).elim (λe=>e▸h) (b c)
    .exact .inr ⟨_,c,r,W,λc f=>(ak.mp f).elim (λe=>e▸h) (b c),g⟩
   .exact .inr ⟨[],a,z,W,(λ_ h=>nomatch h),h⟩
def T8(h:∀k,k<a->p k=J)(g:p a=U):∃L',(aR (a+(b+1))).filter p=a::L':=by
 rw[List.range_add,tZ,Eu.mpr λk c=>by simp[h k (aX.mp c)],List.nil_append,Et,az,Qf,Nat.add_zero,cb g];exact⟨_,W⟩
abbrev TL(x:O T):O Dat:=[Fc (Z x+1),Fc 2]
def VS{x:O T}(O':Z x<=1000)(h:ρ[2]?=Y (Y (sT x))):bA C (.lst [.tup [.f_ "told",.bin .add (.blt .len [.v 2]) (.e_ 1)],.tup [.f_ "told",.e_ 2]]) ρ=Y (.lst (TL x),U):=by
 have a:bA C (.tup [.f_ "told",.bin .add (.blt .len [.v 2]) (.e_ 1)]) ρ=Y (Fc (Z x+1),U):=by
  rw[xQ,dZ,dZ,iT (lG (by rw[n5,h];rfl) (len_T (aa O' cV))) W pB];rfl
 rw[Gy,dZ,a];rfl
abbrev EZ(N:Dat)(t:Tb)(x ss z:O T)(B:O Dat)(C F g y O':g_):dN:=[Y (N,J),Y (tb t,J),Y (sT x,J),Y (.lst (c1 ss),U),Y (sT z,J),C,F,g,Y (.lst B,U),y,O']
abbrev Zi:O Sx:=[.set 9 (.call 24 [.v 0,.e_ 30,.e_ 40037,.e_ 2]),.loop U [10] (.itv (.lst [.v 9,.bin .sub (.e_ 1) (.v 9)])) [.ifs (.cmp .ne (.call 36 [.v 1,.v 4,.v 10]) (.ix (.v 8) (.v 10))) [.ret (.con (.bl J))] [],.ifs (.cmp .ne (.call 36 [.v 1,.v 2,.v 10]) (.ix (.lst [.tup [.f_ "told",.bin .add (.blt .len [.v 2]) (.e_ 1)],.tup [.f_ "told",.e_ 2]]) (.v 10))) [.ret (.con (.bl J))] []],.ret (.cmp .eq (.call 36 [.v 1,.v 4,.v 9]) (.ix (.v 8) (.v 9)))]
def Iy{x:O T}{d0 d1:Dat}(R:Dw C N)(S:Z x<=1000)(c3:∀u:cx,∀d,(u=0/\d=d0)\/(u=1/\d=d1)->∃b,C 36 [tb t,sT z,.int u]=Y (d,b))(O':∀u:cx,∀d,(u=0/\d=Fc (Z x+1))\/(u=1/\d=Fc 2)->∃b,C 36 [tb t,sT x,.int u]=Y (d,b))(e0:∀d∈[d0,d1],jL .ne d d=Y J/\jL .eq d d=Y U):Go C Zi (EZ N t x ss z [d0,d1] y B F L L) λo=>o=.rt (.bl U) J:=by
 have g:∀l:T,jL .ne (Fc l) (Fc l)=Y J:=λl=>by
  show Y (!(U && (((l:cx) == l) && U)))=_;simp
 have n:∀q:cx,q=0\/q=1->∀a,∃j,iU U [10] (.int q) (EZ N t x ss z [d0,d1] y B F L a)=Y j:=λ_ _ _=>⟨_,W⟩
 apply n4 (pv (P:=λq=>q<2) (iu R W rfl rfl rfl (by decide) (by decide) (by decide) λq h=>by omega));rintro _ ⟨q,rfl,m⟩;have m:q=0\/q=1:=by grind
 refine lV (V:=Dat.int) (xs:=[(q:cx),1 - (q:cx)]) (I:=λ_ w=>∃a,w=EZ N t x ss z _ y B F (Y (.int _,J)) a) (rQ (f:=U) (d:=.lst [.int _,.int _]) W rfl (by rfl)) ⟨L,W⟩ ?_ ?_
 .rintro K u Q _ i ⟨a,rfl⟩
  have i:u=0\/u=1:=by
   have:u∈[(q:cx),1 - (q:cx)]:=by rw[i];simp
   simp only[ak,bu,dy]at this;grind
  refine ac λ_ s=>?_;obtain⟨d,e,r,c,A,p⟩:∃d e,((u=0/\d=d0)\/(u=1/\d=d1))/\((u=0/\e=Fc (Z x+1))\/(u=1/\e=Fc 2))/\xF (.lst [d0,d1]) (.int u)=Y d/\xF (.lst (TL x)) (.int u)=Y e:=by
   clear S c3 O' e0 g s; rcases i with rfl|rfl
   .exact⟨d0,Fc _,.inl ⟨W,W⟩,.inl ⟨W,W⟩,W,W⟩
   .exact⟨d1,_,.inr ⟨W,W⟩,.inr ⟨W,W⟩,W,W⟩
  obtain⟨b1,E⟩:=c3 u d r;obtain⟨b2,H⟩:=O' u e c
  apply s;refine⟨_,W,nM (km ((x6 W rfl rfl).trans E) (yy W rfl A) (e0 d (by grind)).1) (nM (km ((x6 W rfl rfl).trans H) (yy (VS S W) W p) (by rcases c with⟨_,rfl⟩|⟨_,rfl⟩<;>exact g _)) (cP ⟨_,W,_,W⟩))⟩
 .rintro _ ⟨a,rfl⟩
  obtain⟨d,r,c⟩:∃d,(((q:cx)=0/\d=d0)\/((q:cx)=1/\d=d1))/\xF (.lst [d0,d1]) (.int (q:T))=Y d:=by
   rcases m with rfl|rfl
   .exact⟨d0,.inl ⟨W,W⟩,W⟩
   .exact⟨d1,.inr ⟨W,W⟩,W⟩
  obtain⟨b,k⟩:=c3 q d r
  exact iN (km ((x6 W rfl rfl).trans k) (yy W rfl c) (e0 d (by grind)).2) W
abbrev EP(N:Dat)(t:Tb)(x ss z:O T)(O' g:g_):dN:=[Y (N,J),Y (tb t,J),Y (sT x,J),Y (.lst (c1 ss),U),Y (sT z,J),O',g,L,L,L,L]
open Builtin Builtin.Str in
def Mz{x:O T}{p:T}(h:p<=Z x):dH (T' x) (Y (p:cx)) L=T' (x.drop p):=by
 have a:¬((x.length:cx)<0):=by simp
 have e:max (0:cx) (min (x.length) (x.length))=Z x:=by simp
 rw[AF h (ao _)]
 .rw[gC (by simp)]
 .simp only[strSliceIndices,a,eg,e,show((1:cx) > 0)=True by simp,ek]
def AO(g:NA t)(O':∀d∈y,d∈raw t)(B:c∉raw t)(C:Z (y++c::r)<=1000):Cn D (n+4) 18 [tb t,sT (y++c::r)]=L/\Cn D (n+4) (18+vt) [tb t,sT (y++c::r)]=Y (xS y.length,U):=by
 obtain⟨a,b⟩:=wU (n:=n) g O' B C
 suffices h:e9 (Cn D _) _ [Y _,Y (sT _,J),L,L,L,L,L,L]=Y (.xc _ (ae _) (.inl _))from Gw (np:=2) (nl:=8) W h
 exact Jg (OU ((oF W rfl).trans a) ((oF W rfl).trans b))
def RG{ns:O cx}:Cn D (n+7) 37 [.lst (ns.map Dat.int)]=Y (.bl U,J):=by
 refine ac λ_ kq=>?_;obtain⟨t,b,r31,w⟩:∃t b,Cn D (n+6) 31 [.lst (ns.map Dat.int)]=Y (tb t,b)/\wT t:=(by
  have hd:Dw (Cn D (n+5)) (.lst (ns.map Dat.int)):=dw;have i:Mw (Cn D (n+5)) (.lst (ns.map Dat.int)):=(λk a hk hf=>by
   obtain⟨cs,b,e,c1,c2,f⟩:=cw k a hk hf;refine⟨cs.take 2,J,fG W ?_,by rw[fL];grind,by rw[fL];exact kr _ _,λc h=>f c (cY h)⟩;generalize Dat.lst (ns.map Dat.int)=N at e ⊢;generalize Cn D ((n + 1)+3)=C at e ⊢;refine AR ?_;show bV (C 26 [N,.int k,.int a]) _=_;rw[e];show Y (Dat.tup (cutD (cs.map Dat.int) L (Y 2)),J)=_
   have:cutD (cs.map Dat.int) L (Y 2)=(cs.take 2).map Dat.int:=by
    by_cases h:2<=Z cs
    .rw[Je (by simp) (by grind)];simp
    .cases cs with
     |nil=>simp at c1
     |cons c r=>cases r with
      |nil=>rfl
      |cons d r=>simp at h
   rw[this]);have ho:Ow (Cn D (n+5)) (.lst (ns.map Dat.int)):=ow
  suffices h:Go (Cn D (n+5)) b31 [Y (.lst (ns.map Dat.int),J),L,L,L,L] λo=>∃t b,o=.rt (tb t) b/\wT t by
   refine ac λ_ kq=>?_;obtain⟨_,h1,t,b,rfl,h2⟩:=h;apply kq;exact⟨t,b,fG W h1,h2⟩
  generalize Dat.lst (ns.map Dat.int)=N at hd i ho ⊢;generalize Cn D (n+5)=C at hd i ho ⊢;refine n4 (pv (P:=λq=>0<q/\q<=63) (IZ (is:=[3,6,63]) W (iu hd W rfl rfl rfl cV cV cV λq h=>by show q<3;omega) cV)) ?_;rintro _ ⟨a,rfl,hf⟩;have hf:(0:cx)<(a)/\(a:cx)<=63:=⟨(yK.mpr hf.1),(fQ.mpr hf.2)⟩
  refine eZ W ?_;refine DC (J':=λρ=>∃m0 m1,ρ=[Y (N,J),Y (.int (a),J),Y (mk4 m0 m1 [] [],U),L,L]/\mq 2 m0/\mq 2 m1/\(m1≠[]->m0≠[])) (xY (iu hd W rfl rfl rfl cV cV cV λq h=>trivial) 0) ?_ ⟨[],[],W,uD 2,uD 2,λh=>absurd rfl h⟩ ?_
  .refine Bj (v7 i W rfl cV hf) W rfl λd g=>?_;obtain⟨m0,rfl,h0⟩:=g;refine⟨[tI m0,tI [],tI [],tI []],W,DC (J':=λρ=>∃m1,ρ=[Y (N,J),Y (.int (a),J),Y (mk4 m0 m1 [] [],U),L,L]/\mq 2 m1) (xY (iu hd W rfl rfl rfl cV cV cV λq h=>trivial) 0) ?_ ⟨[],W,uD 2⟩ ?_⟩
   .refine Bj (v7 i W rfl cV hf) W rfl λd g=>?_;obtain⟨m1,rfl,h1⟩:=g;exact⟨[tI m0,tI m1,tI [],tI []],W,cP ⟨_,W,m1,W,h1.m.1⟩⟩
   .rintro _ ⟨m1,rfl,h1⟩;exact cP ⟨_,W,m0,m1,W,h0.m.1,h1,λ_=>h0.m.2⟩
  rintro _ ⟨m0,m1,rfl,h0,h1,s⟩;refine eZ W ?_;refine DC (J':=λρ=>∃m2 m3 fg x,ρ=[Y (N,J),Y (.int (a),J),Y (mk4 m0 m1 m2 m3,U),Y (.lst (fg.map Dat.int),U),x]/\mq 2 m2/\mq 2 m3/\mq 10 fg/\(fg≠[]->m3≠[])) (xY (iu hd W rfl rfl rfl cV cV cV λq h=>trivial) 0) ?_ ⟨[],[],[],L,W,uD 2,uD 2,uD 10,λh=>absurd rfl h⟩ ?_
  .refine Bk (P:=λv=>1<=v/\v<=10) (vb hd W rfl rfl rfl cV cV cV cV) (λv=>xY (iu hd W rfl rfl rfl cV cV cV λ_ _=>trivial) 0) (λv=>vb hd W rfl rfl rfl cV cV cV cV) λm u=>?_;have k:=u.2;refine ac λ_ kq=>?_;obtain⟨fg,e,l,h3⟩:=DY (ρ:=full [Y (N,J),Y (.int (a),J),Y (mk4 m0 m1 [] [],U),Y (.lst [],U),Y (.int (m),J)]) (p:=30091) (caps:=[1,0]) (it:=.v 4) (e1:=.v 2) (e2:=.e_ 27) (e3:=.v 1) hd W k cV cV hf (λ_=>W) (λ_=>W) (λ_=>W);apply kq;refine eZ e ?_;refine Bj (v7 i W rfl cV hf) W rfl λd g=>?_;obtain⟨m2,rfl,h2⟩:=g;refine⟨[tI m0,tI m1,tI m2,tI []],W,Bj (v7 i W rfl cV hf) W rfl λd g=>?_⟩;obtain⟨m3,rfl,r⟩:=g;exact⟨[tI m0,tI m1,tI m2,tI m3],W,cP ⟨_,W,m2,m3,fg,_,W,h2.m.1,r.m.1,⟨aa (af l) k,h3⟩,λ_=>r.m.2⟩⟩
  rintro _ ⟨m2,m3,fg,x,rfl,h2,h3,y,z⟩;obtain⟨ls,fs,b,e,hl,A,j⟩:=ho a hf;refine iN (d:=tb ⟨fs,m0,m1,m2,m3,fg⟩) (f:=U) ?_ ⟨_,_,W,⟨λf hf=>(j.o f hf).1,dA hl,h0.1,h1.1,h2.1,h3.1,y.1⟩,λf hf c hc=>j.w c ((j.o f hf).2.1 c hc),λf hf=>(j.o f hf).2.2,?_,s,z⟩
  .show bV (bV (C 29 [N,.int (a)]) _) _=_;rw[e];have B:im (Dat.tup (fs.map kA))=U:=pq fs
   have i2:im (Dat.tup [tI m0,tI m1,tI m2,tI m3])=U:=by
    simp only[im,nv,mo,ah];exact⟨rS _,rS _,rS _,rS _⟩
   have i3:=rS fg;refine (?_ : Y (tb ⟨fs,m0,m1,m2,m3,fg⟩,(b || im (Dat.tup (fs.map kA))) && ((_ || im (Dat.tup [tI m0,tI m1,tI m2,tI m3])) && ((_ || im (tI fg)) && U)))=_)
   simp_all
  .intro m i c hc;simp only[ak,bu,dy]at i
   rcases i with rfl|rfl|rfl|rfl|rfl
   .exact h0.2 c hc
   .exact h1.2 c hc
   .exact h2.2 c hc
   .exact h3.2 c hc
   .exact y.2 c hc);have hd:Dw (Cn D (n+6)) (.lst (ns.map Dat.int)):=dw;obtain⟨E,hE,g,hm,ok⟩:∃E:O Ed,JY (got t)=E.map fB/\gE E/\(∀e,e∈E↔e∈got t)/\∀e∈E,Vx e:=(by obtain⟨E,h1,_,h3,a⟩:=WQ _;have ok:=λe he=>Y5 w e ((h3 e).mp he);exact⟨E,h1,⟨λe he=>(ok e he).b,λe he=>(ok e he).o,λe he=>aa (ok e he).t cV,λe he=>(ok e he).n,aa a (Bh w.ok)⟩,h3,ok⟩);have O':∀k,Cn D (k+3) 9 [tb t]=Y (mX E,U):=λk=>MR (by rw[zA w.ok (Bh w.ok),hE]) g.l g.b;obtain⟨m,hm1,hm2⟩:=hd 2 35027 21 (by decide) (by decide) (by decide);obtain⟨x,_,e33,hx1,Q⟩:=MJ (n:=n+3) (ns:=ns) w (m:=m) (by omega);obtain⟨ss,r32,hs1,B⟩:=FE (n:=n+5) w;have str:=λ(k:cx)(hk:0<=k/\k<=1000)=>(show ∃c b,Cn D ((n + 3)+3) 35 [.lst (ns.map Dat.int),.int k,tb t]=Y (sT [c],b)/\c∉raw t by
  have hd:Dw (Cn D ((n + 3)+2)) (.lst (ns.map Dat.int)):=dw;obtain⟨ss,a,g,d⟩:=FE (n:=(n + 3)+1) w
  suffices h:Go (Cn D ((n + 3)+2)) b35 [Y (.lst (ns.map Dat.int),J),Y (.int k,J),Y (tb t,J),L,L,L] λo=>∃c b,o=.rt (sT [c]) b/\c∉raw t by
   refine ac λ_ kq=>?_;obtain⟨_,h1,c,b,rfl,h2⟩:=h;apply kq;exact⟨c,b,fG W h1,h2⟩
  generalize Dat.lst (ns.map Dat.int)=N at hd ⊢;generalize Cn D ((n + 3)+2)=C at hd a ⊢;refine dT (ie W rfl) (dT (ie (iT W rfl Fj) W) (eZ ((rq W).trans a) ?_));have e5:=qJ (C:=C) (ρ:=full [Y (N,J),Y (.int k,J),Y (tb t,J),Y (sT Q8,J),Y (.lst (c1 ss),U),L]) (caps:=[4]) (it:=.itv (.v 3)) (c:=.cmp .nin (.v 0) (.v 1)) (xs:=Q8) (e:=λc=>sT [c]) (λc=>!decide (c∈ss)) (by rw[IU];exact Tt (by decide +kernel)) (by decide +kernel) (λ_=>W) (λc _=>⟨J,km W rfl NR⟩);have f:33∈Q8.filter λc=>!decide (c∈ss):=bI.mpr ⟨by decide +kernel,by simpa using λz=>aa0 w ((d 33).mp z)⟩
  have hp:∀c∈Q8.filter λc=>!decide (c∈ss),c∉raw t:=λc hc z=>by
   simp_all
  generalize Q8.filter (λc=>!decide (c∈ss))=fl at e5 f hp;refine eZ e5 ?_;refine ac λ_ kq=>?_;obtain⟨c,b,h1,h2⟩:=Gz (C:=C) (x:=.v 5) (e:=.call 24 [.v 0,.v 1,.e_ 40009,.blt .len [.v 5]]) (ρ:=full [Y (N,J),Y (.int k,J),Y (tb t,J),Y (sT Q8,J),Y (.lst (c1 ss),U),Y (.lst (fl.map λc=>sT [c]),U)]) (P:=λc=>c∉raw t) W (iu hd W rfl rfl (lG W sg) hk (by decide) (by rw[aE];grind) λq i=>by rw[aE]at i;simp_all) hp;apply kq;exact iN h1 ⟨c,b,W,h2⟩);clear hs1; obtain⟨S,s,_,EF,_,_,_,_,hrow⟩:=uZ (n:=n+1) w hE g hm ok Q (by omega)
 apply kq;have R:∀y:O T,(∀c∈y,c∈raw t)->Z y<=900->∀u:cx,∀d,(u=0/\d=Fc (Z y+1))\/(u=1/\d=Fc 2)->∃b,Cn D (n+6) 36 [tb t,sT y,.int u]=Y (d,b):=λy A hl u d h=>by
  rcases h with⟨rfl,rfl⟩|⟨rfl,rfl⟩
  .obtain⟨L',f,h1,h2⟩:=FD (n:=n+1) w.ok (O' _) g A (aa hl (by decide));exact CG (.inl ⟨W,W⟩) h1 (by rw[<-h2];exact sg)
  .obtain⟨S,s,f,h1,_⟩:=uZ (n:=n) w hE g hm ok A (by omega);exact CG (l:=2) (.inr ⟨W,W⟩) h1 W
 have bad:∀(y r:O T)(c:T),(∀d∈y,d∈raw t)->c∉raw t->Z (y++c::r)<=900->∀u:cx,∀d,(u=0/\d=J3 y.length)\/(u=1/\d=J3 y.length)->∃b,Cn D (n+6) 36 [tb t,sT (y++c::r),.int u]=Y (d,b):=λy r c A hc hl u d h=>by
  rcases h with⟨rfl,rfl⟩|⟨rfl,rfl⟩
  .exact wQ (.inl ⟨W,W⟩) (CI (n:=n+1) w.ok A hc (aa hl (by decide)))
  .exact wQ (.inr ⟨W,W⟩) (AO (n:=n+1) w.ok A hc (by omega))
 have isw:∀(z:O T)(r:O cx)(c:T),c∈z->c∉raw t->Z z<=900->Z r<=1000->Cn D (n+6) 22 [tb t,sT z,tI r]=Y (.bl J,J):=λz r c h1 h2 hz hr=>by
  obtain⟨b,k1,k2⟩:=RH (k:=n+2) (t:=t) (x:=z) (r:=r) g ok (O' _) hz hr;cases b
  .exact k1
  .exact absurd (k2.mp W) (λ⟨s,_,h⟩=>h2 (Wb (λe m=>TX w ((hm e).mp m)) h c (by rw[vO];exact h1)))
 suffices h:Go (Cn D (n+6)) b37 [Y (.lst (ns.map Dat.int),J),L,L,L,L,L,L,L,L,L,L] λo=>o=.rt (.bl U) J by
  obtain⟨_,h1,rfl⟩:=h;exact fG W h1
 have U':Z (um S)<=1000:=by grind
 generalize um S=row at EF U';generalize Dat.lst (ns.map Dat.int)=N at *;generalize Cn D (n+6)=C at *;refine dT (ie ((rq W).trans r31) (by show(nv _ && (im _ && (im (tI _) && U)))=U;rw[pq,Oy,rS];rfl)) ?_;refine dT (ie ((x6 W rfl (lM.trans (by exact hm1))).trans e33) W) ?_;refine eZ ((rq W).trans r32) (dT (ie W rfl) ?_);refine OL (P:=λm=>m<4) (I:=λus ρ=>∃z V M,ρ=EP N t x ss z V M/\Z z<=20+Z us/\(z=x\/∃c∈z,c∉raw t)) (iu hd W rfl rfl rfl (by decide) (by decide) (by decide) λq h=>by grind) (λm h=>(aK (aa h (by decide)))) ⟨x,L,L,W,by show Z x<=20;omega,.inl rfl⟩ ?_ ?_
 .rintro m4 h4 us i vs _ hu ⟨z,V,M,rfl,hz,_⟩;have hl4:=c7 iD hu;rw[ba,aL,bG]at hl4
  have hi:i<4:=by
   have:i∈aR m4:=by rw[hu];simp
   have:=aX.mp this;exact de this h4
  have F:jg .len [sT z]=Y (.int (z.length:T),J):=len_T (rP hz (af hl4.symm) h4);refine⟨EP N t x ss z (Y (.int (i:T),J)) M,W,n4 (pv (P:=λp=>p<=Z z) (iu hd W (iT W rfl pB) W (iT (lG W F) W pB) (by grind) (by decide) (by simp) λq h=>by grind)) ?_⟩;rintro _ ⟨p,rfl,hp⟩;obtain⟨c,f,h1,h2⟩:=str (55+(i:cx)) (by grind)
  have s1:Fu (sT z) L (Y (p:cx))=Y (sT (z.take p),J):=by
   show(if(T' z).length<=aF then Y (Dat.str (dH (T' z) L (Y (p))),J)else L)=_;rw[cb (by rw[qv,eG];exact rP hz (af hl4.symm) h4),My hp]
  have s2:Fu (sT z) (Y (p:cx)) L=Y (sT (z.drop p),J):=by
   show(if(T' z).length<=aF then Y (Dat.str (dH (T' z) (Y (p)) L),J)else L)=_;rw[cb (by rw[qv,eG];grind),Mz hp]
  have G:Z (z.take p)=p:=by rw[fL];exact gf hp
  have c3:Z (z.drop p)=Z z - p:=jW;refine dT (ie (iT (iT (aaM W rfl s1) ((x6 W (iT W rfl pB) W).trans h1) (Ee (by rw[G];show p+1<=_;exact Yy hp hz (af hl4.symm) h4))) (WX W rfl s2) (Ee (by rw[aL,G,c3];show p+1+_<=_;exact Yy (ad hp) hz (af hl4.symm) h4))) W) (cP ⟨_,W,_,_,_,W,?_,.inr ⟨c,by simp,h2⟩⟩);rw[aL,aL,aL,G,c3];show p+1+(Z z - p)<=20+(Z us+1)
  exact nZ (ad hp) hz
 .rintro m4 h4 _ ⟨z,V,M,rfl,hz,H⟩;rw[ba]at hz;have X:Z z<=900:=nZ hz h4
  have F:jg .len [sT z]=Y (.int (z.length:T),J):=len_T (aa X (by decide));have e7:=qJ (C:=C) (ρ:=full (EP N t x ss z V M)) (caps:=[3,4]) (it:=.rng [.blt .len [.v 4]]) (c:=.cmp .nin (.ix (.v 2) (.v 0)) (.v 1)) (xs:=aR z.length) (e:=λk:T=>Dat.int (k:T)) (λk=>!decide (z.getD k 0∈ss)) (u9 (lG W F) (aa X (by decide))) (by rw[ba];omega) (λ_=>W) (λk hk=>⟨J,km (yy W rfl (YV (by omega) (aX.mp hk))) W (by rw[NR,fi,ag (aX.mp hk)];rfl)⟩);refine eZ e7 ?_;refine eZ (VS (by omega) W) ?_;have K:=R x Q (by omega)
  have e0:∀(s:aV)(l:T)(d:Dat),d=.tup [.str s,.int (l:T)]->jL .ne d d=Y J/\jL .eq d d=Y U:=λs l d e=>by
   subst e;constructor
   .show Y (!((s == s) && (((l:cx) == l) && U)))=_;simp
   .show Y ((s == s) && (((l:cx) == l) && U))=_;simp
  have hnt:∀d∈TL x,jL .ne d d=Y J/\jL .eq d d=Y U:=λd hd=>by
   simp only[ak,bu,dy]at hd
   rcases hd with rfl|rfl<;>exact e0 _ _ _ W
  rcases IP (·∈raw t) z with hk|⟨y,c,r,rfl,A,hc⟩
  .have H:z=x:=H.elim id λ⟨c,h1,h2⟩=>absurd (hk c h1) h2;subst H
   have hf:(aR z.length).filter (λk=>!decide (z.getD k 0∈ss))=[]:=Eu.mpr λk j=>by
    have j:=aX.mp j
    have:z.getD k 0∈ss:=by
     rw[fi,ag j];exact(B _).mpr (hk _ (bw j))
    rw[c0 this];simp
   rw[hf];exact nM W (Iy hd (aa X (by decide)) K K hnt)
  .have hcm:c∈y++c::r:=by simp
   obtain⟨L',hf⟩:=T8 (p:=λk=>!decide ((y++c::r).getD k 0∈ss)) (a:=y.length) (b:=r.length) (λk j=>by
    have:(y++c::r).getD k 0∈ss:=by
     rw[fi,aO j,ag j];exact(B _).mpr (A _ (bw j))
    show(!decide _)=J
    rw[c0 this];rfl) (by
    simp_all)
   have hlen:Z (y++c::r)=Z y+(Z r+1):=by simp
   rw[hlen,hf];have e22:=isw (y++c::r);refine lE (b:=U) (J':=λρ=>ρ=EZ N t x ss (y++c::r) [J3 y.length,J3 y.length] V M (Y (.lst ((y.length::L').map λk:T=>Dat.int (k:T)),U)) L L) (km (lG W sg) W (by rw[aE,bG];show Y (decide _)=_;simp)) (λ_=>?_) (λz=>nomatch z) λρ' h=>?_
   .have e4:∀ρ:iO,ρ[7]?=Y (Y _)->bA C (.tup [.f_ _,.ix _ (.e_ 0)]) ρ=Y (J3 _,U):=λρ h=>by
     rw[xQ,dZ,dZ,yy (by rw[n5,h];rfl) W (show xF (.lst ((y.length::L').map λk:T=>Dat.int _)) (.int _)=Y (.int _)from lN W)];rfl
    refine eZ (ds:=[J3 _,J3 _]) (by rw[Gy,dZ,e4 _ W,dZ,e4 _ W];rfl) (nM (f:=J) ?_ (cP ⟨_,W,W⟩));have c1':∀(e:Ex)(rr:O _)(f:cc)(ρ:iO),ρ[1]?=Y (Y _)->ρ[4]?=Y (Y (sT _))->Z rr<=1000->bA C e ρ=Y (tI rr,f)->bA C (.cmp .nisn (.call 22 _) (.con (.bl J))) ρ=Y (.bl J,J):=λe rr f ρ h1 h4 hr he=>km ((x6 (by rw[n5,h1];rfl) (by rw[n5,h4];rfl) he).trans (e22 rr c hcm hc X hr)) W rfl;rw[xU (c1' _ [] U _ W rfl (by simp) W),cv (by decide)];exact c1' _ _ J _ W rfl U' (yy ((oF W rfl).trans EF) W rfl)
   .subst h;refine Iy hd (by omega) (bad y r c A hc X) K λd hd=>?_;simp only[ak,bu,dy]at hd
    rcases hd with rfl|rfl<;>exact e0 _ _ _ W
end K32E
def K32.math(ns:O cx)(_:Z ns<=63):∃fr,M.Cn K32.D 12 37 [.lst (ns.map M.Dat.int)]=Y (.bl U,fr):=⟨_,K32E.RG⟩
open PySem.W PyProof.Rows
structure PySem.W.Fast:Prop where(tw10468222634623256508 tw9507852440189585518 tw4704283815214981195 tw11728897470892879327 tw16207594744080521972 tw17014052743179449107 tw16401756584540693138 tw12391747288058494550 tw6151485977180976758 tw3556328248272112049 tw7647675231295154709 tw6973522103655729646 tw11283331426749270127 tw15331888664070319721 tw15313533356068022737 tw6996455150802754500 tw9876977857141261772 tw16078525549377922799 tw6208464488146321707 tw7025997468931077009 tw339968271213754959 tw15082267635974098469 tw2337052331441859876 tw1248497305027848302 tw15698589599227192507 tw18433991664084237069 tw4357172671004667301 tw4199663072053054373 tw1453155781582138273 tw13452551351815080945 tw5446514190022590225 tw3435028023600101139 tw8301462877569245561 tw16135142817895147144 tw7161897223492257373 tw9777411351419515754 tw11635366015475641489 tw3657329562413885594 tw10941933960129749796 tw14556606725364577411 tw8831082837579464043 tw5634303331353522770 tw15235905334905168370 tw333128449481341053 tw10968751688126419537 tw14627549044487604443 tw13201115783014905327 tw15708779794710704555 tw5765113804824946025 tw3142910779934566499 tw4729798027248017032 tw15766495880440340903 tw3657746879630581993 tw5017832763124464104 tw8255930288689951317 tw3326661772266308443 tw16038066719192669369 tw2529263389886109834 tw4580332700129181820 tw10672506534314665355 tw5495426570426462725 tw2691488889809286516 tw5536749452030916860 tw1067100181021752590 tw920572288487307990 tw8116825090363747664 tw4322131653226712570 tw5058080819670042909 tw4869504890519872723 tw8394694612538414797 tw12911540460104959947 tw14226424636451022282 tw9887150485473689573 tw6636552072991510524 tw5924461508580497478 tw12963399848534127689 tw13939306305752387187 tw3684148476221545667 tw776557899727642679 tw5156460951611431046 tw11218227682609949800 tw8378528001736844067 tw3318565723287273340 tw17942235830743986121 tw9325337785452777973 tw17858495762086424852 tw10180429882686786543 tw5727388732783542243 tw18407521951563144963 tw10379847035625997990 tw2661273259176649172 tw15331765650765003738 tw7124663172789555543 tw14664800425173814143 tw18429846125005248525 tw17367512557745319820 tw14799113055273741837 tw8192107695734821478 tw2904575383918752896 tw9064808427005089137 tw11421354688927947338 tw7953918368503844505 tw2361527643304012997 tw8391673348381555690 tw10242128666380001802 tw3082274183478133649 tw12670312159016624573 tw9109151258313620825 tw14022044248533818668 tw10420104359548012117 tw15223370669484257213 tw5386844290518583090 tw4109082737325312118 tw17435785095568105551 tw7803540015116543185 tw4896780470780926476 tw2525226792993168412 tw10836276756631467085 tw3669644974380933229 tw14753256779824992275 tw12191874594926961635 tw7677375508901239938 tw8451147161556492895 tw119734832820431238 tw10971956832289220623 tw17259013660551956130 tw15330039665229768568 tw462125139617015308 tw304876779265038085 tw2308774537838628488 tw16595397265509063480 tw3315164608424529005 tw3222384605011289841 tw14234746702078318198 tw16378071633365606274 tw11662444020138073479 tw15510034132397070041 tw2388776727021202011 tw15797528003787219719 tw10397422102337141032 tw4811415923079128750 tw4011539932576071588 tw14022292368546789610 tw4294700901195402046 tw9473950558260693291 tw4973282093904249206 tw10901235254668723846 tw12673872466967168095 tw10924785605299136859 tw2222447954658806810 tw13593258079666824655 tw4591945821414611799 tw15645332128424032126 tw479894197560725970 tw12785533837596494533 tw2601829821616729588 tw4546887569020359602 tw1150666817688816498 tw6308223175076176832 tw3244553857262203627 tw11342193202159241614 tw12703568985019150005 tw12531977389567299027 tw16339405563543245210 tw18328566785854219595 tw13337525684562030595 tw6452554091118381173 tw14489649649244735010 tw7731945786526118267 tw16375263469784698991 tw16429968999810095987 tw16415023171991510090 tw303037225597124325 tw13525983608818234065 tw8057748897094113456 tw5383367946079019772 tw6879010952255992053 tw2330307984012155118 tw8217653326354482144 tw1146983323473969148 tw1813591603028018108 tw13041593242277637360 tw11328022829538155813 tw10512313190228608607 tw1623961737950471019 tw17715417394787121292 tw9992745419269958697 tw3546087336977092573 tw11769929981362522291 tw12410865872508735727 tw177791084470001823 tw13872826147416008405 tw3544164425241546403 tw804297415576751729 tw6611865819263563698 tw8473104692315473950 tw415389565303178627 tw6090053161235675248 tw2307620093753509955 tw17727365622635273713 tw12489132186687661100 tw15507461162021298996 tw6214847614103567898 tw15138644855650520034 tw9223248387828207570 tw14837016963890053416 tw3874872671513625205 tw1612983136608608931 tw5035155144343446364 tw7618395296299481655 tw4462963732441791773 tw16205866466565634632 tw14084742714682475418 tw3245695300127782958 tw16323682814998560273 tw81195979011407479 tw14311509610719256595 tw11900683682513940555 tw10347980577977092870 tw16047124021276607070 tw13322279026054188143 tw4397155828708043502 tw14189243275334956387 tw7917606504987537620 tw10086430817988002558 tw6508686083657696410 tw6787697768328344014 tw9305317149777282776 tw16624611066025050371 tw11861409877498966053 tw5745770359240387437 tw6043195660132021349 tw56550406944302153 tw3340854138827901615 tw7905692604875638827 tw14702134741935285743 tw13423685399341144058 tw4368749855885541482 tw10165622722695826927 tw8174707748972047343 tw61026351067889281 tw11590896213120934894 tw8251303662335827806 tw7195364308262654581 tw13130910890049331125 tw7924988516534743210 tw499867869595544079 tw16623171633987225338 tw5231672152516660282 tw900294433800880947 tw6988228035822059310 tw5045294698634078656 tw2957736417941455488 tw7482390309118767124 tw4086110272939966427 tw9778826559693481553 tw3377077476420898780 tw13503102951277029905 tw2940144396058140406 tw16870215769272477701 tw16808480756594366421 tw15615237369934454942 tw5385961278454584751 tw2726110856166675589 tw7476400819514695903 tw5550742936335825648 tw9687212583082303284 tw17571176636498869443 tw15825370675402356752 tw12557016234902500509 tw7300940888564907573 tw13416847240728033953 tw9415667226626296449 tw8875821240668568934 tw13589901120574680568 tw18391371275686161964 tw7729127066199979232 tw12920680674245899232 tw2868872601456969719 tw16737587678021111152 tw10094202976065879866 tw7837169772123564675 tw9310894353850088808 tw11268324147297887831 tw10146510471347177162 tw1651583765444180995 tw17116603053713523793 tw10436199879548778876 tw1858809206183999944 tw13293597579853570945 tw11032802380029684665 tw16201709488766915095 tw13608804589455886840 tw6880638126075076509 tw13188467644670144351 tw8624009167009726206 tw13339981202894074298 tw1848417953761170909 tw216577084854259261 tw8760802457039190302 tw12087122188050755588 tw4403103751065905794 tw10738228226231326230:True)
set_option maxRecDepth 100000 in
set_option maxHeartbeats 0 in
theorem PySem.Challenge.cw_dots_k32_no_sign_holds : PySem.Challenge.rw_dots_k32_no_sign.Holds := by
 w_on;o_law;k_head;(case hw=>w_witness2)
 k_fill
 refine M.walk (l:=oM) (n:=14) (x:="_law_script") rfl ⟨rfl,by decide,by decide⟩ rfl (λw h Y=>PySem.W.kIn_of Y) ?F
 case F=>
  intro w mg fa h KX G hmg
  have Z:∀x∈M.mY,mg x=L:=by
   refine M.UQ KX G ?_
   kernel_rfl
  have T1:=M.ZQ (D:=K32.D) KX G (by kernel_rfl) (by kernel_rfl) (λ_ _ _ _ _ _ _=>by kernel_rfl);have T2:=M.Jh (con:=K32.con) KX G (by kernel_rfl);have T3:=M.Uh (x:="NoSign") (c:=139) (f:="place") (d:=M.Y0 oN.main.body "NoSign") KX G (by kernel_rfl) (by kernel_rfl) (by kernel_rfl) (λ_ _ _=>by kernel_rfl);have T4:=M.Uu (L':=K32.xg.cls) KX G (by kernel_rfl);have T5:L2.E2 (L2.KOf KX) 139 "place"=U:=by kernel_rfl
  have T6:=M.TK (n:="DotError") (c:=139) KX G (by kernel_rfl);have T':M.Here (L2.KOf KX) mg K32.D K32.con K32.xg:=⟨K32.oks,T1,by decide,Z,T2,λx c f q=>by cases ax.mp (M.lkM q);exact T3,T4,λf cs q c hc=>by cases ax.mp (M.lkM q);rw[ax.mp hc];exact T5,λn ok q=>by cases ax.mp (M.lkM q);exact T6⟩
  exact M.YE (l:=oM) T' (j:=37) rfl rfl hmg K32.math
