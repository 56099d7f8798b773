import PyProof.Rows.All
import Wide.All
import OpenK.AllK
import Wide.FinOn
import Lean
import PyProof.EqAt
import PyProof.EqKinds
import PyProof.TupleCall
import PySem.Challenge.RW_dots_k35_no_reading
set_option tactic.hygienic false
open Option renaming some->Y,none->L
open _root_ renaming List->O,Option->ar,Nat->T,if_pos->a5,if_neg->cb,Bool->cc,Int->cx,decide_eq_true->c0,decide_eq_false->c4,of_decide_eq_true->c5,decide_eq_true_eq->c6,Array->c7,congrArg->c8,beq_iff_eq->eb,StateT->ed,DecidableEq->ef,or_false->eg,String->ej,if_false->et,if_true->eu,Decidable->ew,bne_self_eq_false->eH,decide_eq_false_iff_not->e6,beq_self_eq_true->fc,ForInStep->ft,exists_eq_or_imp->fx,exists_eq_left->gi,instDecidableEqSum->hU,dif_pos->kl
open PySem renaming mainGlobals->c9,compareOp->dk,bootBuiltins->dt,binaryOp->dy,foldedSetIterable->ea,assignEach->ek,backTo->er,swapsWith->ez,sliceBounds->eL,excClassObj->eX,ofAClassStatement->e8,codeAny->e9,sysModules->fb,behindInMarks->fy,attributeBase->fC,pickOrder->f9,hashByValue->gk,strIterType->gq,swapsWithSole->gN,swappedStores->gU,isSubtype->g7,getItem->g8,letOwnedTupleGo->hA,bindArgs->hB,typeOf->hD,noteFrame->hH,relabel->hM,setSearchFrom->hQ,isInstance->hT,assign->hW,wpAny_pyIter_tuple->h9,cameBackBy->iy,wpAny_assign_Name->i0,wpAny_Assign_Name->i1,wpAny_sequenceKey->jn,callerA->j0,valueAt->j_,pyNext->kr,setNext->k6,builtinsNs->k7,wpAny_Name->k8,typeIs_str->k9,entryFor->lh,bindL->ma,bindC->mh,setItem->mi,OsState->mo,OwnTail->mu,notedBy->mv,collect->mB
open PyProof.Rows renaming envOfC->f7,seqObj->gg,gallopOf->hE,pendingOf->hK,entry_tuple_getitem->hO,args_tuple_getitem->ih,failedOf->l6,sortedHeap->l_,tuples'->mC
open PySem.W renaming findIn->ky
open Bool renaming true->U,false->J
noncomputable section
set_option bootstrap.genMatcherCode false
set_option genInjectivity false
set_option genSizeOf false
open And renaming intro->NZ
open Array renaming getElem?_eq_getElem->br,getElem?_eq_some_iff->bC,length_toList->bM,getElem?_eq_none->iR,getElem?_toList->i6,forIn_toList->mV,ext_getElem?->rR,replicate->vH,getD_eq_getD_getElem?->xn,getElem_toList->De,getD->Hk
open Bool renaming and_eq_true->ah,false_eq_true->ck,and_eq_true_iff->dR,not_eq_true'->gZ,eq_false_iff->g9,and_true->ip,or_true->mQ,true_and->oz,or_eq_true->pT,eq_iff_iff->pU,and_self->rQ,not_eq_true->Np,decide_and->NY,not_false->RB,and_assoc->RC
open Classical renaming propDecidable->nK,em->Jz
open Eq renaming symm->uX
open False renaming elim->cA
open ForInStep renaming yield->jC
open Iff renaming rfl->Nn
open Int renaming add_le_add->XL,emod_lt_of_pos->UV,natCast_nonneg->T0,ofNat->fE,ofNat_zero_le->fQ,lt_of_le_of_lt->gv,ofNat_le->ie,le_trans->ig,eq_ofNat_of_zero_le->ko,not_le->pS,natCast_pos->qm,toNat_natCast->uI,ofNat_lt->uJ,toNat->vE,not_le_of_gt->vG,le_of_eq->Dd,not_lt_of_ge->NX,emod_nonneg->RA
open Int.ofNat renaming inj->vF
open List renaming length->Z,getElem?_eq_getElem->ai,length_append->aj,mem_singleton->au,mem_append_right->aw,mem_append->ax,mem_cons->aA,length_map->aD,mem_append_left->aF,map_cons->aI,getElem?_eq_some_iff->aK,append_nil->aL,append_assoc->aM,getElem?_append_right->aQ,getElem?_append_left->aR,getElem?_map->aV,length_range->aW,range->aX,mem_of_getElem?->aY,nodup_cons->a6,replicate->bb,take_append_drop->bf,all_eq_true->bh,mem_range->bq,getElem_mem->bA,size_toArray->bF,length_pos_iff->bG,getElem?_replicate->bI,not_mem_nil->bV,getElem?_set_ne->bX,mem_map->bZ,length_cons->cg,take_of_length_le->cM,nodup_append->cO,mem_of_mem_take->cP,flatMap_singleton->cQ,exists_cons_of_length_eq_add_one->cW,mem_map_of_mem->dh,flatMap_append->di,getElem?_take->dz,map_append->dB,lookup_cons->dE,length_drop->dF,map_map->dM,mem_iff_getElem->dQ,map_congr_left->dY,perm_append_comm->eo,all_cons->eB,pairwise_append->eM,mem_flatMap->eN,getElem?_set_self->eZ,pairwise_iff_getElem->fi,drop_eq_getElem_cons->fj,pairwise_cons->fB,nodup_nil->fL,mem_of_mem_drop->fM,prefix_iff_eq_take->fO,drop_sublist->fP,length_eq_one_iff->fY,length->gh,nodup_range->gp,isEmpty_iff->gr,reverse_perm->gR,pairwise_map->gV,mem_of_mem_tail->gW,getElem?_of_mem->gY,length_take->iG,getElem?_cons_succ->iH,flatMap_nil->iJ,of_mem_zip->iX,length_replicate->ja,length_filter_le->jb,take_sublist->jd,getElem?_inj->je,perm_ext_iff_of_nodup->jt,drop_left->ju,mem_filter->jX,length_eq_zero_iff->j7,set_eq_take_append_cons_drop->km,take_take->kE,drop_eq_nil_of_le->kF,drop_drop->kG,pairwise_reverse->kY,getElem?_toArray->kZ,ext_getElem->lD,any_eq_true->lE,getElem_of_mem->me,take_zero->ng,mem_filterMap->ni,reverse_cons->nY,getElem?_set->nZ,pairwise_singleton->o9,cons_append->pe,length_set->pP,mem_iff_getElem?->qi,length_singleton->qj,getElem?_eq_none->qk,filterMap_cons->rH,any_cons->rP,getElem?_drop->tj,filter_append->tm,zipWith->um,map_inj_left->uo,ext_getElem?->uq,zipIdx_cons->uU,take_length->uV,drop_length->uW,take_append_of_le_length->vA,eq_nil_of_length_eq_zero->vB,drop_append_of_le_length->vC,length_zip->xj,forIn_cons->xm,take_left->xO,drop_zero->xP,drop_take->xQ,find?_range_eq_none->Aw,pairwise_filterMap->AI,filter_cons_of_pos->AJ,filter_cons_of_neg->AK,zipWith_cons_cons->CI,pairwise_lt_range->CJ,append_eq_nil_iff->CK,any_map->CL,dropLast_concat->E4,length_take_le->Hi,filter_sublist->Hj,zip_cons_cons->IZ,prefix_append->Ja,map_inj_right->Jb,length_modify->Jc,getElem_range->Jd,contains_cons->Je,tail_sublist->Jx,flatMap_cons->Jy,reverse_nil->Nk,perm_middle->Nl,getElem_map->Nm,zip_append->NP,zipIdx_nil->NQ,nil_prefix->NR,length_nil->NS,head?_drop->NT,head?_cons->NU,foldl_cons->NV,filter_nil->NW,tail_drop->Rx,map->Ry,forIn_nil->Rz
open List.Nodup renaming sublist->Ax
open List.Pairwise renaming imp_of_mem->lS,imp->pQ,nil->xS
open List.Perm renaming append_left->kn,trans->E5
open List.cons renaming injEq->gu,inj->iO
open Nat renaming mul_le_mul_left->ZB,le_of_lt_succ->XV,lt_of_mul_lt_mul_right->Xt,add_assoc->Xr,sub_le_of_le_add->WP,le_succ_of_le->WF,ne_of_lt->UF,add_le_add_left->Uf,add_sub_add_left->TW,lt_of_le_of_lt->TD,le_trans->af,le_of_eq->ag,le_refl->aq,lt_of_le_of_lt->az,le_of_lt->aE,le_antisymm->aH,lt_of_lt_of_le->aS,zero_le->aU,le_add_right->aZ,not_le_of_lt->a7,le_of_succ_le_succ->a8,ne_of_lt->ba,succ_le_succ->bc,lt_of_le_of_ne->bw,lt_irrefl->bH,le_of_not_lt->cj,pos_of_ne_zero->cu,lt_of_not_le->cC,lt_trans->cR,add_sub_cancel_left->dn,le_succ_of_le->du,add_le_add->eC,min_eq_left->eG,le_add_left->fS,zero_add->fZ,lt_or_ge->gf,add_sub_of_le->hZ,add_le_of_le_sub->ic,add_assoc->i9,lt_succ_of_le->jk,ne_of_gt->jE,lt_succ_self->jF,not_lt_zero->j1,min_le_left->j2,sub_add_cancel->j4,mod_lt->j5,add_right_comm->j6,add_le_add_left->mP,sub_self->mU,lt_trichotomy->ou,lt_succ_of_lt->oy,min_le_right->pE,add_lt_of_lt_sub->qR,le_max_right->vy,le_succ->xf,le_max_left->xw,sub_le->yY,le_of_add_le_add_left->Av,lt_add_of_pos_right->CH,le_add_right_of_le->C9,add_comm->Dc,lt_sub_of_add_lt->Hg,le_sub_of_add_le->Hh,add_sub_cancel->Jw,sub_lt_of_lt->NM,min_eq_right->NN,lt_add_right->NO
open Nat.succ renaming inj->dC
open Ne renaming symm->cB
open Option renaming bind_some->bp,bind->bu,isNone_iff_eq_none->dU,isSome_iff_exists->eh,map_some->eA,bind_eq_some_iff->iD,map->jQ,map_eq_some_iff->Au,getD_none->IY
open Option.some renaming inj->bL,injEq->jL
open Prod renaming ext->E3
open Prod.mk renaming injEq->qE
open PyProof.Rows renaming SortSt->bS,slot_tuple_getitem->dH,callWith_type1->fK,Keyed->jZ,AllBare->lI,lt_int->o8,SortKind->qC,callWith_builtin1->qD,listUpdate_at->Hf,subscriptTail_builtinR->Jt,IntsAre->Jv,tail_any->NI,seqEpoch_at->NJ,IsTup->NL
open PyProof.Rows.F renaming plain_set_update_loop->om,entry_set_update_loop->oo
open PyProof.Rows.IsTup renaming new->Ju
open PyProof.Rows.SortSt renaming mk'->mO
open PySem renaming Str->aa,Value->ak,Shared->ao,model->aC,wpAny->aG,sizeLine->aJ,Addr->aN,starEach->aP,Expr->a9,SetTable->bB,Heap->bJ,wpAny_mono->bO,Around->bP,Program->bW,wpAny_setField_rec->cH,wpAny_holding->cL,World->cU,wpAny_call_entry->cV,wpAny_field->dA,wpAny_callSpecial?_slot->dS,wpAny_seqItems->dW,wpAny_setState_of->eD,cLine->eE,wpAny_isInstance->eW,wpAny_newObj_type->fh,wpAny_Call_Name_kw->fN,codeAny_call_builtin->fR,mem_of_lookup->iC,Stmt->iE,FuncData->iF,wpAny_forIn_list->iV,codeAny_mono->jc,wpAny_specialOf->jl,wpAny_passesOwn->jm,wpAny_truthy_bool->jy,Builtin->jB,wpAny_typeOf->jU,wpAny_execs_nil->ku,codeAny_builtin->kA,wpAny_tupleItemsOf->kI,wpAny_rule->kJ,wpAny_getItem_str_slice->kO,NameKind->lH,wpAny_standAt->mL,wpAny_attempt->mM,sizeLine_eq->mS,GenState->mT,Obj->m8,Paired->nD,Scope->nR,wpAny_setField->oA,wpAny_loadPart_at->pK,PassesOwn->qz,wpAny_call->qO,IsPair->qP,wpAny_updateSeq->rq,wpAny_loadPart'->rA,post_val_or_str->rB,Pos->rC,isSubtype_tuple_tuple->rM,wpAny_updateSeq_pair->tz,wpAny_loadPart->tD,IsPart->tG,wpAny_onRaise->uS,wpAny_pyIter_list->xp,concat_meets->xt,wpAny_execs_cons->yS,wpAny_askSetting->yT,noFill_tuple_add->yU,placed->AD,wpAny_richCompare_same_room->CC,BindsTo->CG,wpAny_newTuple->CU,typeIs_str->CW,pyIter->CY,isSubtype_stop->CZ,Operator->C5,MulOk->C6,Env->C8,wpAny_comprehension_free->G8,seq_tuple_add->G9,plainId_quiet->Ha,call->Hb,Sem->He,wpAny_Call_method_late->Jo,seqIndex_neg->Jp,ExcBaseFacts->Jr,wpAny_pyIter_revIter->Ny,wpAny_of_eq->Nz,wpAny_letGo->NA,seqIndex_of->NB,wpAny_setEntries_of->Rq,wpAny_isSubtype_exc->Rt,Tok->Rv
open PySem.Builtin renaming bitAnd->Js
open PySem.Builtin.Frozenset renaming updateFrom->NF,sizeOf->NG,isAnySet->NH
open PySem.Builtin.List renaming listTooLong->jj,listLengthHint->kP,listSameRef->uk
open PySem.Builtin.Slice renaming slicePlaces->iW,sliceAdjust->tf
open PySem.Builtin.SmallTypes renaming nextOf->iQ
open PySem.Builtin.Str renaming occurrences->jA
open PySem.Builtin.Tuple renaming tupleHashOf->eR,tupleItemsOf->kX
open PySem.Calls renaming callWith_builtin->pD,evalArgs_plain->qB,spliced_cons->rO,spliced_nil->tJ,Name_function_global->xv
open PySem.Challenge renaming rw_dots_k35_no_reading->nH,pw_dots_k35_no_reading->nJ
open PySem.Code renaming quiet_builtin->nc
open PySem.Env renaming kindOf->tH
open PySem.F renaming slot_tuple_iterator_next->gG,slot_tuple_hash->iu,slot_list_append->jD,plainAttrs_list->jP,slot_zip_next->kB,slot_str_join->kC,type_list_append->nE,slot_list_extend->nF,args_tuple_add_2->nG,entry_tuple_add->nX,slot_tuple_add->oF,plainAttrs_str->oG,slot_tuple_eq->pC,args_tuple_iterator_next_1->qQ,entry_tuple_iterator_next->rG,excBase_ValueError->vv,excAttr_ValueError->vx,slot_dict_getitem->wZ,args_zip_next_1->xN,entry_zip_next->yW,entry_set_init->yX,type_str_join->An,slot_tuple_lt->Ao,slot_set_iter->Ap,slot_dict_get->Aq,entry_bexc_ga->As,called_set->C7,args_list_extend_2->Jq,entry_list_extend->Nj
open PySem.Heap renaming get?_push_size->aT,SameBut->dJ,get?_update_other->dT,get?_update_self->ei,size_push->jr,get?_none_of_le->lO,get?_update_ne->rE,ExtBut->E2
open PySem.Heap.SameBut renaming update->o7
open PySem.NameKind renaming free->eQ,cell->m9
open PySem.Obj renaming mapSeq->fD,data_mapFields->j3,mapFields->oE,isFreed_of_fields->qA,cls_mapFields->Ni
open PySem.Paired renaming length->xM
open PySem.PassesOwn renaming never->EZ
open PySem.ScopeKind renaming function->AH
open PySem.SeqAt renaming RcNeAt->AG,RcAt->Hc,EqAt->Hd
open PySem.SetTable renaming below->aO,Probe->bR,insertAt->dm,runEnd->ee,advance->eF,bits->eP,toList_insertAt->fo,sizeAbove->fX,leap->iP,grown->i8,turns->lW,slot->mZ,laid->m6,fits->m7,fill->qy,has->xK,layClean->C4,tooFull->EY,Met->Nh
open PySem.SetTable.below renaming go->lG
open PySem.SetTable.layClean renaming free->dG
open PySem.SetTable.probe renaming go->cG
open PySem.Str renaming ofString->ae
open PySem.Txt renaming slice->dv,join->pB,upper->tF,slice_le->AF
open PySem.Unicode renaming upperOf->uH
open PySem.Value renaming ref->bY,none->eY,type->jW,isStrOf->Ru
open PySem.W renaming Frag->aB,keepIn->dO,nsIn->fu,Looks->fV,kia_one->gD,exmOne->iq,OpenLaw->jI,looks_findIn->lF,hideAll_get->lN,kitOne->l8,findIn->l9,mg_of->nA,fnOf->oB,codeIn->pO,isFn->rN,WalkO->xu,cellsFrom_some->yV,looks_mroIn->Al,hideAll_none->AE,of_hideAll->C0,mg_none_of->C1,isNs_of_in->C2,callWith_K->C3,hideAll->IX,looks_clsIn->NC,kas_item->ND
open PySem.W.KF renaming type_class->CF
open PySem.W.Looks renaming ld->jV
open PySem.pickOrder renaming go->xq
open Sum renaming inr->bQ,inl->CS
open Sum.inl renaming inj->AB
open Sum.inr renaming inj->pN
open True renaming intro->lA
set_option Elab.async false
set_option compiler.extract_closed false
set_option linter.all false
set_option maxRecDepth 100000
set_option maxHeartbeats 4000000
def bT{α B:Type _}{x:ar α}{f:α->ar B}{b:B}(h:x.bind f=Y b):∃a,x=Y a/\f a=Y b:=iD.mp h
def eT{α B:Type _}{x:ar α}{f:α->B}{b:B}(h:x.map f=Y b):∃a,x=Y a/\f a=b:=Au.mp h
open PySem PySem.Spec in def wb9:=@wpAny_bind
open PySem PySem.Spec in def wu9:=@wpAny_pure
open PySem in def hp9:=@Heap.get?_push_of_some
open PySem in def hl9:=@Heap.lt_size
def jM{α:Type _}{a:α}{l:O α}:a∈a::l:=List.mem_cons_self
def jY{α:Type _}(y:α){a:α}{l:O α}(h:a∈l):a∈y::l:=List.mem_cons_of_mem y h
def cF{p:Prop}[ew p](h:decide p=U:=by rfl):p:=c5 h
theorem W:a=a:=rfl
theorem ac{G:Prop}(h:∀P:Prop,(G->P)->P):G:=h G id
def lw0{e f:T}(h:e<=f:=by simp +arith):e<=f:=h
def lwq{e f:T}(h:e=f:=by simp +arith):e=f:=h
def iY{a b e f:T}(h1:a<=b)(h:e+b<=f+a:=by simp +arith):e<=f:=Nat.le_of_add_le_add_right (af h (Uf h1 f))
def lQ{a b c d e f:T}(h1:a<=b)(h2:c<=d)(h:e+b+d<=f+a+c:=by simp +arith):e<=f:=iY (eC h1 h2) (by simpa only[Xr]using h)
def wc{a b c d i j e f:T}(h1:a<=b)(h2:c<=d)(h3:i<=j)(h:e+b+d+j<=f+a+c+i:=by simp +arith):e<=f:=iY (eC (eC h1 h2) h3) (by simpa only[Xr]using h)
def XN{a b c d i j k l e f:T}(h1:a<=b)(h2:c<=d)(h3:i<=j)(B:k<=l)(h:e+b+d+j+l<=f+a+c+i+k:=by simp +arith):e<=f:=iY (eC (eC (eC h1 h2) h3) B) (by simpa only[Xr]using h)
def abn{a b:T}(h1:a<=b)(h:b+1<=a:=by simp +arith):False:=a7 h h1
def VE{a b c d:T}(h1:a<=b)(h2:c<=d)(h:b+d+1<=a+c:=by simp +arith):False:=a7 h (eC h1 h2)
def VC{a b c d i j:T}(h1:a<=b)(h2:c<=d)(h3:i<=j)(h:b+d+j+1<=a+c+i:=by simp +arith):False:=a7 h (eC (eC h1 h2) h3)
def VB{a b c d i j k l:T}(h1:a<=b)(h2:c<=d)(h3:i<=j)(B:k<=l)(h:b+d+j+l+1<=a+c+i+k:=by simp +arith):False:=a7 h (eC (eC (eC h1 h2) h3) B)
def ws{a b:T}(h:b<=a):a - b+b<=a:=ic h (aq _)
def wt{a b:T}(h:b<=a):a<=a - b+b:=ag (j4 h).symm
def iw0{e f:cx}(h:e<=f:=by simp +arith):e<=f:=h
def Nv{a b e f:cx}(h1:a<=b)(h:e+b<=f+a:=by simp +arith):e<=f:=Int.le_of_add_le_add_right (Int.le_trans h (Int.add_le_add_left h1 f))
def iw2{a b c d e f:cx}(h1:a<=b)(h2:c<=d)(h:e+b+d<=f+a+c:=by simp +arith):e<=f:=Nv (XL h1 h2) (by simpa only[Int.add_assoc]using h)
def iw3{a b c d i j e f:cx}(h1:a<=b)(h2:c<=d)(h3:i<=j)(h:e+b+d+j<=f+a+c+i:=by simp +arith):e<=f:=Nv (XL (XL h1 h2) h3) (by simpa only[Int.add_assoc]using h)
def adj{a b:cx}(h1:a<=b)(h:b+1<=a:=by simp +arith):False:=Int.not_le.mpr h h1
def adi{a b c d:cx}(h1:a<=b)(h2:c<=d)(h:b+d+1<=a+c:=by simp +arith):False:=Int.not_le.mpr h (XL h1 h2)
def adh{a b c d i j:cx}(h1:a<=b)(h2:c<=d)(h3:i<=j)(h:b+d+j+1<=a+c+i:=by simp +arith):False:=Int.not_le.mpr h (XL (XL h1 h2) h3)
theorem a0(a b:T)(h:a<=b):a<=min a b:=Nat.le_min.mpr ⟨aq _,h⟩
theorem a1(a b:T)(h:b<=a):b<=min a b:=Nat.le_min.mpr ⟨h,aq _⟩
theorem a2(l r:T)(h:l+1<=r):l<=(l+r)/2/\(l+r)/2+1<=r:=by omega
theorem a3(l r:T)(h:l+1<=r):(r-l)/2+1<=r-l:=by omega
theorem a4{a b c d i j k l m n e f:T}(h1:a<=b)(h2:c<=d)(h3:i<=j)(B:k<=l)(C:m<=n)(h:e+b+d+j+l+n<=f+a+c+i+k+m:=by simp +arith):e<=f:=iY (eC (eC (eC (eC h1 h2) h3) B) C) (by simpa only[Xr]using h)
def wS(a b:T)(h:b<=a):a - b+b<=a:=ws h
def wT(a b:T):a<=a - b+b:=Nat.le_add_of_sub_le (aq _)
theorem ay(a b:T):a<=a-b+b:=wT a b
def wd(a:T):2 * (a / 2)<=a:=by omega
open PySem PySem.Spec PyProof.Rows
namespace L2
abbrev Key:=Sum cx aa
def yq:Key->ak->cc
 |.inl k,v=>Value.isInt k v
 |.inr x,v=>Ru x v
noncomputable def abw(w:cU):Key->cx
 |.inl k=>hashInt k
 |.inr x=>hashStr w x
def dq:∀{k:Key}{v:ak},yq k v=U->(∃i t,k=CS i/\v=Value.int i t)\/(∃x t,k=bQ x/\v=Value.str x t)
 |.inl i,v,h=>by
   obtain⟨t,e⟩:=Value.isInt_shape h;exact .inl ⟨i,t,W,e⟩
 |.inr x,v,h=>by
   obtain⟨t,e⟩:=Value.isStrOf_shape h;exact .inr ⟨x,t,W,e⟩
def Ie(i:cx)(t:Rv):yq (.inl i) (.int i t)=U:=by simp[yq,Value.isInt]
def Ib(x:aa)(t:Rv):yq (.inr x) (.str x t)=U:=by simp[yq,Ru]
def VX(a b:cx):decide ((CS a:Key)=CS b)=(a == b):=by
 grind
def VU(a b:aa):decide ((bQ a:Key)=bQ b)=decide (a=b):=by
 simp
def VW(a:cx)(b:aa):decide ((CS a:Key)=bQ b)=J:=c4 (λq=>nomatch q)
def VV(a:aa)(b:cx):decide ((bQ a:Key)=CS b)=J:=c4 (λq=>nomatch q)
def dN(prog:bW)(w:cU):PySem.KeyKind prog w Key where
 is:=yq
 hash:=abw w
 inj:=λv a b ha hb=>by
  rcases dq ha with⟨i,t,rfl,rfl⟩|⟨x,t,rfl,rfl⟩
  .rcases dq hb with⟨j,u,rfl,e⟩|⟨y,u,rfl,e⟩
   .injection e with e1 _;rw[e1]
   .exact nomatch e
  .rcases dq hb with⟨j,u,rfl,e⟩|⟨y,u,rfl,e⟩
   .exact nomatch e
   .injection e with e1 _;rw[e1]
 byValue:=λk v h=>by
  rcases dq h with⟨i,t,rfl,rfl⟩|⟨x,t,rfl,rfl⟩<;>rfl
 pyHash:=λc h=>by
  rcases dq c with⟨i,t,rfl,rfl⟩|⟨x,t,rfl,rfl⟩
  .exact wpAny_pyHash_int h
  .exact wpAny_pyHash_str h
 eqBool:=λd c h=>by
  rcases dq d with⟨i,t,rfl,rfl⟩|⟨x,t,rfl,rfl⟩
  .rcases dq c with⟨j,u,rfl,rfl⟩|⟨y,u,rfl,rfl⟩
   .rw[VX]at h;exact wpAny_eqBool_int h
   .rw[VW]at h;exact SeqAt.EqAt.int_str i t y u _ _ _ _ h
  .rcases dq c with⟨j,u,rfl,rfl⟩|⟨y,u,rfl,rfl⟩
   .rw[VV]at h;exact SeqAt.EqAt.str_int x t j u _ _ _ _ h
   .rw[VU]at h;exact wpAny_eqBool_str h
 «strs» :=λk x t v h=>by
  rcases dq h with⟨i,u,rfl,e⟩|⟨y,u,rfl,e⟩
  .exact nomatch e
  .injection e with e1 _
   subst e1;cases v<;>rfl
def By(prog:bW)(w:cU)(i:cx)(t:Rv):(dN prog w).is (.inl i) (.int i t)=U:=Ie i t
def Bx(prog:bW)(w:cU)(x:aa)(t:Rv):(dN prog w).is (.inr x) (.str x t)=U:=Ib x t
def Rh(h f:bJ):Prop:=∀b o,h.get? b=Y o->o.cls=.type "tuple"->(∃a n,o.data=.seq a n)->f.get? b=Y o
structure Ik(P:bW)(w:cU) where
 κ:Type
 d:T
 is:bJ->κ->ak->Prop
 hash:κ->cx
 draw:κ->T
 inj:∀{h:bJ}{x y:κ}{v:ak},is h x v->is h y v->x=y
 mW:∀{h h':bJ}{k:κ}{v:ak},Rh h h'->is h k v->is h' k v
 hsh:∀{A:bP}{E:ak->ao->Prop}{s:ao}{k:κ}{v:ak}{Q:cx->ao->Prop},A.units+d<=eE->is s.heap k v->Q (hash k) { s with toks:=s.toks+draw k }->aG (aC P w) A (pyHash v) Q E s
 eqb:∀{A:bP}{E:ak->ao->Prop}{s:ao}{x y:κ}{u v:ak}{Q:cc->ao->Prop},A.units+d<=eE->is s.heap x u->is s.heap y v->(x=y->Q U s)->(x≠y->Q J s)->aG (aC P w) A (eqBool u v) Q E s
 qui:∀{A:bP}{E:ak->ao->Prop}{s:ao}{k:κ}{v:ak}{Q:cc->ao->Prop}{n:T},d<=n->is s.heap k v->Q U s->aG (aC P w) A (eqIsQuiet n v) Q E s
 cla:∀{A:bP}{E:ak->ao->Prop}{s:ao}{k:κ}{v:ak}{Q:cc->ao->Prop}{n:T},d<=n->is s.heap k v->Q J s->aG (aC P w) A (e8 n v) Q E s
 hbv:∀{A:bP}{E:ak->ao->Prop}{s:ao}{k:κ}{v:ak}{Q:cc->ao->Prop}{n:T},d<=n->is s.heap k v->(∀b,Q b s)->aG (aC P w) A (gk n v) Q E s
section
variable{P:bW}{w:cU}{A:bP}{E:ak->ao->Prop}{z0:ao}{I:Ik P w}
def MO(B:carriedByValue v=U)(h:Q J z0):aG (aC P w) A (e8 n v) Q E z0:=by
 cases v<;>first|(cases B;done)|(exact wu9 h)|(cases n<;>(exact wu9 h))
def We(B:carriedByValue v=U)(h:∀b,Q b z0):aG (aC P w) A (gk n v) Q E z0:=by
 cases v<;>first|(cases B;done)|(unfold gk;exact wu9 (h _))|simp
abbrev Ig(P:bW)(w:cU):Ik P w where
 κ:=Key
 d:=0
 is:=λ_ k v=>(dN P w).is k v=U
 hash:=(dN P w).hash
 draw:=λ_=>1
 inj:=λex b=>(dN P w).inj _ _ _ ex b
 mW:=λ_ x=>x
 hsh:=λ_ a h=>(dN P w).pyHash a h
 eqb:=λ{A E s x y u v Q}_ ex b h1 h2=>(dN P w).eqBool ex b (by
  by_cases e:x=y
  .rw[c0 e];exact h1 e
  .rw[c4 e];exact h2 e)
 qui:=λ_ a h=>by rw[eqIsQuiet_byValue _ ((dN P w).byValue _ _ a)];exact wu9 h
 cla:=λ_ a h=>MO ((dN P w).byValue _ _ a) h
 hbv:=λ_ a h=>We ((dN P w).byValue _ _ a) h
inductive tu (I:Ik P w) (h:bJ):O I.κ->O ak->Prop
 |nil:tu I h [] []
 |cons {k:I.κ} {v:ak} {ks:O I.κ} {vs:O ak}:I.is h k v->tu I h ks vs->tu I h (k::ks) (v::vs)
def tw(I:Ik P w)(h:bJ)(f:O I.κ)(p:aN):Prop:=∃o a n,h.get? p=Y o/\o.cls=.type "tuple"/\o.data=.seq a n/\tu I h f a.toList
theorem tu.inj(ex:tu I h x vs)(B:tu I h y vs):x=y:=by
 induction ex generalizing y with
 |nil=>cases B;rfl
 |cons h1 _ a=>
   cases B with
   |cons h2 b=>rw[I.inj h1 h2,a b]
theorem tu.length(x:tu I h f vs):Z vs=Z f:=by
 induction x with
 |nil=>rfl
 |cons _ _ a=>simp[a]
theorem tu.mW(k:Rh h f)(x:tu I h B vs):tu I f B vs:=by
 induction x with
 |nil=>exact .nil
 |cons h1 _ a=>exact .cons (I.mW k h1) a
def tw.typeIs(x:tw I z0.heap f p):z0.TypeIs (.ref p) "tuple":=by obtain⟨o,_,_,go,a,_⟩:=x;exact⟨o,go,a⟩
def tw.inj(ex:tw I h x p)(B:tw I h y p):x=y:=by
 refine ac λ_ j=>?_;obtain⟨o,e,n,go,_,f,g⟩:=ex;obtain⟨k,b,i,c,_,a,d⟩:=B;obtain rfl:o=k:=bL (go.symm.trans c);apply j;rw[f]at a
 injection a with h1 _
 subst h1;exact g.inj d
def tw.mW(k:Rh h f)(x:tw I h B p):tw I f B p:=
 by obtain⟨o,a,n,h1,h2,h3,b⟩:=x;exact⟨o,_,n,k p o h1 h2 ⟨_,_,h3⟩,h2,h3,b.mW k⟩
def Z2{h f:bJ}(go:h.get? d=Y o)(B:o.cls≠.type "tuple")(k:∀b o,b≠d->h.get? b=Y o->f.get? b=Y o):Rh h f:=λb a e c _=>
 k b a (λz=>by
   simp_all) e
noncomputable def Gu(I:Ik P w)(f:O I.κ):cx:=reduceHash (eR (f.map I.hash))
def Em(R:A.units+(I.d+1)<=eE)(B:tw I z0.heap C p)(h:Q (Gu I C) { z0 with toks:=z0.toks+((C.map I.draw).sum+1) }) :
  aG (aC P w) A (pyHash (.ref p)) Q E z0:=by
 have gt:=B.typeIs;obtain⟨o,j,n,go,_,l,m⟩:=B
 first|unfold pyHashByItsType|skip
 first|refine wb9 (wpAny_cRoomFor_or (.inr (az (aZ _ _) R)) ?_)|skip
 refine wb9 (jl gt iu.lookup ?_);refine wb9 (jl gt iu.lookup ?_);refine wb9 (wpAny_callSpecialIfBoundUnlessNone?_slot gt iu (cV iu gt PySem.F.entry_tuple_hash ?_ (PySem.F.args_tuple_hash_1 _)));refine (?_ : aG _ _ (kX _ >>= _) _ _ z0);refine wb9 (kI go l ?_);apply wb9;rw[<-mV]
 refine iV _
  (λtl(b)c=>∃pre a,C=pre++a/\tu I _ a tl/\b.toList=pre.map I.hash/\c={ z0 with toks:=z0.toks+(pre.map I.draw).sum })
  _ ?_ ?_ _ _ ⟨[],C,W,m,W,W⟩
 .rintro x tl b c ⟨pre,a,rfl,e,f,rfl⟩
  cases e with
  | @cons k _ g _ h1 i=>
    refine wb9 (I.hsh ?_ h1 ?_)
    .grind
    first
     |exact wu9 ⟨pre++[k],g,by simp,i,by simp[f],by simp[i9]⟩
     |simp
 .rintro b c ⟨pre,a,rfl,e,f,rfl⟩;refine ac λ_ q=>?_;cases e;apply q;rw[aL]at h;show aG _ _ (retInt (eR _)) ..;rw[f];apply wpAny_ret_mkInt;refine (?_ : aG _ _ (if(decide (-(2) ^ 63<=eR (pre.map _)) && decide (eR (pre.map _)<2 ^ 63))=U then _ else _) Q E _);unfold Gu reduceHash at h;by_cases ge:(decide (-(2) ^ 63<=eR (pre.map I.hash)) && decide (eR (pre.map I.hash)<2 ^ 63))=U
  .rw[a5 ge];rw[a5 ge]at h;exact wu9 (by simpa [i9]using h)
  .rw[cb ge];rw[cb ge]at h;exact wb9 (kJ (wu9 (by simpa [i9]using h)))
def Mu(S:A.units+I.d<=eE)(ex:tw I z0.heap x p)(O':tw I z0.heap y b)(h1:x=y->R (.done (.ret (.bool U))) z0)(h2:x≠y->R (.done (.ret (.bool J))) z0) :
  aG (aC P w) A (jB.«tuple.__eq__» ⟨[.ref p,.ref b],[]⟩) R E z0:=by
 have l:=O'.typeIs;refine ac λ_ N=>?_;obtain⟨G,xs,na,m,_,n,o⟩:=ex;obtain⟨H,ys,nb,q,_,s,t⟩:=O';apply N;show aG _ _ (hT _ (.type _) >>= _) _ _ z0;refine wb9 (eW l rM ?_);refine wb9 (kI m n ?_);refine wb9 (kI q s ?_);apply wb9
 refine iV _
  (λtl r j=>r.1=L/\j=z0/\∃x' k a c,tl=List.zip a c/\tu I _ x' a/\tu I _ k c/\(x'=k↔x=y)/\(Z a == Z c)=(xs.size == ys.size))
  _ ?_ ?_ _ _ ⟨W,W,x,y,_,_,W,o,t,Nn,by simp⟩
 .rintro⟨u,v⟩ tl r j ⟨ge,rfl,x',k,a,c,gz,hx',X,Q,V⟩
  cases hx' with
  |nil=>simp at gz
  | @cons J' K z f D g=>
    cases X with
    |nil=>simp at gz
    | @cons L' M B h F i=>
      refine ac λ_ N=>?_;obtain⟨⟨rfl,rfl⟩,rfl⟩:=gz;apply N;refine wb9 (I.eqb S D F (λC=>?_) λC=>(wb9 (wu9 (wu9 (wu9 (h2 λe=>C (iO (Q.mpr e)).1))))))
      .refine wu9 ⟨W,W,z,B,f,h,W,g,i,?_,by simpa using V⟩
       simp_all
 .rintro⟨r1,r2⟩ j ⟨rfl,rfl,x',k,a,c,gz,hx',X,Q,V⟩;apply wu9;show R (.done (.ret (.bool (xs.size == ys.size)))) j;rw[<-V]
  cases hx' with
  |nil=>
    cases X with
    |nil=>exact h1 (Q.mp W)
    |cons _ _=>simp_all
  |cons _ _=>
    cases X with
    |nil=>simp_all
    |cons _ _=>simp at gz
def ZK{x y:O I.κ}{p b:aN}{Q:cc->ao->Prop}(f:A.units+(I.d+1)<=eE)(ex:tw I z0.heap x p)(B:tw I z0.heap y b)(h1:x=y->Q U z0)(h2:x≠y->Q J z0) :
  aG (aC P w) A (eqBool (.ref p) (.ref b)) Q E z0:=by
 unfold eqBool
 try with_reducible apply cL
 by_cases a:(bY p == bY b)=U
 .rw[a5 a];have e:p=b:=by simp_all
  clear f h2 a; subst e;obtain rfl:=ex.inj B;exact wb9 (kJ (wu9 (h1 W)))
 .rw[cb a]
  exact wb9 (CC ex.typeIs B.typeIs pC
   (cV pC ex.typeIs PySem.F.entry_tuple_eq (Mu (by exact iY f) ex B (λe=>⟨_,W,(λe=>nomatch e),jy (h1 e)⟩) λe=>⟨_,W,(λe=>nomatch e),jy (h2 e)⟩) (PySem.F.args_tuple_eq_2 _ _)) (az (aZ _ _) f))
def u6(C:I.d<=n)(B:tw I z0.heap F p)(h:Q U z0):aG (aC P w) A (eqIsQuiet (n+1) (.ref p)) Q E z0:=by
 have gt:=B.typeIs;obtain⟨o,e,m,go,_,f,g⟩:=B;unfold eqIsQuiet;refine wb9 (jl gt pC.lookup ?_);refine wb9 (eW gt rM ?_);refine wb9 (dW go f ?_);apply wb9;rw[<-mV];refine iV _ (λtl r a=>r.1=L/\a=z0/\∃l,tu I _ l tl) _ ?_ ?_ _ _ ⟨W,W,_,g⟩
 .rintro v tl r a ⟨ge,rfl,l,i⟩
  cases i with
  | @cons k _ b _ h1 c=>
    exact wb9 (I.qui C h1 (wu9 ⟨W,W,b,c⟩))
 .rintro⟨j,q⟩ a ⟨rfl,rfl,_⟩;exact wu9 h
def zZ(B:I.d<=n)(C:tw I z0.heap F p)(h:Q J z0):aG (aC P w) A (e8 (n+1) (.ref p)) Q E z0:=by
 obtain⟨o,e,m,go,f,g,i⟩:=C;unfold e8;refine wb9 (wpAny_typeOf_ref go ?_);rw[f];refine wb9 (wu9 ?_);refine wb9 (dW go g ?_);apply wb9;rw[<-mV];refine iV _ (λtl r a=>r.1=L/\a=z0/\∃l,tu I _ l tl) _ ?_ ?_ _ _ ⟨W,W,_,i⟩
 .rintro v tl r a ⟨ge,rfl,l,j⟩
  cases j with
  | @cons k _ b _ h1 c=>
    exact wb9 (I.cla B h1 (wu9 ⟨W,W,b,c⟩))
 .rintro⟨q,s⟩ a ⟨rfl,rfl,_⟩;exact wu9 h
def R7(C:I.d<=n)(B:tw I z0.heap F p)(h:∀b,Q b z0):aG (aC P w) A (gk (n+1) (.ref p)) Q E z0:=by
 have gt:=B.typeIs;obtain⟨o,f,m,go,q,g,i⟩:=B;refine wb9 (jl gt iu.lookup ?_);refine wb9 (dW go g ?_);apply wb9;rw[<-mV];refine iV _ (λtl r a=>r.1=L/\a=z0/\∃l,tu I _ l tl) _ ?_ ?_ _ _ ⟨W,W,_,i⟩
 .rintro v tl r a ⟨ge,rfl,l,j⟩
  cases j with
  | @cons k _ c _ h1 e=>
    refine wb9 (I.hbv C h1 λb=>?_);cases b
    .exact wu9 (wu9 (h _))
    .exact wu9 ⟨W,W,c,e⟩
 .rintro⟨s,t⟩ a ⟨rfl,rfl,_⟩;exact wu9 (h _)
abbrev tupI(I:Ik P w):Ik P w where
 κ:=Sum Key (O I.κ)
 d:=I.d+1
 is:=λh k v=>match k with
  |.inl k=>(dN P w).is k v=U
  |.inr r=>∃b,v=.ref b/\tw I h r b
 hash:=λk=>match k with
  |.inl k=>(dN P w).hash k
  |.inr r=>Gu I r
 draw:=λk=>match k with
  |.inl _=>1
  |.inr r=>(r.map I.draw).sum+1
 inj:=λ{h x y v}ex c=>by
  cases x with
  |inl k=>
    cases y with
    |inl C=>exact c8 _ ((dN P w).inj _ _ _ ex c)
    |inr r=>obtain⟨b,rfl,_⟩:=c;exact nomatch ((dN P w).byValue _ _ ex)
  |inr r=>
    obtain⟨b,rfl,q⟩:=ex
    cases y with
    |inl C=>exact nomatch ((dN P w).byValue _ _ c)
    |inr j=>obtain⟨p,e,l⟩:=c;cases e;exact c8 _ (q.inj l)
 mW:=λ{h D k v}q x=>by
  cases k with
  |inl k=>exact x
  |inr r=>obtain⟨b,e,z⟩:=x;exact⟨b,e,z.mW q⟩
 hsh:=λ{A E s k v Q}g a h=>by
  cases k with
  |inl k=>exact(dN P w).pyHash a h
  |inr r=>obtain⟨b,rfl,z⟩:=a;exact Em g z h
 eqb:=λ{A E s x y u v Q}g ex c h1 h2=>by
  cases x with
  |inl k=>
    cases y with
    |inl C=>exact(Ig P w).eqb (by show A.units+0<=eE;exact af (aZ _ _) g) ex c (λe=>h1 (by rw[e])) λe=>h2 λz=>e (AB z)
    |inr r=>
      obtain⟨b,rfl,o,B,n,go,m,gd,_⟩:=c;have ht:s.heap.IsTuple b B:=⟨o,go,m,n,gd⟩
      rcases dq ex with⟨i,t,rfl,rfl⟩|⟨z,t,rfl,rfl⟩
      .exact SeqAt.EqAt.int_tuple i t ht (az (aZ _ _) g) _ _ _ _ (h2 λe=>nomatch e)
      .exact SeqAt.EqAt.str_tuple z t ht (by omega) _ _ _ _ (h2 λe=>nomatch e)
  |inr r=>
    obtain⟨b,rfl,q⟩:=ex
    cases y with
    |inl C=>
      obtain⟨o,B,n,go,m,gd,_⟩:=q;have ht:s.heap.IsTuple b B:=⟨o,go,m,n,gd⟩
      rcases dq c with⟨i,t,rfl,rfl⟩|⟨z,t,rfl,rfl⟩
      .exact SeqAt.EqAt.tuple_int i t ht (by omega) _ _ _ _ (h2 λe=>nomatch e)
      .exact SeqAt.EqAt.tuple_str z t ht (by omega) _ _ _ _ (h2 λe=>nomatch e)
    |inr j=>
      obtain⟨p,rfl,l⟩:=c;exact ZK g q l (λe=>h1 (by rw[e])) λe=>h2 λz=>e (pN z)
 qui:=λ{A E s k v Q n}f a h=>by
  cases k with
  |inl k=>exact(Ig P w).qui (aU _) a h
  |inr r=>
    obtain⟨b,rfl,z⟩:=a
    cases n with
    |zero=>exact((a7 f (aU _))).elim
    |succ n=>exact u6 (a8 f) z h
 cla:=λ{A E s k v Q n}f a h=>by
  cases k with
  |inl k=>exact(Ig P w).cla (aU _) a h
  |inr r=>
    obtain⟨b,rfl,z⟩:=a
    cases n with
    |zero=>omega
    |succ n=>exact zZ (a8 f) z h
 hbv:=λ{A E s k v Q n}f a h=>by
  cases k with
  |inl k=>exact(Ig P w).hbv (aU _) a h
  |inr r=>
    obtain⟨b,rfl,z⟩:=a
    cases n with
    |zero=>omega
    |succ n=>exact R7 (a8 f) z h
end
abbrev N2:=Sum Key (O Key)
abbrev NK:=Sum Key (O N2)
noncomputable instance acx:ef N2:=hU
instance acw:ef NK:=hU
abbrev i2(P:bW)(w:cU):Ik P w:=tupI (Ig P w)
abbrev i3(P:bW)(w:cU):Ik P w:=tupI (i2 P w)
abbrev nIs(P:bW)(w:cU):bJ->NK->ak->Prop:=(i3 P w).is
abbrev Xo(P:bW)(w:cU):bJ->O NK->O ak->Prop:=tu (i3 P w)
abbrev rK(P:bW)(w:cU):bJ->O NK->aN->Prop:=tw (i3 P w)
abbrev eK(P:bW)(w:cU):O NK->cx:=Gu (i3 P w)
section
variable{A:bP}{z0:ao}
def Hn:(i3 P w).d<=7:=by show 2<=7;simp
def ZJ(B:A.units+3<=eE)(ex:rK P w z0.heap x p)(f:rK P w z0.heap y b)(h:Q (decide (x=y)) z0) :
  aG (aC P w) A (eqBool (.ref p) (.ref b)) Q E z0:=
 ZK B ex f (λe=>by simp_all) λe=>by simp_all
end
def Y6(P:bW)(w:cU):HeapKind P w (O NK) where
 is:=rK P w
 hash:=eK P w
 draws:=λm=>(m.map (i3 P w).draw).sum+1
 room:=λA=>A.units+3<=eE
 inj:=λex c=>ex.inj c
 keeps:=λ{h n k a d o p r}x go gd f=>x.mW λb s e _ ⟨j,l,q⟩=>(f.2 b λz=>by
  subst z;rw[go]at e;cases e
  rw[gd]at q;cases q).trans e
 pyHash:=λg i h=>Em g i h
 eqBool:=λg ex c h=>ZJ g ex c h
 quiet:=λi h=>u6 Hn i h
inductive V where
 |non|bl (b:cc)|int (i:cx)|str (x:aa)|byt (b:c7 UInt8)|flt (b:UInt64)|ref (a:aN)|ty (n:ej)
 deriving ef
def RelV:V->ak->Prop
 |.non,u=>u=eY
 |.bl b,u=>u=Value.bool b
 |.int i,u=>∃t,u=Value.int i t
 |.str x,u=>∃t,u=Value.str x t
 |.byt b,u=>∃t,u=Value.bytes b t
 |.flt b,u=>∃t,u=Value.float b t
 |.ref a,u=>u=bY a
 |.ty n,u=>u=jW n
abbrev df:O V->O ak->Prop:=nD RelV
def df.length(r:df xs us):Z xs=Z us:=xM r
theorem df.get:∀{xs:O V}{us:O ak}{i:T}{x:V},df xs us->xs[i]?=Y x->∃u,us[i]?=Y u/\RelV x u
 |_,_,_,_,.nil,e=>by simp at e
 |_,_,0,_,.cons r _,e=>by simp at e;subst e;exact⟨_,W,r⟩
 |_,_,i+1,x,.cons _ t,e=>by
   obtain⟨u,h1,h2⟩:=df.get t (by simpa using e);exact⟨u,by simpa using h1,h2⟩
theorem df.set(r:RelV x u):∀{xs:O V}{us:O ak}(i:T),df xs us->df (xs.set i x) (us.set i u)
 |_,_,_,.nil=>.nil
 |_,_,0,.cons _ t=>.cons r t
 |_,_,i+1,.cons q t=>.cons q (df.set r i t)
theorem df.append(h:df xs us)(s:df f vs):df (xs++f) (us++vs):=by
 induction h with
 |nil=>exact s
 |cons r _ i=>exact .cons r i
theorem df.take:∀{xs:O V}{us:O ak}(n:T),df xs us->df (xs.take n) (us.take n)
 |_,_,0,_=>.nil
 |_,_,_+1,.nil=>.nil
 |_,_,n+1,.cons r t=>.cons r (df.take n t)
theorem df.drop:∀{xs:O V}{us:O ak}(n:T),df xs us->df (xs.drop n) (us.drop n)
 |_,_,0,r=>r
 |_,_,_+1,.nil=>.nil
 |_,_,n+1,.cons _ t=>df.drop n t
def Ai:ar V->ar ak->Prop
 |some v,Y u=>RelV v u
 |none,L=>True
 |_,_=>False
def KV{κ:Type}:O (κ×V)->O (κ×ak)->Prop:=nD λ(p:κ×V)(q:κ×ak)=>p.1=q.1/\RelV p.2 q.2
def kV:Key->V
 |.inl i=>.int i
 |.inr x=>.str x
inductive HO where
 |lst (xs:O V)
 |tup (xs:O V)
 |dK (k_:O (Key×V))
 |xd (fs:O (aa×V))
 |nu (o:m8) (u:HO)
 |ext (φ:bJ->Prop)
abbrev Hp:=aN->ar HO
noncomputable def upd(H:Hp)(a:aN)(o:HO):Hp:=λb=>if b=a then Y o else H b
def bK:upd H a o a=Y o:=by unfold upd;rw[a5 W]
def cz(h:b≠a):upd H a o b=H b:=by unfold upd;rw[cb h]
def gP{H:Hp}{a b:aN}{o:HO}(h:H a=Y o)(f:H b=L):a≠b:=by
 intro e;simp_all
section
variable(P:bW)(w:cU)
def kj(H:Hp)(h:bJ)(a:aN):HO->Prop
 |.lst d=>Z d<=aJ/\∃(c:O ak) (n:T),df d c/\h.get? a=Y { cls:=.type "list",data:=.seq c.toArray n }
 |.tup d=>Z d<=aJ/\∃c:O ak,df d c/\NL h a c.toArray
 |.dK g=>Z g<=aJ/\(a == fb)=J/\∃vs,KV g vs/\h.DictOf (dN P w) a vs
 |.xd fs=>∃b,h.Ns1 a b/\∀f,Ai (fs.lookup f) (b f)
 |.nu o u=>h.get? a=Y o/\kj H h a u
 |.ext e=>e h/\(∃o,h.get? a=Y o)/\∀h1 h2:bJ,e h1->(∀o,h1.get? a=Y o->h2.get? a=Y o)->e h2
def rL(H:Hp)(h:bJ):Prop:=∀a o,H a=Y o->kj P w H h a o
end
section
variable{P:bW}{w:cU}{H:Hp}{h h':bJ}{a:aN}{o:HO}
theorem kj.lt(x:kj P w H h a o):a<h.objs.size:=by
 cases o with
 |lst c=>obtain⟨_,_,_,_,e⟩:=x;exact hl9 e
 |tup c=>obtain⟨_,_,_,p⟩:=x;exact p.lt
 |dK d=>obtain⟨_,_,_,_,o,_,_,e,_⟩:=x;exact hl9 e
 |xd fs=>obtain⟨_,⟨_,_,_,e,_⟩,_⟩:=x;exact hl9 e
 |nu b u=>exact hl9 x.1
 |ext f=>obtain⟨_,⟨_,e⟩,_⟩:=x;exact hl9 e
def kj.mW(x:kj P w H h a o)(k:∀u,h.get? a=Y u->h'.get? a=Y u):kj P w B h' a o:=by
 induction o with
 |lst l=>obtain⟨z,g,n,r,e⟩:=x;exact⟨z,_,n,r,k _ e⟩
 |tup l=>obtain⟨z,g,r,b,e,c⟩:=x;exact⟨z,_,r,b,k _ e,c⟩
 |dK m=>obtain⟨z,y,vs,r,b,i,j,e,c⟩:=x;exact⟨z,y,vs,r,b,i,j,k _ e,c⟩
 |xd fs=>obtain⟨d,⟨od,i,j,e,c⟩,r⟩:=x;exact⟨d,⟨od,i,j,k _ e,c⟩,r⟩
 |nu b u f=>exact⟨k _ x.1,f x.2⟩
 |ext q=>obtain⟨p,⟨o,e⟩,st⟩:=x;exact⟨st _ _ p k,⟨o,k _ e⟩,st⟩
def rL.lt(x:rL P w H h)(e:H a=Y o):a<h.objs.size:=(x a o e).lt
def rL.fresh(x:rL P w H h)(e:h.objs.size<=a):H a=L:=by
 cases q:H a with
 |none=>rfl
 |some u=>exact absurd (aS (x.lt q) e) (bH _)
def rL.kept(x:rL P w H h)(k:∀b u,h.get? b=Y u->h'.get? b=Y u):rL P w H h':=λa o e=>
 (x a o e).mW (k a)
def rL.laid(x:rL P w H h)(k:∀b u,h.get? b=Y u->h'.get? b=Y u)(hp:h.objs.size<=a)(new:kj P w (upd H a o) h' a o):rL P w (upd H a o) h':=λb u e=>by
 by_cases hb:b=a
 .subst hb;rw[bK]at e;cases e;exact new
 .rw[cz hb]at e;exact(x b u e).mW (k b)
end
def Rd(H:Hp)(a:aN)(u:HO):Prop:=H a=Y u\/∃o,H a=Y (.nu o u)
def Rd.ok(r:Rd H a u)(x:rL P w H h):kj P w H h a u:=by
 rcases r with r|⟨o,r⟩
 .exact x a u r
 .exact (x a _ r).2
def Mut:ar HO->Prop
 |some (.lst _)=>True
 |some (.dK _)=>True
 |some (.ext _)=>True
 |_=>False
section
variable{h':bJ}
def rL.write(ok:rL P w H h)(k:∀b u,b≠x->h.get? b=Y u->h'.get? b=Y u)(new:kj P w (upd H x f) h' x f):rL P w (upd H x f) h':=λb u q=>by
 by_cases hb:b=x
 .clear ok k; subst hb;rw[bK]at q;cases q;exact new
 .rw[cz hb]at q;exact(ok b u q).mW λv=>k b v hb
end
structure Un(fs ex:O aN)(H H':Hp)(h h':bJ):Prop where
 keep:∀b o,h.get? b=Y o->H b=L->b∉fs->b∉ex->h'.get? b=Y o
 slot:∀b o,h.get? b=Y o->H b=L->b∈fs->b∉ex->∃sl,h'.get? b=Y { o with slots:=sl }
 free:∀b o,h.get? b=Y o->H b=L->b∉ex->H' b=L
 there:∀b o,h.get? b=Y o->b∉ex->∃o',h'.get? b=Y o'
 tups:∀b xs,H b=Y (.tup xs)->H' b=Y (.tup xs)
 frzs:∀b o u,H b=Y (.nu o u)->H' b=Y (.nu o u)
section
variable{h h':bJ}
def Un.any(u:Un fs ex H C h h1)(q:h.get? b=Y f)(n:H b=L)(B:b∉ex):∃sl,h1.get? b=Y { f with slots:=sl }:=by
 by_cases hb:b∈fs
 .exact u.slot b f q n hb B
 .exact⟨_,u.keep b f q n hb B⟩
def Un.kept(k:∀b u,h.get? b=Y u->h'.get? b=Y u):Un fs ex H H h h':=
 ⟨λb a q _ _ _=>k b a q,λb a q _ _ _=>⟨_,k b a q⟩,λ_ _ _ n _=>n,λb a q _=>⟨a,k b a q⟩,λ_ _ q=>q,λ_ _ _ q=>q⟩
def Un.refl:Un fs ex H H h h:=Un.kept λ_ _ q=>q
def Un.laid(k:∀b u,h.get? b=Y u->h'.get? b=Y u)(hp:h.objs.size<=a)(B:H a=L):Un fs ex H (upd H a o) h h' where
 keep:=λb u q _ _ _=>k b u q
 slot:=λb u q _ _ _=>⟨u.slots,k b u q⟩
 free:=λb u q n _=>by rw[cz (ba (aS (hl9 q) hp))];exact n
 there:=λb u q _=>⟨u,k b u q⟩
 tups:=λb c q=>by rw[cz (gP q B)];exact q
 frzs:=λb u c q=>by rw[cz (gP q B)];exact q
def Un.write(B:Mut (H x))(k:∀b u,b≠x->h.get? b=Y u->h'.get? b=Y u)(f:∃u,h'.get? x=Y u):Un fs ex H (upd H x o) h h':=by
 have c:∀b,H b=L->b≠x:=λb n z=>by clear k f; subst z;rwa[n]at B
 have d:∀b u,H b=Y u->¬Mut (Y u)->b≠x:=λb u q nm z=>by clear k f c; subst z;rw[q]at B;exact nm B
 refine⟨λb u q n _ _=>k b u (c b n) q,λb u q n _ _=>⟨_,k b u (c b n) q⟩,λb u q n _=>by rwa[cz (c b n)],λb u q _=>?_,
  λb e q=>by rwa[cz (d b _ q λz=>z)],λb u e q=>by rwa[cz (d b _ q λz=>z)]⟩
 by_cases a:b=x
 .clear B k c d q; subst a;exact f
 .exact⟨u,k b u a q⟩
end
noncomputable def trk(h:bJ)(H:Hp):O aN:=(aX h.objs.size).filter λa=>(H a).isSome
def BO(h:bJ)(H:Hp):bJ:=IX h (trk h H)
def Ip(h:bJ)(H:Hp):(BO h H).objs.size=h.objs.size:=PySem.W.hideAll_size _ _
def LZ{h:bJ}(e:h.get? b=Y o)(n:H b=L):(BO h H).get? b=Y o:=
 PySem.W.hideAll_get _ e λa=>by
  have q :=(jX.mp a).2;rw[n]at q;simp at q
def PK(e:(BO h H).get? b=Y o):h.get? b=Y o/\H b=L:=by
 have a :=PySem.W.of_hideAll _ e;refine⟨a,?_⟩
 cases q:H b with
 |none=>rfl
 |some x=>
   have z:(BO h H).get? b=L:=PySem.W.hideAll_none _ (jX.mpr ⟨bq.mpr (hl9 a),by simp[q]⟩);rw[z]at e;cases e
structure Mod(K:aB)(mg:aa->ar ak)(base:bJ):Prop where
 kin:K.In base
 glob:base.Ns c9 mg
 blt:∃mb,base.Ns k7 mb/\∀x:aa,x≠"__name__"->mb x=dt x
 nolimit:base.NoLimit
structure Cx where
 prog:bW
 w:cU
 K:aB
 mg:aa->ar ak
 base:bJ
 A:bP
 N:O aa
 s₀:ao
 H₀:Hp
 env:C8
 outer:O C8
 stack:O C8
 ex:O aN
 fn:aa->cc
 calm:cc
 pn:O (aN×m8)
 xe:ak->ao->Prop
def uP(l:O C8):O aN:=l.filterMap (·.frame)
abbrev Cx.fs(X:Cx):O aN:=uP X.outer
def M9(sc:nR)(x:aa):Prop:=sc.names.lookup x=Y .local\/sc.names.lookup x=Y .cell\/sc.names.lookup x=Y .free
def Loc(sc:nR)(x:aa):Prop:=sc.names.lookup x=Y .local\/sc.names.lookup x=Y .cell
def Look(env:C8)(h:bJ)(m:aa->ar ak)(x:aa)(u:ak):Prop:=
 (env.kindOf x=Y .local/\m x=Y u)\/((env.kindOf x=Y .cell\/env.kindOf x=Y .free)/\∃c,env.cells.lookup x=Y c/\h.IsCell c (Y u))
structure Cx.Ok(X:Cx):Prop where
 mod:Mod X.K X.mg X.base
 kind:X.env.scope.kind=.function
 glob:X.env.globals=c9
 blt:X.env.builtins=k7
 above:X.s₀.heap.objs.size<=X.env.locals
 inj:∀x y c,X.env.cells.lookup x=Y c->X.env.cells.lookup y=Y c->x=y
 has:∀x,(X.env.kindOf x=Y .cell\/X.env.kindOf x=Y .free)->∃c,X.env.cells.lookup x=Y c
 cab:∀x c,X.fn x=U->X.env.cells.lookup x=Y c->X.s₀.heap.objs.size<=c
 hd:X.calm=U->X.A.handled=L
 frames:X.A.frames=Y X.stack
 Ay:X.stack=X.outer\/(X.stack=X.env::X.outer/\X.env.frame=Y X.env.locals)
 exf:∀b∈X.ex,b≠X.env.locals/\∀x c,X.env.cells.lookup x=Y c->c≠b
 bs:∀b o,X.base.get? b=Y o->X.s₀.heap.get? b=Y o/\X.H₀ b=L
 bsz:X.base.objs.size<=X.s₀.heap.objs.size
 noex:∀b o,X.base.get? b=Y o->b∉X.ex
 exfs:∀b∈X.ex,b∉X.fs
 sL:X.s₀.heap.FunFrames X.base X.outer
 frf:∀b∈X.fs,X.H₀ b=L
structure Inv(X:Cx)(h_:O (aN×m8))(σ:O (ar V))(H:Hp)(s:ao):Prop where
 ok:X.Ok
 os:s.os=X.s₀.os
 bare:lI s.gens
 base:Un X.fs X.ex X.H₀ H X.s₀.heap s.heap
 loc:∃m,s.heap.Ns X.env.locals m/\∀(i:T)(x:aa)(v:V),X.N[i]?=Y x->σ[i]?=Y (Y v)->M9 X.env.scope x->∃u,RelV v u/\Look X.env s.heap m x u
 cell:∀x c,X.env.cells.lookup x=Y c->∃v,s.heap.IsCell c v
 free:H X.env.locals=L
 freeC:∀x c,X.env.cells.lookup x=Y c->H c=L
 pin:∀p∈X.pn++h_,s.heap.get? p.1=Y p.2/\H p.1=L/\p.1≠X.env.locals/\p.1∉X.fs/\∀v,p.2.data≠.cell v
 hok:rL X.prog X.w H s.heap
 len:Z σ=Z X.N
section
variable{X:Cx}{h_:O (aN×m8)}{σ:O (ar V)}{H:Hp}{s:ao}{h':bJ}
def Cx.Ok.Vh(ok:X.Ok)(e:X.base.get? b=Y o):b∉X.fs:=λhb=>by
 have:=(ok.sL.mem hb).1
 simp_all
def Inv.bs(I:Inv X h_ σ H s):∀b o,X.base.get? b=Y o->s.heap.get? b=Y o/\H b=L:=λb o e=>
 ⟨I.base.keep b o (I.ok.bs b o e).1 (I.ok.bs b o e).2 (I.ok.Vh e) (I.ok.noex b o e),I.base.free b o (I.ok.bs b o e).1 (I.ok.bs b o e).2 (I.ok.noex b o e)⟩
def Inv.bk(I:Inv X h_ σ H s):∀b o,X.base.get? b=Y o->s.heap.get? b=Y o:=λb o e=>(I.bs b o e).1
def Inv.mod(I:Inv X h_ σ H s):Mod X.K X.mg X.base:=I.ok.mod
def Inv.wu(I:Inv X h_ σ H s):X.K.In s.heap:=I.ok.mod.kin.keeps I.bk
def Inv.lt(I:Inv X h_ σ H s):X.env.locals<s.heap.objs.size:=by obtain⟨_,a,_⟩:=I.loc;exact a.lt
def Inv.sz(I:Inv X h_ σ H s):X.s₀.heap.objs.size<=s.heap.objs.size:=af I.ok.above (aE I.lt)
def Inv.Y3(I:Inv X h_ σ H s)(h:s.heap.objs.size<=a):a∉X.fs:=λhb=>by
 obtain⟨_,o,ho,_⟩:=I.ok.sL.mem hb;exact absurd (aS (hl9 ho) (af I.sz h)) (bH _)
def Inv.Sm(I:Inv X h_ σ H s):∀x c,X.env.cells.lookup x=Y c->c≠X.env.locals:=λx c e z=>by
 obtain⟨v,o,ho,hd⟩:=I.cell x c e;obtain⟨m,⟨d,f,g,a,b,_⟩,_⟩:=I.loc
 grind
theorem Inv.sL(I:Inv X h_ σ H s):s.heap.FunFrames X.base X.outer:=by
 have all:∀(l:O C8),(∀b∈uP l,b∈X.fs)->X.s₀.heap.FunFrames X.base l->s.heap.FunFrames X.base l:=by
  intro l
  induction l with
  |nil=>intro _ _;trivial
  |cons env r c=>
    intro hs hl;obtain⟨hk,⟨g,o,hf,d,ho,hd⟩,f⟩:=hl;have a :=hs g (by unfold uP;simp_all);obtain⟨sl,e⟩:=I.base.slot g o ho (I.ok.frf g a) a λz=>I.ok.exfs g z a;exact⟨hk,⟨g,_,hf,d,e,hd⟩,c (λb hb=>hs b (by unfold uP;rw[rH,hf];exact jY _ hb)) f⟩
 exact all _ (λ_ hb=>hb) I.ok.sL
def Inv.stack(I:Inv X h_ σ H s):s.heap.FunFrames X.base X.stack:=by
 rcases I.ok.Ay with e|⟨e,hf⟩
 .rw[e];exact I.sL
 .rw[e];obtain⟨m,a,_⟩:=I.loc;exact .cons (by rw[I.ok.kind];decide) hf a (lO (af I.ok.bsz I.ok.above)) I.sL
def Inv.vM(I:Inv X h_ σ H s):∀b∈uP X.stack,b∈X.env.locals::X.fs:=λb hb=>by
 rcases I.ok.Ay with e|⟨e,hf⟩
 .simp_all
 .rw[e]at hb;unfold uP at hb;rwa[rH,hf]at hb
def Inv.zi(I:Inv X h_ σ H s):∀b∈uP X.stack,H b=L:=λb hb=>by
 rcases aA.mp (I.vM b hb)with e|hb
 .rw[e];exact I.free
 .obtain⟨_,o,ho,_⟩:=I.ok.sL.mem hb;exact I.base.free b o ho (I.ok.frf b hb) λz=>I.ok.exfs b z hb
def Inv.step{g':c7 mT}{t':T}{P:Drawn}{ch:O aN}(I:Inv X h_ σ H s)
  (B:∀b∈ch,(b∈X.ex\/X.s₀.heap.objs.size<=b)/\b≠X.env.locals/\(∀x c,X.env.cells.lookup x=Y c->c≠b)/\∀p∈X.pn++h_,p.1≠b)
  (keep:∀b o,b≠X.env.locals->b∉X.fs->b∉ch->s.heap.get? b=Y o->H b=L->h'.get? b=Y o)
  (slot:∀b o,b≠X.env.locals->b∈X.fs->b∉ch->s.heap.get? b=Y o->H b=L->∃sl,h'.get? b=Y { o with slots:=sl })(free:∀b o,b∉ch->s.heap.get? b=Y o->H b=L->F b=L)
  (there:∀b o,b∉ch->s.heap.get? b=Y o->∃C,h'.get? b=Y C)
  (tups:∀b xs,H b=Y (.tup xs)->F b=Y (.tup xs))(frzs:∀b o u,H b=Y (.nu o u)->F b=Y (.nu o u))
  (ns:∀m,s.heap.Ns X.env.locals m->h'.Ns X.env.locals m)(hok:rL X.prog X.w F h')(R:lI g') :
  Inv X h_ σ F { s with heap:=h',gens:=g',drawn:=P,toks:=t' }:=by
 have g:∀b o,X.s₀.heap.get? b=Y o->b∉X.ex->b∉ch:=λb o e a hb=>by
  rcases(B b hb).1 with z|z
  .exact a z
  .exact absurd (aS (hl9 e) z) (bH _)
 have cellK:∀x c,X.env.cells.lookup x=Y c->∀v,s.heap.IsCell c v->h'.IsCell c v:=λx c e v A=>by
  obtain⟨o,ho,hd⟩:=A;have f :=λz=>(B c z).2.2.1 x c e W;by_cases hc:c∈X.fs
  .obtain⟨sl,q⟩:=slot c o (I.Sm x c e) hc f ho (I.freeC x c e);exact⟨_,q,hd⟩
  .exact⟨o,keep c o (I.Sm x c e) hc f ho (I.freeC x c e),hd⟩
 refine⟨I.ok,I.os,R,⟨λb o e n hb a=>(keep b o ((λb o e=>ba (aS (hl9 e) I.ok.above)) b o e) hb (g b o e a) (I.base.keep b o e n hb a) (I.base.free b o e n a)),λb o e n hb a=>?_,λb o e n a=>?_,λb o e a=>?_,λb xs e=>tups b xs (I.base.tups b xs e),λb o xs e=>frzs b o xs (I.base.frzs b o xs e)⟩,?_,λx c e=>?_,?_,λx c e=>?_,λp hp=>?_,hok,I.len⟩
 .obtain⟨sl,h⟩:=I.base.slot b o e n hb a;obtain⟨j,y⟩:=slot b _ ((λb o e=>ba (aS (hl9 e) I.ok.above)) b o e) hb (g b o e a) h (I.base.free b o e n a);exact⟨j,y⟩
 .obtain⟨C,h⟩:=I.base.there b o e a;exact free b C (g b o e a) h (I.base.free b o e n a)
 .obtain⟨C,h⟩:=I.base.there b o e a;exact there b C (g b o e a) h
 .obtain⟨m,t,hl⟩:=I.loc;refine⟨m,ns m t,λi x v h y D=>?_⟩;obtain⟨u,r,l⟩:=hl i x v h y D;refine⟨u,r,?_⟩
  rcases l with l|⟨k,c,e,z⟩
  .exact .inl l
  .exact .inr ⟨k,c,e,cellK x c e _ z⟩
 .obtain⟨v,z⟩:=I.cell x c e;exact⟨v,cellK x c e v z⟩
 .obtain⟨m,⟨o,_,_,ho,_⟩,_⟩:=I.loc;exact free _ o (λz=>(B _ z).2.1 W) ho I.free
 .obtain⟨v,o,ho,hd⟩:=I.cell x c e;exact free c o (λz=>(B c z).2.2.1 x c e W) ho (I.freeC x c e)
 .obtain⟨e,n,ne,nf,d⟩:=I.pin p hp;have f :=λz=>(B _ z).2.2.2 p hp W;exact⟨keep _ _ ne nf f e n,free _ _ f e n,ne,nf,d⟩
def Inv.un(I:Inv X h_ σ H s)(u:Un X.fs [] H B s.heap h')(hok:rL X.prog X.w B h'):Inv X h_ σ B { s with heap:=h',toks:=t' }:=by
 refine ac λ_ i=>?_;obtain⟨m,⟨o,k,l,ho,r⟩,_⟩:=id I.loc;obtain⟨sl,d⟩:=u.any ho I.free (by simp)
 apply i;exact I.step (ch:=[]) (λ_ z=>nomatch z) (λb o _ hb _ e n=>u.keep b o e n hb (by simp)) (λb o _ hb _ e n=>u.slot b o e n hb (by simp)) (λb o _ e n=>u.free b o e n (by simp)) (λb o _ e=>u.there b o e (by simp)) u.tups u.frzs (λh f=>by
  obtain⟨p,j,c,a,g⟩:=f;rw[ho]at a;cases a
  exact⟨_,_,c,d,g⟩) hok I.bare
def Inv.call(I:Inv X h_ σ H s)(u:Un (uP X.stack) ch H C s.heap h')(hok:rL X.prog X.w C h')(F:lI g')
  (B:∀b∈ch,(b∈X.ex\/X.s₀.heap.objs.size<=b)/\b≠X.env.locals/\(∀x c,X.env.cells.lookup x=Y c->c≠b)/\∀p∈X.pn++h_,p.1≠b) :
  Inv X h_ σ C { s with heap:=h',gens:=g',drawn:=P,toks:=t' }:=by
 refine ac λ_ j=>?_;obtain⟨m,⟨o,l,q,ho,r⟩,_⟩:=id I.loc;obtain⟨sl,d⟩:=u.any ho I.free λz=>(B _ z).2.1 W
 apply j;exact I.step B (λb o d hb hc e n=>u.keep b o e n (λz=>(aA.mp (I.vM b z)).elim d hb) hc) (λb o _ _ hc e n=>u.any e n hc) (λb o hc e n=>u.free b o e n hc) (λb o hc e=>u.there b o e hc) u.tups u.frzs (λi g=>by
  obtain⟨t,k,f,a,h⟩:=g;rw[ho]at a;cases a
  exact⟨_,_,f,d,h⟩) hok F
def Inv.turned(I:Inv X h_ σ H s)(k:∀b o,b≠it->s.heap.get? b=Y o->h'.get? b=Y o)(f:H it=L)(B:it≠X.env.locals)
  (h1:it∈X.ex\/X.s₀.heap.objs.size<=it)(h2:∀x c,X.env.cells.lookup x=Y c->c≠it)(h3:∀p∈X.pn++h_,p.1≠it):Inv X h_ σ H { s with heap:=h',toks:=t' }:=by
 refine I.step (ch:=[it]) (λb hb=>?_) (λb o _ _ hc e _=>k b o (λz=>hc (by simp[z])) e) (λb o _ _ hc e _=>⟨_,k b o (λz=>hc (by simp[z])) e⟩) (λ_ _ _ _ n=>n)
  (λb o hc e=>⟨o,k b o (λz=>hc (by simp[z])) e⟩) (λ_ _ e=>e) (λ_ _ _ e=>e) (λm d=>?_) (λb u e=>((I.hok b u e).mW λv=>k b v ((λb u e z=>by simp_all) b u e))) I.bare
 .have e:b=it:=by simpa using hb
  clear I k f hb; subst e;exact⟨h1,B,h2,h3⟩
 .obtain⟨o,a,g,ho,r⟩:=d;exact⟨o,a,g,k _ o (cB B) ho,r⟩
def Inv.tok(I:Inv X h_ σ H s)(t:T):Inv X h_ σ H { s with toks:=t }:=I.un Un.refl I.hok
def Inv.kept(I:Inv X h_ σ H s)(k:∀b u,s.heap.get? b=Y u->h'.get? b=Y u):Inv X h_ σ H { s with heap:=h',toks:=t' }:=I.un (Un.kept k) (I.hok.kept k)
def Inv.laid(I:Inv X h_ σ H s)(k:∀b u,s.heap.get? b=Y u->h'.get? b=Y u)(hp:s.heap.objs.size<=a)(new:kj X.prog X.w (upd H a o) h' a o) :
  Inv X h_ σ (upd H a o) { s with heap:=h',toks:=t' }:=I.un (Un.laid k hp (I.hok.fresh hp)) (I.hok.laid k hp new)
def Inv.write(I:Inv X h_ σ H s)(f:Mut (H x))(k:∀b u,b≠x->s.heap.get? b=Y u->h'.get? b=Y u)(B:∃u,h'.get? x=Y u)
  (new:kj X.prog X.w (upd H x o) h' x o):Inv X h_ σ (upd H x o) { s with heap:=h',toks:=t' }:=I.un (Un.write f k B) (I.hok.write k new)
def Inv.weak{B:O (ar V)}(I:Inv X h_ σ H s)(hl:Z B=Z σ)(w:∀(i:T)v,B[i]?=Y (Y v)->σ[i]?=Y (Y v)):Inv X h_ B H s:=
 ⟨I.ok,I.os,I.bare,I.base,let ⟨m,b,a⟩:=I.loc;⟨m,b,λi x v c d e=>a i x v c (w i v d) e⟩,I.cell,I.free,I.freeC,I.pin,I.hok,hl.trans I.len⟩
def Inv.rZ(I:Inv X h_ σ H s)(h:∀p∈f,s.heap.get? p.1=Y p.2/\H p.1=L/\p.1≠X.env.locals/\p.1∉X.fs/\∀v,p.2.data≠.cell v):Inv X f σ H s:=
 ⟨I.ok,I.os,I.bare,I.base,I.loc,I.cell,I.free,I.freeC,λp hp=>(ax.mp hp).elim (λz=>I.pin p (aF _ z)) (h p),I.hok,I.len⟩
def Bs{N:O aa}(B:N.Nodup){i j:T}{x:aa}(a:N[i]?=Y x)(b:N[j]?=Y x):i=j:=by
 exact(List.getElem_inj B).mp ((aK.mp a).2.trans (aK.mp b).2.symm)
def Hv(I:Inv X h_ σ H s)(c3:X.N.Nodup)(hi:X.N[i]?=Y x)(B:Loc X.env.scope x)(r:RelV v u)
  (h:∀s',Inv X h_ (σ.set i (Y v)) H s'->(∃a,dJ a s.heap s'.heap/\(a=X.env.locals\/X.env.cells.lookup x=Y a))->Q () s')(hf:X.fn x=U\/X.env.scope.names.lookup x=Y .local):aG M A (storeName X.env x u) Q E s:=by
 obtain⟨m,G,hl⟩:=id I.loc;have f:i<Z σ:=by rw[I.len];exact(aK.mp hi).1
 have tracked:∀{a:aN}{h':bJ},(∃o,s.heap.get? a=Y o/\H a=L)->dJ a _ h'->rL _ _ H h':=λ{a h'}ha hs b t e=>by
  obtain⟨_,_,J'⟩:=ha;refine(I.hok b t e).mW λK q=>(hs.2 b ?_).trans q;rintro rfl
  simp_all
 rcases B with hk|hk
 .refine wpAny_storeName_local hk G (λh' L' hs=>?_) (by rw[I.ok.kind];rfl);obtain⟨w,_,_,O',_⟩:=id G;refine h _ ⟨I.ok,I.os,I.bare,⟨λb o e n hb B=>((hs.2 b (ba (aS (hl9 e) I.ok.above))).trans (I.base.keep b o e n hb B)),λb o e n hb B=>?_,I.base.free,λb o e B=>?_,I.base.tups,I.base.frzs⟩,⟨_,L',λj y P e1 e2 e3=>?_⟩,λy c e=>?_,I.free,I.freeC,λp hp=>?_,tracked ⟨w,O',I.free⟩ hs,by simpa using I.len⟩ ⟨_,hs,.inl rfl⟩
  .obtain⟨sl,e1⟩:=I.base.slot b o e n hb B;exact⟨sl,(hs.2 b (ba (aS (hl9 e) I.ok.above))).trans e1⟩
  .obtain⟨o',e1⟩:=I.base.there b o e B;exact⟨o',(hs.2 b (ba (aS (hl9 e) I.ok.above))).trans e1⟩
  .by_cases g:j=i
   .subst g;rw[hi]at e1;cases e1;rw[eZ f]at e2;cases e2;exact⟨u,r,.inl ⟨hk,by simp⟩⟩
   .rw[bX (cB g)]at e2;obtain⟨R,S,q⟩:=hl j y P e1 e2 e3;refine⟨R,S,?_⟩
    rcases q with⟨k,e⟩|⟨k,c,e,z⟩
    .refine .inl ⟨k,?_⟩;have:y≠x:=λe=>g (Bs c3 e1 (e▸hi));simp[this,e]
    .exact .inr ⟨k,c,e,z.sameBut hs (I.Sm y c e)⟩
  .obtain⟨K,z⟩:=I.cell y c e;exact⟨K,z.sameBut hs (I.Sm y c e)⟩
  .obtain⟨e,n,ne,nf,d⟩:=I.pin p hp;exact⟨(hs.2 _ ne).trans e,n,ne,nf,d⟩
 .have l:X.fn x=U:=by
   grind
  obtain⟨c,hc⟩:=I.ok.has x (.inl hk);obtain⟨K,z⟩:=I.cell x c hc;refine wpAny_storeName_cell I.ok.kind hk hc z (λh' C hs=>?_);obtain⟨oc,T',U'⟩:=id z;refine h _ ⟨I.ok,I.os,I.bare,⟨λb o e n hb B=>((hs.2 b (ba (aS (hl9 e) (I.ok.cab x c l hc)))).trans (I.base.keep b o e n hb B)),λb o e n hb B=>?_,I.base.free,λb o e B=>?_,I.base.tups,I.base.frzs⟩,⟨m,G.sameBut hs (cB (I.Sm x c hc)),λj y P e1 e2 e3=>?_⟩,λy F e=>?_,I.free,I.freeC,λp hp=>?_,tracked ⟨oc,T',I.freeC x c hc⟩ hs,by simpa using I.len⟩ ⟨c,hs,.inr hc⟩
  .obtain⟨sl,e1⟩:=I.base.slot b o e n hb B;exact⟨sl,(hs.2 b (ba (aS (hl9 e) (I.ok.cab x c l hc)))).trans e1⟩
  .obtain⟨o',e1⟩:=I.base.there b o e B;exact⟨o',(hs.2 b (ba (aS (hl9 e) (I.ok.cab x c l hc)))).trans e1⟩
  .by_cases g:j=i
   .subst g;rw[hi]at e1;cases e1;rw[eZ f]at e2;cases e2;exact⟨u,r,.inr ⟨.inl hk,c,hc,C⟩⟩
   .rw[bX (cB g)]at e2;obtain⟨R,S,q⟩:=hl j y P e1 e2 e3;refine⟨R,S,?_⟩
    rcases q with q|⟨k,F,e,z'⟩
    .exact .inl q
    .refine .inr ⟨k,F,e,z'.sameBut hs ?_⟩;rintro rfl;exact g (Bs c3 e1 (I.ok.inj _ _ _ e hc▸hi))
  .by_cases D:F=c
   .subst D;exact⟨_,C⟩
   .obtain⟨w2,z2⟩:=I.cell y F e;exact⟨w2,z2.sameBut hs D⟩
  .obtain⟨e,n,ne,nf,d⟩:=I.pin p hp;refine⟨(hs.2 _ ?_).trans e,n,ne,nf,d⟩
   grind
def pZ(I:Inv X h_ σ H s)(B:X.N.Nodup)(hi:X.N[i]?=Y x)(C:Loc X.env.scope x)(r:RelV v u)
  (h:∀f,Inv X h_ (σ.set i (Y v)) H f->Q () f)(hf:X.fn x=U\/X.env.scope.names.lookup x=Y .local):aG M A (storeName X.env x u) Q E s:=
 Hv I B hi C r (λf a _=>h f a) hf
def Inv.So{f:ao}(I:Inv X h_ σ H s)(ho:f.os=s.os)(u:Un (uP X.stack) ch H C s.heap f.heap)(hok:rL X.prog X.w C f.heap)(F:lI f.gens)
  (B:∀b∈ch,(b∈X.ex\/X.s₀.heap.objs.size<=b)/\b≠X.env.locals/\(∀x c,X.env.cells.lookup x=Y c->c≠b)/\∀p∈X.pn++h_,p.1≠b):Inv X h_ σ C f:=by
 obtain⟨h',a,d,e,g⟩:=f;subst ho;exact I.call u hok F B
end
abbrev XK:=ak->ar aN->Hp->Prop
abbrev St:=O (ar V)
abbrev VK:=V->Hp->Prop
abbrev TE:=St->Hp->VK->Prop
abbrev TT:=St->Hp->(cc->Hp->Prop)->Prop
abbrev TA:=St->Hp->(O V->Hp->Prop)->Prop
structure Ends where
 nx:St->Hp->Prop
 rt:VK
 bk:St->Hp->Prop:=λ_ _=>False
 ct:St->Hp->Prop:=λ_ _=>False
abbrev TS:=Ends->St->Hp->Prop
def EP(X:Cx)(h_:O (aN×m8))(σ:St)(Q:VK)(u:ak)(f:ao):Prop:=∃v a,Inv X h_ σ a f/\RelV v u/\Q v a
def TP(X:Cx)(h_:O (aN×m8))(σ:St)(Q:cc->Hp->Prop)(b:cc)(f:ao):Prop:=∃a,Inv X h_ σ a f/\Q b a
def AP(X:Cx)(h_:O (aN×m8))(σ:St)(Q:O V->Hp->Prop)(us:O ak)(f:ao):Prop:=∃vs a,Inv X h_ σ a f/\df vs us/\Q vs a
def SP(X:Cx)(h_:O (aN×m8))(D:Ends)(f:Flow)(B:ao):Prop:=
 match f with
 |.next=>∃a b,Inv X h_ a b B/\D.nx a b
 |.brk=>∃a b,Inv X h_ a b B/\D.bk a b
 |.cont=>∃a b,Inv X h_ a b B/\D.ct a b
 |.ret u=>∃v a b,Inv X h_ a b B/\RelV v u/\D.rt v b
def PE(X:Cx)(e:a9)(t:TE):Prop:=
 ∀(h_:O (aN×m8))(s:ao)(σ:St)(H:Hp)(Q:VK),Inv X h_ σ H s->t σ H Q->aG (aC X.prog X.w) X.A (eval e X.env) (EP X h_ σ Q) X.xe s
def PT(X:Cx)(e:a9)(t:TT):Prop:=
 ∀(h_:O (aN×m8))(s:ao)(σ:St)(H:Hp)(Q:cc->Hp->Prop),Inv X h_ σ H s->t σ H Q->aG (aC X.prog X.w) X.A (isTrue e X.env (eval e X.env)) (TP X h_ σ Q) X.xe s
def PW(X:Cx)(e:a9)(t:TT):Prop:=
 ∀(whole:He ak)(h_:O (aN×m8))(s:ao)(σ:St)(H:Hp)(Q:cc->Hp->Prop),Inv X h_ σ H s->t σ H Q->aG (aC X.prog X.w) X.A (isTrue e X.env whole) (TP X h_ σ Q) X.xe s
def PW.pt(h:PW X e t):PT X e t:=h _
def PA(X:Cx)(es:O a9)(t:TA):Prop:=
 ∀(pos:rC)(h_:O (aN×m8))(s:ao)(σ:St)(H:Hp)(Q:O V->Hp->Prop),Inv X h_ σ H s->t σ H Q->aG (aC X.prog X.w) X.A (spliced (er pos (aP es X.env))) (AP X h_ σ Q) X.xe s
def PS(X:Cx)(st:iE)(t:TS):Prop:=
 ∀(h_:O (aN×m8))(s:ao)(σ:St)(H:Hp)(D:Ends),Inv X h_ σ H s->t D σ H->aG (aC X.prog X.w) X.A (exec st X.env) (SP X h_ D) X.xe s
def sY(X:Cx)(st:O iE)(t:TS):Prop:=
 ∀(h_:O (aN×m8))(s:ao)(σ:St)(H:Hp)(D:Ends),Inv X h_ σ H s->t D σ H->aG (aC X.prog X.w) X.A (execs st X.env) (SP X h_ D) X.xe s
def jf (h:aG M A t Q E s)(B:∀a s,Q a s->f a s):aG M A t f E s:=bO h B λ_ _ x=>x
section
variable{X:Cx}
def rT(i:T):TE:=λσ H Q=>∃v,σ[i]?=Y (Y v)/\Q v H
def tC(v:V):TE:=λ_ H Q=>Q v H
def lL(C:X.N[i]?=Y x)(f:M9 X.env.scope x)(hd:(x == ("__debug__":aa))=J)(B:(x == ("__classdict__":aa))=J):PE X (.Name x pos) (rT i):=by
 intro h_ s σ H Q I h;obtain⟨v,e,h⟩:=h;obtain⟨m,b,hl⟩:=I.loc;obtain⟨u,r,l⟩:=hl i x v C e f;have fin:EP X h_ σ Q u s:=⟨v,H,I,r,h⟩
 rcases l with⟨hk,d⟩|⟨hk,c,hc,a⟩
 .exact k8 (wpAny_loadName_local I.ok.kind hk b d fin) hd
 .rcases hk with hk|hk
  .exact k8 (wpAny_loadName_cell I.ok.kind hk hc a fin) hd
  .exact k8 (wpAny_loadName_free I.ok.kind hk hc a fin B) hd
def UT{i j pos}:PE X (.Constant (.int i) j pos) (tC (.int i)):=λ_ _ _ H _ I h=>wpAny_Constant_int ⟨.int i,H,I.tok _,⟨_,W⟩,h⟩
def YY{b j pos}:PE X (.Constant (.bool b) j pos) (tC (.bl b)):=λ_ _ _ H _ I h=>Constant_bool ⟨.bl b,H,I,W,h⟩
def UR{j pos}:PE X (.Constant .none j pos) (tC .non):=λ_ _ _ H _ I h=>Constant_none ⟨.non,H,I,W,h⟩
def UP{x j pos}:PE X (.Constant (.str x) j pos) (tC (.str x)):=λ_ _ _ H _ I h=>Calls.Constant_str ⟨.str x,H,I.tok _,⟨_,W⟩,h⟩
def Gl(X:Cx)(x:aa):Prop:=X.env.kindOf x=Y .globalImplicit
def qw(I:Inv X h_ σ H s)(B:Gl X x)(f:X.mg x=Y u)(h:Q u s)
  (hd:(x == ("__debug__":aa))=J):aG (aC X.prog X.w) X.A (eval (.Name x pos) X.env) Q E s:=
 xv I.ok.kind B (Calls.loadGlobal_global (by rw[I.ok.glob];exact I.mod.glob.keeps I.bk) f h) hd
def qc(I:Inv X h_ σ H s)(B:Gl X x)(F:X.mg x=L)(f:dt x=Y u)(h:Q u s)
  (C:x≠"__name__":=by decide)(hd:(x == ("__debug__":aa))=J:=by decide):aG (aC X.prog X.w) X.A (eval (.Name x pos) X.env) Q E s:=by
 obtain⟨a,h1,h2⟩:=I.mod.blt;exact xv I.ok.kind B (Calls.loadGlobal_builtin (by rw[I.ok.glob];exact I.mod.glob.keeps I.bk) F (by rw[I.ok.blt];exact h1.keeps I.bk) ((h2 x C).trans f) h) hd
def FI(B:Gl X x)(f:X.mg x=Y u)(r:RelV v u)(hd:(x == ("__debug__":aa))=J):PE X (.Name x pos) (tC v):=
 λ_ _ _ H _ I h=>qw I B f ⟨v,H,I,r,h⟩ hd
def FK(B:Gl X x)(F:X.mg x=L)(f:dt x=Y u)(r:RelV v u)(C:x≠"__name__")(hd:(x == ("__debug__":aa))=J):PE X (.Name x pos) (tC v):=
 λ_ _ _ H _ I h=>qc I B F f ⟨v,H,I,r,h⟩ C hd
variable{ta tb:TE}
def tB(t:TE):TT:=λσ H Q=>t σ H λx a=>∃c,x=.bl c/\Q c a
def aaS(t u:TT):TT:=λσ H Q=>t σ H λc a=>if c=U then u σ a Q else Q J a
def tOr(t u:TT):TT:=λσ H Q=>t σ H λc a=>if c=U then Q U a else u σ a Q
def aaN(t:TT):TT:=λσ H Q=>t σ H λc a=>Q (!c) a
def Pd(ha:PT X a tA):PW X (.BoolOp .And [a] pos) tA:=by
 intro b h_ s σ H Q I h;refine isTrue_and (jf (ha h_ s σ H Q I h) λc s1 e=>?_)
 cases c with
 |true=>exact isTrue_and_nil e
 |false=>exact e
def UG(ha:PT X a tA):PW X (.BoolOp .Or [a] pos) tA:=by
 intro b h_ s σ H Q I h;refine isTrue_or (jf (ha h_ s σ H Q I h) λc s1 e=>?_)
 cases c with
 |false=>exact isTrue_or_nil e
 |true=>exact e
def UH(ha:PT X a tA)(hb:PW X (.BoolOp .And (b::rest) pos) B):PW X (.BoolOp .And (a::b::rest) pos) (aaS tA B):=by
 intro g h_ s σ H Q I h;refine isTrue_and (jf (ha h_ s σ H _ I h) λc s1 j=>?_)
 obtain⟨d,e,f⟩:=j;cases c with
 |true=>exact hb g h_ s1 σ d Q e f
 |false=>exact⟨d,e,f⟩
def YT(ha:PT X a tA)(hb:PW X (.BoolOp .Or (b::rest) pos) B):PW X (.BoolOp .Or (a::b::rest) pos) (tOr tA B):=by
 intro g h_ s σ H Q I h;refine isTrue_or (jf (ha h_ s σ H _ I h) λc s1 j=>?_)
 obtain⟨d,e,f⟩:=j;cases c with
 |true=>exact⟨d,e,f⟩
 |false=>exact hb g h_ s1 σ d Q e f
def UJ(ha:PT X a tA):PT X (.UnaryOp .Not a pos) (aaN tA):=by
 intro h_ s σ H Q I h;exact isTrue_not (ha h_ s σ H (λc b=>Q _ b) I h)
def Yh(ta tb:TE):TE:=λσ H Q=>ta σ H λx a=>∃c,x=.bl c/\if c=U then tb σ a Q else Q (.bl J) a
def aaM(ta tb:TE):TE:=λσ H Q=>ta σ H λx a=>∃c,x=.bl c/\if c=U then Q (.bl U) a else tb σ a Q
def UQ{op}(h:PE X a t):PE X (.BoolOp op [a] pos) t:=λh_ s σ H Q I b=>BoolOp_one (h h_ s σ H Q I b)
def UX(ha:PE X a ta)(hb:PE X (.BoolOp .And (b::rest) pos) tb):PE X (.BoolOp .And (a::b::rest) pos) (Yh ta tb):=by
 intro h_ s σ H Q I h;refine BoolOp_and (jf (ha h_ s σ H _ I h) λv s1 j=>?_);obtain⟨x,e,f,g,d⟩:=j;obtain⟨c,rfl,d⟩:=d;cases g;apply jy
 cases c with
 |true=>exact hb h_ s1 σ e Q f d
 |false=>exact⟨.bl J,e,f,W,d⟩
def YX(ha:PE X a ta)(hb:PE X (.BoolOp .Or (b::rest) pos) tb):PE X (.BoolOp .Or (a::b::rest) pos) (aaM ta tb):=by
 intro h_ s σ H Q I h;refine BoolOp_or (jf (ha h_ s σ H _ I h) λv s1 j=>?_);obtain⟨x,e,f,g,d⟩:=j;obtain⟨c,rfl,d⟩:=d;cases g;apply jy
 cases c with
 |false=>exact hb h_ s1 σ e Q f d
 |true=>exact⟨.bl U,e,f,W,d⟩
def tIf(t:TT)(ta tb:TE):TE:=λσ H Q=>t σ H λc a=>if c=U then ta σ a Q else tb σ a Q
def KU(hc:PT X c tA)(ha:PE X a ta)(hb:PE X b tb):PE X (.IfExp c a b pos) (tIf tA ta tb):=by
 intro h_ s σ H Q I h;refine wpAny_IfExp (jf (hc h_ s σ H _ I h) λd s1 j=>?_)
 obtain⟨e,f,g⟩:=j;cases d with
 |true=>exact ha h_ s1 σ e Q f g
 |false=>exact hb h_ s1 σ e Q f g
end
def nW(K:aB)(H:Hp)(a:aN)(xs:O V):Prop:=
 Rd H a (.lst xs)\/
  ∃(o:m8) (b:c7 ak) (n:T),K.lookup a=Y o/\o.cls=.type "list"/\o.dict=L/\o.data=.seq b n/\b.size<=aJ/\df xs b.toList
def wW(K:aB)(H:Hp)(a:aN)(xs:O V):Prop:=
 Rd H a (.tup xs)\/
  ∃(o:m8) (b:c7 ak) (n:T),K.lookup a=Y o/\o.cls=.type "tuple"/\o.data=.seq b n/\b.size<=aJ/\df xs b.toList
noncomputable def abW:ak->ar V
 |.none=>Y .non
 |.bool b=>Y (.bl b)
 |.int i _=>Y (.int i)
 |.str x _=>Y (.str x)
 |.bytes b _=>Y (.byt b)
 |.float b _=>Y (.flt b)
 |.ref a=>Y (.ref a)
 |.type n=>Y (.ty n)
 |_=>L
def RelV.abs(r:RelV x u):abW u=Y x:=by
 cases x with
 |non=>cases r;rfl
 |bl _=>cases r;rfl
 |int _=>obtain⟨t,rfl⟩:=r;rfl
 |str _=>obtain⟨t,rfl⟩:=r;rfl
 |byt _=>obtain⟨t,rfl⟩:=r;rfl
 |flt _=>obtain⟨t,rfl⟩:=r;rfl
 |ref _=>cases r;rfl
 |ty _=>cases r;rfl
def RelV.inj(r:RelV x u)(q:RelV y u):x=y:=bL (r.abs.symm.trans q.abs)
theorem df.inj{xs f:O V}(h:df xs us):df f us->xs=f:=by
 induction h generalizing f with
 |nil=>intro h;cases h;rfl
 |cons r _ i=>intro h;cases h with|cons a b=>rw[r.inj a,i b]
section
def nW.of{K:aB}(h:H a=Y (.lst xs)):nW K H a xs:=.inl (.inl h)
def Inv.list(I:Inv X h_ σ H s)(h:nW X.K H a xs):∃f:O ak,df xs f/\PlainL s.heap a f.toArray/\Z xs<=aJ:=by
 rcases h with h|⟨o,f,n,hk,hc,hd,hs,b,r⟩
 .obtain⟨z,f,n,r,e⟩:=h.ok I.hok;exact⟨_,r,⟨_,n,e,W,W,W⟩,z⟩
 .refine⟨_,r,⟨o,n,I.wu a o hk,hc,hd,by simpa using hs⟩,?_⟩;have e:=r.length
  simp_all
def Inv.tuple(I:Inv X h_ σ H s)(h:wW X.K H a xs):∃f:O ak,df xs f/\NL s.heap a f.toArray/\Z xs<=aJ:=by
 rcases h with h|⟨o,f,n,hk,hc,hs,b,r⟩
 .obtain⟨z,f,r,p⟩:=h.ok I.hok;exact⟨_,r,p,z⟩
 .refine⟨_,r,⟨o,I.wu a o hk,hc,n,by simpa using hs⟩,?_⟩;have e:=r.length
  simp_all
def Inv.qb(I:Inv X h_ σ H s)(h:nW X.K H a xs)(B:nW X.K H a C):xs=C:=by
 obtain⟨i,r,⟨o,n,e,_,_,d⟩,_⟩:=I.list h;obtain⟨b,f,⟨k,g,c,_,_,j⟩,_⟩:=I.list B;rw[e]at c;cases c;rw[d]at j
 injection j with d1 _
 have:i=b:=by simp_all
 subst this;exact r.inj f
def Inv.tM(I:Inv X h_ σ H s)(h:wW X.K H a xs)(B:wW X.K H a C):xs=C:=by
 obtain⟨i,r,⟨o,e,_,n,d⟩,_⟩:=I.tuple h;obtain⟨b,f,⟨k,c,_,g,j⟩,_⟩:=I.tuple B;rw[e]at c;cases c;rw[d]at j
 injection j with d1 _
 have:i=b:=by simp_all
 subst this;exact r.inj f
end
noncomputable abbrev Cx.tK(X:Cx)(E:ak->ao->Prop):Cx:={ X with xe:=E }
abbrev Cx.yk(X:Cx):Cx:=X.tK λ_ _=>False
def Cx.Ok.tK{X:Cx}(ok:X.Ok)(E:ak->ao->Prop):(X.tK E).Ok:=
 ⟨ok.mod,ok.kind,ok.glob,ok.blt,ok.above,ok.inj,ok.has,ok.cab,ok.hd,ok.frames,ok.Ay,ok.exf,ok.bs,ok.bsz,ok.noex,ok.exfs,ok.sL,ok.frf⟩
def Cx.Ok.lJ{X:Cx}(ok:(X.tK E).Ok):X.Ok:=
 ⟨ok.mod,ok.kind,ok.glob,ok.blt,ok.above,ok.inj,ok.has,ok.cab,ok.hd,ok.frames,ok.Ay,ok.exf,ok.bs,ok.bsz,ok.noex,ok.exfs,ok.sL,ok.frf⟩
section
variable{X:Cx}
def Inv.tK(I:Inv X h_ σ H s)(E:ak->ao->Prop):Inv (X.tK E) h_ σ H s:=⟨I.ok.tK E,I.os,I.bare,I.base,I.loc,I.cell,I.free,I.freeC,I.pin,I.hok,I.len⟩
def Inv.lJ(I:Inv (X.tK E) h_ σ H s):Inv X h_ σ H s:=⟨I.ok.lJ,I.os,I.bare,I.base,I.loc,I.cell,I.free,I.freeC,I.pin,I.hok,I.len⟩
theorem SP.lJ{D:Ends}(h:SP (X.tK E) h_ D f B):SP X h_ D f B:=by
 cases f with
 |next=>obtain⟨a,b,I,q⟩:=h;exact⟨a,b,I.lJ,q⟩
 |brk=>obtain⟨a,b,I,q⟩:=h;exact⟨a,b,I.lJ,q⟩
 |cont=>obtain⟨a,b,I,q⟩:=h;exact⟨a,b,I.lJ,q⟩
 |ret u=>obtain⟨v,a,b,I,r,q⟩:=h;exact⟨v,a,b,I.lJ,r,q⟩
def sY.yk{st:O iE}(h:sY X.yk st t):sY X st t:=λh_ s σ H D I a=>
 bO (h h_ s σ H D (I.tK _) a) (λ_ _ q=>q.lJ) λ_ _ z=>cA z
end
section
variable{st:iE}{t u:TS}{te:TE}{pos:rC}
def Ye:TS:=λD σ H=>D.nx σ H
def aaL(t u:TS):TS:=λD σ H=>t { D with nx:=u D } σ H
def Ph:sY X [] Ye:=λ_ _ σ H _ I h=>ku ⟨σ,H,I,h⟩
def Bj(h1:PS X st t)(h2:sY X rest u):sY X (st::rest) (aaL t u):=by
 intro h_ s σ H D I h;refine wpAny_execs_cons (jf (h1 h_ s σ H _ I h) λf s1 q=>?_)
 cases f with
 |next=>
   obtain⟨a,b,c,q⟩:=q;exact h2 h_ s1 a b D c q
 |ret v=>exact q
 |brk=>exact q
 |cont=>exact q
def Inv.quiet(I:Inv X h_ σ H s):interactive X.env=J:=by simp[interactive,I.ok.kind]
def AU(te:TE):TS:=λD σ H=>te σ H λ_ a=>D.nx σ a
def u7(he:PE X e te)(hs:ez e L pos.line X.env=pure J):PS X (.Expr e pos) (AU te):=by
 intro h_ s σ H D I h;exact wpAny_Expr_any (jf (he h_ s σ H _ I h) λv s1 g=>by obtain⟨x,a,b,d,c⟩:=g;exact⟨σ,a,b,c⟩) I.quiet hs
def Yb(te:TE):TS:=λD σ H=>te σ H D.rt
def KD(he:PE X e te):PS X (.Return (Y e) pos) (Yb te):=by
 intro h_ s σ H D I h;exact wpAny_Return_some (jf (he h_ s σ H _ I h) λv s1 ⟨x,a,b,c,d⟩=>⟨x,σ,a,b,c,d⟩)
def aaP(c:TT)(t u:TS):TS:=λD σ H=>c σ H λb a=>if b=U then t D σ a else u D σ a
def YU(hc:PT X c B)(ha:sY X a t)(hb:sY X b u):PS X (.If c a b pos) (aaP B t u):=by
 intro h_ s σ H D I h;refine wpAny_If (jf (hc h_ s σ H _ I h) λd s1 j=>?_)
 obtain⟨e,f,g⟩:=j;cases d with
 |true=>exact ha h_ s1 σ e D f g
 |false=>exact hb h_ s1 σ e D f g
end
abbrev TG:=V->St->Hp->(St->Hp->Prop)->Prop
abbrev SJ:=O V->St->Hp->(St->Hp->Prop)->Prop
def PG(X:Cx)(target:a9)(t:TG):Prop:=
 ∀(h_:O (aN×m8))(s:ao)(σ:St)(H:Hp)(v:V)(u:ak)(Q:St->Hp->Prop),Inv X h_ σ H s->RelV v u->t v σ H Q->
  aG (aC X.prog X.w) X.A (hW target X.env u) (λ_ c=>∃a b,Inv X h_ a b c/\Q a b) X.xe s
def X0(X:Cx)(f:O a9)(t:SJ):Prop:=
 ∀(h_:O (aN×m8))(s:ao)(σ:St)(H:Hp)(vs:O V)(us:O ak)(Q:St->Hp->Prop),Inv X h_ σ H s->df vs us->t vs σ H Q->
  aG (aC X.prog X.w) X.A (assignInOrder ((ek f X.env).map (·.2)) us) (λ_ c=>∃a b,Inv X h_ a b c/\Q a b) X.xe s
abbrev aaa:=V->V->V->Hp->(Hp->Prop)->Prop
def Xm(X:Cx)(t:aaa):Prop:=
 ∀(h_:O (aN×m8))(s:ao)(σ:St)(H:Hp)(o i v:V)(a b u:ak)(Q:Hp->Prop),Inv X h_ σ H s->RelV o a->RelV i b->RelV v u->t o i v H Q->
  aG (aC X.prog X.w) X.A (mi a b u) (λ_ d=>∃c,Inv X h_ σ c d/\Q c) X.xe s
section
variable{X:Cx}{pos:rC}
def lp(i:T):TG:=λv σ H Q=>Q (σ.set i (Y v)) H
def FH(B:X.N.Nodup)(hi:X.N[i]?=Y x)(f:Loc X.env.scope x)(hf:X.fn x=U\/X.env.scope.names.lookup x=Y .local):PG X (.Name x pos) (lp i):=by
 intro h_ s σ H v u Q I r h;exact i0 (pZ I B hi f r (λb a=>⟨_,H,a,h⟩) hf)
def Iu:SJ:=λvs σ H Q=>vs=[]/\Q σ H
def yw(t:TG)(u:SJ):SJ:=λvs σ H Q=>∃v r,vs=v::r/\t v σ H λa b=>u r a b Q
def FG:X0 X [] Iu:=by
 intro h_ s σ H vs us Q I r h;obtain⟨rfl,h⟩:=h;cases r;exact assignInOrder_nil ⟨σ,H,I,h⟩
def Bl(h1:PG X e t)(h2:X0 X es u)
  (hs:(ek (e::es) X.env).map (·.2)=hW e X.env::(ek es X.env).map (·.2):=by rfl):X0 X (e::es) (yw t u):=by
 intro h_ s σ H vs us Q I r h;obtain⟨v,g,rfl,h⟩:=h;cases r with
 |cons r b=>
   rw[hs];exact assignInOrder_cons (jf (h1 h_ s σ H _ _ _ I r h) λ_ s1 ⟨a,c,d,f⟩=>h2 h_ s1 a c _ _ Q d b f)
def L8(K:aB)(n:T)(t:SJ):TG:=λv σ H Q=>∃a b,v=.ref a/\wW K H a b/\Z b=n/\t b σ H Q
def KN(hc:X.calm=U)(h:X0 X es t)
  (C:Z (ek es X.env)=n)(B:(ek es X.env).findIdx? (·.1)=L):PG X (.Tuple es k pos) (L8 X.K n t):=by
 intro h_ s σ H v u Q I r c;refine ac λ_ i=>?_;obtain⟨a,l,rfl,f,hl,c⟩:=c;cases r;obtain⟨m,d,ht,j⟩:=I.tuple f;apply i;refine assign_Tuple_tuple (I.ok.hd hc) ht (by simp[C,<-hl,d.length]) B λp g=>?_;exact h h_ _ σ H l _ Q (I.kept λb o e=>g b o (ba (hl9 e)) e) (by simpa using d) c
def Wj(to f:TE)(t:aaa):TG:=λv σ H Q=>to σ H λo a=>f σ a λi c=>t o i v c λb=>Q σ b
def KP(ho:PE X o to)(hi:PE X i F)(hs:Xm X t)
  (ha:∀v,hW (.Subscript o i pos) X.env v=(do
   let B <-holding [v] (eval o X.env);let C <-holding [v,B] (eval i X.env)
   standAt pos
   holding [v,B,C] (mi B C v)
   release [v,B,C] []):=by intro _;rfl):PG X (.Subscript o i pos) (Wj to F t):=by
 intro h_ s σ H v u Q I r h;rw[ha];refine wb9 (cL (jf (ho h_ s σ H _ I h) λB s1 z=>?_));obtain⟨x,a,b,c,d⟩:=z;refine wb9 (cL (jf (hi h_ s1 σ a _ b d) λC s2 D=>?_));obtain⟨y,m,e,f,g⟩:=D;exact wb9 (mL (wb9 (cL (jf (hs h_ s2 σ m x y v B C u _ e c f r g) λ_ s3 ⟨j,k,l⟩=>wpAny_release ⟨σ,j,k,l⟩))))
def Dq(te:TE)(g:TG):TS:=λD σ H=>te σ H λx a=>g x σ a D.nx
def DK(he:PE X e te)(B:PG X tg g)(hs:gN [tg] e pos.line X.env=pure J)(f:gU [tg] e X.env=pure L)
  (h1:(ek [tg] X.env).map (·.2)=[hW tg X.env]):PS X (.Assign [tg] e pos) (Dq te g):=by
 intro h_ s σ H D I h;refine wpAny_Assign_stores (jf (he h_ s σ H _ I h) λv s1 j=>?_) hs f;obtain⟨x,a,b,c,d⟩:=j;rw[h1];exact jf (B h_ s1 σ a x v _ b c d) λ_ s2 q=>q
def DI(B:X.N.Nodup)(hi:X.N[i]?=Y x)(C:Loc X.env.scope x)(he:PE X e te)(hs:ez e (Y (.Name x pos')) pos.line X.env=pure J)(hf:X.fn x=U\/X.env.scope.names.lookup x=Y .local) :
  PS X (.Assign [.Name x pos'] e pos) (Dq te (lp i)):=by
 intro h_ s σ H D I h;exact i1 (jf (he h_ s σ H _ I h) λv s1 g=>by obtain⟨y,a,b,c,d⟩:=g;exact pZ b B hi C c (λs2 f=>⟨_,a,f,d⟩) hf) hs
end
section
variable{X:Cx}
def Ta(c:TT)(tb:TS):TS:=λD σ H=>∃f:T->St->Hp->Prop,(∃m,f m σ H)/\∀m σ H,f m σ H->
 c σ H λb d=>if b=U then ∃N:St->Hp->Prop,(∀a g,N a g->∃e,e<m/\f e a g)/\tb { D with nx:=N,ct:=N,bk:=D.nx } σ d else D.nx σ d
def KC{tb:TS}(hp:qz (aC X.prog X.w) X.A X.env X.xe)(hc:PT X c F)(hb:sY X body tb):PS X (.While c body [] pos) (Ta F tb):=by
 intro h_ s σ H D I h;obtain⟨B,⟨m0,u⟩,turn⟩:=h;refine wpAny_While (codeAny_whileLoop (λn G=>∃e C,Inv X h_ e C G/\B n e C) ?_ m0 ⟨σ,H,I,u⟩);rintro n s1 ⟨d,q,x,y⟩;refine jm hp (jf (hc h_ s1 d q _ x (turn n d q y)) λb s2 z=>?_)
 obtain⟨E,r,i⟩:=z;cases b with
 |true=>
   obtain⟨N,t,i⟩:=i;refine jm hp (jf (hb h_ s2 d E _ r i) λf s3 j=>?_)
   cases f with
   |next=>
     obtain⟨a,g,k,l⟩:=j;obtain⟨m,o,p⟩:=t a g l;exact⟨m,o,a,g,k,p⟩
   |cont=>
     obtain⟨a,g,k,l⟩:=j;obtain⟨m,o,p⟩:=t a g l;exact⟨m,o,a,g,k,p⟩
   |brk=>exact j
   |ret v=>exact j
 |false=>
   exact ku ⟨d,E,r,i⟩
end
structure It where
 go:T->Hp->Prop
 yld:T->Hp->V->Hp->Prop
 stop:T->Hp->Prop
def td(X:Cx)(h_:O (aN×m8))(H:Hp)(b:aN):Prop:=
 H b=L/\b≠X.env.locals/\b∉X.fs/\(b∈X.ex\/X.s₀.heap.objs.size<=b)/\(∀x c,X.env.cells.lookup x=Y c->c≠b)/\∀p∈X.pn++h_,p.1≠b
def Inv.IC(I:Inv X h_ σ H s)(hb:s.heap.objs.size<=b)(B:f b=L):td X h_ f b:=by
 refine⟨B,jE (aS I.lt hb),I.Y3 hb,.inr (af I.sz hb),λx c e z=>?_,λp hp z=>(absurd (aS (hl9 (I.pin p hp).1) (by rwa[z])) (bH _))⟩
 .obtain⟨v,q⟩:=I.cell x c e;exact absurd (aS q.lt (by rwa[z])) (bH _)
structure Turn(P:bW)(w:cU)(K:aB)(tg:a9)(J':It)(fp:O aN)(it:aN)(tn:T->bJ->Prop):Prop where
 mem:it∈fp
 obj:∀i h,tn i h->∀b∈fp,∃o,h.get? b=Y o/\∀v,o.data≠.cell v
 keep:∀i h h',tn i h->(∀b∈fp,∀o,h.get? b=Y o->h'.get? b=Y o)->tn i h'
 item:∀(X:Cx),X.prog=P->X.w=w->X.K=K->X.calm=U->∀(i:T)(h_:O (aN×m8))(s:ao)(σ:St)(H:Hp)(E:ak->ao->Prop),Inv X h_ σ H s->(∀b∈fp,td X h_ H b)->tn i s.heap->J'.go i H->
  aG (aC P w) X.A (kr (.ref it)) (λr s1=>∃u,r=Y u/\
   aG (aC P w) X.A (hA tg (.ref it) u) (λ_ s2=>∃x H',Inv X h_ σ H' s2/\RelV x u/\J'.yld i H x H'/\tn (i+1) s2.heap/\∀b∈fp,H' b=L) E s1) E s
 done:∀(X:Cx),X.prog=P->X.w=w->X.K=K->X.calm=U->∀(i:T)(h_:O (aN×m8))(s:ao)(σ:St)(H:Hp)(E:ak->ao->Prop),Inv X h_ σ H s->(∀b∈fp,td X h_ H b)->tn i s.heap->J'.stop i H->
  aG (aC P w) X.A (kr (.ref it)) (λr s1=>r=L/\Inv X h_ σ H s1) E s
 self:∀(A:bP)(i:T)(s:ao)(Q:ak->ao->Prop)(E:ak->ao->Prop),tn i s.heap->Q (.ref it) s->aG (aC P w) A (CY (.ref it)) Q E s
abbrev TI:=St->Hp->(It->Hp->Prop)->Prop
def PIE(X:Cx)(h_:O (aN×m8))(σ:St)(tg:a9)(R:It->Hp->Prop)(itv:ak)(s2:ao):Prop:=
 ∃(it:aN) (fp:O aN) (tn:T->bJ->Prop) (c:It) (a:Hp),itv=.ref it/\Inv X h_ σ a s2/\Turn X.prog X.w X.K tg c fp it tn/\tn 0 s2.heap/\(∀b∈fp,td X h_ a b)/\R c a
def PI(X:Cx)(tg iter:a9)(f:TI):Prop:=
 ∀(h_:O (aN×m8))(s:ao)(σ:St)(H:Hp)(R:It->Hp->Prop),Inv X h_ σ H s->f σ H R->
  aG (aC X.prog X.w) X.A (eval iter X.env) (λv s1=>aG (aC X.prog X.w) X.A (CY v) (PIE X h_ σ tg R) X.xe s1) X.xe s
def BR{s:ao}(ho:s.heap.get? it=Y o)(hc:o.cls=.type n)(hd:o.data=.fields vs)
  (f:["enumerate","zip","dict_itemiterator","dict_reverseitemiterator","odict_iterator","itertools.zip_longest","itertools.pairwise"].contains n=J)(B:Q () s):aG M A (hA tg (.ref it) u) Q E s:=by
 cases tg<;>first
  |exact wu9 B
  | (cases u<;>first
    |exact wu9 B
    | (refine wb9 (wpAny_load ho ?_)
       rw[hc,hd];show aG M A (if(["enumerate","zip","dict_itemiterator","dict_reverseitemiterator","odict_iterator","itertools.zip_longest","itertools.pairwise"].contains n && vs[0]? == Y _)=U then _ else _) Q E s;rw[cb (by grind)]
       exact wu9 B))
def Itl(K:aB)(a:aN):It:=
 ⟨λi H=>∃b x,nW K H a b/\b[i]?=Y x,λi H x c=>c=H/\∀b,nW K H a b->b[i]?=Y x,λi H=>∃b,nW K H a b/\Z b<=i⟩
def Itt(K:aB)(a:aN):It:=
 ⟨λi H=>∃b x,wW K H a b/\b[i]?=Y x,λi H x c=>c=H/\∀b,wW K H a b->b[i]?=Y x,λi H=>∃b,wW K H a b/\Z b<=i⟩
def Itr(lo:cx)(n:T):It:=⟨λi _=>i<n,λi H x a=>a=H/\x=.int (lo+i),λi _=>n<=i⟩
def Hq{K:aB}(a it:aN):Turn P w K tg (Itl K a) [it] it (λi h=>h.IsListIter it a i) where
 mem:=by simp
 obj:=λi h st b hb=>by
  have e:b=it:=by simpa using hb
  subst e;obtain⟨o,e,c,d⟩:=st;exact⟨o,e,λv z=>by rw[d]at z;cases z⟩
 keep:=λi h Q st k=>st.at λo e=>k it (by simp) o e
 item:=by
  intro X l m n hc i h_ s σ H E I hf st q;subst l m n;obtain⟨S,x,g,j⟩:=q;obtain⟨R,r,p,D⟩:=I.list g;obtain⟨u,F,G⟩:=r.get j;obtain⟨t,y,V,A,B,C⟩:=hf it (by simp);refine wpAny_pyNext_list_item st p.isList (x:=u) (by simpa using F) λQ f L'=>?_;have M:Inv X h_ σ H { s with heap:=Q }:=I.turned (t':=s.toks) (λb o hb e=>(L'.2 b hb).trans e) t y A B C;obtain⟨o,e,c,d⟩:=id f;exact⟨u,W,BR (s:={ s with heap:=Q }) e c d cF ⟨x,H,M,G,⟨W,λys N=>by rw[I.qb N g];exact j⟩,f,λb hb=>(hf b hb).1⟩⟩
 done:=by
  intro X l m n hc i h_ s σ H E I hf st q;subst l m n;obtain⟨S,g,j⟩:=q;obtain⟨R,r,p,D⟩:=I.list g;obtain⟨t,y,V,A,B,C⟩:=hf it (by simp);have hl:=r.length;exact wpAny_pyNext_list_end (I.ok.hd hc) st p.isList (by simp;exact af (ag hl.symm) j) λQ O'=>⟨W,I.turned (t':=s.toks) (λb o hb e=>O' b o hb e) t y A B C⟩
 self:=λ_ _ _ _ _ st h=>wpAny_pyIter_listiter st h
def Dk{K:aB}(a it:aN):Turn P w K tg (Itt K a) [it] it (λi h=>h.IsTupleIter it a i) where
 mem:=by simp
 obj:=λi h st b hb=>by
  have e:b=it:=by simpa using hb
  subst e;obtain⟨o,e,c,d⟩:=st;exact⟨o,e,λv z=>by rw[d]at z;cases z⟩
 keep:=λi h R st k=>st.at λo e=>k it (by simp) o e
 item:=by
  intro X l m n hc i h_ s σ H E I hf st q;subst l m n;obtain⟨S,x,g,j⟩:=q;obtain⟨Q,r,p,D⟩:=I.tuple g;obtain⟨u,F,G⟩:=r.get j;obtain⟨t,y,V,A,B,C⟩:=hf it (by simp);refine wpAny_pyNext_tuple_item st (show s.heap.IsTuple a Q.toArray from p) (x:=u) (by simpa using F) λR f L'=>?_;have M:Inv X h_ σ H { s with heap:=R }:=I.turned (t':=s.toks) (λb o hb e=>(L'.2 b hb).trans e) t y A B C;obtain⟨o,e,c,d⟩:=id f;exact⟨u,W,BR (s:={ s with heap:=R }) e c d cF ⟨x,H,M,G,⟨W,λys N=>by rw[I.tM N g];exact j⟩,f,λb hb=>(hf b hb).1⟩⟩
 done:=by
  intro X l m n hc i h_ s σ H E I hf st q;subst l m n;obtain⟨S,g,j⟩:=q;obtain⟨Q,r,p,D⟩:=I.tuple g;obtain⟨t,y,V,A,B,C⟩:=hf it (by simp);have hl:=r.length;exact wpAny_pyNext_tuple_end (I.ok.hd hc) st (show s.heap.IsTuple a Q.toArray from p) (by simp;exact af (ag hl.symm) j) λR O'=>⟨W,I.turned (t':=s.toks) (λb o hb e=>O' b o hb e) t y A B C⟩
 self:=λ_ _ _ _ _ st h=>wpAny_pyIter_tupleiter st h
def Dl{K:aB}(it:aN)(lo:cx)(n:T):Turn P w K tg (Itr lo n) [it] it (λi h=>IsRangeIter h it (lo+(i:T) * 1) ((n:cx) - (i:T)) 1) where
 mem:=by simp
 obj:=λi h st b hb=>by
  have e:b=it:=by simpa using hb
  subst e
  exact⟨_,st,λv z=>by
   have u:Data.fields _=Data.cell v:=z
   cases u⟩
 keep:=λi h D st k=>k it (by simp) _ st
 item:=by
  intro X c d f hc i h_ s σ H E I hf st g;subst c d f;obtain⟨j,l,x,m,p,q⟩:=hf it (by simp);have C:=Walks.range (prog:=X.prog) (w:=X.w) (I.ok.hd hc) it lo 1 n;refine C.item i s _ _ g st λv D r y a F=>?_;obtain⟨t,rfl⟩:=y;have A:Inv X h_ σ H { s with heap:=D,toks:=r }:=I.turned (λb o hb e=>F b o (by simpa using hb) e) j l m p q;refine⟨_,W,BR (s:={ s with heap:=D,toks:=r }) (n:="range_iterator") a W rfl cF ⟨.int (lo+i),H,A,⟨t,?_⟩,⟨W,W⟩,a,λb hb=>(hf b hb).1⟩⟩;rw[Int.mul_one]
 done:=by
  intro X c d f hc i h_ s σ H E I hf st g;subst c d f;obtain⟨j,l,x,m,p,q⟩:=hf it (by simp);exact PySem.wpAny_pyNext_range_end (I.ok.hd hc) st (by have:n<=i:=g;omega) λD B=>⟨W,I.turned (t':=s.toks) (λb o hb e=>B b o hb e) j l m p q⟩
 self:=λ_ _ _ _ _ st h=>PySem.wpAny_pyIter_rangeiter st h
section
variable{X:Cx}
def Zz(K:aB)(tl:TE):TI:=λσ H R=>tl σ H λx b=>∃a,x=.ref a/\(∃c,nW K b a c)/\R (Itl K a) b
def abE(K:aB)(tl:TE):TI:=λσ H R=>tl σ H λx b=>∃a,x=.ref a/\(∃c,wW K b a c)/\R (Itt K a) b
def zz(hl:PE X l tl):PI X tg l (Zz X.K tl):=by
 intro h_ s σ H R I h;refine jf (hl h_ s σ H _ I h) λv s1 y=>?_;obtain⟨x,d,c,f,g⟩:=y;refine ac λ_ m=>?_;obtain⟨a,rfl,⟨r,i⟩,q⟩:=g;cases f;obtain⟨n,j,p,k⟩:=c.list i;apply m;apply xp p.isList;refine⟨_,_,_,_,d,W,c.kept λb o e=>hp9 _ e,Hq a _,⟨_,aT _ W,W,W⟩,λb hb=>?_,q⟩;have e:b=s1.heap.objs.size:=by simpa using hb
 subst e;exact c.IC (aq _) (c.hok.fresh (aq _))
def KJ(hl:PE X l tl):PI X tg l (abE X.K tl):=by
 intro h_ s σ H R I h;refine jf (hl h_ s σ H _ I h) λv s1 y=>?_;obtain⟨x,d,c,f,g⟩:=y;refine ac λ_ m=>?_;obtain⟨a,rfl,⟨r,i⟩,q⟩:=g;cases f;obtain⟨n,j,p,k⟩:=c.tuple i;apply m;apply h9 (p);refine⟨_,_,_,_,d,W,c.kept λb o e=>hp9 _ e,Dk a _,⟨_,aT _ W,W,W⟩,λb hb=>?_,q⟩;have e:b=s1.heap.objs.size:=by simpa using hb
 subst e;exact c.IC (aq _) (c.hok.fresh (aq _))
def Kv{lo:cx}(I:Inv X h_ σ H s)(h1:-(2 ^ 62)<=lo)(h2:lo<2 ^ 62)(h3:-(2 ^ 62)<=hi)(B:hi<2 ^ 62)
  (q:R (Itr lo (hi - lo).toNat) H):aG (aC X.prog X.w) X.A (CY (.ref s.heap.objs.size)) (PIE X h_ σ tg R) E { s with heap:=s.heap.push { cls:=.type "range",data:=.fields #[.int lo t,.int hi u,.int 1 v] },toks:=f }:=by
 apply wpAny_pyIter_range (PySem.IsRange.new ..) (small_one h1 h2 h3 B);have a:Inv X h_ σ H { s with heap:=s.heap.push { cls:=.type "range",data:=.fields #[.int lo t,.int hi u,.int 1 v] },toks:=f }:=I.kept λb o e=>hp9 _ e
 refine⟨(s.heap.push { cls:=.type _,data:=.fields _ }).objs.size,[(s.heap.push { cls:=.type _,data:=.fields _ }).objs.size],_,_,H,W,
  a.kept λb o e=>hp9 _ e,Dl _ lo _,?_,λb hb=>?_,q⟩
 .have c:lo+((0:T)) * 1=lo:=by simp
  have d:(((hi - lo).toNat)) - ((0:T))=PySem.Builtin.Range.rangeSize lo hi 1:=by rw[rangeSize_one];split<;>omega
  rw[c,d];exact aT _ W
 .have e:b=(s.heap.push { cls:=.type "range",data:=.fields #[.int lo t,.int hi u,.int 1 v] }).objs.size:=by simpa using hb
  subst e;exact a.IC (aq _) (a.hok.fresh (aq _))
def Zx(f:TA):TI:=λσ H R=>f σ H λvs a=>∃j:cx,vs=[.int j]/\-(2 ^ 62)<=j/\j<2 ^ 62/\R (Itr 0 j.toNat) a
def HP(B:Gl X "range")(C:X.mg "range"=L)(ha:PA X [a] F)(hs:aP [a] X.env=[(J,eval a X.env)]):PI X tg (.Call (.Name "range" p) [a] [] pos) (Zx F):=by
 intro h_ s σ H R I h;refine Call_ (qc I B C boot_range (fK (jf (ha _ h_ s σ H _ I h) λus s1 l=>?_) hs W));obtain⟨vs,i,c,d,b⟩:=l;obtain⟨j,rfl,b,f,q⟩:=b;cases d with
 |cons r g=>
   cases g;obtain⟨t,rfl⟩:=r;exact call_range_1 (Kv c (by simp) (by simp) b f (by simpa using q))
def aaQ(B:TI)(g:TG)(tb:TS):TS:=λD σ H=>B σ H λf c=>∃d:T->T->St->Hp->Prop,(∃m,d 0 m σ c)/\∀i m σ H,d i m σ H->
 (f.stop i H/\D.nx σ H)\/(f.go i H/\∃N:St->Hp->Prop,(∀a e,N a e->∃b,b<m/\d (i+1) b a e)/\∀x e,f.yld i H x e->g x σ e λh j=>tb { D with nx:=N,ct:=N,bk:=D.nx } h j)
noncomputable def nL(fp:O aN)(h:bJ):O (aN×m8):=fp.filterMap λb=>(h.get? b).map λo=>(b,o)
def oO{h:bJ}(hb:b∈fp)(e:h.get? b=Y o):(b,o)∈nL fp h:=ni.mpr ⟨b,hb,by rw[e];rfl⟩
def yj(hp:p∈nL fp h):p.1∈fp/\h.get? p.1=Y p.2:=by
 obtain⟨b,hb,e⟩:=ni.mp hp
 cases q:h.get? b with
 |none=>rw[q]at e;cases e
 |some o=>
   rw[q]at e;have a :=bL e;clear e; subst a;exact⟨hb,q⟩
def Inv.pinned(I:Inv X h_ σ H s)(hf:∀b∈fp,td X h_ H b)(ho:∀b∈fp,∃o,s.heap.get? b=Y o/\∀v,o.data≠.cell v):Inv X (h_++nL fp s.heap) σ H s:=
 I.rZ λp hp=>(ax.mp hp).elim (λz=>I.pin p (aw _ z)) λz=>by
  refine ac λ_ h=>?_;obtain⟨hb,e⟩:=yj z;obtain⟨a,c,f,_⟩:=hf _ hb;obtain⟨o,g,d⟩:=ho _ hb
  apply h;simp_all
def Inv.n4(I:Inv X (h_++pl) σ H s):Inv X h_ σ H s:=I.rZ λp hp=>I.pin p (aw _ (aF _ hp))
def DJ{iter:a9}{tb:TS}(hp:qz (aC X.prog X.w) X.A X.env X.xe)(hc:X.calm=U)(hi:PI X tg iter wi)(c3:PG X tg g)(hb:sY X body tb)
  (hs:∀x,ea iter X.env x=pure x):PS X (.For tg iter body [] pos) (aaQ wi g tb):=by
 intro h_ s σ H D I h;refine wpAny_For (jf (hi h_ s σ H _ I h) λv s1 h1=>jf h1 λitv s2 h2=>?_) hs;refine ac λ_ K=>?_;obtain⟨it,fp,tn,J',H2,rfl,S,T',E,O',e0,⟨m0,U'⟩,turn⟩:=h2;apply K;have c:∀{H':Hp},(∀b∈fp,H' b=L)->∀b∈fp,td X h_ H' b:=λV b hb=>⟨V b hb,(O' b hb).2⟩
 refine codeAny_forLoop_any (λn s'=>∃i j H',Inv X h_ j H' s'/\tn i s'.heap/\(∀b∈fp,H' b=L)/\e0 i n j H') ?_ m0 ⟨0,σ,H2,S,E,λb hb=>(O' b hb).1,U'⟩;rintro n s3 ⟨i,k,C,P,y,z,e1⟩
 rcases turn i n k C e1 with⟨stop,qn⟩|⟨go,N,hN,step⟩
 .refine jm hp (jf (T'.done X W rfl rfl hc i h_ s3 k C _ P (c z) y stop) λr s4 q0=>?_);obtain⟨F,I4⟩:=q0;subst F;exact ku ⟨k,C,I4,qn⟩
 .refine jm hp (jf (T'.item X W rfl rfl hc i h_ s3 k C _ P (c z) y go) λr s4 z0=>?_);obtain⟨u,F,h4⟩:=z0;subst F;refine jm hp (jf h4 λ_ Q z1=>?_);obtain⟨x,R,I5,r5,y5,t,G⟩:=z1;refine jm hp (jf (c3 _ Q k R x u _ (I5.pinned (c G) (T'.obj _ _ t)) r5 (step x R y5)) λ_ s6 z7=>?_);obtain⟨L',H6,I6,q6⟩:=z7;refine jm hp (jf (hb _ s6 L' H6 _ I6 q6) λf M q=>?_)
  have again:∀{a:St}{l:Hp},Inv X (h_++nL fp _) a l M->N a l->∃m,m<n/\∃i j H',Inv X h_ j H' M/\tn i _/\(∀b∈fp,H' b=L)/\e0 i m j H':=λ{a l}p B=>by
   obtain⟨m',hm,w7⟩:=hN a l B;refine⟨m',hm,_,a,l,p.n4,T'.keep _ _ _ t λb hb o e=>(p.pin _ (aw _ (aw _ (oO hb e)))).1,λb hb=>?_,w7⟩;obtain⟨o,e,d⟩:=T'.obj _ _ t b hb;exact(p.pin _ (aw _ (aw _ (oO hb e)))).2.1
  cases f with
  |next=>obtain⟨a,l,p,B⟩:=q;exact again p B
  |cont=>obtain⟨a,l,p,B⟩:=q;exact again p B
  |brk=>obtain⟨a,l,p,q⟩:=q;exact⟨a,l,p.n4,q⟩
  |ret v=>refine ac λ_ K=>?_;obtain⟨x7,a,l,p,r7,q⟩:=q;apply K;exact⟨x7,a,l,p.n4,r7,q⟩
end
abbrev R2:=V->V->Hp->VK->Prop
def lu(X:Cx)(f:ak->ak->He ak)(r:R2):Prop:=
 ∀(h_:O (aN×m8))(s:ao)(σ:St)(H:Hp)(x y:V)(v u:ak)(Q:VK),Inv X h_ σ H s->RelV x v->RelV y u->r x y H Q->
  aG (aC X.prog X.w) X.A (f v u) (EP X h_ σ Q) X.xe s
def kH(X:Cx)(f:ak)(r:O V->Hp->VK->Prop):Prop:=
 ∀(h_:O (aN×m8))(s:ao)(σ:St)(H:Hp)(a:O V)(us:O ak)(Q:VK),Inv X h_ σ H s->df a us->r a H Q->
  aG (aC X.prog X.w) X.A (call f us) (EP X h_ σ Q) X.xe s
def abY(X:Cx)(r:V->Hp->(cc->Hp->Prop)->Prop):Prop:=
 ∀(h_:O (aN×m8))(s:ao)(σ:St)(H:Hp)(x:V)(v:ak)(Q:cc->Hp->Prop),Inv X h_ σ H s->RelV x v->r x H Q->
  aG (aC X.prog X.w) X.A (truthy v) (TP X h_ σ Q) X.xe s
def Nq(r:R2)(f tb:TE):TE:=λσ H Q=>f σ H λx a=>tb σ a λy b=>r x y b Q
def rI(C:cx->cx->Prop)(g:cx->cx->V):R2:=λx y H Q=>∃i j,x=.int i/\y=.int j/\C i j/\Q (g i j) H
def Pb(g:cx->cx->V):R2:=λx y H Q=>∃i j,x=.int i/\y=.int j/\Q (g i j) H
section
variable{X:Cx}{tb:TE}
def Xc(ha:PE X a S)(hb:PE X b tb){h_:O (aN×m8)}{s:ao}{σ:St}{H:Hp}{R:V->V->Hp->Prop}(I:Inv X h_ σ H s)
  (h:S σ H λx P=>tb σ P λy C=>R x y C){Q:ak->ao->Prop}{f:ak->ak->He ak}
  (hf:∀v u s2 x y C,Inv X h_ σ C s2->RelV x v->RelV y u->R x y C->aG (aC X.prog X.w) X.A (f v u) Q X.xe s2) :
  aG (aC X.prog X.w) X.A (eval a X.env) (λv F=>aG (aC X.prog X.w) X.A (eval b X.env) (λu B=>aG (aC X.prog X.w) X.A (f v u) Q X.xe B) X.xe F) X.xe s:=by
 refine jf (ha h_ s σ H _ I h) λv s1 l=>?_;obtain⟨x,P,c,d,e⟩:=l;exact jf (hb h_ s1 σ P _ c e) λu s2 z=>by obtain⟨y,C,g,i,j⟩:=z;exact hf v u s2 x y C g d i j
def RP(ho:lu X (dy op) r)(ha:PE X a f)(hb:PE X b tb):PE X (.BinOp a op b pos) (Nq r f tb):=by
 intro h_ s σ H Q I h;exact wpAny_BinOp (Xc ha hb I h λv u s2 x y g c d e q=>ho h_ s2 σ g x y v u Q c d e q)
def opI{f:ak->ak->He ak}{C:cx->cx->Prop}{g:cx->cx->cx}
  (rule:∀(i j:cx)(t u:Rv)(s:ao)(Q:ak->ao->Prop)(E:ak->ao->Prop),C i j->Q (.int (g i j) s.toks) { s with toks:=s.toks+1 }->aG (aC X.prog X.w) X.A (f (.int i t) (.int j u)) Q E s) :
  lu X f (rI C λi j=>.int (g i j)):=by
 intro h_ s σ H x y v u Q I a b h;obtain⟨i,j,rfl,rfl,hc,q⟩:=h;obtain⟨t,rfl⟩:=a;obtain⟨c,rfl⟩:=b;exact rule i j t c s _ _ hc ⟨.int _,H,I.tok _,⟨_,W⟩,q⟩
def Vb{f:ak->ak->He ak}{g:cx->cx->cx}
  (rule:∀(i j:cx)(t u:Rv)(s:ao)(Q:ak->ao->Prop)(E:ak->ao->Prop),Q (.int (g i j) s.toks) { s with toks:=s.toks+1 }->aG (aC X.prog X.w) X.A (f (.int i t) (.int j u)) Q E s) :
  lu X f (Pb λi j=>.int (g i j)):=by
 intro h_ s σ H x y v u Q I a b h;obtain⟨i,j,rfl,rfl,q⟩:=h;obtain⟨t,rfl⟩:=a;obtain⟨c,rfl⟩:=b;exact rule i j t c s _ _ ⟨.int _,H,I.tok _,⟨_,W⟩,q⟩
def Y1{f:ak->ak->He ak}{g:cx->cx->cc}
  (rule:∀(i j:cx)(t u:Rv)(s:ao)(Q:ak->ao->Prop)(E:ak->ao->Prop),Q (.bool (g i j)) s->aG (aC X.prog X.w) X.A (f (.int i t) (.int j u)) Q E s) :
  lu X f (Pb λi j=>.bl (g i j)):=by
 intro h_ s σ H x y v u Q I a b h;obtain⟨i,j,rfl,rfl,q⟩:=h;obtain⟨t,rfl⟩:=a;obtain⟨c,rfl⟩:=b;exact rule i j t c s _ _ ⟨.bl _,H,I,W,q⟩
def IW(i j:cx):Prop:=(-(2 ^ 64)<i/\i<2 ^ 64)\/(-(2 ^ 64)<j/\j<2 ^ 64)
def IW.ok(h:IW i j):IntMulOk i j:=by
 rcases h with⟨h1,h2⟩|⟨h1,h2⟩
 .exact .of_left (intBits_le_64 h1 h2)
 .exact .of_right (intBits_le_64 h1 h2)
def Dj(k:T):(0:cx)<=2 ^ k:=by
 exact T0 _
def Va:lu X (dy .Add) (Pb λi j=>.int (i+j)):=Vb λ_ _ _ _ _ _ _ q=>add_int q
def UZ:lu X (dy .Sub) (Pb λi j=>.int (i - j)):=Vb λ_ _ _ _ _ _ _ q=>sub_int q
def U2:lu X (dy .Mult) (rI IW λi j=>.int (i * j)):=opI λ_ _ _ _ _ _ _ hc q=>mul_int q hc.ok
def U3:lu X (dy .Mod) (rI (λ_ j=>0<j) λi j=>.int (i % j)):=opI λi j _ _ _ _ _ hc q=>by
 exact mod_int' (Int.ne_of_gt hc) (by rwa[Int.fmod_eq_emod_of_nonneg i (Int.le_of_lt hc)])
def U0:lu X (dy .RShift) (rI (λ_ j=>0<=j) λi j=>.int (i / 2 ^ j.toNat)):=opI λi j _ _ _ _ _ hc q=>
 rshift_int hc (by rwa[Int.fdiv_eq_ediv_of_nonneg i (Dj _)])
def U9:lu X (dy .BitAnd) (Pb λi j=>.int (Js i j)):=Vb λ_ _ _ _ _ _ _ q=>and_int q
end
section
variable{b:a9}{tb:TE}
def Mi(I:Inv X h_ σ H s)(q:Q (.bl k) H)(e:k=k'):EP X h_ σ Q (.bool k') s:=by
 subst e;exact⟨.bl k,H,I,W,q⟩
def YZ:lu X (dk .Lt) (Pb λi j=>.bl (decide (i<j))):=Y1 λ_ _ _ _ _ _ _ q=>o8 q
def Y0:lu X (dk .Gt) (Pb λi j=>.bl (decide (j<i))):=Y1 λ_ _ _ _ _ _ _ q=>gt_int q
def HR:lu X (dk .In) (λx y H Q=>∃i j,x=.str i/\y=.str j/\Q (.bl (!(jA j i 0 j.length 1).isEmpty)) H):=by
 intro h_ s σ H x y v u Q I a c h;obtain⟨i,j,rfl,rfl,q⟩:=h;obtain⟨t,rfl⟩:=a;obtain⟨d,rfl⟩:=c;exact in_str (Mi I q W)
def Px:lu X (dk .IsNot) (λx y H Q=>y=.non/\Q (.bl (!decide (x=.non))) H):=by
 intro h_ s σ H x y v u Q I a c h;obtain⟨rfl,q⟩:=h;cases c;refine isnot_none_gen (Mi I q ?_)
 cases x<;>first
  |(cases a;rfl)
  |(obtain⟨t,rfl⟩:=a;rfl)
def Pp(ho:lu X (dk op) r)(ha:PE X a f)(hb:PE X b tb)(B:fy op b=J):PE X (.Compare a [op] [b] pos) (Nq r f tb):=by
 intro h_ s σ H Q I h;exact wpAny_Compare1 (Xc ha hb I h λv u s2 x y g c d e q=>ho h_ s2 σ g x y v u Q c d e q) B
def Ya(t:TE):TT:=λσ H Q=>t σ H λx a=>∃k,x=.bl k/\Q k a
def Pg(ho:lu X (dk op) r)(ha:PE X a C)(hb:PE X b tb)(B:fy op b=J):PT X (.Compare a [op] [b] pos) (Ya (Nq r C tb)):=by
 intro h_ s σ H Q I h
 refine wpAny_isTrue_Compare1 (jf (ha h_ s σ H _ I h) λv s1 ⟨x,d,f,g,i⟩=>jf (hb h_ s1 σ d _ f i) λu s2 ⟨y,t,j,l,m⟩=>
  jf (ho h_ s2 σ t x y v u _ j g l m) λc s3 ⟨z,n,o,p,k,e,q⟩=>?_) B
 subst e;cases p;exact jy ⟨n,o,q⟩
def Xk(K:aB)(x:V)(H:Hp)(k:cc):Prop:=
 match x with
 |.non=>k=J
 |.bl b=>k=b
 |.int i=>k=(i != 0)
 |.str y=>y.length<=aJ/\k=((y.length:cx) != 0)
 |.byt y=>y.size<=aJ/\k=((y.size:cx) != 0)
 |.ref p=>(∃a,nW K H p a/\k=!a.isEmpty)\/(∃a,wW K H p a/\k=!a.isEmpty)\/∃c,H p=Y (.dK c)/\k=!c.isEmpty
 |_=>False
def Eg{κ:Type}{f:O (κ×V)}{vs:O (κ×ak)}(r:KV f vs):(!vs.isEmpty)=!f.isEmpty:=by
 cases r<;>rfl
def wx(r:df xs f):(!f.toArray.isEmpty)=!xs.isEmpty:=by
 cases r<;>simp
def t7:(aJ:T)<2 ^ 63:=cF
def JM:abY X (λx H Q=>∃k,Xk X.K x H k/\Q k H):=by
 intro h_ s σ H x v Q I c h;obtain⟨k,e,q⟩:=h;have hs :=mS
 cases x with
 |non=>
   cases c;subst e;exact truthy_none ⟨H,I,q⟩
 |bl b=>
   cases c;subst e;exact jy ⟨H,I,q⟩
 |int i=>
   obtain⟨t,rfl⟩:=c;subst e;exact PySem.P.truthy_int ⟨H,I,q⟩
 |str y=>
   obtain⟨t,rfl⟩:=c;obtain⟨f,rfl⟩:y.length<=aJ/\k=((y.length:cx) != 0):=e;exact PySem.P.truthy_str (by omega) ⟨H,I.tok _,q⟩
 |byt y=>
   obtain⟨t,rfl⟩:=c;obtain⟨f,rfl⟩:y.size<=aJ/\k=((y.size:cx) != 0):=e;exact PySem.W.truthy_bytes (af f cF) ⟨H,I.tok _,q⟩
 |ref p=>
   cases c;have a :=e
   clear e; rcases a with⟨o,d,a⟩|⟨o,d,a⟩|⟨n,d,a⟩
   .subst a;obtain⟨l,r,pl,g⟩:=I.list d;have hlen:=r.length;exact wpAny_truthy_list pl.isList (by simp only[bF];omega) ⟨H,I.tok _,by rwa[wx r]⟩
   .subst a;obtain⟨l,r,pl,g⟩:=I.tuple d;have hlen:=r.length;exact truthy_tuple pl (by simp only[bF];omega) ⟨H,I.tok _,by rwa[wx r]⟩
   .subst a;obtain⟨g,j,vs,r,m⟩:n.length<=aJ/\(p == fb)=J/\∃vs,KV n vs/\s.heap.DictOf (dN _ _) p vs:=I.hok p _ d;have hlen :=xM r;exact wpAny_truthy_dict j m (by omega) ⟨H,I.tok _,by rwa[Eg r]⟩
 |_=>exact(e).elim
def KA(ha:PE X a C)(he:∀whole,isTrue a X.env whole=(do let v <-whole;standAt a.pos;holding [v] (truthy v))) :
  PT X a (λσ H Q=>C σ H λx B=>∃k,Xk X.K x B k/\Q k B):=by
 intro h_ s σ H Q I h;exact isTrue_plain (jf (ha h_ s σ H _ I h) λv s1 g=>by obtain⟨x,c,d,e,f⟩:=g;exact JM h_ s1 σ c x v Q d e f) (he _)
def DQ:lu X (dy .Add) (λx y H Q=>∃i j,x=.str i/\y=.str j/\i.length+j.length<=aJ/\Q (.str (i++j)) H):=by
 intro h_ s σ H x y v u Q I a c h;obtain⟨i,j,rfl,rfl,d,q⟩:=h;obtain⟨t,rfl⟩:=a;obtain⟨f,rfl⟩:=c;exact add_str (λf e=>⟨.str _,H,I.tok _,⟨_,W⟩,q⟩) d
def vals1(r:df [x] us):∃u,us=[u]/\RelV x u:=by
 cases r with
 |cons a c=>cases c;exact⟨_,W,a⟩
def vals2(r:df [x,y] us):∃u B,us=[u,B]/\RelV x u/\RelV y B:=by
 cases r with
 |cons a c=>
   cases c with
   |cons d e=>cases e;exact⟨_,_,W,a,d⟩
def IQ:kH X (.type "int") (λxs H Q=>(∃i,xs=[.int i]/\Q (.int i) H)\/∃k,xs=[.bl k]/\Q (.int (if k then 1 else 0)) H):=by
 intro h_ s σ H xs us Q I r h
 rcases h with⟨i,rfl,q⟩|⟨k,rfl,q⟩
 .obtain⟨u,rfl,t,rfl⟩:=vals1 r;exact call_int_int ⟨.int i,H,I,⟨_,W⟩,q⟩
 .obtain⟨u,rfl,a⟩:=vals1 r;clear r; cases a;exact call_int_bool ⟨.int _,H,I.tok _,⟨_,W⟩,q⟩
def Aa:kH X (.type "str") (λxs H Q=>∃i,xs=[.int i]/\i.natAbs.log2<1920/\Q (.str (toString i)) H):=by
 intro h_ s σ H xs us Q I r h;obtain⟨i,rfl,a,q⟩:=h;obtain⟨u,rfl,t,rfl⟩:=vals1 r;exact PySem.P.str_of_int a ⟨.str _,H,I.tok _,⟨_,W⟩,q⟩
end
section
variable{K:aB}
end
noncomputable def tQ(f:aa)(v:V):O (aa×V)->O (aa×V)
 |[]=>[(f,v)]
 |(g,x)::r=>if g=f then(g,v)::r else(g,x)::tQ f v r
def Ai.some_of(r:Ai (Y v) o):∃u,o=Y u/\RelV v u:=by
 cases o with
 |none=>exact(r).elim
 |some u=>exact⟨u,W,r⟩
section
end
section
end
section
end
section
end
structure i7(k:T)(A:bP):Prop where
 hd:A.handled=L
 dp:A.depth+3 * k+5<recursionLimit
 un:A.units+16 * k+200<eE
def i7.deeper(r:i7 (k+1) A)(env:C8):i7 k (A.deeper env):=
 ⟨r.hd,by refine (?_ : A.depth+1+3 * k+5<_);exact iY r.dp,by exact iY r.un⟩
def i7.depth(r:i7 k A):A.depth<recursionLimit:=iY r.dp
def i7.units(r:i7 k A):A.units+64<eE:=iY r.un
def Yd:TA:=λ_ H Q=>Q [] H
def Yf(f:TE)(tr:TA):TA:=λσ H Q=>f σ H λx a=>tr σ a λb c=>Q (x::b) c
section
variable{t:TA}
def tS:PA X [] Yd:=λ_ _ _ _ H Q I h=>tJ ⟨[],H,I,.nil,h⟩
def kT(ha:PE X e te)(B:PA X es t)(hs:aP (e::es) X.env=(J,eval e X.env)::aP es X.env:=by rfl):PA X (e::es) (Yf te t):=by
 intro pos h_ s σ H Q I h;rw[hs];exact rO (jf (ha h_ s σ H _ I h) λu s1 l=>by obtain⟨x,a,b,c,d⟩:=l;exact jf (B _ h_ s1 σ a _ b d) λus s2 v=>by obtain⟨k,j,f,g,i⟩:=v;exact⟨_,j,f,.cons c g,i⟩)
def aaK(t:TA):TE:=λσ H Q=>t σ H λb a=>Z b<=aJ/\∀p,a p=L->Q (.ref p) (upd a p (.tup b))
def aaO(t:TA):TE:=λσ H Q=>t σ H λb a=>Z b<=aJ/\∀p,a p=L->Q (.ref p) (upd a p (.lst b))
def UO{x1}(h:PA X es t):PE X (.Tuple es x1 pos) (aaK t):=by
 intro h_ s σ H Q I c;refine wpAny_Tuple_spliced (jf (h _ h_ s σ H _ I c) λus s1 ⟨f,d,a,r,z,q⟩=>⟨by rwa[<-r.length],?_⟩);exact⟨.ref _,upd d _ (.tup f),a.laid (λb u e=>hp9 _ e) (aq _) (⟨z,us,r,⟨_,aT _ W,W,_,W⟩⟩),W,q _ (a.hok.fresh (aq _))⟩
def US(h:PA X es t):PE X (.List es pos) (aaO t):=by
 intro h_ s σ H Q I c;refine wpAny_List_spliced (jf (h _ h_ s σ H _ I c) λus s1 ⟨f,d,a,r,z,q⟩=>⟨by rwa[<-r.length],?_⟩);exact⟨.ref _,upd d _ (.lst f),a.laid (λb u e=>hp9 _ e) (aq _) ⟨z,us,0,r,aT _ W⟩,W,q _ (a.hok.fresh (aq _))⟩
end
abbrev Sp:=O V->Hp->VK->XK->Prop
abbrev SN:=O C8->Hp->ao->XK->ak->ao->Prop
structure gC(P:bW)(w:cU)(K:aB)(mg:aa->ar ak)(base:bJ)(A:bP)(outer:O C8)(s:ao)(H:Hp):Prop where
 frames:A.frames=Y outer
 mod:Mod K mg base
 bs:∀b o,base.get? b=Y o->s.heap.get? b=Y o/\H b=L
 bsz:base.objs.size<=s.heap.objs.size
 sL:s.heap.FunFrames base outer
 frf:∀b∈uP outer,H b=L
 hok:rL P w H s.heap
 bare:lI s.gens
def CE(outer:O C8)(P:bW)(w:cU)(H:Hp)(s:ao)(Q:VK)(u:ak)(f:ao):Prop:=
 ∃v a,f.os=s.os/\lI f.gens/\Un (uP outer) [] H a s.heap f.heap/\rL P w a f.heap/\RelV v u/\Q v a
def CR(B:SN)(outer:O C8)(P:bW)(w:cU)(H:Hp)(s:ao)(Q:VK)(E:XK)(r:Result)(f:ao):Prop:=
 match r with
 |.ok (.ret u)=>CE outer P w H s Q u f
 |.ok _=>False
 |.error e=>B outer H s E e f
structure jx(P:bW)(w:cU)(K:aB)(mg:aa->ar ak)(base:bJ)(CX:SN)(k:T)(f:aN)(fd:iF)(ps:O aa)(sp:Sp):Prop where
 len:∀vs H Q E,sp vs H Q E->Z vs=Z ps
 run:∀(A:bP)(outer:O C8)(s:ao)(H:Hp)(args:Args)(us:O ak)(vs:O V)(Q:VK)(E:XK),i7 k A->gC P w K mg base A outer s H->CG s fd args (ps.zip us)->df vs us->sp vs H Q E->
  e9 (aC P w) A (.call (.ref f) args) (CR CX outer P w H s Q E) s
def jx.imp{K:aB}{base:bJ}(F:jx P w K mg base C k f fd ps sp)
  (h:∀vs H Q E,B vs H Q E->sp vs H Q E):jx P w K mg base C k f fd ps B:=
 ⟨λvs H Q E q=>F.len vs H Q E (h _ _ _ _ q),λA outer s H args us vs Q E a he hb b hs=>F.run A _ s H _ us vs Q E a he hb b (h _ _ _ _ hs)⟩
section
def Inv.WA(I:Inv X h_ σ H s):gC X.prog X.w X.K X.mg X.base X.A X.stack s H:=
 ⟨I.ok.frames,I.ok.mod,I.bs,af I.ok.bsz I.sz,I.stack,I.zi,I.hok,I.bare⟩
def Inv.after(I:Inv X h_ σ H s)(h:CE X.stack X.prog X.w H s Q u f):EP X h_ σ Q u f:=by
 obtain⟨v,c,os,bare,un,hok,r,q⟩:=h;obtain⟨hh,g,d,t,a⟩:=f;obtain rfl:a=s.os:=os;exact⟨v,c,I.call un hok bare (λb z=>absurd z (by simp)),r,q⟩
end
def RG(sp:Sp)(f:O V)(E:XK)(t:TA):TE:=λσ H Q=>t σ H λvs a=>sp (vs++f) a Q E
def Binds(K:aB)(f:iF)(ps:O aa)(ds:O ak):Prop:=
 ∀(s:ao)(us:O ak),K.In s.heap->Z (us++ds)=Z ps->CG s f ⟨us,[]⟩ (ps.zip (us++ds))
def Binds.all{K:aB}{ps:O aa}(h:∀us:O ak,Z us=Z ps->hB fd ⟨us,[]⟩=pure (ps.zip us)):Binds K fd ps []:=λs us _ hl=>by
 rw[aL]at hl ⊢;exact .of_eq (h us hl)
def Ak(f:SN)(X:Cx)(E:XK):Prop:=∀(h_:O (aN×m8))(σ:St)(H:Hp)(s:ao)(e:ak)(a:ao),Inv X h_ σ H s->f X.stack H s E e a->X.xe e a
section
variable{X:Cx}{f C:aN}
def Ko(F:jx X.prog X.w X.K X.mg X.base R k f fd ps sp)(B:i7 k X.A)(hb:Binds X.K fd ps ds)(hd:df P ds)(S:Ak R X E)
  (I:Inv X h_ σ H s)(r:df vs us)(h:sp (vs++P) H Q E):aG (aC X.prog X.w) X.A (call (.ref f) us) (EP X h_ σ Q) X.xe s:=by
 have b :=r.append hd;refine wpAny_call (jc (F.run _ _ s H _ _ _ Q E B I.WA (hb s us I.wu (by rw[<-b.length];exact F.len _ _ _ _ h)) b h) λr c a=>?_)
 cases r with
 |error e=>exact S h_ σ H s e c I a
 |ok d=>
   cases d with
   |ret u=>exact I.after a
   |next=>exact cA a
   |brk=>exact cA a
   |cont=>exact cA a
def FJ(F:jx X.prog X.w X.K X.mg X.base CX k f fd ps sp)(P:i7 k X.A)(R:Gl X x)(hm:X.mg x=Y (.ref f))(hk:dO X.K (.ref f)=U)(hb:Binds X.K fd ps ds)(hd:df S ds)(hx:Ak CX X E)
  (ha:PA X (e::es) t)(B:(x == ("__debug__":aa))=J)(he:aP (e::es) X.env=(J,eval e X.env)::aP es X.env)(O':(er pos (aP es X.env)).any (·.1)=J) :
  PE X (.Call (.Name x p) (e::es) [] pos) (RG sp S E t):=by
 intro h_ s σ H Q I h;refine fN (qw I R hm ?_ B);exact PySem.W.callWith_K I.ok.mod.kin hk (jf (ha _ h_ s σ H _ I h) λus s1 c=>by obtain⟨vs,b,a,r,q⟩:=c;exact⟨a.wu,(Ko F P hb hd hx a r q)⟩) he O'
def KY(F:jx X.prog X.w X.K X.mg X.base CX k f fd ps sp)(O':i7 k X.A)(P:Gl X x)(R:X.mg x=Y (.ref f))(hk:dO X.K (.ref f)=U)(hb:Binds X.K fd ps ds)(hd:df S ds)(hx:Ak CX X E)
  (B:(x == ("__debug__":aa))=J):PE X (.Call (.Name x p) [] [] pos) (RG sp S E Yd):=by
 intro h_ s σ H Q I h;exact fN (qw I P R (PySem.W.callWith_K0 I.wu hk (Ko F O' hb hd hx I .nil h)) B)
structure Mk(K:aB)(C f:aN):Prop where
 makes:PySem.W.makesIn K C=U
 init:l9 K (.ref C) "__init__"=Y (Y (.ref f))
 fn:rN K (.ref f)=U
 kp:dO K (.ref C)=U
end
section
end
structure lV(N P:O aa)(sc:nR):Prop where
 kind:sc.kind=.function
 co:sc.isCoroutine=J
 gen:sc.isGenerator=J
 nd:N.Nodup
 pre:N.take (Z P)=P
 par:∀x∈P,sc.names.lookup x=Y .local\/sc.names.lookup x=Y .cell
 nofree:∀y∈sc.names,y.2≠.free
theorem yL{kindOf:aa->ar lH}:∀{binds:O (aa×ak)}{m:aa->ar ak},(∀v,(x,v)∉binds)->ma kindOf binds m x=m x
 |[],_,_=>rfl
 |(n,v)::r,m,h=>by
   unfold ma;rw[yL λw a=>h w (jY _ a)];split
   .grind
   .rfl
theorem yN{kindOf:aa->ar lH}:∀{binds:O (aa×ak)}{m:aa->ar ak},(∀v,(x,v)∉binds)->mh kindOf binds m x=m x
 |[],_,_=>rfl
 |(n,v)::r,m,h=>by
   unfold mh;rw[yN λw a=>h w (jY _ a)];split
   .rfl
   grind
theorem yM{kindOf:aa->ar lH}:∀{P:O aa} {vs:O ak} {i:T} {m:aa->ar ak},P.Nodup->P[i]?=Y x->vs[i]?=Y v->kindOf x=Y .local->
  ma kindOf (P.zip vs) m x=Y v
 |[],_,_,_,_,h,_,_=>by simp at h
 |_::_,[],_,_,_,_,h,_=>by simp at h
 |p::P,w::vs,0,m,nd,h1,h2,hk=>by
   simp at h1 h2;subst h1;subst h2;show ma _ ((p,w)::P.zip vs) m p=_;unfold ma;rw[yL λv a=>(a6.mp nd).1 (iX a).1,a5 hk];simp
 |p::P,w::vs,i+1,m,nd,h1,h2,hk=>by
   show ma _ ((p,w)::P.zip vs) m x=_;exact yM (a6.mp nd).2 (by simpa using h1) (by simpa using h2) hk
theorem yO{kindOf:aa->ar lH}:∀{P:O aa} {vs:O ak} {i:T} {m:aa->ar ak},P.Nodup->P[i]?=Y x->vs[i]?=Y v->kindOf x≠Y .local->
  mh kindOf (P.zip vs) m x=Y v
 |[],_,_,_,_,h,_,_=>by simp at h
 |_::_,[],_,_,_,_,h,_=>by simp at h
 |p::P,w::vs,0,m,nd,h1,h2,hk=>by
   simp at h1 h2;subst h1;subst h2;show mh _ ((p,w)::P.zip vs) m p=_;unfold mh;rw[yN λv a=>(a6.mp nd).1 (iX a).1,cb hk];simp
 |p::P,w::vs,i+1,m,nd,h1,h2,hk=>by
   show mh _ ((p,w)::P.zip vs) m x=_;exact yO (a6.mp nd).2 (by simpa using h1) (by simpa using h2) hk
noncomputable def start(N:O aa)(vs:O V):St:=vs.map Y++bb (Z N - Z vs) L
noncomputable def pJ(C:SN)(P:bW)(w:cU)(K:aB)(mg:aa->ar ak)(base:bJ)(N:O aa)(qual:aa)(scope:nR)(f:aN)(B:ak)(A:bP)(outer:O C8)(s:ao)(H:Hp)(E:XK):Cx where
 prog:=P
 w:=w
 K:=K
 mg:=mg
 base:=base
 A:=A.deeper (f7 qual scope s.heap.objs.size f B)
 N:=N
 s₀:=s
 H₀:=H
 env:=f7 qual scope s.heap.objs.size f B
 outer:=outer
 stack:=f7 qual scope s.heap.objs.size f B::outer
 ex:=[]
 calm:=U
 fn:=λ_=>U
 pn:=[]
 xe:=λe c=>aG (aC P w) (A.deeper (f7 qual scope s.heap.objs.size f B)) (leaving (f7 qual scope s.heap.objs.size f B) e) (λ_ a=>C outer H s E e a) (λb a=>C outer H s E b a) c
def Cf{sc:nR}(h:sc.names.lookup x=Y .cell):∃c,(cellsFrom n sc.names []).lookup x=Y c:=by
 exact eh.mp (yV _ n [] (.inl h))
def Io{K:aB}{base:bJ}{A:bP}{s1:ao}{vs:O V}
  (S:lV N ps scope)(hd:A.handled=L)(B:gC P w K mg base A outer s H)(hl:Z vs=Z ps)(r:df vs us)
  (x:InCallC s s.heap.objs.size (ma (f7 qual scope s.heap.objs.size f cd).kindOf (ps.zip us) λ_=>L) (cellsFrom (s.heap.objs.size+1) scope.names []) (mh (f7 qual scope s.heap.objs.size f cd).kindOf (ps.zip us) λ_=>L) s1) :
  Inv (pJ C P w K mg base N qual scope f cd A outer s H E) [] (start N vs) H s1:=by
 obtain⟨h1,n,rfl,hk⟩:=x.done;have a:∀b:aN,b∉(pJ C P w K mg base N qual scope f cd A outer s H E).ex:=λb z=>absurd (show b∈([])from z) (by simp)
 refine⟨⟨B.mod,S.kind,W,W,aq _,λy z c h1 h2=>(name_of_addr x.apart (iC h1) (iC h2)),λy d=>?_,λy c _ h=>(aE (x.above y c (iC h))),λ_=>hd,Around.frames_deeper B.frames,.inr ⟨W,W⟩,λb z=>absurd z (a b),B.bs,B.bsz,λb _ _=>a b,λb z=>absurd z (a b),B.sL,B.frf⟩,
  rfl,B.bare,Un.kept hk,⟨_,x.toInCall.ns,λi y v h1 h2 h3=>?_⟩,λy c h=>⟨_,x.cell y c h⟩,B.hok.fresh (aq _),λy c h=>(B.hok.fresh (aE (x.above y c (iC h)))),λp hp=>absurd (show p∈([])from hp) (by simp),B.hok.kept hk,?_⟩
 .rcases d with d|d
  .exact Cf d
  .exact absurd rfl (S.nofree _ (iC d))
 .have hi:i<Z vs:=by
   unfold start at h2;by_cases hi:i<Z vs
   .exact hi
   .rw[aQ (by simpa using hi)]at h2;rw[bI]at h2
    grind
  have ha:vs[i]?=Y v:=by
   unfold start at h2;rw[aR (by simpa using hi),aV]at h2
   simp_all
  obtain⟨u,l,m⟩:=r.get ha
  have hp:ps[i]?=Y y:=by
   rwa[<-S.pre,List.getElem?_take_of_lt (af hi (ag hl))]
  have g:ps.Nodup:=by rw[<-S.pre];exact S.nd.sublist (jd _ _)
  refine⟨u,m,?_⟩
  rcases S.par y (aY hp)with k|k
  .exact .inl ⟨k,yM g hp l k⟩
  .obtain⟨c,e⟩:=Cf k;refine .inr ⟨.inl k,c,e,?_⟩;have q:=x.cell y c e;rwa[yO g hp l (by show scope.names.lookup y≠_;rw[k];decide)]at q
 .unfold start;rw[aj,aD,ja];exact hZ (af (ag hl) (by have:=c8 gh S.pre;rw[iG]at this;exact af (ag this.symm) (pE _ _)))
def Mf{K:aB}{base:bJ}{kV:ak}
  (C:K.lookup f=Y ⟨oc,od,.func (oB name qual params body scope R kV doc pm an cdv ct),osl⟩)(O':pO K cdv qual=U)(S:lV N ps scope)
  (len:∀vs H Q E,sp vs H Q E->Z vs=Z ps)
  (B:∀(A:bP)(outer:O C8)(s:ao)(H:Hp)(vs:O V)(Q:VK)(E:XK),i7 k (A.deeper (f7 qual scope s.heap.objs.size f cdv))->sp vs H Q E->
   ∃t,sY (pJ I P w K mg base N qual scope f cdv A outer s H E) body t/\t { nx:=λ_ F=>Q .non F,rt:=Q } (start N vs) H) :
  jx P w K mg base I (k+1) f (oB name qual params body scope R kV doc pm an cdv ct) ps sp:=by
 refine⟨len,λA outer s H args us vs Q E h d hb r g=>?_⟩;have l :=d.mod.kin.keeps λb o e=>(d.bs b o e).1;have c:∀y∈ps.zip us,scope.names.lookup _=Y _\/(scope.names.lookup _=Y _/\((cellsFrom (s.heap.objs.size+1) _ []).lookup _).isSome=U):=λm p=>by
  rcases S.par _ (iX p).1 with q|q
  .exact .inl q
  .exact .inr ⟨q,yV _ _ _ (.inl q)⟩
 refine codeAny_call_function h.depth (l _ _ C) W S.co S.gen W (PySem.W.codeRec_of l O') (hb _ _ _ _ ?_);refine wpAny_newFunctionEnv_cells S.kind c λenv he s1 x=>?_;subst he;refine⟨(d.mod.nolimit.keeps λb o e=>(d.bs b o e).1).keeps x.toInCall.keep,codeAny_func ?_⟩;obtain⟨t,ht,z⟩:=B A _ s H vs Q E (h.deeper _) g;refine bO (ht [] s1 _ H _ (Io S h.hd d (len _ _ _ _ g) r x) z) (λD n hs=>?_) λe n hs=>hs
 have fin:∀{a:St}{F:Hp}{v:V}{u:ak},Inv (pJ I P w K mg base N qual scope f cdv A outer s H E) [] a F n->RelV v u->Q v F->CE _ P w H s Q u n:=
  λ{a F v u}i j q=>⟨v,F,i.os,i.bare,i.base,i.hok,j,q⟩
 cases D with
 |ret u=>
   obtain⟨v,a,F,i,j,q⟩:=hs;exact fin i j q
 |next=>
   obtain⟨a,F,i,q⟩:=hs;exact fin (v:=V.non) i W q
 |brk=>
   obtain⟨_,_,_,q⟩:=hs;exact cA q
 |cont=>
   obtain⟨_,_,_,q⟩:=hs;exact cA q
section
variable{t:TA}{id T':ej}{r:O V->Hp->VK->Prop}
def tCB(r:O V->Hp->VK->Prop)(t:TA):TE:=λσ H Q=>t σ H λvs a=>r vs a Q
def p7(hc:kH X (.builtin id) r)(f:Gl X x)(C:X.mg x=L)(F:dt x=Y (.builtin id))(ha:PA X (e::es) t)(P:x≠"__name__")(B:(x == ("__debug__":aa))=J)
  (he:aP (e::es) X.env=(J,eval e X.env)::aP es X.env)(R:(er pos (aP es X.env)).any (·.1)=J):PE X (.Call (.Name x p) (e::es) [] pos) (tCB r t):=by
 intro h_ s σ H Q I h;exact fN (qc I f C F (qD (jf (ha _ h_ s σ H _ I h) λus s1 g=>by obtain⟨vs,a,b,c,d⟩:=g;exact hc h_ s1 σ a vs us Q b c d) he R) P B)
def HQ(hc:kH X (.type T') r)(f:Gl X x)(C:X.mg x=L)(F:dt x=Y (.type T'))(ha:PA X (e::es) t)(P:x≠"__name__")(B:(x == ("__debug__":aa))=J)
  (he:aP (e::es) X.env=(J,eval e X.env)::aP es X.env)(R:(er pos (aP es X.env)).any (·.1)=J):PE X (.Call (.Name x p) (e::es) [] pos) (tCB r t):=by
 intro h_ s σ H Q I h;exact fN (qc I f C F (fK (jf (ha _ h_ s σ H _ I h) λus s1 ⟨vs,a,b,c,d⟩=>hc h_ s1 σ a vs us Q b c d) he R) P B)
end
end L2
namespace HT
section
open PySem.SeqAt
open PySem.AutoSeq1 (wpAny_loadPart')
open PySem.MeetsSeq PySem.MeetsSeq2 PySem.MeetsSeq3
end
section
variable{s:ao}
def QS{vs ws:O ak}(ht:NL s.heap t vs.toArray)(hb:NL s.heap b ws.toArray)(B:vs≠[])
  (h1:ws=[]->Q (.ref t) s)(h2:ws≠[]->Q (.ref s.heap.objs.size) { s with heap:=s.heap.push { cls:=.type "tuple",data:=.seq (vs++ws).toArray } })
  (hsz:Z vs+Z ws<=aJ):aG (aC prog w) A (dy .Add (.ref t) (.ref b)) Q E s:=by
 refine ac λ_ k=>?_;obtain⟨⟨cls,h,data,sl⟩,ho,hc,n,hd⟩:=id ht;obtain⟨⟨i,c,data2,zo⟩,a,f,j,g⟩:=id hb;subst hc hd f g;apply k;have e:vs.toArray++ws.toArray=(vs++ws).toArray:=by simp
 by_cases d:ws=[]
 .exact xt ⟨_,ho,W⟩ ⟨_,a,W⟩ yU G9 oF nX (nG _ _)
   (tuple_addW1 t b _ _ n j h c sl zo (by simpa using B) (by simp[d])) ⟨ho,a,h1 d⟩
 .refine xt ⟨_,ho,W⟩ ⟨_,a,W⟩ yU G9 oF nX (nG _ _)
   (tuple_addW2 t b _ _ n j h c sl zo (by simpa using B) (by simpa using d) (by exact hsz)) ⟨ho,a,?_⟩
  rw[e];exact h2 d
noncomputable def jJ(n d:T):ar cx->T
 |none=>d
 |some v=>if v<0 then(v+(n:cx)).toNat else min v.toNat n
def rW(n d:T):jJ n d L=d:=rfl
def uZ(n d k:T):jJ n d (Y (k:cx))=min k n:=by
 show(if(k)<0 then((k:cx)+(n)).toNat else min _ n)=min k n;simp
def Uu(n d:T)(hd:d<=n)(o:ar cx):jJ n d o<=n:=by
 cases o with
 |none=>exact hd
 |some v=>
   show(if v<0 then(v+(n)).toNat else min _ n)<=n;by_cases a:v<0
   .rw[a5 a];omega
   .rw[cb a];exact pE _ _
def GO(v:cx)(n d:T):(if v<0 then max (v+(n:cx)) 0 else min v (n:cx))=((jJ n d (Y v):T):cx):=by
 show(if v<0 then max _ 0 else min v _)=(((if v<0 then(v+(n)).toNat else min _ n):T))
 grind
theorem cl9(i:cx)(n:T):max 0 (min (if i<0 then i+(n:cx) else i) (n:cx))=if i<0 then max (i+(n:cx)) 0 else min i (n:cx):=by
 split
 .rw[Int.min_eq_left (by omega),Int.max_comm]
 .exact Int.max_eq_right (Int.le_min.mpr ⟨by omega,Int.ofNat_zero_le _⟩)
def ES(lo hi:ar cx)(n:T):tf lo hi 1 (n:cx)=(((jJ n 0 lo:T):cx),((jJ n n hi:T):cx)):=by
 refine E3 ?_ ?_
 .cases lo with
  |none=>rfl
  |some v=>exact GO v n 0
 .cases hi with
  |none=>rfl
  |some v=>exact GO v n n
def DM(i j:T):iW (i:cx) (j:cx) 1=j - i:=by
 unfold iW;rw[a5 (by decide)];split
 .rw[Int.ediv_one];simp
 .omega
def vQ(p:tG v o)(h:Q o s):aG (aC prog w) A (Builtin.Slice.slicePartIndex v) Q E s:=by
 cases p with
 |none=>exact slicePart_none h
 |int i t=>exact slicePart_int h
def n5{sl:aN}{B C:ak}{lo hi:ar cx}{n:T}{Q:cx×cx×T->ao->Prop}(hs:s.heap.IsSliceOf sl B C .none)(pl:tG B lo)(f:tG C hi)
  (h:Q (((jJ n 0 lo:T):cx),1,jJ n n hi - jJ n 0 lo) s):aG (aC prog w) A (Builtin.Slice.sliceApplied (.ref sl) (pure (n:cx))) Q E s:=by
 obtain⟨os,a,c,b⟩:=id hs;refine wb9 (wb9 (dA a b (x:=B) W (wb9 (dA a b (x:=C) W (wb9 (dA a b W (wu9 ?_)))))));refine wb9 (slicePart_none ?_);refine wb9 (vQ pl (wb9 (vQ f (wb9 (wu9 ?_)))));show aG _ _ (match tf lo hi 1 (n)with|(lo,hi)=>pure (lo,(1:cx),iW lo hi 1)) _ _ s;rw[ES lo hi n];show aG _ _ (pure (((jJ n 0 lo):cx),(1),iW _ _ 1)) _ _ s;rw[DM];exact wu9 h
def KI(xs:c7 ak)(i k:T):((aX k).filterMap λ(m:T)=>xs[((i:cx)+(m:cx) * 1).toNat]?).toArray=((xs.toList.drop i).take k).toArray:=by
 have e:(λ(m:T)=>xs[((i:cx)+(m) * 1).toNat]?)=λm=>xs[i+m]? :=by
  funext m
  grind
 rw[e];have:=pick_run xs i k;have a:((λx=>xs[x]?) ∘ λx=>i+x)=λm=>xs[i+m]? :=rfl
 simp_all
def sE{sl:aN}{lo:ar cx}(ht:NL s.heap t items)(hs:s.heap.IsSliceOf sl C F .none)(pl:tG C lo)(B:tG F hi)
  (I:¬(jJ items.size 0 lo=0/\jJ items.size items.size hi=items.size))
  (h:Q (.ref s.heap.objs.size) { s with heap:=s.heap.push { cls:=.type "tuple",data:=.seq ((items.toList.drop (jJ items.size 0 lo)).take (jJ items.size items.size hi - jJ items.size 0 lo)).toArray } })
  (hsz:items.size<=aJ):aG (aC prog w) A (g8 (.ref t) (.ref sl)) Q E s:=by
 have a:sizeOk (.seq ((items.toList.drop (jJ items.size 0 lo)).take (jJ items.size items.size hi - jJ items.size 0 lo)).toArray):=by
  show((items.toList.drop (jJ _ 0 lo)).take (jJ _ _ hi - jJ _ 0 lo)).toArray.size<=aJ;rw[bF,iG,dF,bM];exact af (Nat.min_le_right _ _) (af (yY _ _) hsz)
 obtain⟨os,b,c,f⟩:=id hs;unfold g8
 try with_reducible apply cL
 first|grind|skip
 refine wb9 (jn ht.typeIs cF ?_)
 refine wb9 (dS ht.typeIs dH
  (cV dH ht.typeIs hO ?_ (ih _ _)))
 show aG _ _ (kX _ >>= _) _ _ s;refine wb9 (tupleItemsOf_ ht ?_);refine wb9 (jU ⟨os,b,c⟩ ?_);refine wb9 (n5 hs pl B ?_)
 have e:¬((((jJ items.size 0 lo):cx) == 0 && (1:cx) == 1 && (jJ items.size items.size hi - jJ items.size 0 lo) == items.size)=U):=by
  simp_all
 show aG _ _ (if(((jJ _ 0 lo):cx) == 0 && (1) == 1 && (jJ _ _ hi - jJ _ 0 lo) == items.size)=U then _ else _) _ _ s;rw[cb e,KI]
 first
  |exact wb9 (fh (wu9 ⟨_,rfl,wu9 h⟩) a)
  |simp
  |simp
  |simp
end
end HT
namespace L2
abbrev TO:=St->Hp->(ar cx->Hp->Prop)->Prop
def PO(X:Cx)(e:ar a9)(t:TO):Prop:=
 ∀(h_:O (aN×m8))(s:ao)(σ:St)(H:Hp)(Q:ar cx->Hp->Prop),Inv X h_ σ H s->t σ H Q->
  aG (aC X.prog X.w) X.A (evalPart e X.env) (λu b=>∃o a,Inv X h_ σ a b/\tG u o/\Q o a) X.xe s
def Oe:TO:=λ_ H Q=>Q L H
def Yc(t:TE):TO:=λσ H Q=>t σ H λx a=>∃i,x=.int i/\Q (Y i) a
section
variable{X:Cx}{te:TE}{lo hi:ar a9}{tl th:TO}
def Pl:PO X L Oe:=by
 intro h_ s σ H Q I h;exact wu9 ⟨L,H,I,.none,h⟩
def Pk(h:PE X e te):PO X (Y e) (Yc te):=by
 intro h_ s σ H Q I a;refine jf (h h_ s σ H _ I a) λu s1 g=>?_;obtain⟨x,b,c,d,f⟩:=g;obtain⟨i,rfl,q⟩:=f;obtain⟨t,rfl⟩:=d;exact⟨_,b,c,.int i t,q⟩
def SlR(X:Cx)(r:V->ar cx->ar cx->Hp->VK->Prop):Prop:=
 ∀(h_:O (aN×m8))(s:ao)(σ:St)(H:Hp)(x:V)(v a b:ak)(lo hi:ar cx)(sl:aN)(Q:VK),Inv X h_ σ H s->RelV x v->s.heap.IsSliceOf sl a b .none->tG a lo->tG b hi->r x lo hi H Q->
  ∃T' c,typeLookup (.type T') "__getitem__"=pure (Y (.builtin c))/\s.TypeIs v T'/\aG (aC X.prog X.w) X.A (g8 v (.ref sl)) (EP X h_ σ Q) X.xe s
def tSl(r:V->ar cx->ar cx->Hp->VK->Prop)(te:TE)(tl th:TO):TE:=λσ H Q=>te σ H λx a=>tl σ a λl c=>th σ c λu b=>r x l u b Q
def KS(B:SlR X r)(he:PE X e te)(hl:PO X lo tl)(C:PO X hi th):PE X (.Subscript e (.Slice lo hi L F) pos) (tSl r te tl th):=by
 intro h_ s σ H Q I h;refine Subscript_ (jf (he h_ s σ H _ I h) λv s1 D=>?_);obtain⟨x,f,g,i,j⟩:=D;refine wpAny_Slice (jf (hl h_ s1 σ f _ g j) λa s2 ⟨l,t,k,pl,m⟩=>jf (C h_ s2 σ t _ k m) λc s3 E=>?_);obtain⟨u,d,n,o,p⟩:=E;apply wu9;obtain⟨T',A,w,ht,y⟩:=B h_ { s3 with heap:=s3.heap.push { cls:=.type _,data:=.fields _ } } σ d x v a c l u _ Q (n.kept λb z q=>hp9 _ q) i (Heap.IsSliceOf.new ..) pl o p;exact NI ht w y (by with_unfolding_all rfl)
def EB(xs:O V)(lo hi:ar cx):O V:=(xs.drop (HT.jJ xs.length 0 lo)).take (HT.jJ xs.length xs.length hi - HT.jJ xs.length 0 lo)
def uE(xs:O V)(lo hi:ar cx):Z (EB xs lo hi)<=Z xs:=by
 unfold EB;rw[iG,dF];exact af (pE _ _) (yY _ _)
def aa1(K:aB):V->ar cx->ar cx->Hp->VK->Prop:=λx lo hi H Q=>∃a b,x=.ref a/\wW K H a b/\
 ¬(HT.jJ b.length 0 lo=0/\HT.jJ b.length b.length hi=Z b)/\∀p,H p=L->Q (.ref p) (upd H p (.tup (EB b lo hi)))
def TX:SlR X (aa1 X.K):=by
 intro h_ s σ H x v i j lo hi sl Q I d hs pl e h;refine ac λ_ l=>?_;obtain⟨a,n,rfl,f,g,q⟩:=h;cases d;obtain⟨m,r,ht,c⟩:=I.tuple f;apply l;have hlen:m.toArray.size=Z n:=by exact r.length.symm
 refine⟨_,_,dH.lookup,ht.typeIs,?_⟩;refine HT.sE ht hs pl e (by rwa[hlen]) ?_ (by rwa[hlen]);rw[hlen];refine⟨.ref _,_,I.laid (λb k q=>hp9 _ q) (aq _) ?_,W,q _ (I.hok.fresh (aq _))⟩;exact⟨af (uE n lo hi) c,_,(r.drop (HT.jJ _ 0 lo)).take (HT.jJ _ _ hi - HT.jJ _ 0 lo),Ju _ _⟩
def YR(K:aB):R2:=λx y H Q=>∃a b d c,x=.ref a/\y=.ref b/\wW K H a d/\wW K H b c/\d≠[]/\Z d+Z c<=aJ/\
 (c=[]->Q (.ref a) H)/\(c≠[]->∀p,H p=L->Q (.ref p) (upd H p (.tup (d++c))))
def df.zB(r:df xs us):us=[]↔xs=[]:=by
 cases r with
 |nil=>simp
 |cons _ _=>simp
def PD:lu X (dy .Add) (YR X.K):=by
 intro h_ s σ H x y v u Q I e f h;refine ac λ_ p=>?_;obtain⟨a,b,t,A,rfl,rfl,ha,hb,g,i,j,k⟩:=h;cases e;cases f;obtain⟨r,d,l,_⟩:=I.tuple ha;obtain⟨n,c,m,_⟩:=I.tuple hb;apply p;refine HT.QS l m (λz=>g (d.zB.mp z)) (λz=>⟨.ref a,H,I,W,j (c.zB.mp z)⟩) (λz=>?_) (by rwa[<-d.length,<-c.length]);refine⟨.ref _,_,I.laid (λb o q=>hp9 _ q) (aq _) ?_,W,k (λw=>z (c.zB.mpr w)) _ (I.hok.fresh (aq _))⟩;exact⟨by simp_all,_,d.append c,Ju _ _⟩
end
noncomputable def rJ(n:T)(i:cx):ar T:=if 0<=i then(if i<n then Y i.toNat else L)else if -(n:cx)<=i then Y (i+n).toNat else L
def vp{α:Type}(xs:O α)(i:cx):ar α:=(rJ xs.length i).bind λj=>xs[j]?
def zK(h:rJ n i=Y j):seqIndex? i n=Y j/\j<n/\-(n:cx)<=i/\i<n:=by
 unfold rJ at h;by_cases h0:0<=i
 .rw[a5 h0]at h;by_cases h1:i<n
  .rw[a5 h1]at h;have e :=bL h;exact⟨by rw[NB h0 h1,e],by omega,by omega,h1⟩
  simp_all
 .rw[cb h0]at h;by_cases h1:-(n)<=i
  .rw[a5 h1]at h;have e :=bL h;exact⟨by rw[Jp (pS.mp h0) h1,e],by omega,h1,ig (pS.mp h0) (fQ _)⟩
  simp_all
def Af (h:vp xs i=Y v):∃j,seqIndex? i (Z xs)=Y j/\xs[j]?=Y v/\j<Z xs/\-(xs.length:cx)<=i/\i<Z xs:=by
 unfold vp at h
 cases e:rJ _ i with
 |none=>rw[e]at h;cases h
 |some j=>
   rw[e]at h;obtain⟨h1,h2,h3,a⟩:=zK e;exact⟨j,h1,h,h2,h3,a⟩
def jK{α:Type}{xs:O α}{j:T}{v:α}(h:xs[j]?=Y v):vp xs (j:cx)=Y v:=by
 have a :=(aK.mp h).1
 have e:rJ xs.length (j)=Y j:=by
  unfold rJ
  simp_all
 unfold vp;rwa[e]
def Aj(b:a9):Prop:=∀o i,subscripted b J o i=operate [o,i] (g8 o i)
def Xq(X:Cx)(r:R2):Prop:=
 ∀(value slice:a9)(h_:O (aN×m8))(s:ao)(σ:St)(H:Hp)(x y:V)(v u:ak)(Q:VK),Inv X h_ σ H s->RelV x v->RelV y u->r x y H Q->
  subscripted slice J v u=operate [v,u] (g8 v u)->aG (aC X.prog X.w) X.A (subscriptTail value slice v u) (EP X h_ σ Q) X.xe s
def Xp(X:Cx)(f:ej)(r:V->O V->Hp->VK->Prop):Prop:=
 ∀(h_:O (aN×m8))(s:ao)(σ:St)(H:Hp)(x:V)(a:O V)(v:ak)(us:O ak)(Q:VK),Inv X h_ σ H s->RelV x v->df a us->r x a H Q->
  aG (aC X.prog X.w) X.A (call (.builtin f) (v::us)) (EP X h_ σ Q) X.xe s
section
variable{a:a9}{tb:TE}
def Bm(B:Xq X r)(ha:PE X a f)(hb:PE X b tb)(hs:Aj b):PE X (.Subscript a b pos) (Nq r f tb):=by
 intro h_ s σ H Q I h;exact Subscript_ (Xc ha hb I h λv u s2 x y g c d e q=>B a b h_ s2 σ g x y v u Q c d e q (hs _ _))
def Kx(K:aB):R2:=λx y H Q=>∃p b i v,x=.ref p/\y=.int i/\nW K H p b/\vp b i=Y v/\Q v H
def aa3(K:aB):R2:=λx y H Q=>∃p b i v,x=.ref p/\y=.int i/\wW K H p b/\vp b i=Y v/\Q v H
def aa4:R2:=λx y H Q=>∃z i c,x=.str z/\y=.int i/\z.length<=aJ/\vp z.cps.toList i=Y c/\Q (.str ⟨#[c]⟩) H
def vf:Xq X (Kx X.K):=by
 intro value slice h_ s σ H x y v u Q I e f h hs;refine ac λ_ a=>?_;obtain⟨p,A,i,z,rfl,rfl,g,he,q⟩:=h;cases e;obtain⟨t,rfl⟩:=f;obtain⟨n,r,pl,k⟩:=I.list g;obtain⟨j,h1,h2,h3,l,o⟩:=Af he;obtain⟨w,d,b⟩:=r.get h2;apply a;have hl:=r.length;have m:=t7;by_cases h0:0<=i
 .have c:i.toNat=j:=by
   rw[NB h0 o]at h1
   simp_all
  exact item_listR pl.isList h0 (ig o (ig (ie.mpr k) cF)) (by rw[c];simpa using d) ⟨z,H,I,b,q⟩ hs
 .have c:(i+(n.toArray.size)).toNat=j:=by
   rw[Jp (pS.mp h0) l]at h1
   simp_all
  exact Jt pl.isList.typeIs slot_list_getitem.lookup
   (wpAny_getItem_list_neg pl.isList (pS.mp h0) (by simp_all) (by omega) (by rw[c];simpa using d) ⟨W,⟨z,H,I,b,q⟩⟩) hs
def V1:Xq X (aa3 X.K):=by
 intro value slice h_ s σ H x y v u Q I c d h hs;refine ac λ_ a=>?_;obtain⟨p,o,i,z,rfl,rfl,e,he,q⟩:=h;cases c;obtain⟨t,rfl⟩:=d;obtain⟨m,r,pl,f⟩:=I.tuple e;obtain⟨j,h1,h2,h3,k,n⟩:=Af he;obtain⟨w,g,b⟩:=r.get h2;apply a;have l:=t7;exact Jt pl.typeIs slot_tuple_getitem.lookup
  (PyProof.Rows.getItem_tuple pl (by omega) (ig n (ig (ie.mpr f) cF)) (by rwa[bF,<-r.length]) (by simpa using g) ⟨W,⟨z,H,I,b,q⟩⟩) hs
def V3:Xq X aa4:=by
 intro value slice h_ s σ H x y v u Q I b d h hs;refine ac λ_ a=>?_;obtain⟨z,i,c,rfl,rfl,f,he,q⟩:=h;obtain⟨t,rfl⟩:=b;obtain⟨l,rfl⟩:=d;obtain⟨j,h1,h2,h3,e,k⟩:=Af he;apply a;have hl:z.cps.toList.length=z.length:=by simp[Str.length]
 rw[hl]at h1 e k;have g:=t7
 exact NI (k9 s z t) slot_str_getitem.lookup (getItem_str (by
  grind) (by rw[h1];simpa using h2) ⟨.str ⟨_⟩,H,I.tok _,⟨_,W⟩,q⟩) hs
def D2(f:O ak)(n j:T)(u:ak):fD (·.setIfInBounds j u) { cls:=.type "list",data:=.seq f.toArray n }={ cls:=.type "list",data:=.seq (f.set j u).toArray n }:=by
 simp[fD]
def Inv.lst(I:Inv X h_ σ H s)(h:H p=Y (.lst xs)) :
  ∃(f:O ak) (n:T),df xs f/\s.heap.get? p=Y { cls:=.type "list",data:=.seq f.toArray n }/\Z xs<=aJ:=by
 obtain⟨z,f,n,r,e⟩:=I.hok p _ h;exact⟨_,n,r,e,z⟩
def Inv.VH{C B:O ak}(I:Inv X h_ σ H s)(h:H p=Y (.lst xs))
  (ho:s.heap.get? p=Y { cls:=.type "list",data:=.seq C.toArray n })(hf:f { cls:=.type "list",data:=.seq C.toArray n }={ cls:=.type "list",data:=.seq B.toArray F })(r:df P B)(R:Z P<=aJ)(t:T) :
  Inv X h_ σ (upd H p (.lst P)) { s with heap:=s.heap.update p f,toks:=t }:=by
 have e:(s.heap.update p f).get? p=Y { cls:=.type "list",data:=.seq B.toArray F }:=by
  rw[ei f ho (by rw[hf]<;>rfl),hf]
 exact I.write (by rw[h];trivial) (λb u hb q=>(dT _ _ (cB hb)).trans q) ⟨_,e⟩ ⟨R,B,F,r,e⟩
def Fv:V->V->V->Hp->(Hp->Prop)->Prop:=λo i v H Q=>∃p b k j,o=.ref p/\i=.int k/\H p=Y (.lst b)/\rJ b.length k=Y j/\Q (upd H p (.lst (b.set j v)))
def set_list:Xm X Fv:=by
 intro h_ s σ H o i v l m u Q I c d e h;refine ac λ_ a=>?_;obtain⟨p,z,k,j,rfl,rfl,hp,f,q⟩:=h;cases c;obtain⟨t,rfl⟩:=d;obtain⟨x,n,r,ho,g⟩:=I.lst hp;obtain⟨h1,h2,h3,b⟩:=zK f;apply a;have hl:=r.length;have w:=t7
 have y :=
  I.VH hp ho (D2 _ n j u) (r.set e j) (by simp_all) s.toks
 by_cases h0:0<=k
 .have hk:k.toNat=j:=by
   rw[NB h0 b]at h1
   simp_all
  exact PySem.W.ki_setAt ho h0 (ig b (ig (ie.mpr g) cF)) (by simp_all) (by rw[hk];exact⟨_,y,q⟩)
 .have hk:(k+(x.toArray.size)).toNat=j:=by
   rw[Jp (pS.mp h0) h3]at h1
   simp_all
  exact PySem.W.ki_setBack ho (pS.mp h0) (by simp_all) (by omega) (by rw[hk];exact⟨_,y,q⟩)
def zl(lo hi:ar cx)(n:T):(eL lo hi L n).1=((HT.jJ n 0 lo:T):cx)/\(eL lo hi L n).2.1=((HT.jJ n n hi:T):cx)/\(eL lo hi L n).2.2=1:=by
 refine⟨?_,?_,W⟩
 .cases lo with
  |none=>simp[eL,HT.jJ]
  |some i=>
    rw[<-HT.GO];simp only[eL,IY,show(1:cx) > 0 by decide,eu];exact HT.cl9 i n
 .cases hi with
  |none=>simp[eL,HT.jJ]
  |some i=>
    rw[<-HT.GO];simp only[eL,IY,show(1:cx) > 0 by decide,eu];exact HT.cl9 i n
def xx(f:O ak)(lo hi:ar cx):slicePick f.toArray lo hi L=((f.drop (HT.jJ f.length 0 lo)).take (HT.jJ f.length f.length hi - HT.jJ f.length 0 lo)).toArray:=by
 obtain⟨h1,h2,h3⟩:=zl lo hi _;unfold slicePick;rw[h1,h2,h3];simp only[sliceRange_one,pick_run,bF]<;>rfl
def aa2(K:aB):V->ar cx->ar cx->Hp->VK->Prop:=λx lo hi H Q=>∃a b,x=.ref a/\nW K H a b/\∀p,H p=L->Q (.ref p) (upd H p (.lst (EB b lo hi)))
def OH:SlR X (aa2 X.K):=by
 intro h_ s σ H x v g i lo hi sl Q I c hs pl d h;refine ac λ_ k=>?_;obtain⟨a,l,rfl,e,q⟩:=h;cases c;obtain⟨m,r,ht,f⟩:=I.list e;apply k;have hlen:=r.length;refine⟨_,_,slot_list_getitem.lookup,ht.isList.typeIs,?_⟩;refine wpAny_getItem_list_slice ht.isList hs pl d .none (by simp) ?_ (by simp_all);rw[xx,<-hlen];refine⟨.ref _,_,I.laid (λb j q=>hp9 _ q) (aq _) ?_,W,q _ (I.hok.fresh (aq _))⟩;exact⟨af (uE l lo hi) f,_,0,(r.drop (HT.jJ _ 0 lo)).take (HT.jJ _ _ hi - HT.jJ _ 0 lo),aT _ W⟩
def zA:lu X (dk .NotIn) (λx y H Q=>∃i j,x=.str i/\y=.str j/\Q (.bl (!(!(jA j i 0 j.length 1).isEmpty))) H):=by
 intro h_ s σ H x y v u Q I b c h;obtain⟨i,j,rfl,rfl,q⟩:=h;obtain⟨t,rfl⟩:=b;obtain⟨d,rfl⟩:=c;exact notIn_str ⟨.bl _,H,I,W,q⟩
def sU:kH X (.builtin "len") (λxs H Q=>∃p B,xs=[.ref p]/\(nW X.K H p B\/wW X.K H p B)/\Q (.int B.length) H):=by
 intro h_ s σ H xs us Q I r h;obtain⟨p,B,rfl,b,q⟩:=h;obtain⟨u,rfl,d⟩:=vals1 r;clear r; cases d;have f:=t7
 rcases b with b|b
 .obtain⟨g,c,pl,e⟩:=I.list b;have hlen:=c.length;exact Calls.call_len_list pl.isList (by simp only[bF]<;>omega) ⟨.int _,H,I.tok _,⟨_,by rw[bF,hlen]⟩,q⟩
 .obtain⟨g,c,pl,e⟩:=I.tuple b;have hlen:=c.length;exact PyProof.Rows.len_tuple pl (by simp only[bF]<;>omega) ⟨.int _,H,I.tok _,⟨_,by rw[bF,hlen]⟩,q⟩
def Ab:kH X (.builtin "len") (λxs H Q=>∃z,xs=[.str z]/\z.length<=aJ/\Q (.int z.length) H):=by
 intro h_ s σ H xs us Q I r h;obtain⟨z,rfl,b,q⟩:=h;obtain⟨u,rfl,t,rfl⟩:=vals1 r;have c:=t7;exact len_str (by omega) ⟨.int _,H,I.tok _,⟨_,W⟩,q⟩
def qK:kH X (.type "tuple") (λxs H Q=>∃p B,xs=[.ref p]/\((nW X.K H p B/\∀l,H l=L->Q (.ref l) (upd H l (.tup B)))\/(wW X.K H p B/\Q (.ref p) H))):=by
 intro h_ s σ H xs us Q I r h;obtain⟨p,B,rfl,h⟩:=h;obtain⟨u,rfl,i⟩:=vals1 r;clear r; cases i
 rcases h with⟨c,q⟩|⟨c,q⟩
 .obtain⟨k,d,pl,f⟩:=I.list c;have hlen:=d.length;refine call_tuple_list pl.isList (λm kp=>?_) (by grind);have g:Inv X h_ σ H { s with heap:=m }:=I.kept kp
  have j:Inv X h_ σ (upd H _ (.tup B)) { s with heap:=m.push { cls:=.type _,data:=.seq _ } }:=
   g.laid (λb o e=>hp9 _ e) (aq _) (⟨f,_,d,Ju _ _⟩)
  exact⟨.ref _,_,j,W,q _ (g.hok.fresh (aq _))⟩
 .obtain⟨k,d,pl,f⟩:=I.tuple c;exact call_tuple_same pl ⟨.ref p,H,I,W,q⟩
def tyV(K:aB)(T':ej)(x:V)(H:Hp):Prop:=match x with
 |.str _=>T'="str"
 |.int _=>T'="int"
 | .ref p=>(T'="list"/\∃b,nW K H p b)\/(T'="tuple"/\∃o,K.lookup p=Y o/\o.cls=.type "tuple"/\o.dict=L)\/
   T'="dict"/\∃c,H p=Y (.dK c)
 |_=>False
def JI{T':ej}(I:Inv X h_ σ H s)(r:RelV x v)(ty:tyV X.K T' x H) :
  s.TypeIs v T'/\∀a,v=.ref a->∃B,s.heap.get? a=Y B/\B.dict=L:=by
 cases x with
 |str z=>
   obtain⟨t,rfl⟩:=r;cases(ty);exact⟨k9 s z t,λ_ e=>nomatch e⟩
 |int i=>
   obtain⟨t,rfl⟩:=r;cases(ty);exact⟨typeIs_int s i t,λ_ e=>nomatch e⟩
 |ref p=>
   cases r
   rcases ty with⟨rfl,h,b⟩|⟨rfl,o,hk,hc,hd⟩|⟨rfl,j,hk⟩
   .obtain⟨f,_,pl,_⟩:=I.list b;refine⟨pl.isList.typeIs,λa e=>?_⟩;cases e;obtain⟨o,n,e,c,hd,_⟩:=pl;exact⟨o,e,hd⟩
   .refine⟨⟨o,I.wu p o hk,hc⟩,λa e=>?_⟩;cases e;exact⟨o,I.wu _ o hk,hd⟩
   .refine ac λ_ d=>?_;obtain⟨_,_,_,_,o,_,_,e,ex,_⟩:=I.hok p _ hk;apply d;refine⟨⟨o,e,ex.1⟩,λa g=>?_⟩;cases g;exact⟨o,e,ex.2.1⟩
 |_=>exact cA ty
def Yg(K:aB)(T':ej)(r:V->O V->Hp->VK->Prop)(to:TE):TE:=λσ H Q=>to σ H λx b=>tyV K T' x b/\r x [] b Q
def Td(K:aB)(T':ej)(r:V->O V->Hp->VK->Prop)(to:TE)(t:TA):TE:=λσ H Q=>to σ H λx b=>tyV K T' x b/\t σ b λc d=>r x c d Q
variable{apos cpos:rC}{T' id:ej}
def UU(f:PlainAttrs T')(slot:PySem.Slot T' name id)(C:hD (.builtin id)=pure (.type "method_descriptor"))(F:Xp X id r)(ho:PE X o to)
  (B:fC o name X.env (eval o X.env)=eval o X.env)(P:(apos.endLine == cpos.line)=U):PE X (.Call (.Attribute o name apos) [] [] cpos) (Yg X.K T' r to):=by
 intro h_ s σ H Q I h;refine wpAny_Call_method0_late B P (jf (ho h_ s σ H _ I h) λv s1 g=>?_);obtain⟨x,d,b,c,ty,e⟩:=g;exact⟨T',id,f,slot,C,(JI b c ty).1,(JI b c ty).2,pD W (PySem.evalArgs_none (F h_ s1 σ d x [] v [] Q b c .nil e))⟩
def yh(R:PlainAttrs T')(slot:PySem.Slot T' name id)(P:hD (.builtin id)=pure (.type "method_descriptor"))(S:Xp X id r)(ho:PE X o to)(ha:PA X (e::es) t)
  (O':fC o name X.env (eval o X.env)=eval o X.env)
  (C:((er cpos (aP (e::es) X.env)).all (λx=>!x.1) && (backToKw cpos (keywordEach [] X.env)).all (λx=>x.1.isSome)
   && decide (Z (e::es)+Z ([]:O Keyword)+(if([]:O Keyword).isEmpty then 0 else 1)<30))=U:=by rfl)
  (F:(apos.endLine == cpos.line)=U:=by rfl)(hs:aP (e::es) X.env=(J,eval e X.env)::aP es X.env:=by rfl)(B:(er cpos (aP es X.env)).any (·.1)=J:=by rfl) :
  PE X (.Call (.Attribute o name apos) (e::es) [] cpos) (Td X.K T' r to t):=by
 intro h_ s σ H Q I h;refine wpAny_Call_method_late O' C F W (jf (ho h_ s σ H _ I h) λv s1 l=>?_);obtain⟨x,f,b,c,ty,g⟩:=l;refine⟨T',id,R,slot,P,(JI b c ty).1,(JI b c ty).2,?_⟩;have d:=ha cpos h_ s1 σ f _ b g;rw[hs]at d ⊢;exact pD (by show(J || (er _ (aP es _)).any _)=J;rw[B]<;>rfl) (Calls.evalArgs_plain (jf d λus s2 y=>by obtain⟨vs,m,i,j,k⟩:=y;exact S h_ s2 σ m x vs v us Q i c j k))
end
def MtM(X:Cx)(f:ej)(r:V->O V->Hp->VK->Prop):Prop:=
 ∀(h_:O (aN×m8))(s:ao)(σ:St)(H:Hp)(x:V)(a:O V)(v:ak)(us:O ak)(Q:VK),Inv X h_ σ H s->RelV x v->df a us->r x a H Q->
  aG (aC X.prog X.w) X.A (call (.builtin f) (v::us)) (EP X h_ σ Q) X.xe s
def df.one(h:df [x] us):∃u,us=[u]/\RelV x u:=by
 cases h with
 |cons r t=>cases t;exact⟨_,W,r⟩
theorem df.reverse(h:df xs us):df xs.reverse us.reverse:=by
 induction h with
 |nil=>exact .nil
 |cons r t a=>rw[nY,nY];exact df.append a (.cons r .nil)
section
def Inv.Zd{P B:O ak}(I:Inv X h_ σ H s)(S:H l=Y (.lst xs))
  (e:s.heap.get? l=Y { cls:=.type "list",data:=.seq P.toArray n })(hf:f P.toArray=B.toArray)(C:df R B)(F:Z R<=aJ) :
  Inv X h_ σ (upd H l (.lst R)) { s with heap:=s.heap.update l (fD f),toks:=t' }:=by
 have q:=PySem.IsL.update e f;rw[hf]at q;exact I.write (by rw[S];exact trivial) (λb u hb a=>(dT _ _ (cB hb)).trans a) ⟨_,q⟩ ⟨F,B,_,C,q⟩
def Inv.Zf(I:Inv X h_ σ H s)(B:df C f)(F:Z C<=aJ) :
  Inv X h_ σ (upd H s.heap.objs.size (.lst C)) { s with heap:=s.heap.push { cls:=.type "list",data:=.seq f.toArray },toks:=t' }:=
 I.laid (λ_ _ q=>hp9 _ q) (aq _) ⟨F,_,0,B,aT _ W⟩
def Inv.fresh(I:Inv X h_ σ H s):H s.heap.objs.size=L:=I.hok.fresh (aq _)
def Inv.P8(I:Inv X h_ σ H s)(B:H l=Y (.lst xs)):Z xs<=aJ/\∃(f:O ak) (n:T),df xs f/\Z xs=Z f/\s.heap.get? l=Y { cls:=.type "list",data:=.seq f.toArray n }:=by
 obtain⟨z,f,n,r,e⟩:=I.hok l _ B;exact⟨z,_,n,r,r.length,e⟩
def Lb(h:n<=aJ):jj n=J:=by
 exact c4 (λz=>(a7 z h))
end
section
def Fx:V->O V->Hp->VK->Prop:=λx vs H Q=>∃l a y,x=.ref l/\vs=[y]/\H l=Y (.lst a)/\Z a<aJ/\Q .non (upd H l (.lst (a++[y])))
def tZ:MtM X "list.append" Fx:=by
 intro h_ s σ H x vs v us Q I b c h;refine ac λ_ g=>?_;obtain⟨l,j,y,rfl,rfl,a,d,q⟩:=h;cases b;obtain⟨u,rfl,f⟩:=c.one;obtain⟨z,i,n,r,hl,e⟩:=I.P8 a;apply g;refine PySem.call_meets jD ⟨_,e,W⟩ F.entry_list_append (F.args_list_append_2 _ _) (PySem.list_append l _ n u (by simp_all)) ⟨e,?_⟩;refine⟨.non,_,I.Zd a e (by simp) (r.append (.cons f .nil)) ?_,W,q⟩;rwa[aj]
def aa7:R2:=λx y H Q=>∃l b c a,x=.ref l/\y=.ref b/\H l=Y (.lst c)/\H b=Y (.lst a)/\Z c+Z a<=aJ/\∀p,H p=L->Q (.ref p) (upd H p (.lst (c++a)))
def U8:lu X (dy .Add) aa7:=by
 intro h_ s σ H x y v u Q I c d h;refine ac λ_ w=>?_;obtain⟨l,b,C,m,rfl,rfl,f,g,o,q⟩:=h;cases c;cases d;obtain⟨z,A,n,r,hl,e⟩:=I.P8 f;obtain⟨p,a,t,i,j,B⟩:=I.P8 g;apply w;refine PySem.P.add_list e B ?_ (by simp_all);have k:A.toArray++a.toArray=(A++a).toArray:=by simp
 rw[k];exact⟨.ref _,_,I.Zf (r.append i) (by rw[aj];omega),W,q _ I.fresh⟩
end
section
end
section
end
end L2
namespace Att
open PySem.W PySem.Calls
def uO:∀(ns:O cx)(vs:O ak),WellAll P h vs (ns.map WData.int)->Jv vs ns:=by
 intro ns
 induction ns with
 |nil=>
   intro vs w;cases w;exact .nil
 |cons n ns c=>
   intro vs w
   cases w with
   |cons a b=>
     cases a;exact .cons _ _ (c _ b)
def Hy{l:jI}(C:l.most=Y n)
  (B:l.row.toRowW.claim.pre args=U)(F:WellAll P h vals args) :
  ∃a vs ns,vals=[bY a]/\args=[WData.list (ns.map WData.int)]/\h.get? a=Y { cls:=.type "list",data:=.seq vs.toArray }/\Jv vs ns/\Z ns<=n:=by
 obtain⟨d,r,rfl,h1,h2⟩:=hasAllW_cons ((pre_splitW B).1);obtain rfl:=hasAllW_nil h2;obtain⟨g,rfl,h3⟩:=hasW_list h1;clear h1; obtain⟨ns,rfl⟩:=items_int h3
 have hlen:Z ns<=n:=by
  have c:(WTm.not (.lt (.lit (.int (n))) (.len (.arg 0)))).holds [] { args:=[.list (ns.map .int)] }=U:=by
   have c:=(holds_andW ((pre_splitW B).2)).1;rwa[C]at c
  have i:=condW_of c (w_not (w_lt w_lit (w_len_list (w_arg W))))
  simp_all
 cases F with
 |cons e f=>
   cases f
   cases e with
   |list ho b=>exact⟨_,_,ns,W,W,ho,uO ns _ b,hlen⟩
def HN(l:jI)(args:O WData):l.row.toRowW.claim.post args (.bool U) args=U:=
 postW_of
  (by first|rfl|decide|simp)
  (w_eq_bool (w_res W) w_lit) W
def Ct{l:jI}{d:DefRec}
  (S:l.most=Y n)(C:d.params.defaults=[])
  (call:∀(w:cU)(s₀ F:ao)(mg R:aa->ar ak)(B:aN)(o:m8)(pm I doc:ak)(a:aN)(vs:O ak)(ns:O cx),
   Ground q loose [] XP w s₀ mg R F.heap->YP w F.heap->
   F.heap.get? B=Y o->o.data=.func (docDef d.name d.params d.body d.scope pm I doc)->F.heap.CodeRec I d.name->mg d.name=Y (.ref B)->
   F.heap.get? a=Y { cls:=.type "list",data:=.seq vs.toArray }->Jv vs ns->Z ns<=n->F.gens=#[]->
   e9 (aC l.prog w) j0 (.call (.ref B) ⟨[.ref a],[]⟩) (λr P=>r=.ok (.ret (.bool U))/\OldK F.heap P.heap/\P.os=F.os/\lI P.gens) F) :
  xu q loose XP YP l.row.toRowW d [] (λf vs=>Hb f vs):=by
 intro w s₀ F mg R G y B o pm I doc k kV ho hd e i g m args vals as b j p h s;refine ac λ_ x=>?_;clear j p s; obtain rfl:k=.none:=Dflts.none i C;obtain rfl:kV=.none:=Dflts.noKw i;obtain⟨a,vs,ns,rfl,rfl,c,hints,hlen⟩:=Hy S b h;apply x;refine enter_call (jc (call w _ _ mg R B o pm I _ a vs ns G y ho (fd_plain hd) e g c hints hlen m) λr P t=>?_);obtain⟨rfl,h2,h3,u⟩:=t;exact⟨.inl ⟨_,_,[],W,λ_=>W,.bool U,HN l _,λ_=>⟨xS,λ_ v=>(nomatch v)⟩⟩,h2,h3,u⟩
section
variable{K:aB}
end
end Att
namespace L2
theorem xU{vs:O ak}{ns:O cx}(h:Jv vs ns):df (ns.map V.int) vs:=by
 induction h with
 |nil=>exact .nil
 |cons n t _ i=>exact .cons ⟨t,W⟩ i
def Xn(H:Hp):Prop:=∀b,H b=L\/∃o a,H b=Y (.nu o (.lst a))
def LC{K:aB}{S:ao}{vs:O ak}
  (KX:K.In S.heap)(O':S.heap.Ns c9 mg)(hb:S.heap.Ns k7 mb)(I:∀x:aa,x≠"__name__"->mb x=dt x)(R:S.heap.NoLimit)(hg:S.gens=#[])
  (ha:S.heap.get? a=Y { cls:=.type "list",data:=.seq vs.toArray })(hi:Jv vs ns)(hl:Z ns<=aJ)(hr:i7 k j0)
  (F:∀base:bJ,K.In base->base.Ns c9 mg->jx P w K mg base CX k fa fd [x] sp)(B:∀(s:ao)(u:ak),CG s fd ⟨[u],[]⟩ [(x,u)])
  (hsp:∀H:Hp,Xn H->nW K H a (ns.map V.int)->sp [.ref a] H (λv _=>v=.bl U) λ_ _ _=>False)
  (hCX:∀H e s',CX [] H S (λ_ _ _=>False) e s'->False) :
  e9 (aC P w) j0 (.call (.ref fa) ⟨[.ref a],[]⟩) (λr s'=>r=.ok (.ret (.bool U))/\OldK S.heap s'.heap/\s'.os=S.os/\lI s'.gens) S:=by
 have y:=xU hi;have core:∀H:Hp,Xn H->nW K H a (ns.map V.int)->rL P w H S.heap->(∀b,H b≠L->b=a)->(H a≠L->K.lookup a=L)->
   e9 (aC P w) j0 (.call (.ref fa) ⟨[.ref a],[]⟩) (λr s'=>r=.ok (.ret (.bool U))/\OldK S.heap s'.heap/\s'.os=S.os/\lI s'.gens) S:=by
  intro H A D hok C E;have c:∀{b:aN}{o:m8},S.heap.get? b=Y o->H b=L->(BO _ H).get? b=Y o:=λe n=>LZ e n
  have l:∀{b:aN}{o:m8}{G:c7 _}{Q:T},S.heap.get? b=Y o->o.data=.dict G Q->H b=L:=λ{b o G Q}e d=>by
   cases q:H b with
   |none=>rfl
   |some u=>
     have p :=C b (by rw[q];simp);subst p;rw[ha]at e;cases e;cases d
  have f:∀{b:aN}{m:aa->ar ak},S.heap.Ns b m->(BO _ H).Ns b m:=λ{b m} ⟨o,G,Q,e,d,r⟩=>⟨o,G,Q,c e (l e d),d,r⟩
  have i :=λb o e=>c (KX b o e) (by
   cases q:H b with
   |none=>rfl
   |some u=>
     have p :=C b (by rw[q];simp);subst p
     rw[E (by rw[q];simp)]at e;cases e)
  refine jc ((F _ i (f O')).run _ [] _ H ⟨_,[]⟩ _ [.ref a] _ _ hr ⟨W,(⟨i,f O',⟨mb,f hb,I⟩,let ⟨mc,h1,h2⟩:=R;⟨mc,f h1,h2⟩⟩),λb o e=>PK e,ag (Ip _ _),trivial,λb hb=>absurd (show b∈([])from hb) (by simp),hok,.of_eq hg⟩ (B _ _) (.cons rfl .nil) (hsp H A D)) λr s' h=>?_
  cases r with
  |error e=>exact(hCX H e s' h).elim
  |ok fl=>
    cases fl with
    |next=>exact cA h
    |brk=>exact cA h
    |cont=>exact cA h
    |ret u=>
      refine ac λ_ g=>?_;obtain⟨v,H',os,bare,un,j,J',rfl⟩:=h;obtain rfl:u=Value.bool U:=J';apply g;refine⟨W,OldK.of_keep λb o e=>?_,os,bare⟩
      cases q:H b with
      |none=>exact un.keep b o e q (by intro z;exact absurd (show b∈([])from z) (by simp)) (by simp)
      |some u=>
        rcases A b with z|⟨M,xs,z⟩
        .rw[q]at z;cases z
        .have N:=un.frzs b M _ z;obtain⟨X,_⟩:=hok b _ z;rw[e]at X;cases X;exact (j b _ N).1
 cases hk:K.lookup a with
 |some o=>
   have e:=KX a o hk;rw[ha]at e;refine ac λ_ g=>?_;cases e;apply g;refine core _ (λ_=>.inl rfl) (.inr ⟨_,_,_,hk,W,W,W,by rwa[bF,hi.length],by simpa using y⟩) (λb u z=>by cases z) (λb z=>absurd rfl z) λz=>absurd rfl z
 |none=>
   refine core (λb=>if b=a then Y (.nu { cls:=.type "list",data:=.seq vs.toArray } (.lst (ns.map _)))else L) (λb=>?_) (.inl (.inr ⟨{ cls:=.type _,data:=.seq _ },a5 W⟩)) (λb u z=>?_) (λb z=>?_) λ_=>hk
   .by_cases hb:b=a
    .exact .inr ⟨_,_,a5 hb⟩
    .exact .inl (cb hb)
   .by_cases hb:b=a
    .have t:=(a5 hb).symm.trans z;clear KX hi core hk z; cases t;subst hb;exact⟨ha,by simp_all,vs,_,y,ha⟩
    simp_all
   simp_all
abbrev KOf{K:aB}{h:bJ}(_:K.In h):aB:=K
def N9{l:jI}{n k:T}{q:bW}{loose:O aa}{XP:(aa->ar ak)->bJ->Prop}{YP:cU->bJ->Prop}{d:DefRec}{K:Params->aB}{CX:cU->SN}{sp:cU->Sp}{x:aa}
  (hn:l.most=Y n)(O':n<=aJ)(C:d.params.defaults=[])(hr:i7 k j0)
  (hY:∀(w:cU)(h:bJ),YP w h->(K w.params).In h)
  (F:∀(w:cU)(mg:aa->ar ak)(B:aN)(h:bJ),(K w.params).In h->h.Ns c9 mg->mg d.name=Y (.ref B)->
   ∃I:iF,(∀(s:ao)(u:ak),CG s I ⟨[u],[]⟩ [(x,u)])/\
    ∀base:bJ,(K w.params).In base->base.Ns c9 mg->jx l.prog w (K w.params) mg base (CX w) k B I [x] (sp w))
  (P:∀(w:cU)(H:Hp)(a:aN)(ns:O cx),Z ns<=n->Xn H->nW (K w.params) H a (ns.map V.int)->sp w [.ref a] H (λv _=>v=.bl U) λ_ _ _=>False)
  (R:∀(w:cU)(H:Hp)(s:ao)(e:ak)(S:ao),CX w [] H s (λ_ _ _=>False) e S->False) :
  xu q loose XP YP l.row.toRowW d [] (λf vs=>Hb f vs):=by
 refine Att.Ct hn C λw s₀ D mg E B o pm z doc a vs ns G A ho hd m i c hints hlen p=>?_;have j:=hY w _ A;obtain⟨I,hb,r⟩:=F w mg B _ j G.T.g i;exact LC j G.T.g G.T.b G.T.builtins G.T.nolimit p c hints (af hlen O') hr r hb (λH t y=>P w H a ns hlen t y) λH e S=>R w H _ e S
noncomputable def vn(s:iE):Arguments:=match s with
 |.FunctionDef _ a _ _ _ _ _ _ _ _=>a
 |_=>{ posonlyargs:=[],args:=[],vararg:=L,kwonlyargs:=[],kw_defaults:=[],kwarg:=L,defaults:=[] }
noncomputable def i5(s:iE):O iE:=match s with
 |.FunctionDef _ _ b _ _ _ _ _ _ _=>b
 |_=>[]
noncomputable def bE(s:iE):nR:=match s with
 |.FunctionDef _ _ _ _ _ _ sc _ _ _=>sc
 |_=>{ kind:=.function,names:=[],isGenerator:=J,isCoroutine:=J }
abbrev vq:SN:=λ_ _ _ _ _ _=>False
abbrev E0:XK:=λ_ _ _=>False
def KZ:Ak vq X E0:=λ_ _ _ _ _ _ _ h=>h.elim
structure Xs(K:aB)(x qual:aa)(st:iE)(f:aN)(fd:iF):Prop where
 ex:∃(oc:ak) (od:ar aN) (kV doc pm:ak) (an:ar aN) (cdv ct:ak) (osl:c7 (ar ak)),
  fd=oB x qual (vn st) (i5 st) (bE st) .none kV doc pm an cdv ct/\K.lookup f=Y ⟨oc,od,.func fd,osl⟩/\pO K cdv qual=U
 kp:dO K (.ref f)=U
section
variable{K:aB}{base:bJ}
def Xs.ok{st:iE}(F:Xs K x qual st f fd)(S:lV N ps (bE st))(len:∀vs H Q E,sp vs H Q E->Z vs=Z ps)
  (B:∀(cdv:ak)(A:bP)(outer:O C8)(s:ao)(H:Hp)(vs:O V)(Q:VK)(E:XK),i7 k (A.deeper (f7 qual (bE st) s.heap.objs.size f cdv))->sp vs H Q E->
   ∃t,sY (pJ vq P w K mg base N qual (bE st) f cdv A outer s H E).yk (i5 st) t/\t { nx:=λ_ C=>Q .non C,rt:=Q } (start N vs) H):jx P w K mg base vq (k+1) f fd ps sp:=by
 refine ac λ_ e=>?_;obtain⟨oc,od,kV,doc,pm,an,cdv,ct,osl,rfl,c,a⟩:=F.ex;apply e;refine Mf c a S len λA outer s H vs Q E d b=>?_;obtain⟨t,h,q⟩:=B _ A _ s H vs Q E d b;exact⟨t,h.yk,q⟩
end
section
end
def Ee{A B:Prop}(h:B):if J=U then A else B:=by
 exact h
def Ec{A B:Prop}(h:A):if U=U then A else B:=by
 exact h
def cy(H f:Hp):Prop:=∀b o,H b=Y o->f b=Y o
def cy.refl(H:Hp):cy H H:=λ_ _ h=>h
def cy.trans(a:cy H f)(b:cy f B):cy H B:=λc o h=>b c o (a c o h)
def cy.free(e:cy H f)(h:f l=L):H l=L:=by
 cases q:H l with
 |none=>rfl
 |some o=>
   rw[e l o q]at h;cases h
def cy.seq{K:aB}(e:cy H f)(h:nW K H a xs):nW K f a xs:=by
 rcases h with(h|⟨o,h⟩)|h
 .exact .inl (.inl (e _ _ h))
 .exact .inl (.inr ⟨o,e _ _ h⟩)
 .exact .inr h
section
variable{κ:Type}[ef κ]
noncomputable def pY(f:O (κ×V))(k:κ):ar V:=(f.find? λa=>decide (a.1=k)).map (·.2)
noncomputable def putK(f:O (κ×V))(k:κ)(v:V):O (κ×V):=
 if(f.any λa=>decide (a.1=k))=U then f.map (λa=>if a.1=k then(a.1,v)else a)else f++[(k,v)]
def AR{p:κ×V}{r:O (κ×V)}{k:κ}(e:p.1=k):pY (p::r) k=Y p.2:=by simp[pY,e]
def vJ{p:κ×V}{r:O (κ×V)}{k:κ}(e:¬p.1=k):pY (p::r) k=pY r k:=by simp[pY,e]
def BF(f:O (κ×V))(k:κ)(v:V):Z (putK f k v)<=Z f+1:=by
 unfold putK;split
 .simp
 simp
def Ai.Il(r:Ai o u):o.isSome=u.isSome:=by
 cases o with
 | none=>cases u with
   |none=>rfl
   |some _=>exact(r).elim
 | some _=>cases u with
   |none=>exact(r).elim
   |some _=>rfl
theorem Ai.getD(r:Ai o u)(B:RelV d f):RelV (o.getD d) (u.getD f):=by
 cases o with
 | none=>cases u with
   |none=>exact B
   |some _=>exact(r).elim
 | some _=>cases u with
   |none=>exact(r).elim
   |some _=>exact r
def KV.val(r:KV f vs)(k:κ):Ai (pY f k) (j_ vs k):=by
 induction r with
 |nil=>exact lA
 | @cons p q ps a h t d=>
   obtain⟨h1,h2⟩:=h;by_cases e:p.1=k
   .have c :=h1.symm.trans e;have b:j_ (q::a) k=Y q.2:=by simp[j_,c]
    rwa[AR e,b]
   .have c:¬q.1=k:=λz=>e (h1.trans z);have b:j_ (q::a) k=j_ a k:=by simp[j_,c]
    rwa[vJ e,b]
theorem KV.any(r:KV f vs)(k:κ):(f.any λB=>decide (B.1=k))=vs.any λB=>decide (B.1=k):=by
 induction r with
 |nil=>rfl
 |cons h t a=>simp_all
def KV.aa0(r:KV f vs)(k:κ)(C:RelV y u) :
  KV (f.map λB=>if B.1=k then(B.1,y)else B) (vs.map λB=>if B.1=k then(B.1,u)else B):=by
 induction r with
 |nil=>exact .nil
 | @cons p q ps b h t a=>
   rw[aI];refine .cons ?_ a;by_cases e:p.1=k
   .simp_all
   simp_all
def KV.put(r:KV f vs)(k:κ)(B:RelV y u):KV (putK f k y) (stored vs k u):=by
 unfold putK stored;rw[r.any k];by_cases e:(vs.any λa=>decide (a.1=k))=U
 .rw[a5 e,a5 e];exact r.aa0 k B
 .rw[cb e,cb e];exact Paired.snoc r ⟨W,B⟩
def KV.length{f:O (κ×V)}{vs:O (κ×ak)}(r:KV f vs):Z f=Z vs:=xM r
end
def wq(r:RelV (kV k) u):(dN P w).is k u=U:=by
 cases k with
 |inl i=>obtain⟨t,rfl⟩:=(r);exact By P w i t
 |inr x=>obtain⟨t,rfl⟩:=(r);exact Bx P w x t
section
def YH(ok:rL P w H h)(e:Rd H a u):kj P w H h a u:=e.ok ok
def yG(ok:rL P w H h)(e:Rd H a (.dK f)):Z f<=aJ/\(a == fb)=J/\∃vs,KV f vs/\h.DictOf (dN P w) a vs:=
 YH ok e
def ZN(ok:rL P w H h)(e:H a=Y (.dK f)):Z f<=aJ/\(a == fb)=J/\∃vs,KV f vs/\h.DictOf (dN P w) a vs:=yG ok (.inl e)
end
def uh(H:Hp)(a:aN)(y:V)(r:ar V):Prop:=∃b k,Rd H a (.dK b)/\y=kV k/\r=pY b k
def Ro(H:Hp)(a:aN)(y v:V)(f:Hp):Prop:=∃b k,H a=Y (.dK b)/\y=kV k/\Z b<aJ/\f=upd H a (.dK (putK b k v))
def uh.k{H:Hp}{a:aN}{f:O (Key×V)}{k:Key}(e:H a=Y (.dK f)):uh H a (kV k) (pY f k):=⟨f,k,.inl e,W,W⟩
def Ro.k{H:Hp}{a:aN}{f:O (Key×V)}{k:Key}{v:V}(e:H a=Y (.dK f))(hl:Z f<aJ):Ro H a (kV k) v (upd H a (.dK (putK f k v))):=⟨f,k,e,W,hl,W⟩
section
def Inv.big(I:Inv X h_ σ H s):fb<s.heap.objs.size:=by
 exact cR cF ((I.mod.glob.keeps I.bk).lt)
def yH(I:Inv X h_ σ H s)(g:uh H a y (Y v))(F:RelV y u)(h:∀B C,Inv X h_ σ H C->RelV v B->Q B C) :
  aG (aC X.prog X.w) A (g8 (.ref a) u) Q E s:=by
 refine ac λ_ d=>?_;obtain⟨j,k,e,rfl,l⟩:=g;obtain⟨z,hd,vs,b,f⟩:=yG I.hok e;obtain⟨B,i,c⟩:=Ai.some_of (by rw[l];exact b.val k);apply d;exact wpAny_getItem_of (wq F) f.mapOf i (h B _ (I.tok _) c)
def abK(I:Inv X h_ σ H s)(g:uh H a y o)(B:RelV y u)(h:∀f,Inv X h_ σ H f->Q (.bool o.isSome) f) :
  aG (aC X.prog X.w) A (dk .In u (.ref a)) Q E s:=by
 refine ac λ_ c=>?_;obtain⟨i,k,e,rfl,l⟩:=g;obtain⟨z,hd,vs,b,d⟩:=yG I.hok e;apply c;apply wpAny_in_of (wq B) hd d.mapOf;rw[<-(b.val k).Il,<-l];exact h _ (I.tok _)
def QP(I:Inv X h_ σ H s)(B:Mut (H a))(hs:dJ a s.heap f)(he:∃q,f.get? a=Y q)(new:kj X.prog X.w (upd H a C) f a C) :
  Inv X h_ σ (upd H a C) { s with heap:=f,toks:=t' }:=
 I.write B (λb q hb z=>(hs.2 b hb).trans z) he new
def WE{F:bJ}{f:O (Key×V)}(z:Z f<=aJ)(hd:(a == fb)=J)(C:KV f vs)(B:F.DictOf (dN P w) a vs) :
  kj P w I F a (.dK f):=⟨z,hd,vs,C,B⟩
def IF(I:Inv X h_ σ H s)(g:Ro H a y v F)(B:RelV y u)(P:RelV v r)(h:∀C,Inv X h_ σ F C->Q () C) :
  aG (aC X.prog X.w) A (mi (.ref a) u r) Q E s:=by
 refine ac λ_ m=>?_;obtain⟨n,k,e,d,l,f⟩:=g;subst d f;obtain⟨z,hd,vs,b,i⟩:=ZN I.hok e;apply m;have j:Z vs<=aJ:=by rwa[<-b.length]
 refine wpAny_setItem_pairs (wq B) i λp c hs=>h _ ?_;exact QP I (by rw[e];exact lA) hs (by obtain⟨q,_,_,o,_⟩:=c;exact⟨q,o⟩) (WE (af (BF n k v) l) hd (b.put k P) c)
end
section
def ZO(I:Inv X h_ σ H s)(e:Rd H a (.dK B))(h:∀t f,Inv X h_ σ H f->Q (.int B.length t) f):aG (aC X.prog X.w) A (call (.builtin "len") [.ref a]) Q E s:=by
 obtain⟨z,hd,vs,c,b⟩:=yG I.hok e;apply call_len_dict hd b (by rw[<-c.length];exact gv (ie.mpr z) cF);rw[<-c.length];exact h _ _ (I.tok _)
end
def uD(I:Inv X h_ σ H s)(g:uh H a y o):s.TypeIs (.ref a) "dict":=by
 obtain⟨c,k,e,_,_⟩:=g;obtain⟨_,_,vs,_,b⟩:=yG I.hok e;exact b.typeIs
section
end
def MA(h:bJ)(hb:fb<h.objs.size):kj P w H (h.push { cls:=.type "dict",data:=.dict #[] }) h.objs.size (.dK []):=
 ⟨aU _,beq_eq_false_iff_ne.mpr (cB (ba hb)),[],.nil,Heap.DictOf.new h⟩
def Tc:TE:=λ_ H Q=>∀p,H p=L->Q (.ref p) (upd H p (.dK []))
section
def KW:PE X (.Dict [] [] pos) Tc:=λh_ s σ H Q I h=>
 wpAny_Dict_empty ⟨.ref _,_,I.laid (λ_ _ q=>hp9 _ q) (aq _) (MA _ I.big),W,h _ (I.hok.fresh (aq _))⟩
end
section
def WJ(I:Inv X h_ σ H s)(g:uh H a y o)(R:RelV y u)(C:RelV d r)(h:∀B P,Inv X h_ σ H P->RelV (o.getD d) B->Q B P) :
  aG (aC X.prog X.w) A (call (.builtin "dict.get") [.ref a,u,r]) Q E s:=by
 refine ac λ_ f=>?_;obtain⟨i,k,e,rfl,l⟩:=g;obtain⟨z,hd,vs,b,c⟩:=yG I.hok e;apply f;refine call_meetsIn Aq c.typeIs PySem.F.entry_dict_get (PySem.F.args_dict_get_3 ..) (meets_dict_get_default (dN _ _) a (wq R) hd r) ⟨_,c.mapOf,h _ _ (I.tok _) ?_⟩;rw[l];exact(b.val k).getD C
end
section
end
section
end
section
end
def Ob:upd (upd H a o) a u=upd H a u:=by
 funext b;unfold upd;split<;>rfl
def D4{A:bP}:(A.under (.builtin "type.__call__" ⟨.ref C::us,kw⟩)).depth=A.depth+1:=by
 first|rfl|simp
def D3{A:bP}:(A.under (.builtin "type.__call__" ⟨.ref C::us,kw⟩)).units=A.units+1:=by
 first|rfl|simp
def i7.make(r:i7 (k+1) A)(C:aN)(us:O ak)(kw:O (aa×ak)):i7 k (A.under (.builtin "type.__call__" ⟨.ref C::us,kw⟩)):=
 ⟨r.hd,by have:=r.dp;rw[D4];exact iY this,by have:=r.un;rw[D3];exact iY this⟩
def gC.make{K:aB}{base:bJ}(e:gC P w K mg base A outer s H)(C:aN)(us:O ak)(kw:O (aa×ak)) :
  gC P w K mg base (A.under (.builtin "type.__call__" ⟨.ref C::us,kw⟩)) outer s H:=⟨by first|exact e.frames|simp,e.mod,e.bs,e.bsz,e.sL,e.frf,e.hok,e.bare⟩
section
variable{st:iE}
def zy(h1:PS X st t):sY X [st] t:=by
 intro h_ s σ H D I h;refine yS (jf (h1 h_ s σ H D I h) λf s1 q=>?_)
 cases f with
 |next=>exact ku q
 |ret v=>exact q
 |brk=>exact q
 |cont=>exact q
end
section
variable{A:bP}{s:ao}
structure aai(base:bJ)(l:O C8)(e T':aN)(fl:ak)(h h':bJ):Prop where
 st:base.StaysIn h'
 fr:h'.FunFrames base l
 tn:base.get? T'=L
 te:T'≠e
 ex:∃oe vs,h'.get? e=Y oe/\oe.data=.fields vs/\vs[1]?=Y (.ref T')/\∀o ws,h.get? e=Y o->o.data=.fields ws->oe.cls=o.cls/\oe.dict=o.dict/\vs[0]?=ws[0]?
 en:∃oT ts,h'.get? T'=Y oT/\oT.data=.fields ts/\ts[3]?=Y fl
 up:h.UpToSlots h'
def wA{base:bJ}(B:A.frames=Y (env::outer))(hl:s.heap.FunFrames base (env::outer))(hf:env.frame=Y L')
  (he:s.heap.get? e=Y P)(C:base.StaysIn s.heap)(I:base.get? e=L)(hd:P.data=.fields vs)(hsz:1<vs.size)(h:∀R T',aai base (env::outer) e T' (rawInt L') s.heap R->Q () { s with heap:=R }) :
  aG M A (do let a <-frameOf env;let pl <-entryPlaceOf L' F;let b <-EntryCells.newEntry head a .none (rawInt L') .none pl;setField (.ref e) 1 b) Q E s:=by
 have out:e∉(env::outer).filterMap _:=λl=>by
  obtain⟨_,o,ho,n⟩:=hl.mem l
  grind
 refine wb9 (wpAny_frameOf_fun B hl hf λh1 p=>wb9 (wpAny_entryPlaceOf λpl g=>?_));refine wb9 (fh ?_ (g.sizeOk5 ..));have r :=(p.2.1 e out).trans he;have b1:base.StaysIn h1:=λb o z=>(p.2.1 b λm=>by rw[(hl.mem m).1]at z;cases z).trans (C b o z);generalize i:({ cls:=.type _,dict:=L,data:=.fields _ }:m8)=O';refine oA (hp9 _ r) hd hsz (h _ h1.objs.size ?_);have ne :=jE (hl9 r);have d:=j3 hd (·.setIfInBounds 1 (bY h1.objs.size));have kp:∀b o,b≠e->h1.get? b=Y o->((h1.push O').update e (oE (·.setIfInBounds 1 (bY h1.objs.size)))).get? b=Y o:=λb o hb z=>(dT _ _ hb.symm).trans (hp9 _ z)
 have nf:∀b o,s.heap.get? b=Y o->(∀vs,o.data≠.fields vs)->b≠e:=λb o hb f z=>by
  grind
 refine⟨λb o z=>kp b o (λy=>by grind) (b1 b o z),hl.of_keeps λb o hb f=>?_,b1.fresh,ne,⟨_,_,(ei (oE (·.setIfInBounds 1 (bY h1.objs.size))) (hp9 _ r) (qA d)),d,by simp[hsz],λo ws j k=>?_⟩,⟨O',_,((dT _ _ ne.symm).trans (aT h1 (by rw[<-i];rfl))),by rw[<-i],?_⟩,λb o hb f=>?_⟩
 .obtain⟨sl,z⟩:=p.2.2 b o hb;exact⟨_,kp b _ (nf b o hb f) z,W⟩
 .rw[he]at j;clear B hl hf he C I hsz h out p g r b1 i ne d kp nf; cases j;rw[hd]at k;cases k;refine⟨Ni _ _,?_,by simp⟩;obtain⟨c,t,q,sl⟩:=P;cases hd;rfl
 .simp
 .obtain⟨sl,z⟩:=p.2.2 b o hb;exact⟨sl,kp b _ (nf b o hb f) z⟩
end
structure rp(base:bJ)(l:O C8)(e:aN)(cls:ak)(dx:aN)(fl:ak)(h:bJ):Prop where
 st:base.StaysIn h
 en:base.get? e=L
 fr:h.FunFrames base l
 tr:∃oe vs T' oT ts,h.get? e=Y oe/\oe.cls=cls/\oe.dict=Y dx/\oe.data=.fields vs/\vs[1]?=Y (.ref T')/\base.get? T'=L/\T'≠e/\h.get? T'=Y oT/\oT.data=.fields ts/\ts[3]?=Y fl
def rp.there{base:bJ}(F:rp base l e cls B C h):∃f vs,h.get? e=Y f/\f.cls=cls/\f.dict=Y B/\f.data=.fields vs:=
 by obtain⟨f,vs,_,_,_,h1,h2,h3,a,_⟩:=F.tr;exact⟨f,vs,h1,h2,h3,a⟩
section
variable{A:bP}{s:ao}{base:bJ}
def BN{T':aN}{h:bJ}(F:base.get? e=L)(he:h.get? e=Y C)(hd:C.data=.fields vs)(B:C.dict=Y I)(g:aai base l e T' P h R):rp base l e C.cls I P R:=by
 refine ac λ_ j=>?_;obtain⟨a,b,c,d,f,i⟩:=g.ex;obtain⟨k,m,b1,b2,b3⟩:=g.en;apply j;exact⟨g.st,F,g.fr,a,b,T',k,m,c,(i C vs he hd).1,(i C vs he hd).2.1.trans B,d,f,g.tn,g.te,b1,b2,b3⟩
def La(f:A.frames=Y (env::outer))(hl:s.heap.FunFrames base (env::outer))(hf:env.frame=Y L')(he:s.heap.get? e=Y F)(B:base.StaysIn s.heap)(I:base.get? e=L)(hd:F.data=.fields vs)(h1:vs[1]?=Y .none)(P:F.dict=Y R)
  (h:∀C,rp base (env::outer) e F.cls R (rawInt L') C->s.heap.UpToSlots C->Q () { s with heap:=C }):aG M A (hH (.ref e) env) Q E s:=by
 unfold hH;simp only[hf];exact wb9 (dA he hd h1 (wA f hl hf he B I hd (bC.mp h1).1 λC T' g=>h C (BN I he hd P g) g.up))
def PR(C:A.frames=Y (env::outer))(hf:env.frame=Y L')(F:rp base (env::outer) e cls I .none s.heap)(h:∀B,rp base (env::outer) e cls I (rawInt L') B->s.heap.UpToSlots B->Q () { s with heap:=B }):aG M A (hH (.ref e) env) Q E s:=by
 refine ac λ_ p=>?_;obtain⟨q,vs,T',r,t,he,hc,l,hd,h1,m,i,j,a,h3⟩:=F.tr;subst hc;apply p;unfold hH;simp only[hf];refine wb9 (dA he hd h1 ?_);refine wb9 (dA j a h3 ?_);refine wb9 (oA j a (bC.mp h3).1 ?_);have f:∀b,b≠T'->(s.heap.update T' (oE (·.setIfInBounds 3 eY))).get? b=s.heap.get? b:=λb hb=>dT _ _ hb.symm
 have k:∀b o,s.heap.get? b=Y o->(∀vs,o.data≠.fields vs)->b≠T':=λb o hb c z=>by
  simp_all
 have d:=(f e i.symm).trans he;refine wA C (F.fr.of_keeps λb o hb c=>⟨o,(f b (k b o hb c)).trans hb,W⟩) hf d (λb o z=>(f b λy=>by simp_all).trans (F.st b o z)) F.en hd (bC.mp h1).1 λB n g=>h B (BN F.en d hd l g) λb o hb c=>g.up b o ((f b (k b o hb c)).trans hb) c
def zJ(F:rp base l e cls C I s.heap)(h:∀B,rp base l e cls C .none B->s.heap.UpToSlots B->Q () { s with heap:=B }):aG M A (setFlight (.ref e) L) Q E s:=by
 refine ac λ_ p=>?_;obtain⟨q,vs,T',r,t,he,hc,n,hd,h1,i,c,j,a,h3⟩:=F.tr;apply p;have k :=(bC.mp h3).1;refine wb9 (dA he hd h1 ?_);have d:∀b,b≠T'->(s.heap.update T' (oE (·.setIfInBounds 3 ((L).elim eY λf=>rawInt f)))).get? b=s.heap.get? b:=λb hb=>dT _ _ hb.symm
 have m:∀b o,s.heap.get? b=Y o->(∀vs,o.data≠.fields vs)->b≠T':=λb o hb g z=>by
  simp_all
 refine oA j a k (h _ ⟨λb o z=>(d b λy=>by simp_all).trans (F.st b o z),F.en,F.fr.of_keeps λb o hb g=>⟨o,(d b (m b o hb g)).trans hb,W⟩,q,vs,T',_,_,(d e c.symm).trans he,hc,n,hd,h1,i,c,ei _ j (qA (j3 a _)),j3 a _,by simp[k]⟩ λb o hb g=>⟨_,(d b (m b o hb g)).trans hb⟩)
def rp.out(F:rp base (env::outer) e cls f B s.heap):rp base outer e cls f B s.heap:=⟨F.st,F.en,let ⟨_,_,k⟩:=F.fr;k,F.tr⟩
def Ea(P:A.frames=Y (env::outer))(hl:s.heap.FunFrames base (env::outer))(hf:env.frame=Y L')(he:s.heap.get? e=Y C)(f:base.StaysIn s.heap)(B:base.get? e=L)(hd:C.data=.fields vs)(h1:vs[1]?=Y .none)(R:C.dict=Y S)
  (h:∀I,rp base outer e C.cls S .none I->s.heap.UpToSlots I->Q () { s with heap:=I }):aG M A (leaving env (.ref e)) Q E s:=by
 exact wb9 (La P hl hf he f B hd h1 R λh1 F u=>zJ F λh2 a b=>h h2 (rp.out (s:={ s with heap:=h2 }) a) (u.trans b))
end
section
variable{A:bP}{h:bJ}{os:mo}
variable{C:aN}{bs:O ak}{sub:O ak}
noncomputable abbrev HJ(h:bJ)(C:aN)(us:O ak):bJ:=(h.push { cls:=.type "tuple",data:=.seq us.toArray }).push { cls:=.ref C,data:=.fields #[.ref h.objs.size,.none,.none,.none,.bool J,.none] }
def Dp(F:Jr B newId S bmB)(T':mu h bmB bm)(R:h.get? C=Y (eX nm q C N bs bm hdct sn sub ab col dd k0 k1 k2 k3 k5 newId))(hn:h.Ns N mN)
  (hi:mN "__init__"=Y (.ref fI))(I:h.get? fI=Y oI)(P:oI.cls=.type "function")
  (hq:aG (aC prog w) A (call (.ref fI) (.ref (h.objs.size+1)::us)) (λr s'=>r=.none/\Q (.done (.ret (.ref (h.objs.size+1)))) s') E ⟨HJ h C us,g,d,t,os⟩)
  (hus:Z us<=aJ):aG (aC prog w) A (jB.«type.__call__» ⟨.ref C::us,[]⟩) Q E ⟨h,g,d,t,os⟩:=by
 repeat (first|with_reducible apply pK R|with_reducible apply wpAny_madeBy_exc R|wp_step)
 refine codeAny_call_builtin_code (nc _ F.quiet) (wpAny_check_new_subT F T' R (codeAny_exc_new_subT F T' R ?_ hus));have kp:∀b o,h.get? b=Y o->((h.push { cls:=.type "tuple",data:=.seq us.toArray }).push { cls:=.ref C,data:=.fields #[.ref h.objs.size,.none,.none,.none,.bool J,.none] }).get? b=Y o:=λb o z=>hp9 _ (hp9 _ z);have a:=kp _ _ R;have c:(bY C::bm).contains (.ref C)=U:=by simp
 repeat (first|with_reducible apply pK hX|(with_reducible apply Rt a;rw[c])|wp_step)
 apply wpAny_typeLookup_tail a (hn.keeps kp) (T'.keeps kp) F.mroIs F.init.lookup;rw[hi];refine cL (wb9 ?_);refine wb9 (jU ⟨_,kp _ _ I,P⟩ ?_);refine wu9 (wb9 (bO hq (λr s' e=>?_) λ_ _ x=>x));obtain⟨rfl,f⟩:=e
 wp_walk
 exact f
def HX(F:Jr B newId P R)(T':mu h R bm)(S:h.get? C=Y (eX nm q C N bs bm hdct sn sub ab col dd k0 k1 k2 k3 k5 newId))(hn:h.Ns N mN)
  (hi:mN "__init__"=Y (.ref fI))(f:h.get? fI=Y oI)(I:oI.cls=.type "function")
  (hq:aG (aC prog w) (A.under (.builtin "type.__call__" ⟨.ref C::us,[]⟩)) (call (.ref fI) (.ref (h.objs.size+1)::us)) (λr s'=>r=.none/\Q (.ref (h.objs.size+1)) s') E ⟨HJ h C us,g,d,t,os⟩)
  (hus:Z us<=aJ):aG (aC prog w) A (call (.ref C) us) Q E ⟨h,g,d,t,os⟩:=by
 have a:=tc_lookup;have b:=tc_bind (.ref C);refine qO (codeAny_of_tree ?_)
 repeat (any_goals (first|assumption|with_reducible apply pK S|wp_step))
 exact⟨W,codeAny_call_builtin_at (nc _ (by decide +kernel)) entry_typeCall (wpAny_check_type_call_sub S (Dp F T' S hn hi f I hq hus))⟩
end
section
variable{A:bP}
variable{bs bm:O ak}{sub:O ak}
def DE(I:bm.contains (.type "BaseException")=U)(hh:A.handled=L)
  (h:aG M A x (λv B=>∃e t F,v=.ref e/\B.heap.get? C=Y (eX nm q C N bs bm hdct sn sub ab col dd k0 k1 k2 k3 k5 newId)/\
   B.heap.get? e=Y { cls:=.ref C,dict:=Y F,data:=.fields #[.ref t,.none,.none,.none,.bool J,.none] }/\E (.ref e) B) E s) :
  aG M A (raiseStmt env (Y x) L) Q E s:=by
 have a:(bY C::bm).contains (.type "BaseException")=U:=by rw[Je,I,mQ]
 refine wb9 (bO h (λv B z=>?_) λ_ _ y=>y);refine ac λ_ i=>?_;obtain⟨e,t,F,rfl,b,he,c⟩:=z;obtain⟨hp,g,d,f,os⟩:=B
 apply i; repeat (first|with_reducible refine pK he ?_|grind|(with_reducible refine Rt b ?_;rw[a])|wp_step)
 exact wpAny_raiseNew_none hh c
end
section
variable{A:bP}
variable{bs bm:O ak}{sub:O ak}
def DF(F:Jr B newId initId bmB)(hbase:bm.contains (.type "BaseException")=U)(hh:A.handled=L)(I:(er cpos (aP args env)).any (·.1)=J)(hi:mN "__init__"=Y (.ref fI))
  (h:aG (aC prog w) A (eval (.Name x np) env) (λf R=>f=.ref C/\aG (aC prog w) A (evalArgs (.ref C) U (er cpos (aP args env)) [])
   (λa S=>a.kw=[]/\Z a.pos<=aJ/\S.heap.get? C=Y (eX nm q C N bs bm hdct sn sub ab col dd k0 k1 k2 k3 k5 newId)/\S.heap.Ns N mN/\mu S.heap bmB bm/\(∃oI,S.heap.get? fI=Y oI/\oI.cls=.type "function")/\
    aG (aC prog w) (A.under (.builtin "type.__call__" ⟨.ref C::a.pos,[]⟩)) (call (.ref fI) (.ref (S.heap.objs.size+1)::a.pos)) (λr P=>r=.none/\P.heap.get? C=Y (eX nm q C N bs bm hdct sn sub ab col dd k0 k1 k2 k3 k5 newId)/\
     (∃t dx,P.heap.get? (S.heap.objs.size+1)=Y { cls:=.ref C,dict:=Y dx,data:=.fields #[.ref t,.none,.none,.none,.bool J,.none] })/\E (.ref (S.heap.objs.size+1)) P) E ⟨HJ S.heap C a.pos,S.gens,S.drawn,S.toks,S.os⟩) E R) E s) :
  aG (aC prog w) A (exec (.Raise (Y (.Call (.Name x np) args [] cpos)) L pos) env) Q E s:=by
 have i:aG (aC prog w) A (eval (.Call (.Name x np) args [] cpos) env) (λv R=>∃e t dx,v=.ref e/\R.heap.get? C=Y (eX nm q C N bs bm hdct sn sub ab col dd k0 k1 k2 k3 k5 newId)/\
   R.heap.get? e=Y { cls:=.ref C,dict:=Y dx,data:=.fields #[.ref t,.none,.none,.none,.bool J,.none] }/\E (.ref e) R) E s:=by
  refine wpAny_Call_ofName (bO h (λf R b=>?_) λ_ _ y=>y);obtain⟨rfl,b⟩:=b;refine wb9 (cL (bO b (λa S c=>wb9 (mL ?_)) λ_ _ y=>y));refine ac λ_ H=>?_;obtain⟨apos,j⟩:=a;obtain⟨k,hlen,n,o,T',⟨oI,l,m⟩,c⟩:=c;obtain rfl:j=[]:=k;obtain⟨hp,g,d,G,os⟩:=S;apply H;simp only[I];refine wb9 (wpAny_keeperOf_exc n ?_);refine wb9 (HX F T' n o hi l m (bO c (λr P z=>?_) λ_ _ y=>y) hlen);obtain⟨rfl,p,⟨t,dx,u⟩,D⟩:=z;exact⟨W,wb9 (cL (wpAny_point (wu9 ⟨_,t,dx,W,p,u,D⟩)))⟩
 exact wb9 (mL (DE (C:=C) (nm:=nm) (q:=q) (N:=N) (bs:=bs) (hdct:=hdct) (sn:=sn) (sub:=sub) (ab:=ab) (col:=col) (dd:=dd) (k0:=k0) (k1:=k1) (k2:=k2) (k3:=k3) (k5:=k5) (newId:=newId) hbase hh (wb9 (bO i (λv P z=>wb9 (mL (wu9 z))) λ_ _ y=>y))))
end
end L2
namespace L2
open PySem.W Builtin Builtin.ObjectAttr
def V8:ak->cc
 |.ref _=>U
 |_=>J
def Qm(h:V8 v=U):∃c,v=.ref c:=by
 unfold V8 at h;split at h
 .exact⟨_,W⟩
 .cases h
noncomputable abbrev VE4:O ak:=[.type "ValueError",.type "Exception",.type "BaseException",.type "object"]
def DP(l:O ak):cc:=l.dropWhile V8 == VE4
theorem FN:∀{l:O ak},DP l=U->(∀self,refuseLoop self "__setattr__" l=pure ())/\l.contains (.type "object")=U
 |[],e=>nomatch e
 |v::r,e=>by
   unfold DP at e;rw[List.dropWhile_cons]at e;split at e
   .rename_i q;obtain⟨c,rfl⟩:=Qm q;obtain⟨h1,h2⟩:=FN (l:=r) e;exact⟨λself=>(refuseLoop_ref self _ c r).trans (h1 self),by rw[Je,h2,mQ]⟩
   .rw[eq_of_beq e];exact⟨PySem.F.store_ValueError.passes,by decide⟩
def JA(K:aB)(C:aN):cc:=(clsIn K C).any λa=>DP a.mro && a.hasDict
section
variable{s:ao}{K:aB}{ox:m8}
def Pt(O':ox.data=.fields vs)(X:K.In s.heap)(I:InstAt s.heap x ox C L)(hp:JA K C=U)(ha:ky K (.ref C) name=Y L)
  (h:∀S P,S.get? x=Y { ox with dict:=Y s.heap.objs.size }->S.Ns1 s.heap.objs.size (λy=>if y=name then Y v else L)->(∀b o,b≠x->s.heap.get? b=Y o->S.get? b=Y o)->s.heap.objs.size<S.objs.size->R (.ok (.ret .none)) { s with heap:=S,toks:=P }) :
  e9 (aC prog w) A (.call (.builtin "object.__setattr__") ⟨[.ref x,.str name tk,v],[]⟩) R s:=by
 have SF:=PySem.F.store_object;obtain⟨u,hc,ho⟩:=any_some hp;obtain⟨B,n⟩:=FN (dR.mp ho).1;have ne:u.mro.isEmpty=J:=by grind
 refine fR SF.slot.plain SF.entry (@check_slot (aC _ w) _ _ s _ _ _ _ [.str _ tk,v] [] _ SF.kind SF.split (I.type.andThen (Al X (by unfold mroIn;grind))) (SF.args _ (.str _ tk) v) ?_);have D:fV (aC prog w) _ (mroOf (.ref C)) _:=(NC X hc).andThen .now;rw[osa_eq,refuse_eq];refine wb9 (wb9 (I.type.here (wb9 (D.here ?_))));rw[B];refine wu9 (wb9 (I.type.here (wb9 ((lF X ha).here (wb9 (Looks.now.here ?_))))));refine ac λ_ a=>?_;obtain⟨hh,g,d,t,os⟩:=s;obtain⟨k,l,j,hd⟩:=I;clear j; obtain⟨oc,m,E,osl⟩:=ox;subst l
 apply a; cases m with
 |some q=>exact cA hd
 |none=>
   refine wb9 (wu9 (wb9 (wb9 (tD k (wb9 ((NC X hc).here ?_))))));clear hc X hd; subst O';rw[(dR.mp ho).2];have c :=ba (hl9 k);refine wb9 (wpAny_alloc' (wb9 (wpAny_update' (hp9 _ k) (wu9 ?_))));refine wb9 (wu9 (wb9 (wpAny_nsSet1 (Heap.Ns1.of_empty ⟨_,_,_,((rE _ _ _ _ c.symm).trans (Heap.get?_push_at W rfl)),W,λe he=>absurd he (by simp),λ_=>W⟩) λS f hs=>?_)));refine ac λ_ a=>?_;obtain⟨M,G,H,i,p,r⟩:=f.count (Within.cons _ v Within.nil);apply a;refine wb9 (wpAny_lookBehind i (by rw[p];exact pastItsLine_dict (af r (by simp))) ?_);refine wu9 (h S _ ((hs.2 x c).trans (ei _ (hp9 _ k) W)) f (λb o hb z=>(hs.2 b (ba (hl9 z))).trans ((rE _ _ _ _ hb).trans (hp9 _ z))) (hl9 i))
end
section
variable{h:bJ}{os:mo}{a C dx:aN}{K:aB}{name:aa}
noncomputable def Dg(K:aB)(C:aN)(name:aa):cc:=ky K (.ref C) "__getattribute__" == Y (Y (.builtin "BaseException.__getattribute__")) && ky K (.ref C) name == Y L && ky K (.ref C) "__getattr__" == Y L && mroIn K C (.type "BaseException") == Y U && hasDictIn K C
def XO(a C dx:aN):bJ->Prop:=λh=>∃b,h.get? a=Y b/\b.cls=.ref C/\b.dict=Y dx/\∃vs,b.data=.fields vs
def D6(X:K.In h)(x:XO a C dx h)(hh:hasDictIn K C=U)(f:h.Ns dx mA):fV M h (inOwnDict name (.ref a)) (mA name):=λA Q E s k q=>by
 refine ac λ_ g=>?_;obtain⟨i,he,hc,hd,vs,b⟩:=x;obtain⟨e,h1,h2⟩:=any_some hh;obtain⟨oc,c,d,osl⟩:=i;subst hc hd b;apply g;have body:aG M A (instanceDict a J) (λz j=>aG M A (inDict name z) Q E j) E s:=by
  refine wb9 (tD (k _ _ he) ?_);dsimp only;refine wb9 ((NC (M:=M) X h1) A _ E s k ?_);rw[h2];exact wu9 (wpAny_nsGet (f.keeps k) q)
 exact wb9 (wb9 (tD (k _ _ he) body))
def N4(X:K.In h)(q:Dg K C name=U)(x:XO a C dx h)(I:h.Ns dx mA)(B:mA name=Y v)(ho:handedIn v=U)(F:Q v ⟨h,g,d,t+1,os⟩):aG (aC prog w) A (getAttr (.ref a) name expr) Q E ⟨h,g,d,t,os⟩:=by
 unfold Dg at q;simp only[ah,eb]at q;obtain⟨⟨⟨⟨e,f⟩,i⟩,j⟩,k⟩:=q;have LO:=D6 (M:=aC prog w) (name:=name) X x k I;rw[B]at LO;obtain⟨c,he,hc,_,vs,hd⟩:=x;have b:fV (aC prog w) h (hD (.ref a)) (.ref C):=hc▸(jV he).andThen .now;have L2:=lF (M:=aC prog w) X f;have o:=lF (M:=aC prog w) X i;have m:=Al (M:=aC prog w) X j;refine wb9 (wpAny_mkText (cL (wb9 (b.at (wb9 ((lF (M:=aC _ w) X e).at ?_))))));have p:=vx.ga.bind (.ref a);have r:(expr && onTheHeap (.builtin "BaseException.__getattribute__"))=J:=by cases expr<;>rfl
 repeat (any_goals (first|assumption|with_reducible apply Looks.at (by assumption)|wp_step))
 apply fR vx.ga.plain As;refine wb9 ((b.andThen m).at ?_)
 repeat (any_goals (first|assumption|with_reducible apply Looks.at (by assumption)|wp_step))
 refine (?_ : aG _ _ (handedOut v) ..);rw[handedOut_of ho];exact wu9 F
end
end L2
namespace L2
open PySem.W PySem.W Builtin Builtin.ObjectAttr Builtin.Getset_descriptor
section
variable{os:mo}{C:aN}{K:aB}
noncomputable def AN(K:aB)(C:aN):cc:=ky K (.ref C) "__getattribute__" == Y (Y (.builtin "BaseException.__getattribute__")) && ky K (.ref C) "__class__" == Y (Y (.builtin "object.__class__")) &&
 ky K (.ref C) "__getattr__" == Y L && mroIn K C (.type "object") == Y U && mroIn K C (.type "BaseException") == Y U
def N5(X:K.In h)(q:AN K C=U)(x:XO a C P h)(I:Q (Y (.ref C)) ⟨h,g,d,t+1,os⟩):aG (aC prog w) A (getAttr? (.ref a) "__class__") Q E ⟨h,g,d,t,os⟩:=by
 unfold AN at q;simp only[ah,eb]at q;obtain⟨⟨⟨⟨i,j⟩,k⟩,l⟩,m⟩:=q;obtain⟨D,he,hc,_,vs,hd⟩:=x;have e:fV (aC prog w) h (hD (.ref a)) (.ref C):=hc▸(jV he).andThen .now;have n:=lF (M:=aC prog w) X i;have L2:=lF (M:=aC prog w) X j;have s:=lF (M:=aC prog w) X k;have u:=Al (M:=aC prog w) X l;have o:=Al (M:=aC prog w) X m;unfold getAttr? getAttrBy? getAttrBy;refine wb9 (wpAny_mkText (wb9 (mM (cL (wb9 (e.at (wb9 (n.at ?_))))))));dsimp only;rw[cb (by simp[onTheHeap])];have f:=vx.ga;have v:=f.bind (.ref a);unfold getAttrByItsOwn hookBefore callGetattribute boundAndCalled
 repeat (any_goals (first|assumption|with_reducible refine Looks.at (by assumption) ?_|wp_step))
 refine fR f.plain As ?_;have hk:builtinKind "BaseException.__getattribute__"=Y .slot:=by decide +kernel
 have b:splitId "BaseException.__getattribute__"=Y ("BaseException","__getattribute__"):=by decide +kernel
 have ha:=PySem.F.args_bexc_ga (.ref a) (.str "__class__" t);have p:fV (aC prog w) h (hT (.ref a) (.type "BaseException")) U:=e.andThen o;simp only[checkBuiltinCall,hk,b];refine wb9 (p.at ?_);have y:hD (.builtin "object.__class__")=pure (.type "getset_descriptor"):=CF;have c:∀(g:c7 mT)(d:Drawn)(t:T)(os:mo),(⟨h,g,d,t,os⟩:ao).TypeIs (.builtin "object.__class__") "getset_descriptor":=λ_ _ _ _=>CF;have r:=c g d (t+1) os;have z:=PySem.F.slot_gs_get.lookup;have B:=PySem.F.slot_gs_set.lookup
 repeat (any_goals (first|assumption|with_reducible refine Looks.at (by assumption) ?_|wp_step))
 refine fR KF.slot_gs.plain KF.entry_gs (KF.slot_gs.check _ _ _ _ _ _ _ _ CF (KF.args_gs _ _ _) ?_);unfold jB.«getset_descriptor.__get__» descrGet;rw[dga_obj];refine wb9 (wu9 ?_);unfold descrGetter descrCheckInstance descrNameAndClass hT;simp only[KF.owner_class]
 repeat lk
 refine⟨nc _ (by decide +kernel),kA KF.entry_class ?_⟩;unfold jB.«object.__class__» shownTypeOf
 repeat lk
 exact I
def VR(q:AN K C=U):KitX K (.ref a) (.ref C) (XO a C B) where
 ty:=λM h X l=>by obtain⟨o,he,hc,_⟩:=l;exact hc▸(jV he).andThen .now
 it:=λM h X x=>by
  unfold AN at q;simp only[ah,eb]at q;obtain⟨c,hc,_⟩:=bT q.1.2;unfold clsIn at hc;split at hc
  .rename_i ho;intro f p i r k q;unfold isType loadHead;exact wb9 (tD (k _ _ (X _ _ ho)) (wu9 q))
  .cases hc
 ne:=λh j u m n sl X b=>by
  unfold AN at q;simp only[ah,eb]at q;obtain⟨c,hc,_⟩:=bT q.1.2;refine g9.mpr λq=>?_;have e:C=j:=Value.ref.inj (beq_iff_eq.mp q);subst e;unfold clsIn at hc;split at hc
  .rename_i ho;have z:=(X _ _ ho).symm.trans b;cases z
  .cases hc
 ca:=λ{prog w A E Q s}X x k=>by
  obtain⟨h,g,d,t,os⟩:=s;exact N5 X q x k
end
def Ri(a C:aN):bJ->Prop:=λh=>∃t,h.get? a=Y { cls:=.ref C,data:=.fields #[.ref t,.none,.none,.none,.bool J,.none] }
def XR(a C f:aN):bJ->Prop:=λh=>∃t,h.get? a=Y { cls:=.ref C,dict:=Y f,data:=.fields #[.ref t,.none,.none,.none,.bool J,.none] }
structure Xj(K:aB)(C:aN)(f:aa):Prop where
 over:JA K C=U
 no:l9 K (.ref C) f=Y L
 sa:l9 K (.ref C) "__setattr__"=Y (Y (.builtin "object.__setattr__"))
section
def N1(I:Inv X h_ σ H s)(e:H a=Y (.ext (Ri a C)))(c:Xj X.K C f)(P:RelV y u)
  (h:∀B F,H B=L->B≠a->Inv X h_ σ (upd (upd H a (.ext (XR a C B))) B (.xd [(f,y)])) F->Q () F):aG (aC X.prog X.w) A (setAttr (.ref a) f u) Q E s:=by
 obtain⟨⟨t,ho⟩,_,_⟩:=I.hok a _ e;have j:PySem.W.InstAt _ a { cls:=.ref C,data:=.fields _ } C L:=⟨ho,W,W,lA⟩
 refine PySem.W.set_plain I.wu j c.sa (Pt W I.wu j c.over c.no λG l h1 h2 h3 x=>?_);have nd:s.heap.get? _=L:=lO (aq _);have hd :=I.hok.fresh (aq _);have D:s.heap.objs.size≠a:=λz=>by simp_all
 have d:∀b,b≠a->b≠s.heap.objs.size->upd (upd H a (.ext (XR a C s.heap.objs.size))) _ (.xd [(f,y)]) b=H b:=λb m p=>by rw[cz p,cz m]
 have r:upd (upd H a (.ext (XR a C s.heap.objs.size))) s.heap.objs.size (.xd [(f,y)]) a=Y (.ext (XR a C s.heap.objs.size)):=by rw[cz D.symm,bK]
 have fr:∀b,H b=L->b≠a:=λb z q=>by rw[q,e]at z;cases z
 have kp :=λb o z n=>h3 b o n z;refine h _ _ hd D (I.un ⟨λb o z n _ _=>kp b o z (fr b n),λb o z n _ _=>⟨_,kp b o z (fr b n)⟩,λb o z n _=>?_,λb o z _=>?_,λb M z=>?_,λb o u z=>?_⟩ λb o z=>?_)
 .rwa[d b (fr b n) ((λb o z q=>by grind) b o z)]
 .by_cases q:b=a
  .simp_all
  .exact⟨o,kp b o z q⟩
 .grind
 .grind
 .by_cases q:b=s.heap.objs.size
  .clear I e c h ho left right j h1 h3 x nd hd D d r fr kp; subst q;rw[bK]at z;cases z;refine⟨_,h2,λg=>?_⟩;by_cases q:g=f
   .clear h2; subst q;rwa[a5 W,dE,fc]
   .rw[cb q,dE,beq_eq_false_iff_ne.mpr q];exact lA
  .by_cases i:b=a
   .clear I e c h ho left right j h3 x nd hd D d fr kp; subst i;rw[r]at z;cases z;exact⟨⟨t,h1⟩,⟨_,h1⟩,λh1 h2 ⟨t,q⟩ k=>⟨t,k _ q⟩⟩
   .rw[d b i q]at z;exact(I.hok b o z).mW λw v=>kp b w v i
end
end L2
namespace L2
open PySem.Calls
noncomputable abbrev bmV:O ak:=[.type "ValueError",.type "Exception",.type "BaseException",.type "object"]
def vI(K:aB)(C f:aN):cc:=match K.lookup C with
 |some ⟨c,_,.cls a,sl⟩=>c == .type "type" && a.mro == .ref C::a.mro.tail && decide (sl.size=6) && sl[4]? == Y (Y (.builtin "ValueError.__new__")) && !a.hasDel && PySem.W.tailIn K bmV a.mro.tail && PySem.W.nsOkIn K a.ns && fu K a.ns "__init__" == Y (Y (.ref f)) && rN K (.ref f)
 |_=>J
set_option tactic.hygienic true
def PQ{K:aB}(X:K.In h)(G:h.Ns N m)(e:fu K N n=Y (Y v)):m n=Y v:=by
 obtain⟨o,a,b,ho,hd,_,hf⟩:=G;unfold fu at e;split at e
 .rename_i q;have z:=X _ _ q;rw[ho]at z;clear X ho q; cases z;cases hd;split at e
  .rename_i en he;cases e;rw[<-hf];unfold nsFind findBy
   grind
  simp_all
 .cases e
def abu{α:Type}{l:O α}(h:Z l=6):∃a b c d e f,l=[a,b,c,d,e,f]:=by
 obtain⟨a,l,rfl⟩:=cW h;obtain⟨b,l,rfl⟩:=cW (dC h);obtain⟨c,l,rfl⟩:=cW (dC (dC h));obtain⟨d,l,rfl⟩:=cW (dC (dC (dC h)));obtain⟨e,l,rfl⟩:=cW (dC (dC (dC (dC h))));obtain⟨f,rfl⟩:=fY.mp (dC (dC (dC (dC (dC h)))));exact⟨a,b,c,d,e,f,W⟩
def K0{K:aB}(X:K.In h)(q:vI K C F=U) :
  ∃I N nm q bs hdct sn sub ab col dd k0 k1 k2 k3 k5 B,h.get? C=Y (eX nm q C N bs I hdct sn sub ab col dd k0 k1 k2 k3 k5 "ValueError.__new__")/\h.Ns N B/\B "__init__"=Y (.ref F)/\mu h bmV I/\rN K (.ref F)=U:=by
 unfold vI at q;split at q
 .rename_i c dd f sl ho;simp only[ah,eb,gZ,c6]at q;obtain⟨⟨⟨⟨⟨⟨⟨⟨rfl,e⟩,hs⟩,g⟩,a⟩,ht⟩,hok⟩,b⟩,d⟩:=q;obtain⟨nm,bs,mro,ns,i,hd,sn,sub,ab,col,j⟩:=f;cases a;obtain⟨l⟩:=sl;obtain⟨k0,k1,k2,k3,k,k5,rfl⟩:=abu hs;clear hs; cases g;have hc:=X _ _ ho;dsimp only at e hc;rw[e]at hc;exact⟨_,ns,nm,i,bs,hd,sn,sub,ab,col,dd,k0,k1,k2,k3,k5,_,hc,.of_isNs (C2 X hok),PQ X (.of_isNs (C2 X hok)) b,PySem.W.tail_of_in X ht,d⟩
 .cases q
set_option tactic.hygienic false
def vP(C:aN)(f:aa):Sp:=λvs H Q _=>∃a y,vs=[.ref a,y]/\H a=Y (.ext (Ri a C))/\∀b,H b=L->b≠a->Q .non (upd (upd H a (.ext (XR a C b))) b (.xd [(f,y)]))
section
variable{f:aa}{pos:rC}{ta tv:TE}
def sXf(K:aB)(ta tv:TE)(f:aa):TS:=λD σ H=>tv σ H λy b=>ta σ b λx d=>∃a C,x=.ref a/\d a=Y (.ext (Ri a C))/\Xj K C f/\∀c,d c=L->c≠a->D.nx σ (upd (upd d a (.ext (XR a C c))) c (.xd [(f,y)]))
def Pj(ha:PE X o ta)(B:PE X value tv)(hs:ez value (Y (.Attribute o f pos')) pos.line X.env=pure J):PS X (.Assign [.Attribute o f pos'] value pos) (sXf X.K ta tv f):=by
 intro h_ s σ H D I h;refine plainObj_wpAny_Assign_Attribute (jf (B h_ s σ H _ I h) λu s1 ⟨y,b,d,e,q⟩=>jf (ha h_ s1 σ b _ d q) λg s2 v=>?_) hs;obtain⟨x,t,i,j,a,C,ex,k,c,l⟩:=v;subst ex;obtain rfl:g=bY a:=j;exact N1 i k c e λr s3 m n p=>⟨σ,_,p,l r m n⟩
end
section
variable{K:aB}{base:bJ}
def Qz{st:iE}(F:Xs K x qual st R fd)(S:lV ["self",f] ["self",f] (bE st))(hb:i5 st=[.Assign [.Attribute (.Name "self" p1) f p2] (.Name f p3) p4])(c:Xj K C f)
  (O':M9 (bE st) "self")(B:M9 (bE st) f)(hd:(f == ("__debug__":aa))=J)(I:(f == ("__classdict__":aa))=J)
  (hs:∀env:C8,env.scope=bE st->ez (.Name f p3) (Y (.Attribute (.Name "self" p1) f p2)) p4.line env=pure J):jx P w K mg base vq (k+1) R fd ["self",f] (vP C f):=by
 refine ac λ_ m=>?_;obtain⟨oc,od,kV,doc,pm,an,cdv,ct,osl,rfl,d,b⟩:=F.ex;apply m;refine Mf d b S (λvs H Q E l=>by obtain⟨a,y,e,_⟩:=l;rw[e];rfl) λA outer s H vs Q E j ⟨a,y,e,ha,q⟩=>?_;subst e;rw[hb];exact⟨_,zy (Pj (lL (i:=0) W O' (by decide) (by decide)) (lL (i:=1) W B hd I) (hs _ W)),⟨y,W,_,W,a,C,W,ha,c,λn g h=>q n g h⟩⟩
end
def kj.here(x:kj P w H h a o):∃f,h.get? a=Y f:=by
 cases o with
 |lst b=>obtain⟨_,_,_,_,e⟩:=x;exact⟨_,e⟩
 |tup b=>obtain⟨_,_,_,o,e,_⟩:=x;exact⟨_,e⟩
 |dK c=>obtain⟨_,_,_,_,o,_,_,e,_⟩:=x;exact⟨_,e⟩
 |xd fs=>obtain⟨_,⟨_,_,_,e,_⟩,_⟩:=x;exact⟨_,e⟩
 |nu f u=>exact⟨_,x.1⟩
 |ext d=>exact x.2.1
theorem rL.none(x:rL P w H h)(e:h.get? a=L):H a=L:=by
 cases q:H a with
 |none=>rfl
 |some o=>
   obtain⟨b,z⟩:=(x a o q).here;rw[e]at z;cases z
structure Flt(P:bW)(w:cU)(outer:O C8)(H H':Hp)(h:bJ)(a C dx:aN)(B h':bJ):Prop where
 fly:rp B outer a (.ref C) dx .none h'
 kp:∀b o,h.get? b=Y o->H b=L->b∉uP outer->B.get? b=Y o
 th:∀b o,h.get? b=Y o->b∉uP outer->∃o',B.get? b=Y o'
 hok:rL P w H' B
 un:Un (uP outer) [] H H' h h'
 fr:H' a=L
def IV(P:bW)(w:cU):SN:=λouter H s E e b=>∃(a C c:aN) (d:Hp) (B:bJ),e=.ref a/\b.os=s.os/\lI b.gens/\Flt P w outer H d s.heap a C c B b.heap/\E (.ref C) (Y c) d
section
variable{K:aB}{base:bJ}
def N3{s0:ao}(B:Inv (pJ (IV P w) P w K mg base N qual scope f cd A outer s₀ H₀ E) h_ σ H s0)(F:s0.heap.get? a=L)
  (I:Inv (pJ (IV P w) P w K mg base N qual scope f cd A outer s₀ H₀ E) h_ σ (upd (upd H a (.ext (XR a C R))) R o) s)(S:R≠a)(q:E (.ref C) (Y R) (upd H R o)) :
  (pJ (IV P w) P w K mg base N qual scope f cd A outer s₀ H₀ E).xe (.ref a) s:=by
 have k:upd (upd H a (.ext (XR a C R))) R o a=Y (.ext (XR a C R)):=by rw[cz S.symm,bK]
 have hb:∀b,b≠a->upd (upd H a (.ext (XR a C R))) R o b=upd H R o b:=λb n=>by
  by_cases z:b=R
  .clear B F I S q k n; subst z;rw[bK,bK]
  .rw[cz z,cz z,cz n]
 obtain⟨⟨t,ho⟩,_,_⟩:=I.hok a _ k
 have M:∀b u,s₀.heap.get? b=Y u->b≠a:=λb u z y=>by
  clear I S q k hb ho left right; subst y;obtain⟨D,g⟩:=B.base.there b u z (by intro z;cases z);rw[F]at g;cases g
 have d:∀b u,s₀.heap.get? b=Y u->b∉uP outer->b∉a::uP (pJ (IV P w) P w K mg base N qual scope f cd A _ s₀ H₀ E).stack:=λb u i r z=>by
  rcases aA.mp z with z|z
  .exact M b u i z
  .rcases aA.mp z with z|z
   .exact absurd (hl9 i) (by simp_all)
   .exact r z
 refine Ea I.ok.frames (PySem.W.funFrames_hide I.stack (λenv he b hb=>jY _ (ni.mpr ⟨_,he,hb⟩))) W ho (λb o q=>C0 _ q) (AE _ jM) W rfl rfl λQ G l=>?_;have kp :=λb o i r x=>
  lN _ (I.base.keep b o i r x (by intro z;cases z)) (d b o i x)
 have th:∀b o,s₀.heap.get? b=Y o->b∉uP _->∃D,(IX _ (a::uP (pJ _ P w K mg _ N _ _ f cd A _ _ _ E).stack)).get? b=Y D:=λb o i x=>by
  obtain⟨D,z⟩:=I.base.there b o i (by intro z;cases z);exact⟨D,lN _ z (d b o i x)⟩
 have sl:∀b o,s₀.heap.get? b=Y o->H₀ b=L->b∈uP _->∃sl,Q.get? b=Y { o with slots:=sl }:=λb o i r x=>by
  obtain⟨sl,z⟩:=I.base.slot b o i r x (by intro z;cases z);obtain⟨_,m,h,e5⟩:=I.ok.sL.mem x;have h:s₀.heap.get? b=Y m:=h;rw[i]at h;cases h;obtain⟨j,g⟩:=l b _ z e5;exact⟨j,g⟩
 have tr:∀b u,upd (upd H a (.ext (XR a C R))) R o b=Y u->(∀V,u≠.ext V)->upd H R o b=Y u:=λb u z n=>by
  grind
 refine⟨a,C,R,_,_,W,I.os,I.bare,⟨G,kp,th,λc u hc=>?_,⟨λb o i r x _=>G.st b o (kp b o i r x),λb o i r x _=>sl b o i r x,λb u i r _=>?_,λb o i _=>?_,λb X z=>tr b _ (I.base.tups b X z) (λ_ y=>by cases y),λb o u z=>tr b _ (I.base.frzs b o u z) (λ_ y=>by cases y)⟩,?_⟩,q⟩
 .have e:c≠a:=λy=>by
   clear I q k hb ho left right M d G l kp th sl tr; subst y;rw[cz S.symm]at hc;rw[B.hok.none F]at hc;cases hc
  refine(I.hok c u (by rwa[hb c e])).mW λv p=>?_;refine lN _ p λz=>?_
  rcases aA.mp z with z|z
  .exact e z
  .have n:=I.zi c z
   simp_all
 .have z:=I.base.free b u i r (by intro z;cases z);rwa[hb b (M b u i)]at z
 .by_cases hb:b∈uP outer
  .obtain⟨sl,z⟩:=sl b o i (I.ok.frf b hb) hb;exact⟨_,z⟩
  .obtain⟨D,z⟩:=th b o i hb;exact⟨D,G.st b D z⟩
 .rw[cz S.symm];exact B.hok.none F
end
def G5(X:Cx)(E:XK):Prop:=∀(h_:O (aN×m8))(σ:St)(H:Hp)(s0 s:ao)(a C b:aN)(o:HO),Inv X h_ σ H s0->s0.heap.get? a=L->Inv X h_ σ (upd (upd H a (.ext (XR a C b))) b o) s->b≠a->E (.ref C) (Y b) (upd H b o)->X.xe (.ref a) s
section
variable{K:aB}{base:bJ}
def JE:G5 (pJ (IV P w) P w K mg base N qual scope f cd A outer s₀ H₀ E) E:=λh_ σ H s0 s a C e o c d I b q=>N3 c d I b q
end
def Qo{K:aB}(h:rN K (.ref B)=U):∃f,K.lookup B=Y f/\f.cls=.type "function":=let ⟨o,h1,h2⟩:=eT (beq_iff_eq.mp h);⟨o,h1,h2⟩
section
def KE(c3:G5 X E)(e0:X.calm=U)(hg:Gl X x)(hm:X.mg x=Y (.ref C))(q:vI X.K C fI=U)(hd:(x == ("__debug__":aa))=J)(F:jx X.prog X.w X.K X.mg X.base vq k fI fd ["self",f] (vP C f))(hr:i7 (k+1) X.A)(hb:Binds X.K fd ["self",f] [])(ha:PA X.yk [e₀] t)
  (he:aP [e₀] X.env=[(J,eval e₀ X.env)]) :
  PS X (.Raise (Y (.Call (.Name x np) [e₀] [] cpos)) L pos) (λ_ σ H=>t σ H λvs O'=>∃v,vs=[v]/\∀dx,O' dx=L->E (.ref C) (Y dx) (upd O' dx (.xd [(f,v)]))):=by
 intro h_ s σ H D I h;refine ac λ_ kq=>?_;obtain⟨tl,N,nm,L',bs,hdct,sn,sub,ab,col,dd,k0,k1,k2,k3,k5,V,J',M,hi,T',m⟩:=K0 I.mod.kin q;apply kq;refine DF (nm:=nm) (q:=L') (N:=N) (bs:=bs) (hdct:=hdct) (sn:=sn) (sub:=sub) (ab:=ab) (col:=col) (dd:=dd) (k0:=k0) (k1:=k1) (k2:=k2) (k3:=k3) (k5:=k5) vv (T'.hasType vv.hasBase) (I.ok.hd e0) (by rw[he];rfl) hi (qw I hg hm ⟨W,?_⟩ hd);have h:=ha cpos h_ s σ H _ (I.tK _) h;rw[he]at h ⊢;refine qB (bO h (λus a B=>?_) λ_ _ y=>cA y);obtain⟨vs,O',c,r,v,ev,P⟩:=B;refine ac λ_ kq=>?_;subst ev;have c:=c.lJ;obtain⟨u,rfl,Q⟩:=r.one;obtain⟨j,R,n⟩:∃j,X.K.lookup fI=Y j/\j.cls=.type _:=Qo m
 apply kq; have p:Inv X h_ σ (upd O' (a.heap.objs.size+1) (.ext (Ri (a.heap.objs.size+1) C))) { a with heap:=HJ a.heap C [u],toks:=a.toks }:=by
  exact c.laid (λb o z=>hp9 _ (hp9 _ z)) (xf _) ⟨⟨_,(by heap_get)⟩,⟨_,(by heap_get)⟩,λh1 h2 ⟨t,z⟩ k=>⟨t,k _ z⟩⟩
 refine⟨W,by show 1<=aJ;decide,c.bk _ _ J',M.keeps c.bk,T'.keeps c.bk,⟨j,c.wu _ _ R,n⟩,?_⟩;refine qO (jc (F.run _ _ _ _ ⟨[.ref _,u],[]⟩ [.ref _,u] [.ref _,v] (λz H2=>z=.non/\∃dx,O' dx=L/\dx≠a.heap.objs.size+1/\H2=upd (upd O' _ (.ext (XR _ C dx))) dx (.xd _)) E0 (hr.make C _ []) (p.WA.make C _ []) (hb { a with heap:=HJ _ C _ } [.ref _,u] p.wu W) (.cons rfl (.cons Q .nil))
  ⟨_,v,W,bK,λdx l d=>⟨W,dx,by rwa[cz d]at l,d,by rw[Ob]⟩⟩) λr g i=>?_)
 cases r with
 |error e=>exact cA i
 |ok fl=>
   cases fl with
   |ret z=>
     refine ac λ_ kq=>?_;obtain⟨e1,H2,G,S,U',dx,l,d,e2⟩:=p.after i;subst U' e2;obtain⟨⟨t,ht⟩,_,_⟩:=G.hok _ _ (by rw[cz d.symm,bK]);apply kq;exact⟨S,G.bk _ _ J',⟨t,dx,ht⟩,c3 h_ σ O' a g _ C dx _ c (lO (xf _)) G d (P dx l)⟩
   |next=>exact cA i
   |brk=>exact cA i
   |cont=>exact cA i
end
section
def Flt.Vh(F:Flt P w outer H f h a C I B R):a∉uP outer:=λz=>by
 obtain⟨_,o,b,c⟩:=F.fly.fr.mem z;obtain⟨d,vs,T',e,g,he,_,_,hd,_⟩:=F.fly.tr
 grind
def Flt.new(F:Flt P w outer H f h a C I B R):h.get? a=L:=by
 cases q:h.get? a with
 |none=>rfl
 |some o=>
   obtain⟨b,z⟩:=F.th a o q F.Vh;rw[F.fly.en]at z;cases z
def Flt.there(F:Flt P w outer H R h a C f B I):XO a C f I:=by obtain⟨b,vs,h1,h2,h3,c⟩:=F.fly.there;exact⟨b,h1,h2,h3,vs,c⟩
def Flt.step(F:Flt P w outer H H' h a C S B h')(R:rp B outer a (.ref C) S .none I)(u:h'.UpToSlots I):Flt P w outer H H' h a C S B I:=by
 refine⟨R,F.kp,F.th,F.hok,⟨λb o i k j _=>R.st b o (F.kp b o i k j),λb o i k j e=>?_,F.un.free,λb o i e=>?_,F.un.tups,F.un.frzs⟩,F.fr⟩
 .obtain⟨sl,z⟩:=F.un.slot b o i k j e;obtain⟨_,f,c,e5⟩:=F.fly.fr.mem j;rw[z]at c;cases c;obtain⟨d,g⟩:=u b _ z e5;exact⟨d,g⟩
 .by_cases hb:b∈uP outer
  .obtain⟨_,f,c,e5⟩:=R.fr.mem hb;exact⟨f,c⟩
  .obtain⟨l,z⟩:=F.th b o i hb;exact⟨l,R.st b l z⟩
def Flt.abG(F:Flt P w outer H I h a C R B S):rL P w (upd I a (.ext (XO a C R))) S:=λb o e=>by
 by_cases hb:b=a
 .subst hb;rw[bK]at e;cases e;obtain⟨g,he,hc⟩:=F.there;exact⟨⟨g,he,hc⟩,⟨g,he⟩,λh1 h2 ⟨c,d,f⟩ k=>⟨c,k c d,f⟩⟩
 .rw[cz hb]at e;exact((F.hok.kept λb u q=>F.fly.st b u q) b o e).mW λ_ q=>q
def Flt.un2(F:Flt P w outer H f h a C I B R):Un (uP outer) [] H (upd f a (.ext (XO a C I))) h R where
 keep:=F.un.keep
 slot:=F.un.slot
 free:=λb o c e g=>by
  rw[cz (λz=>by subst z;rw[F.new]at c;cases c)];exact F.un.free b o c e g
 there:=F.un.there
 tups:=λb d q=>by have:=F.un.tups b d q;rw[cz (gP this F.fr)];exact this
 frzs:=λb o d q=>by have:=F.un.frzs b o d q;rw[cz (gP this F.fr)];exact this
end
section
variable{X:Cx}{s':ao}
def Flt.inv(I:Inv X h_ σ H s)(F:Flt X.prog X.w X.stack H f s.heap a C P B s'.heap)(ho:s'.os=s.os)(R:lI s'.gens):Inv X h_ σ (upd f a (.ext (XO a C P))) s':=
 I.So ho F.un2 F.abG R λb z=>by cases z
noncomputable def Cx.XT(X:Cx)(e:ak):Cx:={ X with A:=X.A.mark (Y e),calm:=J,xe:=λ_ _=>False }
def Inv.XT(I:Inv X h_ σ H s)(e:ak):Inv (X.XT e) h_ σ H s:=
 ⟨⟨I.ok.mod,I.ok.kind,I.ok.glob,I.ok.blt,I.ok.above,I.ok.inj,I.ok.has,I.ok.cab,(λz=>by cases z),I.ok.frames,I.ok.Ay,I.ok.exf,I.ok.bs,I.ok.bsz,I.ok.noex,I.ok.exfs,I.ok.sL,I.ok.frf⟩,I.os,I.bare,I.base,I.loc,I.cell,I.free,I.freeC,I.pin,I.hok,I.len⟩
def Inv.abb(ok:X.Ok)(I:Inv (X.XT e) h_ σ H s):Inv X h_ σ H s:=
 ⟨ok,I.os,I.bare,I.base,I.loc,I.cell,I.free,I.freeC,I.pin,I.hok,I.len⟩
end
section
variable{A:bP}
def xE{K:aB}
  (hx:iq K cls c=Y U)
  (h:aG (aC prog w) (A.mark (Y (.ref e))) (eval t env) (λc' F=>c'=c/\K.In F.heap/\(∃S,F.heap.get? e=Y S/\S.cls=cls)/\
   aG (aC prog w) (A.mark (Y (.ref e))) (setFlight (.ref e) L) (λ_ O'=>
       aG (aC prog w) (A.mark (Y (.ref e))) (storeName env n (.ref e)) (λ_ B=>
        aG (aC prog w) (A.mark (Y (.ref e))) (execs (C::I) env)
         (λf P=>aG (aC prog w) A (do bindName env n .none;unbindBehindTheSuite env n pos) (λ_ R=>Q f R) E P)
         (AsSuiteRaised (aC prog w) (A.mark (Y (.ref e))) env n pos (mv (aC prog w) (A.mark (Y (.ref e))) env (iy (aC prog w) A env E))) B) (mv (aC prog w) (A.mark (Y (.ref e))) env (iy (aC prog w) A env E)) O') (mv (aC prog w) (A.mark (Y (.ref e))) env (iy (aC prog w) A env E)) F) (mv (aC prog w) (A.mark (Y (.ref e))) env (iy (aC prog w) A env E)) s) :
  aG (aC prog w) A (handleBy (.ref e) env (.ExceptHandler (Y t) (Y n) (C::I) pos::rest)) Q E s:=by
 refine wpAny_handleBy_cons (codeAny_handlers_test (bO h (λc F a=>?_) λ_ _ y=>y)) (by intro q;cases q);refine ac λ_ g=>?_;clear h; obtain⟨rfl,d,⟨S,he,b⟩,hk⟩:=a;apply g;exact PySem.W.exm_one d (by rw[<-b];exact(jV he).andThen .now) hx _ _ _ _ (λ_ _ q=>q) (codeAny_handlers_suite_as hk)
end
section
def Inv.gone{S:bJ}(I:Inv X h_ σ H s)(O':X.N.Nodup)(hi:X.N[m]?=Y n)(hk:X.env.scope.names.lookup n=Y .local)(R:s.heap.Ns X.env.locals mm)
  (h1:S.Ns X.env.locals (λx=>if x=n then v else mm x))(hs:dJ X.env.locals s.heap S):Inv X h_ (σ.set m L) H { s with heap:=S,toks:=t' }:=by
 refine ac λ_ kq=>?_;clear hk; obtain⟨m0,g,hl⟩:=id I.loc;obtain⟨G,_,_,i,_⟩:=id R
 apply kq; have t:m0=mm:=by
  obtain⟨J',A,B,K,L',_,M⟩:=id g
  grind
 have a:∀b o,X.s₀.heap.get? b=Y o->b≠X.env.locals:=λb o e=>ba (aS (hl9 e) I.ok.above);have cellK:∀x c,X.env.cells.lookup x=Y c->∀v,s.heap.IsCell c v->S.IsCell c v:=λx c e v ⟨o,ho,hd⟩=>⟨o,(hs.2 c (I.Sm x c e)).trans ho,hd⟩
 refine⟨I.ok,I.os,I.bare,⟨λb o e n hb f=>((hs.2 b (a b o e)).trans (I.base.keep b o e n hb f)),λb o e n hb f=>?_,I.base.free,λb o e f=>?_,I.base.tups,I.base.frzs⟩,⟨_,h1,λj y C Q V e3=>?_⟩,λy c e=>?_,I.free,I.freeC,λp hp=>?_,λb D e=>((I.hok b D e).mW λw q=>(hs.2 b λz=>by rw[z,I.free]at e;cases e).trans q),by simpa using I.len⟩
 .obtain⟨sl,Q⟩:=I.base.slot b o e n hb f;exact⟨sl,(hs.2 b (a b o e)).trans Q⟩
 .obtain⟨o',Q⟩:=I.base.there b o e f;exact⟨o',(hs.2 b (a b o e)).trans Q⟩
 .have h:m≠j:=λz=>by
   subst z;rw[nZ]at V
   grind
  rw[bX h]at V
  have E:y≠n:=λz=>by
   subst z;exact h ((je (aK.mp hi).1 O').mp (hi.trans Q.symm))
  obtain⟨u,r,l⟩:=hl j y C Q V e3;refine⟨u,r,?_⟩
  rcases l with⟨F,P⟩|⟨k,c,e,z⟩
  .exact .inl ⟨F,by simp_all⟩
  .exact .inr ⟨k,c,e,cellK y c e _ z⟩
 .obtain⟨v,z⟩:=I.cell y c e;exact⟨v,cellK y c e v z⟩
 .obtain⟨e,n,ne,nf,d⟩:=I.pin p hp;exact⟨(hs.2 _ ne).trans e,n,ne,nf,d⟩
end
section
variable{X:Cx}{s':ao}{D:aa}{Dn:Ends}
def MR(hN:X.N.Nodup)(c3:X.stack=X.env::X.outer)(hfm:X.env.frame=Y X.env.locals)(hgD:Gl X D)(hmD:X.mg D=Y (.ref CD))(hdD:(D == ("__debug__":aa))=J)
  (hm:X.N[m]?=Y n)(O':X.env.scope.names.lookup n=Y .local)(hj:X.N[j]?=Y y)(hlj:Loc X.env.scope y)(hfn:X.fn y=U\/X.env.scope.names.lookup y=Y .local)(hn1:(n == ("__debug__":aa))=J)(hn2:(n == ("__classdict__":aa))=J)
  (I:Inv X h_ σ H s)(F:Flt X.prog X.w X.stack H H' s.heap a C dx B s'.heap)(ho:s'.os=s.os)(hg:lI s'.gens)(hx:iq X.K (.ref C) (.ref CD)=Y U)
  (q:Dn.nx (((σ.set m (Y (.ref a))).set j (Y (.ref a))).set m L) (upd H' a (.ext (XO a C dx)))) :
  aG (aC X.prog X.w) X.A (hH (.ref a) X.env) (λ_ e0=>aG (aC X.prog X.w) X.A (setFlight (.ref a) L) (λ_ s₃=>aG (aC X.prog X.w) X.A (handleBy (.ref a) X.env [.ExceptHandler (Y (.Name D dp)) (Y n) [.Assign [.Name y py] (.Name n np) ypos] hpos])
   (SP X h_ Dn) X.xe s₃) X.xe e0) X.xe s':=by
 rw[c3]at F;refine PR (by rw[I.ok.frames,c3]) hfm F.fly λh2 o p=>?_;refine zJ o λh3 r t=>?_;have c:=F.step r (p.trans t);have i:Inv X h_ σ (upd H' a (.ext _)) { s' with heap:=h3 }:=Flt.inv I (by rwa[c3]) ho hg;refine xE hx (qw (i.XT _) hgD hmD ⟨W,i.wu,let ⟨e,_,z1,z2,_⟩:=c.fly.there;⟨e,z1,z2⟩,?_⟩ hdD);refine zJ c.fly λx E G=>?_;have J':=c.step E G;refine pZ (Flt.inv I (by rwa[c3]) ho hg) hN hm (.inl O') (v:=.ref a) W (λM P=>?_) (.inr O')
 have f:(σ.set m (Y (V.ref a)))[m]?=Y (Y (.ref a)):=by
  rw[eZ (by rw[I.len];exact(aK.mp hm).1)]
 have ps:sY (X.XT (.ref a)) [.Assign [.Name y py] (.Name n np) ypos] (Dq _ _):=zy (DI hN hj hlj (lL hm (.inl O') hn1 hn2) W hfn);refine bO (ps h_ M _ _ { nx:=λb k=>b=(σ.set m (Y (.ref a))).set j (Y (.ref a))/\k=upd H' a (.ext (XO a C dx)),rt:=λ_ _=>False } (P.XT _) ⟨_,f,W,W⟩) (λfl Q z=>?_) λ_ _ z=>cA z
 .cases fl with
  |next=>
    refine ac λ_ kq=>?_;obtain⟨b,k,d,rfl,rfl⟩:=z;have d:=d.abb I.ok;obtain⟨R,l,_⟩:=id d.loc;apply kq;exact wpAny_nameGoes_keeps O' l (by rw[I.ok.kind];rfl) λS v g h=>⟨_,_,d.gone hN hm O' l g h,q⟩
  |brk=>obtain⟨_,_,_,z⟩:=z;exact cA z
  |cont=>obtain⟨_,_,_,z⟩:=z;exact cA z
  |ret u=>obtain⟨_,_,_,_,_,z⟩:=z;exact cA z
end
section
variable{X:Cx}{i j m:T}{CD:aN}{sp:Sp}{D:aa}{t:TA}
def N6(K:aB)(CD:aN)(Q:aN->Hp->Prop):XK:=λc d H=>∃C b,c=.ref C/\d=Y b/\iq K (.ref C) (.ref CD)=Y U/\∀a,H a=L->Q a (upd H a (.ext (XO a C b)))
def X9(K:aB)(sp:Sp)(CD:aN)(i j m:T)(t:TA):TS:=λb σ H=>t σ H λvs c=>sp vs c (λv d=>b.nx (σ.set i (Y v)) d)
 (N6 K CD λa d=>b.nx (((σ.set m (Y (.ref a))).set j (Y (.ref a))).set m L) d)
def UK(hN:X.N.Nodup)(O':X.stack=X.env::X.outer)(S:X.env.frame=Y X.env.locals)(c3:Gl X D)(hmD:X.mg D=Y (.ref CD))(hdD:(D == ("__debug__":aa))=J)
  (hi:X.N[i]?=Y x)(hli:Loc X.env.scope x)(hfi:X.fn x=U\/X.env.scope.names.lookup x=Y .local)
  (hm:X.N[m]?=Y n)(hlm:X.env.scope.names.lookup n=Y .local)(hj:X.N[j]?=Y y)(hlj:Loc X.env.scope y)(hfn:X.fn y=U\/X.env.scope.names.lookup y=Y .local)(hn1:(n == ("__debug__":aa))=J)(hn2:(n == ("__classdict__":aa))=J)
  (F:jx X.prog X.w X.K X.mg X.base (IV X.prog X.w) k f fd ps sp)(hr:i7 k X.A)(hg:Gl X fn)(hmf:X.mg fn=Y (.ref f))(hk:dO X.K (.ref f)=U)(hb:Binds X.K fd ps [])(hdb:(fn == ("__debug__":aa))=J)
  (ha:PA X.yk (e::es) t)(he:aP (e::es) X.env=(J,eval e X.env)::aP es X.env)(hpl:(er cpos (aP es X.env)).any (·.1)=J) :
  PS X (.Try [.Assign [.Name x px] (.Call (.Name fn p) (e::es) [] cpos) apos] [.ExceptHandler (Y (.Name D dp)) (Y n) [.Assign [.Name y py] (.Name n np) ypos] hpos] [] [] pos) (X9 X.K sp CD i j m t):=by
 intro h_ s σ H Q I h;refine wpAny_Try_except (yS (i1 (fN (qw I hg hmf ?_ hdb)) W));refine C3 I.ok.mod.kin hk (bO (ha _ h_ s σ H _ (I.tK _) h) (λus s1 ⟨vs,E,b,r,q⟩=>⟨b.lJ.wu,?_⟩) λ_ _ z=>cA z) he hpl;have b:=b.lJ;have hl:Z us=Z ps:=by rw[<-r.length];exact F.len _ _ _ _ q
 have c:=hb s1 us b.wu (by simp_all);rw[aL]at c;refine qO (jc (F.run _ _ s1 E _ us vs _ _ hr b.WA c r q) λr s' d=>?_)
 cases r with
 |error e=>
   refine ac λ_ V=>?_;obtain⟨a,C,dx,H2,B,rfl,ho,g,o,R,G,e1,e2,J',l⟩:=d;cases e1;cases e2;apply V;exact MR hN O' S c3 hmD hdD hm hlm hj hlj hfn hn1 hn2 b o ho g J' (l a o.fr)
 |ok fl=>
   cases fl with
   |ret u=>
     refine ac λ_ V=>?_;obtain⟨v,H2,L',M,l⟩:=b.after d;apply V;exact pZ L' hN hi hli M (λs3 P=>ku (ku ⟨_,_,P,l⟩)) hfi
   |next=>exact cA d
   |brk=>exact cA d
   |cont=>exact cA d
end
end L2
namespace M
open L2
set_option genInjectivity true in
inductive Dat where
 |non|bl (b:cc)|int (i:cx)|str (x:aa)|tup (xs:O Dat)|lst (xs:O Dat)|dct (ks:O Key) (vs:O Dat)|any|exc (c:T) (f:aa) (k:Key)
 deriving Inhabited
abbrev Fg:=aB
def Tq(K:Fg)(F:Hp)(a:aN)(vs:O V):Prop:=F a=Y (.tup vs)\/∃(o:m8) (b:c7 ak) (n:T),K.lookup a=Y o/\o.cls=.type "tuple"/\o.data=.seq b n/\b.size<=aJ/\df vs b.toList
def Tq.sq{K:Fg}(h:Tq K F a vs):wW K F a vs:=by
 rcases h with h|h
 .exact .inl (.inl h)
 .exact .inr h
def Tq.mono{K:Fg}(s:cy F f)(h:Tq K F a vs):Tq K f a vs:=by
 rcases h with h|h
 .exact .inl (s _ _ h)
 .exact .inr h
def NV2(K:Fg)(F:Hp):O N2->O V->Prop
 |[],vs=>vs=[]
 |.inl k::a,vs=>∃r,vs=kV k::r/\NV2 K F a r
 |.inr q::a,vs=>∃b r,vs=.ref b::r/\Tq K F b (q.map kV)/\NV2 K F a r
def NVs(K:Fg)(F:Hp):O NK->O V->Prop
 |[],vs=>vs=[]
 |.inl k::a,vs=>∃r,vs=kV k::r/\NVs K F a r
 |.inr q::a,vs=>∃b r us,vs=.ref b::r/\Tq K F b us/\NV2 K F q us/\NVs K F a r
def NKy(K:Fg)(F:Hp)(k:O NK)(a:aN):Prop:=∃vs,Tq K F a vs/\NVs K F k vs
mutual
def Rep(K:Fg)(F:Hp):Dat->V->Prop
 |.non,v=>v=.non
 |.bl b,v=>v=.bl b
 |.int i,v=>v=.int i
 |.str x,v=>v=.str x
 |.tup d,v=>∃a vs,v=.ref a/\Tq K F a vs/\de K F d vs
 |.lst d,v=>∃a vs,v=.ref a/\nW K F a vs/\de K F d vs
 |.dct h d,v=>∃a e,v=.ref a/\F a=Y (.dK e)/\e.map (·.1)=h/\de K F d (e.map (·.2))
 |.any,_=>True
 |.exc c f k,v=>∃a g,v=.ref a/\F a=Y (.ext (XO a c g))/\F g=Y (.xd [(f,kV k)])
def de(K:Fg)(F:Hp):O Dat->O V->Prop
 |[],vs=>vs=[]
 |d::a,vs=>∃v r,vs=v::r/\Rep K F d v/\de K F a r
end
mutual
theorem Rep.mono{K:Fg}(s:cy F f):∀(d:Dat){v:V},Rep K F d v->Rep K f d v
 |.non,_,h=>h
 |.bl _,_,h=>h
 |.int _,_,h=>h
 |.str _,_,h=>h
 |.tup b,_,c=>by obtain⟨a,vs,e,t,r⟩:=c;exact⟨a,vs,e,t.mono s,de.mono s b r⟩
 |.lst b,_,g=>by obtain⟨a,vs,e,t,r⟩:=g;exact⟨a,vs,e,s.seq t,de.mono s b r⟩
 |.dct _ b,_,l=>by obtain⟨a,i,e,t,k,r⟩:=l;exact⟨a,i,e,s _ _ t,k,de.mono s b r⟩
 |.any,_,_=>trivial
 |.exc _ _ _,_,y=>by obtain⟨a,j,e,t,r⟩:=y;exact⟨a,j,e,s _ _ t,s _ _ r⟩
theorem de.mono{K:Fg}(s:cy F f):∀(ds:O Dat){vs:O V},de K F ds vs->de K f ds vs
 |[],_,h=>h
 |d::ds,_,c=>by obtain⟨v,r,e,h1,h2⟩:=c;exact⟨v,r,e,Rep.mono s d h1,de.mono s ds h2⟩
end
theorem de.length{K:Fg}:∀{ds:O Dat}{vs:O V},de K F ds vs->Z vs=Z ds
 |[],_,h=>by rw[h];rfl
 |d::ds,_,a=>by obtain⟨v,r,e,_,h2⟩:=a;rw[e,cg,cg,de.length h2]
theorem de.get{K:Fg}:∀{ds:O Dat}{vs:O V}{i:T}{d:Dat},de K F ds vs->ds[i]?=Y d->∃v,vs[i]?=Y v/\Rep K F d v
 |[],_,_,_,_,e=>by simp at e
 |d::ds,_,0,_,a,z=>by obtain⟨v,r,rfl,h1,_⟩:=a;simp at z;subst z;exact⟨v,W,h1⟩
 |d::ds,_,i+1,_,a,z=>by
   obtain⟨v,r,rfl,_,h2⟩:=a;obtain⟨w,b,c⟩:=de.get h2 (by simpa using z);exact⟨w,by simpa using b,c⟩
theorem de.append{K:Fg}:∀{ds es:O Dat}{vs us:O V},de K F ds vs->de K F es us->de K F (ds++es) (vs++us)
 |[],_,_,_,h,a=>by rw[h];exact a
 |d::ds,_,_,_,b,a=>by obtain⟨v,r,e,h1,h2⟩:=b;subst e;exact⟨v,r++_,W,h1,de.append h2 a⟩
def de.one{K:Fg}(h:Rep K F d v):de K F [d] [v]:=⟨v,[],W,h,W⟩
theorem de.take{K:Fg}:∀(n:T){ds:O Dat}{vs:O V},de K F ds vs->de K F (ds.take n) (vs.take n)
 |0,_,_,_=>by simp[de]
 |n+1,[],_,h=>by rw[h];exact rfl
 |n+1,d::ds,_,a=>by obtain⟨v,r,rfl,h1,h2⟩:=a;exact⟨v,_,W,h1,de.take n h2⟩
theorem de.drop{K:Fg}:∀(n:T){ds:O Dat}{vs:O V},de K F ds vs->de K F (ds.drop n) (vs.drop n)
 |0,_,_,h=>h
 |n+1,[],_,h=>by rw[h];exact rfl
 |n+1,d::ds,_,a=>by obtain⟨v,r,rfl,h1,h2⟩:=a;exact de.drop n h2
theorem de.reverse{K:Fg}:∀{ds:O Dat}{vs:O V},de K F ds vs->de K F ds.reverse vs.reverse
 |[],_,h=>by rw[h];exact rfl
 |d::ds,_,a=>by obtain⟨v,r,rfl,h1,h2⟩:=a;rw[nY,nY];exact(de.reverse h2).append (.one h1)
mutual
noncomputable def im:Dat->cc
 |.lst _=>J
 |.dct _ _=>J
 |.any=>J
 |.exc _ _ _=>J
 |.tup a=>mR a
 |_=>U
noncomputable def mR:O Dat->cc
 |[]=>U
 |d::a=>im d && mR a
end
structure Good(F H:Hp):Prop where
 sub:cy F H
 tup:∀a vs,H a=Y (.tup vs)->F a=Y (.tup vs)
structure Step(F H F' H':Hp):Prop where
 good:Good F' H'
 ff:cy F F'
 hh:cy H H'
 un:∀a o,H a=Y o->F a=L->F' a=L
def Step.refl(g:Good F H):Step F H F H:=⟨g,cy.refl _,cy.refl _,λ_ _ _ n=>n⟩
def Step.trans{F1:Hp}(a:Step F H F1 f)(b:Step F1 f B C):Step F H B C:=
 ⟨b.good,a.ff.trans b.ff,a.hh.trans b.hh,λx o h n=>b.un x o (a.hh x o h) (a.un x o h n)⟩
def cy.upd(hp:H p=L):cy H (upd H p o):=λb u e=>by rwa[cz (gP e hp)]
def Step.alloc(g:Good F H)(hp:H p=L):Step F H (upd F p o) (upd H p o):=by
 have c:F p=L:=by
  cases q:F p with
  |none=>rfl
  |some u=>rw[g.sub p u q]at hp;cases hp
 refine⟨⟨λb u e=>?_,λa vs e=>?_⟩,cy.upd c,cy.upd hp,λa u h n=>?_⟩
 .by_cases hb:b=p
  .subst hb;rwa[bK]at e ⊢
  .rw[cz hb]at e ⊢;exact g.sub b u e
 .by_cases hb:a=p
  .subst hb;rwa[bK]at e ⊢
  .rw[cz hb]at e ⊢;exact g.tup a vs e
 .rwa[cz (gP h hp)]
noncomputable def shr(F H F1:Hp):Hp:=λa=>match F a,H a with
 |none,Y _=>L
 |_,_=>F1 a
def T7{F1:Hp}(h:shr F H F1 a=Y o):F1 a=Y o:=by
 unfold shr at h
 cases q:F a with
 |none=>
   cases b:H a with
   |none=>simp_all
   |some u=>simp_all
 |some u=>rwa[q]at h
def Dx{F1:Hp}(h:F a≠L\/H a=L):shr F H F1 a=F1 a:=by
 unfold shr
 cases q:F a with
 |none=>
   simp_all
 |some u=>rfl
def Step.shrink{F1:Hp}(g:Good F H)(s:cy F f)(st:Step f H F1 B):Step F H (shr F H F1) B:=by
 refine⟨⟨λa o e=>st.good.sub a o (T7 e),λa vs e=>?_⟩,λa o e=>?_,st.hh,λa o h n=>?_⟩
 .rw[Dx ?_]
  .exact (st.good.tup a vs e)
  .cases q:H a with
   |none=>exact .inr rfl
   |some u=>
     have:=st.hh a u q;rw[e]at this;cases this;exact .inl (by rw[g.tup a vs q];simp)
 .rw[Dx (.inl (by rw[e];simp))];exact st.ff a o (s a o e)
 .unfold shr;rw[n,h]
def Tq.shrink{K:Fg}{F1:Hp}(g:Good F H)(st:Step f H F1 B)(h:Tq K F1 a vs):Tq K (shr F H F1) a vs:=by
 rcases h with h|h
 .refine .inl ?_;rw[Dx ?_]
  .exact h
  .cases q:H a with
   |none=>exact .inr rfl
   |some u=>
     have:=st.hh a u q;rw[st.good.sub a _ h]at this;cases this;exact .inl (by rw[g.tup a vs q];simp)
 .exact .inr h
mutual
theorem Rep.shrink{K:Fg}{F1:Hp}(g:Good F H)(st:Step f H F1 B):∀(d:Dat){v:V},im d=U->Rep K F1 d v->Rep K (shr F H F1) d v
 |.non,_,_,h=>h
 |.bl _,_,_,h=>h
 |.int _,_,_,h=>h
 |.str _,_,_,h=>h
 |.tup b,_,m,c=>by obtain⟨a,vs,e,t,r⟩:=c;exact⟨a,vs,e,t.shrink g st,de.shrink g st b m r⟩
 |.lst b,_,m,_=>nomatch m
 |.dct _ _,_,m,_=>nomatch m
 |.any,_,m,_=>nomatch m
 |.exc _ _ _,_,m,_=>nomatch m
theorem de.shrink{K:Fg}{F1:Hp}(g:Good F H)(st:Step f H F1 B):∀(ds:O Dat){vs:O V},mR ds=U->de K F1 ds vs->de K (shr F H F1) ds vs
 |[],_,_,h=>h
 |d::ds,_,m,b=>by
   obtain⟨v,r,e,h1,h2⟩:=b;have a:im d=U/\mR ds=U:=by simpa [mR]using m
   exact⟨v,r,e,Rep.shrink g st d a.1 h1,de.shrink g st ds a.2 h2⟩
end
mutual
def kW(K:Fg)(H:Hp):Dat->V->O aN->Prop
 |.non,v,S=>v=.non/\S=[]
 |.bl b,v,S=>v=.bl b/\S=[]
 |.int i,v,S=>v=.int i/\S=[]
 |.str x,v,S=>v=.str x/\S=[]
 |.tup d,v,S=>∃a vs,v=.ref a/\Tq K H a vs/\cZ K H d vs S
 |.lst d,v,S=>∃a vs e,v=.ref a/\H a=Y (.lst vs)/\cZ K H d vs e/\S=a::e
 |.dct j d,v,S=>∃a g e,v=.ref a/\H a=Y (.dK g)/\g.map (·.1)=j/\cZ K H d (g.map (·.2)) e/\S=a::e
 |.any,_,S=>S=[]
 |.exc c f k,v,S=>∃a h,v=.ref a/\H a=Y (.ext (XO a c h))/\H h=Y (.xd [(f,kV k)])/\S=[a,h]
def cZ(K:Fg)(H:Hp):O Dat->O V->O aN->Prop
 |[],vs,S=>vs=[]/\S=[]
 |d::c,vs,S=>∃v r a b,vs=v::r/\kW K H d v a/\cZ K H c r b/\S=a++b
end
mutual
theorem kW.mono{K:Fg}(s:cy H B):∀(d:Dat){v:V}{S:O aN},kW K H d v S->kW K B d v S
 |.non,_,_,h=>h
 |.bl _,_,_,h=>h
 |.int _,_,_,h=>h
 |.str _,_,_,h=>h
 |.tup b,_,_,c=>by obtain⟨a,vs,e,t,r⟩:=c;exact⟨a,vs,e,t.mono s,cZ.mono s b r⟩
 |.lst b,_,_,g=>by obtain⟨a,vs,f,e,t,r,q⟩:=g;exact⟨a,vs,f,e,s _ _ t,cZ.mono s b r,q⟩
 |.dct _ b,_,_,l=>by obtain⟨a,i,f,e,t,k,r,q⟩:=l;exact⟨a,i,f,e,s _ _ t,k,cZ.mono s b r,q⟩
 |.any,_,_,h=>h
 |.exc _ _ _,_,_,y=>by obtain⟨a,j,e,t,r,q⟩:=y;exact⟨a,j,e,s _ _ t,s _ _ r,q⟩
theorem cZ.mono{K:Fg}(s:cy H f):∀(ds:O Dat){vs:O V}{S:O aN},cZ K H ds vs S->cZ K f ds vs S
 |[],_,_,h=>h
 |d::ds,_,_,c=>by obtain⟨v,r,a,b,e,h1,h2,q⟩:=c;exact⟨v,r,a,b,e,kW.mono s d h1,cZ.mono s ds h2,q⟩
end
def IU:HO->Prop
 |.lst _=>True
 |.dK _=>True
 |.ext _=>True
 |.xd _=>True
 |_=>False
mutual
theorem kW.uQ{K:Fg}:∀(d:Dat){v:V}{S:O aN},kW K H d v S->∀a∈S,∃o,H a=Y o/\IU o
 |.non,_,_,h=>by rw[h.2];intro a m;cases m
 |.bl _,_,_,h=>by rw[h.2];intro a m;cases m
 |.int _,_,_,h=>by rw[h.2];intro a m;cases m
 |.str _,_,_,h=>by rw[h.2];intro a m;cases m
 |.tup f,_,_,g=>by obtain⟨a,vs,e,t,r⟩:=g;exact cZ.uQ f r
 |.lst f,_,_,c=>by
   obtain⟨a,vs,i,e,t,r,rfl⟩:=c;intro b m
   rcases aA.mp m with rfl|m
   .exact⟨_,t,trivial⟩
   .exact cZ.uQ f r b m
 |.dct _ f,_,_,c=>by
   obtain⟨a,j,i,e,t,k,r,rfl⟩:=c;intro b m
   rcases aA.mp m with rfl|m
   .exact⟨_,t,trivial⟩
   .exact cZ.uQ f r b m
 |.any,_,S,h=>by rw[h];intro a m;cases m
 |.exc ..,_,_,c=>by
   obtain⟨a,l,e,t,r,rfl⟩:=c;intro b m
   rcases aA.mp m with rfl|m
   .exact⟨_,t,trivial⟩
   .rw[au.mp m];exact⟨_,r,trivial⟩
theorem cZ.uQ{K:Fg}:∀(ds:O Dat){vs:O V}{S:O aN},cZ K H ds vs S->∀a∈S,∃o,H a=Y o/\IU o
 |[],_,_,h=>by rw[h.2];intro a m;cases m
 |d::ds,_,_,c=>by
   obtain⟨v,r,f,g,e,h1,h2,q⟩:=c;subst q;intro b m
   rcases ax.mp m with m|m
   .exact kW.uQ d h1 b m
   .exact cZ.uQ ds h2 b m
end
noncomputable def fz(F H:Hp)(S:O aN):Hp:=λa=>if a∈S then H a else F a
def yz(h:a∈S):fz F H S a=H a:=a5 h
def oU(h:a∉S):fz F H S a=F a:=cb h
def Wn(g:cy F H):cy (fz F H S) H:=λa o e=>by
 by_cases m:a∈S
 .rwa[yz m]at e
 .rw[oU m]at e;exact g a o e
def qY(g:cy F H):cy F (fz F H S):=λa o e=>by
 by_cases m:a∈S
 .rw[yz m];exact g a o e
 .rwa[oU m]
def vh(g:Good F H):Good (fz F H S) H:=⟨Wn g.sub,λa vs e=>qY g.sub a _ (g.tup a vs e)⟩
mutual
theorem kW.nu{K:Fg}(g:Good F H):∀(d:Dat){v:V}{S T':O aN},kW K H d v S->(∀a∈S,a∈T')->Rep K (fz F H T') d v
 |.non,_,_,_,h,_=>h.1
 |.bl _,_,_,_,h,_=>h.1
 |.int _,_,_,_,h,_=>h.1
 |.str _,_,_,_,h,_=>h.1
 |.tup f,_,_,_,c,m=>by
   obtain⟨a,vs,e,t,r⟩:=c;refine⟨a,vs,e,?_,cZ.nu g f r m⟩
   rcases t with t|t
   .exact .inl (qY g.sub _ _ (g.tup _ _ t))
   .exact .inr t
 |.lst f,_,_,_,c,m=>by
   obtain⟨a,vs,j,e,t,r,rfl⟩:=c;refine⟨a,vs,e,.inl (.inl ?_),cZ.nu g f r λb hb=>m b (jY _ hb)⟩;rwa[yz (m a jM)]
 |.dct _ f,_,_,_,c,m=>by
   obtain⟨a,l,j,e,t,k,r,rfl⟩:=c;refine⟨a,l,e,?_,k,cZ.nu g f r λb hb=>m b (jY _ hb)⟩;rwa[yz (m a jM)]
 |.any,_,_,_,_,_=>trivial
 |.exc ..,_,_,_,c,m=>by
   obtain⟨a,i,e,t,r,rfl⟩:=c;refine⟨a,i,e,?_,?_⟩
   .rwa[yz (m a jM)]
   .rwa[yz (m i (jY _ jM))]
theorem cZ.nu{K:Fg}(g:Good F H):∀(ds:O Dat){vs:O V}{S T':O aN},cZ K H ds vs S->(∀a∈S,a∈T')->de K (fz F H T') ds vs
 |[],_,_,_,h,_=>h.1
 |d::ds,_,_,_,b,m=>by
   obtain⟨v,r,c,f,e,h1,h2,q⟩:=b;subst q;exact⟨v,r,e,kW.nu g d h1 λa ha=>m a (aF _ ha),cZ.nu g ds h2 λa ha=>m a (aw _ ha)⟩
end
mutual
theorem kW.lP{K:Fg}(g:cy F H):∀(d:Dat){v:V},im d=U->Rep K F d v->kW K H d v []
 |.non,_,_,h=>⟨h,W⟩
 |.bl _,_,_,h=>⟨h,W⟩
 |.int _,_,_,h=>⟨h,W⟩
 |.str _,_,_,h=>⟨h,W⟩
 |.tup b,_,m,⟨a,vs,e,t,r⟩=>⟨a,vs,e,t.mono g,cZ.lP g b m r⟩
 |.lst b,_,m,_=>nomatch m
 |.dct _ _,_,m,_=>nomatch m
 |.any,_,m,_=>nomatch m
 |.exc _ _ _,_,m,_=>nomatch m
theorem cZ.lP{K:Fg}(g:cy F H):∀(ds:O Dat){vs:O V},mR ds=U->de K F ds vs->cZ K H ds vs []
 |[],_,_,h=>⟨h,W⟩
 |d::ds,_,m,b=>by
   obtain⟨v,r,e,h1,h2⟩:=b;have a:im d=U/\mR ds=U:=by simpa [mR]using m
   exact⟨v,r,[],[],e,kW.lP g d a.1 h1,cZ.lP g ds a.2 h2,W⟩
end
mutual
theorem kW.upd{K:Fg}(hp:∀vs,H p≠Y (.tup vs)):∀(d:Dat){v:V}{S:O aN},kW K H d v S->p∉S->kW K (upd H p o) d v S
 |.non,_,_,h,_=>h
 |.bl _,_,_,h,_=>h
 |.int _,_,_,h,_=>h
 |.str _,_,_,h,_=>h
 |.tup f,_,_,b,n=>by
   obtain⟨a,vs,e,t,r⟩:=b;refine⟨a,vs,e,?_,cZ.upd hp f r n⟩
   rcases t with t|t
   .refine .inl ?_;rwa[cz (λz=>hp vs (by rwa[<-z]))]
   .exact .inr t
 |.lst f,_,_,b,n=>by
   obtain⟨a,vs,g,e,t,r,rfl⟩:=b;have c:a≠p:=λz=>n (z▸jM);exact⟨a,vs,g,e,(cz c).trans t,cZ.upd hp f r (λm=>n (jY _ m)),W⟩
 |.dct _ f,_,_,b,n=>by
   obtain⟨a,i,g,e,t,k,r,rfl⟩:=b;have c:a≠p:=λz=>n (z▸jM);exact⟨a,i,g,e,(cz c).trans t,k,cZ.upd hp f r (λm=>n (jY _ m)),W⟩
 |.any,_,_,h,_=>h
 |.exc ..,_,_,b,n=>by
   obtain⟨a,j,e,t,r,rfl⟩:=b;exact⟨a,j,e,(cz (λz=>n (by rw[<-z];exact jM))).trans t,(cz (λz=>n (by rw[<-z];simp))).trans r,W⟩
theorem cZ.upd{K:Fg}(hp:∀vs,H p≠Y (.tup vs)):∀(ds:O Dat){vs:O V}{S:O aN},cZ K H ds vs S->p∉S->cZ K (upd H p o) ds vs S
 |[],_,_,h,_=>h
 |d::ds,_,_,a,n=>by
   obtain⟨v,r,b,c,e,h1,h2,q⟩:=a;subst q;exact⟨v,r,b,c,e,kW.upd hp d h1 (λm=>n (aF _ m)),cZ.upd hp ds h2 (λm=>n (aw _ m)),W⟩
end
theorem cZ.length{K:Fg}:∀{ds:O Dat}{vs:O V}{S:O aN},cZ K H ds vs S->Z vs=Z ds
 |[],_,_,h=>by rw[h.1];rfl
 |d::ds,_,_,a=>by obtain⟨v,r,b,c,e,_,h2,_⟩:=a;rw[e,cg,cg,cZ.length h2]
theorem cZ.append{K:Fg}:∀{ds es:O Dat}{vs us:O V}{S T':O aN},cZ K H ds vs S->cZ K H es us T'->cZ K H (ds++es) (vs++us) (S++T')
 |[],_,_,_,_,_,h,c=>by rw[h.1,h.2];exact c
 |d::ds,_,_,_,_,_,f,c=>by obtain⟨v,r,a,b,e,h1,h2,q⟩:=f;subst e q;exact⟨v,r++_,a,b++_,W,h1,cZ.append h2 c,by rw[aM]⟩
def cZ.one{K:Fg}(h:kW K H d v S):cZ K H [d] [v] S:=⟨v,[],S,[],W,h,⟨W,W⟩,by simp⟩
abbrev St:=L2.St
abbrev gC:=O (ar Dat)
def oj(K:Fg)(F:Hp)(σ:St)(ρ:gC):Prop:=∀(i:T)d,ρ[i]?=Y (Y d)->∃v,σ[i]?=Y (Y v)/\Rep K F d v
def oj.mono{K:Fg}(s:cy F f)(h:oj K F σ ρ):oj K f σ ρ:=λi d e=>let ⟨v,a,b⟩:=h i d e;⟨v,a,b.mono s⟩
def hV(K:Fg)(H f:Hp)(d:Dat)(v:V):Prop:=∃S:O aN,S.Nodup/\(∀a∈S,H a=L)/\kW K f d v S
def fU(K:Fg)(H f:Hp)(ds:O Dat)(vs:O V):Prop:=∃S:O aN,S.Nodup/\(∀a∈S,H a=L)/\cZ K f ds vs S
def hV.back{K:Fg}{F:Hp}(s:cy f H)(h:hV K H B d v):hV K f B d v:=by
 obtain⟨S,n,e,r⟩:=h;exact⟨S,n,λa m=>s.free (e a m),r⟩
def fU.back{K:Fg}{F:Hp}(s:cy f H)(h:fU K H B ds vs):fU K f B ds vs:=by
 obtain⟨S,n,e,r⟩:=h;exact⟨S,n,λa m=>s.free (e a m),r⟩
def hV.lP{K:Fg}(g:Good F f)(m:im d=U)(r:Rep K F d v):hV K H f d v:=⟨[],fL,(λa z=>by cases z),kW.lP g.sub d m r⟩
def fU.lP{K:Fg}(g:Good F f)(m:mR ds=U)(r:de K F ds vs):fU K H f ds vs:=⟨[],fL,(λa z=>by cases z),cZ.lP g.sub ds m r⟩
def fU.cons{K:Fg}{H B C:Hp}{d:Dat}{ds:O Dat}{v:V}{vs:O V}(s:cy H B)(F:cy B C)(h:hV K H B d v)(hs:fU K B C ds vs):fU K H C (d::ds) (v::vs):=by
 obtain⟨S,n,e,r⟩:=h;obtain⟨T',c,f,g⟩:=hs;refine⟨_,cO.mpr ⟨n,c,λa ha b hb z=>?_⟩,λa m=>?_,v,vs,S,T',W,r.mono F,g,W⟩
 .subst z;obtain⟨o,ho,_⟩:=r.uQ _ a ha
  grind
 .rcases ax.mp m with m|m
  .exact e a m
  .exact s.free (f a m)
def fU.snoc{K:Fg}(s:cy H B)(F:cy B C)(hs:fU K H B ds vs)(h:hV K B C d v):fU K H C (ds++[d]) (vs++[v]):=by
 refine ac λ_ i=>?_;obtain⟨S,n,e,r⟩:=hs;obtain⟨T',c,f,g⟩:=h;apply i;refine⟨_,cO.mpr ⟨n,c,λa ha b hb z=>?_⟩,λa m=>?_,(r.mono F).append (.one g)⟩
 .subst z;obtain⟨o,ho,_⟩:=r.uQ _ a ha
  grind
 .rcases ax.mp m with m|m
  .exact e a m
  .exact s.free (f a m)
def fU.mono{K:Fg}(s:cy f B)(h:fU K H f ds vs):fU K H B ds vs:=by
 obtain⟨S,n,e,r⟩:=h;exact⟨S,n,e,r.mono s⟩
def fU.nil{K:Fg}:fU K H f [] []:=⟨[],fL,(λa z=>by cases z),W,W⟩
def hV.lst{K:Fg}(s:cy H f)(hp:f p=L)(h:fU K H f ds vs):hV K H (L2.upd f p (.lst vs)) (.lst ds) (.ref p):=by
 obtain⟨S,n,e,r⟩:=h;refine⟨_,a6.mpr ⟨λm=>?_,n⟩,λa m=>?_,p,vs,S,W,bK,r.mono (cy.upd hp),W⟩
 .obtain⟨o,ho,_⟩:=r.uQ _ p m;rw[hp]at ho;cases ho
 .rcases aA.mp m with rfl|m
  .exact s.free hp
  .exact e a m
def hV.tup{K:Fg}(hp:f p=L)(h:fU K H f ds vs):hV K H (L2.upd f p (.tup vs)) (.tup ds) (.ref p):=by
 obtain⟨S,n,e,r⟩:=h;exact⟨S,n,e,p,vs,W,.inl bK,r.mono (cy.upd hp)⟩
def tE(K:Fg)(ρ:gC)(d:Dat)(fr:cc):TE:=λσ H Q=>∃F,Good F H/\oj K F σ ρ/\∀v b a,Step F H b a->Rep K b d v->(fr=U->hV K H a d v)->Q v a
def tEs(K:Fg)(ρ:gC)(ds:O Dat):TA:=λσ H Q=>∃F,Good F H/\oj K F σ ρ/\∀vs a b,Step F H a b->de K a ds vs->Q vs b
def tT(K:Fg)(ρ:gC)(b:cc):TT:=λσ H Q=>∃F,Good F H/\oj K F σ ρ/\∀c a,Step F H c a->Q b a
def tFs(K:Fg)(ρ:gC)(ds:O Dat)(al:cc):TA:=λσ H Q=>∃F,Good F H/\oj K F σ ρ/\∀vs b a,Step F H b a->de K b ds vs->(al=U->fU K H a ds vs)->Q vs a
def rD(K:Fg)(f B:Dat)(d:Dat)(fr:cc):R2:=λx y H Q=>∃F,Good F H/\Rep K F f x/\Rep K F B y/\∀v b a,Step F H b a->Rep K b d v->(fr=U->hV K H a d v)->Q v a
def rDs(K:Fg)(ds:O Dat)(d:Dat)(fr:cc):O V->Hp->VK->Prop:=λc H Q=>∃F,Good F H/\de K F ds c/\∀v b a,Step F H b a->Rep K b d v->(fr=U->hV K H a d v)->Q v a
section
def PE.imp(h:PE X e t)(f:∀σ H Q,t' σ H Q->t σ H Q):PE X e t':=λh_ s σ H Q I q=>h h_ s σ H Q I (f _ _ _ q)
def PT.imp(h:PT X e t)(f:∀σ H Q,t' σ H Q->t σ H Q):PT X e t':=λh_ s σ H Q I q=>h h_ s σ H Q I (f _ _ _ q)
def PA.imp(h:PA X e t)(f:∀σ H Q,t' σ H Q->t σ H Q):PA X e t':=λp h_ s σ H Q I q=>h p h_ s σ H Q I (f _ _ _ q)
def PS.imp(h:PS X e t)(f:∀D σ H,t' D σ H->t D σ H):PS X e t':=λh_ s σ H D I q=>h h_ s σ H D I (f _ _ _ q)
def sY.imp(h:sY X e t)(f:∀D σ H,t' D σ H->t D σ H):sY X e t':=λh_ s σ H D I q=>h h_ s σ H D I (f _ _ _ q)
def lu.imp(h:lu X f r)(g:∀x y H Q,B x y H Q->r x y H Q):lu X f B:=λh_ s σ H x y v u Q I a b q=>h h_ s σ H x y v u Q I a b (g _ _ _ _ q)
end
end M
namespace L2
def EV(xs:c7 T):Prop:=xs.toList.Pairwise (·< ·)
def EV.get(h:EV xs)(f:j<xs.size)(B:i<j):xs[i]'(cR B f)<xs[j]:=by
 have:=(fi.mp h) i j (by simpa using(cR B f)) (by simpa using f) B;simpa using this
theorem EJ(hs:EV xs):∀(fuel lo hi:T),lo<=hi->hi<=xs.size->hi - lo<=fuel->(∀i (h:i<xs.size),i<lo->xs[i]<j)->(∀i (h:i<xs.size),hi<=i->j<=xs[i])->
  lG xs j fuel lo hi<=xs.size/\(∀i(h:i<xs.size),i<lG xs j fuel lo hi->xs[i]<j)/\∀i(h:i<xs.size),lG xs j fuel lo hi<=i->j<=xs[i]
 |0,lo,hi,h1,h2,h3,c,g=>by
   have e:lo=hi:=aH (iY h1) (lQ (wt h1) h3);subst e;exact⟨h2,c,g⟩
 |fuel+1,lo,hi,h1,h2,h3,c,g=>by
   simp only[lG];by_cases hl:lo<hi
   .rw[a5 hl];have d:(lo+hi) / 2<xs.size:=lQ (a2 lo hi (iY hl)).2 h2
    have f:xs.getD ((lo+hi) / 2) j=xs[(lo+hi) / 2]:=by simp_all
    rw[f];by_cases b:xs[(lo+hi) / 2]<j
    .rw[a5 b];refine EJ hs _ _ hi (iY (a2 lo hi (iY hl)).2) h2 (WP (wc (wt (aE hl)) h3 (a2 lo hi (iY hl)).1)) (λi h q=>?_) g;by_cases a:i=(lo+hi) / 2
     .subst a;exact b
     .exact cR (hs.get d (bw (iY q) a)) b
    .rw[cb b];refine EJ hs _ lo _ (iY (a2 lo hi (iY hl)).1) (aE d) (WP (wc (a2 lo hi (iY hl)).2 (wt (aE hl)) h3)) c (λi h q=>?_);by_cases a:(lo+hi) / 2=i
     .subst a;simp_all
     .exact aE (af (cC b) (hs.get h ((bw q a))))
   .rw[cb hl];have e :=aH h1 (cj hl);subst e;exact⟨h2,c,g⟩
def M5(hs:EV xs)(j:T):aO xs j<=xs.size/\(∀i(h:i<xs.size),i<aO xs j->xs[i]<j)/\∀i(h:i<xs.size),aO xs j<=i->j<=xs[i]:=
 EJ hs _ 0 _ (aU _) (aq _) (by simp) (λi _ q=>absurd q (j1 _)) (λi h q=>((a7 h q)).elim)
def M3(hs:EV xs):aO xs 0=0:=by
 cases q:aO xs 0 with
 |zero=>rfl
 |succ n=>exact absurd ((M5 hs 0).2.1 0 (af (az (aU _) (ag q.symm)) (M5 hs 0).1) (az (aU _) (ag q.symm))) (j1 _)
def M4(hs:EV xs)(hi:i<xs.size):aO xs (xs[i]+1)=i+1:=by
 obtain⟨h1,h2,h3⟩:=M5 hs (xs[i]+1)
 rcases ou (aO xs _) (i+1)with h|h|h
 .exact(abn (h3 i hi (a8 h))).elim
 .exact h
 .exact(VE (hs.get  (af h h1) (aq _)) (h2 _ (af h h1) h)).elim
def O7(hs:EV xs)(B:xs[aO xs j]?≠Y j):EV (dm xs (aO xs j) j):=by
 obtain⟨h1,h2,h3⟩:=M5 hs j;unfold EV;rw[fo];refine eM.mpr ⟨hs.sublist (jd _ _),fB.mpr ⟨λy h=>?_,hs.sublist (fP _ _)⟩,λx p y h=>?_⟩
 .obtain⟨k,hk,rfl⟩:=dQ.mp h;have d:aO xs j+k<xs.size:=by grind
  have i:xs[aO xs j+k]≠j:=by
   intro e
   clear hk h; cases k with
   |zero=>exact B (by rw[br _];simpa using e)
   |succ k=>
     exact a7 (hs.get d ((bc (aZ _ _)))) (af (ag e) (h3 _ (az (aZ _ _) d) (aq _)))
  simpa using (bw (iY (h3 _ d (aZ _ _))) (cB i))
 .obtain⟨k,hk,rfl⟩:=dQ.mp p;rw[List.getElem_take];have f:k<aO xs j:=by simp at hk;simp_all
  have n:xs.toList[k]'(by exact af f h1)<j:=by simpa using (h2 k (af f h1) f)
  rcases aA.mp h with rfl|h
  .exact n
  .obtain⟨m,o,rfl⟩:=dQ.mp h;exact af n (by simpa using (h3 (aO xs j+m) (by simp at o;exact lQ (ws h1) o) (aZ _ _)))
structure CA(led:cc)(t:bB):Prop where
 d:t.dummies=#[]
 r:EV t.place
 l:t.led=led
def CA.fresh(led:cc):CA led (.fresh 0 0 led):=⟨W,by exact xS,W⟩
def CA.off(h:CA led t):CA led { t with plain:=J }:=⟨h.d,h.r,h.l⟩
def Gv(j:T):xK #[] j=J:=by simp[xK]
def Ds{t:bB}(hd:t.dummies=#[])(h:t.slot j=.empty):t.place[aO t.place j]?≠Y j:=by
 intro e;unfold mZ at h
 simp_all
def oJ{t:bB}(hd:t.dummies=#[])(h:t.slot j=.dummy):False:=by
 unfold mZ at h;rw[hd,Gv]at h
 grind
def yP{t:bB}{p:bR}(h:p.dummy=L):(t.advance p).dummy=L:=by
 unfold eF;split
 .exact h
 .exact h
def CA.put(h:CA led t)(B:t.place[aO t.place j]?≠Y j):CA led (t.put j).1:=by
 refine⟨?_,O7 h.r B,h.l⟩;show(if xK _ j then _ else t.dummies)=_;rw[h.d];rfl
def CA.laid(h:m6 mask f m led pl hs=Y (t,o)):CA led t:=by
 unfold m6 at h;simp only[Option.bind_eq_bind,iD]at h;obtain⟨ow,h1,h⟩:=h
 injection h with h
 injection h with h2 h3
 subst h2;refine⟨W,?_,W⟩;show(Ry _ _).toArray.toList.Pairwise _;rw[gV,AI];refine pQ ?_ CJ
 simp_all
noncomputable def uM(mask:T):T->T->T->T×T
 |0,i,p=>(i,p)
 |n+1,i,p=>uM mask n (iP mask i p).1 (iP mask i p).2
theorem vd(mask:T):∀(a b i p:T),uM mask (a+b) i p=uM mask b (uM mask a i p).1 (uM mask a i p).2
 |0,b,i,p=>by rw[fZ];rfl
 |a+1,b,i,p=>by rw[(j6 _ _ _)];exact vd mask a b _ _
theorem wg(mask:T):∀(n i p:T),(uM mask n i p).2=p / 32 ^ n
 |0,i,p=>by simp[uM]
 |n+1,i,p=>by
   rw[uM,wg _ n,iP,Nat.div_div_eq_div_mul,Nat.pow_succ,Nat.mul_comm]
theorem Lx(mask:T):∀(n i p:T),i<mask+1->(uM mask n i p).1<mask+1
 |0,i,p,h=>h
 |n+1,i,p,h=>Lx _ n _ _ (j5 _ (by simp))
noncomputable def orb(mask:T):T->T->O T
 |0,i=>[i]
 |n+1,i=>i::orb mask n ((i * 5+1) % (mask+1))
theorem FO(mask:T):∀(n i j:T),j∈orb mask n i->∃m,m<=n/\(uM mask m i 0).1=j
 |0,i,j,h=>by
   simp[orb]at h;exact⟨0,by simp,h.symm⟩
 |n+1,i,j,h=>by
   rcases aA.mp h with h|h
   .exact⟨0,aU _,h.symm⟩
   .obtain⟨m,a,e⟩:=FO _ n _ j h;refine⟨_,bc a,?_⟩;rw[uM];simpa [iP]using e
def MF(mask:T):cc:=(aX (mask+1)).all λj=>(orb mask mask 0).any λx=>Nat.beq x j
def abM:MF 7=U:=by decide +kernel
def ZP:MF 31=U:=by decide +kernel
def WR:MF 127=U:=by decide +kernel
def WQ:MF 511=U:=by decide +kernel
def aba:(uM 7 8 0 0).1=0:=by decide +kernel
def YW:(uM 31 32 0 0).1=0:=by decide +kernel
def UN:(uM 127 128 0 0).1=0:=by decide +kernel
def UM:(uM 511 512 0 0).1=0:=by decide +kernel
def ME(h:mask=7\/mask=31\/mask=127\/mask=511):MF mask=U/\(uM mask (mask+1) 0 0).1=0:=by
 rcases h with rfl|rfl|rfl|rfl
 .exact⟨abM,aba⟩
 .exact⟨ZP,YW⟩
 .exact⟨WR,UN⟩
 .exact⟨WQ,UM⟩
def Hl(mask n i:T):(uM mask n i 0).2=0:=by rw[wg,Nat.zero_div]
def we(mask a b i:T):(uM mask (a+b) i 0).1=(uM mask b (uM mask a i 0).1 0).1:=by rw[vd,Hl]
def Sf(h:mask=7\/mask=31\/mask=127\/mask=511)(B:j<mask+1):∃n,n<=mask/\(uM mask n 0 0).1=j:=by
 obtain⟨x,a,e⟩:=lE.mp (bh.mp (ME h).1 j (bq.mpr B));have e:=Nat.eq_of_beq_eq_true e;subst e;exact FO _ _ 0 x a
def Ge(h:mask=7\/mask=31\/mask=127\/mask=511)(hi:i<mask+1)(hp:p<2 ^ 64)(B:j<mask+1):∃n,n<=mask+13/\(uM mask n i p).1=j:=by
 have c:(uM mask 13 i p).2=0:=by
  rw[wg];exact Nat.div_eq_of_lt (af hp cF)
 clear hp; obtain⟨a,ha,f⟩:=Sf h (Lx _ 13 i p hi);obtain⟨b,hb,g⟩:=Sf h B;by_cases e:a<=b
 .refine⟨13+(b - a),lQ (yY b a) hb,?_⟩;rwa[vd,c,<-f,<-we,(hZ e)]
 .have z:a<=mask+1:=du ha;refine⟨13+(mask+1 - a+b),lQ (ws z) (cC e),?_⟩;rwa[vd,c,<-f,<-we,show a+(mask+1 - a+b)=(mask+1)+b from aH (iY (ws z)) (iY (wt z)),we,((ME h).2)]
structure yR(t:bB)(p:bR):Prop where
 j:p.j=p.i
 m:p.more=ee t.mask p.i - p.i
 d:p.dummy=L
def vV(h:yR t p):p.more<=9:=by
 rw[h.m];unfold ee;split<;>simp
set_option tactic.hygienic true
theorem zM{t:bB}(hd:t.dummies=#[]):∀(k f:T) (p:bR),p.more=k->p.dummy=L->cG t ha hh (k+1+f) p=L->
  t.slot p.j≠.empty/\∃q:bR,cG t ha hh f q=L/\yR t q/\q.i=(iP t.mask p.i p.perturb).1/\q.perturb=(iP t.mask p.i p.perturb).2
 |0,f,p,hk,hp,h=>by
   rw[(Dc _ _),cG]at h
   cases hs:t.slot p.j with
   |empty=>rw[hs]at h;cases h
   |dummy=>exact(oJ hd hs).elim
   |live i=>
     rw[hs]at h;dsimp only at h;split at h
     .cases h
     rename_i a;refine⟨by simp,_,h,?_,?_,?_⟩
     .unfold eF;rw[cb (λz=>(a7 z (ag hk)))];exact⟨W,W,hp⟩
     .unfold eF;rw[cb (λz=>(a7 z (ag hk)))]
     .unfold eF;rw[cb (λz=>(a7 z (ag hk)))]
 |k+1,f,p,hk,hp,h=>by
   rw[(j6 _ _ _),cG]at h
   cases hs:t.slot p.j with
   |empty=>rw[hs]at h;cases h
   |dummy=>exact(oJ hd hs).elim
   |live i=>
     rw[hs]at h;dsimp only at h;split at h
     .cases h
     rename_i a;have e:t.advance p={ p with j:=p.j+1,more:=p.more - 1 }:=by unfold eF;simp_all
     rw[e]at h;obtain⟨_,q,h1,h2,h3,b⟩:=zM hd k f { p with j:=p.j+1,more:=p.more - 1 } (by grind) hp h;exact⟨by simp,q,h1,h2,h3,b⟩
theorem vg:∀(f g:T)(p:bR),cG t ha hh (f+g) p=L->cG t ha hh f p=L
 |0,g,p,h=>rfl
 |f+1,g,p,h=>by
   rw[show f+1+g=(f+g)+1 from(j6 _ _ _),cG]at h;rw[cG]
   cases hs:t.slot p.j with
   |empty=>rw[hs]at h;cases h
   |dummy=>rw[hs]at h;exact vg f g _ h
   |live i=>
     rw[hs]at h;simp only at h ⊢;split
     .grind
     .rename_i q;rw[cb q]at h;exact vg f g _ h
set_option tactic.hygienic false
theorem BS{t:bB}(hd:t.dummies=#[]):∀(m:T)(p:bR),yR t p->cG t ha hh (10 * (m+1)) p=L->∀n≤m,t.slot (uM t.mask n p.i p.perturb).1≠.empty
 |m,p,hp,h,0,_=>by
   have b:=vV hp;obtain⟨h1,_⟩:=zM hd p.more (10 * (m+1) - (p.more+1)) p W hp.d (by rw[show p.more+1+(10 * (m+1) - (p.more+1))=10 * (m+1)from(hZ (bc (Nat.le_add_left_of_le b)))];exact h);rw[hp.j]at h1;exact h1
 |0,p,hp,h,n+1,a=>(λz=>(a7 a (aU _)))
 |m+1,p,hp,h,n+1,a=>by
   have b:=vV hp;obtain⟨_,q,h1,h2,h3,c⟩:=zM hd p.more (10 * (m+1+1) - (p.more+1)) p W hp.d (by rw[show p.more+1+(10 * (m+1+1) - (p.more+1))=10 * (m+1+1)from(aH (iY (wS (10 * (m+1+1)) (p.more+1) (iY b))) (iY (wT (10 * (m+1+1)) (p.more+1))))];exact h);have e:=vg (10 * (m+1)) (9 - p.more) q (by rw[show 10 * (m+1)+(9 - p.more)=10 * (m+1+1) - (p.more+1)from(aH (lQ (wT (10 * (m+1+1)) (p.more+1)) (ws b)) (lQ (wS (10 * (m+1+1)) (p.more+1) (iY b)) (wt b)))];exact h1);have:=BS hd m q h2 e n (a8 a);rw[h3,c]at this;exact this
def xZ(t:bB)(h:cx):yR t (t.probeStart h):=⟨W,W,W⟩
structure wX(t:bB)(p:bR):Prop where
 m:p.more<=9
 i:p.i<t.mask+1
 q:p.perturb<2 ^ 64
 d:p.dummy=L
def xY(t:bB)(h:cx):wX t (t.probeStart h):=
 ⟨vV (xZ t h),j5 _ (by simp),by show eP h<_;unfold eP;exact (Int.toNat_lt (Int.emod_nonneg _ (by decide))).mpr (UV _ (by decide)),W⟩
def wX.adv(h:wX t p):wX t (t.advance p):=by
 unfold eF;split
 .exact⟨by exact af (yY _ _) h.m,h.i,h.q,h.d⟩
 .refine⟨?_,j5 _ (by simp),(az (Nat.div_le_self _ _) h.q),h.d⟩
  .show ee _ _ - _<=9;unfold ee;split<;>simp
def uw{t:bB}(B:t.mask=7\/t.mask=31\/t.mask=127\/t.mask=511)(hd:t.dummies=#[])(hp:wX t p)(f:j<t.mask+1)(he:t.slot j=.empty) :
  ∃m,t.probe ha hh p=Y m:=by
 cases q:t.probe ha hh p with
 |some m=>exact⟨m,W⟩
 |none=>
   exfalso;have a:=hp.m;have c:=hp.q;obtain⟨_,r,h1,h2,h3,b⟩:=zM hd _ _ p W hp.d (by rwa[show p.more+1+(10 * (t.mask+15) - (p.more+1))=10 * (t.mask+15)from(aH (iY (wS (10 * (t.mask+15)) (p.more+1) (iY a))) (iY (wT (10 * (t.mask+15)) (p.more+1))))]);obtain⟨n,e,g⟩:=Ge B (i:=r.i) (p:=r.perturb) (by rw[h3];exact j5 _ (by simp)) (by rw[b];exact az (Nat.div_le_self _ _) c) f;have:=BS hd _ r h2 (vg _ _ r (by rwa[show 10 * (t.mask+14)+(9 - p.more)=10 * (t.mask+15) - (p.more+1)from(aH (lQ (wT (10 * (t.mask+15)) (p.more+1)) (ws a)) (lQ (wS (10 * (t.mask+15)) (p.more+1) (iY a)) (wt a)))])) n e;rw[g]at this;exact this he
noncomputable def way(t:bB):T->bR->bR
 |0,p=>p
 |n+1,p=>way t n (t.advance p)
theorem lT(t:bB):∀(a b:T)(p:bR),way t (a+b) p=way t b (way t a p)
 |0,b,p=>by rw[fZ];rfl
 |a+1,b,p=>by rw[show a+1+b=(a+b)+1 from(j6 _ _ _)];exact lT t a b _
theorem JC:∀(n:T){p:bR},wX t p->wX t (way t n p)
 |0,p,h=>h
 |n+1,p,h=>JC n h.adv
set_option tactic.hygienic true
theorem yg{t:bB}(hd:t.dummies=#[]):∀(fuel:T) (p:bR) {m:Nh},p.dummy=L->cG t ha hh fuel p=Y m->
  ∃n,(∀k<n,∃i,t.slot (way t k p).j=.live i/\ha i≠hh)/\((m=.empty (way t n p).j L/\t.slot (way t n p).j=.empty)\/∃i,m=.candidate (way t n p).j i (way t (n+1) p)/\t.slot (way t n p).j=.live i/\ha i=hh)
 |0,p,m,_,h=>by cases h
 |fuel+1,p,m,hp,h=>by
   rw[cG]at h
   cases hs:t.slot p.j with
   |empty=>
     rw[hs]at h
     injection h with h
     exact⟨0,λk hk=>((a7 hk (aU _))).elim,.inl ⟨by rw[<-h,hp];rfl,hs⟩⟩
   |dummy=>exact(oJ hd hs).elim
   |live i=>
     rw[hs]at h;dsimp only at h;split at h
     .rename_i e
      injection h with h
      exact⟨0,λk hk=>((a7 hk (aU _))).elim,.inr ⟨i,h.symm,hs,by simpa using e⟩⟩
     .rename_i e;obtain⟨n,h1,h2⟩:=yg hd fuel _ (yP hp) h;refine⟨n+1,λk hk=>?_,h2⟩
      cases k with
      |zero=>exact⟨i,hs,by simpa using e⟩
      |succ k=>exact h1 k (a8 hk)
def PL(hs:EV xs)(h:j∈xs.toList):xs[aO xs j]?=Y j:=by
 obtain⟨i,hi,e⟩:=dQ.mp h;have c:i<xs.size:=by simpa using hi
 obtain⟨h1,h2,h3⟩:=M5 hs j
 have hb:aO xs j<=i:=by
  rcases gf i (aO xs j)with hl|hl
  .have:=h2 i c hl;simp_all
  .exact hl
 have f:aO xs j=i:=by
  rcases gf _ i with hl|hl
  .exact((a7 (hs.get c hl) (af (ag (by simpa using e)) (h3 _ (az hb c) (aq _))))).elim
  .exact aH hb hl
 simp_all
def AZ{t:bB}(B:EV t.place)(h:j∈t.place.toList):t.slot j=.live (aO t.place j):=by
 unfold mZ;simp only[PL B h,fc,eu]
def K7{t:bB}(hd:t.dummies=#[])(h:t.slot j≠.empty):j∈t.place.toList:=by
 unfold mZ at h;dsimp only at h;split at h
 .rename_i e;exact dQ.mpr ⟨_,by simpa using (bC.mp (by simpa using e)).1,by simpa using (bC.mp (by simpa using e)).2⟩
 .rw[hd,Gv]at h;simp at h
set_option tactic.hygienic false
def Qc{t:bB}(h:t.slot j=.live i):t.place[i]?=Y j:=by
 unfold mZ at h;dsimp only at h;split at h
 .simp_all
 grind
def M7{t t':bB}(h:t.mask=t'.mask)(p:bR):t.advance p=t'.advance p:=by
 unfold eF;rw[h]
theorem pX{t t':bB}(h:t.mask=t'.mask):∀(n:T)(p:bR),way t n p=way t' n p
 |0,p=>rfl
 |n+1,p=>by rw[way,way,M7 h,pX h n]
def vN{t t':bB}(h:t.mask=t'.mask)(x:cx):t.probeStart x=t'.probeStart x:=by
 unfold SetTable.probeStart;rw[h]
def oh(t:bB)(x:cx)(j:T):Prop:=∃n,(way t n (t.probeStart x)).j=j/\∀k<n,(way t k (t.probeStart x)).j∈t.place.toList
def oh.mono{t t':bB}(h:t.mask=t'.mask)(hs:∀j∈t.place.toList,j∈t'.place.toList)(y:oh t x j):oh t' x j:=by
 obtain⟨n,h1,h2⟩:=y;refine⟨n,?_,λk hk=>?_⟩
 .rwa[<-vN h,<-pX h]
 .rw[<-vN h,<-pX h];exact hs _ (h2 k hk)
def F8{t:bB}:a∈(t.put j).1.place.toList↔a=j\/a∈t.place.toList:=by
 show a∈(dm _ _ j).toList↔_;rw[fo];have e:=bf (aO t.place j) t.place.toList;constructor
 .grind
 grind
def oh.new(h:∀k<n,(way t k (t.probeStart x)).j∈t.place.toList):oh (t.put (way t n (t.probeStart x)).j).1 x (way t n (t.probeStart x)).j:=by
 exact oh.mono (t:=t)  rfl (λj a=>F8.mpr (.inr a)) ⟨n,W,h⟩
def Rn(t:bB)(p:bR):Prop:=p.j+p.more<=t.mask
def Kn(h:i<mask+1):i+(ee mask i - i)<=mask:=by
 unfold ee;split<;>omega
def Rn.start(t:bB)(x:cx):Rn t (t.probeStart x):=Kn (j5 _ (by simp))
def Rn.adv(h:Rn t p):Rn t (t.advance p):=by
 unfold Rn at h ⊢;unfold eF;split
 .grind
 .exact Kn (j5 _ (by simp))
theorem JD:∀(n:T){p:bR},Rn t p->Rn t (way t n p)
 |0,p,h=>h
 |n+1,p,h=>JD n h.adv
def Dh(n:T)(x:cx):(way t n (t.probeStart x)).j<=t.mask:=by
 exact af (aZ _ _) (JD n (Rn.start t x))
theorem rS:∀(k:T)(p:bR),k<=p.more->way t k p={ p with j:=p.j+k,more:=p.more - k }
 |0,p,h=>rfl
 |k+1,p,h=>by
   rw[way];have e:t.advance p={ p with j:=p.j+1,more:=p.more - 1 }:=by unfold eF;rw[a5 (az (aU _) h)]
   rw[e,rS k _ (by exact Hh h)]
   grind
noncomputable abbrev CN(ow:c7 (ar T))(j:T):cc:=(ow.getD j (Y 0)).isSome
set_option tactic.hygienic true
theorem BY{ow:c7 (ar T)}:∀(fuel:T) (p:bR) {j:T},yR t p->dG t.mask ow fuel p.i p.perturb=Y j->
  ∃n,(way t n p).j=j/\(∀k<n,CN ow (way t k p).j=U)/\ow.getD j (Y 0)=L
 |0,p,j,_,h=>by cases h
 |fuel+1,p,j,hp,h=>by
   have a:p.i<=ee t.mask p.i:=by unfold ee;split<;>simp
   have b:ee t.mask p.i+1 - p.i=p.more+1:=by rw[hp.m];exact Nat.sub_add_comm a
   rw[dG,b]at h;split at h
   .rename_i k hk
    injection h with h
    subst h;obtain⟨h1,h2,h3⟩:=List.find?_range_eq_some.mp hk;have h2 :=bq.mp h2;refine⟨k,?_,λm e=>?_,by simpa using h1⟩
    .rw[rS k p (a8 h2)];rw[hp.j]
    .rw[rS m p (a8 (cR e h2))];have:=h3 m e;rw[hp.j];simpa [CN,dU]using this
   .rename_i hk;have hk:=Aw.mp hk;have f:way t (p.more+1) p=t.advance (way t p.more p):=by rw[lT];rfl
    have g:=rS (t:=t) p.more p (aq _)
    have l:yR t (way t (p.more+1) p)/\(way t (p.more+1) p).i=(iP t.mask p.i p.perturb).1/\(way t (p.more+1) p).perturb=(iP t.mask p.i p.perturb).2:=by
     rw[f,g];unfold eF;rw[cb (by simp)];exact⟨⟨W,W,hp.d⟩,W,W⟩
    obtain⟨o,q,r⟩:=l;dsimp only at h;rw[<-q,<-r]at h;obtain⟨n,s,u,v⟩:=BY fuel _ o h;refine⟨p.more+1+n,by rw[lT];exact s,λk c=>?_,v⟩
    rcases gf k (p.more+1)with hl|hl
    .rw[rS k p (a8 hl)];have:=hk k hl;rw[hp.j];simpa [CN,dU]using this
    .have:=u (k - (p.more+1)) (lQ (ws hl) c);rw[<-lT,(hZ hl)]at this;exact this
def Nb(t:bB)(ow:c7 (ar T))(x:cx)(j:T):Prop:=∃n,(way t n (t.probeStart x)).j=j/\∀k<n,CN ow (way t k (t.probeStart x)).j=U
structure Lay(t:bB)(hs:O cx)(ow:c7 (ar T))(c:T):Prop where
 sz:ow.size=t.mask+1
 st:∀j k:T,ow[j]?=Y (Y k)->k<c/\Nb t ow (hs.getD k 0) j
 ex:∀k<c,∃j:T,ow[j]?=Y (Y k)
 un:∀j j' k:T,ow[j]?=Y (Y k)->ow[j']?=Y (Y k)->j=j'
def getD_none{ow:c7 (ar T)}(h:ow.getD j (Y 0)=L):ow[j]?=Y L:=by
 unfold Hk at h;split at h
 .simp_all
 .cases h
def Ve{ow:c7 (ar T)}(h:CN ow a=U):CN (ow.setIfInBounds j (Y c)) a=U:=by
 unfold CN Hk at h ⊢;by_cases ha:a<ow.size
 .rw[kl ha]at h;rw[kl (by simpa using ha)];by_cases e:j=a
  .subst e;simp
  simp_all
 .rw[dif_neg (by simpa using ha)];rfl
def Nb.set{ow:c7 (ar T)}(h:Nb t ow x a):Nb t (ow.setIfInBounds j (Y c)) x a:=
 let ⟨n,h1,h2⟩:=h
 ⟨n,h1,λk hk=>Ve (h2 k hk)⟩
def get_set{ow:c7 (ar T)}(B:j<ow.size):(ow.setIfInBounds j (Y c))[a]?=if j=a then Y (Y c)else ow[a]? :=by
 rw[Array.getElem?_setIfInBounds];split
 .simp
 .rfl
def Lay.step{ow:c7 (ar T)}(y:Lay t hs ow c)(h:dG t.mask ow (lW t.mask) (eP (hs.getD c 0) % (t.mask+1)) (eP (hs.getD c 0))=Y j):Lay t hs (ow.setIfInBounds j (Y c)) (c+1):=by
 obtain⟨n,h1,h2,h3⟩:=BY _ (t.probeStart _) (xZ t _) h;have h3:=getD_none h3;have d :=(bC.mp h3).1;refine⟨by simpa using y.sz,λa k ha=>?_,λk hk=>?_,λa f k ha b=>?_⟩
 .rw[get_set d]at ha;split at ha
  .rename_i e;subst e
   injection ha with ha
   injection ha with ha
   subst ha;exact⟨aq _,Nb.set ⟨n,h1,h2⟩⟩
  .obtain⟨g,i⟩:=y.st a k ha;exact⟨du g,i.set⟩
 .rcases gf k c with hl|hl
  .obtain⟨a,ha⟩:=y.ex k hl;refine⟨a,?_⟩;rwa[get_set d,cb (λe=>by grind)]
  .refine⟨j,?_⟩;rw[get_set d,a5 W,(aH (a8 hk) hl)]
 .rw[get_set d]at ha b;split at ha<;>split at b
  .grind
  .injection ha with ha
   injection ha with ha
   have:=(y.st f k b).1
   simp_all
  .injection b with b
   injection b with b
   exact((a7 ((y.st a k ha).1) (ag b))).elim
  .exact y.un a f k ha b
theorem yA{ow:c7 (ar T)}:∀(fuel i p:T),dG mask ow fuel i p=L->∀n<fuel,CN ow (uM mask n i p).1=U
 |0,i,p,h,n,a=>((a7 a (aU _))).elim
 |fuel+1,i,p,h,n,a=>by
   have b:i<=ee mask i:=by unfold ee;split<;>simp
   rw[dG]at h;split at h
   .cases h
   .rename_i hk;cases n with
    |zero=>
      show CN ow i=U;simpa [CN]using ((Aw.mp hk) 0 (by omega))
    |succ n=>exact yA _ _ _ h n (a8 a)
set_option tactic.hygienic false
def Qy(B:mask=7\/mask=31\/mask=127\/mask=511){ow:c7 (ar T)}(f:j<mask+1)(he:CN ow j=J):∃a,dG mask ow (lW mask) (eP x % (mask+1)) (eP x)=Y a:=by
 cases q:dG mask ow (lW mask) (eP x % (mask+1)) (eP x)with
 |some a=>exact⟨a,W⟩
 |none=>
   exfalso;obtain⟨n,h1,h2⟩:=Ge B (p:=eP x) (j5 _ (by simp)) (by unfold eP;exact (Int.toNat_lt (Int.emod_nonneg _ (by decide))).mpr (UV _ (by decide))) f;have:=yA _ _ _ q n (by exact du (bc h1));rw[h2,he]at this;cases this
def Lc{l:O T}(B:l.Nodup)(h:∀x∈l,x<c):Z l<=c:=by
 have hp:l.Perm ((aX c).filter λx=>decide (x∈l)):=by
  rw[jt B (Ax Hj gp)]
  simp_all
 rw[hp.length_eq];exact af (jb _ _) (by simp)
def FQ{ow:c7 (ar T)}(B:j<ow.size)(h:CN ow j=U):∃k,ow[j]?=Y (Y k):=by
 unfold CN Hk at h;rw[kl B]at h;obtain⟨k,hk⟩:=eh.mp h
 simp_all
def Lay.room{ow:c7 (ar T)}(y:Lay t hs ow c)(hc:c<t.mask+1):∃j,j<t.mask+1/\CN ow j=J:=by
 rcases Jz (∃j,j<t.mask+1/\CN ow j=J)with h|h
 .exact h
 .exfalso
  have g:∀j,j<t.mask+1->∃k:T,ow[j]?=Y _:=λj f=>FQ (by rwa[y.sz]) (by
   cases q:CN ow j with
   |true=>rfl
   |false=>exact absurd ⟨j,f,q⟩ h)
  have hk:∀j,j<t.mask+1->ow[j]?=Y (Y ((ow.getD j L).getD 0)):=λj f=>by
   obtain⟨k,e⟩:=g j f
   simp_all
  have l:((aX (t.mask+1)).map λj=>(ow.getD j L).getD 0).Nodup:=by
   refine List.Pairwise.map _ (R:=λa b=>a∈aX (t.mask+1)/\b∈aX (t.mask+1)/\a≠b) ?_ (lS (λha hb d=>⟨ha,hb,d⟩) gp)
   .rintro a b ⟨ha,hb,d⟩ e;have i:=hk a (bq.mp ha);rw[e]at i;exact d (y.un _ _ _ i (hk b (bq.mp hb)))
  have:=Lc l (λx n=>by
   obtain⟨j,f,rfl⟩:=bZ.mp n
   exact(y.st j _ (hk j (bq.mp f))).1)
  rw[aD,aW]at this;exact a7 hc this
noncomputable def Gc(mask:T)(f:ar (c7 (ar T)×T))(h:cx):ar (c7 (ar T)×T):=do
 let (owner,k) <-f;let j <-dG mask owner (lW mask) (eP h % (mask+1)) (eP h)
 pure (owner.setIfInBounds j (Y k),k+1)
theorem BG{t:bB}(C:t.mask=7\/t.mask=31\/t.mask=127\/t.mask=511){hs:O cx}(hl:Z hs<=t.mask):∀(rest pre:O cx)(ow:c7 (ar T)),hs=pre++rest->Lay t hs ow pre.length->∃B,rest.foldl (Gc t.mask) (Y (ow,pre.length))=Y (B,hs.length)/\Lay t hs B hs.length
 |[],pre,ow,e,y=>⟨ow,by simp_all,by grind⟩
 |x::rest,pre,ow,e,y=>by
   have hlen:Z pre<Z hs:=by rw[e];simp
   obtain⟨g,h1,h2⟩:=y.room (du (af hlen hl));have c:hs.getD pre.length 0=x:=by rw[e];simp
   obtain⟨a,ha⟩:=Qy C h1 h2;have b:=y.step (by rw[c];exact ha);obtain⟨B,d,f⟩:=BG C hl rest (pre++[x]) _ (by simp_all) (by rw[aj];exact b);refine⟨B,?_,f⟩;rw[NV]
   have:Gc t.mask (Y (ow,pre.length)) x=Y (ow.setIfInBounds a (Y pre.length),(pre++[x]).length):=by
    unfold Gc
    simp_all
   rw[this];exact d
def Kt{n j k:T}(h:(vH n (L:ar T))[j]?=Y (Y k)):False:=by
 rw[Array.getElem?_replicate]at h
 simp_all
def Lay.nil(t:bB)(hs:O cx):Lay t hs (vH (t.mask+1) L) 0:=
 ⟨by simp,λj k h=>(Kt h).elim,λk hk=>((a7 hk (aU _))).elim,λj a k h _=>(Kt h).elim⟩
def Qe{t:bB}(B:t.mask=7\/t.mask=31\/t.mask=127\/t.mask=511){hs:c7 cx}(hl:hs.size<=t.mask):∃ow,C4 t.mask hs=Y ow/\Lay t hs.toList ow hs.size:=by
 obtain⟨ow,h1,h2⟩:=BG B (by simpa using hl) hs.toList [] _ W (Lay.nil t _);refine⟨ow,?_,by simpa using h2⟩;unfold C4;rw[<-Array.foldl_toList]
 have e:(hs.toList.foldl (Gc t.mask) (Y (vH (t.mask+1) L,0))).map (·.1)=Y ow:=by
  simp_all
 exact e
def Qf{hs:c7 cx}(B:mask=7\/mask=31\/mask=127\/mask=511)(hl:hs.size<=mask) :
  ∃t o,m6 mask f m led pl hs=Y (t,o)/\t.mask=mask/\t.led=led/\o.toList.Perm (aX hs.size)/\t.place.size=o.size/\(∀j∈t.place.toList,j<=mask)/\∀(i:T)(h:i<o.size)(I:i<t.place.size),oh t (hs.toList.getD o[i] 0) t.place[i]:=by
 let d:bB:={ mask,place:=#[],dummies:=#[],finger:=f,led,moves:=m,plain:=pl }
 obtain⟨ow,h1,y⟩:=Qe (t:=d) B hl;have s :=y.sz;let live:=(aX (mask+1)).filterMap λj=>(ow.getD j L).map (j,·)
 have c:∀j k,(j,k)∈live↔ow[j]?=Y _:=λj k=>by
  simp only[live,ni,bq,Au,qE];constructor
  .rintro⟨a,ha,b,hb,rfl,rfl⟩;rw[xn]at hb;rw[br (af ha (ag s.symm))]at hb ⊢;exact c8 Y hb
  .intro h;exact⟨j,af ((bC.mp h).1) (ag s),k,by rw[xn,h];rfl,W,W⟩
 let t:bB:={ mask,place:=(live.map (·.1)).toArray,dummies:=#[],finger:=f,led,moves:=m,plain:=pl }
 refine⟨t,(live.map (·.2)).toArray,?_,W,W,?_,by simp[t],λj g=>?_,λi hi v=>?_⟩
 .unfold m6;rw[h1];rfl
 .have l:(live.map (·.2)).Nodup:=by
   have hp:live.Pairwise λa b=>a.1≠b.1:=by
    refine AI.mpr (pQ ?_ CJ);intro a b p x w z A;obtain⟨_,_,rfl⟩:=eT w;obtain⟨_,_,rfl⟩:=eT A;exact ba p
   refine gV.mpr (lS ?_ hp);intro a b ha hb q e;have u:=(c _ _).mp ha;rw[e]at u;exact q (y.un _ _ _ u ((c _ _).mp hb))
  rw[jt l gp];intro k;rw[bZ,bq];constructor
  .rintro⟨a,ha,rfl⟩;exact(y.st _ _ ((c _ _).mp ha)).1
  .intro hk;obtain⟨j,g⟩:=y.ex k hk;exact⟨_,(c j k).mpr g,W⟩
 .obtain⟨a,ha,rfl⟩:=bZ.mp g;exact a8 (af ((bC.mp ((c _ _).mp ha)).1) (ag s))
 .have r:i<Z live:=by simpa using hi
  have C:(live.map (·.2)).toArray[i]=live[i].2:=by simp
  have F:t.place[i]=live[i].1:=by simp[t]
  rw[C,F];obtain⟨_,n,D,E⟩:=y.st _ _ ((c live[i].1 live[i].2).mp (bA r));refine⟨n,?_,λk hk=>?_⟩
  .rwa[pX (t:=t) (t':=d) W]
  .rw[pX (t:=t) (t':=d) W];obtain⟨b,hb⟩:=FQ (az (Dh k _) (ag s.symm)) (E k hk);exact bZ.mpr ⟨_,(c _ b).mpr hb,W⟩
theorem BU{t:bB}(hd:t.dummies=#[])(f:∀i,ha i≠hh):∀(fuel:T)(p:bR){m:Nh},p.dummy=L->cG t ha hh fuel p=Y m->∃n,n<fuel/\t.slot (way t n p).j=.empty/\∀k<n,t.slot (way t k p).j≠.empty
 |0,p,m,_,h=>by cases h
 |fuel+1,p,m,hp,h=>by
   rw[cG]at h
   cases hs:t.slot p.j with
   |empty=>exact⟨0,by simp,hs,λk hk=>by omega⟩
   |dummy=>exact(oJ hd hs).elim
   |live i=>
     rw[hs]at h;dsimp only at h;rw[cb (by simpa using f i)]at h;obtain⟨n,h1,h2,h3⟩:=BU hd f fuel _ (yP hp) h;refine⟨n+1,bc h1,h2,λk hk=>?_⟩
     cases k with
     |zero=>show t.slot p.j≠_;rw[hs];simp
     |succ k=>exact h3 k (a8 hk)
def Es{t:bB}(B:t.mask=7\/t.mask=31\/t.mask=127\/t.mask=511)(hd:t.dummies=#[])(x:cx)(f:j<t.mask+1)(he:t.slot j=.empty) :
  ∃N,N<6000/\t.slot (way t N (t.probeStart x)).j=.empty/\∀k<N,t.slot (way t k (t.probeStart x)).j≠.empty:=by
 obtain⟨m,h⟩:=uw B hd (ha:=λ_=>x+1) (xY t x) f he;obtain⟨n,h1,h2,h3⟩:=BU hd (λ_=>(λz=>(vG (Dd z) (Int.le_refl _)))) _ _ W h;refine⟨n,?_,h2,h3⟩;unfold lW at h1;exact aS h1 (by rcases B with h|h|h|h<;>rw[h]<;>decide)
def Dy{t:bB}(C:t.mask=7\/t.mask=31\/t.mask=127\/t.mask=511)(hd:t.dummies=#[])(h1:t.slot (way t N (t.probeStart x)).j=.empty)(h2:∀k<N,t.slot (way t k (t.probeStart x)).j≠.empty)(B:a<=N) :
  (t.probe ha x (way t a (t.probeStart x))=Y (.empty (way t N (t.probeStart x)).j L)/\∀k,a<=k->k<N->∃i,t.slot (way t k (t.probeStart x)).j=.live i/\ha i≠x)\/
  ∃b i,a<=b/\b<N/\t.probe ha x (way t a (t.probeStart x))=Y (.candidate (way t b (t.probeStart x)).j i (way t (b+1) (t.probeStart x)))/\t.slot (way t b (t.probeStart x)).j=.live i/\ha i=x/\∀k,a<=k->k<b->∃i,t.slot (way t k (t.probeStart x)).j=.live i/\ha i≠x:=by
 have g :=JC a (xY t x);obtain⟨m,h⟩:=uw C hd g (bc (Dh (t:=t) N x)) h1;obtain⟨c,u,l⟩:=yg hd _ _ g.d h
 have f:∀k,a<=k->k<a+c->∃i,t.slot (way t k _).j=.live i/\ha i≠x:=λk n q=>by
  have:=u (k - a) (lQ (ws n) q);rwa[<-lT,(hZ n)]at this
 have r:a+c<=N:=by
  rcases gf N (a+c)with hl|hl
  .obtain⟨i,e,_⟩:=f N B hl
   grind
  .exact hl
 rcases l with⟨l,o⟩|⟨i,l,o,v⟩
 .rw[<-lT]at l o
  have:a+c=N:=by
   rcases gf (a+c) N with hl|hl
   .simp_all
   .exact aH r hl
  refine .inl ⟨by rw[h,l,this],λk n q=>f k n (af q (ag this.symm))⟩
 .rw[<-lT]at o
  have s:a+c<N:=by
   grind
  refine .inr ⟨_,i,aZ _ _,s,?_,o,v,f⟩;rw[h,l,<-lT,<-lT];rfl
structure oi(led:cc)(h:bJ)(S:aN)(es:c7 (cx×ak))(ep:T)(t:bB):Prop where
 obj:h.get? S=Y { cls:=.type "set",dict:=L,data:=.set es ep t }
 fits:t.fits es.size=U
 ok:CA led t
def oi.keep{f:bJ}(y:oi led h S es B t)(k:∀o,h.get? S=Y o->f.get? S=Y o):oi led f S es B t:=⟨k _ y.obj,y.fits,y.ok⟩
noncomputable abbrev t8(w:cU):cc:=!w.params.followText "set-order"
def uy{α F:Type}{R:α->F->Prop}{l I:O α}(p:I.Perm l):∀{C:O F},nD R l C->∃B,nD R I B/\B.Perm C:=by
 induction p with
 |nil=>intro C h;cases h;exact⟨[],.nil,.nil⟩
 | cons x p g=>intro C h;cases h with
   |cons a b=>obtain⟨B,c,d⟩:=g b;exact⟨_,.cons a c,d.cons _⟩
 | swap x y l=>intro C h;cases h with
   | cons a b=>cases b with
     |cons c d=>exact⟨_,.cons c (.cons a d),.swap ..⟩
 |trans p q e f=>
   intro C h;obtain⟨j,a,b⟩:=f h;obtain⟨i,c,d⟩:=e a;exact⟨i,c,d.trans b⟩
theorem ux{α f:Type}{R:α->f->Prop}{x:α}{y:f}(h:R x y){l:O α}{B:O f}(h0:nD R l B):nD R (l++[x]) (B++[y]):=by
 induction h0 with
 |nil=>exact .cons h .nil
 |cons a _ i=>exact .cons a i
theorem qT{α f:Type}{R:α->f->Prop}{l:O α}{B:O f}(h0:nD R l B):Z l=Z B:=by
 induction h0 with
 |nil=>rfl
 |cons _ _ i=>rw[cg,cg,i]
theorem p8{α f:Type}{R:α->f->Prop}{x:α}{l:O α}{B:O f}(h0:nD R l B):x∈l->∃y∈B,R x y:=by
 induction h0 with
 |nil=>intro h;cases h
 |cons a _ i=>
  intro h;rcases aA.mp h with rfl|h
  .exact⟨_,.head _,a⟩
  .obtain⟨y,c,d⟩:=i h;exact⟨y,.tail _ c,d⟩
theorem se{α f:Type}{R:α->f->Prop}{y:f}{l:O α}{B:O f}(h0:nD R l B):y∈B->∃x∈l,R x y:=by
 induction h0 with
 |nil=>intro h;cases h
 |cons a _ i=>
  intro h;rcases aA.mp h with rfl|h
  .exact⟨_,.head _,a⟩
  .obtain⟨y,c,d⟩:=i h;exact⟨y,.tail _ c,d⟩
section
variable{prog:bW}{w:cU}{K:Type}[ef K]{s:ao}
def AW{C:c7 (cx×ak)}{t':bB}(y:oi led s.heap S es I t)(f:t'.fits C.size=U)(o:CA led t')(B:C.size<=aJ)
  (k:∀F,dJ S s.heap F->oi led F S C (I+1) t'->Q () { s with heap:=F }):aG (aC prog w) A (storeSet S C t') Q E s:=by
 refine wpAny_storeSet_of y.obj W (k _ (o7 ..) ⟨?_,f,o⟩) B;exact (ei (Obj.putSet _ t') y.obj (by rfl))
end
section
variable{prog:bW}{w:cU}{K:Type}[ef K]{G:c7 mT->c7 mT->Prop}{St:T->ao->Prop}
end
section
variable{prog:bW}{w:cU}{K:Type}[ef K]{A:bP}{G:c7 mT->c7 mT->Prop}{n:T}{P:T->ak->Prop}{St:T->ao->Prop}
section
variable{prog:bW}{w:cU}{A:bP}{G:c7 mT->c7 mT->Prop}{n:T}{P:T->ak->Prop}{St:T->ao->Prop}{Hs:bJ->T->Prop}{S:aN}
def Ng(prog:bW)(w:cU)(A:bP)(S:aN)(n:T)(P:T->ak->Prop)(Hs:bJ->T->Prop):Prop:=
 ∀(i:T)(v:ak)(s:ao)(Q:cc->ao->Prop)(E:ak->ao->Prop),i<n->P i v->Hs s.heap i->(∀b c a,dJ S s.heap c->s.toks<=a->Hs c (i+1)->Q b { s with heap:=c,toks:=a })->aG (aC prog w) A (setAdd S v) Q E s
def X3(C:WalksS prog w A.in1 I fp wr G n P St)(B:S∉fp)(keep:∀{i h h'},(∀b o,b∉wr->h.get? b=Y o->h'.get? b=Y o)->Hs h i->Hs h' i)(add:Ng prog w A.in1 S n P Hs) :
  ∀(k i:T)(s:ao),n - i=k->i<=n->St i s->Hs s.heap i->(∀F,Moved (S::wr) G s F->Hs F.heap n->R (.ok (.ret .none)) F)->
   e9 (aC prog w) A (.builtin "set.update.loop" ⟨[.ref S,.ref I],[]⟩) R s:=by
 have sub:∀b∈wr,b∈S::wr:=λb m=>jY _ m;intro k
 induction k with
 |zero=>
   intro i s hk hi c y g;obtain rfl:i=n:=aH (iY hi) (lQ (wt hi) (ag hk));apply kA oo;refine wb9 (C.done s _ _ c λF m=>?_);exact wu9 (g F (m.mono sub) (keep m.heap y))
 |succ k l=>
   intro i s hk hi c y g;apply kA oo;rw[Around.under_plainId om];have a:i<n:=lQ (ws hi) (ag hk.symm);refine wb9 (C.item i s _ _ a c λv F p d m=>?_);refine wb9 (cL (add _ _ _ _ _ a p (keep m.heap y) λb h' t j f q=>?_));refine wu9 ⟨Ha om _,l (i+1) _ (aH (wc (ws a) (wt (aE a)) (ag hk)) (wc (ag hk.symm) (ws (aE a)) (wt a))) a (C.frame _ F _ _ d f λb hb o e=>?_) q λs2 m2 r=>?_⟩
   .rw[j.2 b λz=>B (z▸hb)];exact e
   .refine g s2 (Moved.trans C.gtrans ((m.mono sub).then_heap f λb o hb e=>?_) m2) r;rw[j.2 b λz=>hb (z▸jM)];exact e
end
section
variable{prog:bW}{w:cU}{K:Type}[ef K]
end
end
section
variable{z0:ao}
def MG{st:O ak}(B:rK P w z0.heap f p)(hs:∀v∈st,∃l b,v=.ref b/\rK P w z0.heap l b)(h:Q J z0):aG (aC P w) A (searchCouldBeSeen (.ref p) st) Q E z0:=by
 apply wb9;refine iV _ (λtl r d=>r.1=L/\d=z0/\∀v∈tl,∃l b,v=.ref b/\rK P w _ l b) _ ?_ ?_ _ _ ⟨W,W,hs⟩
 .rintro v tl r d ⟨ge,rfl,a⟩;obtain⟨l,b,rfl,e⟩:=a v jM;dsimp only;split
  .exact wu9 ⟨W,W,λu c=>a u (jY _ c)⟩
  .refine wb9 (u6 Hn B ?_);refine wb9 (u6 Hn e ?_);refine wb9 (zZ Hn B ?_);exact wb9 (zZ Hn e (wu9 ⟨W,W,λu c=>a u (jY _ c)⟩))
 .rintro⟨g,i⟩ d ⟨rfl,rfl,_⟩;exact wu9 h
end
def below_at(hs:EV xs)(hi:i<xs.size):aO xs xs[i]=i:=by
 obtain⟨h1,h2,h3⟩:=M5 hs _
 rcases ou (aO xs _) i with hl|hl|hl
 .exact((a7 (hs.get hi hl) (h3 (aO xs _) (cR hl hi) (aq _)))).elim
 .exact hl
 .exact((a7 (h2 i hi hl) (aq _))).elim
def OE{t:bB}(B:EV t.place)(hi:i<t.place.size):t.slot t.place[i]=.live i:=by
 rw[AZ B (by simp),below_at B hi]
noncomputable abbrev hAt(es:c7 (cx×ak))(i:T):cx:=(es[i]?.map (·.1)).getD 0
section
variable{P:bW}{w:cU}{A:bP}{s:ao}{es:c7 (cx×ak)}{t:bB}
structure aac(P:bW)(w:cU)(h:bJ)(es:c7 (cx×ak))(t:bB)(kf:T->O NK):Prop where
 mask:t.mask=7\/t.mask=31\/t.mask=127\/t.mask=511
 el:∀(i:T)(hi:i<es.size),∃b,es[i].2=.ref b/\rK P w h (kf i) b/\es[i].1=eK P w (kf i)
 std:∀(i:T)(hi:i<es.size)(hp:i<t.place.size),oh t es[i].1 t.place[i]
 le:∀j∈t.place.toList,j<=t.mask
theorem Ba(e0:A.units+3<=eE)(y:oi led s.heap S es ep t)(z:aac P w s.heap es t kf)(O':rK P w s.heap ks p)
  (h1:t.slot (way t N (t.probeStart (eK P w ks))).j=.empty)(h2:∀k<N,t.slot (way t k (t.probeStart (eK P w ks))).j≠.empty)
  (B:∀i,i<es.size->kf i=ks->Q (.there L) s)(new:(∀i,i<es.size->kf i≠ks)->Q (.free (way t N (t.probeStart (eK P w ks))).j J) s) :
  ∀(fuel a:T)(stand:ar bR),a<=N->N - a<fuel->stand.getD (t.probeStart (eK P w ks))=way t a (t.probeStart (eK P w ks))->(∀k<a,∀i,t.slot (way t k (t.probeStart (eK P w ks))).j=.live i->kf i≠ks)->
   aG (aC P w) A (hQ S (.ref p) (eK P w ks) U fuel stand) Q E s
 |0,a,stand,ha,hf,_,_=>((a7 hf (aU _))).elim
 |fuel+1,a,stand,ha,hf,G,o=>by
   have hsz:t.place.size=es.size:=by
    have:=y.fits;simp only[m7,ah,eb]at this;exact this.1
   have g:=z.mask
   have U':t.gaveWay=J:=by
    unfold SetTable.gaveWay
    rcases g with e|e|e|e<;>rw[e]<;>rfl
   have l:∀{j i:T},t.slot j=.live i->∃hi:i<es.size,hAt es i=es[i].1:=λ{j i}e=>by
    have hi:=(bC.mp (Qc e)).1;refine⟨af hi (ag hsz),?_⟩;unfold hAt;simp[br ((af hi (ag hsz)))]
   refine wb9 (eD y.obj W y.fits ?_);dsimp only;rw[U'];simp only[et,ck];rw[G]
   rcases Dy g y.ok.d (ha:=hAt es) h1 h2 ha with⟨H,D⟩|⟨b,i,b1,b2,H,D,g3,V⟩
   .erw [H]
    refine wu9 (new λi hi e=>?_);obtain⟨n,R,T'⟩:=z.std i hi (af hi (ag hsz.symm));have hh:es[i].1=eK P w ks:=by obtain⟨_,_,_,q⟩:=z.el i hi;rw[q,e]
    rw[hh]at R T';have f:t.slot (way t n (t.probeStart (eK P w ks))).j=.live i:=by rw[R];exact OE y.ok.r (af hi (ag hsz.symm))
    have I:n<N:=by
     rcases ou n N with hl|hl|hl
     .exact hl
     .simp_all
     .have:=T' N hl;rw[AZ y.ok.r this]at h1;cases h1
    rcases gf n a with hl|hl
    .exact o n hl i f e
    .obtain⟨h,e1,e2⟩:=D n hl I;rw[f]at e1
     injection e1 with e1
     subst e1;obtain⟨_,e3⟩:=l f
     simp_all
   .erw [H]
    dsimp only;obtain⟨hi,e3⟩:=l D;obtain⟨c,c1,c2,c3⟩:=z.el i hi
    have u:es[i]?=Y (es[i].1,.ref c):=by
     rw[br hi,<-c1]
    have next:aG (aC P w) A (do
      let Y (_,v):=es[i]? | unsupported "internal:set-entry"
      let equal <-holding [v] (eqBool v (.ref p));let (es',_,t') <-setState S
      if(U && equal)=U then return .there L
      let Y same:=t'.sameMemory t.moves t.mask|unsupported "set.changed-during-lookup:is-the-new-block-at-the-old-address"
      let still <-match(if same=U then t'.slot (way t b (t.probeStart (eK P w ks))).j else .empty)with
       | .live h=>match es'[h]? with
         |some (_,e4)=>do pure (if(<-isSame e4 v)=U then Y h else L)
         |none=>pure L
       |_=>pure L
      match still with
      |none=>rule "set.search.anew";hQ S (.ref p) (eK P w ks) U fuel L
      |some h=>if equal=U then return .there (Y h)else hQ S (.ref p) (eK P w ks) U fuel (Y (way t (b+1) (t.probeStart (eK P w ks))))) Q E s:=by
     rw[u];dsimp only;refine wb9 (cL (ZJ e0 c2 O' ?_));refine wb9 (eD y.obj W y.fits ?_);by_cases e:kf i=ks
     .rw[c0 e];exact wu9 (B i hi e)
     .rw[c4 e];have J':t.sameMemory t.moves t.mask=Y U:=by unfold SetTable.sameMemory;simp
      rw[J'];simp only[eu];rw[D];dsimp only;rw[u];refine wb9 (wpAny_isSame_ref_self (wb9 (wu9 ?_)));refine Ba e0 y z O' h1 h2 B new _ _ _ (b2) (XN (ws b2) (wt ha) hf b1) W λk hk h K L'=>?_
      rcases ou k b with hl|hl|hl
      .rcases gf k a with m|m
       .exact o k m h K L'
       .obtain⟨i2,F,q2⟩:=V k m hl;rw[K]at F
        injection F with F
        subst F;obtain⟨M,q3⟩:=l K;obtain⟨_,_,_,q4⟩:=z.el h M
        simp_all
      .simp_all
      .exact a7 hk hl
    split
    .refine wb9 (MG O' (λv X=>?_) next)
     .obtain⟨x,C,rfl⟩:=bZ.mp X;clear X; obtain⟨k,hk,rfl⟩:=Array.mem_iff_getElem.mp (Array.mem_filter.mp (Array.mem_toList_iff.mp C)).1;obtain⟨e7,d1,d2,_⟩:=z.el k hk;exact⟨_,e7,d1,d2⟩
    .exact next
end
section
variable{z0:ao}
def ZA(B:rK P w z0.heap f p)(h:∀b,Q b z0):aG (aC P w) A (gk 8 (.ref p)) Q E z0:=R7 Hn B h
end
section
variable{P:bW}{w:cU}{A:bP}{s:ao}{es:c7 (cx×ak)}{t:bB}
def _root_.L2.tw.keepsC(x:tw I h f p)(go:h.get? d=Y o)(B:o.cls≠.type "tuple")(C:dJ d h F):tw I F f p:=
 x.mW (Z2 go B λb o n e=>(C.2 b n).trans e)
structure EU(P:bW)(w:cU)(h:bJ)(es:c7 (cx×ak))(t:bB):Prop where
 mask:t.mask=7\/t.mask=31\/t.mask=127\/t.mask=511
 el:∀e∈es.toList,∃l b,e.2=.ref b/\rK P w h l b/\e.1=eK P w l
 std:∀q∈es.toList.zip t.place.toList,oh t q.1.1 q.2
 le:∀j∈t.place.toList,j<=t.mask
 nf:t.place.size * 5<t.mask * 3
def EU.toN(z:EU P w h es t):∃f,aac P w h es t f:=by
 refine⟨λi=>if hi:i<es.size then(z.el es[i] (by simp)).choose else [],z.mask,λi hi=>?_,λi hi hp=>?_,z.le⟩
 .obtain⟨b,h1,h2,h3⟩:=(z.el es[i] (by simp)).choose_spec;refine⟨b,h1,?_,?_⟩
  .rwa[kl hi]
  .rwa[kl hi]
 .apply z.std (es[i],t.place[i]);refine dQ.mpr ⟨i,by simp;omega,by simp⟩
def tX{l f:O T}(C:l.Nodup)(B:f.Nodup)(h:∀x∈l,x∈f):Z l<=Z f:=by
 have hp:l.Perm (f.filter λx=>decide (x∈l)):=by
  rw[jt C (Ax Hj B)]
  simp_all
 rw[hp.length_eq];exact jb _ _
def Wp(B:EV t.place)(hf:t.place.size<t.mask+1)(hd:t.dummies=#[]):∃j,j<t.mask+1/\t.slot j=.empty:=by
 rcases Jz (∃j,j<t.mask+1/\t.slot j=.empty)with h|h
 .exact h
 .exfalso;have:=tX gp (pQ (λh=>(ba h)) B) λj(b)=>K7 hd λe=>h ⟨j,bq.mp b,e⟩;rw[aW]at this;exact a7 hf this
def Dz(I:A.units+3<=eE)(y:oi led s.heap S es R t)(z:EU P w s.heap es t)(C:rK P w s.heap F p)
  (B:(∃e∈es.toList,∃b,e.2=.ref b/\rK P w s.heap F b)->Q (.there L) s)
  (new:∀j,(¬ ∃e∈es.toList,∃b,e.2=.ref b/\rK P w s.heap F b)->t.slot j=.empty->j<=t.mask->oh (t.put j).1 (eK P w F) j->Q (.free j J) s) :
  aG (aC P w) A (setSearch S (.ref p) (eK P w F) U) Q E s:=by
 refine ac λ_ x=>?_;obtain⟨v,n⟩:=z.toN;have f:=z.nf;obtain⟨j,l,he⟩:=Wp y.ok.r (by rcases z.mask with e|e|e|e<;>rw[e]at f ⊢<;>omega) y.ok.d;obtain⟨N,m,h1,h2⟩:=Es z.mask y.ok.d _ l he;apply x;refine Ba I y n C h1 h2 (λi hi e=>B ?_) (λg=>new _ ?_ h1 (Dh N _) (oh.new λk hk=>K7 y.ok.d (h2 k hk))) _ 0 L (aU _) (af m cF) W λk hk=>((a7 hk (aU _))).elim
 .obtain⟨b,a,h,_⟩:=n.el i hi;exact⟨_,by simp,b,a,e▸h⟩
 .rintro⟨e,he,b,a,h⟩;obtain⟨i,hi,rfl⟩:=dQ.mp he;have c:i<es.size:=by simpa using hi
  obtain⟨u,o,q,_⟩:=n.el i c;rw[De]at a;rw[o]at a;cases a;exact g i c (q.inj h)
end
section
variable{s:ao}
def O9(y:oi led s.heap S es F t)(B:fX wanted<=aJ)(hl:t.relaid (es.map (·.1)) wanted=Y (t',o))(hs:(o.filterMap (es[·]?)).size=es.size)
  (f:t'.fits (o.filterMap (es[·]?)).size=U)(ok:CA led t')(I:es.size<=aJ)(k:∀C,dJ S s.heap C->oi led C S (o.filterMap (es[·]?)) (F+1) t'->Q () { s with heap:=C }) :
  aG (aC P w) A (setRelay S wanted) Q E s:=by
 refine wb9 (eD y.obj W y.fits ?_);dsimp only;rw[cb (λz=>(a7 z B)),hl];apply wb9;change aG _ _ (if((o.filterMap _).size != es.size)=U then(unsupported _ >>= λ_=>pure (o.filterMap _,t'))else pure (o.filterMap _,t')) ..;rw[cb (by simp[hs])];exact wu9 (AW y f ok (by rwa[hs]) k)
end
theorem filterMap_map{α B:Type}{f:α->ar B}{g:α->B}:∀{l:O α},(∀k∈l,f k=Y (g k))->l.filterMap f=l.map g
 |[],_=>rfl
 |a::l,h=>by rw[rH,h a jM,aI,filterMap_map λk hk=>h k (jY _ hk)]
def HK(es:c7 (cx×ak)):(aX es.size).map (λk=>(es[k]?).getD (0,.none))=es.toList:=by
 apply lD
 .simp
 simp_all
section
variable{es:c7 (cx×ak)}
def Bn{o:c7 T}(hp:o.toList.Perm (aX es.size)):(o.filterMap (es[·]?)).toList=o.toList.map (λk=>(es[k]?).getD (0,.none)):=by
 rw[Array.toList_filterMap];refine filterMap_map λk hk=>?_;have :=bq.mp (hp.mem_iff.mp hk)
 simp_all
def v3{o:c7 T}(hp:o.toList.Perm (aX es.size)):(o.filterMap (es[·]?)).toList.Perm es.toList:=by
 rw[Bn hp];have:=hp.map (λk=>(es[k]?).getD (0,eY));rwa[HK]at this
def Pa{h:bJ}(B:mask=7\/mask=31\/mask=127\/mask=511)(F:es.size<=mask)(C:es.size * 5<mask * 3)(el:∀e∈es.toList,∃l b,e.2=.ref b/\rK P w I l b/\e.1=eK P w l) :
  ∃t' o,m6 mask f m led pl (es.map (·.1))=Y (t',o)/\(o.filterMap (es[·]?)).size=es.size/\t'.fits (o.filterMap (es[·]?)).size=U/\CA led t'/\(o.filterMap (es[·]?)).toList.Perm es.toList/\EU P w I (o.filterMap (es[·]?)) t':=by
 obtain⟨t',o,h1,h2,h3,a,t,k,n⟩:=Qf (hs:=es.map _) B (by simpa using F);have a:o.toList.Perm (aX es.size):=by simpa using a
 have hp:=v3 a;have g:(o.filterMap (es[·]?)).size=es.size:=by rw[<-bM,hp.length_eq,bM]
 have p:o.size=es.size:=by rw[<-bM,a.length_eq,aW]
 have ok:=CA.laid h1;refine⟨t',o,h1,g,?_,ok,hp,?_⟩
 .simp only[m7,qy,ah,eb,c6,ok.d]
  simp_all
 .refine⟨by rwa[h2],λe he=>el e (hp.mem_iff.mp he),λq r=>?_,λj s=>by rw[h2];exact k j s,XN (ZB 5 (ag t)) C (ZB 5 (ag p)) (ZB 3 (ag h2.symm))⟩;clear B F C el h1 h2 h3 k hp g p ok; obtain⟨i,hi,rfl⟩:=dQ.mp r;rw[xj]at hi;have c:i<o.size:=by simp at hi;omega
  have hk:o[i]<es.size:=bq.mp (a.mem_iff.mp (by simp))
  have u:(o.filterMap _).toList[i]'(by exact af hi (j2 _ _))=es[o[i]]:=by
   simp only[Bn a,Nm,De,br hk,Option.getD_some]
  have v:=n i c (af c (ag t.symm))
  simp_all
end
def Gm{α:Type}(xs:c7 α)(hp:p<=xs.size)(x:α):(dm xs p x).size=xs.size+1:=by
 rw[<-bM,fo,aj,cg,iG,dF];exact aH (lQ (j2 p _) (ws hp)) (lQ (wt hp) (a0 p xs.size (iY hp)))
def BL{α:Type}(xs:c7 α)(p:T)(x:α):(dm xs p x).toList.Perm (xs.toList++[x]):=by
 rw[fo];apply Nl.trans;rw[bf];exact eo (l₁:=[x])
def Qp{α C:Type}(xs:c7 α)(f:c7 C)(h:xs.size=f.size){p:T}(hp:p<=xs.size)(x:α)(y:C){q:α×C}(B:q∈(dm xs p x).toList.zip (dm f p y).toList):q=(x,y)\/q∈xs.toList.zip f.toList:=by
 rw[fo,fo,NP (by simp;exact aH (lQ (j2 p _) (a0 p f.size (lQ hp (ag h)))) (lQ (j2 p _) (a0 p xs.size (iY hp))))]at B
 have a:xs.toList.zip f.toList=(xs.toList.take p).zip (f.toList.take p)++(xs.toList.drop p).zip (f.toList.drop p):=by
  rw[<-NP (by simp;exact aH (lQ (j2 p xs.size) (a0 p f.size (lQ hp (ag h)))) (lQ (j2 p f.size) (a0 p xs.size (iY hp)))),bf,bf]
 rw[a]
 rcases ax.mp B with B|B
 .simp_all
 .rcases aA.mp B with B|B
  .exact .inl B
  .exact .inr (ax.mpr (.inr B))
section
def AO{c:Prop}[ew c]{m F:He cc}{k:cc->He cc}{Q:cc->ao->Prop}(h:∀b,aG (aC P w) A (k b) Q E s)(f:∀{C:cc->ao->Prop},(∀b,C b s)->aG (aC P w) A m C E s)(B:∀{C:cc->ao->Prop},(∀b,C b s)->aG (aC P w) A F C E s) :
  aG (aC P w) A (if c then m >>= k else F >>= k) Q E s:=by
 split
 .exact wb9 (f h)
 .exact wb9 (B h)
def oh.plain(h:oh t x j):oh { t with plain:=b } x j:=
 oh.mono (t:=t)  rfl (λ_ h=>h) h
def Qu(B:mask=7\/mask=31\/mask=127\/mask=511)(h0:n * 5<mask * 3)(h1:(n+1) * 5>=mask * 3)(f:n<300):(fX (i8 (n+1)) - 1=31\/fX (i8 (n+1)) - 1=127\/fX (i8 (n+1)) - 1=511)/\n+1<=fX (i8 (n+1)) - 1/\(n+1) * 5<(fX (i8 (n+1)) - 1) * 3/\fX (i8 (n+1))<=512:=by
 rcases B with rfl|rfl|rfl|rfl
 .obtain rfl:n=4:=aH (XV (Xt (a:=5) (aS h0 (by decide)))) (XV (Xt (a:=5) (aS (by decide) h1)))
  decide +kernel
 .obtain rfl:n=18:=aH (XV (Xt (a:=5) (aS h0 (by decide)))) (XV (Xt (a:=5) (aS (by decide) h1)))
  decide +kernel
 .obtain rfl:n=76:=aH (XV (Xt (a:=5) (aS h0 (by decide)))) (XV (Xt (a:=5) (aS (by decide) h1)))
  decide +kernel
 .exact⟨(.inl (VE h1 (ZB 5 f)).elim),⟨(VE h1 (ZB 5 f)).elim,⟨(VE h1 (ZB 5 f)).elim,(VE h1 (ZB 5 f)).elim⟩⟩⟩
end
section
variable{s:ao}{A:bP}
def add_n(i_:A.units+3<=eE)(y:oi led s.heap S es ep t)(z:EU P w s.heap es t)(O':rK P w s.heap ks p)(room:es.size<300)
  (c3:∀b,(∃e∈es.toList,∃b,e.2=.ref b/\rK P w s.heap ks b)->Q b s)
  (new:∀b h' es' e0 t',(¬ ∃e∈es.toList,∃b,e.2=.ref b/\rK P w s.heap ks b)->dJ S s.heap h'->oi led h' S es' e0 t'->EU P w h' es' t'->es'.toList.Perm (es.toList++[(eK P w ks,.ref p)])->Q b { s with heap:=h' }) :
  aG (aC P w) A (setAddHashed S (.ref p) (eK P w ks)) Q E s:=by
 have hsz:t.place.size=es.size:=by
  have:=y.fits;simp only[m7,ah,eb]at this;exact this.1
 apply cL;refine wb9 (eD y.obj W y.fits ?_);dsimp only;refine wb9 (Dz i_ y z O' (λh=>(wu9 (c3 _ h))) (λj F hs N R=>?_))
 .refine wb9 (eD y.obj W y.fits ?_);refine AO (λb=>?_) (λq=>ZA O' q) (λq=>wu9 (q _));have i :=(M5 y.ok.r j).1
  have n:({ cls:=.type "set",dict:=L,data:=.set es ep t }:m8).cls≠.type "tuple":=by
   simp
  generalize m:(if b=U then(t.put j).1 else { (t.put j).1 with plain:=J })=t1;have T':t1.place=dm t.place (aO t.place j) j:=by rw[<-m];split<;>rfl
  have L':t1.mask=t.mask:=by rw[<-m];split<;>rfl
  have G:CA led t1:=by
   have:=y.ok.put (Ds y.ok.d hs);rw[<-m];split
   .exact this
   .exact this.off
  have q4:∀x a,oh _ x a->oh t1 x a:=λx a h=>by
   rw[<-m];split
   .exact h
   .exact h.plain
  have C:t1.place.size=es.size+1:=by rw[T',Gm _ i,hsz]
  have g:(dm es (aO _ j) (eK P w ks,bY p)).size=es.size+1:=Gm _ (af i (ag hsz)) _;have c:=BL es (aO t.place j) (eK P w ks,bY p)
  have u:∀e,e∈(dm es (aO _ j) _).toList->e∈es.toList\/e=(eK P w ks,bY p):=λe he=>by
   rcases ax.mp (c.mem_iff.mp he)with h|h
   .exact .inl h
   .exact .inr (au.mp h)
  have H:=z.nf
  have v:t1.fits (dm es (aO t.place j) (eK P w ks,bY p)).size=U:=by
   simp only[m7,qy,ah,eb,c6,G.d];refine⟨aH (af (ag C) (ag g.symm)) (af (ag g) (ag C.symm)),?_⟩;show t1.place.size+0<=t1.mask;rw[L']
   rcases z.mask with e|e|e|e<;>rw[e]at H ⊢<;>omega
  have I:∀a∈t1.place.toList,a<=t1.mask:=λa ha=>by
   rw[T']at ha;rw[L']
   rcases ax.mp ((BL _ (aO _ j) j).mem_iff.mp ha)with h|h
   .exact z.le a h
   .rwa[au.mp h]
  have k:∀q∈(dm es (aO _ j) (eK P w ks,bY p)).toList.zip t1.place.toList,oh t1 q.1.1 q.2:=λq hq=>by
   rw[T']at hq
   rcases Qp es _ hsz.symm (af i (ag hsz)) _ _ hq with h|h
   .rw[h];exact q4 _ _ R
   .exact q4 _ _ (oh.mono (t:=t)  rfl (λa ha=>F8.mpr (.inr ha)) (z.std q h))
  rw[show(t.put j).2=aO _ j from rfl];generalize dm es (aO _ j) _=es1 at g c u v k ⊢;refine wb9 (AW y v G (by rw[g];exact af room cF) λh1 M U'=>?_)
  have B:∀h',dJ S _ h'->∀e∈es1.toList,∃l b,e.2=.ref b/\rK P w h' l b/\e.1=eK P w l:=λh' J' e he=>by
   rcases u e he with h|h
   .obtain⟨l,b,V,e1,X⟩:=z.el e h;exact⟨l,b,V,e1.keepsC y.obj n J',X⟩
   .rw[h];exact⟨ks,p,W,O'.keepsC y.obj n J',W⟩
  split
  .rename_i f
   have f:(es.size+1) * 5>=t.mask * 3:=by
    simp only[RB,oz,EY,qy,G.d,c6]at f;have:(#[]:c7 T).size=0:=rfl;exact XN (ZB 3 (ag L'.symm)) f (ZB 5 (ag C)) (ZB 5 (ag this))
   refine ac λ_ kq=>?_;obtain⟨m1,m2,m3,m4⟩:=Qu z.mask (by rwa[<-hsz]) f room;obtain⟨t',o,V,e1,X,r4,r5,K⟩:=Pa (h:=s.heap) (.inr m1) (af (ag g) m2) (lQ (ZB 5 (ag g)) m3) (B h1 M)
   apply kq;have hrl:t1.relaid (es1.map (·.1)) (i8 (es.size+1))=Y (t',o):=by
    unfold PySem.SetTable.relaid;rwa[G.l]
   refine wb9 (O9 U' (by exact af m4 cF) hrl e1 X r4 (by rw[g];exact af room cF) λh2 DA y2=>?_)
   have D:({ cls:=.type "set",dict:=L,data:=.set es1 (ep+1) t1 }:m8).cls≠.type "tuple":=by
    simp
   refine wu9 (new _ h2 _ _ _ F (M.trans DA) y2 ⟨K.mask,λe he=>?_,K.std,K.le,K.nf⟩ (r5.trans c));obtain⟨l,b,s1,s2,s3⟩:=K.el e he;exact⟨l,b,s1,s2.keepsC U'.obj D DA,s3⟩
  .rename_i f
   have f:(es.size+1) * 5<t.mask * 3:=by
    simp only[RB,oz,EY,qy,G.d,c6]at f;exact wc (ZB 5 (ag C.symm)) (cC f) (ZB 3 (ag L'))
   exact wu9 (new _ h1 _ _ _ F M U' ⟨by rw[L'];exact z.mask,B h1 M,k,I,by rwa[L',C]⟩ c)
end
section
variable{prog:bW}{w:cU}{A:bP}{s:ao}
abbrev zr(w:cU):m8:={ cls:=.type "set",dict:=L,data:=.set #[] 0 (.fresh 0 0 (t8 w)) }
def OO(a:ak)(k:Q (.ref s.heap.objs.size) { s with heap:=s.heap.push (zr w) }):e9 (aC prog w) A (.call (.builtin "set.__new__") ⟨[.type "set",a],[]⟩) (wants Q E) s:=by
 refine fR PySem.F.plain_set_new PySem.F.entry_set_new (Nz (PySem.F.newCall_set_1 a) ?_);have b:=sub_set_self;obtain⟨hp,g,d,c,os⟩:=s
 wp_walk
 apply yT;exact wu9 (wb9 (wpAny_alloc (wu9 (wu9 k))))
def Ac{T':ej}(P:TypeCalled T' S R)(ct:checkTypeCall T' ⟨args,[]⟩=pure ())(eI:lh table R=Y B)
  (C:e9 (aC prog w) A.in1 (.call (.builtin S) ⟨.type T'::args,[]⟩) (wants Q1 E) s)
  (hx:∀I s1,Q1 I s1->s1.TypeIs I T'/\e9 (aC prog w) A.in1 (.call (.builtin R) ⟨I::args,[]⟩) (wants (λr s2=>r=.none/\Q I s2) E) s1) :
  aG (aC prog w) A (call (.type T') args) Q E s:=by
 obtain⟨c,tl,n⟩:=P.mro;have o:=P.made;have p:=P.sub;refine wpAny_call (codeAny_of_tree ?_);refine wu9 (NZ (Code.quiet_builtin _ (by decide +kernel)) (kA PySem.F.entry_type_call ?_));have h:=P.notType;have e5:=P.canCreate
 repeat any_goals first|assumption|wp_step
 refine jc C λr s1 b=>?_
 cases r with
 |error e=>exact b
 |ok m=>
   cases m with
   |ret I=>
     obtain⟨i,f⟩:=hx _ _ b;have j:=P.init.lookup;have k:=P.init.bind I
     repeat any_goals first|assumption|wp_step
     refine jc f λg s2 a=>?_
     cases g with
     |error e=>exact a
     |ok d=>
       cases d with
       |ret r=>
         obtain⟨rfl,l⟩:=a
         repeat any_goals first|assumption|wp_step
       |_=>exact a.elim
   |_=>exact b.elim
def IT{T':ej}(ty:s.TypeIs v T')(a:g7 (.type T') (.type "set")=pure J)(b:g7 (.type T') (.type "frozenset")=pure J)(k:Q J s):aG M A (NH v) Q E s:=by
 exact wb9 (eW ty a (eW ty b k))
variable{K:Type}[ef K]
def Nc(prog:bW)(w:cU)(h:bJ)(v:ak)(n:T)(P:T->ak->Prop):Prop:=
 ∀(A1:bP)(c:ak->ao->Prop)(s1:ao)(d:ak->ao->Prop),h.objs.size<s1.heap.objs.size->(∀b o,h.get? b=Y o->s1.heap.get? b=Y o)->
  (∀(o:m8)(fp:O aN)(St:T->bJ->Prop),(∀a,a.handled=L->Walks prog w a s1.heap.objs.size fp [s1.heap.objs.size] n P St)->(∀b∈fp,b=s1.heap.objs.size\/b<h.objs.size)->St 0 (s1.heap.push o)->
   d (.ref s1.heap.objs.size) { s1 with heap:=s1.heap.push o })->aG (aC prog w) A1 (CY v) d c s1
def Yw{T':ej}(hh:A.handled=L)(ty:∀s1:ao,(∀b o,s.heap.get? b=Y o->s1.heap.get? b=Y o)->s1.TypeIs v T')
  (a:g7 (.type T') (.type "set")=pure J)(b:g7 (.type T') (.type "frozenset")=pure J)(nd:(jW T' == jW "dict")=J)(B:Nc prog w s.heap v n P)
  (keep:∀{i h C},(∀b o,b≠s.heap.objs.size+1->h.get? b=Y o->C.get? b=Y o)->Hs h i->Hs C i)(add:Ng prog w A.in1.in1.in1 s.heap.objs.size n P Hs)
  (h0:∀o,Hs ((s.heap.push (zr w)).push o) 0)
  (k:∀C I,Hs C n->(∀b o,s.heap.get? b=Y o->C.get? b=Y o)->Q (.ref s.heap.objs.size) { s with heap:=C,toks:=I }) :
  aG (aC prog w) A (call (.type "set") [v]) Q E s:=by
 apply Ac (Q1:=λg s1=>g=.ref s.heap.objs.size/\s1={ s with heap:=s.heap.push (zr w) }) C7 (PySem.F.typeCall_set_1 v) yX (OO v ⟨W,W⟩);rintro g s1 ⟨rfl,rfl⟩;have gS:(s.heap.push (zr w)).get? s.heap.objs.size=Y (zr w):=aT _ W;have j:Shared.TypeIs { s with heap:=s.heap.push (zr w) } (.ref s.heap.objs.size) "set":=⟨_,gS,W⟩
 refine⟨j,fR C7.init.plain yX (check_set_init_1 j ?_)⟩;have r:∀b o,s.heap.get? b=Y o->(s.heap.push (zr w)).get? b=Y o:=λb o e=>hp9 _ e;unfold jB.«set.__init__» noKeywords;generalize l:NF=U'
 wp_walk
 subst l;refine wb9 (IT (ty _ r) a b ?_);refine wb9 (jU (ty _ r) ?_);rw[nd];have sz:(s.heap.push (zr w)).objs.size=s.heap.objs.size+1:=jr ..;refine wb9 (B _ _ _ _ (by simp) r λo fp St p c st=>?_);refine wb9 (PySem.wpAny_runValue ?_);refine X3 (Hs:=Hs) (p _ (by simp[hh])).toS (λm=>?_) (λh=>keep λb o hb=>h b o (by simpa [sz]using hb)) add n 0 _ W (aU _) st (h0 o) λt m y=>?_
 .rcases c _ m with q|q
  .exact absurd (q.trans sz) (ba (jF _))
  .exact absurd q (bH _)
 .apply wu9;obtain⟨C,u,x,d,f⟩:=t;obtain rfl:u=s.gens:=m.gens;obtain rfl:x=s.drawn:=m.drawn;obtain rfl:f=s.os:=m.os;refine wu9 ⟨W,k C d y λb o e=>m.heap b o (λz=>?_) (hp9 _ (hp9 _ e))⟩;have lt:=hl9 e
  grind
end
section
variable{P:bW}{w:cU}
def _root_.L2.tw.mono{f:bJ}(x:tw I h B p)(k:∀b o,h.get? b=Y o->f.get? b=Y o):tw I f B p:=x.mW λb o e _ _=>k b o e
def EX(P:bW)(w:cU)(led:cc)(h:bJ)(S:aN)(f:T->O NK)(B:T->aN)(i:T):Prop:=
 ∃b c t a,oi led h S b c t/\EU P w h b t/\nD (λ(e:cx×ak)j=>e.2=.ref (B j)) b.toList a/\(a.map f).Nodup/\(∀j∈a,j<i)/\∀j,j<i->f j∈a.map f
variable{kf:T->O NK}{av:T->aN}
def EX.keep{B:bJ}(y:EX P w led h S kf av i)(k:∀o,h.get? S=Y o->B.get? S=Y o)(a:∀j,j<i->rK P w h (kf j) (av j))(b:∀j,j<i->rK P w B (kf j) (av j)):EX P w led B S kf av i:=by
 refine ac λ_ r=>?_;obtain⟨v,x,t,z,n,c,f,p,d,q⟩:=y;apply r;refine⟨v,x,t,z,n.keep k,⟨c.mask,λe he=>?_,c.std,c.le,c.nf⟩,f,p,d,q⟩;refine ac λ_ r=>?_;obtain⟨l,b0,s,A,u⟩:=c.el e he;obtain⟨j,g,m⟩:=p8 f he;apply r;rw[m]at s;cases s;rw[A.inj (a j (d j g))]at u;exact⟨_,_,m,b j (d j g),u⟩
variable{A:bP}{G:c7 mT->c7 mT->Prop}{St:T->ao->Prop}
def Qt{h:bJ}{es:c7 (cx×ak)}{C:O T}{i m:T}(B:nD (λ(e:cx×ak) j=>e.2=.ref (av j)) es.toList C)(F:∀j∈C,j<i)(a:∀j,j<m->rK P w h (kf j) (av j))(hi:i<m) :
  (∃e∈es.toList,∃b,e.2=.ref b/\rK P w h (kf i) b)↔kf i∈C.map kf:=by
 constructor
 .rintro⟨e,he,b,c,k⟩;obtain⟨j,d,f⟩:=p8 B he;rw[f]at c;cases c;rw[k.inj (a j (cR (F j d) hi))];exact dh d
 .intro q;obtain⟨j,d,e⟩:=bZ.mp q;obtain⟨x,g,f⟩:=se B d;exact⟨x,g,_,f,e▸a j (cR (F j d) hi)⟩
def Z8(c3:∀i v,Pv i v->v=.ref (av i))(hk:∀j,j<n->rK P w h0 (kf j) (av j))(B:h0.get? S=L)(hb:n<=300)(O':A.units+3<=eE) :
  Ng P w A S n Pv λh i=>(i<=n/\∀b o,h0.get? b=Y o->h.get? b=Y o)/\EX P w led h S kf av i:=by
 intro i v s Q E hi I y k;obtain⟨⟨M,g⟩,es,ep,t,V,x,C,f,l,m,D⟩:=y;obtain rfl:=c3 i v I;have kin:∀j,j<n->rK P w s.heap (kf j) (av j):=λj c=>(hk j c).mono g;refine cL (wb9 (Em O' (kin i hi) ?_));have len:=qT f;rw[bM]at len
 have q:Z V<=i:=by
  have J' :=(gV.mp l).imp λh e=>h (c8 kf e);have:=tX J' gp λj c=>bq.mpr (m j c)
  simp_all
 have has:=Qt f m kin hi;refine add_n O' x C (kin i hi) (XN (ag len) q hi hb) (λb r=>?_) (λb h' X u t' r F K L' p=>?_)
 .refine k _ _ _ (PySem.Heap.SameBut.refl ..) (aZ _ _) ⟨⟨hi,g⟩,es,ep,t,V,x,C,f,l,λj c=>oy (m j c),λj c=>?_⟩;by_cases e:j=i
  .clear c3 hk B hb O' hi k g x C f l m D I kin len q c; subst e;exact has.mp r
  .exact D j (bw (iY c) e)
 .obtain⟨d,c1,c2⟩:=uy p (ux (R:=λ(e)j=>e.2=.ref (av j)) W f);have N :=λz=>r (has.mpr z)
  have H:(d.map kf).Perm (V.map kf++[kf i]):=by
   have:=c2.map kf
   rwa [dB]at this
  refine k _ h' _ F (aZ _ _) ⟨⟨hi,λb o e=>?_⟩,X,u,t',d,K,L',c1,?_,λj c=>?_,λj c=>?_⟩
  .rw[F.2 b λz=>by rw[z,B]at e;cases e];exact g b o e
  .refine H.nodup_iff.mpr (cO.mpr ⟨l,a6.mpr ⟨by simp,fL⟩,λa ha b hb=>?_⟩)
   grind
  .grind
  .rw[H.mem_iff];by_cases e:j=i
   .grind
   .exact aF _ (D j (bw (iY c) e))
end
section
variable{A:bP}{s:ao}
def Hx{T':ej}(hh:A.handled=L)(ty:∀s1:ao,(∀b o,s.heap.get? b=Y o->s1.heap.get? b=Y o)->s1.TypeIs v T')
  (a:g7 (.type T') (.type "set")=pure J)(b:g7 (.type T') (.type "frozenset")=pure J)(nd:(jW T' == jW "dict")=J)(B:Nc P w s.heap v n Pv)
  (f:∀i v,Pv i v->v=.ref (I i))(hk:∀j,j<n->rK P w s.heap (S j) (I j))(hb:n<=300)(C:A.in1.in1.in1.units+3<=eE)
  (k:∀F R,EX P w (t8 w) F s.heap.objs.size S I n->(∀b o,s.heap.get? b=Y o->F.get? b=Y o)->Q (.ref s.heap.objs.size) { s with heap:=F,toks:=R }) :
  aG (aC P w) A (call (.type "set") [v]) Q E s:=by
 have l:∀o b g,s.heap.get? b=Y g->((s.heap.push (zr w)).push o).get? b=Y g:=λo b g e=>hp9 _ (hp9 _ e);have low:∀b o,s.heap.get? b=Y o->b≠s.heap.objs.size+1:=λb o e=>ba (oy (hl9 e));refine Yw (Hs:=λh i=>(i<=n/\∀b o,s.heap.get? b=Y o->h.get? b=Y o)/\EX P w (t8 w) h s.heap.objs.size S I i) hh ty a b nd B (λ{i h F}q y=>have m:=λb o e=>q b o (low b o e) (y.1.2 b o e);⟨⟨y.1.1,m⟩,y.2.keep (λo=>q _ o (ba (jF _))) (λj c=>(hk j (aS c y.1.1)).mono y.1.2) λj c=>(hk j (aS c y.1.1)).mono m⟩) (Z8 f hk (lO (aq _)) hb C) (λo=>⟨⟨aU _,l o⟩,?_⟩) λF R y=>k F R y.2;refine⟨#[],0,_,[],⟨hp9 _ (aT _ W),by rfl,CA.fresh _⟩,⟨.inl rfl,λe he=>by simp at he,λq d=>by simp at d,λj c=>?_,by show 0 * 5<7 * 3;decide⟩,.nil,fL,λj c=>by simp at c,λj c=>((a7 c (aU _))).elim⟩;simp[SetTable.fresh]at c
end
end L2
local macro_rules | `(tactic| walk_at $s:str) => if s.getString.startsWith "u " then do let n := Lean.mkIdent (Lean.mkPrivateNameCore `PySem.Builtin.List.W1All (`PySem.Builtin ++ (s.getString.drop 2).toString.toName)); `(tactic| delta $n:ident) else Lean.Macro.throwUnsupported
namespace L2
open PySem.W
structure Lt(lt:T->T->cc):Prop where
 tr:∀i j k,lt i j=U->lt j k=U->lt i k=U
 co:∀i j,i≠j->lt i j=J->lt j i=U
 as:∀i j,lt i j=U->lt j i=J
noncomputable def zP:cc->jZ->c7 jZ->T->T->T->ed bS He (ar T):=sortPriv% PySem.Builtin.gallop
def BA:c7 jZ->c7 jZ->ed bS He (c7 jZ):=sortPriv% PySem.Builtin.mergeLo
def BB:c7 jZ->c7 jZ->ed bS He (c7 jZ):=sortPriv% PySem.Builtin.mergeHi
section
variable{P:bW}{w:cU}{A:bP}{E:ak->ao->Prop}{s:ao}{κ:qC}{it:T->jZ}{lt:T->T->cc}{N:T}
def Wt(P:bW)(w:cU)(A:bP)(E:ak->ao->Prop)(s:ao){α:Type}(m:ed bS He α)(G:α->bS->Prop)(st:bS):Prop:=
 kasC (aC P w) A E m (λr a b=>G r a/\b=s) st s
variable{α β:Type}{G:β->bS->Prop}{st:bS}
def Wt.pure(h:G b st):Wt P w A E s (pure b) G st:=kasC_pure ⟨h,W⟩
def Wt.bind(h:Wt P w A E s m (λa B=>Wt P w A E s (f a) G B) st):Wt P w A E s (m >>= f) G st:=
 kasC_bind (bO h (λ_ _ z=>by clear h; obtain⟨z,rfl⟩:=z;exact z) λ_ _ e=>e)
def Wt.mono(h:Wt P w A E s m C st)(f:∀b B,C b B->G b B):Wt P w A E s m G st:=
 bO h (λ_ _ z=>⟨f _ _ z.1,z.2⟩) λ_ _ e=>e
def Wt.get{G:bS->bS->Prop}(h:G st st):Wt P w A E s (get:ed bS He bS) G st:=kasC_get ⟨h,W⟩
def Wt.modify{G:PUnit->bS->Prop}(h:G ⟨⟩ (f st)):Wt P w A E s (modify f:ed bS He PUnit) G st:=kasC_modify ⟨h,W⟩
def Wt.set{G:PUnit->bS->Prop}(h:G ⟨⟩ f):Wt P w A E s (MonadStateOf.set f:ed bS He PUnit) G st:=by
 exact wu9 ⟨h,W⟩
def Wt.rule{G:Unit->bS->Prop}(h:G () st):Wt P w A E s (liftM (rule n):ed bS He Unit) G st:=kasC_lift (kJ ⟨h,W⟩)
abbrev Stp(G I:β->bS->Prop):ft β->bS->Prop
 |.done b,st=>G b st
 |.yield b,st=>I b st
def Wt.loop{l:O T}{b:β}{f:T->β->ed bS He (ft β)}(I:T->β->bS->Prop)(h0:I 0 b st)
  (hb:∀j x b st,l[j]?=Y x->I j b st->Wt P w A E s (f x b) (Stp G (I (j+1))) st)(he:∀b st,I l.length b st->G b st):Wt P w A E s (forIn l b f) G st:=by
 have go:∀(r:O _)(j:T)(b:β)(st:bS),j+Z r=Z l->(∀k,r[k]?=l[j+k]?)->I j b st->Wt P w A E s (forIn r b f) G st:=by
  intro r
  induction r with
  |nil=>
    intro j b st a _ hi;exact kasC_nil ⟨he b st (by rwa[<-a]),W⟩
  |cons x r i=>
    intro j b st a g hi;refine kasC_cons (bO (hb j x b st ((g 0).symm) hi) (λc m z=>?_) λ_ _ e=>e);clear h0 hb he hi; obtain⟨c,d⟩:=c;obtain⟨z,rfl⟩:=z
    cases c with
    |done h=>exact⟨z,W⟩
    |yield h=>
      exact i _ h d (by exact aH (iY (ag a)) (iY (ag a.symm))) (λk=>by have:=g (k+1);grind) z
 simp_all
def Wt.range(I:T->β->bS->Prop)(h0:I 0 c st)
  (hb:∀j B st,j<b - a->I j B st->Wt P w A E s (f (a+j) B) (Stp G (I (j+1))) st)(he:∀B st,I (b - a) B st->G B st):Wt P w A E s (forIn [a:b] c f) G st:=
 kasC_range (Wt.loop I h0 (λj x B st d hi=>by
  have e:j<b - a:=by simpa using ((aK.mp d).1)
  rw[List.getElem?_range' e]at d;cases d
  simp_all) λB st hi=>he B st (by simp_all))
def uR(P:bW)(w:cU)(A:bP)(s:ao)(κ:qC)(it:T->jZ)(lt:T->T->cc)(N:T):Prop:=
 ∀i j,i<N->j<N->∀C:cc->ao->Prop,C (lt i j) s->aG (aC P w) A (keyLt' κ (it i).1 (it j).1) C (λ_ _=>False) s
def Wt.ask{G:ar cc->bS->Prop}(h:uR P w A s κ it lt N)(hk:kindOf st=κ)(hi:i<N)(B:j<N)(g:G (Y (lt i j)) st):Wt P w A E s (lt' (it i) (it j)) G st:=by
 rw[lt'_eq];refine kasC_bind (kasC_get ?_);refine kasC_bind (kasC_lift (mM ?_));rw[hk];exact bO (h i j hi B (λc a=>c=lt i j/\a=s) ⟨W,W⟩) (λc a ⟨b,d⟩=>by subst b d;exact kasC_pure ⟨g,W⟩) λ_ _ z=>z.elim
noncomputable abbrev Ar(it:T->jZ)(l:O T):c7 jZ:=(l.map it).toArray
def Wt.elem{G:jZ->bS->Prop}(h:l[i]?=Y x)(g:G (it x) st):Wt P w A E s (elem' (Ar it l) i) G st:=by
 rw[elem'_eq];have:(Ar it l)[i]?=Y (it x):=by simp[h]
 rw[this];exact .pure g
end
section
variable{st:bS}
abbrev GSt:=ar (ar T)×T×T
def Gw{lo:T}(h1:lo<=k)(h2:k<=hi)(h3:hi<=n)
  (hf:∀x lo hi(C:ft GSt->bS->Prop),lo<=k->k<=hi->hi<=n->(lo>=hi->C (.done (L,lo,hi)) st)->(lo<hi->lo+(hi - lo) / 2<k->C (.yield (L,lo+(hi - lo) / 2+1,hi)) st)->
   (lo<hi->¬lo+(hi - lo) / 2<k->C (.yield (L,lo,lo+(hi - lo) / 2)) st)->Wt P w A E s (f x (L,lo,hi)) C st) :
  Wt P w A E s (forIn [0:n] ((L,lo,hi):GSt) f) (λb B=>B=st/\∃lo,b=(L,lo,k)) st:=by
 refine Wt.range (λj b B=>B=st/\∃lo hi,b=(L,lo,hi)/\lo<=k/\k<=hi/\hi<=n/\hi - lo<=n - j) ⟨W,lo,hi,W,h1,h2,h3,af (yY _ _) h3⟩ (λj b B i z=>?_) λb B z=>by grind
 refine ac λ_ m=>?_;obtain⟨e,lo,hi,o,a,c,d,l⟩:=z;subst e o;apply m;refine hf _ lo hi _ a c d (λq=>⟨W,lo,by congr;exact aH (af q a) c⟩) (λh g=>⟨W,_,_,W,g,c,d,a4 (wS hi (lo + (hi - lo) / 2 + 1) (lQ g c)) (wt (aE h)) l (ws (aE i)) (wt i)⟩) λh g=>⟨W,_,_,W,a,cj g,wc (ws (aE h)) (wd (hi - lo)) d,a4 (wS (lo + (hi - lo) / 2) lo (lw0)) (a3 lo hi (iY h)) l (ws (aE i)) (wt i)⟩
def Iq{left:cc}{x:T}{l:O T}{base n hint k:T}{g:T->T}{G:ar T->bS->Prop}(as:uR P w A s κ it lt N)(hk:kindOf st=κ)(R:x<N)(hl:∀i,i<n->l[base+i]?=Y (g i)/\g i<N)
  (F:∀i,i<n->(if left=U then lt (g i) x else !(lt x (g i)))=decide (i<k))(B:k<=n)(hh:hint<n)(q:G (Y k) st):Wt P w A E s (zP left (it x) (Ar it l) base n hint) G st:=by
 have hb:∀i,i<n->∀{K:ar _->bS->Prop},K (Y (decide (i<k))) st->Wt P w A E s (do
   let y <-elem' (Ar it l) (base+i)
   if left=U then lt' y (it x)else do
    let b <-lt' (it x) y
    pure (b.map λz=>!z)) K st:=by
  intro i hi K D;obtain⟨H,M⟩:=hl i hi;refine .bind (.elem H ?_)
  cases left with
  |true=>
    apply Wt.ask as hk M R
    simp_all
  |false=>
    refine .bind (Wt.ask as hk R M (.pure ?_))
    simp_all
 unfold zP;walk_at "u gallop";refine .bind (hb _ hh ?_);by_cases c:hint<k
 .rw[c0 c]
  refine .bind (Wt.mono (Wt.range (G:=λb a=>a=st/\∃lo of:T,b=((L,lo,of))/\hint+lo<k/\lo<of/\(k<=hint+of\/n - hint<=of)) (λj b a=>a=st/\∃lo of:T,b=((L,lo,of))/\hint+lo<k/\lo<of/\j+1<=of)
   ⟨W,0,1,W,by omega,by simp,cF⟩ (λj b a C z=>?_) λb a z=>by obtain⟨e,lo,of,H,f,h,m⟩:=z;exact⟨e,lo,of,H,f,h,.inl (wc B (wT n 0) m)⟩) λb a z=>?_)
  .refine ac λ_ t=>?_;obtain⟨e,lo,of,H,f,h,m⟩:=z;subst e H;apply t;by_cases d:of>=n - hint
   .rw[a5 d];exact .pure ⟨W,lo,of,W,f,h,.inr d⟩
   .rw[cb d];refine .bind (hb (hint+of) (lQ (ws (aE hh)) (cC d)) ?_);by_cases I:hint+of<k
    .rw[c0 I];exact .pure ⟨W,of,_,W,I,lw0,iY m⟩
    .rw[c4 I];exact .pure ⟨W,lo,of,W,f,h,.inl (cj I)⟩
  .obtain⟨e,lo,of,H,f,h,m⟩:=z;subst e H;refine .bind (Wt.mono (Gw (hi:=hint+min of _) (f) (by
   rw[<-Nat.add_min_add_left];exact Nat.le_min.mpr ⟨m.elim id λz=>wc B (wt (aE hh)) z,lQ B (wt (aE hh))⟩) (lQ (ws (aE hh)) (pE of (n - hint))) λy lo hi K f h m p r v=>?_) λb a z=>by refine ac λ_ t=>?_;clear hh c f h m hb; obtain⟨e,lo,H⟩:=z;subst e H;apply t;exact .pure q);by_cases c:lo>=hi
   .rw[a5 c];exact .pure (p c)
   .rw[cb c];refine .bind (hb (lo+(hi - lo) / 2) (wc (ws (aE (cC c))) (a3 lo hi (iY (cC c))) m) ?_);by_cases d:lo+(hi - lo) / 2<k
    .rw[c0 d];exact .pure (r (cC c) d)
    .rw[c4 d];exact .pure (v (cC c) d)
 .rw[c4 c]
  refine .bind (Wt.mono (Wt.range (G:=λb a=>a=st/\∃lo of:T,b=((L,lo,of))/\k<=hint - lo/\lo<=hint/\lo<of/\(hint - of<k/\of<=hint\/hint+1<=of)) (λj b a=>a=st/\∃lo of:T,b=((L,lo,of))/\k<=hint - lo/\lo<=hint/\lo<of/\j+1<=of)
   ⟨W,0,1,W,cj c,aU _,by simp,by decide⟩ (λj b a C z=>?_) λb a z=>by obtain⟨e,lo,of,H,o,f,h,m⟩:=z;exact⟨e,lo,of,H,o,f,h,.inr (cR hh m)⟩) λb a z=>?_)
  .obtain⟨e,lo,of,H,o,f,h,m⟩:=z;subst e H;by_cases d:of>=hint+1
   .rw[a5 d];exact .pure ⟨W,lo,of,W,o,f,h,.inr d⟩
   .rw[cb d];refine .bind (hb (hint - of) (NM hh) ?_);by_cases I:hint - of<k
    .rw[c0 I];exact .pure ⟨W,lo,of,W,o,f,h,.inl ⟨I,cj d⟩⟩
    .rw[c4 I];exact .pure ⟨W,of,_,W,cj I,cj d,lw0,iY m⟩
  .clear as hk R hl F B; obtain⟨e,lo,of,H,o,f,h,m⟩:=z;subst e H;refine .bind (Wt.mono (Gw (k:=k) (lo:=hint+1 - min of _) (by omega) (by omega) (aE (NM hh)) λy lo hi K f h m p r v=>?_) λb a z=>by obtain⟨e,lo,H⟩:=z;subst e H;exact .pure q);by_cases c:lo>=hi
   .rw[a5 c];exact .pure (p c)
   .rw[cb c];refine .bind (hb (lo+(hi - lo) / 2) (wc (ws (aE (cC c))) (a3 lo hi (iY (cC c))) m) ?_);by_cases d:lo+(hi - lo) / 2<k
    .rw[c0 d];exact .pure (r (cC c) d)
    .rw[c4 d];exact .pure (v (cC c) d)
end
def RN:T->ed bS He Unit:=sortPriv% PySem.Builtin.setMinGallop
section
variable{st:bS}{β:Type}{G:β->bS->Prop}
def Wt.ON{G:Unit->bS->Prop}(h:G () (mO (kindOf st) (arrOf st) (hK st) g (l6 st))):Wt P w A E s (RN g) G st:=by
 unfold RN;walk_at "u setMinGallop";exact .modify h
def Wt.wy(Q:(ed bS He β->Prop)->Prop)(h1:Q λm=>Wt P w A E s m G st)(h2:(Q λm=>Wt P w A E s m G st)->Wt P w A E s m G st):Wt P w A E s m G st:=h2 h1
def Wt.Zs{c:Prop}[ew c](h:c)(x:Wt P w A E s m G st):Wt P w A E s (if c then m else f) G st:=by rwa[a5 h]
def Wt.Gi{c:Prop}[ew c](h:¬c)(x:Wt P w A E s f G st):Wt P w A E s (if c then m else f) G st:=by rwa[cb h]
def Wt.ite{c:Prop}[ew c](x:c->Wt P w A E s m G st)(y:¬c->Wt P w A E s f G st):Wt P w A E s (if c then m else f) G st:=by
 by_cases h:c
 .exact .Zs h (x h)
 .exact .Gi h (y h)
end
abbrev fe(lt:T->T->cc)(l:O T):Prop:=l.Pairwise λx y=>lt x y=U
section
variable{lt:T->T->cc}{a b out:O T}{ia ib:T}
structure ML(lt:T->T->cc)(a b out:O T)(ia ib:T):Prop where
 so:fe lt out
 M5:∀x∈out,∀y,y∈a.drop ia\/y∈b.drop ib->lt x y=U
 pm:(out++(a.drop ia++b.drop ib)).Perm (a++b)
def ML.swap(h:ML lt a b out ia ib):ML lt b a out ib ia:=
 ⟨h.so,λx c y d=>h.M5 x c y d.symm,((kn _ eo).trans h.pm).trans eo⟩
def ML.start:ML lt a b [] 0 0:=⟨.nil,λx c=>by simp at c,by simp⟩
def ML.qF(h:ML lt a b out ia ib)(B:fe lt b)(k:T)(hc:∀y∈(b.drop ib).take k,∀x∈a.drop ia,lt y x=U):ML lt a b (out++(b.drop ib).take k) ia (ib+k):=by
 have e:b.drop ib=(b.drop ib).take k++b.drop (ib+k):=by rw[<-kG];exact(bf k _).symm
 have f:fe lt (b.drop ib):=B.sublist (fP _ _);rw[e]at f;refine⟨eM.mpr ⟨h.so,(eM.mp f).1,λx d y c=>h.M5 x d y (.inr (cP c))⟩,λx d y c=>?_,?_⟩
 .rcases ax.mp d with d|d
  .refine h.M5 x d y (c.imp id λc=>?_);rw[e];exact aw _ c
  .rcases c with c|c
   .exact hc x d y c
   .exact (eM.mp f).2.2 x d y c
 .refine E5 ?_ h.pm
  conv=>rhs;rw[e]
  rw[aM];apply kn _;rw[<-aM,<-aM];exact List.Perm.append_right _ eo
def ML.xV(h:ML lt a b out ia ib)(sa:fe lt a)(k:T)(hc:∀y∈(a.drop ia).take k,∀x∈b.drop ib,lt y x=U):ML lt a b (out++(a.drop ia).take k) (ia+k) ib:=
 (h.swap.qF sa k hc).swap
def ML.fin(h:ML lt a b out ia ib)(sa:fe lt a)(hb:Z b<=ib):fe lt (out++a.drop ia++b.drop ib)/\(out++a.drop ia++b.drop ib).Perm (a++b):=by
 refine⟨?_,by rw[aM];exact h.pm⟩;rw[(kF hb),aL];exact eM.mpr ⟨h.so,sa.sublist (fP _ _),λx c y d=>h.M5 x c y (.inl d)⟩
def kg{l:O T}{i x:T}(h:l[i]?=Y x):l.drop i=x::l.drop (i+1):=by
 rw[fj (aK.mp h).1,(aK.mp h).2]
def take_one{l:O T}{i x:T}(h:l[i]?=Y x):(l.drop i).take 1=[x]:=by rw[kg h];rfl
def sP(o:Lt lt)(sl:fe lt l)(h:l[i]?=Y x)(c:lt y x=U):∀z∈l.drop i,lt y z=U:=λz d=>by
 rw[kg h]at d;have e:=sl.sublist (fP i _);rw[kg h]at e
 rcases aA.mp d with rfl|d
 .exact c
 .exact o.tr _ _ _ c ((fB.mp e).1 z d)
def ML.sQ(h:ML lt a b out ia ib)(sa:fe lt a)(B:fe lt b)(hc:∀y∈b.drop ib,∀x∈a.drop ia,lt y x=U):fe lt (out++b.drop ib++a.drop ia)/\(out++b.drop ib++a.drop ia).Perm (a++b):=by
 have q:=(h.qF B _ (λy c=>hc y (cP c))).fin sa (fS _ _);rw[cM (by simp)]at q;rwa[(kF (fS _ _)),aL]at q
def nv:(Ar it l).push (it x)=Ar it (l++[x]):=by simp
def nP:Ar it l++(Ar it b).extract i j=Ar it (l++(b.drop i).take (j - i)):=by
 simp
def cD:(Ar it l).size=Z l:=by simp
def iS{l:O T}:(l.drop i).take (Z l - i)=l.drop i:=cM (by simp)
def FL(o:Lt lt)(sl:fe lt l)(y:T):∃k,k<=Z l/\∀i x,l[i]?=Y x->lt x y=decide (i<k):=by
 induction l with
 |nil=>simp
 |cons a l e=>
   obtain⟨s1,s2⟩:=fB.mp sl;obtain⟨k,h1,h2⟩:=e s2
   cases c:lt a y with
   |true=>
     refine⟨k+1,by simpa using h1,λi x h=>?_⟩
     cases i with
     |zero=>cases h;rw[c];simp
     |succ i=>rw[h2 i x (by simpa using h)];simp
   |false=>
     refine⟨0,by simp,λi x h=>?_⟩
     cases i with
     |zero=>cases h;rw[c];simp
     |succ i=>
       cases d:lt x y with
       |false=>simp
       |true=>rw[o.tr _ _ _ (s1 x (aY (by simpa using h))) d]at c;cases c
section
def ua(o:Lt lt)(as:uR P w A s κ it lt N){l:O T}{base:T}(C:base+n<=Z l)(sl:fe lt ((l.drop base).take n))(B:∀x∈(l.drop base).take n,x<N/\x≠y)(F:y<N) :
  ∃k,k<=n/\(∀z∈((l.drop base).take n).take k,lt z y=U)/\(∀z∈((l.drop base).take n).drop k,lt y z=U)/\
   ∀{E:ak->ao->Prop}(left:cc)(hint:T){G:ar T->bS->Prop}{st:bS},kindOf st=κ->hint<n->G (Y k) st->Wt P w A E s (zP left (it y) (Ar it l) base n hint) G st:=by
 generalize r:(l.drop _).take n=L' at sl B;have d:Z L'=n:=by grind
 have f:∀i,i<n->L'[i]?=l[base+i]? :=λi hi=>by grind
 clear C r; obtain⟨k,m,p⟩:=FL o sl y;refine⟨k,af m (ag d),λz h=>?_,λz h=>?_,λleft hint G st hk hh q=>?_⟩
 .obtain⟨i,hi⟩:=gY h;rw[dz]at hi
  grind
 .obtain⟨i,hi⟩:=gY h;rw[tj]at hi;apply o.co _ _ (B z (aY hi)).2;rw[p _ z hi,c4 (by simp)]
 .refine Iq (g:=λi=>L'.getD i 0) as hk F (λi hi=>?_) (λi hi=>?_) (af m (ag d)) hh q
  .have e:=ai ((af hi (ag d.symm)));refine⟨by rw[<-f i hi];simp[e],?_⟩;simpa [e]using ((B _ (aY e)).1)
  .have e:=ai ((af hi (ag d.symm)));have j:L'.getD i 0=L'[i]:=by simp[e]
   rw[j]
   cases left with
   |true=>exact (p i _ e)
   |false=>
     rw[<-(p i _ e)]
     cases c:lt _ y with
     |true=>rw[o.as _ _ c];rfl
     |false=>rw[o.co _ _ ((B _ (aY e)).2) c];rfl
end
end
section
variable{it:T->jZ}{lt:T->T->cc}
noncomputable abbrev vO(st:bS)(g:T):bS:=mO (kindOf st) (arrOf st) (hK st) g (l6 st)
def Res(it:T->jZ)(lt:T->T->cc)(l:O T)(r:c7 jZ):Prop:=∃R,r=Ar it R/\fe lt R/\R.Perm l
def wAL(it:T->jZ)(lt:T->T->cc)(a b:O T)(X:c7 jZ)(f B:T):Prop:=∃out,X=Ar it out/\ML lt a b out f B
structure Mid(I:c7 jZ->T->T->Prop)(na nb m:T)(X:c7 jZ)(ia ib:T):Prop where
 ml:I X ia ib
 ha:ia+1<na
 hb:ib<nb
 m:m<=ia+ib
theorem nlt{i n:T}(h:i<n)(d:¬(i+1==n)=true):i+1<n:=bw h fun e=>d (beq_iff_eq.mpr e)
def Wt.rg{τ R β' γ:Type}{a b:T}{f:T->ar R×β'->ed bS He (ft (ar R×β'))}{k:ar R×β'->ed bS He γ}{G:γ->bS->Prop}{Q:R->Prop}{I':c7 jZ->T->T->Prop}{X:c7 jZ}{S ib:T}{r:τ}(I:T->c7 jZ->T->T->Prop)(z:c7 jZ->T->T->τ->β')(t:τ->bS)(h0:I 0 X S ib)(he:∀X S ib,¬I (b - a) X S ib)
  (C:∀r x B,Q r->Wt P w A E s (k (Y r,x)) G (t B))(F:∀X S ib r,I' X S ib->Wt P w A E s (k (L,z X S ib r)) G (t r))
  (hb:∀j X S ib r(G:ft (ar R×β')->bS->Prop),I j X S ib->(∀r x B,Q r->G (.done (Y r,x)) (t B))->(∀X S ib r,I' X S ib->G (.done (L,z X S ib r)) (t r))->(∀X S ib r,I (j+1) X S ib->G (.yield (L,z X S ib r)) (t r))->Wt P w A E s (f (a+j) (L,z X S ib r)) G (t r)) :
  Wt P w A E s (forIn [a:b] (L,z X S ib r) f >>= k) G (t r):=
 .bind (.range (λj b st=>∃X S ib r,b=(L,z X S ib r)/\st=t r/\I j X S ib) ⟨_,S,ib,r,W,W,h0⟩ (λj b st c q=>by
  obtain⟨_,_,_,_,rfl,rfl,h⟩:=q;exact hb _ _ _ _ _ _ h C F λX S ib r h=>⟨X,S,ib,r,W,W,h⟩) λb st q=>by
  obtain⟨_,_,_,_,_,_,h⟩:=q;exact (he _ _ _ h).elim)
abbrev wbn(P:bW)(w:cU)(A:bP)(E:ak->ao->Prop)(s:ao)(m:ed bS He α)(x:α):Prop:=∀{a:Type}{f:α->ed bS He a}{G:a->bS->Prop}{st:bS},Wt P w A E s (f x) G st->Wt P w A E s (m>>=f) G st
section
variable{a b:O T}
theorem wAL.swap(h:wAL it lt a b X f B):wAL it lt b a X B f:=by
 obtain⟨o,e,h⟩:=h;exact⟨o,e,h.swap⟩
theorem wAL.tB(o:Lt lt)(sa:fe lt a)(f:fe lt b)(h:wAL it lt a b X B C)(h1:a[B]?=Y x)(h2:b[C]?=Y y)(c:lt y x=U):wAL it lt a b (X.push (it y)) B (C+1):=by
 obtain⟨out,rfl,h⟩:=h;refine⟨out++[y],nv,?_⟩
 have:=h.qF f 1 (λz p=>by rw[take_one h2,au]at p;subst p;exact sP o sa h1 c);rw[take_one h2]at this;exact this
theorem wAL.fin(sa:fe lt a)(h:wAL it lt a b X B f)(e:Z b<=f):Res it lt (a++b) (X++(Ar it a).extract B (Ar it a).size++(Ar it b).extract f (Ar it b).size):=by
 obtain⟨out,rfl,h⟩:=h;exact⟨_,by rw[nP,nP,cD,cD,iS,iS],h.fin sa e⟩
theorem wAL.fin1(f:fe lt b)(h:wAL it lt a b X B C)(e:Z a<=B):Res it lt (a++b) (X++(Ar it a).extract B (Ar it a).size++(Ar it b).extract C (Ar it b).size):=by
 obtain⟨out,rfl,h⟩:=h;refine⟨_,by rw[nP,nP,cD,cD,iS,iS,kF e,aL],?_⟩;obtain⟨F,I⟩:=h.swap.fin f e;rw[kF e,aL]at F I;exact⟨F,I.trans eo⟩
theorem wAL.sQ(sa:fe lt a)(f:fe lt b)(hl:∀y∈b,∀x∈a.drop (Z a - 1),lt y x=U)(h:wAL it lt a b X B C)(e:B+1=Z a):Res it lt (a++b) (X++(Ar it b).extract C (Ar it b).size++(Ar it a).extract B (Ar it a).size):=by
 obtain⟨out,rfl,h⟩:=h;exact⟨_,by rw[nP,nP,cD,cD,iS,iS],h.sQ sa f λy c x M=>hl y (fM c) x (by rw[<-e];exact M)⟩
theorem wAL.gal{R:Prop}(o:Lt lt)(as:uR P w A s κ it lt N)(sa:fe lt a)(B:fe lt b)(F:∀x∈a,x<N)(h:wAL it lt a b X i j)(hi:i<(Ar it a).size)(r:b[j]?=Y y/\y<N/\y∉a)
 (q:∀k,i+k<=(Ar it a).size->wAL it lt a b (X++(Ar it a).extract i (i+k)) (i+k) j->(∀x,(a[i+k]?=Y x/\x<N/\x∉b)->lt y x=U)->(∀left{C}{f:ar T->ed bS He C}{G:C->bS->Prop}{st:bS},kindOf st=κ->Wt P w A E s (f (Y k)) G st->Wt P w A E s (elem' (Ar it b) j>>=λy=>zP left y (Ar it a) i ((Ar it a).size - i) 0>>=f) G st)->R):R:=by
 rw[cD]at hi q;obtain⟨k,d,c,Q,g⟩:=ua o as (l:=a) (base:=i) (n:=Z a - i) (iY (ws (aE hi))) (by rw[iS];exact sa.sublist (fP _ _)) (λx M=>by rw[iS]at M;have:=fM M;exact⟨F x this,λe=>r.2.2 (e▸this)⟩) r.2.1
 obtain⟨out,rfl,h⟩:=h;rw[iS]at c Q;rw[kG]at Q
 exact q k (lQ d (ws (aE hi))) ⟨_,by rw[nP,dn _ _],h.xV sa k λz p=>sP o B r.1 (c z p)⟩ (λx h=>Q x (by rw[kg h.1];simp)) λleft _ _ _ _ hk q=>.bind (.elem r.1 (.bind (g left 0 hk (lQ hi (wt (aE hi))) q)))
theorem elG{l m:O T}{R:Prop}(n:∀x∈l,x<N)(d:∀x∈l,x∉m)(h:i<(Ar it l).size)(k:∀x,(l[i]?=Y x/\x<N/\x∉m)->wbn P w A E s (elem' (Ar it l) i) (it x)->R):R:=by
 rw[cD]at h;exact k _ ⟨ai h,n _ (bA h),d _ (bA h)⟩ λg=>.bind (.elem (ai h) g)
end
theorem Mid.no(h:Mid I na nb n X f B)(e:na+nb<=n):False:=VB h.ha h.hb h.m e
theorem Mid.mono(h:Mid I na nb n X i j)(e:k<=n):Mid I na nb k X i j:=⟨h.ml,h.ha,h.hb,af e h.m⟩
theorem Mid.tB(h:Mid I na nb n X i j)(e:I f i (j+1))(d:¬(j+1==nb)=U):Mid I na nb (n+1) f i (j+1):=⟨e,h.ha,nlt h.hb d,bc h.m⟩
theorem Mid.tA(h:Mid I na nb n X i j)(e:I f (i+1) j)(d:¬(i+1+1==na)=U):Mid I na nb (n+1) f (i+1) j:=⟨e,nlt h.ha d,h.hb,iY h.m⟩
theorem wru{f:Unit->ed bS He B}{G:B->bS->Prop}{st:bS}(h:Wt P w A E s (f ()) G st):Wt P w A E s ((liftM (rule n):ed bS He Unit)>>=f) G st:=.bind (.rule h)
theorem wge{f:bS->ed bS He B}{G:B->bS->Prop}{st:bS}(h:Wt P w A E s (f st) G st):Wt P w A E s ((get:ed bS He bS)>>=f) G st:=.bind (.get h)
theorem wON{f:Unit->ed bS He B}{G:B->bS->Prop}{st:bS}(h:Wt P w A E s (f ()) G (vO st g)):Wt P w A E s (RN g>>=f) G st:=.bind (.ON h)
theorem MLo{st:bS}{A1 B1:c7 jZ}{G:c7 jZ->bS->Prop}{I:c7 jZ->T->T->Prop}{X D:T->T->Prop}{Q:c7 jZ->Prop}
  (hk:kindOf st=κ)
  (v:∀{B i j},I B i j->(j==B1.size)=U->Q (B++A1.extract i A1.size++B1.extract j B1.size))
  (J':∀{B i j},I B i j->(i==A1.size)=U->Q (B++A1.extract i A1.size++B1.extract j B1.size))
  (U':∀{B i j},I B i j->(i+1==A1.size)=U->Q (B++B1.extract j B1.size++A1.extract i A1.size))
  (H:∀{i}{R:Prop},i<A1.size->(∀x,X i x->wbn P w A E s (elem' A1 i) (it x)->R)->R)
  (C:∀{i}{R:Prop},i<B1.size->(∀x,D i x->wbn P w A E s (elem' B1 i) (it x)->R)->R)
  (K:∀{i j x y},X i x->D j y->∀{γ}{f:ar cc->ed bS He γ}{G:γ->bS->Prop}{st:bS},kindOf st=κ->(lt y x=U->Wt P w A E s (f (Y U)) G st)->(lt x y=U->Wt P w A E s (f (Y J)) G st)->Wt P w A E s (elem' B1 j>>=λy=>elem' A1 i>>=λx=>lt' y x>>=f) G st)
  (tA:∀{B i j x y},I B i j->X i x->D j y->lt x y=U->I (B.push (it x)) (i+1) j)
  (tB:∀{B i j x y},I B i j->X i x->D j y->lt y x=U->I (B.push (it y)) i (j+1))
  (S:∀{B i j y}{R:Prop},I B i j->i<A1.size->D j y->(∀k,i+k<=A1.size->I (B++A1.extract i (i+k)) (i+k) j->(∀x,X (i+k) x->lt y x=U)->(∀{g}{γ}{f:ar T->ed bS He γ}{G:γ->bS->Prop}{st:bS},kindOf st=κ->Wt P w A E s (f (Y k)) G (vO st g)->Wt P w A E s (RN g>>=λ_=>elem' B1 j>>=λy=>zP J y A1 i (A1.size - i) 0>>=f) G st)->R)->R)
  (T':∀{B i j x}{R:Prop},I B i j->j<B1.size->X i x->(∀k,j+k<=B1.size->I (B++B1.extract j (j+k)) i (j+k)->(∀y,D (j+k) y->lt x y=U)->(∀{γ}{f:ar T->ed bS He γ}{G:γ->bS->Prop}{st:bS},kindOf st=κ->Wt P w A E s (f (Y k)) G st->Wt P w A E s (elem' A1 i>>=λx=>zP U x B1 j (B1.size - j) 0>>=f) G st)->R)->R)
  (h0:0<A1.size)(h1:0<B1.size)(m0:∀y,D 0 y->I #[it y] 0 1)
  (q:∀r g,Q r->G r (vO st g)):Wt P w A E s (BA A1 B1) G st:=by
 refine C h1 λy b p=>wru ?_;replace m0:=m0 y b;extract_lets +onlyGivenNames tot dn lo
 have ht:A1.size+B1.size<=tot:=aq _
 refine p (.ite (λc=>.pure (q _ (hE st) (v m0 c))) λc1=>.ite (λc=>.pure (q _ (hE st) (U' m0 c))) λc2=>wge ?_)
 refine Wt.rg (I':=λ_ _ _=>False) (r:=(_,hE st)) (λm=>Mid I A1.size B1.size (m+1)) (λB i j r=>(B,i,j,r.1)) (λr:T×T=>vO st r.2) ⟨m0,nlt h0 c2,nlt h1 c1,aq _⟩
  (λ_ _ _ f=>f.no (iY ht)) (λr _ g e=>.pure (q r g.2 e)) (λ_ _ _ _ h=>h.elim) λm B i j V G f d1 d2 d3=>?_
 extract_lets -underBinder
 refine Wt.rg (I':=Mid I A1.size B1.size (m+1+1)) (r:=(0,0)) (λn=>Mid I A1.size B1.size (m+1+n)) (λB i j r=>(B,i,j,r.1,r.2)) (λ_:T×T=>vO st V.2) f
  (λ_ _ _ f=>f.no (iY ht)) (λr _ _ e=>.pure (d1 r _ (0,V.2) e)) (λB i j a f=>?_) λn B i j a G f d1 d2 d3=>?_
 rotate_left
 .extract_lets -underBinder
  refine C f.hb λy b p=>H (aE f.ha) λx o N=>K o b hk (λc=>?_) λc=>?_
  .have e:=tB f.ml o b c;exact p (.ite (λd=>.pure (d1 _ _ (0,0) (v e d))) λd=>.ite (λ_=>.pure (d2 _ _ _ (_,_) ((f.tB e d).mono lw0))) λ_=>.pure (d3 _ _ _ (_,_) (f.tB e d)))
  .have e:=tA f.ml o b c;exact N (.ite (λd=>.pure (d1 _ _ (0,0) (U' e d))) λd=>.ite (λ_=>.pure (d2 _ _ _ (_,_) ((f.tA e d).mono lw0))) λ_=>.pure (d3 _ _ _ (_,_) (f.tA e d)))
 refine wru (Wt.rg (I':=Mid I A1.size B1.size (m+1+1)) (r:=(_,a.1,a.2,V.2)) (λn=>Mid I A1.size B1.size (m+1+1+n)) (λB i j r=>(B,i,j,r.1,r.2.1,r.2.2.1)) (λr:T×T×T×T=>vO st r.2.2.2) f
  (λ_ _ _ f=>f.no (iY ht)) (λr _ g e=>.pure (d1 r _ (0,g.2.2.2) e)) (λB i j r f=>wON (.pure (d3 B i j (_,_) f))) λn B i j R G f d1 d2 d3=>?_)
 extract_lets -underBinder s1 B s2 i s3 j s4 mg s5 bk bc jp mg2
 replace f:Mid I A1.size B1.size (m+1+1+n) B i j:=f;clear_value B i j bk bc
 refine Wt.wy (λF=>∀mg,F (jp () mg)) (λmg=>?_) λh=>.ite (λ_=>h _) λ_=>h _
 refine C f.hb λy b p=>S f.ml (aE f.ha) b λk k1 k2 t k4=>k4 hk ?_
 dsimp -zeta -zetaHave only
 extract_lets -underBinder +onlyGivenNames ac1 jp2
 refine Wt.wy (λF=>∀B i,I B i j->i+1<A1.size->(∀x,X i x->lt y x=U)->m+1+1+n<=i+j->F (jp2 () B i)) (λB i e hi t u=>?_) λh=>.ite (λ_=>.ite (λd=>.pure (d1 _ _ (0,0,0,_) (U' k2 d))) λd=>.ite (λe=>.pure (d1 _ _ (0,0,0,_) (J' k2 e))) λe=>h _ _ k2 (nlt (bw k1 λz=>e (beq_iff_eq.mpr z)) d) t (iY f.m)) λc=>h _ _ f.ml f.ha (λx z=>t x (by rwa[show k=0 from aH (cj c) (aU _)])) f.m
 refine H (aE hi) λx o N=>?_;replace e:=tB e o b (t x o)
 refine p (.ite (λd=>.pure (d1 _ _ (0,0,0,_) (v e d))) λd=>?_);replace d:=nlt f.hb d
 refine T' e d o λl l1 l2 M l4=>l4 hk ?_
 dsimp -zeta -zetaHave only
 extract_lets -underBinder +onlyGivenNames bc1 jp3
 refine Wt.wy (λF=>∀B j,I B i j->j<B1.size->(∀y,D j y->lt x y=U)->m+1+1+n+1<=i+j->F (jp3 () B j)) (λB j e hj M u=>?_) λh=>.ite (λ_=>.ite (λd=>.pure (d1 _ _ (0,0,0,_) (v l2 d))) λe=>h _ _ l2 (bw l1 λz=>e (beq_iff_eq.mpr z)) M (iY u)) λc=>h _ _ e d (λx z=>M x (by rwa[show l=0 from aH (cj c) (aU _)])) (iY u)
 refine C hj λy b p=>?_;replace e:=tA e o b (M y b)
 refine N (.ite (λd=>.pure (d1 _ _ (0,0,0,_) (U' e d))) λd=>?_)
 have z:Mid I A1.size B1.size (m+1+1+(n+1)) _ (i+1) j:=⟨e,nlt hi d,hj,iY u⟩
 exact .ite (λ_=>.pure (d2 _ _ _ (_,_,_,_) (z.mono lw0))) λ_=>.pure (d3 _ _ _ (_,_,_,_) z)
def DX{st:bS}{a b:O T}{G:c7 jZ->bS->Prop}(o:Lt lt)(as:uR P w A s κ it lt N)(hk:kindOf st=κ)(F:∀x∈a,x<N)(R:∀x∈b,x<N)(sa:fe lt a)(f:fe lt b)(B:∀x∈a,x∉b)
  (h0:0<Z a)(C:b[0]?=Y S)(hf:∀x∈a,lt S x=U)(hl:∀y∈b,∀x∈a.drop (Z a - 1),lt y x=U)
  (q:∀r g,Res it lt (a++b) r->G r (vO st g)):Wt P w A E s (BA (Ar it a) (Ar it b)) G st:=
 MLo (I:=wAL it lt a b) (X:=λi x=>a[i]?=Y x/\x<N/\x∉b) (D:=λi x=>b[i]?=Y x/\x<N/\x∉a) (Q:=Res it lt (a++b)) hk (λh e=>h.fin sa (ag (by simp_all))) (λh e=>h.fin1 f (ag (by simp_all))) (λh e=>h.sQ sa f hl (by simp_all)) (elG F B) (elG R λx h k=>B x k h)
  (λp r _ _ _ _ hk u v=>.bind (.elem r.1 (.bind (.elem p.1 (.bind (.ask as hk r.2.1 p.2.1 (by
   cases c:lt _ _
   .exact v (o.co _ _ (λe=>r.2.2 (e▸aY p.1)) c)
   .exact u c))))))) (λh p r c=>(h.swap.tB o f sa r.1 p.1 c).swap) (λh p r=>h.tB o sa f p.1 r.1)
  (λh e r k=>h.gal o as sa f F e r λn a b c d=>k n a b c λhk z=>wON (d _ hk z)) (λh e r k=>h.swap.gal o as f sa R e r λn a b c d=>k n a b.swap c λhk z=>d _ hk z)
  (by rwa[cD]) (by rw[cD];exact (aK.mp C).1) (λy h=>by
   cases C.symm.trans h.1
   refine⟨[S],W,?_⟩;have:=ML.start.qF f 1 (λz p x M=>by rw[take_one C,au]at p;subst p;exact hf x M);rwa[take_one C]at this) q
section
variable{lt:T->T->cc}{a b out:O T}{na nb:T}
abbrev Wf(lt:T->T->cc):T->T->cc:=λx y=>lt y x
def fe.rev(h:fe lt a):fe (Wf lt) a.reverse:=kY.mpr h
structure MH(lt:T->T->cc)(a b out:O T)(na nb:T):Prop where
 ml:ML (Wf lt) a.reverse b.reverse out (Z a - na) (Z b - nb)
 la:na<=Z a
 lb:nb<=Z b
def MH.swap(h:MH lt a b out na nb):MH lt b a out nb na:=⟨h.ml.swap,h.lb,h.la⟩
def mr{l:O T}:l.reverse.drop (Z l - n)=(l.take n).reverse:=by rw[List.reverse_take]
def MH.qF(h:MH lt a b out na nb)(B:fe lt b)(ht:at_<=nb)(hc:∀y∈(b.drop at_).take (nb - at_),∀x∈a.take na,lt x y=U):MH lt a b (out++((b.drop at_).take (nb - at_)).reverse) na at_:=by
 have hb:=h.lb
 have e:(b.reverse.drop (Z b - nb)).take (nb - at_)=((b.drop at_).take (nb - at_)).reverse:=by
  rw[mr,List.take_reverse,iG,eG hb,Nat.sub_sub_self ht,xQ]
 have:=h.ml.qF B.rev (nb - at_) (λy c x d=>by
  rw[mr]at d
  simp_all)
 rw[e,show Z b - nb+(nb - at_)=Z b - at_ from(aH (wc (ws hb) (ws ht) (wT b.length at_)) (wc (wS b.length at_ (lQ ht hb)) (wt hb) (wt ht)))]at this;exact⟨this,h.la,af ht hb⟩
def MH.xV(h:MH lt a b out na nb)(sa:fe lt a)(ht:at_<=na)(hc:∀y∈(a.drop at_).take (na - at_),∀x∈b.take nb,lt x y=U):MH lt a b (out++((a.drop at_).take (na - at_)).reverse) at_ nb:=
 (h.swap.qF sa ht hc).swap
def MH.fin(h:MH lt a b out na nb)(B:fe lt b)(f:na=0):fe lt (a.take na++b.take nb++out.reverse)/\(a.take na++b.take nb++out.reverse).Perm (a++b):=by
 obtain⟨c,d⟩:=h.ml.swap.fin B.rev (by simp_all)
 have e:(a.take na++b.take nb++out.reverse)=(out++b.reverse.drop (Z b - nb)++a.reverse.drop (Z a - na)).reverse:=by
  rw[mr,mr];simp
 rw[e];exact⟨kY.mpr c,((gR _).trans d).trans (((gR b).append (gR a)).trans eo)⟩
def MH.sQ(h:MH lt a b out na nb)(sa:fe lt a)(B:fe lt b)(hc:∀y∈a.take na,∀x∈b.take nb,lt x y=U):fe lt (b.take nb++a.take na++out.reverse)/\(b.take nb++a.take na++out.reverse).Perm (a++b):=by
 obtain⟨c,d⟩:=h.ml.swap.sQ B.rev sa.rev (λy f x g=>by
  rw[mr]at f g
  simp_all)
 have e:(b.take nb++a.take na++out.reverse)=(out++a.reverse.drop (Z a - na)++b.reverse.drop (Z b - nb)).reverse:=by
  rw[mr,mr];simp
 rw[e];exact⟨kY.mpr c,((gR _).trans d).trans (((gR b).append (gR a)).trans eo)⟩
def mz{l:O T}{n x:T}(h:l[n]?=Y x):(l.drop n).take (n+1 - n)=[x]:=by rw[(dn _ _)];exact take_one h
def sx(o:Lt lt)(sl:fe lt l)(h:l[n]?=Y x)(c:lt x y=U):∀z∈l.take (n+1),lt z y=U:=λz f=>by
 obtain⟨i,hi⟩:=gY f;rw[dz]at hi;split at hi
 .rename_i d;by_cases e:i=n
  .grind
  .obtain⟨g,j⟩:=aK.mp hi;obtain⟨k,m⟩:=aK.mp h;have:=fi.mp sl i n g k (bw (iY d) e);rw[j,m]at this;exact o.tr _ _ _ this c
 .cases hi
def EM:(Ar it l).extract 0 i++(Ar it m).extract 0 j++(Ar it n).reverse=Ar it (l.take i++m.take j++n.reverse):=by
 simp[List.map_take]
def G1:Ar it l++((Ar it b).extract i j).reverse=Ar it (l++((b.drop i).take (j - i)).reverse):=by
 simp
end
def wAH(it:T->jZ)(lt:T->T->cc)(a b:O T)(X:c7 jZ)(i j:T):Prop:=∃out,X=Ar it out/\MH lt a b out i j
structure Rk(I:c7 jZ->T->T->Prop)(t m:T)(X:c7 jZ)(i j:T):Prop where
 ml:I X i j
 ha:0<i
 hb:1<j
 m:m+i+j<=t
theorem Rk.no(h:Rk I t n X i j)(e:t<=n):False:=VC h.ha h.m e
theorem Rk.mono(h:Rk I t n X i j)(e:k<=n):Rk I t k X i j:=⟨h.ml,h.ha,h.hb,lQ e h.m⟩
theorem np2{i:T}(h:0<i)(d:¬(i==1)=U):1<i:=bw h λe=>d (beq_iff_eq.mpr e.symm)
theorem np1{i:T}(h:1<i)(d:¬(i-1==1)=U):1<i-1:=np2 (lQ h (wt (aE h))) d
theorem np0{i:T}(d:¬(i==0)=U):0<i:=Nat.pos_of_ne_zero λe=>d (beq_iff_eq.mpr e)
theorem sn0{i k:T}(h:k<=i)(c:¬i-k>0):k=i:=aH h (Nat.le_of_sub_eq_zero (aH (cj c) (aU _)))
theorem Rk.tA(h:Rk I t n X i j)(e:I f (i-1) j)(d:¬(i-1==0)=U):Rk I t (n+1) f (i-1) j:=⟨e,np0 d,h.hb,lQ h.m (ws h.ha)⟩
theorem Rk.tB(h:Rk I t n X i j)(e:I f i (j-1))(d:¬(j-1==1)=U):Rk I t (n+1) f i (j-1):=⟨e,h.ha,np1 h.hb d,lQ h.m (ws (aE h.hb))⟩
theorem MHi{st:bS}{A1 B1:c7 jZ}{G:c7 jZ->bS->Prop}{I:c7 jZ->T->T->Prop}{X D:T->T->Prop}{Q:c7 jZ->Prop}
  (hk:kindOf st=κ)
  (v:∀{B i j},I B i j->(i==0)=U->Q (A1.extract 0 i++B1.extract 0 j++B.reverse))
  (J':∀{B i j},I B i j->(j==0)=U->Q (A1.extract 0 i++B1.extract 0 j++B.reverse))
  (U':∀{B i j},I B i j->(j==1)=U->Q (B1.extract 0 j++A1.extract 0 i++B.reverse))
  (le:∀{B i j},I B i j->i<=A1.size/\j<=B1.size)
  (H:∀{i}{R:Prop},0<i->i<=A1.size->(∀x,X i x->wbn P w A E s (elem' A1 (i-1)) (it x)->R)->R)
  (C:∀{i}{R:Prop},0<i->i<=B1.size->(∀x,D i x->wbn P w A E s (elem' B1 (i-1)) (it x)->R)->R)
  (K:∀{i j x y},X i x->D j y->∀{γ}{f:ar cc->ed bS He γ}{G:γ->bS->Prop}{st:bS},kindOf st=κ->(lt y x=U->Wt P w A E s (f (Y U)) G st)->(lt x y=U->Wt P w A E s (f (Y J)) G st)->Wt P w A E s (elem' B1 (j-1)>>=λy=>elem' A1 (i-1)>>=λx=>lt' y x>>=f) G st)
  (tA:∀{B i j x y},I B i j->X i x->D j y->lt y x=U->I (B.push (it x)) (i-1) j)
  (tB:∀{B i j x y},I B i j->X i x->D j y->lt x y=U->I (B.push (it y)) i (j-1))
  (S:∀{B i j y}{R:Prop},I B i j->0<i->D j y->(∀k,k<=i->I (B++(A1.extract k i).reverse) k j->(∀x,X k x->lt x y=U)->(∀{g}{γ}{f:ar T->ed bS He γ}{G:γ->bS->Prop}{st:bS},kindOf st=κ->Wt P w A E s (f (Y k)) G (vO st g)->Wt P w A E s (RN g>>=λ_=>elem' B1 (j-1)>>=λy=>zP J y A1 0 i (i-1)>>=f) G st)->R)->R)
  (T':∀{B i j x}{R:Prop},I B i j->0<j->X i x->(∀k,k<=j->I (B++(B1.extract k j).reverse) i k->(∀y,D k y->lt y x=U)->(∀{γ}{f:ar T->ed bS He γ}{G:γ->bS->Prop}{st:bS},kindOf st=κ->Wt P w A E s (f (Y k)) G st->Wt P w A E s (elem' A1 (i-1)>>=λx=>zP U x B1 0 j (j-1)>>=f) G st)->R)->R)
  (h0:0<A1.size)(h1:0<B1.size)(m0:∀x,X A1.size x->I #[it x] (A1.size-1) B1.size)
  (q:∀r g,Q r->G r (vO st g)):Wt P w A E s (BB A1 B1) G st:=by
 refine H h0 (aq _) λx b p=>wru ?_;replace m0:=m0 x b;extract_lets +onlyGivenNames tot dn lo
 have ht:A1.size+B1.size<=tot:=aq _
 refine p (.ite (λc=>.pure (q _ (hE st) (v m0 c))) λc1=>.ite (λc=>.pure (q _ (hE st) (U' m0 c))) λc2=>wge ?_)
 refine Wt.rg (I':=λ_ _ _=>False) (r:=(_,hE st)) (λm=>Rk I tot (m+1)) (λB i j r=>(i,j,B,r.1)) (λr:T×T=>vO st r.2) ⟨m0,np0 c1,np2 h1 c2,lQ ht (ws h0)⟩
  (λ_ _ _ f=>f.no lw0) (λr _ g e=>.pure (q r g.2 e)) (λ_ _ _ _ h=>h.elim) λm B i j V G f d1 d2 d3=>?_
 extract_lets -underBinder
 refine Wt.rg (I':=Rk I tot (m+1+1)) (r:=(0,0)) (λn=>Rk I tot (m+1+n)) (λB i j r=>(i,j,B,r.1,r.2)) (λ_:T×T=>vO st V.2) f
  (λ_ _ _ f=>f.no lw0) (λr _ _ e=>.pure (d1 r _ (0,V.2) e)) (λB i j a f=>?_) λn B i j a G f d1 d2 d3=>?_
 rotate_left
 .extract_lets -underBinder
  refine C (aE f.hb) (le f.ml).2 λy o t=>H f.ha (le f.ml).1 λx b p=>K b o hk (λc=>?_) λc=>?_
  .have e:=tA f.ml b o c;exact p (.ite (λd=>.pure (d1 _ _ (0,0) (v e d))) λd=>.ite (λ_=>.pure (d2 _ _ _ (_,_) ((f.tA e d).mono lw0))) λ_=>.pure (d3 _ _ _ (_,_) (f.tA e d)))
  .have e:=tB f.ml b o c;exact t (.ite (λd=>.pure (d1 _ _ (0,0) (U' e d))) λd=>.ite (λ_=>.pure (d2 _ _ _ (_,_) ((f.tB e d).mono lw0))) λ_=>.pure (d3 _ _ _ (_,_) (f.tB e d)))
 refine wru (Wt.rg (I':=Rk I tot (m+1+1)) (r:=(_,a.1,a.2,V.2)) (λn=>Rk I tot (m+1+1+n)) (λB i j r=>(i,j,B,r.1,r.2.1,r.2.2.1)) (λr:T×T×T×T=>vO st r.2.2.2) f
  (λ_ _ _ f=>f.no lw0) (λr _ g e=>.pure (d1 r _ (0,g.2.2.2) e)) (λB i j r f=>wON (.pure (d3 B i j (_,_) f))) λn B i j R G f d1 d2 d3=>?_)
 extract_lets -underBinder s1 i s2 j s3 B s4 mg s5 bk bc jp mg2
 replace f:Rk I tot (m+1+1+n) B i j:=f;clear_value B i j bk bc
 refine Wt.wy (λF=>∀mg,F (jp () mg)) (λmg=>?_) λh=>.ite (λ_=>h _) λ_=>h _
 refine C (aE f.hb) (le f.ml).2 λy o t=>S f.ml f.ha o λk k1 k2 u k4=>k4 hk ?_
 dsimp -zeta -zetaHave only
 extract_lets -underBinder +onlyGivenNames ka ac1 jp2
 refine Wt.wy (λF=>∀B i,I B i j->0<i->(∀x,X i x->lt x y=U)->m+1+1+n+i+j<=tot->F (jp2 () i B)) (λB i e hi u M=>?_) λh=>.ite (λ_=>.ite (λd=>.pure (d1 _ _ (0,0,0,_) (v k2 d))) λd=>h _ _ k2 (np0 d) u (lQ k1 f.m)) λc=>h _ _ f.ml f.ha (λx z=>u x (by rwa[sn0 k1 c])) f.m
 refine H hi (le e).1 λx b p=>?_;replace e:=tB e b o (u x b)
 refine t (.ite (λd=>.pure (d1 _ _ (0,0,0,_) (U' e d))) λd=>?_);replace d:=np1 f.hb d
 refine T' e (aE d) b λl l1 l2 N l4=>l4 hk ?_
 dsimp -zeta -zetaHave only
 extract_lets -underBinder +onlyGivenNames kb bc1 jp3
 refine Wt.wy (λF=>∀B j,I B i j->1<j->(∀y,D j y->lt y x=U)->m+1+1+n+1+i+j<=tot->F (jp3 () j B)) (λB j e hj N M=>?_) λh=>.ite (λ_=>.ite (λd=>.pure (d1 _ _ (0,0,0,_) (U' l2 d))) λd=>.ite (λe=>.pure (d1 _ _ (0,0,0,_) (J' l2 e))) λe=>h _ _ l2 (np2 (np0 e) d) N (wc M l1 (ws (aE f.hb)))) λc=>h _ _ e d (λx z=>N x (by rwa[sn0 l1 c])) (lQ M (ws (aE f.hb)))
 refine C (aE hj) (le e).2 λy o t=>?_;replace e:=tA e b o (N y o)
 refine p (.ite (λd=>.pure (d1 _ _ (0,0,0,_) (v e d))) λd=>?_)
 have z:Rk I tot (m+1+1+(n+1)) _ (i-1) j:=⟨e,np0 d,hj,lQ M (ws hi)⟩
 exact .ite (λ_=>.pure (d2 _ _ _ (_,_,_,_) (z.mono lw0))) λ_=>.pure (d3 _ _ _ (_,_,_,_) z)
section
variable{a b:O T}
theorem wAH.swap(h:wAH it lt a b X i j):wAH it lt b a X j i:=by
 obtain⟨o,e,h⟩:=h;exact⟨o,e,h.swap⟩
theorem wAH.tB(o:Lt lt)(sa:fe lt a)(f:fe lt b)(h:wAH it lt a b X i j)(p:0<i/\a[i-1]?=Y x/\x<N/\x∉b)(r:0<j/\b[j-1]?=Y y/\y<N/\y∉a)(c:lt x y=U):wAH it lt a b (X.push (it y)) i (j-1):=by
 obtain⟨i,rfl⟩:∃k,i=k+1:=⟨i-1,uX (j4 p.1)⟩
 obtain⟨j,rfl⟩:∃k,j=k+1:=⟨j-1,uX (j4 r.1)⟩
 obtain⟨out,rfl,h⟩:=h;refine⟨out++[y],nv,?_⟩
 have e:=mz r.2.1;have:=h.qF f (at_:=j) (by simp) (λz q=>by erw[e,au]at q;subst q;exact sx o sa p.2.1 c);erw[e]at this;exact this
theorem wAH.gal{R:Prop}(o:Lt lt)(as:uR P w A s κ it lt N)(sa:fe lt a)(B:fe lt b)(F:∀x∈a,x<N)(h:wAH it lt a b X i j)(hi:0<i)(r:0<j/\b[j-1]?=Y y/\y<N/\y∉a)
 (q:∀k,k<=i->wAH it lt a b (X++((Ar it a).extract k i).reverse) k j->(∀x,(0<k/\a[k-1]?=Y x/\x<N/\x∉b)->lt x y=U)->(∀left{C}{f:ar T->ed bS He C}{G:C->bS->Prop}{st:bS},kindOf st=κ->Wt P w A E s (f (Y k)) G st->Wt P w A E s (elem' (Ar it b) (j-1)>>=λy=>zP left y (Ar it a) 0 i (i-1)>>=f) G st)->R):R:=by
 obtain⟨out,rfl,h⟩:=h
 obtain⟨j,rfl⟩:∃k,j=k+1:=⟨j-1,uX (j4 r.1)⟩
 obtain⟨k,d,c,g,m⟩:=ua o as (l:=a) (base:=0) (n:=i) (iY h.la) (by exact sa.sublist (jd _ _)) (λx t=>by have:=cP t;exact⟨F x this,λe=>r.2.2.2 (e▸this)⟩) r.2.2.1
 rw[xQ]at g;rw[kE,eG d]at c
 exact q k d ⟨_,G1,h.xV sa d λz p=>sx o B r.2.1 (g z p)⟩ (λx h=>c x (aY (i:=k-1) (by rw[dz,a5 (show k-1<k from ws h.1)];exact h.2.1))) λleft _ _ _ _ hk q=>.bind (.elem r.2.1 (.bind (m left (i-1) hk (ws hi) q)))
theorem elH{l m:O T}{R:Prop}(n:∀x∈l,x<N)(d:∀x∈l,x∉m)(h0:0<i)(h:i<=(Ar it l).size)(k:∀x,(0<i/\l[i-1]?=Y x/\x<N/\x∉m)->wbn P w A E s (elem' (Ar it l) (i-1)) (it x)->R):R:=
 elG n d (lQ (ws h0) h) λx a b=>k x ⟨h0,a⟩ b
end
def DY{st:bS}{G:c7 jZ->bS->Prop}(o:Lt lt)(as:uR P w A s κ it lt N)(hk:kindOf st=κ)(R:∀x∈a,x<N)(S:∀x∈b,x<N)(sa:fe lt a)(C:fe lt b)(F:∀x∈a,x∉b)
  (hb0:0<Z b)(f:Z a=n+1)(B:a[n]?=Y y0)(hf:∀x∈b,lt x y0=U)(hl:∀y∈a,∀x∈b.take 1,lt x y=U)
  (q:∀r g,Res it lt (a++b) r->G r (vO st g)):Wt P w A E s (BB (Ar it a) (Ar it b)) G st:=
 MHi (I:=wAH it lt a b) (X:=λi x=>0<i/\a[i-1]?=Y x/\x<N/\x∉b) (D:=λi x=>0<i/\b[i-1]?=Y x/\x<N/\x∉a) (Q:=Res it lt (a++b)) hk
  (λ⟨_,e,h⟩p=>⟨_,e▸EM,h.fin C (beq_iff_eq.mp p)⟩) (λ⟨_,e,h⟩p=>by
   replace p:=beq_iff_eq.mp p;obtain⟨H,T'⟩:=h.swap.fin sa p;subst e p;exact⟨_,by rw[EM,ng,aL];rfl,H,T'.trans eo⟩) (λ⟨_,e,h⟩p=>by
   replace p:=beq_iff_eq.mp p;subst e p;exact⟨_,EM,h.sQ sa C λy l x j=>hl y (cP l) x j⟩) (λ⟨_,_,h⟩=>by rw[cD,cD];exact⟨h.la,h.lb⟩) (elH R F) (elH S λx h k=>F x k h)
  (λp r _ _ _ _ hk u v=>.bind (.elem r.2.1 (.bind (.elem p.2.1 (.bind (.ask as hk r.2.2.1 p.2.2.1 (by
   cases c:lt _ _
   .exact v (o.co _ _ (λe=>r.2.2.2 (e▸aY p.2.1)) c)
   .exact u c))))))) (λh p r c=>(h.swap.tB o C sa r p c).swap) (λh p r=>h.tB o sa C p r)
  (λh e r k=>h.gal o as sa C R e r λn a b c d=>k n a b c λhk z=>wON (d _ hk z)) (λh e r k=>h.swap.gal o as C sa S e r λn a b c d=>k n a b.swap c λhk z=>d _ hk z)
  (by rw[cD,f];simp) (by rwa[cD]) (λx h=>by
   rw[cD,f]at h;cases B.symm.trans h.2.1
   rw[cD,cD,f];refine⟨[y0],W,?_⟩
   have h:MH lt a b [] (n+1) b.length:=⟨by rw[f,mU,mU];exact ML.start,ag f.symm,aq _⟩
   have:=h.xV sa (at_:=n) (by simp) (λz p x j=>by rw[mz B,au]at p;subst p;exact hf x (cP j));rw[mz B]at this;exact this) q
end
abbrev qG(κ:qC)(it:T->jZ)(l:O T)(f:O (T×T×T))(g:T):bS:=mO κ (Ar it l) f.toArray g L
section
theorem Bi:∀(R B u v:O T)(c n:T),Z B=Z R->c+n=Z u->((R.map it).zipIdx n).foldl (λ(a:c7 jZ)(x:jZ×T)=>a.setIfInBounds (c+x.2) x.1) (Ar it (u++B++v))=Ar it (u++R++v)
 |[],[],u,v,c,n,_,_=>rfl
 |r::R,p::B,u,v,c,n,hl,hc=>by
   rw[aI,uU,NV]
   have e:(Ar it (u++(p::B)++v)).setIfInBounds (c+n) (it r)=Ar it ((u++[r])++B++v):=by
    simp_all
   rw[e,Bi R B _ v c _ (by simpa using hl) (by simp;grind)];simp
def n6(ha:fe lt a)(hb:fe lt b)(h:∀x∈a,∀y∈b,lt x y=U):fe lt (a++b):=eM.mpr ⟨ha,hb,h⟩
def DZ{pre:O T}{G:cc->bS->Prop}(o:Lt lt)(as:uR P w A s κ it lt N)(sB:fe lt B)(c3:fe lt C)(nB:0<Z B)(nC:0<Z C)(lB:∀x∈B,x<N)(lC:∀x∈C,x<N)(dis:∀x∈B,x∉C)
  (q:∀M g,fe lt M->M.Perm (B++C)->G U (qG κ it (pre++M++post) (O'++(pre.length,Z B+Z C,pw)::e0) g)) :
  Wt P w A E s (mergeAt' O'.length) G (qG κ it (pre++(B++C)++post) (O'++(pre.length,B.length,pw)::(Z pre+Z B,C.length,pw')::e0) g):=by
 generalize D:pre++(B++C)++post=L';have K:∃y,C[0]?=Y y:=⟨C[0],ai nC⟩
 refine ac λ_ kq=>?_;obtain⟨y,K⟩:=K;have H:∃x,B[Z B - 1]?=Y x:=⟨_,ai (ic nB (aq _))⟩
 obtain⟨x,H⟩:=H;have yC:=aY K;have xB:=aY H;have I:(L'.drop pre.length).take (Z B)=B:=by rw[<-D,aM,ju,aM,xO]
 have zo:(L'.drop (Z pre+Z B)).take (Z C)=C:=by
  rw[<-D,<-kG,aM,ju,aM,ju,xO]
 have Q:Z pre+Z B+Z C<=Z L':=by rw[<-D];exact lw0
 have gy:L'[Z pre+Z B]?=Y y:=by
  rw[<-D,aM,aQ (aZ _ _),aM,aQ (by simp),aR (by omega)];rw[(Nat.sub_eq_zero_of_le (ag (dn _ _)))];exact K
 have gx:L'[Z pre+Z B - 1]?=Y x:=by
  rw[<-D,aM,aQ (Hh (mP nB _)),aM,aR (by omega)];rw[Nat.add_sub_assoc nB,dn _ _];exact H
 obtain⟨k,J',k2,k3,k4⟩:=ua o as (af (aZ _ _) Q) (by rw[I];exact sB) (λz d=>by rw[I]at d;exact⟨lB z d,λe=>dis z d (e▸yC)⟩) (lC y yC);obtain⟨m,m1,m2,m3,m4⟩:=ua o as (by omega) (by rw[zo];exact c3) (λz d=>by rw[zo]at d;exact⟨lC z d,λe=>dis x xB (e▸d)⟩) (lB x xB);apply kq;rw[I]at k2 k3;rw[zo]at m2 m3
 have p:∀z∈C,z=y\/lt y z=U:=λz d=>by
  have e:=kg K;rw[xP]at e;rw[e]at d c3
  rcases aA.mp d with h|h
  .exact .inl h
  .exact .inr ((fB.mp c3).1 z h)
 have S:∀z∈B,z=x\/lt z x=U:=λz d=>by
  obtain⟨i,hi⟩:=gY d;obtain⟨O',e0⟩:=aK.mp hi;by_cases e:i=Z B - 1
  .clear sB nB O' e0; subst e;rw[H]at hi;cases hi;exact .inl rfl
  .have:=fi.mp sB i (Z B - 1) O' (aK.mp H).1 (bw (lQ O' (wt nB)) e);rw[e0,(aK.mp H).2]at this;exact .inr this
 have low:∀u,(∀z∈C,z=y\/lt y z=U)->lt u y=U->∀z∈C,lt u z=U:=λu _ h z d=>by
  rcases p z d with rfl|h'
  .exact h
  .exact o.tr _ _ _ h h'
 have high:∀u,lt x u=U->∀z∈B,lt z u=U:=λu h z d=>by
  rcases S z d with rfl|h'
  .exact h
  .exact o.tr _ _ _ h' h
 unfold mergeAt';walk_at "u mergeAt";refine .bind (.get ?_)
 have e1:(hK (qG κ it L' (O'++(pre.length,B.length,pw)::(Z pre+Z B,C.length,pw')::e0) g))[O'.length]?=Y (pre.length,B.length,pw):=by
  rw[kZ,aQ (aq _),mU];rfl
 have e2:(hK (qG κ it L' (O'++(pre.length,B.length,pw)::(Z pre+Z B,C.length,pw')::e0) g))[Z O'+1]?=Y (Z pre+Z B,C.length,pw'):=by
  rw[kZ,aQ (by simp),(dn _ _)];rfl
 rw[e1,e2]
 have e3:((hK (qG κ it L' (O'++(pre.length,B.length,pw)::(Z pre+Z B,C.length,pw')::e0) g)).setIfInBounds O'.length (pre.length,Z B+Z C,pw)).eraseIdxIfInBounds (Z O'+1)=(O'++(pre.length,Z B+Z C,pw)::e0).toArray:=by
  rw[List.setIfInBounds_toArray,List.set_append_right (h:=aq _),mU];unfold Array.eraseIdxIfInBounds;rw[kl (by simp)];rw[List.eraseIdx_toArray,List.eraseIdx_append_of_length_le (by simp),(dn _ _)];rfl
 refine .bind (.set ?_);rw[e3];refine .bind (.elem gy (.bind (k4 J 0 W nB ?_)));refine .ite (λc=>?_) λc=>?_
 .refine .pure ?_;rw[<-D];refine q (B++C) g (n6 sB c3 λu n=>low u p (k2 u ?_)) (.refl _);rw[cM (lQ (wt J') (ag (beq_iff_eq.mp c)))];exact n
 have c:=λe=>c (beq_iff_eq.mpr e);refine .bind (.elem (by rw[show Z pre+k+(Z B - k) - 1=Z pre+Z B - 1 from(aH (wc (wS (Z pre+k+(Z B - k)) 1 (iY (cu c))) (wT (Z pre+Z B) 1) (ws J')) (wc (wS (Z pre+Z B) 1 (iY nB)) (wT (Z pre+k+(Z B - k)) 1) (wt J')))];exact gx) (.bind (m4 U (Z C - 1) W (ic nC (aq _)) ?_)));refine .ite (λc=>?_) λc'=>?_
 .have c :=beq_iff_eq.mp c;subst c;refine .pure ?_;rw[<-D];exact q (B++C) g (n6 sB c3 λu n z d=>high z (m3 z d) u n) (.refl _)
 have c':0<m:=by exact cu (λe=>c' (beq_iff_eq.mpr e))
 have ex:(Ar it L').extract (Z pre+k) (Z pre+Z B)=Ar it (B.drop k):=by
  have:(L'.drop (Z pre+k)).take (Z pre+Z B - (Z pre+k))=B.drop k:=by
   rw[<-D,<-kG,aM,ju,aM,vC J',show Z pre+Z B - (Z pre+k)=(Z (B.drop k)) by rw[dF,TW],xO]
  have h:=nP (it:=it) (l:=[]) (b:=L') (i:=Z pre+k) (j:=Z pre+Z B);rw[this]at h;simpa using h
 have ey:(Ar it L').extract (Z pre+Z B) (Z pre+Z B+m)=Ar it (C.take m):=by
  have:(L'.drop (Z pre+Z B)).take (Z pre+Z B+m - (Z pre+Z B))=C.take m:=by
   rw[<-D,<-kG,aM,ju,aM,ju,(dn _ _),vA m1]
  have h:=nP (it:=it) (l:=[]) (b:=L') (i:=Z pre+Z B) (j:=Z pre+Z B+m);rw[this]at h;simpa using h
 have T':fe lt (B.drop k):=sB.sublist (fP _ _);have U':fe lt (C.take m):=c3.sublist (jd _ _)
 have fin:∀r g',Res it lt (B.drop k++C.take m) r->G U (mO κ (r.toList.zipIdx.foldl (λ(a)(x)=>a.setIfInBounds (Z pre+k+x.2) x.1) (Ar it L')) (O'++(pre.length,Z B+Z C,pw)::e0).toArray g' L):=by
  rintro r g' ⟨R,rfl,sR,pR⟩
  have hLs:L'=(pre++B.take k)++(B.drop k++C.take m)++(C.drop m++post):=by
   rw[<-D]
   conv=>lhs;rw[<-bf k B,<-bf m C]
   grind
  rw[hLs,(Bi (it:=it) R _ _ _ _ 0 pR.length_eq.symm (by simp;exact uX (eG J')))];have:=q (B.take k++R++C.drop m) g' ?_ ?_
  .simpa only[aM]using this
  .refine n6 (n6 (sB.sublist (jd _ _)) sR λu n z d=>?_) (c3.sublist (fP _ _)) λu n z d=>?_
   .rcases ax.mp (pR.mem_iff.mp d)with h|h
    .have:=sB;rw[<-bf k B]at this;exact(eM.mp this).2.2 u n z h
    .exact low u p (k2 u n) z (cP h)
   .have V:=m3 z d
    rcases ax.mp n with h|h
    .exact high z V u (cP h)
    .rcases ax.mp (pR.mem_iff.mp h)with h|h
     .exact high z V u (fM h)
     .have:=c3;rw[<-bf m C]at this;exact(eM.mp this).2.2 u h z d
  .conv=>rhs;rw[<-bf k B,<-bf m C]
   simpa only[aM]using ((pR.append_left _).append_right _)
 have e4:∀x∈B.drop k,x<N:=λz h=>lB z (fM h);have X:∀x∈C.take m,x<N:=λz h=>lC z (cP h);have F:∀x∈B.drop k,x∉C.take m:=λz h h'=>dis z (fM h) (cP h');have t:Z (B.drop k)=Z B - k:=by simp
 have hlC:Z (C.take m)=m:=by simp;exact eG m1
 have v:(B.drop k)[Z B - k - 1]?=Y x:=by rw[tj,show k+(Z B - k - 1)=Z B - 1 from(aH (wc (ws J') (ws (cu c)) (wt nB)) (wc (ws nB) (wt J') (wt (cu c))))];exact H
 have f:(C.take m)[0]?=Y y:=by rw[dz,a5 c'];exact K
 extract_lets +onlyGivenNames lx ly jp
 subst lx ly
 have h:∀r g',Res it lt (B.drop k++C.take m) r->Wt P w A E s (jp r) G (mO κ (Ar it L') (O'++(pre.length,Z B+Z C,pw)::e0).toArray g' L):=by
  intro r g' hr;exact .bind (.modify (.bind (.get (.pure (fin r g' hr)))))
 refine .ite (λ_=>?_) λ_=>?_
 .refine .bind ?_;rw[ex,ey];refine DX o as rfl e4 X T' U' F (af (cu c) (ag t.symm)) f k3 (λz d u n=>?_) λr g' hr=>h r g' hr;rw[t,kg v]at n;rw[(kF (lQ (ag t) (wt (cu c)))),au]at n
  grind
 .refine .bind ?_;rw[ex,ey];refine DY o as rfl e4 X T' U' F (af c' (ag hlC.symm)) (aH (lQ (ag t) (wt (cu c))) (lQ (ws (cu c)) (ag t.symm))) v m2 (λz d u n=>?_) λr g' hr=>h r g' hr;have e:=take_one f
  simp_all
end
section
def Wt.Zc{G:ar cc->bS->Prop}(as:uR P w A s κ it lt N)(B:l[i]?=Y x)(C:l[j]?=Y y)(nx:x<N)(f:y<N)(h:G (Y (lt x y)) (qG κ it l F g)):Wt P w A E s (ltAt' i j) G (qG κ it l F g):=by
 exact .bind (.get (.bind (.elem B (.bind (.elem C (Wt.ask as rfl nx f h))))))
set_option tactic.hygienic true
def Bz(pre X f:O T):mirror (Ar it (pre++X++f)) pre.length (Z pre+Z X) ((Z pre+Z X - Z pre) / 2)=Ar it (pre++X.reverse++f):=by
 apply rR;intro k;rw[getElem?_mirror_all (by simp)];simp only[kZ,aV];split
 .rename_i h;obtain⟨m,rfl⟩:∃m,k=Z pre+m:=⟨k-Z pre,(Nat.add_sub_of_le h.1).symm⟩
  have a:m<Z X:=Nat.lt_of_add_lt_add_left h.2
  rw[show Z pre+(Z pre+Z X)-1-(Z pre+m)=Z pre+(Z X-1-m) by omega,aM,aM,aQ (aZ _ _),dn _ _,aR (lQ (yY (Z X-1) m) (ws (az (aU _) a))),aQ (aZ _ _),dn _ _,aR (by simpa using a),List.getElem?_reverse a]
 grind
def Cr(p V f:O T)(x:T):bubble (Ar it (p++(V++x::f))) (p.length+V.length) V.length=Ar it (p++(x::V++f)):=by
 apply rR;intro k;rw[getElem?_bubble (by rw[cD];simp) _ (fS _ _)];simp only[kZ,aV];by_cases c:k<p.length
 .rw[cb (λz=>(VC c (wT (p.length+V.length) V.length) (ag z.symm))),cb (λz=>(VC z.1 c (wT (p.length+V.length) V.length))),aR c,aR c]
 .obtain⟨m,rfl⟩:∃m,k=p.length+m:=⟨_,uX (hZ (cj c))⟩
  clear c;have ap:∀(b:O _)(i:T),(p++b)[p.length+i]?=b[i]? :=λb i=>by rw[aQ (aZ _ _),dn]
  rw[ap _ m,ap,ap];split
  .simp_all
  cases m with
  |zero=>simp_all
  |succ m=>
    split
    .rename_i h d;have a :=Av d.2;rw[show p.length+(m+1) - 1=p.length+m from rfl,ap,aR a,pe,iH,aR a]
    .rename_i h d;have a:V.length<=m:=XV (cC λz=>d ⟨by simp,Uf z _⟩)
     rw[aQ (du a),pe,iH,aQ a,Nat.succ_sub a,iH]
set_option tactic.hygienic false
def tP(o:Lt lt){l:O T}(h:fe lt (l.take (n+1)))(f:l[n]?=Y u)(B:l[n+1]?=Y v)(c:lt u v=U):fe lt (l.take (n+1+1)):=by
 rw[List.take_succ,B];refine n6 h (o9 _ _) λz b y a=>?_;have a:y=v:=by simpa using a
 subst a;have:=sx o h (n:=n) (by grind) c z;rw[kE,Nat.min_self]at this;exact this b
abbrev ASt:=ar (ar T)×T
def Fq{rest:O T}{st:bS}(o:Lt lt)(nd:rest.Nodup)(ha:1<=a)(hb:a<=Z rest)(h:fe lt (rest.take a))
  (hf:∀x n u v(C:ft ASt->bS->Prop),rest[n]?=Y u->rest[n+1]?=Y v->(lt v u=U->C (.done (L,n+1)) st)->(lt v u=J->C (.yield (L,n+1+1)) st)->Wt P w A E s (f x (L,n+1)) C st) :
  Wt P w A E s (forIn [a:rest.length] ((L,a):ASt) f) (λb B=>B=st/\∃n,b=(L,n)/\a<=n/\n<=Z rest/\fe lt (rest.take n)/\∀k u v,n=k+1->rest[k]?=Y u->rest[k+1]?=Y v->lt v u=U) st:=by
 refine Wt.range (λj b B=>B=st/\b=(L,a+j)/\fe lt (rest.take (a+j))) ⟨W,W,h⟩ (λj b B g z=>?_) λb B z=>⟨z.1,_,z.2.1,aZ _ _,ag (hZ hb),z.2.2,λk u v hk _ i=>by simp_all⟩
 obtain⟨e,r,l⟩:=z;subst e r;obtain⟨n,d⟩:∃n,a+j=n+1:=⟨a+j - 1,aH (iY (wT _ 1)) (iY (wS (a+j) 1 (iY ha)))⟩
 rw[d]at l ⊢;have m:=ai (show n<(Z rest) from(wc (ag d.symm) (ws hb) g));have i:=ai (show n+1<(Z rest) from(wc (ag d.symm) g (ws hb)))
 refine hf _ n _ _ _ m i (λc=>⟨W,_,W,af (aZ _ _) (ag d),wc (ag d.symm) (ws hb) g,l,λk u v hk p q=>by
  obtain rfl:n=k:=Nat.add_right_cancel hk
  simp_all⟩) λc=>⟨W,by rw[show a+(j+1)=n+1+1 from(aH (bc (ag d)) (bc (ag d.symm)))],?_⟩
 rw[show a+(j+1)=n+1+1 from(aH (bc (ag d)) (bc (ag d.symm)))];refine tP o l m i (o.co _ _ (λe=>?_) c);have:=(je (wc (ag d.symm) g (ws hb)) nd).mp (i.trans (by rw[e];exact m.symm))
 grind
def u9{pre rest:O T}:(pre++rest)[Z pre+n]?=rest[n]? :=by rw[aQ (aZ _ _)];simp
def B9{pre rest:O T}{G:ar T->bS->Prop}(o:Lt lt)(as:uR P w A s κ it lt N)(c3:0<Z rest)(O':∀x∈rest,x<N)(nd:rest.Nodup)
  (q:∀n rest',1<=n->n<=Z rest->rest'.Perm rest->fe lt (rest'.take n)->G (Y n) (qG κ it (pre++rest') pd g)):Wt P w A E s (countRun' pre.length rest.length) G (qG κ it (pre++rest) pd g):=by
 have ask:∀{rest':O T}{i j x y:T}{X:ar cc->bS->Prop},rest'.Perm rest->rest'[i]?=Y x->rest'[j]?=Y y->X (Y (lt x y)) (qG κ it (pre++rest') pd g)->Wt P w A E s (ltAt' (Z pre+i) (Z pre+j)) X (qG κ it (pre++rest') pd g):=λhp J' K h=>
  Wt.Zc as (u9.trans J') (u9.trans K) (O' _ (hp.mem_iff.mp (aY J'))) (O' _ (hp.mem_iff.mp (aY K))) h
 unfold countRun';walk_at "u countRun"
 refine .bind (Wt.mono (Fq o nd (aq 1) c3 (by
  clear o as c3 O' nd q ask; cases rest with
  |nil=>exact .nil
  |cons z r=>exact o9 _ _) λx n u v X f l C D=>?_) λb d z=>?_)
 .refine .bind (ask (.refl _) l f ?_)
  cases c:lt v u with
  |true=>exact .pure (C c)
  |false=>exact .pure (D c)
 obtain⟨e,n,V,h1,h2,B,hs⟩:=z;subst e V;refine .ite (λc=>.pure (q n rest h1 h2 (.refl _) B)) λc=>?_;have c:n<Z rest:=by exact bw h2 (λe=>c (beq_iff_eq.mpr e))
 extract_lets +onlyGivenNames T' U' L'
 refine Wt.wy (λR=>n=1->R (L' ())) ?_ λh=>?_
 rotate_left
 .refine .ite (λc1=>?_) λc1=>h (by exact aH (cj c1) h1);obtain⟨k,rfl⟩:∃k,n=k+1:=⟨n - 1,uX (j4 h1)⟩
  refine .bind (ask (i:=0) (.refl _) (ai (show 0<(Z rest) by omega)) (ai (h2)) ?_)
  have:lt rest[0] rest[k]=U:=by
   have:=fi.mp B 0 k (by exact iY (a0 (k + 1) rest.length (iY c))) (by simp;exact iY (a0 (k + 1) rest.length (iY c))) (a8 c1);simpa using this
  rw[this];exact .pure (q _ _ h1 h2 (.refl _) B)
 rintro rfl;have l:=ai (by omega);have f:=ai (show 0<(Z rest) by omega);have o':Lt (Wf lt):=⟨λi j k a b=>o.tr _ _ _ b a,λi j a b=>o.co _ _ (cB a) b,λi j a=>o.as _ _ a⟩
 have M:fe (Wf lt) (rest.take 2):=by
  refine tP o' ?_ f l (hs 0 _ _ W f l)
  cases rest with
  |nil=>exact .nil
  |cons z r=>exact o9 _ _
 refine .bind (.rule (.bind (Wt.mono (Wt.range (G:=λ(b)d=>d=qG κ it _ pd g/\∃m,b=(L,m,0)/\2<=m/\m<=Z rest/\fe _ (rest.take m))
  (λj b d=>d=qG κ it _ pd g/\b=(L,j+2,0)/\fe _ (rest.take (j+2))) ⟨W,W,M⟩ (λj b d F z=>?_) λb d z=>⟨z.1,_,z.2.1,by simp,ic c (aq _),z.2.2⟩) λb d z=>?_)))
 .obtain⟨e,V,hd⟩:=z;subst e V;have f:=ai (show j+1<(Z rest) from(aE (qR F)));have l:=ai (show j+2<(Z rest) from(qR F));refine .bind (ask (.refl _) l f ?_)
  cases c:lt _ rest[j+1]with
  |true=>
    refine .pure ⟨W,W,?_⟩;have H:=hd;exact (tP o' H f (l) c)
  |false=>
    have I:rest[j+2]≠rest[j+1]:=λe=>by
     have:=(je (by omega) nd).mp (l.trans (by rw[e];exact f.symm))
     simp_all
    refine .bind (ask (.refl _) f l ?_);rw[o.co _ _ I c];exact .pure ⟨W,_,W,fS _ _,aE (qR F),hd⟩
 obtain⟨e,m,V,m1,m2,hd⟩:=z;subst e V;have p:((rest.take m).reverse++rest.drop m).Perm rest:=by
  conv=>rhs;rw[<-bf m rest]
  exact(gR _).append_right _
 refine .bind ?_;show Wt P w A E s (reverseSlice' _ _) _ _;rw[reverseSlice'_eq];refine .modify ?_
 have Q:mirror (Ar it (pre++rest)) pre.length (Z pre+m) ((Z pre+m - Z pre) / 2)=Ar it (pre++((rest.take m).reverse++rest.drop m)):=by
  have:=Bz (it:=it) pre (rest.take m) (rest.drop m)
  simp_all
 rw[Q];have t :=p.length_eq;generalize S:(rest.take m).reverse++rest.drop m=rest' at p t;have ht:rest'.take m=(rest.take m).reverse:=by grind
 rw[<-t];refine .bind (Wt.mono (Fq o (p.nodup_iff.mpr nd) ((aE m1)) (af m2 (ag t.symm)) (by rw[ht];exact kY.mpr hd) λx n u v X f l C D=>?_) λb d z=>?_)
 .refine .bind (ask p l f ?_)
  cases c:lt v u with
  |true=>exact .pure (C c)
  |false=>exact .pure (D c)
 .obtain⟨e,n,V,h1,h2,B,_⟩:=z;subst e V;exact .pure (q n _ (aE (af m1 h1)) (af h2 (ag t)) p B)
end
section
def xH{pre rest:O T}{G:cc->bS->Prop}(o:Lt lt)(as:uR P w A s κ it lt N)(h1:1<=ok)(h2:ok<=n)(hn:n<=Z rest)(c3:∀x∈rest,x<N)(nd:rest.Nodup)(e0:fe lt (rest.take ok))
  (q:∀rest',rest'.Perm rest->fe lt (rest'.take n)->G U (qG κ it (pre++rest') pd g)):Wt P w A E s (binarySort' pre.length n ok) G (qG κ it (pre++rest) pd g):=by
 unfold binarySort';walk_at "u binarySort";rw[Nat.max_eq_left h1]
 refine .bind (Wt.mono (Wt.range (G:=λ(b)a=>b=(L,())/\∃rest',a=qG κ it (pre++rest') pd g/\rest'.Perm rest/\fe lt (rest'.take n))
  (λj b a=>b=(L,())/\∃rest',a=qG κ it (pre++rest') pd g/\rest'.Perm rest/\fe lt (rest'.take (ok+j))) ⟨W,_,W,.refl _,e0⟩ (λj b a S z=>?_) λb a z=>by simp_all) λb a z=>by obtain⟨X,rest',e,hp,f⟩:=z;subst e X;exact .pure (q _ hp f))
 refine ac λ_ V=>?_;obtain⟨X,rest',e,hp,f⟩:=z;subst e X;apply V;generalize hk:ok+j=k at f;have B:k<Z rest':=a4 (ag hk.symm) S (ws h2) hn (ag hp.length_eq.symm)
 have C:=ai B;generalize rest'[k]=x at C;have mem:∀{i z:T},rest'[i]?=Y z->z<N:=λh=>c3 _ (hp.mem_iff.mp (aY h));clear h2 hn c3 S; obtain⟨t,p,M⟩:=FL o f x;have p:t<=k:=by simp at p;exact af p (j2 _ _)
 have less:∀m,m<k->∃z,rest'[m]?=Y z/\lt x z=decide (¬m<t):=λm F=>by
  have v:=ai ((cR F B));refine⟨_,v,?_⟩;have e:=M m _ (by rw[dz,a5 F];exact v)
  have I:rest'[m]≠x:=λe=>by
   exact a7 F (ag ((je ((cR F B)) (hp.nodup_iff.mpr nd)).mp (v.trans (by rw[e];exact C.symm))).symm)
  by_cases c:m<t
  .rw[c0 c]at e;rw[c4 (λz=>(z c))];exact o.as _ _ e
  .rw[c4 c]at e;rw[c0 c];exact o.co _ _ I e
 refine .bind (Wt.mono (Wt.range (G:=λ(b)a=>a=qG κ it (pre++rest') pd g/\∃r,b=(L,t,r))
  (λi b a=>a=qG κ it _ pd g/\∃l r,b=(L,l,r)/\l<=t/\t<=r/\r<=k/\r - l<=k - i) ⟨W,0,k,W,aU _,p,aq _,by simp⟩ (λi b a hi z=>?_) λb a z=>by refine ac λ_ V=>?_;obtain⟨e,l,r,X,H,J',K,Q⟩:=z;apply V;grind) λb a z=>?_)
 .refine ac λ_ V=>?_;obtain⟨e,l,r,X,H,J',K,Q⟩:=z;subst e X;apply V;refine .ite (λc=>.pure ⟨W,r,by rw[(aH (af J' c) H)]⟩) λc=>?_;have c:=c;obtain⟨z,L',O'⟩:=less ((l+r) / 2) (lQ (a2 l r (iY (cC c))).2 K);refine .bind (Wt.Zc as (u9.trans C) (u9.trans L') (mem C) (mem L') ?_);rw[O'];by_cases d:(l+r) / 2<t
  .rw[c4 (λz=>(z d))];exact .pure ⟨W,_,r,W,d,J',K,WP (a4 (wt (aE (cC c))) Q (a2 l r (iY (cC c))).1 (ws (aE hi)) (wt hi))⟩
  .rw[c0 d];exact .pure ⟨W,l,_,W,H,cj d,XN (wd (l+r)) H K (cC d),WP (a4 (a2 l r (iY (cC c))).2 (wt (aE (cC c))) Q (ws (aE hi)) (wt hi))⟩
 obtain⟨e,r,X⟩:=z;subst e X;refine .bind ?_;show Wt P w A E s (moveDown' _ _) _ _;rw[moveDown'_eq];refine .modify (.pure ⟨W,rest'.take t++(x::(rest'.take k).drop t++rest'.drop (k+1)),?_,?_,?_⟩)
 .have hb:=Cr (it:=it) (pre++rest'.take t) ((rest'.take k).drop t) (rest'.drop (k+1)) x
  have X:rest'.take t++(rest'.take k).drop t=rest'.take k:=by
   conv=>rhs;rw[<-bf t (rest'.take k)]
   rw[kE,eG p]
  have e2:rest'=rest'.take k++x::rest'.drop (k+1):=by rw[<-kg C,bf]
  have e3:pre++rest'.take t++((rest'.take k).drop t++x::rest'.drop (k+1))=pre++rest':=by
   rw[aM,<-aM (rest'.take t),X,<-e2]
  have e4:Z (rest'.take k)=k:=by rw[iG];exact eG (aE (List.getElem?_eq_some_iff.mp C).1)
  have R:Z (pre++rest'.take t)+Z ((rest'.take k).drop t)=Z pre+k:=by rw[<-aj,aM,X,aj,e4]
  have e5:Z ((rest'.take k).drop t)=Z pre+k - (Z pre+t):=by rw[dF,e4,TW]
  rw[e3,R,e5,aM]at hb;rw[hb]
 .refine E5 ?_ hp
  have e2:rest'=rest'.take t++((rest'.take k).drop t++x::rest'.drop (k+1)):=by
   rw[<-aM]
   have X:rest'.take t++(rest'.take k).drop t=rest'.take k:=by
    conv=>rhs;rw[<-bf t (rest'.take k)]
    rw[kE,eG p]
   rw[X,<-kg C,bf]
  conv=>rhs;rw[e2]
  exact kn _ Nl.symm
 .have X:rest'.take t++(rest'.take k).drop t=rest'.take k:=by
   conv=>rhs;rw[<-bf t (rest'.take k)]
   rw[kE,eG p]
  have e2:(rest'.take t++(x::(rest'.take k).drop t++rest'.drop (k+1))).take (ok+(j+1))=rest'.take t++(x::(rest'.take k).drop t):=by
   rw[<-aM,vA (by simp;exact XN (ag hk) (a0 k rest'.length (iY B)) (wT (min k _) t) (a0 t rest'.length (lQ p B))),cM (by simp;exact XN (j2 t _) (ws (Nat.le_min.mpr ⟨p,af p (aE B)⟩)) (j2 k _) (ag hk.symm))]
  rw[e2];have D:=f;rw[<-X]at D;have lo:∀z∈rest'.take t,lt z x=U:=λz v=>by
   obtain⟨i,hi⟩:=gY v;rw[dz]at hi;split at hi
   .rename_i c;rw[M i z (by rw[dz,a5 (aS c p)];exact hi),c0 c]
   .cases hi
  have hi:∀z∈(rest'.take k).drop t,lt x z=U:=λz v=>by
   obtain⟨i,hi⟩:=gY v;rw[tj,dz]at hi;split at hi
   .rename_i c;obtain⟨T',L',O'⟩:=less _ c
    simp_all
   .cases hi
  refine n6 (eM.mp D).1 (fB.mpr ⟨hi,(eM.mp D).2.1⟩) λz v y U'=>?_
  grind
end
inductive mJ (lt:T->T->cc):T->O (T×T×T)->O (O T)->Prop
 |nil {o:T}:mJ lt o [] []
 |cons {o pw:T} {R:O T} {ps:O (T×T×T)} {Rs:O (O T)}:0<Z R->fe lt R->mJ lt (o+Z R) ps Rs->mJ lt o ((o,R.length,pw)::ps) (R::Rs)
section
def mJ.split(h:mJ lt o pd Rs):∀{i:T},i+1<Z pd->∃F pw I S P B C R2,pd=F++(o+Z (P.flatten:O T),B.length,pw)::(o+Z P.flatten+Z B,C.length,I)::S/\Rs=P++B::C::R2/\Z F=i/\
  0<Z B/\0<Z C/\fe lt B/\fe lt C/\∀M:O T,Z M=Z B+Z C->fe lt M->mJ lt o (F++(o+Z P.flatten,Z B+Z C,pw)::S) (P++M::R2):=by
 induction h with
 |nil=>intro i hi;simp at hi
 | @cons o pw R ps Rs h1 h2 h3 c=>
   intro i hi
   cases i with
   |zero=>
     clear c; cases h3 with
     |nil=>simp at hi
     | @cons _ I C ps Rs d f g=>
       refine⟨[],pw,I,ps,[],R,C,Rs,W,W,W,h1,d,h2,f,λM a b=>?_⟩;have:=mJ.cons (pw:=pw) (af (NO _ h1) (ag a.symm)) b (by rwa[a,<-i9])
       simp_all
   |succ i=>
     refine ac λ_ l=>?_;obtain⟨F,j,k,S,P,B,C,R2,m,n,p,b1,b2,b3,b4,b5⟩:=c (by simpa using hi);apply l;have e:o+(R::P).flatten.length=o+Z R+Z P.flatten:=by simp;exact uX (i9 ..)
     refine⟨(o,R.length,pw)::F,j,k,S,_,B,C,R2,by rw[e,m];rfl,by rw[n];rfl,by simp[p],b1,b2,b3,b4,λM a b=>?_⟩;rw[e];exact .cons h1 h2 (b5 M a b)
def mJ.push{R:O T}(h:mJ lt o f Rs)(h1:0<Z R)(h2:fe lt R):mJ lt o (f++[(o+Z Rs.flatten,R.length,x)]) (Rs++[R]):=by
 induction h with
 |nil=>exact .cons h1 h2 .nil
 | @cons o g a ps Rs b c e d=>
   refine .cons b c ?_;rwa[show o+(a::Rs).flatten.length=o+Z a+(Z Rs.flatten) by simp;exact uX (i9 ..)]
def mJ.mod(hf:∀a b c,∃d,f (a,b,c)=(a,b,d))(h:mJ lt o B Rs):∀k,mJ lt o (B.modify k f) Rs:=by
 induction h with
 |nil=>intro k;simp;exact .nil
 | @cons o g l ps Rs i j m n=>
   intro k
   cases k with
   |zero=>
     obtain⟨d,e⟩:=hf o _ g;rw[List.modify_zero_cons,e];exact .cons i j m
   |succ k=>exact .cons i j (n k)
def mJ.len(h:mJ lt o f Rs):Z f<=Z Rs.flatten:=by
 induction h with
 |nil=>exact aq _
 |cons b c d a=>simp at a ⊢;exact lQ a b
end
section
variable{κ:qC}{it:T->jZ}{lt:T->T->cc}
def v9{Rs:O (O T)}{rest:O T}{G:cc->bS->Prop}(o:Lt lt)(as:uR P w A s κ it lt N)(O':∀x∈l,x<N)(nd:l.Nodup)(hl:l=Rs.flatten++rest)(hp:mJ lt 0 R Rs)(hi:i+1<Z R)
  (q:∀S F g' I,S=I.flatten++rest->mJ lt 0 F I->S.Perm l->Z I.flatten=Z Rs.flatten->Z F+1=Z R->G U (qG κ it S F g')):Wt P w A E s (mergeAt' i) G (qG κ it l R g):=by
 refine ac λ_ r=>?_;obtain⟨n,z,e,p,c,B,C,R2,t,v,y,b1,b2,b3,b4,b5⟩:=hp.split hi;refine r ?_;rw[fZ]at t b5;have el:l=c.flatten++(B++C)++(R2.flatten++rest):=by rw[hl,v];simp
 have f:∀x∈B,x∈l:=λx a=>by rw[el];simp[a]
 have h:∀x∈C,x∈l:=λx a=>by rw[el];simp[a]
 have u :=λx j k=>by
  rw[el]at nd;exact(cO.mp ((cO.mp (cO.mp nd).1).2.1)).2.2 x j x k W
 clear nd hl hp hi r; subst y;rw[t,el];refine DZ o as b3 b4 b1 b2 (λx a=>O' x (f x a)) (λx a=>O' x (h x a)) u λM g' m d=>?_;have b:Z M=Z B+Z C:=by rw[d.length_eq];simp
 refine q _ _ g' _ (by simp) (b5 M b m) ?_ (by rw[v];simp;exact aH (iY (ag b)) (iY (ag b.symm))) (by rw[t];simp;rfl);rw[el];exact(d.append_left _).append_right _
def ite_le{c:Prop}[ew c]:(if c then a - 1 else a)<=a:=by split<;>simp
structure Qs(lt:T->T->cc)(l0 l:O T)(B:O (T×T×T))(Rs:O (O T))(rest:O T):Prop where
 e:l=Rs.flatten++rest
 r:mJ lt 0 B Rs
 p:l.Perm l0
theorem Qs.nil(h:Qs lt f l B Rs rest)(n:Z f<=Z Rs.flatten):Qs lt f l B Rs []:=by
 obtain⟨e,r,p⟩:=h;have h1:=p.length_eq;rw[e,aj]at h1;obtain rfl:rest=[]:=j7.mp (aH (lQ n (ag h1)) (aU _));exact⟨e,r,p⟩
theorem Wt.rgL{R C:Type}{a b:T}{f:T->ar R×C->ed bS He (ft (ar R×C))}{k:ar R×C->ed bS He F}{G:F->bS->Prop}(z:T->C)(I:T->O T->O (T×T×T)->O (O T)->Prop)(D:O T->O (T×T×T)->O (O T)->Prop)(h0:I 0 l B Rs)(he:∀l B Rs,I (b-a) l B Rs->D l B Rs)
  (k1:∀l B g Rs,D l B Rs->Wt P w A E s (k (L,z Rs.flatten.length)) G (qG κ it l B g))
  (hb:∀j l B g Rs(G:ft (ar R×C)->bS->Prop),I j l B Rs->(∀l B g Rs,D l B Rs->G (.done (L,z Rs.flatten.length)) (qG κ it l B g))->(∀l B g Rs,I (j+1) l B Rs->G (.yield (L,z Rs.flatten.length)) (qG κ it l B g))->Wt P w A E s (f (a+j) (L,z Rs.flatten.length)) G (qG κ it l B g)) :
  Wt P w A E s (forIn [a:b] (L,z Rs.flatten.length) f>>=k) G (qG κ it l B g):=
 .bind (.range (λj b st=>∃l B g Rs,b=(L,z Rs.flatten.length)/\st=qG κ it l B g/\I j l B Rs) ⟨l,B,g,Rs,W,W,h0⟩ (λj b st c q=>by
  obtain⟨_,_,_,_,rfl,rfl,h⟩:=q;exact hb _ _ _ _ _ _ h k1 λl B g Rs h=>⟨l,B,g,Rs,W,W,h⟩) λb st q=>by
  obtain⟨_,_,_,_,rfl,rfl,h⟩:=q;exact k1 _ _ _ _ (he _ _ _ h))
theorem Qs.mA{R:O T}{f:cc->ed bS He γ}{G:γ->bS->Prop}(h:Qs lt R l B Rs rest)(o:Lt lt)(as:uR P w A s κ it lt N)(O':∀x∈R,x<N)(C:R.Nodup)(hi:i+1<Z B)
  (q:∀S I g' F,Qs lt R S I F rest->Z F.flatten=Z Rs.flatten->Z I+1=Z B->Wt P w A E s (f U) G (qG κ it S I g')):Wt P w A E s (mergeAt' i>>=f) G (qG κ it l B g):=
 .bind (v9 o as (λx H=>O' x (h.p.mem_iff.mp H)) (h.p.nodup_iff.mpr C) h.e h.r hi λS I g' F a b c=>q S I g' F ⟨a,b,c.trans h.p⟩)
def AY{S:O T}{G:Unit->bS->Prop}(o:Lt lt)(as:uR P w A s κ it lt N)(O':∀x∈S,x<N)(R:S.Nodup)(q:∀l B g,l.Perm S->fe lt l->G () (qG κ it l B g)):Wt P w A E s sortRuns' G (qG κ it S [] g0):=by
 unfold sortRuns';walk_at "u sortRuns";refine wge ?_
 extract_lets +onlyGivenNames n mr lo
 have M:Z S=n:=cD.symm
 clear_value n mr
 refine Wt.rgL (λn=>n) (λj l B Rs=>∃rest,Qs lt S l B Rs rest/\(rest=[]\/j<=Z Rs.flatten)) (λl B Rs=>Qs lt S l B Rs []) (Rs:=[]) ⟨S,⟨W,.nil,.refl _⟩,.inr (aq _)⟩ (λl B Rs h=>?_) (λl B g Rs h=>?_) λj l B g Rs V h d1 d2=>?_
 .obtain⟨_,h,rfl|v⟩:=h
  .exact h
  .exact h.nil (lQ v (ag M))
 .refine Wt.rgL (λ_=>()) (λj l B Rs=>Qs lt S l B Rs []/\(Z B<=1\/Z B+j<=n)) (λl B Rs=>Qs lt S l B Rs []/\Z B<=1) (Rs:=Rs) ⟨h,.inr (by have:=h.p.length_eq;rw[h.e,aL]at this;exact lQ h.r.len (ag (this.trans M)))⟩ (λl B Rs h=>⟨h.1,h.2.elim id (λh=>iY h)⟩) (λl B g Rs h=>?_) λj l B g Rs V h d1 d2=>?_
  .refine .pure (q l B g h.1.p ?_)
   obtain⟨⟨rfl,r,p⟩,v⟩:=h
   cases r with
   |nil=>exact .nil
   |cons h1 h2 h3=>
     cases h3 with
     |nil=>simpa using h2
     |cons _ _ _=>simp at v
  .refine wge (.ite (λc=>.pure (d1 l B g Rs ⟨h.1,c⟩)) λc=>?_);have c:¬Z B<=1:=c
   refine h.1.mA o as O' R (az (bc (ite_le (a:=Z B - 2))) (iY (ws (cC c)))) λk t Q X a b e=>.Gi (by simp) (.pure (d2 k t Q X ⟨a,?_⟩))
   exact h.2.imp (λx=>(c x).elim) λx=>lQ x (ag e)
 obtain⟨rest,h,v⟩:=h
 refine .ite (λc=>.pure (d1 _ _ _ _ (h.nil (by rw[M];exact c)))) λc=>?_
 obtain⟨rfl,r,p⟩:=h;have len:=p.length_eq;rw[aj,M]at len
 have I:∀x∈rest,x<N:=λx H=>O' x (p.mem_iff.mp (aw _ H));have J':rest.Nodup:=(cO.mp (p.nodup_iff.mpr R)).2.1
 have F:∀{γ}{f:ar T->ed bS He γ}{G:γ->bS->Prop},(∀m d,1<=m->m<=Z rest->d.Perm rest->fe lt (d.take m)->Wt P w A E s (f (Y m)) G (qG κ it (Rs.flatten++d) B g))->Wt P w A E s (countRun' Rs.flatten.length (n-Z Rs.flatten)>>=f) G (qG κ it (Rs.flatten++rest) B g):=λ{_ _ _}h=>by
  rw[<-len,dn _ _];exact .bind (B9 o as (lQ (cC c) (ag len.symm)) I J' λm d=>h m d)
 refine F λm d m1 m2 y K=>?_
 dsimp -zeta -zetaHave only
 extract_lets -underBinder +onlyGivenNames n1 jp
 have C:=y.length_eq;rw[show n-Z Rs.flatten=(Z rest) by rw[<-len,dn _ _]]
 suffices h:∀m d g,1<=m->m<=Z rest->d.Perm rest->fe lt (d.take m)->Wt P w A E s (jp () m) V (qG κ it (Rs.flatten++d) B g) by
  refine .ite (λc1=>wru ?_) λ_=>h m d g m1 m2 y K
  have e:m<=min rest.length mr:=Nat.le_min.mpr ⟨m2,aE c1⟩
  exact .bind (xH o as m1 e (by rw[C];exact j2 _ _) (λx H=>I x (y.mem_iff.mp H)) (y.nodup_iff.mpr J') K λF p2 r2=>.Gi (by simp) (h _ F g (af m1 e) (j2 _ _) (p2.trans y) r2))
 intro m d g m1 m2 y K;refine wge ?_
 extract_lets -underBinder +onlyGivenNames T'
 have D:Qs lt S (Rs.flatten++d) B Rs d:=⟨W,r,(y.append_left _).trans p⟩
 have h:∀l B g i,Qs lt S l B i d->Z i.flatten=Z Rs.flatten->Wt P w A E s (T' ()) V (qG κ it l B g):=λl B g i a b=>by
  have e0:Z (d.take m)=m:=by rw[iG];exact eG (by rw[y.length_eq];exact m2)
  have e:(i++[d.take m]).flatten.length=Z Rs.flatten+m:=by simp[b];rw[y.length_eq];exact eG m2
  have z:=a.r.push (x:=0) (by rwa[e0]) K;rw[e0,b,Nat.zero_add]at z
  refine .bind (.modify (.pure ?_));have z:=d2 l _ g _ ⟨d.drop m,⟨by rw[a.e];simp,z,a.p⟩,.inr (by rw[e];exact lQ (v.elim (λh=>by subst h;exact absurd (af m1 m2) (by simp)) id) m1)⟩
  rw[e]at z;rw[List.push_toArray];exact z
 split
 .refine Wt.rgL (λ_=>()) (λ_ l B i=>Qs lt S l B i d/\Z i.flatten=Z Rs.flatten) (λl B i=>Qs lt S l B i d/\Z i.flatten=Z Rs.flatten) (Rs:=Rs) ⟨D,W⟩ (λ_ _ _ h=>h) (λl B g i a=>?_) λj l B g i V a d1 d2=>wge ?_
  .refine .bind (.modify ?_);rw[List.modify_toArray];exact h l _ g i ⟨a.1.e,a.1.r.mod (λa b c=>⟨_,W⟩) _,a.1.p⟩ a.2
  dsimp only;rw[bF];by_cases c:B.length>1
  .rw[a5 c,show B.toArray[Z B-2]?=Y B[Z B-2] by simp];generalize B[Z B-2]=z;obtain⟨_,_,_⟩:=z
   exact .ite (λ_=>.pure (d1 l B g i a)) λ_=>a.1.mA o as O' R (iY (ws c)) λk t Q i u f e=>.Gi (by simp) (.pure (d2 k t Q i ⟨u,f.trans a.2⟩))
  .rw[cb c];exact .pure (d1 l B g i a)
 .exact h _ _ _ Rs D W
end
section
variable{lt:T->T->cc}{n:T}
structure Rj(lt:T->T->cc)(n:T):Prop where
 tr:∀i j k,i<n->j<n->k<n->lt i j=U->lt j k=U->lt i k=U
 co:∀i j,i<n->j<n->i≠j->lt i j=J->lt j i=U
 as:∀i j,i<n->j<n->lt i j=U->lt j i=J
abbrev pg(p:c7 T)(k:T):T:=p.getD k 0
structure Pm(p:c7 T)(n:T):Prop where
 sz:p.size=n
 lt:∀k,k<n->pg p k<n
 inj:∀i j,i<n->j<n->pg p i=pg p j->i=j
 pm:p.toList.Perm (aX n)
def KR{p:c7 T}(h:k<p.size):p[k]?=Y (pg p k):=by
 simp_all
def YV(h:p[k]?=Y x):pg p k=x:=by
 simp_all
def Pm.of{p:c7 T}(h:p.toList.Perm (aX n)):Pm p n:=by
 have sz:p.size=n:=by rw[<-bM,h.length_eq,aW]
 refine⟨sz,λk hk=>?_,λi j hi c e=>?_,h⟩
 .have:pg p k∈p.toList:=by
   simp_all
  exact bq.mp (h.mem_iff.mp this)
 .have a:=KR (af hi (ag sz.symm));have b:=KR (af c (ag sz.symm));rw[<-i6]at a b;rw[e]at a;exact(je (by simp_all) (h.nodup_iff.mpr gp)).mp (a.trans b.symm)
def Up(lt:T->T->cc)(p:c7 T)(m:T):Prop:=∀i j,i<j->j<m->lt (pg p i) (pg p j)=U
noncomputable def VG(lt:T->T->cc)(n i j:T):cc:=if i<n then(if j<n then lt i j else U)else if j<n then J else decide (i<j)
def Lu(hi:i<n)(B:j<n):VG lt n i j=lt i j:=by unfold VG;simp_all
def VF(o:Rj lt n):Lt (VG lt n):=by
 refine⟨λi j k a b=>?_,λi j ne a=>?_,λi j a=>?_⟩
 .unfold VG at a b ⊢;by_cases hi:i<n<;>by_cases c:j<n<;>by_cases hk:k<n<;>simp only[hi,c,hk,eu,et,ck,c6]at a b ⊢
  .exact o.tr i j k hi c hk a b
  .exact cR a b
 .unfold VG at a ⊢;by_cases hi:i<n<;>by_cases c:j<n<;>simp only[hi,c,eu,et,Bool.true_eq_false,e6,c6]at a ⊢
  .exact o.co i j hi c ne a
  .omega
 .unfold VG at a ⊢;by_cases hi:i<n<;>by_cases c:j<n<;>simp only[hi,c,eu,et,ck,e6,c6]at a ⊢
  .exact o.as i j hi c a
  .exact λz=>(a7 z (aE a))
end
section
def J7{vs:O ak}(o:Rj lt vs.length)(hc:∀i j,i<Z vs->j<Z vs->∀C:cc->ao->Prop,C (lt i j) s->aG (aC P w) A (keyLt' κ (vs.getD i .none) (vs.getD j .none)) C (λ_ _=>False) s) :
  aG (aC P w) A ((sortRuns').run (mO κ (vs.toArray.zip vs.toArray) #[] 7 L)) (λr B=>B=s/\∃p:c7 T,Pm p (Z vs)/\Up lt p (Z vs)/\arrOf r.2=p.map (ND (vs.toArray.zip vs.toArray))/\l6 r.2=L) E s:=by
 have as:uR P w A s κ (ND (vs.toArray.zip _)) (VG lt _) _:=λi j hi b C f=>by
  rw[Lu hi b]at f;have e:=kas_item_eq vs;unfold pairsOf at e;rw[e i,e j];exact hc i j hi b C f
 have d:mO κ (vs.toArray.zip vs.toArray) #[] 7 L=qG κ (ND (vs.toArray.zip vs.toArray)) (aX vs.length) [] 7:=by
  have e:=kas_range (vs.toArray.zip vs.toArray)
  grind
 rw[d]
 have run:=AY (E:=E) (g0:=7) (G:=λ_ c=>∃p:c7 _,Pm p _/\Up lt p (Z vs)/\arrOf c=p.map (ND (vs.toArray.zip _))/\l6 c=L)
  (VF o) as (λx h=>bq.mp h) gp λl m g hp k=>by
   have pm:Pm l.toArray _:=.of hp;refine⟨_,pm,λi j a b=>?_,by rw[List.map_toArray],W⟩;have hl:Z l=Z vs:=by simpa using hp.length_eq
   have n:pg l.toArray i=l[i]:=by simp[pg,show i<(Z l) by omega]
   have q:pg l.toArray j=l[j]:=by simp_all
   rw[n,q,<-Lu (lt:=lt) (n▸pm.lt i (cR a b)) (q▸pm.lt j (by omega))];exact (fi.mp k i j (af (cR a b) (ag hl.symm)) (af b (ag hl.symm)) a)
 exact bO run (λr B z=>⟨z.2,z.1⟩) λ_ _ e=>e
end
noncomputable def su{α:Type}[ef α](f:α->α->cc):O α->O α->cc
 |[],[]=>J
 |[],_::_=>U
 |_::_,[]=>J
 |x::a,y::b=>if x=y then su f a b else f x y
structure LO{α:Type}(f:α->α->cc):Prop where
 tr:∀a b c,f a b=U->f b c=U->f a c=U
 co:∀a b,a≠b->f a b=J->f b a=U
 ir:∀a,f a a=J
def LO.as (h:LO f)(x:f a b=U):f b a=J:=by
 cases q:f b a with
 |false=>rfl
 |true=>have:=h.tr _ _ _ x q;rw[h.ir]at this;cases this
def LO.int:LO (λi j:cx=>decide (i<j)):=
 ⟨λa b c x y=>by simp only[c6]at *;exact Int.le_of_lt (gv x y),λa b n x=>by grind,λa=>by simp⟩
section
variable{α:Type}[ef α]{f:α->α->cc}
def mE{x y:α}{xs B:O α}:su f (x::xs) (y::B)=if x=y then su f xs B else f x y:=rfl
def LO.lex(h:LO f):LO (su f):=by
 refine⟨λa=>?_,λa=>?_,λa=>?_⟩
 .induction a with
  |nil=>
    intro b c x y
    cases b with
    |nil=>cases x
    | cons _ _=>cases c with
      |nil=>cases y
      |cons _ _=>rfl
  |cons p a d=>
    intro b c x y
    cases b with
    |nil=>cases x
    |cons q b=>
      cases c with
      |nil=>cases y
      |cons r c=>
        rw[mE]at x y ⊢;by_cases g:p=q
        .subst g
         grind
        .rw[cb g]at x;by_cases i:q=r
         .simp_all
         .rw[cb i]at y;have z:=h.tr _ _ _ x y;rwa[cb λe=>by rw[<-e]at z;rw[h.ir]at z;cases z]
 .induction a with
  |nil=>
    intro b n x
    cases b with
    |nil=>exact absurd rfl n
    |cons _ _=>cases x
  |cons p a d=>
    intro b n x
    cases b with
    |nil=>rfl
    |cons q b=>
      rw[mE]at x ⊢;by_cases e:p=q
      .grind
      .rw[cb e]at x;rw[cb λz=>e z.symm];exact h.co _ _ e x
 .induction a with
  |nil=>rfl
  |cons p a d=>rwa[mE,a5 W]
end
abbrev Lv:O cx->O cx->cc:=su λi j=>decide (i<j)
abbrev Zb:O (O cx)->O (O cx)->cc:=su Lv
abbrev xD:O (O (O cx))->O (O (O cx))->cc:=su Zb
def P6:LO Lv:=LO.int.lex
def oP:LO xD:=LO.int.lex.lex.lex
def P7:Lv [i] [j]=decide (i<j):=by
 show(if i=j then J else decide _)=decide _;by_cases e:i=j
 .rw[e];simp
 .rw[cb e]
theorem zG:∀l f:O T,Lv (l.map fE) (f.map fE)=decide (l<f)
 |[],[]=>by simp[Lv,su]
 |[],_::_=>by simp[Lv,su]
 |_::_,[]=>by simp[Lv,su]
 |a::l,b::f=>by
   have c:=zG l f;show(if fE a=fE b then Lv _ (f.map fE)else decide _)=_;by_cases e:a=b
   .simp_all
   .rw[cb λz=>e (vF z)];apply decide_eq_decide.mpr;rw[List.cons_lt_cons_iff]
    simp_all
noncomputable def cK:Key->O cx
 |.inl i=>[i]
 |.inr x=>x.cps.toList.map fE
noncomputable def iK:Key->cx
 |.inl i=>i
 |.inr _=>0
noncomputable def sK:Key->cc
 |.inl _=>U
 |.inr _=>J
def c2:N2->O cx
 |.inl k=>cK k
 |.inr a=>a.map iK
def s2:N2->T
 |.inl (.inl _)=>0
 |.inl (.inr _)=>1
 |.inr a=>if a.all sK=U then 2 else 3
def sI:N2->cc
 |.inl k=>sK k
 |.inr _=>J
def XU:N2->cx
 |.inl k=>iK k
 |.inr _=>0
def cN:NK->O (O cx)
 |.inl k=>[cK k]
 |.inr a=>if a.all sI=U then [a.map XU]else a.map c2
def sN:NK->O T
 |.inl (.inl _)=>[0]
 |.inl (.inr _)=>[1]
 |.inr a=>if a.all sI=U then [2]else 3::a.map s2
noncomputable def Br:O T->cc
 |3::l=>l.all λn=>decide (n<3)
 |_=>U
theorem LV:∀{x y:O Key},x.all sK=U->y.all sK=U->x.map iK=y.map iK->x=y
 |[],[],_,_,_=>rfl
 |[],_::_,_,_,h=>by cases h
 |_::_,[],_,_,h=>by cases h
 |.inl i::x,.inl j::y,a,b,h=>by
   simp only[aI,gu,iK]at h;simp only[eB,ah]at a b;rw[h.1,LV a.2 b.2 h.2]
 |.inr _::_,_::_,a,_,_=>by simp[sK]at a
 |_::_,.inr _::_,_,b,_=>by simp[sK]at b
def MX(hs:sK x=sK y)(h:cK x=cK y):x=y:=by
 cases x with
 |inl i=>
   cases y with
   |inl j=>simp only[cK,gu,and_true]at h;rw[h]
   |inr b=>cases hs
 |inr a=>
   cases y with
   |inl j=>cases hs
   |inr b=>
     have:=(Jb (λ_ _ z=>vF z)).mp h;cases a;simp_all
def M1(hs:s2 x=s2 y)(h3:s2 x<3)(h:c2 x=c2 y):x=y:=by
 cases x with
 |inl a=>
   cases y with
   |inl b=>rw[MX (by cases a<;>cases b<;>first|rfl|cases hs) h]
   |inr d=>cases a<;>(simp only[s2]at hs;grind)
 |inr d=>
   cases y with
   |inl b=>cases b<;>(simp only[s2]at hs;grind)
   |inr c=>
     simp only[s2]at hs h3;by_cases c1:d.all sK=U
     .by_cases c2:c.all sK=U
      .rw[LV c1 c2 h]
      grind
     simp_all
theorem LW:∀{x y:O N2},x.all sI=U->y.all sI=U->x.map XU=y.map XU->x=y
 |[],[],_,_,_=>rfl
 |[],_::_,_,_,h=>by cases h
 |_::_,[],_,_,h=>by cases h
 |.inl (.inl i)::x,.inl (.inl j)::y,a,b,h=>by
   simp only[aI,gu,XU,iK]at h;simp only[eB,ah]at a b;rw[h.1,LW a.2 b.2 h.2]
 |.inl (.inr _)::_,_::_,a,_,_=>by simp[sI,sK]at a
 |.inr _::_,_::_,a,_,_=>by simp[sI]at a
 |_::_,.inl (.inr _)::_,_,b,_=>by simp[sI,sK]at b
 |_::_,.inr _::_,_,b,_=>by simp[sI]at b
theorem GS:∀{x y:O N2},x.map s2=y.map s2->(∀n∈x.map s2,n<3)->x.map c2=y.map c2->x=y
 |[],[],_,_,_=>rfl
 |[],_::_,h,_,_=>by cases h
 |_::_,[],h,_,_=>by cases h
 |a::x,b::y,h,h3,e=>by
   simp only[aI,gu]at h e;rw[M1 h.1 (h3 _ (by simp)) e.1,GS h.2 (λn c=>h3 n (by exact jY _ c)) e.2]
def K6(h:Br (3::l)=U):∀n∈l,n<3:=λn a=>by
 simpa using (bh.mp (h) n a)
def vU(hs:sN x=sN y)(h3:Br (sN x)=U):(∃a b,x=.inl a/\y=.inl b/\sK a=sK b)\/(∃a b,x=.inr a/\y=.inr b/\a.all sI=U/\b.all sI=U)\/
  ∃a b,x=.inr a/\y=.inr b/\¬a.all sI=U/\¬b.all sI=U/\a.map s2=b.map s2/\∀n∈a.map s2,n<3:=by
 cases x with
 |inl a=>
   cases y with
   |inl b=>exact .inl ⟨a,b,W,W,by cases a<;>cases b<;>first|rfl|(simp[sN]at hs)⟩
   |inr e=>exfalso;cases a<;>(simp only[sN]at hs;split at hs<;>simp at hs)
 |inr a=>
   cases y with
   |inl b=>exfalso;cases b<;>(simp only[sN]at hs;split at hs<;>simp at hs)
   |inr b=>
     simp only[sN]at hs h3;by_cases d:a.all sI=U
     .by_cases c:b.all sI=U
      .exact .inr (.inl ⟨a,b,W,W,d,c⟩)
      simp_all
     .rw[cb d]at hs h3;by_cases c:b.all sI=U
      .simp_all
      .rw[cb c]at hs;exact .inr (.inr ⟨a,b,W,W,d,c,(iO hs).2,K6 h3⟩)
def MV(hs:sN x=sN y)(h3:Br (sN x)=U)(h:cN x=cN y):x=y:=by
 rcases vU hs h3 with⟨a,b,rfl,rfl,q⟩|⟨a,b,rfl,rfl,c,d⟩|⟨a,b,rfl,rfl,c,d,e,f⟩
 .rw[MX q (iO h).1]
 .simp only[cN]at h;rw[a5 c,a5 d]at h;rw[LW c d (iO h).1]
 .simp only[cN]at h;rw[cb c,cb d]at h;rw[GS e f h]
section
variable{A:bP}{z0:ao}
def Lr{I:Ik P w}{α:Type}[ef α]{f:α->α->cc}{c:I.κ->α}{R:I.κ->I.κ->Prop}{x y:O I.κ}{p b:aN}{G:Fin->ao->Prop}(c3:A.units+I.d<=eE)(ex:tw I z0.heap x p)(O':tw I z0.heap y b)
  (e0:∀q∈x.zip y,R q.1 q.2)(ci:∀a b,R a b->c a=c b->a=b)
  (lt:∀(E:ak->ao->Prop)(a b:I.κ)(u v:ak)(Q:ak->ao->Prop),R a b->I.is z0.heap a u->I.is z0.heap b v->Q (.bool (f (c a) (c b))) z0->aG (aC P w) A (dk .Lt u v) Q E z0)
  (h:G (.done (.ret (.bool (su f (x.map c) (y.map c))))) z0):aG (aC P w) A (jB.«tuple.__lt__» ⟨[.ref p,.ref b],[]⟩) G E z0:=by
 have s:=O'.typeIs;refine ac λ_ X=>?_;obtain⟨S,xs,na,t,_,z,B⟩:=ex;obtain⟨T',ys,nb,C,_,D,F⟩:=O';apply X;show aG _ _ (hT _ (.type _) >>= _) _ _ z0;refine wb9 (eW s rM ?_);refine wb9 (kI t z ?_);refine wb9 (kI C D ?_);apply wb9
 refine iV _
  (λtl r o=>r.1=L/\o=z0/\∃x' j g i,tl=List.zip g i/\tu I _ x' g/\tu I _ j i/\(∀q∈x'.zip j,R q.1 q.2)/\
   su f (x'.map c) (j.map c)=su f _ _/\decide (Z g<Z i)=decide (xs.size<ys.size))
  _ ?_ ?_ _ _ ⟨W,W,x,y,_,_,W,B,F,e0,W,by simp⟩
 .rintro⟨u,v⟩ tl r o ⟨ge,rfl,x',j,g,i,gz,hx',hy',hr,gdec,glen⟩
  cases hx' with
  |nil=>simp at gz
  | @cons L' U' H k h1 l=>
    cases hy' with
    |nil=>simp at gz
    | @cons M V J' m h2 n=>
      simp only[qE,gu,IZ]at gz;obtain⟨⟨rfl,rfl⟩,rfl⟩:=gz;rw[aI,aI,mE]at gdec;refine wb9 (I.eqb c3 h1 h2 (λK=>?_) λK=>?_)
      .refine wu9 ⟨W,W,H,J',k,m,W,l,n,λq N=>hr q (jY _ N),?_,by simpa using glen⟩
       simp_all
      .rw[cb λe=>K (ci _ _ (hr _ jM) e)]at gdec;rw[<-gdec]at h;exact wb9 (kJ (wb9 (lt _ L' M _ _ _ (hr _ jM) h1 h2 (wb9 (wu9 (wu9 (wu9 h)))))))
 .rintro⟨r1,r2⟩ o ⟨rfl,rfl,x',j,g,i,gz,hx',hy',hr,gdec,glen⟩;apply wu9;show G (.done (.ret (.bool (decide _)))) o;rw[<-gdec,]at h;rw[<-glen]
  clear c3 e0 ci z left_1 D lt s X t B C F hr gdec glen; cases hx' with
  |nil=>
    clear gz; cases hy' with
    |nil=>exact h
    |cons _ _=>exact h
  |cons _ _=>
    cases hy' with
    |nil=>exact h
    |cons _ _=>simp at gz
def zF{I:Ik P w}{α:Type}[ef α]{f:α->α->cc}{c:I.κ->α}{R:I.κ->I.κ->Prop}{x y:O I.κ}{p b:aN}{Q:ak->ao->Prop}(B:A.units+(I.d+1)<=eE)(ex:tw I z0.heap x p)(O':tw I z0.heap y b)
  (C:∀q∈x.zip y,R q.1 q.2)(ci:∀a b,R a b->c a=c b->a=b)
  (lt:∀(S:bP)(E:ak->ao->Prop)(a b:I.κ)(u v:ak)(Q:ak->ao->Prop),S.units=A.units+1->R a b->I.is z0.heap a u->I.is z0.heap b v->Q (.bool (f (c a) (c b))) z0->aG (aC P w) S (dk .Lt u v) Q E z0)
  (h:Q (.bool (su f (x.map c) (y.map c))) z0):aG (aC P w) A (dk .Lt (.ref p) (.ref b)) Q E z0:=by
 show aG _ _ (richCompare .Lt _ _) ..
 exact CC ex.typeIs O'.typeIs Ao
  (cV Ao ex.typeIs PySem.F.entry_tuple_lt (Lr (by exact iY B) ex O' C ci (λE a b u v Q=>lt _ E a b u v Q W) ⟨_,W,(λe=>nomatch e),h⟩) (PySem.F.args_tuple_lt_2 _ _)) (az (aZ _ _) B)
def vb(h:(dN P w).is k v=U)(hs:sK k=U):∃t,v=.int (iK k) t:=by
 cases k with
 |inl i=>
   rcases dq (k:=.inl i) h with⟨a,t,e,rfl⟩|⟨x,t,e,_⟩
   .clear h; cases e;exact⟨t,W⟩
   .cases e
 |inr x=>cases hs
def Lq(hs:sK a=sK b)(ex:(dN P w).is a u=U)(B:(dN P w).is b v=U)(h:Q (.bool (Lv (cK a) (cK b))) z0):aG (aC P w) A (dk .Lt u v) Q E z0:=by
 cases a with
 |inl i=>
   cases b with
   |inr _=>cases hs
   |inl j=>
     obtain⟨d,rfl⟩:=vb ex W;obtain⟨f,rfl⟩:=vb B W;apply o8;rwa[show cK _=[i]from rfl,show cK _=[j]from rfl,P7]at h
 |inr a=>
   cases b with
   |inl _=>cases hs
   |inr c=>
     rcases dq (k:=.inr a) ex with⟨g,t,e,_⟩|⟨o,d,m,rfl⟩
     .cases e
     .rcases dq (k:=.inr c) B with⟨g,t,e,_⟩|⟨l,f,n,rfl⟩
      .cases e
      .cases m;cases n;apply PyProof.Rows.lt_str;rwa[show cK _=a.cps.toList.map fE from rfl,show cK _=c.cps.toList.map fE from rfl,(zG _ _)]at h
def Gb(ha:sK a=U)(hb:sK b=U)(ex:(dN P w).is a u=U)(B:(dN P w).is b v=U)(h:Q (.bool (decide (iK a<iK b))) z0):aG (aC P w) A (dk .Lt u v) Q E z0:=by
 obtain⟨c,rfl⟩:=vb ex ha;obtain⟨d,rfl⟩:=vb B hb;exact o8 h
def G3{α:Type}{p:α->cc}{x y:O α}(B:x.all p=U)(f:y.all p=U):∀q∈x.zip y,p q.1=U/\p q.2=U:=λq a=>
 ⟨bh.mp B _ (iX a).1,bh.mp f _ (iX a).2⟩
def Ls{x y:N2}{u v:ak}{Q:ak->ao->Prop}(C:A.units+1<=eE)(ex:(i2 P w).is z0.heap x u)(B:(i2 P w).is z0.heap y v)(hs:s2 x=s2 y)(h3:s2 x<3)(h:Q (.bool (Lv (c2 x) (c2 y))) z0) :
  aG (aC P w) A (dk .Lt u v) Q E z0:=by
 cases x with
 |inl a=>
   cases y with
   |inl b=>exact Lq (by cases a<;>cases b<;>first|rfl|cases hs) ex B h
   |inr m=>cases a<;>(simp only[s2]at hs;split at hs<;>cases hs)
 |inr m=>
   cases y with
   |inl b=>cases b<;>(simp only[s2]at hs;split at hs<;>cases hs)
   |inr d=>
     obtain⟨p,rfl,q⟩:=ex;obtain⟨b,rfl,f⟩:=B;simp only[s2]at hs h3;by_cases c1:m.all sK=U
     .by_cases c2:d.all sK=U
      .exact zF (R:=λa b=>sK a=U/\sK b=U) C q f (G3 c1 c2) (λa b c e=>by
         match a,b,c,e with
         |.inl i,.inl j,_,e=>exact c8 _ e) (λk l a b u v Q _ c n o g=>Gb c.1 c.2 n o g) h
      simp_all
     simp_all
def zH:Zb [a] [b]=Lv a b:=by
 rw[Zb,mE];by_cases e:a=b
 .rw[a5 e,e,P6.ir];rfl
 .rw[cb e]
theorem Ga{α B:Type}{f:α->B}:∀{x y:O α},x.map f=y.map f->∀q∈x.zip y,f q.1=f q.2
 |[],_,_,_,h=>by simp at h
 |_::_,[],_,_,h=>by simp at h
 |a::x,b::y,h,q,c=>by
   obtain⟨h1,h2⟩:=iO h
   rcases aA.mp c with rfl|c
   .exact h1
   .exact Ga h2 q c
def P5(C:A.units+2<=eE)(ex:nIs P w z0.heap x u)(B:nIs P w z0.heap y v)(hs:sN x=sN y)(h3:Br (sN x)=U)(h:Q (.bool (Zb (cN x) (cN y))) z0) :
  aG (aC P w) A (dk .Lt u v) Q E z0:=by
 rcases vU hs h3 with⟨a,b,rfl,rfl,q⟩|⟨a,b,rfl,rfl,f,g⟩|⟨a,b,rfl,rfl,f,g,l,m⟩
 .simp only[cN]at h;rw[zH]at h;exact Lq q ex B h
 .simp only[cN]at h;rw[a5 f,a5 g,zH]at h;obtain⟨p,rfl,r⟩:=ex;obtain⟨b,rfl,k⟩:=B;refine zF (R:=λa b=>sI a=U/\sI b=U) C r k (G3 f g) (λa b c e=>?_) (λn o a b u v Q _ c t z d=>?_) h
  .rcases a with(i|_)|_<;>rcases b with(j|_)|_<;>first|exact c8 _ (c8 _ e)|simp[sI,sK]at c
  .rcases a with a|_<;>rcases b with b|_<;>first|cases c.1;done|cases c.2;done|exact Gb c.1 c.2 t z d
 .simp only[cN]at h;rw[cb f,cb g]at h;obtain⟨p,rfl,r⟩:=ex;obtain⟨b,rfl,k⟩:=B;refine zF (R:=λa b=>s2 a=s2 b/\s2 a<3) C r k (λq d=>⟨Ga l q d,m _ (dh (iX d).1)⟩) (λa b c e=>M1 c.1 c.2 e) (λn o a b u v Q s c t z d=>?_) h;exact Ls (by rw[s];omega) t z c.1 c.2 d
end
def B7:lh table "set.__iter__"=Y jB.«frozenset.__iter__» :=PySem.entryFor_alias (id':="frozenset.__iter__") (by kernel_rfl) W (by decide +kernel) (by kernel_rfl)
def qJ:lh table "set_iterator.__next__"=Y jB.«set_iterator.__next__» :=entryFor_of_tree (by kernel_rfl)
def fW:PySem.Slot "set_iterator" "__next__" "set_iterator.__next__":=.of (owner:="set_iterator") (n:="__next__") (by kernel_rfl) (by decide +kernel) (by decide +kernel) (by decide +kernel) (.inl (by decide +kernel)) (by kernel_rfl)
def qL(a:ak):argsOk "set_iterator.__next__" ⟨[a],[]⟩:=by
 kernel_rfl
theorem qZ{α:Type}:∀{xs:O α}{i:T}(h:i<Z xs),(xs[i]::xs.eraseIdx i).Perm xs
 |x::r,0,_=>by simp
 |x::r,i+1,h=>by
   have:=qZ (by simpa using h);exact(List.Perm.swap _ _ _).trans (this.cons x)
theorem FF{α:Type}(nx:T->T):∀(fuel k:T)(left:O α)(out:c7 α),Z left<=fuel->(xq nx fuel k left out).toList.Perm (out.toList++left)
 |0,k,left,out,h=>by
   obtain rfl:left=[]:=j7.mp (aH h (aU _));simp only[xq,aL];exact .refl _
 |fuel+1,k,left,out,h=>by
   simp only[xq]
   cases q:left[nx k % Z left]? with
   |none=>
     have:left=[]:=by
      cases left with
      |nil=>rfl
      |cons x r=>
        rw[ai (j5 _ (by simp))]at q;cases q
     subst this;simp
   |some x=>
     obtain⟨a,e⟩:=aK.mp q;apply (FF nx _ _ (left.eraseIdx _) _ (by grind)).trans;rw[Array.toList_push,aM];apply kn _;rw[<-e];exact qZ a
def tR{α:Type}(nx:T->T)(xs:c7 α):(f9 nx xs).toList.Perm xs.toList:=by
 simpa [f9]using (FF nx _ 0 _ #[] (by simp))
section
def II(B:n≠0)(k:∀i d,i<n->Q i { s with drawn:=d }):aG (aC prog w) A (choose src n) Q E s:=λa p _=>by
 exact⟨B,k _ _ (j5 _ (cu B))⟩
theorem GG{α:Type}:∀(n:T)(xs:O α)(s:ao){Q:O α->ao->Prop},Z xs<=n->(∀f d,f.Perm xs->Q f { s with drawn:=d })->aG (aC prog w) A (drawOrder n xs) Q E s
 |0,xs,s,Q,h,k=>by
   obtain rfl:xs=[]:=j7.mp (aH h (aU _));exact wu9 (k [] _ (.refl _))
 |n+1,[],s,Q,h,k=>wu9 (k [] _ (.refl _))
 |n+1,x::r,s,Q,h,k=>by
   refine wb9 (II (by simp) λi d a=>?_);rw[ai a];exact wb9 (GG n _ _ (by grind) λf d pm=>wu9 (k _ d ((pm.cons _).trans (qZ a))))
end
inductive Mode where
 |tx|dr (T':aN) (ps:O T)|pl
noncomputable def slotAt(t:bB):T->T
 |0=>0
 |i+1=>t.place.getD i 0+1
def Mode.first(t:bB)(i:T):Mode->ak
 |.tx=>rawInt 0
 |.dr T' _=>.ref T'
 |.pl=>rawInt (slotAt t i)
def Mode.Ok(w:cU)(es:c7 (cx×ak))(t:bB)(h:bJ)(I:aN):Mode->Prop
 |.tx=>w.params.followText "set-order"=U
 |.dr T' ps=>T'≠I/\ps.Perm (aX es.size)/\h.get? T'=Y { cls:=.type "tuple",data:=.seq (ps.map λ(p:T)=>rawInt p).toArray }
 |.pl=>w.params.followText "set-order"=J/\(!t.plain && decide (es.size > 1))=J
noncomputable def Mode.ord(w:cU)(S:aN)(es:c7 (cx×ak))(f:T):Mode->O ak
 |.tx=>(f9 (w.params.setOrder S f) es).toList.map (·.2)
 |.dr _ ps=>ps.map λp=>(es[p]?.map (·.2)).getD .none
 |.pl=>es.toList.map (·.2)
def Mode.v3:∀{m:Mode},m.Ok w es t h I->(m.ord w S es f).Perm (es.toList.map (·.2))
 |.tx,_=>(tR _ _).map _
 |.dr T' ps,h=>by
   refine(h.2.1.map _).trans ?_;rw[show(aX es.size).map (λp=>(es[p]?.map (·.2)).getD eY)=es.toList.map (·.2)from ?_];apply lD (by simp);intro n h1 h2;simp at h1 h2;simp[h1]
 |.pl,_=>.refl _
structure CB(w:cU)(h:bJ)(I S:aN)(es:c7 (cx×ak))(ep:T)(t:bB)(m:Mode)(i:T):Prop where
 it:h.get? I=Y { cls:=.type "set_iterator",data:=.fields #[m.first t i,rawInt i,.ref S,rawInt es.size,rawInt ep] }
 st:oi (t8 w) h S es ep t
 md:m.Ok w es t h I
 ne:S≠I
section
variable{w:cU}{s:ao}{m:Mode}
def Mode.Ok.keep{f:bJ}(y:m.Ok w es t h I)(k:∀b o,b≠I->h.get? b=Y o->f.get? b=Y o):m.Ok w es t f I:=by
 cases m with
 |dr T' ps=>exact⟨y.1,y.2.1,k _ _ y.1 y.2.2⟩
 |_=>exact y
def qx(k:Q (w.params.followText "set-order") s):aG (aC prog w) A setsByText Q E s:=by
 exact wb9 (yT (wu9 k))
def N8(y:oi (t8 w) s.heap S es f t)(h:w.params.followText "set-order"=U)(k:Q (f9 (w.params.setOrder S f) es) s):aG (aC prog w) A (setWalk S) Q E s:=by
 refine wb9 (eD y.obj W y.fits ?_);refine wb9 (qx ?_);rw[h];exact wb9 (yT (wu9 k))
def vZ(y:oi (t8 w) s.heap S es f t):t.place.size=es.size:=by
 have:=y.fits;simp only[m7,ah,eb]at this;exact this.1
def FU(y:oi (t8 w) s.heap S es f t)(h:w.params.followText "set-order"=J)(hd:(!t.plain && decide (es.size > 1))=J)(hi:i<=es.size)
  (k:Q (match es[i]? with|some x=>Y (x.2,slotAt t (i+1))|none=>L) s):aG (aC prog w) A (k6 S (slotAt t i) g e) Q E s:=by
 refine wb9 (eD y.obj W y.fits ?_);refine wb9 (qx ?_);rw[h];show aG (aC _ w) A (if(!t.plain && decide _)=U then _ else _) Q E s;rw[hd];show aG (aC _ w) A ((if(!t.led && !es.isEmpty)=U then _ else pure ()) >>= _) Q E s;rw[y.ok.l,t8,h];refine wb9 (wu9 (wu9 ?_))
 have hb:aO t.place (slotAt t i)=i:=by
  cases i with
  |zero=>exact M3 y.ok.r
  |succ j=>
    have c:j<t.place.size:=by rwa[vZ y]
    show aO _ (t.place.getD j 0+1)=j+1;rw[show t.place.getD j 0=t.place[j] by simp_all];exact M4 y.ok.r c
 rw[hb]
 cases q:es[i]? with
 |none=>rwa[q]at k
 |some x=>
   rw[q]at k
   have b:i<es.size:=by
    rcases bC.mp q with⟨a,_⟩;exact a
   have hp:t.place[i]?=Y (t.place[i]'(by rwa[vZ y])):=br _;rw[hp];simp only[slotAt]at k
   simp_all
def FT{sl:T}(y:oi (t8 w) s.heap S es f t)(h:w.params.followText "set-order"=U)(k:Q (((f9 (w.params.setOrder S f) es)[i]?).map λe=>(e.2,sl)) s):aG (aC prog w) A (k6 S sl i f) Q E s:=by
 refine wb9 (eD y.obj W y.fits ?_);refine wb9 (qx ?_);rw[h];simp only[eH,ck,et];exact wb9 (N8 y h (wu9 k))
def PV(y:oi (t8 w) s.heap S es f t)(B:es[p]?=Y x)(k:Q x.2 s):aG (aC prog w) A (setNextDrawn S p f) Q E s:=by
 refine wb9 (eD y.obj W y.fits ?_);simp only[eH,ck,et];rw[B];exact wu9 k
def LH{c:ak}(y:CB w s.heap I S es C t m i)(k:∀B,CB w B I S es C t m (i+1)->dJ I s.heap B->Q (.done (.ret r)) { s with heap:=B })(hf:a=m.first t (i+1))(hb:b=rawInt ((i:cx)+1)) :
  aG (aC prog w) A (do setField (.ref I) 0 a;setField (.ref I) 1 b;ret r) Q E s:=by
 subst hf;subst hb;refine wb9 (cH y.it (by simp) λh1 d s1=>wb9 (cH d (by simp) λh2 f s2=>wu9 ?_));have kp:∀b o,b≠I->s.heap.get? b=Y o->h2.get? b=Y o:=λb o n e=>s2.extBut _ _ n (s1.extBut _ _ n e);refine k h2 ⟨?_,y.st.keep λo e=>kp _ _ y.ne e,y.md.keep kp,y.ne⟩ (s1.trans s2);rw[f];simp
end
section
variable{A:bP}{s:ao}
def Fj(y:CB w s.heap I S es f t m i)
  (k:aG (aC prog w) A (if let .int slot _:=m.first t i then do
    match <-k6 S slot.toNat (i:cx).toNat (f:cx).toNat with
    |some (x,next)=>do setField (.ref I) 0 (rawInt next);setField (.ref I) 1 (rawInt ((i:cx)+1));ret x
    |none=>do setField (.ref I) 2 .none;raiseNew (<-newExc (.type "StopIteration") [])
   else do
    let Y places <-seqItems? (m.first t i)|unsupported "internal:set_iterator"
    match places[(i:cx).toNat]? with
    |some (.int place _)=>do let x <-setNextDrawn S place.toNat (f:cx).toNat;setField (.ref I) 1 (rawInt ((i:cx)+1));ret x
    |some _=>unsupported "internal:set_iterator"
    |none=>do setField (.ref I) 0 (rawInt 0);setField (.ref I) 2 .none;raiseNew (<-newExc (.type "StopIteration") [])) Q E s) :
  aG (aC prog w) A (jB.«set_iterator.__next__» ⟨[.ref I],[]⟩) Q E s:=by
 show aG (aC _ w) A (fieldsOf _ >>= _) Q E s;refine wb9 (wpAny_fieldsOf y.it W ?_);refine wb9 (Rq y.st.obj W y.st.fits ?_);simp only[eH,ck,et];exact k
def zh{α:Type}{Q:α->ao->Prop}(B:A.handled=L)(k:∀f e,(∀b o,s.heap.get? b=Y o->f.get? b=Y o)->(∃o,f.get? e=Y o/\o.cls=.type "StopIteration")->E (.ref e) { s with heap:=f }) :
  aG (aC prog w) A (do raiseNew (<-newExc (.type "StopIteration") []):He α) Q E s:=by
 apply wb9;refine wb9 (fh (wb9 (Nz (by first|rfl|(rfl)) (fh ?_ (by size_fits)))) (by size_fits));refine wb9 (wpAny_handled ?_);rw[B];exact wb9 (wu9 (wpAny_throw (k _ _ (λb o e=>hp9 _ (hp9 _ e)) ⟨_,aT _ W,W⟩)))
def OD{Q:ak->ao->Prop}(y:CB w s.heap I S es C t m i)(hi:i<es.size)(k:∀B v,(m.ord w S es C)[i]?=Y v->CB w B I S es C t m (i+1)->dJ I s.heap B->Q v { s with heap:=B }) :
  aG (aC prog w) A (jB.«set_iterator.__next__» ⟨[.ref I],[]⟩) (λf F=>∃v,f=.done (.ret v)/\Q v F) E s:=by
 apply Fj y
 cases m with
 |tx=>
   refine (?_ : aG (aC _ w) A (k6 S 0 i C >>= _) _ E s);refine wb9 (FT y.st y.md ?_)
   have j:(f9 (w.params.setOrder S C) es).size=es.size:=by
    simpa using ((tR _ es).length_eq)
   rw[br (by rwa[j])];refine LH (c:=.none) y (λB d g=>⟨_,W,k B _ ?_ d g⟩) W rfl;simp only[Mode.ord,aV,i6]
   simp_all
 |dr T' ps=>
   obtain⟨u,h,l⟩:=id y.md;refine wb9 (dW l W ?_);have hl:Z ps=es.size:=by rw[h.length_eq,aW]
   have a:i<Z ps:=af hi (ag hl.symm);have hp :=bq.mp (h.mem_iff.mp (bA a));have q:((ps.map λ(p:T)=>rawInt p).toArray)[(i:cx).toNat]?=Y (rawInt (ps[i])):=by simp[a]
   dsimp only;rw[q];refine wb9 (PV y.st (br hp) ?_);refine wb9 (cH y.it (by simp) λh1 r s1=>wu9 ⟨_,W,k h1 _ ?_ ⟨?_,y.st.keep λo e=>s1.extBut _ _ y.ne e,y.md.keep λb o n e=>s1.extBut _ _ n e,y.ne⟩ s1⟩)
   .simp only[Mode.ord,aV]
    simp_all
   .rw[r];simp[Mode.first,rawInt]
 |pl=>
   refine wb9 (FU y.st y.md.1 y.md.2 (aE hi) ?_);rw[br hi];refine LH (c:=.none) y (λB d g=>⟨_,W,k B _ ?_ d g⟩) W rfl;simp[Mode.ord,hi]
def TV(B:A.handled=L)(y:CB w s.heap I S es C t m es.size)(k:∀f e,(∀b o,b≠I->s.heap.get? b=Y o->f.get? b=Y o)->(∃o,f.get? e=Y o/\o.cls=.type "StopIteration")->E (.ref e) { s with heap:=f }) :
  aG (aC prog w) A (jB.«set_iterator.__next__» ⟨[.ref I],[]⟩) Q E s:=by
 apply Fj y
 cases m with
 |tx=>
   refine (?_ : aG (aC _ w) A (k6 S 0 es.size C >>= _) _ E s);refine wb9 (FT y.st y.md ?_)
   have c:(f9 (w.params.setOrder S C) es).size=es.size:=by
    simpa using ((tR _ es).length_eq)
   rw[iR (ag c)];exact wb9 (cH y.it (by simp) λh1 a s1=>zh B λf e kp he=>k f e (λb o n q=>kp _ _ (s1.extBut _ _ n q)) he)
 |dr T' ps=>
   refine wb9 (dW (id y.md).2.2 W ?_);have hl:Z ps=es.size:=by rw[(id y.md).2.1.length_eq,aW]
   dsimp only;rw[iR (by simp[hl])];exact wb9 (cH y.it (by simp) λh1 a s1=>wb9 (cH a (by simp) λh2 h s2=>zh B λf e kp he=>k f e (λb o n q=>kp _ _ (s2.extBut _ _ n (s1.extBut _ _ n q))) he))
 |pl=>
   refine wb9 (FU y.st y.md.1 y.md.2 (aq _) ?_);rw[iR (aq _)];exact wb9 (cH y.it (by simp) λh1 a s1=>zh B λf e kp he=>k f e (λb o n q=>kp _ _ (s1.extBut _ _ n q)) he)
def CB.ty(y:CB w s.heap I S es f t m i):s.TypeIs (.ref I) "set_iterator":=⟨_,y.it,W⟩
def OA(y:CB w s.heap I S es B t m i)(hi:i<es.size)(k:∀f v,(m.ord w S es B)[i]?=Y v->CB w f I S es B t m (i+1)->dJ I s.heap f->Q (Y v) { s with heap:=f }) :
  aG (aC prog w) A (kr (.ref I)) Q E s:=by
 exact wb9 (mM (dS y.ty fW (cV fW y.ty qJ (OD y hi λf v a b c=>wu9 (k f v a b c)) (qL _))))
def TQ(B:A.handled=L)(y:CB w s.heap I S es C t m es.size)(k:∀f,(∀b o,b≠I->s.heap.get? b=Y o->f.get? b=Y o)->Q L { s with heap:=f }) :
  aG (aC prog w) A (kr (.ref I)) Q E s:=by
 refine wb9 (mM (dS y.ty fW (cV fW y.ty qJ (TV B y λf e kp he=>?_) (qL _))));obtain⟨o,ho,hc⟩:=he;exact wb9 (eW ⟨o,ho,hc⟩ CZ (wu9 (k _ kp)))
end
def xG:lh table "set_iterator.__iter__"=Y jB.«dict_keyiterator.__iter__» :=PySem.entryFor_alias (id':="dict_keyiterator.__iter__") (by kernel_rfl) W (by decide +kernel) (by kernel_rfl)
def qH:PySem.Slot "set_iterator" "__iter__" "set_iterator.__iter__":=.of (owner:="set_iterator") (n:="__iter__") (by kernel_rfl) (by decide +kernel) (by decide +kernel) (by decide +kernel) (.inl (by decide +kernel)) (by kernel_rfl)
def xI(a:ak):argsOk "set_iterator.__iter__" ⟨[a],[]⟩:=by
 kernel_rfl
noncomputable def Mode.fp:Mode->O aN
 |.dr T' _=>[T']
 |_=>[]
section
variable{A:bP}{s:ao}{es:c7 (cx×ak)}{m:Mode}
def CB.frame{f:bJ}(y:CB w h I S es B t m i)(k:∀b∈I::S::m.fp,∀o,h.get? b=Y o->f.get? b=Y o):CB w f I S es B t m i:=by
 refine⟨k I (.head _) _ y.it,y.st.keep λo e=>k S (.tail _ (.head _)) o e,?_,y.ne⟩
 cases m with
 |dr T' ps=>exact⟨y.md.1,y.md.2.1,k T' (.tail _ (.tail _ (.head _))) _ y.md.2.2⟩
 |tx=>exact y.md
 |pl=>exact y.md
def A7(hh:A.handled=L):Walks prog w A I (I::S::m.fp) [I] es.size (λi v=>(m.ord w S es f)[i]?=Y v) (λi h=>CB w h I S es f t m i) where
 sub:=λb hb=>by rw[au.mp hb];exact .head _
 frame:=λi h d st k=>st.frame k
 item:=λi s Q E hi st k=>OA st hi λd v a b c=>k v d s.toks a b λb o hb e=>c.extBut _ _ (λz=>hb (z▸au.mpr W)) e
 done:=λs Q E st k=>TQ hh st λd kp=>k d s.toks λb o hb e=>kp b o (λz=>hb (z▸au.mpr W)) e
 self:=λi s Q E st k=>by
  refine PySem.wpAny_pyIter_slot st.ty qH (cV qH st.ty xG ?_ (xI _));show aG _ _ (ret (.ref I)) _ _ s;exact wu9 ⟨_,W,"set_iterator",_,st.ty,fW.lookup,k⟩
def DG(y:oi (t8 w) s.heap S es C t)(B:es.size<=aJ)
  (k:∀(h1:bJ)d I m,s.heap.objs.size<=I->(∀b∈m.fp,s.heap.objs.size<=b)->(∀b o,s.heap.get? b=Y o->h1.get? b=Y o)->CB w h1 I S es C t m 0->Q (.ref I) { s with heap:=h1,drawn:=d }) :
  aG (aC prog w) A (CY (.ref S)) Q E s:=by
 refine PySem.wpAny_pyIter_slot ⟨_,y.obj,W⟩ Ap (cV Ap ⟨_,y.obj,W⟩ B7 ?_ (PySem.F.args_set_iter_1 _));refine (?_ : aG (aC _ w) _ (NG S >>= _) _ _ s);refine wb9 (wb9 (Rq y.obj W y.fits (wu9 ?_)))
 have dr:∀{c:bP}{g:ak->ao->Prop}{i:cc->ao->Prop},i (!w.params.followText "set-order" && (!t.plain && decide (es.size > 1))) s->aG (aC prog w) c (setDrawn S) i g s:=by
  intro c g i h;exact wb9 (eD y.obj W y.fits (wb9 (qx (wu9 h))))
 have one:∀{c:bP} {g:ak->ao->Prop} {i:Fin->ao->Prop} {m:Mode} (s1:ao) (f:ak),f=m.first t 0->m.Ok w es t s1.heap s1.heap.objs.size->s.heap.objs.size<=s1.heap.objs.size->(∀b o,s.heap.get? b=Y o->s1.heap.get? b=Y o)->
   (∀h1,h1=s1.heap.push { cls:=.type "set_iterator",data:=.fields #[m.first t 0,rawInt (0),.ref S,rawInt es.size,rawInt C] }->CB w h1 s1.heap.objs.size S es C t m 0->i (.done (.ret (.ref s1.heap.objs.size))) { s1 with heap:=h1 })->
   aG (aC prog w) c (do ret (<-newFields "set_iterator" [f,rawInt 0,.ref S,rawInt es.size,rawInt (<-setEpoch S)])) i g s1:=by
  intro c g i m s1 f hf ok le ex h;have a:=y.keep λo e=>ex _ _ e;refine wb9 (wpAny_setEpoch_of a.obj W a.fits ?_);apply wb9;refine fh ?_ (by size_fits);subst hf;exact wu9 (h _ W ⟨aT _ W,a.keep λo e=>hp9 _ e,ok.keep λb o n e=>hp9 _ e,ba (aS (hl9 y.obj) le)⟩)
 refine wb9 (dr ?_)
 cases hb:w.params.followText _ with
 |true=>
   refine wb9 (wu9 ?_);refine one (m:=.tx) s _ W hb (aq _) (λb o e=>e) λh1 j a=>⟨_,W,_,_,a.ty ,fW.lookup,?_⟩
   subst j;exact k _ _ _ _ (aq _) (λb h=>by cases h) (λb o e=>hp9 _ e) a
 |false=>
   cases hd:(!t.plain && decide (es.size > 1))with
   |false=>
     refine wb9 (wu9 ?_);refine one (m:=.pl) s _ W ⟨hb,hd⟩ (aq _) (λb o e=>e) λh1 j a=>⟨_,W,_,_,a.ty ,fW.lookup,?_⟩
     subst j;exact k _ _ _ _ (aq _) (λb h=>by cases h) (λb o e=>hp9 _ e) a
   |true=>
     refine wb9 (GG _ (aX _) s (by simp) λps d pm=>?_);have hl:Z ps=es.size:=by rw[pm.length_eq,aW]
     refine wb9 (CU ?_ (by simp_all));refine one (m:=.dr _ ps) _ _ W ⟨?_,pm,(aT _ W)⟩ ?_ (λb o e=>hp9 _ e) ?_
     .simp
     .simp
     .intro h1 j a;refine⟨_,W,_,_,a.ty ,fW.lookup,?_⟩;subst j;refine k _ d _ _ ?_ ?_ (λb o e=>hp9 _ (hp9 _ e)) a
      .simp
      .intro b hb;rw[au.mp hb];exact aq _
end
section
variable{A:bP}{s:ao}
def LY(ty:s.TypeIs v "set")(k:Q J s):aG M A (kP v) Q E s:=by
 refine wb9 (jl ty PySem.F.slot_set_len.lookup ?_);refine wb9 (eW ty sub_set_self ?_);exact wb9 (jU ty (wu9 k))
def Eb{ord:O ak}(h:ItemsOf (λi v=>ord[i]?=Y v) acc ord.length):acc.toList=ord:=by
 obtain⟨h1,h2⟩:=h;apply uq;intro i;by_cases hi:i<acc.size
 .have:=h2 i _ (br hi)
  simp_all
 simp_all
def wI{T':ej}{D:Drawn->(T->ak->Prop)->Prop}{K:aN->Prop}(P:s.TypeIs (.ref S) T')
  (t1:(jW T' == jW "list")=J)(t2:(jW T' == jW "tuple")=J)(hz:n<=aJ)
  (it:∀{c3:ak->ao->Prop}{Q1:ak->ao->Prop}(h0:bJ),(∀b o,s.heap.get? b=Y o->h0.get? b=Y o)->s.heap.objs.size<h0.objs.size->(∀(h1:bJ)d I fp R e0,Walks prog w A.in1 I fp [I] n R e0->e0 0 h1->s.heap.objs.size∉fp->(∀b o,K b->s.heap.get? b=Y o->b≠I)->
   (∀b o,h0.get? b=Y o->h1.get? b=Y o)->D d R->Q1 (.ref I) { s with heap:=h1,drawn:=d })->aG (aC prog w) A.in1 (CY (.ref S)) Q1 c3 { s with heap:=h0 })
  (hint:∀{c3:ak->ao->Prop}{Q1:cc->ao->Prop}(h1:bJ)d,(∀b o,s.heap.get? b=Y o->h1.get? b=Y o)->(∀b O',Q1 b { s with heap:=h1,drawn:=d,toks:=O' })->aG (aC prog w) A.in1 (kP (.ref S)) Q1 c3 { s with heap:=h1,drawn:=d })
  (k:∀(h1:bJ)d O' B R,D d R->s.heap.objs.size<h1.objs.size->(∀b o,K b->s.heap.get? b=Y o->h1.get? b=Y o)->PySem.ItemsOf R B n->Q B.toList { s with heap:=h1,drawn:=d,toks:=O' }):aG (aC prog w) A (mB (.ref S)) Q E s:=by
 refine wb9 (wpAny_runValue (kA PySem.F.entry_proto_collect ?_));refine wb9 (fh ?_);refine wu9 (NZ (Ha PySem.F.plain_list_iadd _) (kA PySem.F.entry_list_iadd ?_));obtain⟨C,t,cS⟩:=P;have ne:=jE (hl9 t);generalize j:s.heap.objs.size=L' at *;generalize g:({ cls:=.type _,data:=.seq _ }:m8)=lo;have a:∀b o,s.heap.get? b=Y o->(s.heap.push lo).get? b=Y o:=λ_ _=>hp9 _;have gL:(s.heap.push lo).get? L'=Y { cls:=.type "list",data:=.seq (#[]) }:=by rw[<-j];exact(aT _ (by rw[<-g];rfl)).trans (by rw[<-g])
 refine (?_ : aG _ A.in1 (Builtin.List.listExtendWith _ _ _) _ _ _);refine wb9 (jU ⟨_,a _ _ t,cS⟩ ?_);have b1:uk (.ref L') (.ref S)=J:=by simp[uk,ne]
 simp only[b1,t1,t2,Bool.or_false,ck,et];refine wb9 (it _ a (hl9 gL) λh1 d I fp R e0 u st nf y ex hd=>?_);refine wb9 (cL (hint h1 d (λb o e=>ex _ _ (a _ _ e)) λb O'=>?_));have l:=ex _ _ gL;refine PySem.wpAny_ite_split (λ_=>wb9 (kJ (wb9 (wb9 (rq l W ?_))))) λ_=>?_;have v:=ei (fD (·.push eY)) l W;refine rq v W ?_;have x:=ei (fD (·.pop)) v W;have f:∀b o,b≠L'->h1.get? b=Y o->((h1.update L' (fD (·.push eY))).update L' (fD (·.pop))).get? b=Y o:=λb o n e=>(dT _ _ (cB n)).trans ((dT _ _ (cB n)).trans e)
 rotate_left
 have x:=l;have f:∀b o,b≠L'->h1.get? b=Y o->h1.get? b=Y o:=λ_ _ _ e=>e
 all_goals
  refine wu9 (NZ (Ha PySem.F.plain_extend_loop _) (codeAny_extend_loopS u.toS hz _ nf _ n 0 _ _ _ W (aU _) (u.frame _ _ _ st λb hb o e=>f b o (λz=>nf (z▸hb)) e) x (ItemsOf.nil _) λG B c i gS h=>?_));clear t1 t2 hz hint t cS it ne g gL b1 u st nf l x; obtain⟨H,M,N,p,r⟩:=G;obtain rfl:M=s.gens:=i.gens;obtain rfl:N=d:=i.drawn;obtain rfl:r=s.os:=i.os;refine wb9 (wpAny_load gS (wu9 (k H _ p _ R hd (hl9 gS) (λb o z q=>i.heap b o (λm=>?_) (f b o (λm=>?_) (ex _ _ (a _ _ q)))) h)))
  .clear k a ex f h hd gS i; rcases aA.mp m with m|m
   .subst j;exact absurd (hl9 q) (m▸bH _)
   .exact y b o z q (au.mp m)
  .clear k a y ex f h hd gS i z; subst j;exact absurd (hl9 q) (m▸bH _)
def Cb(hh:A.handled=L)(y:oi (t8 w) s.heap S es F t)(C:es.size<=aJ)
  (k:∀h1 d B vs,(∀b o,s.heap.get? b=Y o->h1.get? b=Y o)->s.heap.objs.size<=h1.objs.size->vs.Perm (es.toList.map (·.2))->Q vs { s with heap:=h1,drawn:=d,toks:=B }):aG (aC prog w) A (mB (.ref S)) Q E s:=by
 refine wI (K:=λ_=>True) (D:=λ_ R=>∃ord:O ak,ord.Perm (es.toList.map _)/\R=λi v=>ord[i]?=Y v) ⟨_,y.obj,W⟩ cF cF C (λh0 ex lt c=>DG (y.keep λo e=>ex _ _ e) C λh1 d I m f g ex it=>c h1 d I _ _ _ (A7 hh) it (λz=>?_) (λb o _ e z=>(absurd (cR (hl9 e) (aS lt f)) (z▸bH _))) ex ⟨_,Mode.v3 it.md,W⟩)
  (λh1 d ex c=>LY ⟨_,ex _ _ y.obj,W⟩ (c _ _)) λh1 d B h _ ⟨ord,pm,e⟩ sz kp a=>?_
 .rcases aA.mp z with z|z
  .exact absurd (aS lt f) (z▸bH _)
  rcases aA.mp z with z|z
  .exact absurd (hl9 y.obj) (z▸bH _)
  .exact absurd (aS lt (g _ z)) (bH _)
 .subst e;have hl:Z ord=es.size:=by rw[pm.length_eq,aD,bM]
  rw[<-hl]at a;rw[Eb a];exact k h1 d B _ (λb o=>kp b o trivial) (aE sz) pm
end
section
variable{prog:bW}{w:cU}{A:bP}{s:ao}
def Xz(prog:bW)(w:cU)(A:bP)(s:ao)(v:ak)(B:O ak->Prop):Prop:=
 ∀(a:bP)(c:ak->ao->Prop)(f:O ak->ao->Prop),a.handled=A.handled->(∀vs h1 d e,(∀b o,s.heap.get? b=Y o->h1.get? b=Y o)->s.heap.objs.size<=h1.objs.size->B vs->f vs { s with heap:=h1,drawn:=d,toks:=e })->
  aG (aC prog w) a (mB v) f c s
end
end L2
namespace L2
open PySem.W
section
variable{A:bP}{s:ao}
def _root_.L2.tu.first(x:tu I h f vs):(f=[]/\vs=[])\/∃k v B C,f=k::B/\vs=v::C/\I.is h k v/\tu I h B C:=by
 cases x with
 |nil=>exact .inl ⟨W,W⟩
 |cons a b=>exact .inr ⟨_,_,_,_,W,W,a,b⟩
def Ii{fin:cc}(R:A.units+2<=eE)(C:tu (i3 P w) s.heap F xs):∀{B:O (i3 P w).κ} {I:O ak} (i:T),tu (i3 P w) s.heap B I->F.map sN=B.map sN->(∀k∈F,Br (sN k)=U)->
  (b=U->i=0->∀k,F.head? = Y k->sN k=[1])->Q (if F=B then fin else xD (F.map cN) (B.map cN)) s->KatLex P w A b fin Q (xs.zip I) i s:=by
 induction C with
 |nil=>
   intro B I i d hs _ _ h
   cases d with
   |nil=>exact kat_nil (by simpa using h)
   |cons _ _=>cases hs
 | @cons f u F xs h1 C n=>
   intro B I i d hs h3 h0 h
   cases d with
   |nil=>cases hs
   | @cons m v B I h2 d=>
     simp only[aI,gu]at hs;refine kat_cons ((i3 P w).eqb R h1 h2 (λe=>?_) λe=>?_)
     .subst e;refine kat_yes (n _ d hs.2 (λk hk=>h3 k (jY _ hk)) (λ_ z=>((a7 (ag z) (aU _))).elim) ?_);by_cases l:F=B
      .simp_all
      .rw[cb l];rw[cb λz=>l (iO z).2,aI,aI]at h;rwa[show xD _ _=xD (F.map cN) _ by rw[xD,mE,a5 W]]at h
     .rw[cb λz=>e (iO z).1,aI,aI]at h;rw[show xD _ _=Zb _ _ by rw[xD,mE,cb (λz=>e (MV hs.1 (h3 _ jM) z))]]at h;apply kat_no;by_cases j:(b && i == 0)=U
      .rw[j];simp only[ah,eb]at j;have g:=h0 j.1 j.2 f W
       clear R n h0 d e j; rcases vU hs.1 (h3 _ jM)with⟨a,c,rfl,rfl,q⟩|⟨a,c,rfl,rfl,q1,q2⟩|⟨a,c,rfl,rfl,q1,q2,q3,q4⟩
       .clear h3 hs; cases a with
        |inl _=>simp[sN]at g
        |inr a=>
          cases c with
          |inl _=>cases q
          |inr c=>
            rcases dq (k:=.inr a) h1 with⟨_,_,t,_⟩|⟨x,o,t,rfl⟩
            .cases t
            .clear h1; rcases dq (k:=.inr c) h2 with⟨_,_,l,_⟩|⟨p,r,l,rfl⟩
             .cases l
             .clear h2; cases t;cases l;apply oneLt_str;simp only[cN]at h;rwa[zH,show cK _=a.cps.toList.map fE from rfl,show cK _=c.cps.toList.map fE from rfl,(zG a.cps.toList c.cps.toList)]at h
       .simp only[sN]at g;simp_all
       .simp only[sN]at g;simp_all
      .rw[Bool.eq_false_iff.mpr j];refine kat_one _ _ (P5 R h1 h2 hs.1 (h3 _ jM) ?_);exact h
def abo(B:A.units+2<=eE)(ex:rK P w s.heap x p)(C:rK P w s.heap y c)(hs:x.map sN=y.map sN)(h3:∀k∈x,Br (sN k)=U)(h1:b=U->∀k,x.head? = Y k->sN k=[1])
  (h:Q (xD (x.map cN) (y.map cN)) s):aG (aC P w) A (keyLt' (mC b) (.ref p) (.ref c)) Q E s:=by
 refine ac λ_ n=>?_;obtain⟨l,o,r,f,_,g,a⟩:=ex;obtain⟨m,q,t,i,_,j,d⟩:=C;apply n;refine kat_lt f g i j (Ii B a 0 d hs h3 (λz _=>h1 z) ?_)
 have hl:o.size=q.size:=by
  have e:=c8 gh hs;simp only[aD]at e;rw[<-bM,<-bM,a.length,d.length,e]
 by_cases e:x=y
 .rw[a5 e,hl];rw[e,oP.ir]at h;simpa using h
 simp_all
noncomputable def R6(f:O (O T)):ar cc:=match f.head? with
 |some [1]=>Y U
 |some [2]=>Y J
 |some (3::_)=>Y J
 |_=>L
def Mh(q:nIs P w s.heap k v)(hb:R6 (sN k::B)=Y b):∃T':ak,(T'=if b=U then .type "str" else .type "tuple")/\∀M,Looks M s.heap (hD v) T':=by
 cases k with
 |inl k=>
   cases k with
   |inl i=>simp[R6,sN]at hb
   |inr a=>
     have e:b=U:=by simpa [R6,sN]using hb.symm
     subst e
     rcases dq (k:=.inr a) q with⟨_,_,z,_⟩|⟨j,f,_,rfl⟩
     .cases z
     .exact⟨_,W,λM=>Looks.of_pure W⟩
 |inr g=>
   have e:b=J:=by
    simp only[R6,sN,NU]at hb;by_cases c:g.all sI=U
    .simp_all
    simp_all
   subst e;obtain⟨p,rfl,o,h,n,go,d,_⟩:=q;exact⟨_,W,λM=>d▸(Looks.ld go).andThen .now⟩
def VT{F:O T}{R:T->O NK}{I:T->aN}{C:O (O T)}{b:cc}{Q:qC->ao->Prop}(hk:∀j∈F,rK P w s.heap (R j) (I j))(h1:∀j∈F,(R j).map sN=C)(hb:R6 C=Y b)(B:0<Z F)(h:Q (mC b) s) :
  aG (aC P w) A (keyKind' (F.map λj=>bY (I j)).toArray) Q E s:=by
 have fs:∃fs,KatTups s.heap (F.map λj=>bY (I j)) fs/\Z fs=Z F/\∀v∈fs,Looks (aC P w) s.heap (hD v) (if b=U then .type "str" else .type "tuple"):=by
  clear h B
  induction F with
  |nil=>exact⟨[],KatTups.nil,W,λv a=>by cases a⟩
  |cons j F k=>
    obtain⟨fs,d,e,f⟩:=k (λj g=>hk j (jY _ g)) (λj g=>h1 j (jY _ g));obtain⟨o,y,n,D,G,H,l⟩:=hk j jM;have c:=h1 j jM
    rcases l.first with⟨z,_⟩|⟨u,i,m,p,z,hl,q,x⟩
    .rw[z]at c;rw[<-c]at hb;cases hb
    .rw[z]at c;rw[<-c]at hb;obtain⟨T',r,t⟩:=Mh q hb;refine⟨_,KatTups.cons D G H (by rw[<-i6,hl];rfl) d,by simp[e],λv a=>?_⟩
     rcases aA.mp a with rfl|a
     .rw[<-r];exact t _
     .exact f v a
 obtain⟨fs,d,e,f⟩:=fs;apply kat_kind d (af B (ag e.symm)) f (by cases b<;>decide)
 cases b with
 |true=>exact h
 |false=>exact h
end
section
variable{s:ao}
def Hw{vs:O ak}(h:Z vs<2):((vs.toArray.zip vs.toArray).map λx=>x.2)=((aX vs.length).toArray.toList.map λi=>vs.getD i eY).toArray:=by
 rcases vs with _|⟨a,_|_⟩
 .simp
 .simp[List.range_succ]
 .exact absurd h (Nat.not_lt.mpr (Nat.le_add_left 2 _))
def J8(h:n<2):Pm (aX n).toArray n:=by
 have a:∀k,k<n->pg (aX n).toArray k=k:=λk hk=>YV (by simp[hk]);exact⟨by simp,λk hk=>by rwa[a k hk],λi j hi b e=>(aH (lQ hi h) (lQ b h)),by simp⟩
def D9{vs:O ak}(ho:s.heap.get? a=Y (gg "list" vs.toArray n))(B:Z vs<=300)(o:Rj lt vs.length)
  (O':2<=Z vs->∀(S:bJ)(F:ak->ao->Prop)(Q:qC->ao->Prop),(∀b o,b≠a->s.heap.get? b=Y o->S.get? b=Y o)->Q (mC b) { s with heap:=S }->aG (aC P w) A (keyKind' vs.toArray) Q F { s with heap:=S })
  (I:∀(S:bJ)(F:ak->ao->Prop)(Q:cc->ao->Prop)i j,i<Z vs->j<Z vs->(∀b o,b≠a->s.heap.get? b=Y o->S.get? b=Y o)->Q (lt i j) { s with heap:=S }->
   aG (aC P w) A (keyLt' (mC b) (vs.getD i .none) (vs.getD j .none)) Q F { s with heap:=S })
  (h:∀p:c7 T,Pm p vs.length->Up lt p vs.length->R (.done (.ret .none)) { s with heap:=l_ s.heap a vs (p.toList.map λi=>vs.getD i .none).toArray }) :
  aG (aC P w) A (jB.«list.sort» ⟨[.ref a],[]⟩) R E s:=by
 rw[list_sort_plain];refine wb9 (listItems_at ho W (wb9 (Hf ho W ?_ (by exact af B cF) (aU _))));obtain⟨r,k⟩:∃r,(s.heap.update a _).get? a=Y (gg _ _ r):=⟨_,get?_update_seq ho _⟩
 refine wb9 (NJ k W (wb9 (CU ?_ (by exact af B (by decide)))));refine wb9 (PySem.wpAny_newList ?_ (aU _));apply cL;have g:(((s.heap.update a (fD _)).push (gg "tuple" vs.toArray 0)).push (gg "list" #[] 0)).get? a=Y (gg _ _ r):=hp9 _ (hp9 _ k)
 have kp:∀b o,b≠a->s.heap.get? b=Y o->(((s.heap.update a (fD λ_=>(#[]))).push (gg "tuple" vs.toArray 0)).push (gg "list" #[] 0)).get? b=Y o:=λb o v e=>
  hp9 _ (hp9 _ ((Heap.get?_update_ne _ _ _ _ v).trans e))
 generalize l:((s.heap.update a (fD _)).push (gg _ _ 0)).push (gg _ _ 0)=h6 at g kp ⊢;by_cases c:vs.toArray.size<2
 .rw[a5 c,a5 c];refine wb9 (wu9 ?_);refine wb9 (wu9 ?_);have hl:Z vs<2:=by exact c
  have hh:=h (aX _).toArray (J8 hl) (λi j h1 h2=>(VC h2 hl h1).elim);refine wb9 (NJ g W (wb9 (Hf g W ?_ (aU _) (by show((vs.toArray.zip _).map _).size<=_;simp;exact af B cF))));simp only[eH,ck,et];unfold l_ at hh;rw[l]at hh;rw[<-(Hw hl)]at hh;exact wu9 hh
 rw[cb c,cb c];refine wb9 (O' (by simp_all) h6 _ _ kp ?_);refine wb9 (bO (J7 (E:=E) o λi j hi m C q=>I h6 _ C i j hi m kp q) ?_ λ_ _ e=>e);rintro⟨⟨⟩,x⟩ z ⟨rfl,p,u,y,f,hf⟩;have d:=kat_snds W f;have t:Z (p.toList.map λi=>vs.getD i eY)=Z vs:=by rw[aD,bM,u.sz]
 refine wb9 (NJ g W (wb9 (Hf g W ?_ (aU _) (by rw[d];show(p.toList.map _).length<=_;rw[t];exact af B cF))));rw[hf];simp only[eH,ck,et];have:=h p u y;unfold l_ at this;rw[l]at this;rw[d];exact wu9 this
end
section
variable{P:bW}{w:cU}{A:bP}{E:ak->ao->Prop}{s:ao}{kf:T->O NK}{av:T->aN}{n:T}
def DO{f:O T}:∀{vs:O ak},nD (λv j=>v=bY (av j)) vs f->vs=f.map λj=>bY (av j):=by
 induction f with
 |nil=>intro vs h;cases h;rfl
 | cons j f c=>intro vs h;cases h with
   |cons a b=>rw[a,c b];rfl
def DN{f:O T}:∀{es:O (cx×ak)},nD (λ(e:cx×ak)j=>e.2=bY (av j)) es f->nD (λv j=>v=bY (av j)) (es.map (·.2)) f:=by
 induction f with
 |nil=>intro es h;cases h;exact .nil
 | cons j f c=>intro es h;cases h with
   |cons a b=>exact .cons a (c b)
structure Sel(kf:T->O NK)(n:T)(js:O T):Prop where
 nd:(js.map kf).Nodup
 lt:∀j∈js,j<n
 all:∀j,j<n->kf j∈js.map kf
def Sel.perm{B:O T}(h:Sel kf n f)(p:B.Perm f):Sel kf n B:=
 ⟨(p.map kf).nodup_iff.mpr h.nd,λj a=>h.lt j (p.mem_iff.mp a),λj a=>(p.map kf).mem_iff.mpr (h.all j a)⟩
def Sel.len(h:Sel kf n f):Z f<=n:=by
 have:=tX ((gV.mp h.nd).imp λx e=>x (c8 kf e)) gp λj b=>bq.mpr (h.lt j b)
 simp_all
def IH(hh:A.handled=L)(y:EX P w (t8 w) s.heap S kf av n)(B:n<=300) :
  Xz P w A s (.ref S) (λvs=>∃C,vs=C.map (λj=>bY (av j))/\Sel kf n C):=by
 refine ac λ_ r=>?_;obtain⟨u,v,t,C,c,o,b,f,g,h⟩:=y;apply r;have sl:Sel kf n C:=⟨f,g,h⟩
 intro p q x e k;refine Cb (e.trans hh) c (by rw[mS];exact wc (ag (qT b)) sl.len B) λh1 d i vs ex sz pm=>k vs h1 d i ex sz ?_;obtain⟨a,l,m⟩:=uy pm (DN b);exact⟨a,DO l,sl.perm m⟩
abbrev codeN(k:O NK):O (O (O cx)):=k.map cN
theorem code_inj:∀{x y:O NK},x.map sN=y.map sN->(∀k∈x,Br (sN k)=U)->codeN x=codeN y->x=y
 |[],[],_,_,_=>rfl
 |[],_::_,h,_,_=>by cases h
 |_::_,[],h,_,_=>by cases h
 |a::x,b::y,h,h3,e=>by
   simp only[aI,gu]at h e;rw[MV h.1 (h3 _ jM) e.1,code_inj h.2 (λk hk=>h3 k (jY _ hk)) e.2]
def sorted_N{v:ak}{O':O (O T)}{b:cc}{Q:ak->ao->Prop}(c3:A.in1.in1.units+2<=eE)(hk:∀j,j<n->rK P w s.heap (kf j) (av j))(hsh:∀j,j<n->(kf j).map sN=O')(h3:∀x∈O',Br x=U)(h1:R6 O'=Y b)
  (hc:Xz P w A s v (λvs=>∃js,vs=js.map (λj=>bY (av j))/\Sel kf n js/\Z js<=300))
  (k:∀h' d e0 l js e,(∀b o,s.heap.get? b=Y o->h'.get? b=Y o)->s.heap.objs.size<=l->h'.get? l=Y (gg "list" (js.map λj=>bY (av j)).toArray e)->Sel kf n js->
   (js.map λj=>codeN (kf j)).Pairwise (λa b=>xD a b=U)->Q (.ref l) { s with heap:=h',drawn:=d,toks:=e0 }) :
  aG (aC P w) A (call (.builtin "sorted") [v]) Q E s:=by
 have t:∀j,j<n->∀k∈kf j,Br _=U:=λj c k hk=>h3 _ (by rw[<-hsh j c];exact dh hk)
 have F:b=U->∀j,j<n->∀k,(kf j).head? = Y k->sN k=[1]:=λhb j c k hk=>by
  have:=hsh j c
  cases q:kf j with
  |nil=>rw[q]at hk;cases hk
  |cons x r=>
    rw[q]at this hk;cases hk;rw[<-this,hb]at h1;simp only[R6,NU]at h1;split at h1
    .rename_i z;exact bL z
    .cases h1
    .cases h1
    .cases h1
 apply PySem.Calls.call_function_entry kind_sorted plain_sorted entry_sorted (args_sorted1 _);refine wb9 (wu9 ?_);refine wb9 (hc _ _ _ (by rfl) λvs g d e0 ex sz M=>?_);obtain⟨js,u,sl,B⟩:=M;have hl:Z vs=Z js:=by simp_all
 refine wb9 (PySem.wpAny_newList ?_ (by exact af (ag hl) (af B cF)));have G:∀i,i<Z vs->vs.getD i eY=.ref (av (js.getD i 0))/\js.getD i 0<n:=λi hi=>by
  have f:i<Z js:=af hi (ag hl);constructor
  .rw[u];simp[f]
  .rw[show js.getD i 0=js[i] by simp[f]];exact sl.lt _ (bA f)
 have h:∀h',(∀b o,b≠g.objs.size->(g.push (gg "list" vs.toArray 0)).get? b=Y o->h'.get? b=Y o)->∀j,j<n->rK P w h' _ _:=λh' q j c=>
  (hk j c).mono λb o e=>by
   have V:=ex b o e;exact q b o (ba (hl9 V)) (hp9 _ V)
 have C :=λi j hi c e=>by
  have a:=G i hi
  have f:i<Z js:=af hi (ag hl);have m:j<Z js:=af c (ag hl);have V:(js.map kf)[i]?=Y (kf (js.getD i 0)):=by simp[f]
  have e2:(js.map kf)[j]?=Y (kf (js.getD j 0)):=by simp[m]
  rw[(code_inj ((hsh _ a.2).trans (hsh _ (G j c).2).symm) (t _ a.2) e)]at V;exact(je (by simp_all) sl.nd).mp (V.trans e2.symm)
 have N:Rj (λi j=>xD (codeN (kf (js.getD i 0))) (codeN (kf _))) _:=
  ⟨λi j k _ _ _ x y=>oP.tr _ _ _ x y,λi j hi c ne x=>oP.co _ _ (λz=>ne (C i j hi c z)) x,λi j _ _ x=>oP.as x⟩
 refine wb9 (cL (cV slot_list_sort ⟨_,(aT _ W),W⟩ entry_list_sort (D9 (b:=b) (aT _ W) (af (ag hl) B) N (λh2 h' R Q' q H=>?_) (λh' R Q' i j hi c q H=>?_) λp I S=>⟨_,W,?_⟩) (args_list_sort _)))
 .rw[u];exact VT (λj c=>h h' q j (sl.lt j c)) (λj c=>hsh j (sl.lt j c)) h1 (aE (af h2 (ag hl))) H
 .obtain⟨T',D⟩:=G i hi
  obtain⟨b1,b2⟩:=G j c
  rw[T',b1];exact abo c3 (h h' q _ D) (h h' q _ b2) ((hsh _ D).trans (hsh _ b2).symm) (t _ D) (λz=>F z _ D) H
 .obtain⟨e,he⟩:=sortedHeap_at (out:=(p.toList.map _).toArray) (aT _ W)
  have X:(p.toList.map λi=>vs.getD i eY)=(p.toList.map λi=>js.getD i 0).map λj=>bY (av j):=by
   rw[dM];exact dY λi hi=>(G i ((bq.mp (I.pm.mem_iff.mp hi)))).1
  rw[X]at he
  have U':(p.toList.map λi=>js.getD i 0).Perm js:=by
   apply (I.pm.map _).trans;rw[hl];apply List.Perm.of_eq;apply uq;intro i;by_cases hi:i<Z js
   .simp[hi]
   .simp[hi]
  refine wu9 ⟨_,W,k _ d e0 _ (p.toList.map _) e (λb o q=>?_) sz ?_ (sl.perm U') ?_⟩
  .have lb:=hl9 (ex b o q);exact(sortedHeap_old (ba lb) (by rw[size_push'];exact oy lb)).trans (hp9 _ (ex b o q))
  .rwa[X]
  .rw[dM,gV,fi];intro i j hi c J';have:=S i j J' (by rwa[bM,I.sz]at c)
   have V:∀x(K:x<Z p.toList),p.toList[x]=pg p x:=λx K=>by
    have:=KR (by simpa using K);rw[<-i6,ai K]at this;exact bL this
   rwa[V i hi,V j c]
end
end L2
namespace M
open L2
inductive XB|add|sub|mul|mod|shr|band|mn|mx
inductive Cop|eq|ne|lt|le|gt|ge|isin|nin|nisn
inductive Ty|int|bool|str|tuple|list
inductive Blt|len|tuple|isi (t:Ty)|int|str|sset
inductive Mth|join|upper|get
inductive Jm|app|ext|seti
mutual
noncomputable def pL:Dat->Dat->cc
 | .non,c=>match c with
   |.non=>U
   |_=>J
 | .bl a,c=>match c with
   |.bl b=>a == b
   |.int j=>(if a then 1 else 0) == j
   |_=>J
 | .int i,c=>match c with
   |.bl b=>i == (if b then 1 else 0)
   |.int j=>i == j
   |_=>J
 | .str x,c=>match c with
   |.str y=>x == y
   |_=>J
 | .tup d,c=>match c with
   |.tup e=>pH d e
   |_=>J
 | .lst d,c=>match c with
   |.lst e=>pH d e
   |_=>J
 |_,_=>J
noncomputable def pH:O Dat->O Dat->cc
 |[],[]=>U
 |x::a,y::b=>pL x y && pH a b
 |_,_=>J
end
mutual
noncomputable def iL:T->Dat->cc
 |_,.dct _ _=>J
 |_,.any=>J
 |_,.exc _ _ _=>J
 |0,.tup _=>J
 |0,.lst _=>J
 |n+1,.tup a=>eU n a
 |n+1,.lst a=>eU n a
 |_,_=>U
noncomputable def eU:T->O Dat->cc
 |_,[]=>U
 |n,x::a=>iL n x && eU n a
end
noncomputable def gw:Dat->ar cc
 |.non=>Y J
 |.bl b=>Y b
 |.int i=>Y (i != 0)
 |.str x=>if x.length<=aJ then Y ((x.length:cx) != 0)else L
 |.tup a=>Y (!a.isEmpty)
 |.lst a=>Y (!a.isEmpty)
 |.dct c _=>Y (!c.isEmpty)
 |.any=>L
 |.exc _ _ _=>L
noncomputable instance (i j:cx):ew (IW i j):=by unfold IW;infer_instance
noncomputable instance (x:aa) (j:cx):ew (C6 x j):=by unfold C6;infer_instance
abbrev g_:=ar (Dat×cc)
noncomputable def Jk(f:cx->cx->g_):Dat->Dat->g_
 |.int i,.int j=>f i j
 |_,_=>L
def Rc:Dat->Dat->g_
 | .int i,a=>match a with
   |.int j=>Y (.int (i+j),J)
   |_=>L
 | .str x,a=>match a with
   |.str y=>if x.length+y.length<=aJ then Y (.str (x++y),J)else L
   |_=>L
 | .lst b,a=>match a with
   |.lst c=>if b.length+c.length<=aJ then Y (.lst (b++c),mR (b++c))else L
   |_=>L
 | .tup b,a=>match a with
   |.tup c=>if b.length+c.length<=aJ then Y (.tup (b++c),J)else L
   |_=>L
 |_,_=>L
noncomputable def Rb:Dat->Dat->g_
 | .int i,a=>match a with
   |.int j=>if IW i j then Y (.int (i * j),J)else L
   |_=>L
 | .str x,a=>match a with
   |.int j=>if C6 x j then Y (.str (PySem.Txt.mul x j),J)else L
   |_=>L
 |_,_=>L
def iT:XB->Dat->Dat->g_
 |.add,a,b=>Rc a b
 |.sub,a,b=>Jk (λi j=>Y (.int (i - j),J)) a b
 |.mul,a,b=>Rb a b
 |.mn,a,b=>Jk (λi j=>Y (.int (if j<i then j else i),J)) a b
 |.mx,a,b=>Jk (λi j=>Y (.int (if i<j then j else i),J)) a b
 |.mod,a,b=>Jk (λi j=>if 0<j then Y (.int (i % j),J)else L) a b
 |.shr,a,b=>Jk (λi j=>if 0<=j then Y (.int (i / 2 ^ j.toNat),J)else L) a b
 |.band,a,b=>Jk (λi j=>Y (.int (Js i j),J)) a b
noncomputable def qV:Dat->ar Key
 |.int i=>Y (.inl i)
 |.str x=>Y (.inr x)
 |_=>L
instance ace (k:O NK) (ks:O (O NK)):ew (k∈ks):=@List.instDecidableMemOfLawfulBEq _ instBEqOfDecidableEq inferInstance k ks
def BI:O Dat->ar (O Key)
 |[]=>Y []
 |d::a=>(qV d).bind λk=>(BI a).map λr=>k::r
def n2I:Dat->ar N2
 |.int i=>Y (.inl (.inl i))
 |.str x=>Y (.inl (.inr x))
 |.tup a=>(BI a).map .inr
 |_=>L
def RU:O Dat->ar (O N2)
 |[]=>Y []
 |d::a=>(n2I d).bind λk=>(RU a).map λr=>k::r
def nkI:Dat->ar NK
 |.int i=>Y (.inl (.inl i))
 |.str x=>Y (.inl (.inr x))
 |.tup a=>(RU a).map .inr
 |_=>L
def XM:O Dat->ar (O NK)
 |[]=>Y []
 |d::a=>(nkI d).bind λk=>(XM a).map λr=>k::r
def Vm:Dat->ar (O NK)
 |.tup a=>XM a
 |_=>L
def xC:O Dat->ar (O (O NK))
 |[]=>Y []
 |d::a=>(Vm d).bind λk=>(xC a).map λr=>k::r
noncomputable def iZ(k:Key):O Key->O Dat->ar Dat
 |j::a,v::vs=>if j=k then Y v else iZ k a vs
 |_,_=>L
noncomputable def Bq(k:Key):O Key->cc
 |[]=>U
 |j::a=>if j=k then !(a.any λi=>decide (i=k))else Bq k a
noncomputable def putD(k:Key)(d:Dat):O Key->O Dat->O Key×O Dat
 |j::a,v::vs=>if j=k then(j::a,d::vs)else((j::(putD k d a vs).1),(v::(putD k d a vs).2))
 |_,_=>([k],[d])
noncomputable def XY(f:cx->cx->cc):Dat->Dat->ar cc
 |.int i,.int j=>Y (f i j)
 |_,_=>L
def cIn(a:Dat):Dat->ar cc
 | .str y=>match a with
   |.str x=>Y (!(jA y x 0 y.length 1).isEmpty)
   |_=>L
 |.lst b=>if iL 20 a && eU 20 b then Y (b.any λy=>pL y a)else L
 |.tup b=>if iL 20 a && eU 20 b then Y (b.any λy=>pL y a)else L
 |.dct c vs=>(qV a).map λk=>(iZ k c vs).isSome
 |_=>L
def abO(a:Dat):Dat->ar cc
 | .str y=>match a with
   |.str x=>Y (!(!(jA y x 0 y.length 1).isEmpty))
   |_=>L
 |.lst b=>if iL 20 a && eU 20 b then Y (!(b.any λy=>pL y a))else L
 |_=>L
noncomputable def cIs(b:cc)(a:Dat):Dat->ar cc
 | .non=>match a with
   |.any=>L
   |.non=>Y b
   |_=>Y (!b)
 |_=>L
def kh:Cop->Dat->Dat->ar cc
 |.eq,a,b=>if iL 20 a && iL 20 b then Y (pL a b)else L
 |.ne,a,b=>if iL 20 a && iL 20 b then Y (!pL a b)else L
 |.lt,a,b=>XY (λi j=>decide (i<j)) a b
 |.le,a,b=>XY (λi j=>decide (i<=j)) a b
 |.gt,a,b=>XY (λi j=>decide (j<i)) a b
 |.ge,a,b=>XY (λi j=>decide (j<=i)) a b
 |.isin,a,b=>cIn a b
 |.nin,a,b=>abO a b
 |.nisn,a,b=>cIs J a b
def Az:Dat->Dat->ar Dat
 | .lst b,a=>match a with
   |.int i=>vp b i
   |_=>L
 | .tup b,a=>match a with
   |.int i=>vp b i
   |_=>L
 | .str z,a=>match a with
   |.int i=>if z.length<=aJ then(vp z.cps.toList i).map λc=>.str ⟨#[c]⟩else L
   |_=>L
 |.dct d vs,k=>(qV k).bind λk=>iZ k d vs
 |_,_=>L
noncomputable def r8(r:g_):ar (ar cx):=r.bind λx=>match x.1 with
 |.int i=>Y (Y i)
 |_=>L
def cutD{α:Type}(xs:O α)(lo hi:ar cx):O α:=(xs.drop (HT.jJ xs.length 0 lo)).take (HT.jJ xs.length xs.length hi - HT.jJ xs.length 0 lo)
def Jf:Dat->ar cx->ar cx->g_
 |.str x,lo,hi=>if x.length<=aJ then Y (.str (dv x lo hi),J)else L
 |.lst a,lo,hi=>Y (.lst (cutD a lo hi),mR (cutD a lo hi))
 |.tup a,lo,hi=>Y (.tup (cutD a lo hi),J)
 |_,_,_=>L
noncomputable def LK:Ty->Dat->cc
 |.int,.int _=>U
 |.int,.bl _=>U
 |.bool,.bl _=>U
 |.str,.str _=>U
 |.tuple,.tup _=>U
 |.list,.lst _=>U
 |_,_=>J
def Zt(t:Ty):Dat->g_
 |.any=>L
 |.exc _ _ _=>L
 |d=>Y (.bl (LK t d),J)
def nax:Dat->cc
 |.any=>J
 |.exc _ _ _=>J
 |_=>U
def Ql(h:Zt t d=Y z):nax d=U/\z=(.bl (LK t d),J):=by
 cases d<;>cases h<;>exact⟨W,W⟩
noncomputable def AV:O Dat->ar (O aa)
 |[]=>Y []
 |.str x::a=>(AV a).map λr=>x::r
 |_::_=>L
noncomputable def BM{α:Type}(lt:α->α->cc)(x:α):O α->O α
 |[]=>[x]
 |y::a=>if lt x y=U then x::y::a else if lt y x=U then y::BM lt x a else y::a
def mf{α:Type}(lt:α->α->cc):O α->O α
 |[]=>[]
 |x::a=>BM lt x (mf lt a)
def oK(x:aa):O aa:=x.cps.toList.map λc=>⟨#[c]⟩
noncomputable def QN:T->O cx->Dat
 |0,l=>.int (l.headD 0)
 |1,l=>.str ⟨(l.map vE).toArray⟩
 |_,l=>.tup (l.map .int)
def WI:O T->O (O cx)->Dat
 |[],_=>.non
 |n::a,c=>if n=3 then .tup (um QN a c)else QN n (c.headD [])
def EA(f:O (O T))(c:O (O (O cx))):Dat:=.tup (um WI f c)
def Jg(f:O (O NK)):O (O T):=(f.headD []).map sN
def K4(f:O (O NK)):Prop:=(R6 (Jg f)).isSome=U/\(Jg f).all Br=U/\(f.all λk=>decide (k.map sN=Jg f))=U/\Z (mf xD (f.map codeN))<=300
noncomputable instance (kk:O (O NK)):ew (K4 kk):=inferInstanceAs (ew (_/\_))
def x6(f:O (O NK)):g_:=
 if Z f<=300/\K4 f then Y (.lst ((mf xD (f.map codeN)).map (EA (Jg f))),U)else L
def b1(f:Dat->g_):O Dat->g_
 |[d]=>f d
 |_=>L
noncomputable def Xe:Dat->g_
 |.lst a=>Y (.int a.length,J)
 |.tup a=>Y (.int a.length,J)
 |.str x=>if x.length<=aJ then Y (.int x.length,J)else L
 |.dct b _=>Y (.int b.length,J)
 |_=>L
noncomputable def Z5:Dat->g_
 |.lst a=>Y (.tup a,J)
 |.tup a=>Y (.tup a,J)
 |_=>L
def bLS(f:O Dat->g_):Dat->g_
 |.lst a=>f a
 |_=>L
noncomputable def Z6:Dat->g_
 |.int i=>Y (.int i,J)
 |.bl b=>Y (.int (if b then 1 else 0),J)
 |.str x=>if x.length<=640 then(PySem.intText? x).map λi=>(.int i,J)else L
 |_=>L
noncomputable def Xd:Dat->g_
 |.int i=>if i.natAbs.log2<1920 then Y (.str (toString i),J)else L
 |_=>L
def lr:Blt->O Dat->g_
 |.len,l=>b1 Xe l
 |.tuple,l=>b1 Z5 l
 |.isi t,l=>b1 (Zt t) l
 |.sset,l=>b1 (bLS λa=>(xC a).bind x6) l
 |.int,l=>b1 Z6 l
 |.str,l=>b1 Xd l
noncomputable def kL:Dat->ar (O Dat)
 |.lst a=>Y a
 |.tup a=>Y a
 |.str x=>Y (x.cps.toList.map λc=>Dat.str ⟨#[c]⟩)
 |_=>L
noncomputable def O6:O Dat->ar (O Dat)
 |[.int j]=>if j<=1000000/\-1000000<=j then Y ((aX j.toNat).map λk:T=>Dat.int k)else L
 |_=>L
noncomputable def pV:O Dat->O Dat->O Dat
 |x::a,y::b=>.tup [x,y]::pV a b
 |_,_=>[]
def sk(f:Dat->ar g_):O Dat->ar (O Dat×cc)
 |[]=>Y ([],U)
 | d::a=>(f d).bind λo=>(sk f a).map λr=>match o with
   |some y=>(y.1::r.1,(y.2 || im y.1) && r.2)
   |none=>r
noncomputable def zt:T->O Dat->gC->gC
 |_,[],a=>a
 |k,d::b,a=>zt (k+1) b (a.set k (Y d))
def GV(nt:T)(one:cc)(d:Dat)(ρ:gC):ar gC:=match one with
 |true=>Y (ρ.set 0 (Y d))
 | false=>match d with
   |.tup a=>if Z a=nt then Y (zt 0 a ρ)else L
   |_=>L
def ki(nt:T)(caps:O T)(ρ:gC):gC:=bb nt L++caps.map λj=>(ρ[j]?).join
noncomputable def mS0(f:aa->g_):Dat->O Dat->g_
 | .str x,a=>match a with
   |[]=>f x
   |_=>L
 |_,_=>L
noncomputable def mSL(f:aa->O Dat->g_):Dat->O Dat->g_
 | .str x,a=>match a with
   |[.lst b]=>f x b
   |_=>L
 |_,_=>L
def VA:Dat->O Dat->g_
 |.dct a vs,[k,d]=>(qV k).map λk=>((iZ k a vs).getD d,J)
 |_,_=>L
def jH:Mth->Dat->O Dat->g_
 |.join,a,l=>mSL (λx c=>(AV c).bind λb=>if(b.map (·.length)).sum+b.length * x.length<=1000000 then Y (.str (pB x b),J)else L) a l
 |.upper,a,l=>mS0 (λx=>if x.length<=1000000 then Y (.str (tF x),J)else L) a l
 |.get,a,l=>VA a l
def T9{α:Type}(x:α)(i:cx)(xs:O α):ar (O α):=(rJ xs.length i).map λk=>xs.set k x
noncomputable def S7:Dat->O Dat->ar Dat
 |.lst a,[d]=>if Z a<aJ then Y (.lst (a++[d]))else L
 |_,_=>L
noncomputable def JH:Dat->O Dat->ar Dat
 | .lst b,l=>match l with
   |[.lst a]=>if Z b+Z a<=aJ then Y (.lst (b++a))else L
   |[.tup a]=>if Z b+Z a<=aJ then Y (.lst (b++a))else L
   |_=>L
 |_,_=>L
def S6:Dat->O Dat->ar Dat
 | .lst b,l=>match l with
   |[d,.int i]=>if -1000000<=i/\i<=1000000 then(T9 d i b).map .lst else L
   |_=>L
 | .dct a vs,l=>match l with
   |[d,k]=>(qV k).bind λk=>if Z a<aJ/\Bq k a=U then Y (.dct (putD k d a vs).1 (putD k d a vs).2)else L
   |_=>L
 |_,_=>L
def mD:Jm->Dat->O Dat->ar Dat
 |.app,a,l=>S7 a l
 |.ext,a,l=>JH a l
 |.seti,a,l=>S6 a l
abbrev Fs:=T->O Dat->g_
structure Ex where
 fv:O T
 ev:Fs->gC->g_
noncomputable def be(C:Fs)(e:Ex)(ρ:gC):g_:=e.ev C ρ
def mH(C:Fs):O Ex->gC->ar (O Dat)
 |[],_=>Y []
 |e::b,a=>(be C e a).bind λx=>(mH C b a).map λr=>x.1::r
def pG(C:Fs):O Ex->gC->ar (O Dat×cc)
 |[],_=>Y ([],U)
 |e::b,a=>(be C e a).bind λx=>(pG C b a).map λr=>(x.1::r.1,(x.2 || im x.1) && r.2)
def B5(C:Fs):O Ex->gC->ar cc
 |[],_=>Y U
 |e::b,a=>(be C e a).bind λx=>(gw x.1).bind λz=>if z=U then B5 C b a else Y J
noncomputable def Iz(es:O Ex):O T:=es.flatMap (·.fv)
inductive Iw where
 |itv (a:Ex)|rng (es:O Ex)|zip (es:O Ex)
def fvI:Iw->O T
 |.itv a=>a.fv
 |.rng _=>[]
 |.zip b=>Iz b
def zip2(a b:Dat):ar (O Dat):=match a with
 | .str x=>match b with
   |.tup c=>Y (pV ((oK x).map .str) c)
   |_=>L
 |_=>L
def RE(ds:O Dat):ar (O Dat):=match ds with
 |[a,b]=>zip2 a b
 |_=>L
def CP(C:Fs)(it:Iw)(ρ:gC):ar (O Dat):=match it with
 |.itv a=>(be C a ρ).bind λx=>kL x.1
 |.rng b=>(mH C b ρ).bind O6
 |.zip b=>(mH C b ρ).bind RE
def Z4(C:Fs)(ρ:gC):ar Ex->ar (ar cx)
 |none=>Y L
 |some e=>r8 (be C e ρ)
noncomputable def abU(k:g_):Dat->g_
 |.bl b=>if b=U then k else Y (.bl J,J)
 |_=>L
noncomputable def orD(k:g_):Dat->g_
 |.bl b=>if b=U then Y (.bl U,J)else k
 |_=>L
def pz(C:Fs)(nt:T)(one:cc)(ρ0:gC)(ifs:O Ex)(elt:Ex)(d:Dat):ar g_:=
 (GV nt one d ρ0).bind λa=>(B5 C ifs a).bind λb=>if b=U then(be C elt a).map Y else Y L
namespace Ex
noncomputable def con(d:Dat):Ex:=⟨[],λ_ _=>Y (d,J)⟩
abbrev e_(i:cx):Ex:=con (.int i)
abbrev f_(x:aa):Ex:=con (.str x)
noncomputable def v(i:T):Ex:=⟨[i],λ_ a=>((a[i]?).join).map λd=>(d,J)⟩
def bin(o:XB)(a b:Ex):Ex:=⟨a.fv++b.fv,λC c=>(be C a c).bind λx=>(be C b c).bind λy=>iT o x.1 y.1⟩
def cmp(o:Cop)(a b:Ex):Ex:=⟨[],λC c=>(be C a c).bind λx=>(be C b c).bind λy=>(kh o x.1 y.1).map λr=>(.bl r,J)⟩
def and(a b:Ex):Ex:=⟨a.fv++b.fv,λC c=>(be C a c).bind λx=>abU (be C b c) x.1⟩
def or(a b:Ex):Ex:=⟨a.fv++b.fv,λC c=>(be C a c).bind λx=>orD (be C b c) x.1⟩
def not(a:Ex):Ex:=⟨[],λC c=>(be C a c).bind λx=>(gw x.1).map λb=>(.bl (!b),J)⟩
def ite(c a b:Ex):Ex:=⟨c.fv++a.fv++b.fv,λC d=>(be C c d).bind λx=>(gw x.1).bind λz=>if z=U then be C a d else be C b d⟩
def tup(es:O Ex):Ex:=⟨Iz es,λC a=>(pG C es a).bind λx=>if Z x.1<=1000000 then Y (.tup x.1,x.2)else L⟩
def lst(es:O Ex):Ex:=⟨Iz es,λC a=>(pG C es a).bind λx=>if Z x.1<=1000000 then Y (.lst x.1,x.2)else L⟩
def ix(a b:Ex):Ex:=⟨a.fv++b.fv,λC c=>(be C a c).bind λx=>(be C b c).bind λy=>(Az x.1 y.1).map λd=>(d,J)⟩
def ofv(o:ar Ex):O T:=match o with
 |none=>[]
 |some e=>e.fv
def sl(a:Ex)(lo hi:ar Ex):Ex:=⟨a.fv++ofv lo++ofv hi,λC b=>(be C a b).bind λx=>(Z4 C b lo).bind λl=>(Z4 C b hi).bind λh=>Jf x.1 l h⟩
def call(f:T)(es:O Ex):Ex:=⟨Iz es,λC a=>(mH C es a).bind λb=>C f b⟩
def blt(b:Blt)(es:O Ex):Ex:=⟨Iz es,λC a=>(mH C es a).bind λc=>lr b c⟩
def lj(m:Mth)(o:Ex)(es:O Ex):Ex:=⟨o.fv++Iz es,λC a=>(be C o a).bind λx=>(mH C es a).bind λb=>jH m x.1 b⟩
noncomputable def rj:Ex:=⟨[],λ_ _=>Y (.dct [] [],U)⟩
def comp(nt:T)(one:cc)(caps:O T)(it:Iw)(ifs:O Ex)(elt:Ex):Ex:=⟨caps++fvI it,λC a=>(CP C it a).bind λitems=>if Z items<=1000000 then
 (sk (pz C nt one (ki nt caps a) ifs elt) items).map λb=>(.lst b.1,b.2)else L⟩
end Ex
abbrev cT:=O g_
set_option genInjectivity true in
inductive Out where
 |nx (ρ:cT)|rt (d:Dat) (fr:cc)|rl (d:Dat) (ρ:cT)
def xT(ρ:cT):gC:=ρ.map λo=>match o with
 |some (d,J)=>Y d
 |_=>L
def full(ρ:cT):gC:=ρ.map λo=>o.map (·.1)
def ub(ρ:cT):cT:=ρ.map λo=>o.map λs=>(s.1,J)
def Di(ρ:cT):xT (ub ρ)=full ρ:=by
 unfold xT ub full;rw[dM];exact dY λo _=>by cases o<;>rfl
def nu(is:O T)(ρ:cT):cT:=is.foldl (λρ i=>ρ.modify i λo=>o.map λs=>(s.1,J)) ρ
def yF(C:Fs)(e:Ex)(ρ:cT):ar (Dat×cc×cT):=(be C e (full ρ)).bind λx=>if(im x.1 || x.2)=U then Y (x.1,x.2,ρ)
 else(be C e (xT (nu e.fv ρ))).map λy=>(y.1,y.2,nu e.fv ρ)
def ZI(C:Fs)(it:Iw)(ρ:cT):ar (O Dat×cT):=match it with
 |.itv a=>(yF C a ρ).bind λx=>(kL x.1).map λb=>(b,x.2.2)
 |.rng c=>(CP C (.rng c) (full ρ)).map λb=>(b,ρ)
 |.zip c=>(CP C (.zip c) (xT (nu (Iz c) ρ))).map λb=>(b,nu (Iz c) ρ)
noncomputable def qp:O T->O Dat->cT->cT
 |i::is,d::b,a=>qp is b (a.set i (Y (d,J)))
 |_,_,a=>a
def eO(one:cc)(f:O T)(d:Dat)(ρ:cT):ar cT:=match one with
 | true=>match f with
   |[i]=>Y (ρ.set i (Y (d,J)))
   |_=>L
 | false=>match d with
   |.tup a=>if Z a=(Z f) then Y (qp f a ρ)else L
   |_=>L
noncomputable def JL(k:cT->ar Out):Out->ar Out
 |.nx a=>k a
 |.rt d fr=>Y (.rt d fr)
 |.rl d a=>Y (.rl d a)
def pW(test:cT->ar cc)(body:cT->ar Out):T->cT->ar Out
 |0,_=>L
 |n+1,a=>(test a).bind λb=>if b=U then(body a).bind (JL (pW test body n))else Y (.nx a)
def kQ:T:=1000000
def iw(f:Dat->cT->ar cT)(body:cT->ar Out):O Dat->cT->ar Out
 |[],b=>Y (.nx b)
 |d::c,b=>(f d b).bind λa=>(body a).bind (JL (iw f body c))
structure Sx where
 ex:Fs->cT->ar Out
noncomputable def pv(C:Fs)(s:Sx)(ρ:cT):ar Out:=s.ex C ρ
def aaY(k:cT->ar Out):Out->ar Out
 |.nx a=>k a
 |o=>Y o
def dI(C:Fs):O Sx->cT->ar Out
 |[],b=>Y (.nx b)
 |s::a,b=>(pv C s b).bind (aaY (dI C a))
def aaH(f:O T)(ρ:cT):Dat->ar Out
 |.tup a=>if Z a=(Z f) then Y (.nx (qp f a ρ))else L
 |_=>L
def Y8(f:Jm)(i:T)(ρ:cT)(ds:O Dat):g_->ar Out
 |some (d,U)=>(mD f d ds).map λa=>.nx (ρ.set i (Y (a,U)))
 |_=>L
namespace Sx
def set(i:T)(e:Ex):Sx:={ ex:=λC a=>(yF C e a).map λx=>.nx (x.2.2.set i (Y (x.1,x.2.1 && !im x.1))) }
def unp(f:O T)(e:Ex):Sx:={ ex:=λC a=>(yF C e a).bind λx=>aaH f x.2.2 x.1 }
def ret(e:Ex):Sx:={ ex:=λC a=>(be C e (full a)).map λx=>.rt x.1 x.2 }
noncomputable def YG(i:T)(x:Dat×cc)(ρ:cT):Out:=match x.2,(ρ[0]?).join with
 |false,Y (_,U)=>.rl x.1 ρ
 |_,_=>.rt x.1 x.2
def oM(i:T):Sx:={ ex:=λ_ a=>((a[i]?).join).map λx=>YG i x a }
noncomputable def Ay:Sx:={ ex:=λ_ _=>L }
def ifs(c:Ex)(a b:O Sx):Sx:={ ex:=λC d=>(be C c (full d)).bind λx=>(gw x.1).bind λz=>if z=U then dI C a d else dI C b d }
def loop(one:cc)(f:O T)(it:Iw)(body:O Sx):Sx:={ ex:=λC a=>(ZI C it a).bind λx=>iw (eO one f) (dI C body) x.1 x.2 }
def SX(c:Ex)(body:O Sx):Sx:={ ex:=λC a=>pW (λa=>(be C c (full a)).bind λx=>gw x.1) (dI C body) kQ a }
def «mut» (f:Jm)(i:T)(es:O Ex):Sx:={ ex:=λC a=>(pG C es (full a)).bind λx=>if x.2=U then Y8 f i a x.1 (a[i]?).join else L }
end Sx
noncomputable def ZL:Out->g_
 |.nx _=>Y (.non,J)
 |.rt d fr=>Y (d,fr)
 |_=>L
def QG(C:Fs)(B f:T)(body:O Sx)(ds:O Dat):g_:=
 if Z ds=B then(dI C body (ds.map (λd=>Y (d,J))++bb (f - B) L)).bind ZL else L
def gE(K:Fg)(C:Fs)(x:Ex):TE:=λσ H Q=>∃a d fr,be C x a=Y (d,fr)/\tE K a d fr σ H Q
def gA(K:Fg)(C:Fs)(xs:O Ex):TA:=λσ H Q=>∃a b,mH C xs a=Y b/\tEs K a b σ H Q
def gF(K:Fg)(C:Fs)(xs:O Ex):TA:=λσ H Q=>∃a b al,pG C xs a=Y (b,al)/\tFs K a b al σ H Q
def gT(K:Fg)(C:Fs)(x:Ex):TT:=λσ H Q=>∃a d fr b,be C x a=Y (d,fr)/\gw d=Y b/\tT K a b σ H Q
abbrev SE(X:Cx)(C:Fs)(e:a9)(x:Ex):Prop:=PE X e (gE X.K C x)
abbrev SA(X:Cx)(C:Fs)(es:O a9)(xs:O Ex):Prop:=PA X es (gA X.K C xs)
abbrev SF(X:Cx)(C:Fs)(es:O a9)(xs:O Ex):Prop:=PA X es (gF X.K C xs)
abbrev ST(X:Cx)(C:Fs)(e:a9)(x:Ex):Prop:=PT X e (gT X.K C x)
def gB(K:Fg)(f:Dat->Dat->g_):R2:=λx y H Q=>∃b a d fr,f b a=Y (d,fr)/\rD K b a d fr x y H Q
def gL(K:Fg)(f:O Dat->g_):O V->Hp->VK->Prop:=λb H Q=>∃a d fr,f a=Y (d,fr)/\rDs K a d fr b H Q
section
variable{X:Cx}{C:Fs}{e:a9}
def bx{K:Fg}:(J=U->hV K H f d v):=λh=>nomatch h
def Ua(i:T)(I:X.N[i]?=Y x)(f:M9 X.env.scope x)(hd:(x == ("__debug__":aa))=J)
  (B:(x == ("__classdict__":aa))=J):SE X C (.Name x pos) (.v i):=
 PE.imp (lL I f hd B) λσ H Q b=>by
  obtain⟨c,d,fr,h,F,g,R,k⟩:=b;obtain⟨l,h1,h2⟩:=eT h;clear h; cases h2
  have a:c[i]?=Y (Y d):=by
   cases q:c[i]? with
   |none=>rw[q]at h1;cases h1
   |some z=>simp_all
  obtain⟨v,j,r⟩:=R i d a;exact⟨v,j,k v F H (Step.refl g) r bx⟩
def vR(h:PE X e (tC v))(hd:∀F,Rep X.K F d v):SE X C e (.con d):=
 PE.imp h λσ H Q a=>by
  obtain⟨b,c,fr,h,F,g,R,k⟩:=a;cases h;exact k v F H (Step.refl g) (hd _) bx
def Ul{j}:SE X C (.Constant (.int i) j pos) (.con (.int i)):=vR UT λ_=>W
def YD{b:cc}{j}:SE X C (.Constant (.bool b) j pos) (.con (.bl b)):=vR YY λ_=>W
def Ud{j}:SE X C (.Constant .none j pos) (.con .non):=vR UR λ_=>W
def Uc{j}:SE X C (.Constant (.str x) j pos) (.con (.str x)):=vR UP λ_=>W
def OS(I:Gl X x)(f:X.mg x=Y u)(r:RelV v u)(B:∀F,Rep X.K F d v)(hd:(x == ("__debug__":aa))=J):SE X C (.Name x pos) (.con d):=vR (FI I f r hd) B
def Cs{α B F:Type}{o:ar α}{I:ar B}{f:α->B->ar F}{z:F}(h:(o.bind λx=>I.bind λy=>f x y)=Y z):∃x y,o=Y x/\I=Y y/\f x y=Y z:=by
 obtain⟨x,h1,h⟩:=bT h;obtain⟨y,h2,h⟩:=bT h;exact⟨x,y,h1,h2,h⟩
def zg(B:∀ρ d fr,be C x ρ=Y (d,fr)->∃p q,be C I ρ=Y p/\be C P ρ=Y q/\f p.1 q.1=Y (d,fr)) :
  ∀σ H Q,gE X.K C x σ H Q->Nq (gB X.K f) (gE X.K C I) (gE X.K C P) σ H Q:=λσ H Q j=>by
 refine ac λ_ e=>?_;obtain⟨ρ,d,fr,h,F,g,R,k⟩:=j;obtain⟨⟨E,l⟩,⟨i,m⟩,h1,h2,h3⟩:=B ρ d fr h;apply e;exact⟨ρ,E,l,h1,F,g,R,λv F1 D a n _=>⟨ρ,i,m,h2,F1,a.good,R.mono a.ff,λw o G b r _=>⟨E,i,d,fr,h3,o,b.good,n.mono b.ff,r,λu s t c y A=>k u s t ((a.trans b).trans c) y λz=>(A z).back (F:=F) (a.hh.trans b.hh)⟩⟩⟩
def Ur(ho:lu X (dy op) (gB X.K (iT o)))(ha:SE X C a f)(hb:SE X C b B):SE X C (.BinOp a op b pos) (.bin o f B):=
 PE.imp (RP ho ha hb) (zg λc d fr h=>Cs h)
def ue(o:Cop)(x y:Dat):g_:=(kh o x y).map λr=>(.bl r,J)
def Uo(ho:lu X (dk op) (gB X.K (ue o)))(ha:SE X C a f)(hb:SE X C b F)(B:fy op b=J):SE X C (.Compare a [op] [b] pos) (.cmp o f F):=
 PE.imp (Pp ho ha hb B) (zg λc d fr h=>Cs h)
def Tx(ho:lu X (dk op) (gB X.K (ue o)))(ha:SE X C a I)(hb:SE X C b P)(B:fy op b=J):ST X C (.Compare a [op] [b] pos) (.cmp o I P):=
 PT.imp (Pg ho ha hb B) λσ H Q c=>by
  refine ac λ_ e=>?_;obtain⟨l,d,fr,b,h,hb,F,g,R,k⟩:=c;apply e;refine zg (x:=.cmp o I P) (f:=ue o) (λl d fr h=>Cs h) σ H _ ⟨l,d,fr,h,F,g,R,λv F1 i st r _=>?_⟩;refine ac λ_ e=>?_;obtain⟨p,q,_,_,h3⟩:=Cs h;obtain⟨z,_,j⟩:=eT h3;clear h3 left_2; cases j;cases hb;apply e;exact⟨_,r,k F1 i st⟩
def YC(B:Xq X (gB X.K λx y=>(Az x y).map λd=>(d,J)))(ha:SE X C a f)(hb:SE X C b F)(hs:Aj b):SE X C (.Subscript a b pos) (.ix f F):=
 PE.imp (Bm B ha hb hs) (zg λc d fr h=>Cs h)
def Fd{K:Fg}{F H:Hp}{d:Dat}{v:V}{b:cc}(g:Good F H)(r:Rep K F d v)(h:gw d=Y b):Xk K v H b:=by
 cases d with
 |non=>rw[r];cases h;exact rfl
 |bl c=>rw[r];cases h;exact rfl
 |int i=>rw[r];cases h;exact rfl
 |str x=>
   rw[r];simp only[gw]at h;split at h
   .rename_i a;cases h;exact⟨a,W⟩
   .cases h
 |tup f=>
   obtain⟨p,vs,rfl,t,r⟩:=r;cases h
   have e:(!f.isEmpty)=!vs.isEmpty:=by
    have:=r.length
    cases f<;>cases vs<;>first|rfl|cases this
   rw[e];exact .inr (.inl ⟨vs,(t.mono g.sub).sq,W⟩)
 |lst f=>
   obtain⟨p,vs,rfl,t,r⟩:=r;cases h
   have e:(!f.isEmpty)=!vs.isEmpty:=by
    have:=r.length
    cases f<;>cases vs<;>first|rfl|cases this
   rw[e];exact .inl ⟨vs,g.sub.seq t,W⟩
 |any=>cases h
 |exc _ _ _=>cases h
 |dct k f=>
   obtain⟨p,j,rfl,t,l,r⟩:=r;clear r; cases h
   have e:(!k.isEmpty)=!j.isEmpty:=by
    rw[<-l];cases j<;>rfl
   rw[e];exact .inr (.inr ⟨j,g.sub _ _ t,W⟩)
def mj(h:SE X C e B)(he:∀whole,isTrue e X.env whole=(do let v <-whole;standAt e.pos;holding [v] (truthy v)):=by intro _;rfl):ST X C e B:=
 PT.imp (KA h he) λσ H Q z=>by obtain⟨i,d,fr,b,h,hb,F,g,R,k⟩:=z;exact⟨i,d,fr,h,F,g,R,λv F1 c a f _=>⟨b,Fd a.good f hb,k F1 c a⟩⟩
abbrev SW(X:Cx)(C:Fs)(e:a9)(x:Ex):Prop:=PW X e (gT X.K C x)
def Og(ha:ST X C a f):SW X C (.BoolOp .And [a] pos) f:=Pd ha
def Tf(ha:ST X C a f):SW X C (.BoolOp .Or [a] pos) f:=UG ha
def PW.imp(h:PW X e t)(f:∀σ H Q,t' σ H Q->t σ H Q):PW X e t':=λa h_ s σ H Q I q=>h a h_ s σ H Q I (f _ _ _ q)
def Th{rest:O a9}(ha:ST X C a B)(hb:SW X C (.BoolOp .And (b::rest) pos) I):SW X C (.BoolOp .And (a::b::rest) pos) (.and B I):=
 PW.imp (UH ha hb) λσ H Q n=>by
  refine ac λ_ e=>?_;obtain⟨p,d,fr,z,h,j,F,g,R,k⟩:=n;obtain⟨⟨q,l⟩,h1,h⟩:=bT h
  refine e ?_;cases q with
  |bl c=>
    cases c with
    |true=>exact⟨p,_,l,U,h1,W,F,g,R,λF1 m f=>by
      exact Ec ⟨p,d,fr,z,h,j,F1,f.good,R.mono f.ff,λo r i=>k o r (f.trans i)⟩⟩
    |false=>
      cases h;cases j
      exact⟨p,_,l,J,h1,W,F,g,R,λF1 m f=>by
       exact Ee (k F1 m f)⟩
  |_=>cases h
def Yi{rest:O a9}(ha:ST X C a B)(hb:SW X C (.BoolOp .Or (b::rest) pos) I):SW X C (.BoolOp .Or (a::b::rest) pos) (.or B I):=
 PW.imp (YT ha hb) λσ H Q n=>by
  refine ac λ_ e=>?_;obtain⟨p,d,fr,z,h,j,F,g,R,k⟩:=n;obtain⟨⟨q,l⟩,h1,h⟩:=bT h
  refine e ?_;cases q with
  |bl c=>
    cases c with
    |false=>exact⟨p,_,l,J,h1,W,F,g,R,λF1 m f=>by
      exact Ee ⟨p,d,fr,z,h,j,F1,f.good,R.mono f.ff,λo r i=>k o r (f.trans i)⟩⟩
    |true=>
      cases h;cases j
      exact⟨p,_,l,U,h1,W,F,g,R,λF1 m f=>by
       exact Ec (k F1 m f)⟩
  |_=>cases h
def Tw(ha:ST X C a B):ST X C (.UnaryOp .Not a pos) (.not B):=
 PT.imp (UJ ha) λσ H Q b=>by
  refine ac λ_ e=>?_;obtain⟨j,d,fr,z,h,c,F,g,R,k⟩:=b;obtain⟨⟨l,f⟩,h1,h⟩:=bT h;obtain⟨i,hb,h⟩:=eT h;cases h;cases c;apply e;exact⟨j,l,f,i,h1,hb,F,g,R,k⟩
def Fn{op}(ha:SE X C a f):SE X C (.BoolOp op [a] pos) f:=UQ ha
def Ut{rest:O a9}(ha:SE X C a B)(hb:SE X C (.BoolOp .And (b::rest) pos) I):SE X C (.BoolOp .And (a::b::rest) pos) (.and B I):=
 PE.imp (UX ha hb) λσ H Q j=>by
  refine ac λ_ e=>?_;obtain⟨r,d,fr,h,F,g,R,k⟩:=j;obtain⟨⟨s,l⟩,h1,h⟩:=bT h
  refine e ?_;cases s with
  |bl c=>
    refine⟨r,_,l,h1,F,g,R,λv F1 m f n _=>⟨c,n,?_⟩⟩
    clear g h1 n; cases c with
    |true=>
      exact Ec ⟨r,d,fr,h,F1,f.good,R.mono f.ff,λv o t i p q=>k v o t (f.trans i) p λz=>(q z).back (F:=F) f.hh⟩
    |false=>
      cases h;exact Ee (k _ F1 m f W bx)
  |_=>cases h
def Yz{rest:O a9}(ha:SE X C a B)(hb:SE X C (.BoolOp .Or (b::rest) pos) I):SE X C (.BoolOp .Or (a::b::rest) pos) (.or B I):=
 PE.imp (YX ha hb) λσ H Q j=>by
  refine ac λ_ e=>?_;obtain⟨r,d,fr,h,F,g,R,k⟩:=j;obtain⟨⟨s,l⟩,h1,h⟩:=bT h
  refine e ?_;cases s with
  |bl c=>
    refine⟨r,_,l,h1,F,g,R,λv F1 m f n _=>⟨c,n,?_⟩⟩
    clear g h1 n; cases c with
    |false=>
      exact Ee ⟨r,d,fr,h,F1,f.good,R.mono f.ff,λv o t i p q=>k v o t (f.trans i) p λz=>(q z).back (F:=F) f.hh⟩
    |true=>
      cases h;exact Ec (k _ F1 m f W bx)
  |_=>cases h
def Uh{B:a9}(hc:ST X C B I)(ha:SE X C a P)(hb:SE X C b S):SE X C (.IfExp B a b pos) (.ite I P S):=
 PE.imp (KU hc ha hb) λσ H Q m=>by
  refine ac λ_ e=>?_;obtain⟨q,d,fr,h,F,g,R,k⟩:=m;obtain⟨⟨s,n⟩,h1,h⟩:=bT h;obtain⟨z,o,h⟩:=bT h;refine e ?_;refine⟨q,s,n,z,h1,o,F,g,R,λF1 p c=>?_⟩
  cases z with
  |true=>
    exact Ec ⟨q,d,fr,h,F1,c.good,R.mono c.ff,λv i r f j l=>k v i r (c.trans f) j λz=>(l z).back (F:=F) c.hh⟩
  |false=>
    exact Ee ⟨q,d,fr,h,F1,c.good,R.mono c.ff,λv i r f j l=>k v i r (c.trans f) j λz=>(l z).back (F:=F) c.hh⟩
def qS:SA X C [] []:=PA.imp tS λσ H Q a=>by
 obtain⟨b,c,h,F,g,R,k⟩:=a;cases h;exact k [] F H (Step.refl g) W
def kS(ha:SE X C e B)(I:SA X C es xs)(hs:aP (e::es) X.env=(J,eval e X.env)::aP es X.env):SA X C (e::es) (B::xs):=
 PA.imp (kT ha I hs) λσ H Q c=>by
  refine ac λ_ m=>?_;obtain⟨n,p,h,F,g,R,k⟩:=c;obtain⟨⟨d,fr⟩,h1,h⟩:=bT h;obtain⟨r,h2,h⟩:=eT h;cases h;apply m;exact⟨n,d,fr,h1,F,g,R,λv F1 l a f _=>⟨n,r,h2,F1,a.good,R.mono a.ff,λvs i o b j=>k _ i o (a.trans b) ⟨v,vs,W,f.mono b.ff,j⟩⟩⟩
def qv(h:n<=1000000):n<=aJ:=by exact af h cF
def Kb:SF X C [] []:=PA.imp tS λσ H Q b=>by
 obtain⟨c,d,al,h,F,g,R,k⟩:=b;cases h;exact k [] F H (Step.refl g) W λ_=>⟨[],fL,(λa z=>by cases z),W,W⟩
def Fk(ha:SE X C e B)(I:SF X C es xs)(hs:aP (e::es) X.env=(J,eval e X.env)::aP es X.env):SF X C (e::es) (B::xs):=
 PA.imp (kT ha I hs) λσ H Q i=>by
  refine ac λ_ q=>?_;obtain⟨s,u,al,h,F,g,R,k⟩:=i;obtain⟨⟨d,fr⟩,h1,h⟩:=bT h;obtain⟨⟨r,j⟩,h2,h⟩:=eT h;cases h;apply q;refine⟨s,d,fr,h1,F,g,R,λv F1 p a f l=>⟨s,r,j,h2,F1,a.good,R.mono a.ff,λvs m t b n o=>k _ m t (a.trans b) ⟨v,vs,W,f.mono b.ff,n⟩ λz=>?_⟩⟩;simp only[ah,pT]at z;refine fU.cons a.hh b.hh ?_ (o z.2)
  rcases z.1 with c|c
  .exact l c
  .exact .lP a.good c f
set_option tactic.hygienic true
def Ub{x1}(h:SF X C es xs):SE X C (.Tuple es x1 pos) (.tup xs):=
 PE.imp (UO h) λσ H Q c=>by
  refine ac λ_ e=>?_;obtain⟨l,d,fr,h,F,g,R,k⟩:=c;obtain⟨⟨m,al⟩,h1,h⟩:=bT h;apply e;dsimp only at h;split at h
  .rename_i f;cases h;exact⟨l,m,_,h1,F,g,R,λvs F1 j a b i=>⟨by rw[b.length];exact qv f,λp hp=>k _ _ _ (a.trans (Step.alloc a.good hp)) ⟨p,vs,W,.inl bK,b.mono (cy.upd (a.good.sub.free hp))⟩ λz=>.tup hp (i z)⟩⟩
  .cases h
def Ue(h:SF X C es xs):SE X C (.List es pos) (.lst xs):=
 PE.imp (US h) λσ H Q c=>by
  refine ac λ_ e=>?_;obtain⟨j,d,fr,h,F,g,R,k⟩:=c;obtain⟨⟨m,al⟩,h1,h⟩:=bT h;apply e;dsimp only at h;split at h
  .rename_i f;cases h;refine⟨j,m,_,h1,F,g,R,λvs F1 l a b i=>⟨by rw[b.length];exact qv f,λp hp=>?_⟩⟩;exact k _ _ _ (a.trans (Step.alloc a.good hp)) ⟨p,vs,W,.inl (.inl bK),(b.mono (cy.upd (o:=.lst vs) (a.good.sub.free hp)))⟩ λz=>.lst a.hh hp (i z)
  .cases h
set_option tactic.hygienic false
def pf(K:Fg)(n:T)(f:O Dat->g_):Sp:=λvs H Q _=>Z vs=n/\gL K f vs H Q
def sW(B:∀ρ d fr,be C x ρ=Y (d,fr)->∃ds,mH C xs ρ=Y ds/\f ds=Y (d,fr)) :
  ∀σ H Q,gE X.K C x σ H Q->tCB (gL X.K f) (gA X.K C xs) σ H Q:=λσ H Q c=>by
 refine ac λ_ e=>?_;obtain⟨ρ,d,fr,h,F,g,R,k⟩:=c;obtain⟨ds,h1,h2⟩:=B ρ d fr h;apply e;refine⟨ρ,ds,h1,F,g,R,λvs F1 n a i=>⟨ds,d,fr,h2,F1,a.good,i,λv j o b l m=>k v j o (a.trans b) l λz=>(m z).back (F:=F) a.hh⟩⟩
theorem qe:∀{xs:O Ex}{ρ:gC}{ds:O Dat},mH C xs ρ=Y ds->Z ds=Z xs
 |[],ρ,ds,h=>by cases h;rfl
 |x::xs,ρ,ds,h=>by
   obtain⟨d,_,h⟩:=bT h;obtain⟨r,h2,h⟩:=eT h;cases h;rw[cg,cg,qe h2]
def OV(j n:T)(G:jx X.prog X.w X.K X.mg X.base vq k f fd ps (pf X.K n (C j)))(I:i7 k X.A)(S:Gl X x)(hm:X.mg x=Y (.ref f))(hk:dO X.K (.ref f)=U)(hb:Binds X.K fd ps [])
  (ha:SA X C (e::es) (B::xs))(hn:Z (B::xs)=n)(O':(x == ("__debug__":aa))=J)(he:aP (e::es) X.env=(J,eval e X.env)::aP es X.env)(P:(er pos (aP es X.env)).any (·.1)=J) :
  SE X C (.Call (.Name x p) (e::es) [] pos) (.call j (B::xs)):=
 PE.imp (FJ G I S hm hk hb .nil KZ ha O' he P) λσ H Q h=>by
  refine ac λ_ i=>?_;obtain⟨l,m,h1,F,g,R,k⟩:=(sW (x:=.call j _) (λl d fr h=>bT h) σ H Q h);apply i;refine⟨l,m,h1,F,g,R,λvs F1 b a c=>?_⟩;show pf _ n _ _ b Q E0;rw[aL];exact⟨by rw[c.length,qe h1,hn],k vs F1 b a c⟩
def OX{f:ej}(hc:kH X (.builtin f) (gL X.K (lr I)))(F:Gl X x)(P:X.mg x=L)(R:dt x=Y (.builtin f))(ha:SA X C (e::es) xs)(S:x≠"__name__")(B:(x == ("__debug__":aa))=J)
  (he:aP (e::es) X.env=(J,eval e X.env)::aP es X.env)(O':(er pos (aP es X.env)).any (·.1)=J):SE X C (.Call (.Name x p) (e::es) [] pos) (.blt I xs):=
 PE.imp (p7 hc F P R ha S B he O') (sW λa d fr h=>bT h)
def zu{T':ej}(hc:kH X (.type T') (gL X.K (lr I)))(f:Gl X x)(F:X.mg x=L)(P:dt x=Y (.type T'))(ha:SA X C (e::es) xs)(R:x≠"__name__")(B:(x == ("__debug__":aa))=J)
  (he:aP (e::es) X.env=(J,eval e X.env)::aP es X.env)(S:(er pos (aP es X.env)).any (·.1)=J):SE X C (.Call (.Name x p) (e::es) [] pos) (.blt I xs):=
 PE.imp (HQ hc f F P ha R B he S) (sW λa d fr h=>bT h)
end
section
variable{a b:a9}{xs:O Ex}{s:ao}
theorem lX:∀{n:T}{ds:O Dat}{j:T}{d:Dat},eU n ds=U->ds[j]?=Y d->iL n d=U
 |_,[],_,_,_,e=>by simp at e
 |n,x::xs,0,d,h,e=>by
   simp only[eU,ah]at h;simp at e;subst e;exact h.1
 |n,x::xs,j+1,d,h,e=>by
   simp only[eU,ah]at h;exact lX h.2 (by simpa using e)
theorem rh:∀xs f:O Dat,pH xs f=((aX (min xs.length f.length)).all (λj=>pL (xs.getD j .non) (f.getD j .non)) && Z xs == Z f)
 |[],[]=>by simp[pH]
 |[],y::f=>by simp[pH]
 |x::xs,[]=>by simp[pH]
 |x::xs,y::f=>by
   have h:=rh xs f;simp only[pH,cg,Nat.succ_min_succ,Nat.succ_eq_add_one];rw[h,List.range_succ_eq_map,eB];simp[Function.comp_def,RC]
def _root_.L2.Inv.lstR{a:aN}{vs:O V}(I:Inv X h_ σ H s)(g:Good F H)(h:nW X.K F a vs):∃f:O ak,df vs f/\PlainL s.heap a f.toArray/\Z vs<=aJ:=I.list (g.sub.seq h)
def _root_.L2.Inv.tupR{a:aN}{vs:O V}(I:Inv X h_ σ H s)(g:Good F H)(h:Tq X.K F a vs):∃f:O ak,df vs f/\NL s.heap a f.toArray/\Z vs<=aJ:=I.tuple (h.mono g.sub).sq
def _root_.L2.Inv.noLT{a:aN}{vs ws:O V}(I:Inv X h_ σ H s)(g:Good F H)(h:nW X.K F a vs)(B:Tq X.K F a ws):False:=by
 obtain⟨j,_,⟨o,n,e,c,_⟩,_⟩:=I.lstR g h;obtain⟨d,_,⟨k,f,i,_⟩,_⟩:=I.tupR g B
 grind
mutual
noncomputable def v5:Dat->cc
 |.dct _ _=>J
 |.any=>J
 |.exc _ _ _=>J
 |.tup xs=>nM xs
 |.lst xs=>nM xs
 |_=>U
noncomputable def nM:O Dat->cc
 |[]=>U
 |x::xs=>v5 x && nM xs
end
mutual
theorem p9:∀(n:T)(d:Dat),iL n d=U->v5 d=U
 |n,.non,_=>rfl
 |n,.bl _,_=>rfl
 |n,.int _,_=>rfl
 |n,.str _,_=>rfl
 |0,.tup _,h=>by simp[iL]at h
 |0,.lst _,h=>by simp[iL]at h
 |n+1,.tup xs,h=>tY n xs (by simpa [iL]using h)
 |n+1,.lst xs,h=>tY n xs (by simpa [iL]using h)
 |n,.dct _ _,h=>by cases n<;>simp[iL]at h
 |n,.any,h=>by cases n<;>simp[iL]at h
theorem tY:∀(n:T)(ds:O Dat),eU n ds=U->nM ds=U
 |n,[],_=>rfl
 |n,d::ds,h=>by
   have c:iL n d=U/\eU n ds=U:=by cases n<;>simpa [eU]using h
   simp only[nM,p9 n d c.1,tY n ds c.2,rQ]
end
mutual
theorem zw(I:Inv X h_ σ H s)(g:Good F H):∀(C B:Dat){x:V},v5 C=U->v5 B=U->Rep X.K F C x->Rep X.K F B x->C=B
 |.non,B,x,j,i,d,c=>by
   rw[d]at c
   cases B<;>first|(cases c;done)|(cases c;rfl)|(obtain⟨_,_,z,_⟩:=c;cases z)|exact nomatch i
 |.bl b,B,x,j,i,d,c=>by
   rw[d]at c
   cases B<;>first|(cases c;done)|(cases c;rfl)|(obtain⟨_,_,z,_⟩:=c;cases z)|exact nomatch i
 |.int b,B,x,j,i,d,c=>by
   rw[d]at c
   cases B<;>first|(cases c;done)|(cases c;rfl)|(obtain⟨_,_,z,_⟩:=c;cases z)|exact nomatch i
 |.str b,B,x,j,i,d,c=>by
   rw[d]at c
   cases B<;>first|(cases c;done)|(cases c;rfl)|(obtain⟨_,_,z,_⟩:=c;cases z)|exact nomatch i
 |.dct _ _,_,_,j,_,_,_=>nomatch j
 |.any,_,_,j,_,_,_=>nomatch j
 |.exc _ _ _,_,_,j,_,_,_=>nomatch j
 |.tup m,B,x,j,i,n,c=>by
   obtain⟨p,vs,e,t,r⟩:=n;subst e
   cases B with
   |tup l=>
     obtain⟨q,us,f,k,h⟩:=c;cases f;have ev :=I.tM (t.mono g.sub).sq (k.mono g.sub).sq;subst ev;rw[vW I g m l j i r h]
   |lst l=>
     obtain⟨q,us,f,k,h⟩:=c;cases f;exact(I.noLT g k t).elim
   |dct _ _=>exact nomatch i
   |any=>exact nomatch i
   |exc _ _ _=>exact nomatch i
   |_=>cases c
 |.lst m,B,x,j,i,n,c=>by
   obtain⟨p,vs,e,t,r⟩:=n;subst e
   cases B with
   |lst l=>
     obtain⟨q,us,f,k,h⟩:=c;cases f;have ev :=I.qb (g.sub.seq t) (g.sub.seq k);subst ev;rw[vW I g m l j i r h]
   |tup l=>
     obtain⟨q,us,f,k,h⟩:=c;cases f;exact(I.noLT g t k).elim
   |dct _ _=>exact nomatch i
   |any=>exact nomatch i
   |exc _ _ _=>exact nomatch i
   |_=>cases c
theorem vW(I:Inv X h_ σ H s)(g:Good F H):∀(ds es:O Dat){vs:O V},nM ds=U->nM es=U->de X.K F ds vs->de X.K F es vs->ds=es
 |[],es,vs,o,p,h,n=>by
   rw[show vs=[]from h]at n
   cases es with
   |nil=>rfl
   |cons _ _=>obtain⟨_,_,z,_⟩:=n;cases z
 |d::ds,es,vs,o,p,j,n=>by
   obtain⟨v,r,e,h1,h2⟩:=j;subst e
   cases es with
   |nil=>exact nomatch (show v::r=[]from n)
   |cons f fs=>
     obtain⟨l,m,k,c,i⟩:=n;cases k;simp only[nM,ah]at o p;rw[zw I g d f o.1 p.1 h1 c,vW I g ds fs o.2 p.2 h2 i]
end
mutual
theorem B6:∀d,v5 d=U->pL d d=U
 |.non,_=>rfl
 |.bl _,_=>by simp[pL]
 |.int _,_=>by simp[pL]
 |.str _,_=>by simp[pL]
 |.tup c,h=>uc c h
 |.lst c,h=>uc c h
 |.dct _ _,h=>nomatch h
 |.any,h=>nomatch h
theorem uc:∀ds,nM ds=U->pH ds ds=U
 |[],_=>rfl
 |d::ds,h=>by
   simp only[nM,ah]at h;simp only[pH,ah];exact⟨B6 d h.1,uc ds h.2⟩
end
def Ks(I:Inv X h_ σ H s)(g:Good F H)(C B:Dat)(R:v5 C=U)(P:v5 B=U)(S:Rep X.K F C x)(f:Rep X.K F B x):pL C B=U:=by
 rw[zw I g C B R P S f];exact B6 _ P
def E8(r:df vs f)(h:j<f.toArray.size):∃v,vs[j]?=Y v/\RelV v f.toArray[j]:=by
 have hl:=r.length;have c:j<Z vs:=by simp_all
 obtain⟨u,e,d⟩:=r.get (ai c);refine⟨_,ai c,?_⟩
 have:f.toArray[j]=u:=by
  have g:j<Z f:=by simpa using h
  simp_all
 rwa[this]
def Vk(h:iL n .any=U):False:=by
 cases n<;>simp[iL]at h
def Vi{n c:T}{f:aa}{k:Key}(h:iL n (.exc c f k)=U):False:=by
 cases n<;>simp[iL]at h
def Vj(h:iL n (.dct f vs)=U):False:=by
 cases n<;>simp[iL]at h
inductive Vw (s:ao):Dat->ak->Prop
 |non:Vw s .non .none
 |bl (b:cc):Vw s (.bl b) (.bool b)
 |int (i:cx) (t:Rv):Vw s (.int i) (.int i t)
 |str (x:aa) (t:Rv):Vw s (.str x) (.str x t)
 |tup {ds:O Dat} {p:aN} {its:c7 ak}:s.heap.IsTuple p its->Vw s (.tup ds) (.ref p)
 |lst {ds:O Dat} {p:aN} {its:c7 ak}:s.heap.IsList p its->Vw s (.lst ds) (.ref p)
def vw(I:Inv X h_ σ H s)(g:Good F H)(sa:iL n C=U)(B:Rep X.K F C x)(f:RelV x u):Vw s C u:=by
 cases C with
 |non=>cases B;rw[f];exact .non
 |bl b=>cases B;rw[f];exact .bl b
 |int i=>cases B;obtain⟨t,rfl⟩:=f;exact .int i t
 |str z=>cases B;obtain⟨t,rfl⟩:=f;exact .str z t
 |tup e=>
   obtain⟨p,vs,rfl,t,r⟩:=B;obtain⟨d,c,pl,_⟩:=I.tupR g t;rw[f];exact .tup pl
 |lst e=>
   obtain⟨p,vs,rfl,t,r⟩:=B;obtain⟨d,c,pl,_⟩:=I.lstR g t;rw[f];exact .lst pl.isList
 |dct _ _=>exact(Vj sa).elim
 |any=>exact(Vk sa).elim
 |exc _ _ _=>exact(Vi sa).elim
noncomputable def isT:Dat->cc
 |.tup _=>U
 |_=>J
def Qn:Dat->cc
 |.lst _=>U
 |_=>J
def M6(a b:Dat):cc:=match a with
 |.tup _=>isT b
 |.lst _=>Qn b
 |_=>J
def Eq3(A:bP)(s:ao)(u w:ak)(b:cc):Prop:=Hd A s u w b/\Hc A s u w b/\AG A s u w (!b)
def Mt{A:bP}(B:A.units<eE)(a:Vw s f u)(b:Vw s db w)(h:M6 f db=J):Eq3 A s u w (pL f db):=by
 cases a with
 |non=>
   cases b with
   |non=>exact⟨.same _,.none_none,.none_none⟩
   |bl _=>exact⟨.none_bool _,.none_bool _,.none_bool _⟩
   |int _ _=>exact⟨.none_int _ _,.none_int _ _,.none_int _ _⟩
   |str _ _=>exact⟨.none_str _ _,.none_str _ _,.none_str _ _⟩
   |tup q=>exact⟨.none_tuple q B,.none_tuple q B,.none_tuple q B⟩
   |lst q=>exact⟨.none_list q B,.none_list q B,.none_list q B⟩
 |bl _=>
   clear h; cases b with
   |non=>exact⟨.bool_none _,.bool_none _,.bool_none _⟩
   |bl _=>exact⟨.bool_bool _ _,.bool_bool _ _,.bool_bool _ _⟩
   |int _ _=>exact⟨.bool_int _ _ _,.bool_int _ _ _,.bool_int _ _ _⟩
   |str _ _=>exact⟨.bool_str _ _ _,.bool_str _ _ _,.bool_str _ _ _⟩
   |tup q=>exact⟨.bool_tuple _ q B,.bool_tuple _ q B,.bool_tuple _ q B⟩
   |lst q=>exact⟨.bool_list _ q B,.bool_list _ q B,.bool_list _ q B⟩
 |int _ _=>
   cases b with
   |non=>exact⟨.int_none _ _,.int_none _ _,.int_none _ _⟩
   |bl _=>exact⟨.int_bool _ _ _,.int_bool _ _ _,.int_bool _ _ _⟩
   |int _ _=>exact⟨.int_int _ _ _ _,.int_int _ _ _ _,.int_int _ _ _ _⟩
   |str _ _=>exact⟨.int_str _ _ _ _,.int_str _ _ _ _,.int_str _ _ _ _⟩
   |tup q=>exact⟨.int_tuple _ _ q B,.int_tuple _ _ q B,.int_tuple _ _ q B⟩
   |lst q=>exact⟨.int_list _ _ q B,.int_list _ _ q B,.int_list _ _ q B⟩
 |str _ _=>
   cases b with
   |non=>exact⟨.str_none _ _,.str_none _ _,.str_none _ _⟩
   |bl _=>exact⟨.str_bool _ _ _,.str_bool _ _ _,.str_bool _ _ _⟩
   |int _ _=>exact⟨.str_int _ _ _ _,.str_int _ _ _ _,.str_int _ _ _ _⟩
   |str _ _=>exact⟨.str_str _ _ _ _,.str_str _ _ _ _,.str_str _ _ _ _⟩
   |tup q=>exact⟨.str_tuple _ _ q B,.str_tuple _ _ q B,.str_tuple _ _ q B⟩
   |lst q=>exact⟨.str_list _ _ q B,.str_list _ _ q B,.str_list _ _ q B⟩
 |tup p=>
   cases b with
   |non=>exact⟨.tuple_none p B,.tuple_none p B,.tuple_none p B⟩
   |bl _=>exact⟨.tuple_bool _ p B,.tuple_bool _ p B,.tuple_bool _ p B⟩
   |int _ _=>exact⟨.tuple_int _ _ p B,.tuple_int _ _ p B,.tuple_int _ _ p B⟩
   |str _ _=>exact⟨.tuple_str _ _ p B,.tuple_str _ _ p B,.tuple_str _ _ p B⟩
   |tup q=>cases h
   |lst q=>exact⟨.tuple_list p q B,.tuple_list p q B,.tuple_list p q B⟩
 |lst p=>
   cases b with
   |non=>exact⟨.list_none p B,.list_none p B,.list_none p B⟩
   |bl _=>exact⟨.list_bool _ p B,.list_bool _ p B,.list_bool _ p B⟩
   |int _ _=>exact⟨.list_int _ _ p B,.list_int _ _ p B,.list_int _ _ p B⟩
   |str _ _=>exact⟨.list_str _ _ p B,.list_str _ _ p B,.list_str _ _ p B⟩
   |tup q=>exact⟨.list_tuple p q B,.list_tuple p q B,.list_tuple p q B⟩
   |lst q=>cases h
def wG(I:Inv X h_ σ H s)(g:Good F H):∀(n:T) (A:bP) (da B:Dat) {x y:V} {u w:ak},A.units+n<eE->iL n da=U->iL n B=U->Rep X.K F da x->Rep X.K F B y->RelV x u->RelV y w->
  Eq3 A s u w (pL da B):=by
 intro n
 induction n with
 |zero=>
   intro A da B x y u w E sa i k l C D;exact Mt E (vw I g sa k C) (vw I g i l D) (by cases da<;>first|rfl|(cases sa;done))
 |succ n S=>
   intro A da B x y u w E sa i k l C D;have c :=az (aZ _ _) E;by_cases hk:M6 da B=J
   .exact Mt c (vw I g sa k C) (vw I g i l D) hk
   have items:∀{ds es:O _} {vs us:O V} {its f:O ak},eU n ds=U->eU n es=U->de X.K F ds vs->de X.K F es us->df vs its->df us f->
     (∀j(h1:j<its.toArray.size)(h2:j<f.toArray.size),Hd A.in1 s its.toArray[j] f.toArray[j] (pL (ds.getD j .non) (es.getD j .non)))/\its.toArray.size=Z ds/\f.toArray.size=Z es:=by
    intro ds es vs us its f s1 s2 J' L' m o;refine⟨λj h1 h2=>?_,by rw[bF,<-m.length,J'.length],by rw[bF,<-o.length,L'.length]⟩;refine ac λ_ a=>?_;obtain⟨v,e1,T'⟩:=E8 m h1;obtain⟨v',e2,U'⟩:=E8 o h2;have M:j<Z ds:=by have:=J'.length;have:=(aK.mp e1).1;omega
    have N:j<Z es:=by have:=L'.length;have:=(aK.mp e2).1;omega
    obtain⟨z1,P,G⟩:=J'.get (ai M);obtain⟨z2,Q,c3⟩:=L'.get (ai N);apply a;rw[e1]at P;cases P;rw[e2]at Q;cases Q;have e0:ds.getD j .non=ds[j]:=by simp[List.getD,M]
    have g2:es.getD j .non=es[j]:=by simp[List.getD,N]
    rw[e0,g2];exact(S _ _ _ (by grind) (lX s1 (ai M)) (lX s2 (ai N)) G c3 T' U').1
   have both:∀{p q:aN},x=.ref p->y=.ref q->Hc A s (.ref p) (.ref q) (pL da B)->AG A s (.ref p) (.ref q) (!pL da B)->Eq3 A s u w (pL da B):=by
    intro p q e1 e2 h h';subst e1 e2;obtain rfl:u=.ref p:=C;obtain rfl:w=.ref q:=D;refine⟨?_,h,h'⟩;by_cases z:p=q
    .clear h h'; subst z;rw[Ks I g da B (p9 _ _ sa) (p9 _ _ i) k l];exact .same _
    .exact .of_refs z h
   cases da with
   |tup ds=>
     cases B with
     |tup es=>
       obtain⟨p,vs,rfl,t,r⟩:=id k;obtain⟨its,m,pl,_⟩:=I.tupR g t;obtain⟨q,us,rfl,t',O'⟩:=id l;obtain⟨f,o,d,_⟩:=I.tupR g t';obtain⟨hi,e1,e2⟩:=items sa i r O' m o;have h1:=SeqAt.RcAt.tuples pl d c hi;have h2:=SeqAt.RcNeAt.tuples pl d c hi;rw[e1,e2,<-rh]at h1 h2;exact both W rfl h1 h2
     |_=>exact absurd rfl hk
   |lst ds=>
     cases B with
     |lst es=>
       obtain⟨p,vs,rfl,t,r⟩:=id k;obtain⟨its,m,pl,_⟩:=I.lstR g t;obtain⟨q,us,rfl,t',O'⟩:=id l;obtain⟨f,o,d,_⟩:=I.lstR g t';obtain⟨hi,e1,e2⟩:=items sa i r O' m o;have e:=rh ds es;by_cases hsz:its.toArray.size=f.toArray.size
       .have h1:=SeqAt.RcAt.lists pl.isList d.isList hsz c hi;have h2:=SeqAt.RcNeAt.lists pl.isList d.isList hsz c hi;have e3:(Z ds == Z es)=U:=by simp_all
        rw[e3,ip,<-e1,<-e2,<-hsz,Nat.min_self]at e;rw[<-e]at h1 h2;exact both W rfl h1 h2
       .have R:(its.toArray.size != f.toArray.size)=U:=by simpa using hsz
        have h1:=SeqAt.RcAt.lists_lengths pl.isList d.isList R c;have e3:(Z ds == Z es)=J:=by grind
        rw[e3,Bool.and_false]at e;refine both W rfl ?_ ?_
        .show Hc _ _ _ _ (pH ds es);rwa[e]
        .show AG _ _ _ _ (!pH ds es);rw[e];exact (SeqAt.RcNeAt.lists_lengths pl.isList d.isList R c)
     |_=>exact absurd rfl hk
   |_=>exact absurd rfl hk
end
section
variable{X:Cx}
def Fi (h:Y (a,b)=Y (f,B)):a=f/\b=B:=by simp_all
def K2:lu X (dy .Add) (λx y H Q=>∃a b B,x=.ref a/\y=.ref b/\wW X.K H a []/\wW X.K H b B/\Q (.ref b) H):=by
 intro h_ s σ H x y v u Q I i j h;refine ac λ_ w=>?_;obtain⟨a,b,B,rfl,rfl,ha,hb,q⟩:=h;cases i;cases j;obtain⟨z,k,l,_⟩:=I.tuple ha;obtain⟨m,t,o,_⟩:=I.tuple hb;cases k;obtain⟨⟨cls,p,data,sl⟩,ho,hc,n,hd⟩:=id l;obtain⟨⟨g,d,data2,zo⟩,c,e,r,f⟩:=id o;subst hc hd e f;apply w;exact xt ⟨_,ho,W⟩ ⟨_,c,W⟩ yU G9 oF nX (nG _ _) (tuple_addW0 a b _ _ n r p d sl zo W) ⟨ho,c,.ref b,H,I,W,q⟩
set_option tactic.hygienic true
def PJ:lu X (dy .Add) (gB X.K (iT .add)):=by
 intro h_ s σ H x y v u Q I c f h;refine ac λ_ E=>?_;obtain⟨da,N,d,fr,h,F,g,j,m,k⟩:=h;apply E;cases da<;>cases N<;>simp only[iT,Rc,reduceCtorEq]at h
 .obtain⟨rfl,rfl⟩:=Fi h;exact Va h_ s σ H _ _ v u Q I c f ⟨_,_,j,m,k _ F H (Step.refl g) W bx⟩
 .split at h
  .rename_i b;obtain⟨rfl,rfl⟩:=Fi h;exact DQ h_ s σ H _ _ v u Q I c f ⟨_,_,j,m,b,k _ F H (Step.refl g) W bx⟩
  .cases h
 .split at h
  .rename_i xs ys b;refine ac λ_ E=>?_;obtain⟨rfl,rfl⟩:=Fi h;clear h; obtain⟨p,vs,rfl,t,r⟩:=j;obtain⟨q,us,rfl,S,a⟩:=m;apply E;by_cases G:vs=[]
   .subst G;have e :=vB r.length.symm;subst e;exact K2 h_ s σ H _ _ v u Q I c f ⟨p,q,us,W,W,(t.mono g.sub).sq,(S.mono g.sub).sq,k _ F H (Step.refl g) ⟨q,us,W,S,a⟩ bx⟩
   refine PD h_ s σ H _ _ v u Q I c f ⟨p,q,vs,us,W,W,(t.mono g.sub).sq,(S.mono g.sub).sq,G,?_,?_,?_⟩
   .rwa[r.length,a.length]
   .intro z;subst z;have e :=vB a.length.symm;refine k _ F H (Step.refl g) ⟨p,vs,W,t,?_⟩ bx
    simp_all
   .intro _ l hl;exact k _ _ _ (Step.alloc g hl) ⟨l,_,W,.inl bK,(r.append a).mono (cy.upd (g.sub.free hl))⟩ bx
  .cases h
 .split at h
  .rename_i xs ys b;refine ac λ_ E=>?_;obtain⟨rfl,rfl⟩:=Fi h;obtain⟨p,vs,rfl,t,r⟩:=j;obtain⟨q,us,rfl,S,a⟩:=m;obtain⟨V,J',pl,_⟩:=I.lstR g t;obtain⟨w,L',A,_⟩:=I.lstR g S;obtain rfl:v=.ref p:=c;obtain rfl:u=.ref q:=f;obtain⟨⟨cls,O',data,sl⟩,ho,hc,n,hd⟩:=pl.isList;obtain⟨⟨M,B,data2,zo⟩,i,C,P,D⟩:=A.isList;subst hc hd C D;apply E;refine xt ⟨_,ho,W⟩ ⟨_,i,W⟩ noFill_list_add seq_list_add PySem.F.slot_list_add PySem.F.entry_list_add (PySem.F.args_list_add_2 _ _) (list_addW p q _ _ n P O' B sl zo (by rwa[bF,bF,<-J'.length,<-L'.length,r.length,a.length])) ⟨ho,i,?_⟩;have R:V.toArray++w.toArray=(V++w).toArray:=by simp
   rw[R];exact⟨.ref _,_,I.Zf (J'.append L') (by rwa[aj,r.length,a.length]),W,k _ _ _ (Step.alloc g I.fresh) ⟨_,_,W,.inl (.inl bK),((r.append a).mono (cy.upd (o:=.lst _) (g.sub.free I.fresh)))⟩ λz=>.lst (cy.refl _) I.fresh (.lP g z (r.append a))⟩
  .cases h
def RQ{I:C5}{o:XB}{P:cx->cx->Prop}{f:cx->cx->cx}(h:lu X (dy I) (rI P λi j=>.int (f i j)))
  (hb:∀C B d fr,iT o C B=Y (d,fr)->∃i j,C=.int i/\B=.int j/\P i j/\d=.int (f i j)/\fr=J):lu X (dy I) (gB X.K (iT o)):=
 lu.imp h λx y H Q a=>by
  refine ac λ_ e=>?_;obtain⟨C,B,d,fr,h,F,g,b,c,k⟩:=a;obtain⟨i,j,rfl,rfl,hc,rfl,rfl⟩:=hb C B d fr h;apply e;exact⟨i,j,b,c,hc,k _ F H (Step.refl g) W bx⟩
def K3{I:C5}{o:XB}{f:cx->cx->cx}(h:lu X (dy I) (Pb λi j=>.int (f i j)))
  (hb:∀C B d fr,iT o C B=Y (d,fr)->∃i j,C=.int i/\B=.int j/\d=.int (f i j)/\fr=J):lu X (dy I) (gB X.K (iT o)):=
 lu.imp h λx y H Q a=>by
  refine ac λ_ e=>?_;obtain⟨C,B,d,fr,h,F,g,b,c,k⟩:=a;obtain⟨i,j,rfl,rfl,rfl,rfl⟩:=hb C B d fr h;apply e;exact⟨i,j,b,c,k _ F H (Step.refl g) W bx⟩
theorem gc9{f:cx->cx->cc}(h:XY f a b=Y r):∃i j,a=.int i/\b=.int j/\r=f i j:=by
 cases a with
 |int i=>
   cases b with
   |int j=>cases h;exact⟨i,j,W,W,W⟩
   |_=>cases h
 |_=>cases h
theorem gu9{f:cx->cx->g_}(h:Jk f a b=Y r):∃i j,a=.int i/\b=.int j/\f i j=Y r:=by
 cases a with
 |int i=>
   cases b with
   |int j=>exact⟨i,j,W,W,h⟩
   |_=>cases h
 |_=>cases h
def Pu:lu X (dy .Sub) (gB X.K (iT .sub)):=K3 UZ λb a d fr h=>by
 obtain⟨i,j,rfl,rfl,h⟩:=gu9 h;simp_all
def PH:lu X (dy .BitAnd) (gB X.K (iT .band)):=K3 U9 λb a d fr h=>by
 obtain⟨i,j,rfl,rfl,h⟩:=gu9 h;simp_all
def Pz:lu X (dy .Mult) (gB X.K (iT .mul)):=by
 intro h_ s σ H x y v u Q I a b h;obtain⟨n,i,d,fr,h,F,g,e,f,k⟩:=h;cases n<;>cases i<;>simp only[iT,Rb,reduceCtorEq]at h
 .split at h
  .rename_i c;cases h;exact U2 h_ s σ H _ _ v u Q I a b ⟨_,_,e,f,c,k _ F H (Step.refl g) W bx⟩
  .cases h
 .split at h
  .rename_i z j c;cases h;rw[e]at a;rw[f]at b;obtain⟨t,rfl⟩:=a;obtain⟨o,rfl⟩:=b;exact PySem.SB.mul c λl m=>⟨.str _,H,I.tok m,⟨l,W⟩,k _ F H (Step.refl g) W bx⟩
  .cases h
def PC:lu X (dy .Mod) (gB X.K (iT .mod)):=RQ U3 λb a d fr h=>by
 obtain⟨i,j,rfl,rfl,h⟩:=gu9 h;simp_all
def Pw:lu X (dy .RShift) (gB X.K (iT .shr)):=RQ U0 λb a d fr h=>by
 obtain⟨i,j,rfl,rfl,h⟩:=gu9 h;simp_all
def lZ(h:ue o f db=Y (d,fr)):∃b,kh o f db=Y b/\d=.bl b/\fr=J:=by
 obtain⟨b,h1,h2⟩:=eT h
 grind
def MN{I:CmpOp}{o:Cop}{f:cx->cx->cc}(h:lu X (dk I) (Pb λi j=>.bl (f i j)))(hb:∀C B b,kh o C B=Y b->∃i j,C=.int i/\B=.int j/\b=f i j):lu X (dk I) (gB X.K (ue o)):=
 lu.imp h λx y H Q a=>by
  refine ac λ_ l=>?_;obtain⟨C,B,d,fr,h,F,g,c,e,k⟩:=a;obtain⟨b,hd,rfl,rfl⟩:=lZ h;obtain⟨i,j,rfl,rfl,rfl⟩:=hb C B b hd;apply l;exact⟨i,j,c,e,k _ F H (Step.refl g) W bx⟩
def U4:lu X (dk .Lt) (gB X.K (ue .lt)):=MN YZ λ_ _ _=>gc9
def U6:lu X (dk .Gt) (gB X.K (ue .gt)):=MN Y0 λ_ _ _=>gc9
def U7(B:X.A.units+20<eE):lu X (dk .Eq) (gB X.K (ue .eq)):=λh_ s σ H x y v u Q I c e a=>by
 refine ac λ_ l=>?_;obtain⟨m,f,d,fr,h,F,g,i,j,k⟩:=a;obtain⟨b,hd,rfl,rfl⟩:=lZ h;apply l;simp only[kh]at hd;split at hd
 .rename_i hs;clear l h; cases hd;simp only[ah]at hs;exact(wG I g 20 _ m f B hs.1 hs.2 i j c e).2.1 _ _ _ _ ⟨.bl _,H,I,W,k _ F H (Step.refl g) W bx⟩
 .cases hd
set_option tactic.hygienic false
end
structure Ow(K:Fg)(H₀ F H:Hp)(σ:St)(ρ:cT)(Ss:T->O aN):Prop where
 own:∀(i:T)d,ρ[i]?=Y (Y (d,U))->∃v,σ[i]?=Y (Y v)/\kW K H d v (Ss i)/\(Ss i).Nodup/\∀a∈Ss i,F a=L/\H₀ a=L
 sep:∀(i j:T)d d',i≠j->ρ[i]?=Y (Y (d,U))->ρ[j]?=Y (Y (d',U))->∀a∈Ss i,a∉Ss j
structure HZ where
 h:Hp
 z:ar V
instance:Coe HZ Hp:=⟨HZ.h⟩
structure Rl(K:Fg)(Fz:Hp)(H₀:HZ)(F H:Hp)(σ:St)(ρ:cT):Prop where
 step:Step Fz H₀.h F H
 len:Z σ=Z ρ
 val:∀(i:T)d,ρ[i]?=Y (Y (d,J))->∃v,σ[i]?=Y (Y v)/\Rep K F d v
 keep:∀d v,ρ[0]?=Y (Y (d,U))->H₀.z=Y v->σ[0]?=Y (Y v)
 ow:∃Ss,Ow K H₀.h F H σ ρ Ss
section
variable{K:Fg}{F:Hp}{H₀:HZ}{σ:St}{ρ:cT}
def Oa{i:T}{d:Dat}(h:(xT ρ)[i]?=Y (Y d)):ρ[i]?=Y (Y (d,J)):=by
 unfold xT at h;rw[aV]at h
 cases q:ρ[i]? with
 |none=>rw[q]at h;cases h
 |some o=>
   rw[q]at h;clear q; cases o with
   |none=>cases (bL h)
   |some z=>
     obtain⟨a,b⟩:=z
     cases b with
     |true=>cases (bL h)
     |false=>cases (bL h);rfl
def Rl.xT(R:Rl K f H₀ F H σ ρ):oj K F σ (xT ρ):=λi d e=>R.val i d (Oa e)
def Ow.moved(B:Ow K H₀.h F H σ ρ C)(st:Step F H I P):Ow K H₀.h I P σ ρ C where
 own:=λi d e=>by
  obtain⟨v,f,b,g,c⟩:=B.own i d e;refine⟨v,f,b.mono st.hh,g,λa m=>⟨?_,(c a m).2⟩⟩;obtain⟨o,ho,_⟩:=b.uQ _ a m;exact st.un a o ho (c a m).1
 sep:=B.sep
def Rl.moved(R:Rl K f H₀ F H σ ρ)(st:Step F H B C):Rl K f H₀ B C σ ρ where
 step:=R.step.trans st
 len:=R.len
 val:=λi d e=>by obtain⟨v,a,b⟩:=R.val i d e;exact⟨v,a,b.mono st.ff⟩
 keep:=R.keep
 ow:=by obtain⟨c,g⟩:=R.ow;exact⟨c,g.moved st⟩
def FZ(i j:T)(f:g_->g_):(ρ.modify i f)[j]?=if i=j then(ρ[j]?).map f else ρ[j]? :=by
 by_cases h:i=j
 .simp_all
 simp_all
def iU(q:(ρ.modify i λo=>o.map λs=>(s.1,J))[j]?=Y (Y (d,b))):(i=j/\b=J/\∃B,ρ[j]?=Y (Y (d,B)))\/(i≠j/\ρ[j]?=Y (Y (d,b))):=by
 rw[FZ]at q;by_cases h:i=j
 .rw[a5 h]at q;refine .inl ⟨h,?_⟩
  cases z:ρ[j]? with
  |none=>rw[z]at q;cases q
  |some o=>
    rw[z]at q
    clear z; cases o with
    |none=>cases q
    |some s=>grind
 .rw[cb h]at q;exact .inr ⟨h,q⟩
def Rl.Me(R:Rl K S H₀ F H σ ρ)(I:Ow K H₀.h F H σ ρ P)(ho:ρ[i]?=Y (Y (d,U))):Rl K S H₀ (fz F H (P i)) H σ (ρ.modify i λo=>o.map λs=>(s.1,J)):=by
 obtain⟨v,D,E,G,B⟩:=I.own i d ho;refine⟨⟨vh R.step.good,R.step.ff.trans (qY R.step.good.sub),R.step.hh,λa o q n=>?_⟩,?_,λj r q=>?_,λr u q=>?_,P,λj r q=>?_,λj k d1 d2 c x y=>?_⟩
 .rw[oU λm=>?_]
  .exact R.step.un a o q n
  simp_all
 .rw[Jc];exact R.len
 .rcases iU q with⟨rfl,_,C,b⟩|⟨_,b⟩
  .rw[ho]at b;cases b;exact⟨v,D,E.nu R.step.good d λa m=>m⟩
  .obtain⟨w,e,f⟩:=R.val j r b;exact⟨w,e,f.mono (qY R.step.good.sub)⟩
 .rcases iU q with⟨_,z,_⟩|⟨_,b⟩
  .cases z
  .exact R.keep _ u b
 .rcases iU q with⟨_,z,_⟩|⟨g,b⟩
  .cases z
  .obtain⟨w,e,f,A,t⟩:=I.own j r b;refine⟨w,e,f,A,λa m=>⟨?_,(t a m).2⟩⟩;rw[oU (I.sep j i r d (cB g) b ho a m)];exact(t a m).1
 .rcases iU x with⟨_,z,_⟩|⟨_,l⟩
  .cases z
  .rcases iU y with⟨_,z,_⟩|⟨_,p⟩
   .cases z
   .exact I.sep j k d1 d2 c l p
def Rl.Qx(R:Rl K C H₀ F H σ ρ)(i:T):∃B,cy F B/\Rl K C H₀ B H σ (ρ.modify i λo=>o.map λs=>(s.1,J)):=by
 obtain⟨p,n⟩:=R.ow;by_cases ho:∃d,ρ[i]?=Y (Y (d,U))
 .obtain⟨d,ho⟩:=ho;exact⟨_,qY R.step.good.sub,R.Me n ho⟩
 .refine⟨F,cy.refl _,⟨R.step,by rw[Jc];exact R.len,λj m q=>?_,λm f q=>?_,p,λj m q=>?_,λj k d1 d2 b g h=>?_⟩⟩
  .rcases iU q with⟨rfl,_,l,a⟩|⟨_,a⟩
   .cases l with
    |true=>exact absurd ⟨_,a⟩ ho
    |false=>exact R.val _ m a
   .exact R.val j m a
  .rcases iU q with⟨_,z,_⟩|⟨_,a⟩
   .cases z
   .exact R.keep _ f a
  .rcases iU q with⟨_,z,_⟩|⟨_,a⟩
   .cases z
   .exact n.own j m a
  .rcases iU g with⟨_,z,_⟩|⟨_,c⟩
   .cases z
   .rcases iU h with⟨_,z,_⟩|⟨_,e⟩
    .cases z
    .exact n.sep j k d1 d2 b c e
def Rl.freeze(R:Rl K B H₀ F H σ ρ):∀is:O T,∃f,cy F f/\Rl K B H₀ f H σ (nu is ρ):=by
 intro is
 induction is generalizing F ρ with
 |nil=>exact⟨F,cy.refl _,R⟩
 |cons i is a=>
   obtain⟨F1,s1,b⟩:=R.Qx i;obtain⟨c,s2,R2⟩:=a b;exact⟨c,s1.trans s2,R2⟩
theorem Gz:∀(is:O T)(ρ:cT)(j:T),(nu is ρ)[j]?=if j∈is then(ρ[j]?).map (λo=>o.map λs=>(s.1,J))else ρ[j]?
 |[],ρ,j=>by simp[nu]
 |i::is,ρ,j=>by
   have e:nu (i::is) ρ=nu is (ρ.modify i λo=>o.map λs=>(s.1,J)):=rfl;rw[e,Gz is,FZ];by_cases h:i=j
   .subst h;rw[a5 W,a5 (jM)];by_cases m:i∈is
    .rw[a5 m]
     cases ρ[i]? with
     |none=>rfl
     |some o=>cases o<;>rfl
    .rw[cb m]
   grind
def IB:nu (aX ρ.length) ρ=ub ρ:=by
 apply uq;intro j;rw[Gz];unfold ub
 simp_all
def Rl.jo(R:Rl K B H₀ F H σ ρ):∃f,cy F f/\Rl K B H₀ f H σ (ub ρ):=by
 obtain⟨f,s,a⟩:=R.freeze (aX _);rw[IB]at a;exact⟨f,s,a⟩
def dc(q:(ρ.set i x)[j]?=Y (Y (d,b))):(i=j/\x=Y (d,b))\/(i≠j/\ρ[j]?=Y (Y (d,b))):=by
 rw[nZ]at q;by_cases h:i=j
 .simp_all
 .rw[cb h]at q;exact .inr ⟨h,q⟩
def RD(hl:i<Z σ):(σ.set i (Y v))[i]?=Y (Y v):=eZ hl
def ym(q:(ρ.set i x)[i]?=Y y):i<Z ρ:=by
 rw[nZ]at q
 simp_all
def Rl.zq(R:Rl K B H₀ F H σ ρ)(r:Rep K F d v):Rl K B H₀ F H (σ.set i (Y v)) (ρ.set i (Y (d,J))):=by
 obtain⟨t,s⟩:=R.ow;refine⟨R.step,by simpa using R.len,λj p q=>?_,λp l q=>?_,t,λj p q=>?_,λj k d1 d2 c m n=>?_⟩
 .rcases dc q with⟨rfl,e⟩|⟨a,b⟩
  .cases e;exact⟨v,RD (by rw[R.len];exact ym q),r⟩
  .obtain⟨w,o,f⟩:=R.val j p b;exact⟨w,by simp_all,f⟩
 .rcases dc q with⟨_,e⟩|⟨a,b⟩
  .cases e
  .intro z;rw[bX a];exact R.keep _ l b z
 .rcases dc q with⟨rfl,e⟩|⟨a,b⟩
  .cases e
  .obtain⟨w,o,f⟩:=s.own j p b;exact⟨w,by simp_all,f⟩
 .rcases dc m with⟨_,e⟩|⟨_,g⟩
  .cases e
  .rcases dc n with⟨_,e⟩|⟨_,h⟩
   .cases e
   .exact s.sep j k d1 d2 c g h
def Rl.T8(R:Rl K Fz H₀ F H σ ρ)(P:Ow K H₀.h F H σ ρ Ss)(o:kW K H d v S)(nd:S.Nodup)(C:∀a∈S,F a=L/\H₀.h a=L)(h0:i≠0)
  (B:∀(j:T)I,i≠j->ρ[j]?=Y (Y (I,U))->∀a∈Ss j,a∉S):Rl K Fz H₀ F H (σ.set i (Y v)) (ρ.set i (Y (d,U))):=by
 refine⟨R.step,by simpa using R.len,λj I q=>?_,λI p q=>?_,λj=>if j=i then S else Ss j,λj I q=>?_,λj k d1 d2 g r s=>?_⟩
 .rcases dc q with⟨rfl,e⟩|⟨b,c⟩
  .cases e
  .obtain⟨w,t,l⟩:=R.val j I c;exact⟨w,by simp_all,l⟩
 .rcases dc q with⟨e,_⟩|⟨b,c⟩
  .exact absurd e h0
  .intro z;rw[bX b];exact R.keep _ p c z
 .rcases dc q with⟨rfl,e⟩|⟨b,c⟩
  .cases e;rw[a5 W];exact⟨v,RD (by rw[R.len];exact ym q),o,nd,C⟩
  .obtain⟨w,t,l⟩:=P.own j I c;rw[cb (cB b)];exact⟨w,by simp_all,l⟩
 .intro a m
  rcases dc r with⟨rfl,e⟩|⟨h1,f⟩
  .grind
  .rw[cb (cB h1)]at m
   rcases dc s with⟨rfl,e⟩|⟨h2,n⟩
   .rw[a5 W];exact B j d1 h1 f a m
   .rw[cb (cB h2)];exact P.sep j k d1 d2 g f n a m
def Rl.full{K:Fg}(R:Rl K f H₀ F H σ (ub ρ)):oj K F σ (M.full ρ):=by rw[<-Di];exact R.xT
noncomputable def uz(F:Hp)(S:O aN):Hp:=λa=>if a∈S then L else F a
def ur(h:a∈S):uz F S a=L:=a5 h
def jv(h:a∉S):uz F S a=F a:=cb h
def Step.aaI(st:Step F H C f)(g:Good F H)(B:∀a∈S,H a=L)(o:kW K f d v S):Step F H (uz C S) f:=by
 refine⟨⟨λa e q=>?_,λa vs q=>?_⟩,λa e q=>?_,st.hh,λa e q n=>?_⟩
 .by_cases m:a∈S
  .rw[ur m]at q;cases q
  .rw[jv m]at q;exact st.good.sub a e q
 .rw[jv λm=>?_]
  .exact st.good.tup a vs q
  .obtain⟨u,b,c⟩:=o.uQ _ a m;rw[q]at b;cases b;exact c
 .rw[jv λm=>?_]
  .exact st.ff a e q
  .rw[g.sub.free (B a m)]at q;cases q
 .by_cases m:a∈S
  .exact ur m
  .rw[jv m];exact st.un a e q n
def GD(R:Rl K Fz H₀ F H σ ρ)(h:yF C e ρ=Y (d,fr,I))
  (k:∀v Fm F' P,cy F Fm->Rl K Fz H₀ Fm H σ I->Step Fm H F' P->Rep K F' d v->(fr=U->hV K H P d v)->Q v P):∃B,be C e B=Y (d,fr)/\tE K B d fr σ H Q:=by
 obtain⟨⟨d1,s⟩,h2,h⟩:=bT h;dsimp only at h;by_cases c:(im d1 || s)=U
 .rw[a5 c]at h;have hh:d=d1/\fr=s/\I=ρ:=by grind
  obtain⟨i,j,l⟩:=hh;subst i j l;obtain⟨x,y,t⟩:=R.jo;refine⟨_,h2,x,t.step.good,t.full,λv F1 g st r f=>?_⟩;have b:=Step.shrink R.step.good y st
  cases hi:im d with
  |true=>exact k v F _ g (cy.refl _) R b (r.shrink R.step.good st d hi) f
  |false=>
    rw[hi]at c;obtain⟨S,n,A,o⟩:=f c;have p:Step F H (fz (shr F H F1) g S) g:=by
     refine⟨(vh (S:=S) b.good),b.ff.trans (qY b.good.sub),b.hh,λa u q nn=>?_⟩;rw[oU λm=>?_]
     .exact b.un a u q nn
     grind
    exact k v F _ g (cy.refl _) R p (o.nu b.good d λa m=>m) f
 .rw[cb c]at h;obtain⟨⟨d2,z⟩,h3,h⟩:=eT h;cases h;obtain⟨w,s2,R2⟩:=R.freeze _;exact⟨_,h3,w,R2.step.good,R2.xT,λv F' P st r f=>k v w F' P s2 R2 st r f⟩
def zU(R:Rl K P H₀ F H σ ρ)(h:yF C e ρ=Y (d,fr,f))
  (k:∀v Fm I B,cy F Fm->Rl K P H₀ Fm H σ f->Step Fm H I B->Rep K I d v->(fr=U->hV K H B d v)->Q v B):gE K C e σ H Q:=
 by obtain⟨_,h1,h2⟩:=GD R h k;exact⟨_,d,fr,h1,h2⟩
end
def sH(K:Fg)(f:Hp)(H₀:HZ)(F:Hp)(D:Ends):Out->Prop
 |.nx e=>∀b c a,cy F b->Rl K f H₀ b c a e->D.nx a c
 |.rt d fr=>∀v b c,Step f H₀.h b c->Rep K b d v->(fr=U->hV K H₀.h c d v)->D.rt v c
 |.rl d e=>∀v b c a,cy F b->Rl K f H₀ b c a e->Rep K b d v->D.rt v c
def sH.mono{K:Fg}{F1:Hp}{D:Ends}(s:cy F F1)(h:sH K B H₀ F D o):sH K B H₀ F1 D o:=by
 cases o with
 |nx b=>exact λc e a f R=>h c e a (s.trans f) R
 |rt d fr=>exact h
 |rl d b=>exact λv c e a f R=>h v c e a (s.trans f) R
def gS(K:Fg)(C:Fs)(x:Sx):TS:=λD σ H=>∃a H₀ F b out,pv C x b=Y out/\Rl K a H₀ F H σ b/\sH K a H₀ F D out
def gSs(K:Fg)(C:Fs)(xs:O Sx):TS:=λD σ H=>∃a H₀ F b out,dI C xs b=Y out/\Rl K a H₀ F H σ b/\sH K a H₀ F D out
abbrev SS(X:Cx)(C:Fs)(st:iE)(x:Sx):Prop:=PS X st (gS X.K C x)
abbrev Jl(X:Cx)(C:Fs)(st:O iE)(xs:O Sx):Prop:=sY X st (gSs X.K C xs)
section
variable{X:Cx}{st:iE}{pos:rC}
def Oo:Jl X C [] []:=sY.imp Ph λD σ H a=>by
 obtain⟨b,H₀,F,c,out,h,R,k⟩:=a;cases h;exact k F H σ (cy.refl _) R
def JW(h1:SS X C st x)(h2:Jl X C B xs):Jl X C (st::B) (x::xs):=sY.imp (Bj h1 h2) λD σ H b=>by
 refine ac λ_ g=>?_;obtain⟨i,H₀,F,j,out,h,R,k⟩:=b;obtain⟨o,ho,h⟩:=bT h;apply g;refine⟨i,_,F,j,o,ho,R,?_⟩
 clear g R ho; cases o with
 |nx a=>exact λF1 f c s1 e=>⟨i,_,F1,a,_,h,e,k.mono s1⟩
 |rt d fr=>cases h;exact k
 |rl d a=>cases h;exact k
def JZ{st:iE}:SS X C st .Ay:=λh_ s σ H D I a=>by
 obtain⟨b,H₀,F,c,out,h,R,k⟩:=a;cases h
def TC(he:SE X C e xe):SS X C (.Return (Y e) pos) (.ret xe):=PS.imp (KD he) λD σ H b=>by
 refine ac λ_ g=>?_;obtain⟨l,H₀,F,m,out,h,R,k⟩:=b;obtain⟨⟨d,fr⟩,h1,h⟩:=eT h;cases h;obtain⟨c,n,a⟩:=R.jo;apply g;exact⟨_,d,fr,h1,c,a.step.good,a.full,λv i j st r f=>k v i j (a.step.trans st) r λz=>(f z).back (F:=F) R.step.hh⟩
def Ou{i:T}{x:aa}{p:rC}(I:X.N[i]?=Y x)(P:M9 X.env.scope x)(hd:(x == ("__debug__":aa))=J)(B:(x == ("__classdict__":aa))=J):SS X C (.Return (Y (.Name x p)) pos) (.oM i):=
 PS.imp (KD (lL I P hd B)) λD σ H f=>by
  obtain⟨l,H₀,F,s,out,h,R,k⟩:=f;obtain⟨⟨d,b⟩,h1,h⟩:=eT h;cases h
  have c:s[i]?=Y (Y (d,b)):=by
   cases q:s[i]? with
   |none=>rw[q]at h1;cases h1
   |some z=>simp_all
  have e:sH _ l _ F D (.rt d b)->Yb (rT i) D σ H:=λk=>by
   cases b with
   |false=>
     obtain⟨v,j,r⟩:=R.val i d c;exact⟨v,j,k v F H R.step r bx⟩
   |true=>
     obtain⟨u,w⟩:=R.ow;obtain⟨v,j,t,y,g⟩:=w.own i d c;have st:Step l H₀ (fz F H (u i)) H:=by
      refine⟨vh R.step.good,R.step.ff.trans (qY R.step.good.sub),R.step.hh,λa o q n=>?_⟩;rw[oU λm=>?_]
      .exact R.step.un a o q n
      simp_all
     exact⟨v,j,k v _ H st (t.nu R.step.good d λa m=>m) λ_=>⟨_,y,λa m=>(g a m).2,t⟩⟩
  unfold Sx.YG at k;split at k
  .rename_i hb _;clear h1 h e; subst hb;obtain⟨v,j,r⟩:=R.val i d c;exact⟨v,j,k v F H σ (cy.refl _) R r⟩
  .exact e k
def Yp(hc:ST X C B I)(ha:Jl X C sa P)(hb:Jl X C S yb):SS X C (.If B sa S pos) (.ifs I P yb):=PS.imp (YU hc ha hb) λD σ H c=>by
 refine ac λ_ i=>?_;obtain⟨j,H₀,F,l,out,h,R,k⟩:=c;obtain⟨⟨d,fr⟩,h1,h⟩:=bT h;obtain⟨z,e,h⟩:=bT h;obtain⟨f,m,b⟩:=R.jo;apply i;refine⟨_,d,fr,z,h1,e,f,b.step.good,b.full,λF1 g st=>?_⟩;have a:=Step.shrink R.step.good m st
 cases z with
 |true=>
   exact Ec ⟨j,_,_,l,_,h,R.moved a,k.mono a.ff⟩
 |false=>
   exact Ee ⟨j,_,_,l,_,h,R.moved a,k.mono a.ff⟩
def tO{D:Ends}(h0:i≠0)(R:Rl X.K Fz H₀ F H σ ρ)(h1:yF C xe ρ=Y (d,fr,P))(k:sH X.K Fz H₀ F D (.nx (P.set i (Y (d,fr && !im d))))) :
  ∃B,be C xe B=Y (d,fr)/\tE X.K B d fr σ H (λv I=>D.nx (σ.set i (Y v)) I):=by
 refine GD R h1 λv Fm y I h c st r f=>?_;have w :=k
 cases e:fr && !im d with
 |false=>
   rw[e]at w;exact w y I _ (h.trans st.ff) ((c.moved st).zq r)
 |true=>
   rw[e]at w;simp only[ah]at e;obtain⟨S,nd,x,o⟩:=f e.1;have b:=Step.aaI st c.step.good x o;obtain⟨n,l⟩:=c.ow;refine w _ I _ (h.trans b.ff) ((c.moved b).T8 (l.moved b) o nd (λa m=>⟨ur m,R.step.hh.free (x a m)⟩) h0 λj d2 _ q a m1 m2=>?_);obtain⟨s,p,g,_,_⟩:=l.own j d2 q;obtain⟨u,t,_⟩:=g.uQ _ a m1
   simp_all
def A8(h0:i≠0)(B:∀σ H Q,gE X.K C xe σ H Q->te σ H Q):∀D σ H,gS X.K C (.set i xe) D σ H->Dq te (lp i) D σ H:=λD σ H b=>by
 refine ac λ_ c=>?_;obtain⟨j,H₀,F,l,out,h,R,k⟩:=b;obtain⟨⟨d,fr,e⟩,h1,h⟩:=eT h;cases h;obtain⟨a,f,g⟩:=tO h0 R h1 k;apply c;exact B _ _ _ ⟨a,d,fr,f,g⟩
def J0{i:T}{x:aa}(h0:i≠0)(B:X.N.Nodup)(hi:X.N[i]?=Y x)(f:Loc X.env.scope x)(he:SE X C e xe)(hs:ez e (Y (.Name x pos')) pos.line X.env=pure J)
  (hf:X.fn x=U\/X.env.scope.names.lookup x=Y .local):SS X C (.Assign [.Name x pos'] e pos) (.set i xe):=
 PS.imp (DI B hi f he hs hf) (A8 h0 λ_ _ _ h=>h)
end
end M
namespace L2
noncomputable def fH(X:Cx)(scope:nR)(cl:O (aa×aN))(N:O aa)(B:ao)(f:Hp)(C:aN)(ex:O aN):Cx:=
 { X with N:=N,s₀:=B,H₀:=f,env:=compEnvC scope cl C X.env,outer:=X.stack,stack:=X.stack,ex:=ex,fn:=λ_=>J,pn:=[],xe:=λ_ _=>False }
def Nx(X:Cx)(ifs:O a9)(t:TT):Prop:=
 ∀(h_:O (aN×m8))(s:ao)(σ:St)(H:Hp)(Q:cc->Hp->Prop),Inv X h_ σ H s->t σ H Q->
  aG (aC X.prog X.w) X.A (forIn ifs U λc r=>if r=U then do let ok <-isTrue c X.env (eval c X.env);pure (jC ok)else pure (jC r)) (TP X h_ σ Q) X.xe s
def Pf:Nx X [] (λ_ H Q=>Q U H):=λ_ _ _ H _ I h=>wpAny_tests_nil ⟨H,I,h⟩
def Pe(h:PT X c t):Nx X [c] t:=λh_ s σ H Q I a=>wpAny_tests_one (h h_ s σ H Q I a)
noncomputable def ji(nt:T)(caps:O T)(σ:St):St:=bb nt L++caps.map λj=>(σ[j]?).join
def JS(B:TI)(nt:T)(caps:O T)(g:TG)(C:TT)(te:TE):TE:=λσ H Q=>B σ H λj d=>∃e:T->T->O V->Hp->Prop,(∃m,e 0 m [] d)/\∀i m f H,e i m f H->
 (j.stop i H/\Z f<=aJ/\∀p,H p=L->Q (.ref p) (upd H p (.lst f)))\/
 (j.go i H/\Z f<aJ/\∀x k,j.yld i H x k->g x (ji nt caps σ) k λh l=>C h l λb c=>
  if b=U then te h c λy n=>∃a,a<m/\e (i+1) a (f++[y]) n else ∃a,a<m/\e (i+1) a f c)
structure jT(X:Cx)(scope:nR)(tn cn:O aa)(caps:O T):Prop where
 kind:scope.kind=.function
 nocell:∀y∈scope.names,y.2≠.cell
 locs:∀y∈scope.names,y.2=.local->scope.names.lookup y.1=Y .local
 frees:∀y∈scope.names,y.2=.free->X.env.kindOf y.1=Y .cell\/X.env.kindOf y.1=Y .free
 nofree:∀x,scope.names.lookup x=Y .free->(x,eQ)∈scope.names
 caps:caps.map (λj=>X.N[j]?)=cn.map Y
 capk:∀x∈cn,X.env.kindOf x=Y .cell\/X.env.kindOf x=Y .free
 capn:∀x∈cn,scope.names.lookup x=Y .free
theorem vX{env:C8}(x:aa):∀names:O (aa×lH),(names.map λ(n,k)=>if(k == eQ && env.scope.kind == .function && env.kindOf n == Y .cell)then(n,m9)else(n,k)).lookup x =
  (names.lookup x).map λk=>if(k == eQ && env.scope.kind == .function && env.kindOf x == Y .cell)then m9 else k
 |[]=>rfl
 |(n,k)::r=>by
   by_cases a:x=n
   .subst a;simp only[aI,List.lookup_cons_self,eA];split<;>simp
   .have hb:(x == n)=J:=by simpa using a
    rw[dE,hb,<-vX x r,aI];dsimp only;split<;>rw[dE,hb]
def p6(x:aa):(hM scope env).names.lookup x=(scope.names.lookup x).map λk=>if(k == eQ && env.scope.kind == .function && env.kindOf x == Y .cell)then m9 else k:=vX x _
def zx{scope:nR}(hc:∀y∈scope.names,y.2≠m9)(h:(hM scope env).names.lookup x=Y .cell\/(hM scope env).names.lookup x=Y .free):scope.names.lookup x=Y .free:=by
 rw[p6]at h
 cases q:scope.names.lookup x with
 |none=>rw[q]at h;simp at h
 |some k=>
   rw[q]at h;simp only[eA,jL]at h;by_cases hk:k=.free
   .rw[hk]
   .have hb:(k == eQ)=J:=by simpa using hk
    rw[hb]at h
    rcases h with h|h
    .subst h;exact absurd rfl (hc _ (iC q))
    .exact absurd h hk
def rX{scope:nR}(h:scope.names.lookup x=Y .free):(hM scope env).names.lookup x≠Y .local:=by
 rw[p6,h];simp only[eA,ne_eq,jL];split<;>(intro z;cases z)
section
variable{X:Cx}{h_:O (aN×m8)}{σ:St}{H:Hp}
theorem rk{env:C8}:∀(names:O (aa×lH)) (C:O (aa×aN)),(∀y∈names,y.2=.free->∃c,env.cells.lookup y.1=Y c)->(∀n c,C.lookup n=Y c->env.cells.lookup n=Y c)->
  ∃cl:O (aa×aN),(forIn (m:=He) names C λx r=>if(x.2 == eQ)=U then do let a <-cellOf env x.1;pure (jC ((x.1,a)::r))else pure (jC r))=pure cl/\(∀n c,cl.lookup n=Y c->env.cells.lookup n=Y c)/\
   (∀n c,C.lookup n=Y c->∃B,cl.lookup n=Y B)/\∀n,(n,eQ)∈names->∃c,cl.lookup n=Y c
 |[],C,_,h2=>⟨C,W,h2,λn c e=>⟨c,e⟩,λn z=>nomatch z⟩
 |(n,k)::r,C,h1,h2=>by
   by_cases hk:k=.free
   .subst hk;obtain⟨c,hc⟩:=h1 (n,.free) jM W
    have b:cellOf env n=pure c:=by
     unfold cellOf;rw[hc]
    obtain⟨cl,e,f,g,h⟩:=rk r ((n,c)::C) (λy i=>h1 y (jY _ i)) (λm d e=>by
     grind)
    refine⟨cl,?_,f,λm d hd=>?_,λm j=>?_⟩
    .rw[xm];simp only[fc,eu,b,pure_bind];exact e
    .by_cases l:m=n
     .simp_all
     .have:(m == n)=J:=by simpa using l
      exact g m d (by rw[dE,this];exact hd)
    .rcases aA.mp j with z|z
     .simp_all
     .exact h m z
   .have hb:(k == eQ)=J:=by simpa using hk
    obtain⟨cl,e,f,g,h⟩:=rk r C (λy i=>h1 y (jY _ i)) h2;refine⟨cl,?_,f,g,λm j=>?_⟩
    .simp_all
    .rcases aA.mp j with z|z
     .grind
     .exact h m z
def wJ(ok:X.Ok)(S:jT X scope tn f caps):∃cl:O (aa×aN),closureFor scope X.env=pure cl/\(∀n c,cl.lookup n=Y c->X.env.cells.lookup n=Y c)/\∀n,(n,eQ)∈scope.names->∃c,cl.lookup n=Y c:=by
 obtain⟨cl,e,a,_,b⟩:=rk _ [] (λy d hk=>ok.has _ (S.frees y d hk)) (λn c e=>by simp at e);refine⟨cl,?_,a,b⟩;unfold closureFor;rwa[bind_pure]
def Inv.RF{D:aN}(I:Inv X h_ σ H s)(B:td X h_ H D)(hs:X.s₀.heap.objs.size<=D)(new:kj X.prog X.w (upd H D o) s.heap D o):Inv X h_ σ (upd H D o) s:=by
 obtain⟨g,h,hf,_,hc,hp⟩:=B
 have f:∀b a,X.s₀.heap.get? b=Y a->b≠D:=λb a e z=>by
  clear I new g h hf left hc hp; subst z;exact absurd (aS (hl9 e) hs) (bH _)
 refine⟨I.ok,I.os,I.bare,⟨I.base.keep,I.base.slot,λb a e n i=>?_,I.base.there,λb t e=>?_,λb a u e=>?_⟩,I.loc,I.cell,?_,λx c e=>?_,λp d=>?_,λb u e=>?_,I.len⟩
 .rw[cz (f b a e)];exact I.base.free b a e n i
 .rw[cz (gP (I.base.tups b t e) g)];exact I.base.tups b t e
 .rw[cz (gP (I.base.frzs b a u e) g)];exact I.base.frzs b a u e
 .rw[cz (cB h)];exact I.free
 .rw[cz (hc x c e)];exact I.freeC x c e
 .obtain⟨j,k,l,m,r⟩:=I.pin p d;exact⟨j,by rwa[cz (hp p d)],l,m,r⟩
 .by_cases hb:b=D
  .clear I hs g h hf left hc hp f; subst hb;rw[bK]at e;cases e;exact new
  .rw[cz hb]at e;exact(I.hok b u e).mW λ_ q=>q
def qf{iter:a9}{ifs:O a9}(J':T->ao->Prop)
  (turn:∀n s,J' n s->aG (aC prog w) A (kr it) (λr I=>match r with
   |none=>R (.ok .next) I
   |some v=>aG (aC prog w) A (hA target it v) (λ_ B=>aG (aC prog w) A (hW target env v) (λ_ C=>
     aG (aC prog w) A (forIn ifs U λc r=>if r=U then do let ok <-isTrue c env (eval c env);pure (jC ok)else pure (jC r)) (λok S=>
      if ok=U then aG (aC prog w) A (eval elt env) (λx F=>
       aG (aC prog w) A (call (.builtin "list.append") [acc,x]) (λ_ P=>∃m,m<n/\J' m P) (λ_ _=>False) F) (λ_ _=>False) S
      else ∃m,m<n/\J' m S) (λ_ _=>False) C) (λ_ _=>False) B) (λ_ _=>False) I) (λ_ _=>False) s)
  (n:T)(h:J' n s) :
  e9 (aC prog w) A (.compLoop (.ListComp elt [⟨target,iter,ifs,0⟩] scope pos) 0 it acc env) R s:=by
 refine codeAny_loop W J' (λn s i=>?_) n h;apply wpAny_noted;rw[compTurn_list];refine wb9 (mL (wb9 (bO (turn n s i) (λr I a=>?_) λ_ _ j=>j.elim)))
 cases r with
 |none=>exact wu9 a
 |some v=>
   refine wb9 (bO a (λ_ B d=>?_) λ_ _ j=>j.elim);refine wb9 (bO d (λ_ C e=>wb9 (bO e (λok S b=>?_) λ_ _ j=>j.elim)) λ_ _ j=>j.elim)
   cases ok with
   |false=>exact wu9 ⟨W,b⟩
   |true=>
     exact wb9 (wb9 (bO b (λx F f=>wb9 (bO f (λ_ P g=>wu9 (wu9 ⟨W,g⟩)) λ_ _ j=>j.elim)) λ_ _ j=>j.elim))
def qM(nt:T)(g:TG):Prop:=∀x σ H Q,g x σ H Q->g x σ H λa b=>Q a b/\Z a=Z σ/\∀i,nt<=i->a[i]?=σ[i]?
def vK(h:i<nt):qM nt (lp i):=λx σ H Q q=>by
 refine⟨q,by simp,λj a=>?_⟩;rw[bX (λz=>(a7 h (af a (ag z.symm))))]
def wV(nt:T)(g:SJ):Prop:=∀b σ H Q,g b σ H Q->g b σ H λa c=>Q a c/\Z a=Z σ/\∀i,nt<=i->a[i]?=σ[i]?
def Hu:wV nt Iu:=λa σ H Q ⟨e,q⟩=>⟨e,q,W,λ_ _=>W⟩
def Dm(mono:∀x σ H Q I,(∀C F,Q C F->I C F)->t x σ H Q->t x σ H I)(B:∀x σ H Q I,(∀C F,Q C F->I C F)->u x σ H Q->u x σ H I)(ht:qM nt t)(P:wV nt u):wV nt (yw t u):=λj σ H Q a=>by
 obtain⟨v,r,e,q⟩:=a;refine⟨v,r,e,?_⟩;exact mono _ _ _ _ _ (λC F l=>by obtain⟨b,c,s2⟩:=l;exact B _ _ _ _ _ (λd h y=>by obtain⟨f,g,s3⟩:=y;exact⟨f,g.trans c,λi hi=>(s3 i hi).trans (s2 i hi)⟩) (P _ _ _ _ b)) (ht _ _ _ _ q)
def Ht{K:aB}(B:wV nt u):qM nt (L8 K n u):=λx σ H Q c=>by obtain⟨a,b,e,h1,h2,q⟩:=c;exact⟨a,b,e,h1,h2,B _ _ _ _ q⟩
def wC:∀x σ H Q B,(∀f C,Q f C->B f C)->lp i x σ H Q->lp i x σ H B:=λ_ _ _ _ _ h q=>h _ _ q
def Ir:∀x σ H Q B,(∀f C,Q f C->B f C)->Iu x σ H Q->Iu x σ H B:=λ_ _ _ _ _ h q=>⟨q.1,h _ _ q.2⟩
def Er(B:∀x σ H Q C,(∀f F,Q f F->C f F)->t x σ H Q->t x σ H C)(I:∀x σ H Q C,(∀f F,Q f F->C f F)->u x σ H Q->u x σ H C) :
  ∀x σ H Q C,(∀f F,Q f F->C f F)->yw t u x σ H Q->yw t u x σ H C:=λ_ _ _ _ _ h c=>by obtain⟨v,r,e,q⟩:=c;exact⟨v,r,e,B _ _ _ _ _ (λ_ _ a=>I _ _ _ _ _ h a) q⟩
def BE(X:Cx)(h_:O (aN×m8))(σ:St)(Q:VK)(B:ak)(C:aN)(r:Result)(f:ao):Prop:=
 r=.ok .next/\∃D a,B=.ref D/\(∃m,f.heap.Ns C m)/\Inv X h_ σ a f/\td X h_ a C/\Q (.ref D) a
def wH{iter:a9}{ifs:O a9}{cl:O (aa×aN)}
  (hcalm:X.calm=U)(S:jT X scope tn cn caps)(O':∀n c,cl.lookup n=Y c->X.env.cells.lookup n=Y c)(hhas:∀n,(n,eQ)∈scope.names->∃c,cl.lookup n=Y c)
  (hg:∀(cl:O (aa×aN))(B:ao)(c3:Hp)(C:aN)(ex:O aN),PG (fH X scope cl (tn++cn) B c3 C ex) tg g)(touch:qM tn.length g)
  (ht:∀(cl:O (aa×aN))(B:ao)(c3:Hp)(C:aN)(ex:O aN),Nx (fH X scope cl (tn++cn) B c3 C ex) ifs tt)
  (he:∀(cl:O (aa×aN))(B:ao)(c3:Hp)(C:aN)(ex:O aN),PE (fH X scope cl (tn++cn) B c3 C ex) elt te)
  (hi:PIE X h_ σ tg (λJ' H1=>∃e0:T->T->O V->Hp->Prop,(∃m,e0 0 m [] H1)/\∀i m ys H,e0 i m ys H->
   (J'.stop i H/\Z ys<=aJ/\∀p,H p=L->Q (.ref p) (upd H p (.lst ys)))\/
   (J'.go i H/\Z ys<aJ/\∀x H',J'.yld i H x H'->g x (ji tn.length caps σ) H' λσ2 H2=>tt σ2 H2 λb H3=>
    if b=U then te σ2 H3 λy H4=>∃m',m'<m/\e0 (i+1) m' (ys++[y]) H4 else ∃m',m'<m/\e0 (i+1) m' ys H3)) itv B) :
  aG (aC X.prog X.w) X.A (newList []) (λacc s₃=>aG (aC X.prog X.w) X.A (newFunctionEnv scope X.env.globals cl [] X.env.qual L .none (Y X.env)) (λcenv s₄=>
   e9 (aC X.prog X.w) X.A (.compStart (.ListComp elt [⟨tg,iter,ifs,0⟩] scope pos) 0 itv acc { cenv with scope:=hM scope X.env }) (BE X h_ σ Q acc cenv.locals) s₄) E s₃) E B:=by
 refine ac λ_ kq=>?_;obtain⟨it,fp,tnn,J',H2,e,f,T',st2,f2,e0,⟨m0,w0⟩,turn⟩:=hi;subst e;apply kq;refine fh (wpAny_newFunctionEnv S.nocell (by intro y hy;simp at hy) (λh₁ L' t=>?_) S.kind);generalize hH2:B.heap.push { cls:=.type "list",dict:=L,data:=.seq ([]).toArray }=G2 at L' t ⊢;have hC:G2.objs.size=B.heap.objs.size+1:=by rw[<-hH2,jr]
 have hDC:B.heap.objs.size≠G2.objs.size:=by rw[hC];exact ba (jF _)
 have old :=λb o e=>t.extBut b o (by rw[hC];exact ba (oy (hl9 e))) (hp9 _ (hH2▸hp9 _ e));have hacc :=t.extBut _ _ hDC (hp9 _ (hH2▸aT _ W));generalize s:B.heap.objs.size=D at *;generalize hCd:G2.objs.size=C at *;have R:D<C:=by rw[hC];exact jF _
 have hDD :=s;have ltS:∀b o,B.heap.get? b=Y o->b<D:=λb o e=>s▸hl9 e;have fresh:∀a,D<=a->H2 a=L:=λa h=>f.hok.fresh (s▸h);have M:∀b∈fp,b<D:=λb hb=>by obtain⟨o,e,_⟩:=T'.obj 0 _ st2 b hb;exact ltS b o e
 have frL:∀b∈uP X.stack,b<D:=λb hb=>by
  obtain⟨_,o,ho,_⟩:=f.stack.mem hb;exact ltS b o ho
 have clL:∀x c,cl.lookup x=Y c->c<D:=λx c e=>by
  obtain⟨v,q⟩:=f.cell x c (O' x c e);exact s▸q.lt
 let e4 :=fH X scope cl (tn++cn) B H2 C fp
 have okY:e4.Ok:=by
  refine⟨f.ok.mod,S.kind,f.ok.glob,f.ok.blt,?_,λx y c h1 h2=>f.ok.inj x y c (O' x c h1) (O' y c h2),λx hx=>?_,(λx c h=>nomatch h),f.ok.hd,f.ok.frames,.inl rfl,λb hb=>⟨?_,λx c e=>?_⟩,λb o e=>f.bs b o e,?_,λb o e hb=>?_,λb hb z=>?_,f.stack,f.zi⟩
  .exact aE (az (ag hDD) R)
  .have hx' :=hx;exact hhas x (S.nofree x (zx S.nocell hx'))
  .exact ba (cR (M b hb) R)
  .exact(f2 b hb).2.2.2.2.1 x c (O' x c e)
  .exact af f.ok.bsz f.sz
  .rcases(f2 b hb).2.2.2.1 with z|z
   .exact f.ok.noex b o e z
   .exact absurd (aS (aS (hl9 e) f.ok.bsz) z) (bH _)
  .have hb':=f2 b hb
   rcases aA.mp (f.vM b z)with q|q
   .exact hb'.2.1 q
   .exact hb'.2.2.1 q
 have invY:∀(s':ao) (m:aa->ar ak),s'.os=B.os->lI s'.gens->(∀b o,B.heap.get? b=Y o->s'.heap.get? b=Y o)->s'.heap.Ns C m->(∀(i:T) (x:aa) (v:V),(tn++cn)[i]?=Y x->(ji tn.length caps σ)[i]?=Y (Y v)->M9 e4.env.scope x->∃u,RelV v u/\Look e4.env s'.heap m x u)->
   Inv e4 (X.pn++h_) (ji tn.length caps σ) H2 s':=λs' m ho hb hk hn hl=>by
  refine⟨okY,ho,hb,Un.kept hk,⟨m,hn,hl⟩,λx c e=>?_,fresh C (aE R),λx c e=>f.freeC x c (O' x c e),λp hp=>?_,f.hok.kept hk,?_⟩
  .obtain⟨v,q⟩:=f.cell x c (O' x c e);exact⟨v,q.keeps hk⟩
  .obtain⟨q1,q2,q3,q4,q5⟩:=f.pin p (by simpa [e4,fH]using hp);refine⟨hk _ _ q1,q2,?_,λz=>?_,q5⟩
   .exact ba (cR (ltS _ _ q1) R)
   .rcases aA.mp (f.vM p.1 z)with w|w
    .exact q3 w
    .exact q4 w
  .show(ji tn.length caps σ).length=Z (tn++cn);have e:=c8 gh S.caps;simp only[aD]at e;simp[ji,e]
 have loop:∀s₃:ao,s₃={ B with heap:=h₁,toks:=B.toks+Z ([]:O (aa×ak)) }->
   e9 (aC X.prog X.w) X.A (.compLoop (.ListComp elt [⟨tg,iter,ifs,0⟩] scope pos) 0 (.ref it) (.ref D) (compEnvC scope cl C X.env)) (BE X h_ σ Q (.ref D) C) s₃:=by
  rintro s₃ rfl
  have I3:Inv e4 (X.pn++h_) (ji tn.length caps σ) H2 { B with heap:=h₁,toks:=B.toks+Z ([]:O (aa×ak)) }:=by
   refine invY _ _ W f.bare old L' λi x v e1 e2 e3=>?_
   have hi:Z tn<=i:=by
    by_cases hi:Z tn<=i
    .exact hi
    .unfold ji at e2;rw[aR (by simpa using hi),bI]at e2;split at e2<;>cases e2
   unfold ji at e2;rw[aQ (by simpa using hi),ja]at e2;rw[aQ hi]at e1;rw[aV]at e2
   cases hj:caps[i - Z tn]? with
   |none=>rw[hj]at e2;cases e2
   |some j=>
     rw[hj]at e2;have e2':(σ[j]?).join=Y v:=bL e2
     have hσ:σ[j]?=Y (Y v):=by
      cases q:σ[j]? with
      |none=>rw[q]at e2';cases e2'
      | some z=>rw[q]at e2';clear q; cases z with
        |none=>cases e2'
        |some z=>exact c8 Y e2'
     have hN:X.N[j]?=Y x:=by
      have e:=c8 (λl=>l[i - Z tn]?) S.caps;simp only[aV,hj,e1,eA]at e;exact bL e
     have hk:=S.capk x (aY e1);obtain⟨m,hn,hl⟩:=f.loc;obtain⟨u,ru,l⟩:=hl j x v hN hσ (hk.elim (λz=>.inr (.inl z)) λz=>.inr (.inr z));refine⟨u,ru,.inr ?_⟩
     rcases l with⟨k,_⟩|⟨k,c,ec,hcell⟩
     .rw[k]at hk;rcases hk with z|z<;>cases z
     .
      rcases e3 with z|z|z
      .
       exact absurd z (rX (S.capn x (aY e1)))
      .obtain⟨c',I⟩:=okY.has x (.inl z);have ecc :=bL ((O' x c' I).symm.trans ec);rw[ecc]at I;exact⟨.inl z,c,I,hcell.keeps old⟩
      .obtain⟨c',I⟩:=okY.has x (.inr z);have ecc :=bL ((O' x c' I).symm.trans ec);rw[ecc]at I;exact⟨.inr z,c,I,hcell.keeps old⟩
  have pinD:∀{F:St} {H':Hp} {s':ao} {its:O ak} {n:T},Inv e4 (X.pn++h_) F H' s'->H' D=L->s'.heap.get? D=Y { cls:=.type "list",data:=.seq its.toArray n }->
    Inv e4 ((X.pn++h_)++[(D,{ cls:=.type "list",data:=.seq its.toArray n })]) F H' s':=λ{F H' s' its n}I' hn hd=>by
   refine I'.rZ λp hp=>?_
   rcases ax.mp hp with z|z
   .exact I'.pin p (aw _ z)
   .have e:=au.mp z;subst e;exact⟨hd,hn,hDC,λz=>absurd (frL D z) (bH _),(λv z=>nomatch z)⟩
  have fpD:∀{H':Hp},H' D=L->∀b,b=D->td e4 (X.pn++h_) H' b:=λ{H'}hn b hb=>by
   subst hb;refine⟨hn,hDC,λz=>absurd (frL b z) (bH _),.inr (ag s),λx c e z=>?_,λp hp z=>?_⟩
   .have:=clL x c e;rw[z]at this;exact absurd this (bH _)
   .have:=ltS _ _ (f.pin p (by simpa [e4,fH]using hp)).1;rw[z]at this;exact absurd this (bH _)
  have stat:∀{H':Hp}{pl:O (aN×m8)},(∀b∈fp,H' b=L)->(∀p∈pl,p.1=D)->∀b∈fp,td e4 ((X.pn++h_)++pl) H' b:=λ{H' pl}hn hpl b hb=>by
   obtain⟨g0,g1,g2,g3,g4,g5⟩:=f2 b hb;refine⟨hn b hb,?_,λz=>?_,.inl hb,λx c e=>g4 x c (O' x c e),λp hp z=>?_⟩
   .exact ba (cR (M b hb) R)
   .rcases aA.mp (f.vM b z)with w|w
    .exact g1 w
    .exact g2 w
   .have G:p∈(X.pn++h_)++pl:=by simpa [e4,fH]using hp
    rcases ax.mp G with w|w
    .exact g5 p w z
    .have h2:=M b hb;rw[<-z,(hpl p w)]at h2;exact absurd h2 (bH _)
  refine qf (λn s'=>∃(i:T) (ys:O V) (its:O ak) (k:T) (H':Hp),Inv e4 (X.pn++h_) (ji tn.length caps σ) H' s'/\H' D=L/\s'.heap.get? D=Y { cls:=.type "list",data:=.seq its.toArray k }/\df ys its/\
   tnn i s'.heap/\(∀b∈fp,H' b=L)/\e0 i n ys H') ?_ m0 ⟨0,[],[],0,H2,I3,fresh D (aq _),hacc,.nil,T'.keep _ _ _ st2 λb hb o e=>old b o e,λb hb=>(f2 b hb).1,w0⟩
  rintro n s4 ⟨i,ys,its,k,H4,I4,hD4,ho4,rv4,st4,fr4,w4⟩;have I4':=pinD I4 hD4 ho4
  have pl1:∀p∈[((D,{ cls:=.type "list",data:=.seq its.toArray k }):aN×m8)],p.1=D:=λp hp=>by
   rw[au.mp hp]
  rcases turn i n ys H4 w4 with⟨stop,hz,qn⟩|⟨go,hz,step⟩
  .
   refine jf (T'.done e4 W rfl rfl hcalm i _ s4 _ H4 _ I4' (stat fr4 pl1) st4 stop) λr s5 w7=>?_;obtain⟨hr,I5⟩:=w7;subst hr;have hd5:=(I5.pin (D,{ cls:=.type "list",data:=.seq its.toArray k }) (aw _ (aw _ (au.mpr W)))).1;have U' :=I5.n4;have J5 :=f.So U'.os U'.base U'.hok U'.bare λb hb=>⟨(f2 b hb).2.2.2.1,(f2 b hb).2.1,(f2 b hb).2.2.2.2.1,(f2 b hb).2.2.2.2.2⟩
   have up:∀a,D<=a->H4 a=L->td X h_ H4 a:=λa ha hn=>by
    refine⟨hn,?_,λz=>?_,.inr ?_,λx c e z=>?_,λp hp z=>?_⟩
    .have h1:=f.lt;intro z;rw[<-z,s]at h1;exact absurd (aS h1 ha) (bH _)
    .exact f.Y3 (by rw[s];exact ha) z
    .exact af f.sz (by rw[s];exact ha)
    .obtain⟨v,q⟩:=f.cell x c e;have h1:=q.lt;rw[z,s]at h1;exact absurd (aS h1 ha) (bH _)
    .have h1:=ltS _ _ (f.pin p hp).1;rw[z]at h1;exact absurd (aS h1 ha) (bH _)
   have J6:Inv X h_ σ (upd H4 D (.lst ys)) s5:=J5.RF (up D (aq _) hD4) (by have h1:=f.sz;rw[s]at h1;exact h1) ⟨hz,its,k,rv4,hd5⟩;obtain⟨m5,hn5,_⟩:=U'.loc;refine⟨W,D,upd H4 D (.lst ys),W,⟨m5,hn5⟩,J6,?_,qn D hD4⟩;obtain⟨u0,u1,u2,u3,u4,u5⟩:=up C (aE R) U'.free;exact⟨by rw[cz (cB hDC)];exact u0,u1,u2,u3,u4,u5⟩
  .refine jf (T'.item e4 W rfl rfl hcalm i _ s4 _ H4 _ I4' (stat fr4 pl1) st4 go) λr s5 z0=>?_;obtain⟨u,hr,h5⟩:=z0;subst hr;refine jf h5 λ_ s6 z1=>?_;obtain⟨x,H6,I6,r6,y6,st6,fr6⟩:=z1;refine jf (hg cl B H2 C fp _ s6 _ H6 x u _ (I6.pinned (stat fr6 pl1) (T'.obj _ _ st6)) r6 (touch _ _ _ _ (step x H6 y6))) λ_ s7 z7=>?_
   obtain⟨σ7,H7,I7,q7,l7,e7⟩:=z7;have back:∀{H':Hp} {s':ao} {ys':O V} {P:O ak} {k':T} {n':T},Inv e4 (X.pn++h_++nL fp s6.heap) σ7 H' s'->H' D=L->s'.heap.get? D=Y { cls:=.type "list",data:=.seq P.toArray k' }->df ys' P->e0 (i+1) n' ys' H'->
     ∃(i:T) (ys:O V) (its:O ak) (k:T) (H':Hp),Inv e4 _ (ji _ _ σ) H' s'/\H' D=L/\s'.heap.get? D=Y { cls:=.type _,data:=.seq its.toArray k }/\df ys its/\tnn i _/\(∀b∈fp,H' b=L)/\e0 i n' ys H':=
    λ{H' s' ys' P k' n'}I' hd ho rv w=>by
     refine⟨_,_,P,k',H',(I'.n4).weak (by rw[l7]) (λj v hj=>?_),hd,ho,rv,T'.keep _ _ _ st6 λb hb o e=>(I'.pin _ (aw _ (aw _ (oO hb e)))).1,λb hb=>?_,w⟩
     .have hj':Z tn<=j:=by
       by_cases hj':Z tn<=j
       .exact hj'
       .unfold ji at hj;rw[aR (by simpa using hj'),bI]at hj;split at hj<;>cases hj
      rw[e7 j hj'];exact hj
     .obtain⟨o,e,d⟩:=T'.obj _ _ st6 b hb;exact(I'.pin _ (aw _ (aw _ (oO hb e)))).2.1
   have K:∀{F:St}{H':Hp}{s':ao},Inv e4 (((X.pn++h_)++[(D,{ cls:=.type "list",data:=.seq its.toArray k })])++nL fp s6.heap) F H' s'->s'.heap.get? D=Y { cls:=.type _,data:=.seq _ k }/\H' D=L:=λI'=>by
    obtain⟨q1,q2,_⟩:=I'.pin (D,{ cls:=.type _,data:=.seq _ k }) (aw _ (aF _ (aw _ (au.mpr W))));exact⟨q1,q2⟩
   have dropD:∀{F:St}{H':Hp}{s':ao},Inv e4 (((X.pn++h_)++[(D,{ cls:=.type "list",data:=.seq its.toArray k })])++nL fp s6.heap) F H' s'->Inv e4 (X.pn++h_++nL fp _) F H' s':=λI'=>
    I'.rZ λp hp=>I'.pin p (aw _ (by
     rcases ax.mp hp with z|z
     .exact aF _ (aF _ z)
     .exact aw _ z))
   refine jf (ht cl B H2 C fp _ s7 _ H7 _ I7 q7) λb s8 q0=>?_
   obtain⟨H8,I8,q8⟩:=q0;cases b with
   |false=>
     obtain⟨m',hm,w8⟩:=q8;exact⟨m',hm,back (dropD I8) (K I8).2 (K I8).1 rv4 w8⟩
   |true=>
     refine jf (he cl B H2 C fp _ s8 _ H8 _ I8 q8) λv s9 w1=>?_;obtain⟨y,H9,I9,r9,m',hm,w9⟩:=w1;obtain⟨ho9,hD9⟩:=K I9;refine wpAny_list_append_plain (hsz:=aE (az (ag rv4.length.symm) hz)) ⟨k,ho9⟩ λh' hl' hs'=>?_;obtain⟨k',hk'⟩:=hl';have I10:Inv e4 (X.pn++h_++nL fp s6.heap) σ7 H9 { s9 with heap:=h' }:=by
      refine (dropD I9).turned (λb o hb e=>hs'.extBut b o hb e) hD9 hDC (.inr (ag s)) (fpD hD9 D W).2.2.2.2.1 λp hp=>?_;have G:p∈X.pn++h_++nL fp s6.heap:=by simpa [e4,fH]using hp
      rcases ax.mp G with z|z
      .exact ba (ltS _ _ (f.pin p z).1)
      .exact ba (M _ (yj z).1)
     refine⟨m',hm,back (k':=k') I10 hD9 ?_ (rv4.append (.cons r9 .nil)) w9⟩;simpa using hk'
 exact codeAny_compStart_list (loop _ W) (T'.self _ 0 _ _ _ (T'.keep _ _ _ st2 λb hb o e=>old b o e) (loop _ W))
def Po{iter:a9}{ifs:O a9}
  (F:X.calm=U)(S:jT X scope tn cn caps)(hi:PI X tg iter wi)
  (hg:∀(cl:O (aa×aN))(B:ao)(R:Hp)(C:aN)(ex:O aN),PG (fH X scope cl (tn++cn) B R C ex) tg g)(P:qM tn.length g)
  (ht:∀(cl:O (aa×aN))(B:ao)(R:Hp)(C:aN)(ex:O aN),Nx (fH X scope cl (tn++cn) B R C ex) ifs tt)
  (he:∀(cl:O (aa×aN))(B:ao)(R:Hp)(C:aN)(ex:O aN),PE (fH X scope cl (tn++cn) B R C ex) elt te)
  (hs:∀x,ea iter X.env x=pure x):PE X (.ListComp elt [⟨tg,iter,ifs,0⟩] scope pos) (JS wi tn.length caps g tt te):=by
 intro h_ s σ H Q I h;obtain⟨cl,c,h1,h2⟩:=wJ I.ok S;refine G8 W hs c S.kind S.locs (jf (hi h_ s σ H _ I h) λv s1 j=>jf j λitv s2 d=>?_);refine bO (wH F S h1 h2 hg P ht he d) (λk s3 l=>bO l (λi u n=>jc n λr w p=>?_) λ_ _ z=>z) λ_ _ z=>z;clear F S hi hg P ht he hs I h c h1 h2 j d l n; obtain⟨rfl,D,y,rfl,⟨m,t⟩,A,a,q⟩:=p;exact⟨m,t,λE f=>⟨.ref D,y,(A.turned (λb o hb e=>f.extBut b o hb e) a.1 a.2.1 a.2.2.2.1 a.2.2.2.2.1 a.2.2.2.2.2),W,q⟩⟩
def DH{iter:a9}{ifs:O a9}{c3:rC}(hN:X.N.Nodup)(hi':X.N[i]?=Y x)(hx:Loc X.env.scope x)
  (e0:X.calm=U)(S:jT X scope tn cn caps)(hi:PI X tg iter wi)
  (hg:∀(cl:O (aa×aN))(B:ao)(O':Hp)(C:aN)(ex:O aN),PG (fH X scope cl (tn++cn) B O' C ex) tg g)(touch:qM tn.length g)
  (ht:∀(cl:O (aa×aN))(B:ao)(O':Hp)(C:aN)(ex:O aN),Nx (fH X scope cl (tn++cn) B O' C ex) ifs tt)
  (he:∀(cl:O (aa×aN))(B:ao)(O':Hp)(C:aN)(ex:O aN),PE (fH X scope cl (tn++cn) B O' C ex) elt te)
  (hsw:ez (.ListComp elt [⟨tg,iter,ifs,0⟩] scope pos) (Y (.Name x pos')) c3.line X.env=pure U)
  (hs:∀x,ea iter X.env x=pure x)(hf:X.fn x=U\/X.env.scope.names.lookup x=Y .local) :
  PS X (.Assign [.Name x pos'] (.ListComp elt [⟨tg,iter,ifs,0⟩] scope pos) c3) (Dq (JS wi tn.length caps g tt te) (lp i)):=by
 intro h_ s σ H D I h;obtain⟨cl,j,h1,h2⟩:=wJ I.ok S;rw[exec_Assign_Name_used _ _ _ _ hsw];refine wb9 (mL (wb9 ?_));refine wb9 (bO (G8 W hs j S.kind S.locs (jf (hi h_ s σ H _ I h) λv s1 w=>jf w λitv s2 k=>?_)) (λ_ s' y=>wu9 (wu9 y)) λ_ _ e=>e);refine bO (wH (Q:=λx A=>lp i x σ A _) e0 S h1 h2 hg touch ht he k) (λE s3 F=>bO F (λa U' G=>jc G λr K L'=>?_) λ_ _ z=>z) λ_ _ z=>z;clear e0 S hi hg touch ht he hsw hs I h j h1 h2 w k F G; obtain⟨rfl,M,H',rfl,⟨m,P⟩,J',c,q⟩:=L';apply i0;refine ac λ_ e1=>?_;obtain⟨f,es,ep,l,d,n⟩:=id P
 apply e1;have R:Inv X (h_++[(a.locals,f)]) σ H' K:=J'.rZ λp hp=>by
  rcases ax.mp hp with z|z
  .exact J'.pin p (aw _ z)
  .have e:p=(a.locals,f):=by simpa using z
   subst e;exact⟨l,c.1,c.2.1,c.2.2.1,λv z=>by rw[d]at z;cases z⟩
 refine pZ R hN hi' hx (v:=.ref M) W (λV u=>?_) hf;have T':=(u.pin (a.locals,f) (by simp)).1;exact⟨m,⟨f,es,ep,T',d,n⟩,λh' t=>⟨_,H',((u.n4).turned (λb o hb e=>t.extBut b o hb e) c.1 c.2.1 c.2.2.2.1 c.2.2.2.2.1 c.2.2.2.2.2),q⟩⟩
end
end L2
namespace M
open L2
def nQ(K:Fg)(F1:Hp)(J':It)(items:O Dat):Prop:=∀F H,Good F H->cy F1 F->
 (∀(i:T)d,items[i]?=Y d->J'.go i H/\∀x a,J'.yld i H x a->∃b,Step F H b a/\Rep K b d x)/\∀i,Z items<=i->J'.stop i H
noncomputable def wD(x:Iw)(F:Hp):Hp:=match x with
 |.rng _=>λ_=>L
 |_=>F
def BX(h:cy F f):cy (wD x F) f:=by
 unfold wD;split
 .intro a o e;cases e
 .exact h
def gI(K:Fg)(C:Fs)(x:Iw):TI:=λσ H R=>∃b items F,CP C x b=Y items/\Good F H/\oj K F σ b/\∀c F1 a,Step F H F1 a->nQ K (wD x F1) c items->R c a
abbrev SI(X:Cx)(C:Fs)(tg iter:a9)(x:Iw):Prop:=PI X tg iter (gI X.K C x)
def Its(x:aa):It:=⟨λi _=>i<x.cps.size,λi H v a=>a=H/\∃c,x.cps[i]?=Y c/\v=V.str ⟨#[c]⟩,λi _=>x.cps.size<=i⟩
def JK{K:aB}(x:aa)(t:Rv)(it:aN):Turn P w K tg (Its x) [it] it (λi h=>h.IsStrIter it "str_ascii_iterator" x t i) where
 mem:=by simp
 obj:=λi h st b hb=>by
  have e:b=it:=by simpa using hb
  subst e;obtain⟨o,e,c,d⟩:=st;exact⟨o,e,λv z=>by rw[d]at z;cases z⟩
 keep:=λi h F st k=>by
  obtain⟨o,e,c,d⟩:=st;exact⟨o,k it (by simp) o e,c,d⟩
 item:=by
  intro X g j l hc i h_ s σ H E I hf st a;subst g j l;obtain⟨m,n,A,p,q,r⟩:=hf it (by simp);have y:x.cps[i]?=Y (x.cps[i]'a):=br a;refine wpAny_pyNext_ascii_item st y λF f B=>?_;have C:Inv X h_ σ H { s with heap:=F,toks:=s.toks+1 }:=I.turned (λb o hb e=>(B.2 b hb).trans e) m n p q r;obtain⟨o,e,c,d⟩:=id f;exact⟨_,W,BR (s:={ s with heap:=F,toks:=s.toks+1 }) e c d cF ⟨.str ⟨#[x.cps[i]'a]⟩,H,C,⟨_,W⟩,⟨W,_,y,W⟩,f,λb hb=>(hf b hb).1⟩⟩
 done:=by
  intro X g j l hc i h_ s σ H E I hf st a;subst g j l;obtain⟨m,n,A,p,q,r⟩:=hf it (by simp);have u:x.cps.size<=i:=a;exact wpAny_pyNext_ascii_end (I.ok.hd hc) st (iR u) λF D=>⟨W,I.turned (t':=s.toks) (λb o hb e=>D b o hb e) m n p q r⟩
 self:=λ_ _ _ _ _ st h=>wpAny_pyIter_striter_ascii st h
def JJ{K:aB}(x:aa)(t:Rv)(it:aN):Turn P w K tg (Its x) [it] it (λi h=>h.IsStrIter it "str_iterator" x t i) where
 mem:=by simp
 obj:=λi h st b hb=>by
  have e:b=it:=by simpa using hb
  subst e;obtain⟨o,e,c,d⟩:=st;exact⟨o,e,λv z=>by rw[d]at z;cases z⟩
 keep:=λi h F st k=>by
  obtain⟨o,e,c,d⟩:=st;exact⟨o,k it (by simp) o e,c,d⟩
 item:=by
  intro X g j l hc i h_ s σ H E I hf st a;subst g j l;obtain⟨m,n,A,p,q,r⟩:=hf it (by simp);have y:x.cps[i]?=Y (x.cps[i]'a):=br a;refine wpAny_pyNext_wide_item st y λF f B=>?_;have C:Inv X h_ σ H { s with heap:=F,toks:=s.toks+1 }:=I.turned (λb o hb e=>(B.2 b hb).trans e) m n p q r;obtain⟨o,e,c,d⟩:=id f;exact⟨_,W,BR (s:={ s with heap:=F,toks:=s.toks+1 }) e c d cF ⟨.str ⟨#[x.cps[i]'a]⟩,H,C,⟨_,W⟩,⟨W,_,y,W⟩,f,λb hb=>(hf b hb).1⟩⟩
 done:=by
  intro X g j l hc i h_ s σ H E I hf st a;subst g j l;obtain⟨m,n,A,p,q,r⟩:=hf it (by simp);have u:x.cps.size<=i:=a;exact wpAny_pyNext_wide_end (I.ok.hd hc) st (iR u) λF D=>⟨W,I.turned (t':=s.toks) (λb o hb e=>D b o hb e) m n p q r⟩
 self:=λ_ _ _ _ _ st h=>wpAny_pyIter_striter_wide st h
def abF(tl:TE):TI:=λσ H R=>tl σ H λv a=>∃x,v=.str x/\R (Its x) a
def KL(hl:PE X l tl):PI X tg l (abF tl):=by
 intro h_ s σ H R I h;refine jf (hl h_ s σ H _ I h) λv s1 g=>?_;obtain⟨y,c,a,d,f⟩:=g;obtain⟨x,rfl,q⟩:=f;obtain⟨t,rfl⟩:=d
 have fin:∀b∈[s1.heap.objs.size],td X h_ c b:=λb hb=>by
  have e:b=s1.heap.objs.size:=by simpa using hb
  subst e;exact a.IC (aq _) (a.hok.fresh (aq _))
 cases ha:x.cps.all (·< 128)with
 |true=>exact wpAny_pyIter_ascii ha ⟨_,_,_,_,c,W,a.kept λb o e=>hp9 _ e,JK x t _,⟨_,aT _ W,W,W⟩,fin,q⟩
 |false=>exact wpAny_pyIter_wide ha ⟨_,_,_,_,c,W,a.kept λb o e=>hp9 _ e,JJ x t _,⟨_,aT _ W,W,W⟩,fin,q⟩
def BK{K:Fg}{F1:Hp}:nQ K F1 (Its x) (x.cps.toList.map λc=>Dat.str ⟨#[c]⟩):=λF H g s=>by
 refine⟨λi d hd=>?_,λi hi=>(by simpa using hi:x.cps.size<=i)⟩;rw[aV]at hd;obtain⟨c,hc,rfl⟩:=eT hd;have a:x.cps[i]?=Y c:=by simp_all
 refine⟨(bC.mp a).1,λv f y=>?_⟩;obtain⟨rfl,b,e,rfl⟩:=y;rw[a]at e;cases e;exact⟨F,Step.refl g,W⟩
section
variable{iter:a9}
def PI.imp(h:PI X tg iter w)(f:∀σ H R,B σ H R->w σ H R):PI X tg iter B:=λh_ s σ H R I q=>h h_ s σ H R I (f _ _ _ q)
def PI.or(h:PI X tg iter w)(f:PI X tg iter B):PI X tg iter (λσ H R=>w σ H R\/B σ H R):=λh_ s σ H R I q=>by
 rcases q with q|q
 .exact h h_ s σ H R I q
 .exact f h_ s σ H R I q
def t9{K:Fg}{F1:Hp}(h:nW K F1 a vs)(r:de K F1 ds vs):nQ K F1 (Itl K a) ds:=λF H g s=>by
 have b:=g.sub.seq (s.seq h);refine⟨λi d hd=>?_,λi hi=>⟨vs,b,by rwa[r.length]⟩⟩;obtain⟨v,c,e⟩:=r.get hd;refine⟨⟨vs,v,b,c⟩,λx f y=>?_⟩;obtain⟨rfl,y⟩:=y;have:=y vs b;rw[c]at this;clear c b y; cases this;exact⟨F,Step.refl g,e.mono s⟩
def BJ{K:Fg}{F1:Hp}(h:Tq K F1 a vs)(r:de K F1 ds vs):nQ K F1 (Itt K a) ds:=λF H g s=>by
 have b:=((h.mono s).mono g.sub).sq;refine⟨λi d hd=>?_,λi hi=>⟨vs,b,by rwa[r.length]⟩⟩;obtain⟨v,c,e⟩:=r.get hd;refine⟨⟨vs,v,b,c⟩,λx f y=>?_⟩;obtain⟨rfl,y⟩:=y;have:=y vs b;rw[c]at this;clear c b y; cases this;exact⟨F,Step.refl g,e.mono s⟩
def TZ(h:SE X C e xe):SI X C tg e (.itv xe):=PI.imp (PI.or (PI.or (zz h) (KJ h)) (KL h)) λσ H R i=>by
 refine ac λ_ j=>?_;obtain⟨l,items,F,hi,g,f,k⟩:=i;obtain⟨⟨d,fr⟩,h1,h2⟩:=bT hi
 apply j;clear j hi; cases d with
 |lst m=>
   cases h2;refine .inl (.inl ⟨l,_,fr,h1,F,g,f,λv F1 b st r _=>?_⟩);obtain⟨a,vs,rfl,c,r⟩:=r;exact⟨a,W,⟨vs,st.good.sub.seq c⟩,k _ F1 b st (t9 c r)⟩
 |tup m=>
   cases h2;refine .inl (.inr ⟨l,_,fr,h1,F,g,f,λv F1 b st r _=>?_⟩);obtain⟨a,vs,rfl,c,r⟩:=r;exact⟨a,W,⟨vs,(c.mono st.good.sub).sq⟩,k _ F1 b st (BJ c r)⟩
 |str x=>
   cases h2;refine .inr ⟨l,_,fr,h1,F,g,f,λv F1 b st r _=>?_⟩;cases r;exact⟨x,W,k _ F1 b st BK⟩
 |_=>cases h2
def LF{K:Fg}{F1:Hp}{lo:cx}:nQ K F1 (Itr lo n) ((aX n).map λk:T=>Dat.int (lo+k)):=λF H g s=>by
 refine⟨λi d hd=>?_,λi hi=>(by simpa using hi:n<=i)⟩;rw[aV]at hd
 have hi:i<n:=by
  by_cases hi:i<n
  .exact hi
  simp_all
 rw[ai (by simpa using hi)]at hd;simp only[Jd,eA,jL]at hd;subst hd;refine⟨hi,λx a y=>?_⟩;obtain⟨rfl,rfl⟩:=y;exact⟨F,Step.refl g,W⟩
set_option tactic.hygienic true in
def OL(P:Gl X "range")(B:X.mg "range"=L)(ha:SA X C [a] [I])(hs:aP [a] X.env=[(J,eval a X.env)]):SI X C tg (.Call (.Name "range" p) [a] [] pos) (.rng [I]):=
 PI.imp (HP P B ha hs) λσ H R c=>by
  obtain⟨i,items,F,hi,g,d,k⟩:=c;obtain⟨l,h1,h2⟩:=bT hi;refine⟨i,l,h1,F,g,d,λvs F1 e st r=>?_⟩;unfold O6 at h2;split at h2
  .rename_i j;split at h2
   .rename_i f;cases h2;obtain⟨v,w,rfl,h,b⟩:=r;cases h;cases b;refine⟨j,W,by omega,gv f.1 cF,k _ F1 e st ?_⟩;have:=LF (K:=X.K) (F1:=wD (.rng [I]) F1) (lo:=0) (n:=j.toNat);simpa using this
   .cases h2
  .cases h2
end
def HW(h:sk f (d::ds)=Y B):∃o r,f d=Y o/\sk f ds=Y r/\B=(match o with|some y=>(y.1::r.1,(y.2 || im y.1) && r.2)|none=>r):=by
 obtain⟨o,h1,h⟩:=bT h;obtain⟨r,h2,h⟩:=eT h;exact⟨o,r,h1,h2,by cases o<;>exact h.symm⟩
def Xl(K:Fg)(nt:T)(one:cc)(g:TG):Prop:=∀F H σ c d x a Q,Good F H->oj K F σ c->nt<=Z σ->Z σ=Z c->Rep K F d x->GV nt one d c=Y a->(∀b,oj K F b a->Q b H)->g x σ H Q
def Bh{K:Fg}{σ:St}{ρ:gC}(hl:Z σ=Z ρ)(R:oj K F σ ρ)(r:Rep K F d v):oj K F (σ.set i (Y v)) (ρ.set i (Y d)):=λj b q=>by
 rw[nZ]at q ⊢;by_cases a:i=j
 .simp_all
 .rw[cb a]at q ⊢;exact R j b q
def Od{K:Fg}:Xl K nt U (lp 0):=λF H σ c d x b Q g R a hl r hb k=>by
 simp only[GV,jL]at hb;subst hb;exact k _ (Bh hl R r)
def IJ{K:Fg}(R:oj K F σ ρ):oj K F (ji nt caps σ) (ki nt caps ρ):=λi d q=>by
 unfold ki at q;unfold ji;by_cases hi:i<nt
 .rw[aR (by simpa using hi),bI,a5 hi]at q;cases q
 .rw[aQ (by simpa using hi),ja,aV]at q;rw[aQ (by simpa using hi),ja]
  cases b:caps[i - nt]? with
  |none=>rw[b]at q;cases q
  |some j=>
    rw[b]at q;have a:(ρ[j]?).join=Y d:=bL q
    have c:ρ[j]?=Y (Y d):=by
     cases z:ρ[j]? with
     |none=>rw[z]at a;cases a
     |some o=>rw[z]at a;exact c8 Y a
    obtain⟨v,e,f⟩:=R j d c
    simp_all
def XW(K:Fg)(C:Fs)(xs:O Ex):TT:=λσ H Q=>∃a b,B5 C xs a=Y b/\tT K a b σ H Q
section
variable{iter:a9}
def Oj:Nx f [] (XW f.K C []):=λh_ s σ H Q I a=>by
 refine ac λ_ c=>?_;obtain⟨d,b,h,F,g,R,k⟩:=a;cases h;apply c;exact Pf h_ s σ H Q I (k F H (Step.refl g))
def Oi(h:ST B C c xe):Nx B [c] (XW B.K C [xe]):=λh_ s σ H Q I a=>by
 refine ac λ_ i=>?_;obtain⟨j,b,hb,F,g,R,k⟩:=a;apply i;apply Pe h h_ s σ H Q I;simp only[B5]at hb;obtain⟨⟨d,fr⟩,h1,hb⟩:=bT hb;obtain⟨z,e,hb⟩:=bT hb;refine⟨j,d,fr,z,h1,e,F,g,R,λF1 f st=>?_⟩
 grind
def yJ{K:Fg}(O':Xl K nt one g)(c3:∀ρ items,CP C it ρ=Y items->True) :
  ∀σ H Q,gE K C (.comp nt one caps it xs xe) σ H Q->JS (gI K C it) nt caps g (XW K C xs) (gE K C xe) σ H Q:=λσ H Q z3=>by
 refine ac λ_ S=>?_;obtain⟨ρ,d,fr,h,F,g0,R,k⟩:=z3;obtain⟨items,h1,h⟩:=bT h;apply S;split at h
 .rename_i hz;refine ac λ_ S=>?_;obtain⟨⟨all,T'⟩,h2,h⟩:=eT h;cases h;apply S;refine⟨ρ,_,F,h1,g0,R,λJ' F1 U' j ok=>?_⟩;refine⟨λi m ys H'=>∃F' r u dr w,Step F1 U' F' H'/\sk (pz C nt _ (ki nt _ ρ) xs xe) (items.drop i)=Y (dr,w)/\all=r++dr/\T'=(u && w)/\de K F' r ys/\(u=U->fU K U' H' r ys)/\m=Z items - i/\i<=Z items/\Z r<=i,⟨_,F1,[],U,_,T',Step.refl j.good,h2,W,W,W,λ_=>.nil,W,aU _,aq _⟩,?_⟩;rintro i m ys H' ⟨F',r,u,dr,w,st,D,ha,n,E,L',rfl,hi,y⟩;have V:Z ys<=1000000:=by rw[E.length];exact af y (af hi hz)
  obtain⟨M,Y2⟩:=ok F' H' st.good (BX st.ff);by_cases a:i<Z items
  .obtain⟨go,yl⟩:=M i _ (ai a);refine .inr ⟨go,by exact az V cF,λx H2 y2=>?_⟩;obtain⟨N,c,r2⟩:=yl x H2 y2;rw[fj a]at D;obtain⟨o,⟨G,I⟩,h3,e0,h5⟩:=HW D;obtain⟨s,h6,h3⟩:=bT h3;obtain⟨b,h7,h3⟩:=bT h3;refine O' N H2 _ _ _ x s _ c.good ((IJ R).mono ((j.ff.trans st.ff).trans c.ff)) (by simp[ji]) (by simp[ji,ki]) r2 h6 λσ1 A=>?_;refine⟨s,b,h7,N,c.good,A,λX H3 f=>?_⟩
   clear O' R j r2 h6 h7; cases b with
   |true=>
     refine ac λ_ S=>?_;obtain⟨⟨l,t⟩,h8,h3⟩:=eT h3;cases h3;apply S;refine⟨s,l,t,h8,X,f.good,A.mono f.ff,λv F4 H4 q e1 f4=>?_⟩;have AX:=((st.trans c).trans f).trans q;have e5:dr=l::G/\w=((t || im l) && I):=by grind
     refine⟨_,lQ (ws a) (wt (aE a)),F4,_,_,G,I,AX,e0,by rw[ha,e5.1];simp,by rw[n,e5.2,RC],(E.mono ((c.ff.trans f.ff).trans q.ff)).append (.one e1),λz=>?_,W,a,by simp;omega⟩;simp only[ah,pT]at z;have B:=c.hh.trans f.hh;apply fU.snoc (st.hh.trans B) q.hh ((L' z.1).mono B)
     rcases z.2 with P|P
     .exact f4 P
     .exact .lP q.good P e1
   |false=>
     cases h3;have e5:dr=G/\w=I:=by simp_all
     exact⟨_,lQ (ws a) (wt (aE a)),X,r,u,G,I,(st.trans c).trans f,e0,by rw[ha,e5.1],by rw[n,e5.2],E.mono (c.ff.trans f.ff),λz=>(L' z).mono (c.hh.trans f.hh),W,a,du y⟩
  .have e :=aH hi (cj a);subst e;refine .inl ⟨Y2 _ (aq _),qv V,λp hp=>?_⟩;rw[uW]at D;cases D;rw[aL]at ha;rw[ip]at n;subst ha n;exact k _ _ _ ((j.trans st).trans (Step.alloc st.good hp)) ⟨p,ys,W,.inl (.inl bK),(E.mono (cy.upd (o:=.lst ys) (st.good.sub.free hp)))⟩ λz=>.lst (j.hh.trans st.hh) hp ((L' z).back (F:=F) j.hh)
 .cases h
end
def qd{K:Fg}(h:qV d=Y k)(r:Rep K F d v):v=kV k:=by
 cases d with
 |int i=>cases h;exact r
 |str x=>cases h;exact r
 |_=>cases h
set_option tactic.hygienic true
theorem qu{K:Fg}:∀{ds:O Dat}{B:O (Key×V)},iZ k (B.map (·.1)) ds=Y d->de K F ds (B.map (·.2))->∃v,pY B k=Y v/\Rep K F d v
 |[],[],h,_=>by cases h
 |[],_::_,h,_=>by cases h
 |_::_,[],h,_=>by cases h
 |e::ds,p::B,h,r=>by
   obtain⟨v,w,q,a,b⟩:=r;cases q;simp only[aI,iZ]at h;split at h
   .rename_i z;cases h;exact⟨_,AR z,a⟩
   .rename_i z;obtain⟨v,c,f⟩:=qu h b;exact⟨v,(vJ z).trans c,f⟩
theorem t6{K:Fg}:∀{ds:O Dat}{f:O (Key×V)},iZ k (f.map (·.1)) ds=L->de K F ds (f.map (·.2))->pY f k=L
 |_,[],_,_=>rfl
 |[],p::f,_,r=>by cases r
 |e::ds,p::f,h,r=>by
   obtain⟨v,w,q,b,a⟩:=r;cases q;simp only[aI,iZ]at h;split at h
   .cases h
   .rename_i z;exact(vJ z).trans (t6 h a)
set_option tactic.hygienic false
section
variable{X:Cx}{C:Fs}{e:a9}{σ:St}{F H:Hp}
def GY{K:Fg}(r:de K F ds vs)(h:vp ds i=Y d):∃v,vp vs i=Y v/\Rep K F d v:=by
 unfold vp at h ⊢;rw[r.length];obtain⟨j,h1,h2⟩:=bT h;obtain⟨v,b,a⟩:=r.get h2;exact⟨v,by rwa[h1],a⟩
set_option tactic.hygienic true in
def abz(O':X.A.units+1<eE):Xq X (gB X.K λx y=>(Az x y).map λd=>(d,J)):=by
 intro value slice h_ s σ H x y v u Q I f j h hs;refine ac λ_ e=>?_;obtain⟨R,n,d,fr,h,F,g,l,m,k⟩:=h;obtain⟨S,h1,h2⟩:=eT h;clear h; obtain⟨rfl,rfl⟩:S=d/\J=fr:=by cases h2;exact⟨W,W⟩
 apply e;by_cases b:∃P G,R=.dct P G
 .refine ac λ_ e=>?_;obtain⟨P,G,rfl⟩:=b;have o:(qV n).bind (λk=>iZ k P G)=Y S:=by cases n<;>exact h1
  obtain⟨V,hk,hl⟩:=bT o;clear o; obtain⟨a,k_,rfl,q,rfl,B⟩:=l;obtain⟨w,M,N⟩:=qu hl B;obtain rfl:=qd hk m;cases f;apply e;have dg:uh H a (kV V) (Y w):=by rw[<-M];exact uh.k (g.sub _ _ q)
  exact NI (uD I dg) wZ.lookup (yH I dg j λJ' s' I' D=>⟨w,H,I',D,k _ F H (Step.refl g) N bx⟩) hs
 cases R<;>first|exact absurd ⟨_,_,W⟩ b|skip
 all_goals cases n<;>simp only[Az,reduceCtorEq]at h1
 .
  split at h1
  .rename_i z i E;clear e h2 b; obtain⟨c,h3,rfl⟩:=eT h1;exact V3 _ _ h_ s σ H x y v u Q I f j ⟨z,i,c,l,m,E,h3,k _ F H (Step.refl g) W bx⟩ hs
  .cases h1
 .rename_i G i;obtain⟨p,vs,rfl,t,r⟩:=l;obtain⟨w,M,N⟩:=GY r h1;exact V1 _ _ h_ s σ H _ y v u Q I f j ⟨p,vs,i,w,W,m,(t.mono g.sub).sq,M,k _ F H (Step.refl g) N bx⟩ hs
 .rename_i G i;obtain⟨p,vs,rfl,t,r⟩:=l;obtain⟨w,M,N⟩:=GY r h1;exact vf _ _ h_ s σ H _ y v u Q I f j ⟨p,vs,i,w,W,m,g.sub.seq t,M,k _ F H (Step.refl g) N bx⟩ hs
def gO(K:Fg)(C:Fs)(x:ar Ex):TO:=λσ H Q=>∃a o F,Z4 C a x=Y o/\Good F H/\oj K F σ a/\∀c b,Step F H c b->Q o b
abbrev SO(X:Cx)(C:Fs)(e:ar a9)(x:ar Ex):Prop:=PO X e (gO X.K C x)
def PO.imp{e:ar a9}{t t':TO}(h:PO X e t)(f:∀σ H Q,t' σ H Q->t σ H Q):PO X e t':=λh_ s σ H Q I q=>h h_ s σ H Q I (f _ _ _ q)
def OC:SO X C L L:=PO.imp Pl λσ H Q a=>by
 obtain⟨b,o,F,ho,g,R,k⟩:=a;cases ho;exact k F H (Step.refl g)
def OB(h:SE X C e f):SO X C (Y e) (Y f):=PO.imp (Pk h) λσ H Q a=>by
 obtain⟨c,o,F,ho,g,R,k⟩:=a;obtain⟨⟨d,fr⟩,h1,h2⟩:=bT ho
 clear ho; cases d with
 |int i=>
   cases h2;exact⟨c,_,fr,h1,F,g,R,λv F1 b st r _=>⟨i,r,k F1 b st⟩⟩
 |_=>cases h2
def gSl(K:Fg):V->ar cx->ar cx->Hp->VK->Prop:=λx lo hi H Q=>∃b d fr F,Jf b lo hi=Y (d,fr)/\Good F H/\Rep K F b x/\∀v c a,Step F H c a->Rep K c d v->(fr=U->hV K H a d v)->Q v a
def zX{K:Fg}(lo hi:ar cx)(r:de K F ds vs):de K F (cutD ds lo hi) (EB vs lo hi):=by
 unfold cutD EB;rw[<-r.length];exact(r.drop _).take _
def sG{s:ao}{sl:aN}{lo:ar cx}(ht:NL s.heap t items)(hs:s.heap.IsSliceOf sl I P .none)(pl:tG I lo)(R:tG P hi)
  (B:HT.jJ items.size 0 lo=0/\HT.jJ items.size items.size hi=items.size)
  (h:Q (.ref t) s):aG (aC prog w) A (g8 (.ref t) (.ref sl)) Q E s:=by
 obtain⟨os,b,c,f⟩:=id hs;unfold g8
 try with_reducible apply cL
 first|refine wb9 _|skip
 refine wb9 (jn ht.typeIs cF ?_)
 refine wb9 (dS ht.typeIs dH
  (cV dH ht.typeIs hO ?_ (ih _ _)))
 show aG _ _ (kX _ >>= _) _ _ s;refine wb9 (tupleItemsOf_ ht ?_);refine wb9 (jU ⟨os,b,c⟩ ?_);refine wb9 (HT.n5 hs pl R ?_)
 have a:((((HT.jJ items.size 0 lo):cx) == 0 && (1:cx) == 1 && (HT.jJ items.size items.size hi - HT.jJ items.size 0 lo) == items.size)=U):=by
  rw[B.1,B.2];simp
 show aG _ _ (if(((HT.jJ _ 0 lo):cx) == 0 && (1) == 1 && (HT.jJ _ _ hi - HT.jJ _ 0 lo) == items.size)=U then _ else _) _ _ s;rw[a5 a];apply wb9;exact wb9 (jU ht.typeIs (wu9 (wb9 (kJ (wu9 ⟨_,W,wu9 h⟩)))))
set_option tactic.hygienic true
def aaX:SlR X (gSl X.K):=by
 intro h_ s σ H x v w y lo hi sl Q I c hs pl f h;obtain⟨R,d,fr,F,h,g,m,k⟩:=h
 cases R with
 |lst E=>
   cases h;obtain⟨p,vs,rfl,t,r⟩:=m;refine OH h_ s σ H _ v w y lo hi sl Q I c hs pl f ⟨p,vs,W,g.sub.seq t,λq b=>?_⟩;exact k _ _ _ (Step.alloc g b) ⟨q,_,W,.inl (.inl bK),((zX lo hi r).mono (cy.upd (o:=.lst _) (g.sub.free b)))⟩ λz=>.lst (cy.refl _) b (.lP g z (zX lo hi r))
 |str z=>
   simp only[Jf]at h;split at h
   .rename_i A;cases h;rw[m]at c;obtain⟨t,rfl⟩:=c;obtain⟨o,ho,hc,hd⟩:=hs;refine⟨_,_,PySem.F.slot_str_getitem.lookup,k9 ..,?_⟩;have fin:∀M P,EP X h_ σ Q (.str _ M) _:=λM P=>⟨.str _,H,I.tok P,⟨M,W⟩,k _ F H (Step.refl g) W bx⟩
    have a:=af (AF z lo hi) A
    clear I g A k; cases pl with
    |none=>
      cases f with
      |none=>exact kO (l:=L) (u:=L) (st:=L) ⟨o,ho,hc,hd⟩ W (rB ⟨a,fin⟩)
      |int j n=>exact kO (l:=L) (u:=Y (j,n)) (st:=L) ⟨o,ho,hc,hd⟩ W (rB ⟨a,fin⟩)
    |int i B=>
      cases f with
      |none=>exact kO (l:=Y (i,B)) (u:=L) (st:=L) ⟨o,ho,hc,hd⟩ W (rB ⟨a,fin⟩)
      |int j n=>exact kO (l:=Y (i,B)) (u:=Y (j,n)) (st:=L) ⟨o,ho,hc,hd⟩ W (rB ⟨a,fin⟩)
   .cases h
 |tup E=>
   cases h;obtain⟨p,vs,rfl,t,r⟩:=m;by_cases D:HT.jJ E.length 0 lo=0/\HT.jJ E.length E.length hi=Z E
   .have e:cutD E lo hi=E:=by
     unfold cutD
     simp_all
    rw[e]at k;cases c;obtain⟨N,G,ht,A⟩:=I.tuple (t.mono g.sub).sq;have hlen:N.toArray.size=Z E:=by rw[bF,<-G.length,r.length]
    exact⟨_,_,dH.lookup,ht.typeIs,sG ht hs pl f (by rwa[hlen]) ⟨.ref p,H,I,W,k _ F H (Step.refl g) ⟨p,vs,W,t,r⟩ bx⟩⟩
   .exact TX h_ s σ H _ v w y lo hi sl Q I c hs pl f ⟨p,vs,W,(t.mono g.sub).sq,by rwa[r.length],λq b=>k _ _ _ (Step.alloc g b) ⟨q,_,W,.inl bK,(zX lo hi r).mono (cy.upd (g.sub.free b))⟩ bx⟩
 |_=>cases h
def Yy{lo:ar a9}(ha:SE X C a B)(hl:SO X C lo I)(hh:SO X C hi P):SE X C (.Subscript a (.Slice lo hi L S) pos) (.sl B I P):=
 PE.imp (KS aaX ha hl hh) λσ H Q j=>by
  refine ac λ_ e=>?_;obtain⟨y,d,fr,h,F,g,R,k⟩:=j;obtain⟨⟨A,m⟩,h1,h⟩:=bT h;obtain⟨l,h2,h⟩:=bT h;obtain⟨u,h3,h⟩:=bT h;apply e;exact⟨y,A,m,h1,F,g,R,λv F1 t b n _=>⟨y,l,F1,h2,b.good,R.mono b.ff,λo E c=>⟨y,u,o,h3,c.good,R.mono (b.ff.trans c.ff),λp x f=>⟨A,d,fr,p,h,f.good,n.mono (c.ff.trans f.ff),λw q D i r s=>k w q D (((b.trans c).trans f).trans i) r λz=>(s z).back (F:=F) ((b.hh.trans c.hh).trans f.hh)⟩⟩⟩⟩
def U1(B:X.A.units+20<eE):lu X (dk .NotEq) (gB X.K (ue .ne)):=λh_ s σ H x y v u Q I c f a=>by
 refine ac λ_ e=>?_;obtain⟨m,i,d,fr,h,F,g,j,l,k⟩:=a;obtain⟨b,hd,rfl,rfl⟩:=lZ h;apply e;simp only[kh]at hd;split at hd
 .rename_i hs;clear e h; cases hd;simp only[ah]at hs;exact(wG I g 20 _ m i B hs.1 hs.2 j l c f).2.2 _ _ _ _ ⟨.bl _,H,I,W,k _ F H (Step.refl g) W bx⟩
 .cases hd
set_option tactic.hygienic false
def cis{K:Fg}(a:Rep K F f x)(hd:cIs b f c=Y r):c=.non/\r=bif b then decide (x=.non)else !decide (x=.non):=by
 cases c with
 |non=>
   refine⟨W,?_⟩
   cases f with
   |any=>cases hd
   |non=>cases a;cases hd;cases b<;>rfl
   |_=>
     rw[c4 (λe=>by cases e;first|(cases a;done)|(obtain⟨p,vs,e,_⟩:=a;cases e))];cases hd;cases b<;>rfl
 |_=>cases hd
def K1:lu X (dk .IsNot) (gB X.K (ue .nisn)):=lu.imp Px λx y H Q i=>by
 refine ac λ_ j=>?_;obtain⟨l,f,d,fr,h,F,g,a,c,k⟩:=i;obtain⟨b,hd,rfl,rfl⟩:=lZ h;clear h; obtain⟨rfl,rfl⟩:=cis a hd;apply j;exact⟨c,k _ F H (Step.refl g) W bx⟩
end
end M
namespace L2
def sZ(tp:cc)(h:bJ)(it l:aN)(i:T):Prop:=match tp with
 |true=>h.IsTupleIter it l i
 |false=>h.IsListIter it l i
def rn(tp:cc)(h:bJ)(l:aN)(xs:c7 ak):Prop:=match tp with
 |true=>h.IsTuple l xs
 |false=>h.IsList l xs
def sZ.keep{f:bJ}(y:sZ tp h it l i)(k:∀o,h.get? it=Y o->f.get? it=Y o):sZ tp f it l i:=by
 cases tp<;>exact(by obtain⟨o,e,r⟩:=y;exact⟨o,k o e,r⟩)
def rn.keep{f:bJ}(y:rn tp h l xs)(k:∀o,h.get? l=Y o->f.get? l=Y o):rn tp f l xs:=by
 cases tp<;>exact(by obtain⟨o,e,r⟩:=y;exact⟨o,k o e,r⟩)
def sZ.obj(y:sZ tp h it l i):∃o,h.get? it=Y o/\o.cls=.type (if tp then "tuple_iterator" else "list_iterator")/\o.data=.fields #[.ref l,.int i 0]:=by
 cases tp<;>exact y
def rn.obj(y:rn tp h l xs):∃o,h.get? l=Y o/\o.cls=.type (if tp then "tuple" else "list")/\∃n,o.data=.seq xs n:=by
 cases tp<;>exact y
section
open Builtin
variable{A:bP}{s:ao}
def K9(B:s.heap.IsTupleIter it q i)(I:s.heap.IsTuple q xs)(C:xs[i]?=Y v)
  (k:∀F,F.IsTupleIter it q (i+1)->dJ it s.heap F->Q v { s with heap:=F }):aG (aC prog w) A (iQ (.ref it)) Q E s:=by
 refine ac λ_ j=>?_;obtain⟨f,b,e,a⟩:=id B;obtain⟨g,c,_,h,d⟩:=I;apply j;refine wb9 (dS B.typeIs gG (cV gG B.typeIs rG ?_ (qQ _)));show aG (aC _ w) _ (field _ 0 >>= _) _ _ s;refine wb9 (dA b a W ?_);refine wb9 (dA b a W ?_);refine wb9 (dW c d ?_);simp only[uI,C];refine wb9 (wpAny_setField b a (by simp) (wu9 ⟨v,W,wu9 (k _ ⟨_,ei _ b (Obj.isFreed_of_fields (j3 a _)),(Obj.cls_mapFields ..).trans e,?_⟩ (o7 ..))⟩));rw[j3 a];simp[rawInt]
def PN(P:A.handled=L)(B:s.heap.IsTupleIter it q i)(C:s.heap.IsTuple q xs)(F:xs[i]?=L)
  (k:∀I e,E2 it s.heap I->(∃o,I.get? e=Y o/\o.cls=.type "StopIteration")->E (.ref e) { s with heap:=I }):aG (aC prog w) A (iQ (.ref it)) Q E s:=by
 refine ac λ_ l=>?_;obtain⟨f,a,g,b⟩:=id B;obtain⟨h,c,_,j,d⟩:=C;apply l;refine wb9 (dS B.typeIs gG (cV gG B.typeIs rG ?_ (qQ _)));show aG (aC _ w) _ (field _ 0 >>= _) _ _ s;refine wb9 (dA a b W ?_);refine wb9 (dA a b W ?_);refine wb9 (dW c d ?_);simp only[uI,F];refine wb9 (kJ (wb9 (wpAny_setField a b (by simp) ?_)));apply wb9;refine wb9 (fh (wb9 (Nz (by first|rfl|(rfl)) (fh ?_ (by size_fits)))) (by size_fits));refine wb9 (wpAny_handled ?_)
 first|rw[P]|rw[P]
 exact wb9 (wu9 (wpAny_throw (k _ _ (((o7 ..).extBut.push _).push _) ⟨_,aT _ W,W⟩)))
def PM(B:sZ tp s.heap it q i)(F:rn tp s.heap q xs)(f:xs[i]?=Y v)
  (k:∀C,sZ tp C it q (i+1)->dJ it s.heap C->Q v { s with heap:=C }):aG (aC prog w) A (iQ (.ref it)) Q E s:=by
 cases tp
 .exact wpAny_nextOf_list_item B F f k
 .exact K9 B F f k
def Vg(B:A.handled=L)(I:sZ tp s.heap it q i)(f:rn tp s.heap q xs)(C:xs[i]?=L)
  (k:∀F e,E2 it s.heap F->(∃o,F.get? e=Y o/\o.cls=.type "StopIteration")->E (.ref e) { s with heap:=F }):aG (aC prog w) A (iQ (.ref it)) Q E s:=by
 cases tp
 .exact wpAny_nextOf_list_end B I f C k
 .exact PN B I f C k
end
noncomputable def abB(tp:cc):ej:=if tp then "tuple_iterator" else "list_iterator"
def Ef(tp:cc)(l:aN):m8:={ cls:=.type (abB tp),data:=.fields #[.ref l,.int 0 0] }
def Qk{h:bJ}(e:h.get? it=Y (Ef tp l)):sZ tp h it l 0:=by
 cases tp<;>exact⟨_,e,W,W⟩
section
variable{s:ao}
def HL(B:rn tp s.heap l xs)(k:Q (.ref s.heap.objs.size) { s with heap:=s.heap.push (Ef tp l) }):aG (aC prog w) A (CY (.ref l)) Q E s:=by
 cases tp
 .exact xp B k
 .exact h9 B k
end
section
end
section
variable{h':bJ}
def Inv.Fc{t':T}{ch:O aN}(I:Inv X h_ σ H s)(k:∀b o,b∉ch->s.heap.get? b=Y o->h'.get? b=Y o)(hf:∀b∈ch,td X h_ H b):Inv X h_ σ H { s with heap:=h',toks:=t' }:=by
 have a:∀b u,H b=Y u->b∉ch:=λb u e z=>by rw[(hf b z).1]at e;cases e
 refine I.step (λb hb=>⟨(hf b hb).2.2.2.1,(hf b hb).2.1,(hf b hb).2.2.2.2.1,(hf b hb).2.2.2.2.2⟩) (λb o _ _ hc e _=>k b o hc e) (λb o _ _ hc e _=>⟨_,k b o hc e⟩) (λ_ _ _ _ n=>n)
  (λb o hc e=>⟨o,k b o hc e⟩) (λ_ _ e=>e) (λ_ _ _ e=>e) (λm c=>?_) (λb u e=>((I.hok b u e).mW λv=>k b v (a b u e))) I.bare
 .obtain⟨o,d,f,ho,r⟩:=c;exact⟨o,d,f,k _ o (λz=>(hf _ z).2.1 W) ho,r⟩
end
def ET(tp:cc)(K:aB)(H:Hp)(a:aN)(xs:O V):Prop:=match tp with
 |true=>wW K H a xs
 |false=>nW K H a xs
def ET.inj(I:Inv X h_ σ H s)(h:ET tp X.K H a xs)(f:ET tp X.K H a B):xs=B:=by
 cases tp
 .exact I.qb h f
 .exact I.tM h f
def ET.at (I:Inv X h_ σ H s)(h:ET tp X.K H a xs):∃f:O ak,df xs f/\rn tp s.heap a f.toArray:=by
 cases tp
 .obtain⟨f,b,p,_⟩:=I.list h;exact⟨_,b,p.isList⟩
 .obtain⟨f,b,p,_⟩:=I.tuple h;exact⟨_,b,p⟩
def sX(h:bJ)(it:aN)(x:aa)(t:Rv)(i:T):Prop:=h.IsStrIter it (gq x) x t i
def sX.keep{f:bJ}(y:sX h it x t i)(k:∀o,h.get? it=Y o->f.get? it=Y o):sX f it x t i:=let ⟨o,e,r⟩:=y;⟨o,k o e,r⟩
section
open Builtin
variable{A:bP}{s:ao}
def Ff(B:sX s.heap it x t i)(C:x.cps[i]?=Y c)
  (k:∀f,sX f it x t (i+1)->dJ it s.heap f->Q (.str ⟨#[c]⟩ s.toks) { s with heap:=f,toks:=s.toks+1 }):aG (aC prog w) A (iQ (.ref it)) Q E s:=by
 unfold sX gq at B k;cases ha:x.cps.all (·< 128)
 .simp only[ha,ck,et]at B k;exact wpAny_nextOf_wide_item B C k
 .simp only[ha,eu]at B k;exact wpAny_nextOf_ascii_item B C k
def Te(F:A.handled=L)(B:sX s.heap it x t i)(f:x.cps[i]?=L)
  (k:∀C e,E2 it s.heap C->(∃o,C.get? e=Y o/\o.cls=.type "StopIteration")->E (.ref e) { s with heap:=C }):aG (aC prog w) A (iQ (.ref it)) Q E s:=by
 unfold sX gq at B;cases ha:x.cps.all (·< 128)
 .simp only[ha,ck,et]at B;exact wpAny_nextOf_wide_end F B f k
 .simp only[ha,eu]at B;exact wpAny_nextOf_ascii_end F B f k
end
def zp(x:aa)(t:Rv):m8:={ cls:=.type (gq x),data:=.fields #[.str x t,.int 0 0] }
def OM{h:bJ}(e:h.get? it=Y (zp x t)):sX h it x t 0:=⟨_,e,W,W⟩
section
end
def Its(x y:aa):It:=
 ⟨λi _=>∃c d,x.cps[i]?=Y c/\y.cps[i]?=Y d,
  λi H v a=>∃T',H T'=L/\v=.ref T'/\∃c d,x.cps[i]?=Y c/\y.cps[i]?=Y d/\a=upd H T' (.tup [.str ⟨#[c]⟩,.str ⟨#[d]⟩]),
  λi _=>x.cps[i]?=L\/y.cps[i]?=L⟩
section
end
section
end
section
open Builtin
variable{A:bP}{s:ao}
structure ZAm(z T' U' i j b:aN):Prop where
 Tz:T'≠z
 Uz:U'≠z
 iz:i≠z
 jz:j≠z
 TU:T'≠U'
 Ti:T'≠i
 Tj:T'≠j
 Ui:U'≠i
 Uj:U'≠j
 ij:i≠j
 bz:b≠z
 bU:b≠U'
 bi:b≠i
 bj:b≠j
def Kz{T' U':aN}(P:ZAm z T' U' i j b)(B:IsZip s.heap z T' U' .none)(gT:qP s.heap T' (.ref i) (.ref j))(I:qP s.heap U' c d)
  (R:sX s.heap i p tp m)(gj:sZ U s.heap j b n)(gb:rn U s.heap b ys)(gx:p.cps[m]?=Y x)(gy:ys[n]?=Y y)
  (k:∀h',IsZip h' z T' U' (rawInt s.heap.objs.size)->qP h' U' (.str ⟨#[x]⟩ s.toks) y->sX h' i p tp (m+1)->sZ U h' j b (n+1)->qP h' s.heap.objs.size (.str ⟨#[x]⟩ s.toks) y->h'.objs.size=s.heap.objs.size+1->
   (∀e o,e≠z->e≠U'->e≠i->e≠j->s.heap.get? e=Y o->h'.get? e=Y o)->Q (Y (.ref s.heap.objs.size)) { s with heap:=h',toks:=s.toks+1 }):aG (aC prog w) A (kr (.ref z)) Q E s:=by
 refine wb9 (mM (dS ⟨_,B,W⟩ kB (cV kB ⟨_,B,W⟩ yW ?_ (xN _))));refine (?_ : aG (aC _ w) _ (field _ 2 >>= _) ..);refine wb9 (dA B W (x:=.bool J) W ?_);refine wb9 (dA B W rfl (wb9 (dW gT W ?_)));apply wb9;refine wb9 (dA B W rfl (wu9 ?_));refine wb9 (kJ (wb9 (dA B W rfl (wb9 (cH B (by simp) λh1 C s1=>?_)))));apply wb9;simp only[uU,NQ,xm,Rz];refine wb9 (wb9 (uS ?_));refine wb9 (Ff (R.keep λo e=>s1.extBut _ o P.iz e) gx λh2 D s2=>wu9 ?_);have f :=s2.extBut _ _ P.Ui (s1.extBut _ _ P.Uz I);refine wb9 (dW f W (wb9 (tz f λh3 F s3=>wb9 (NA (wu9 ?_)))));refine wb9 (wb9 (uS ?_));refine wb9 (PM (gj.keep λo e=>s3.extBut _ o P.Uj.symm (s2.extBut _ o P.ij.symm (s1.extBut _ o P.jz e))) (gb.keep λo e=>s3.extBut _ o P.bU (s2.extBut _ o P.bi (s1.extBut _ o P.bz e))) gy λS G g=>wu9 ?_);have h :=g.extBut _ _ P.Uj F;refine wb9 (dW h W (wb9 (tz h λK a l=>wb9 (NA (wu9 (wu9 ?_))))));replace a:qP K U' (.str ⟨_⟩ s.toks) y:=a;refine wb9 (dW a W (wb9 (CU ?_)));have sz:K.objs.size=s.heap.objs.size:=by rw[l.1,g.1,s3.1,s2.1,s1.1]
 have r :=l.extBut _ _ P.Uz.symm (g.extBut _ _ P.jz.symm (s3.extBut _ _ P.Uz.symm (s2.extBut _ _ P.iz.symm C)));apply wb9;refine wb9 (cH (hp9 _ r) (by simp) λV L' M=>?_);refine cH L' (by simp) λh8 u N=>wu9 ⟨_,W,?_⟩;have up:∀e o,e≠z->K.get? e=Y o->h8.get? e=Y o:=λe o t q=>N.extBut _ _ t (M.extBut _ _ t (hp9 _ q));have O' :=N.extBut _ _ (jE (hl9 r)) (M.extBut _ _ (jE (hl9 r)) (aT _ W));have v:h8.objs.size=K.objs.size+1:=by rw[N.1,M.1,jr]
 rw[sz]at u O' v;rw[sz];exact wu9 (k h8 u (up _ _ P.Uz a) ((D.keep λo e=>l.extBut _ o P.Ui.symm (g.extBut _ o P.ij (s3.extBut _ o P.Ui.symm e))).keep λo e=>up _ o P.iz e) ((G.keep λo e=>l.extBut _ o P.Uj.symm e).keep λo e=>up _ o P.jz e) O' v λe o t X e3 H q=>up e o t ((λe o t X e3 H q=>l.extBut _ _ X (g.extBut _ _ H (s3.extBut _ _ X (s2.extBut _ _ e3 (s1.extBut _ _ t q))))) e o t X e3 H q))
def Pc{T' U':aN}(O':A.handled=L)(P:ZAm z T' U' i j b)(B:IsZip s.heap z T' U' .none)(gT:qP s.heap T' (.ref i) (.ref j))(R:qP s.heap U' c d)
  (S:sX s.heap i p tp m)(gj:sZ U s.heap j b n)(gb:rn U s.heap b ys)(ge:p.cps[m]?=L\/ys[n]?=L)
  (k:∀h',(∀e o,e≠z->e≠U'->e≠i->e≠j->s.heap.get? e=Y o->h'.get? e=Y o)->∀tk,Q L { s with heap:=h',toks:=tk }):aG (aC prog w) A (kr (.ref z)) Q E s:=by
 refine wb9 (mM (dS ⟨_,B,W⟩ kB (cV kB ⟨_,B,W⟩ yW ?_ (xN _))));refine (?_ : aG (aC _ w) _ (field _ 2 >>= _) ..);refine wb9 (dA B W (x:=.bool J) W ?_);refine wb9 (dA B W rfl (wb9 (dW gT W ?_)));apply wb9;refine wb9 (dA B W rfl (wu9 ?_));refine wb9 (kJ (wb9 (dA B W rfl (wb9 (cH B (by simp) λh1 g s1=>?_)))));apply wb9;simp only[uU,NQ,xm,Rz];refine wb9 (wb9 (uS ?_))
 cases y:p.cps[m]? with
 |none=>
   refine wb9 (Te O' (S.keep λo e=>s1.extBut _ o P.iz e) y λh2 e s2 he=>?_);obtain⟨l,a,f⟩:=he;have r :=s2 _ _ P.iz.symm g;exact cH r (by simp) λh3 _ s3=>wb9 (eW ⟨l,s3.extBut _ _ (λq=>by grind) a,f⟩ CZ (wu9 (k _ (λc o c1 _ u _ q=>s3.extBut _ _ c1 (s2 _ _ u (s1.extBut _ _ c1 q))) _)))
 |some x=>
   have F:ys[n]?=L:=by
    grind
   refine wb9 (Ff (S.keep λo e=>s1.extBut _ o P.iz e) y λh2 G s2=>wu9 ?_);have h :=s2.extBut _ _ P.Ui (s1.extBut _ _ P.Uz R);refine wb9 (dW h W (wb9 (tz h λh3 H s3=>wb9 (NA (wu9 ?_)))));refine wb9 (wb9 (uS ?_));refine wb9 (Vg O' (gj.keep λo e=>s3.extBut _ o P.Uj.symm (s2.extBut _ o P.ij.symm (s1.extBut _ o P.jz e))) (gb.keep λo e=>s3.extBut _ o P.bU (s2.extBut _ o P.bi (s1.extBut _ o P.bz e))) F λt e C he=>?_);obtain⟨l,a,f⟩:=he;have v :=C _ _ P.jz.symm (s3.extBut _ _ P.Uz.symm (s2.extBut _ _ P.iz.symm g));exact cH v (by simp) λK _ D=>wb9 (eW ⟨l,D.extBut _ _ (λq=>by grind) a,f⟩ CZ (wu9 (k _ (λc o c1 c2 u I q=>D.extBut _ _ c1 (C _ _ I (s3.extBut _ _ c2 (s2.extBut _ _ u (s1.extBut _ _ c1 q))))) _)))
end
abbrev zm3(h:bJ)(x:aa)(t:Rv)(b:aN):bJ:=((h.push (zp x t)).push (Ef U b)).push { cls:=.type "tuple",data:=.seq #[.ref h.objs.size,.ref (h.push (zp x t)).objs.size] }
abbrev zm4(h:bJ)(x:aa)(t:Rv)(b:aN):bJ:=(zm3 h x t b).push { cls:=.type "tuple",data:=.seq #[.none,.none] }
abbrev XC(h:bJ)(x:aa)(t:Rv)(b:aN):bJ:=(zm4 h x t b).push { cls:=.type "zip",data:=.fields #[.none,.bool J,.bool J,.ref ((h.push (zp x t)).push (Ef U b)).objs.size,.ref (zm3 h x t b).objs.size] }
def SQ(x:aa)(t:Rv)(b:aN)(f:c7 ak):Meets (jB.«zip.__new__» ⟨[.type "zip",.str x t,.ref b],[]⟩) (λ_ R s=>rn U s.heap b f/\R (.ok (.ret (.ref (zm4 s.heap x t b).objs.size))) { s with heap:=XC s.heap x t b }):=
 .of_wp λprog w A R s q=>by
  obtain⟨hp,g,d,a,os⟩:=s;obtain⟨c,q⟩:=q;have sz:=PySem.sub_zip;have h:rn U (Shared.heap ⟨hp.push { cls:=.type (gq x),data:=.fields #[.str x t,.int 0 0] },g,d,a,os⟩) b f:=rn.keep c λo e=>hp9 _ e
  wp_walk using PySem.wpAny_pyIter_strU (x:=x) (t:=t),HL h
  exact⟨_,W,q⟩
section
variable{s:ao}
def N0
  (B:rn U s.heap b I)(k:∀C,IsZip C (s.heap.objs.size+4) (s.heap.objs.size+2) (s.heap.objs.size+3) .none->qP C (s.heap.objs.size+2) (.ref s.heap.objs.size) (.ref (s.heap.objs.size+1))->qP C (s.heap.objs.size+3) .none .none->
   sX C s.heap.objs.size x t 0->sZ U C (s.heap.objs.size+1) b 0->(∀c o,s.heap.get? c=Y o->C.get? c=Y o)->Q (.ref (s.heap.objs.size+4)) { s with heap:=C }):aG (aC prog w) A (call (.type "zip") [.str x t,.ref b]) Q E s:=by
 refine PySem.callType_new PySem.F.called_zip cF (PySem.F.typeCall_zip_2 _ _) (PySem.F.newCall_zip_2 _ _) (λj=>PySem.F.args_object_init_3 j _ _) PySem.F.entry_zip_new (SQ x t b I) ⟨B,?_⟩;have a:(s.heap.push (zp x t)).objs.size=s.heap.objs.size+1:=jr ..;have d:((s.heap.push (zp x t)).push (Ef U b)).objs.size=s.heap.objs.size+2:=by rw[jr,a]
 have e:(zm3 s.heap x t b).objs.size=s.heap.objs.size+3:=by rw[jr,d]
 have l:(zm4 s.heap x t b).objs.size=s.heap.objs.size+4:=by rw[jr,e]
 have f:(XC s.heap x t b).get? (zm4 _ x t b).objs.size=Y _:=aT _ W;have g:(XC s.heap x t b).get? (zm3 _ x t b).objs.size=Y _:=hp9 _ (aT _ W);have h:(XC _ x t b).get? ((s.heap.push _).push _).objs.size=Y _:=hp9 _ (hp9 _ (aT _ W));have i:(XC _ x t b).get? (s.heap.push _).objs.size=Y _:=hp9 _ (hp9 _ (hp9 _ (aT _ W)));rw[d,e,l]at f;rw[a,d]at h;rw[e]at g;rw[a]at i;rw[l];exact⟨⟨_,f,W⟩,k _ f h g (OM (hp9 _ (hp9 _ (hp9 _ (hp9 _ (aT _ W)))))) (Qk i) λc o q=>hp9 _ (hp9 _ (hp9 _ (hp9 _ (hp9 _ q))))⟩
end
def Itm(K:aB)(x:aa)(b:aN):It:=
 ⟨λi H=>∃c a y,x.cps[i]?=Y c/\ET U K H b a/\a[i]?=Y y,
  λi H v d=>∃T',H T'=L/\v=.ref T'/\∃c y,x.cps[i]?=Y c/\(∀a,ET U K H b a->a[i]?=Y y)/\d=upd H T' (.tup [.str ⟨#[c]⟩,y]),
  λi H=>∃a,ET U K H b a/\(x.cps[i]?=L\/Z a<=i)⟩
def Ho{K:aB}(x:aa)(t:Rv)(b z TI TO B i2:aN)(D:ZAm z TI TO B i2 b) :
  Turn P w K (.Tuple elts k pos) (Itm K x b) [z,TI,TO,B,i2] z (λi h=>IsZip h z TI TO .none/\qP h TI (.ref B) (.ref i2)/\(∃u v,qP h TO u v)/\sX h B x t i/\sZ U h i2 b i) where
 mem:=by simp
 obj:=λi h st c hc=>by
  obtain⟨g,d,⟨u,v,f⟩,⟨o1,e1,_,d1⟩,h2⟩:=st;obtain⟨o2,e2,_,d2⟩:=h2.obj;simp only[aA,bV,eg]at hc
  rcases hc with rfl|rfl|rfl|rfl|rfl
  .exact⟨_,g,λv z=>nomatch z⟩
  .exact⟨_,d,λv z=>nomatch z⟩
  .exact⟨_,f,λv z=>nomatch z⟩
  .exact⟨_,e1,λv z=>by rw[d1]at z;cases z⟩
  .exact⟨_,e2,λv z=>by rw[d2]at z;cases z⟩
 keep:=λi h h' st k=>by
  obtain⟨g,d,⟨u,v,f⟩,h1,h2⟩:=st;exact⟨k z (by simp) _ g,k TI (by simp) _ d,⟨u,v,k TO (by simp) _ f⟩,h1.keep λo e=>k B (by simp) o e,h2.keep λo e=>k i2 (by simp) o e⟩
 item:=by
  intro X n p q hc i h_ s σ H E I hf st l;subst n p q;obtain⟨c1,ys,y,J',hb,L'⟩:=l;obtain⟨M,j,r⟩:=ET.at I hb;obtain⟨A,C,F⟩:=j.get L';obtain⟨g,d,⟨N,O',f⟩,h1,h2⟩:=st;refine Kz D g d f h1 h2 r J' (y:=A) (by simpa using C) λh' Q R S T' U' g6 hk=>?_;refine⟨_,W,wpAny_letOwnedTupleGo_zip Q λh'' G a=>?_⟩
  have V:∀c∈[z,TO,B,i2],td X h_ H c:=λc hc=>hf c (by
   simp only[aA,bV,eg]at hc ⊢
   rcases hc with rfl|rfl|rfl|rfl<;>simp)
  have kk:∀c o,c∉[z,TO,B,i2]->s.heap.get? c=Y o->h''.get? c=Y o:=λc o hc e=>by
   simp only[aA,bV,eg,not_or]at hc;exact a.extBut c o hc.1 (hk c o hc.1 hc.2.1 hc.2.2.1 hc.2.2.2 e)
  have c3:Inv X h_ σ H { s with heap:=h'',toks:=s.toks+1 }:=I.Fc (t':=s.toks+1) kk V;have e0:s.heap.objs.size≠z:=jE (hl9 g);have e3:h''.get? s.heap.objs.size=Y { cls:=.type "tuple",data:=.seq #[.str ⟨#[c1]⟩ s.toks,A] }:=a.extBut _ _ e0 U';have m:H s.heap.objs.size=L:=I.hok.fresh (aq _)
  have I2:Inv X h_ σ (upd H s.heap.objs.size (.tup [.str ⟨#[c1]⟩,y])) { s with heap:=h'',toks:=s.toks+1 }:=by
   refine c3.RF (I.IC (aq _) m) I.sz ⟨by rw[mS];show 2<=16777216;decide,[.str ⟨#[c1]⟩ s.toks,A],.cons ⟨_,W⟩ (.cons F .nil),?_⟩;exact⟨_,e3,W,_,W⟩
  refine⟨.ref s.heap.objs.size,_,I2,W,⟨_,m,W,c1,y,J',λys' h1=>by rw[ET.inj I h1 hb];exact L',W⟩,⟨G,?_,⟨_,_,a.extBut _ _ D.Uz R⟩,S.keep λo e=>a.extBut _ o D.iz e,T'.keep λo e=>a.extBut _ o D.jz e⟩,λc hc=>?_⟩
  .exact a.extBut _ _ D.Tz (hk _ _ D.Tz D.TU D.Ti D.Tj d)
  .rw[cz ?_]
   .exact(hf c hc).1
   .have:c<s.heap.objs.size:=by
     simp only[aA,bV,eg]at hc
     rcases hc with rfl|rfl|rfl|rfl|rfl
     .exact hl9 g
     .exact hl9 d
     .exact hl9 f
     .obtain⟨_,e,_⟩:=h1;exact hl9 e
     .obtain⟨_,e,_⟩:=h2.obj;exact hl9 e
    exact ba this
 done:=by
  intro X n p q hc i h_ s σ H E I hf st l;subst n p q;obtain⟨g,d,⟨N,O',f⟩,h1,h2⟩:=st;obtain⟨ys,hb,l⟩:=l;obtain⟨M,j,r⟩:=ET.at I hb;refine Pc (I.ok.hd hc) D g d f h1 h2 r (l.imp id λh=>by simpa [j.length]using h) λh' hk tk=>⟨W,I.Fc (t':=tk) (ch:=[z,TO,B,i2]) (λc o hc e=>?_) λc hc=>hf c ?_⟩
  .simp only[aA,bV,eg,not_or]at hc;exact hk c o hc.1 hc.2.1 hc.2.2.1 hc.2.2.2 e
  .simp only[aA,bV,eg]at hc ⊢
   rcases hc with rfl|rfl|rfl|rfl<;>simp
 self:=λ_ _ _ _ _ st h=>wpAny_pyIter_zip st.1 h
end L2
namespace M
open L2
section
variable{X:Cx}{a b:a9}{pos:rC}{σ:St}{F H:Hp}{iter:a9}
theorem AM:∀(xs f:O Dat) (i:T),(pV xs f)[i]?=match xs[i]?,f[i]? with
  |some x,Y y=>Y (.tup [x,y])
  |_,_=>L
 |[],_,_=>by simp[pV]
 |_::_,[],i=>by
   simp[pV]
 |x::xs,y::f,0=>by simp[pV]
 |x::xs,y::f,i+1=>by exact AM xs f i
theorem AL:∀(xs f:O Dat),Z (pV xs f)=min xs.length f.length
 |[],_=>by simp[pV]
 |_::_,[]=>by simp[pV]
 |x::xs,y::f=>by simp only[pV,cg,AL xs f];simp
def TqK(tp:cc)(K:Fg)(F:Hp)(a:aN)(vs:O V):Prop:=match tp with
 |true=>Tq K F a vs
 |false=>nW K F a vs
def TqK.up{tp:cc}{K:Fg}{F f H:Hp}{a:aN}{vs:O V}(h:TqK tp K F a vs)(s:cy F f)(g:Good f H):ET tp K H a vs:=by
 cases tp
 .exact g.sub.seq (s.seq h)
 .exact((Tq.mono s h).mono g.sub).sq
def Zw(K:Fg)(f:TA):TI:=λσ H R=>f σ H λvs c=>∃x b,vs=[.str x,.ref b]/\(∃d,ET U K c b d)/\R (L2.Itm K x b) c
def Pn(S:Gl X "zip")(C:X.mg "zip"=L)(ha:PA X [a,b] ta)(hs:aP [a,b] X.env=[(J,eval a X.env),(J,eval b X.env)])(B:aP [b] X.env=[(J,eval b X.env)]) :
  PI X (.Tuple elts k P) (.Call (.Name "zip" p) [a,b] [] pos) (Zw X.K ta):=by
 intro h_ s σ H R I h;refine Call_ (qc I S C (by decide +kernel:dt _=Y (.type "zip")) (fK (jf (ha _ h_ s σ H _ I h) λus s1 G=>?_) (by rw[hs,B]) (by rw[B];rfl)));obtain⟨vs,j,g,m,n⟩:=G;obtain⟨x,b,rfl,⟨N,o⟩,q⟩:=n;cases m with
 |cons r i=>
   cases i with
   |cons u i=>
     cases i;obtain⟨t,rfl⟩:=r;cases u;obtain⟨D,v,d⟩:=ET.at g o;have E:@LT.lt _ _ b s1.heap.objs.size:=by obtain⟨_,e,_⟩:=d.obj;exact hl9 e
     refine N0 d λQ l w y z A M=>?_;refine wpAny_pyIter_zip l ⟨_,_,_,_,j,W,(g.kept M),
      Ho x t b _ _ _ _ _ ⟨?_,?_,?_,?_,?_,?_,?_,?_,?_,?_,?_,?_,?_,?_⟩,⟨l,w,⟨_,_,y⟩,z,A⟩,λc hc=>?_,q⟩
     all_goals try grind
     have f:s1.heap.objs.size<=c:=by
      simp only[aA,bV,eg]at hc
      rcases hc with rfl|rfl|rfl|rfl|rfl<;>first|simp|exact aq _
     exact g.IC f (g.hok.fresh f)
def signs_get(x:aa)(i:T):((oK x).map Dat.str)[i]?=(x.cps[i]?).map λc=>.str ⟨#[c]⟩:=by
 unfold oK;rw[aV,aV,i6];cases x.cps[i]?<;>rfl
def Ij{K:Fg}{F1:Hp}(x:aa){b:aN}{us:O V}{es:O Dat}(C:Tq K F1 b us)(B:de K F1 es us):nQ K F1 (L2.Itm K x b) (pV ((oK x).map .str) es):=λF H g s=>by
 have c:ET U K H b us:=TqK.up C s g;refine⟨λi d hd=>?_,λi hi=>⟨us,c,?_⟩⟩
 .rw[AM,signs_get]at hd
  cases n:x.cps[i]? with
  |none=>rw[n]at hd;cases hd
  |some c1=>
    cases p:es[i]? with
    |none=>simp_all
    |some d2=>
      rw[n,p]at hd;cases hd;obtain⟨e,f,k⟩:=B.get p;refine⟨⟨c1,us,e,n,c,f⟩,λv q z=>?_⟩;obtain⟨T',h,rfl,d1,o,j,l,rfl⟩:=z;rw[n]at j;cases j;have m:=bL (f.symm.trans (l us c));clear c f l; subst m;refine⟨_,Step.alloc g h,⟨T',_,W,.inl bK,?_⟩⟩;exact⟨_,_,W,W,e,[],W,k.mono (s.trans (cy.upd (g.sub.free h))),W⟩
 .rw[AL]at hi;simp only[oK,aD,bM]at hi;rw[B.length]
  grind
def SU(h:RE ds=Y items):∃x f,ds=[.str x,.tup f]/\items=pV ((oK x).map .str) f:=by
 obtain⟨a,b,rfl⟩:∃a b,ds=[a,b]:=by
  cases ds with
  |nil=>cases h
  |cons a r=>
    cases r with
    |nil=>cases h
    |cons b r=>
      cases r with
      |nil=>exact⟨a,b,W⟩
      |cons _ _=>cases h
 cases a with
 |str x=>
   cases b with
   |tup f=>cases h;exact⟨_,_,W,W⟩
   |_=>cases h
 |_=>cases h
def TY(S:Gl X "zip")(P:X.mg "zip"=L)(ha:SA X C [a,b] [xa,xb])(hs:aP [a,b] X.env=[(J,eval a X.env),(J,eval b X.env)])(B:aP [b] X.env=[(J,eval b X.env)]) :
  SI X C (.Tuple elts k tp) (.Call (.Name "zip" p) [a,b] [] pos) (.zip [xa,xb]):=λh_ s σ H R I f=>by
 refine ac λ_ q=>?_;obtain⟨t,items,F,hi,g,h,u⟩:=f;obtain⟨z,h1,h2⟩:=bT hi;clear hi; obtain⟨x,A,rfl,rfl⟩:=SU h2;apply q;refine Pn S P ha hs B h_ s σ H R I ⟨t,_,h1,F,g,h,λvs F1 i st r=>?_⟩;refine ac λ_ q=>?_;obtain⟨v,w,rfl,j,n,o,rfl,l,y⟩:=r;cases y;cases j;obtain⟨m,c,rfl,e,d⟩:=l;apply q;exact⟨x,m,W,⟨c,TqK.up e (cy.refl _) st.good⟩,u _ F1 i st (Ij x e d)⟩
def zQ{f:O Dat->g_}{K:Fg}{xs:O V}{H:Hp}{Q:VK}(hf:∀ds d fr,f ds=Y (d,fr)->Z ds=1)(h:gL K f xs H Q) :
  ∃B d fr F v,f [B]=Y (d,fr)/\xs=[v]/\Good F H/\Rep K F B v/\∀w I C,Step F H I C->Rep K I d w->(fr=U->hV K H C d w)->Q w C:=by
 refine ac λ_ a=>?_;obtain⟨ds,d,fr,h1,F,g,r,k⟩:=h
 apply a;match ds,hf ds d fr h1 with
 |[B],_=>
   clear hf a; obtain⟨v,w,rfl,e,c⟩:=r;cases c;exact⟨B,d,fr,F,v,h1,W,g,e,k⟩
def Xf:∀{ds:O Dat}{r:Dat×cc},b1 f ds=Y r->Z ds=1
 |[_],_,_=>rfl
 |[],_,h=>by cases h
 |_::_::_,_,h=>by cases h
def sV{b:Blt}:∀ds d fr,lr b ds=Y (d,fr)->Z ds=1:=λds d fr h=>by
 cases b<;>first|exact Xf h|cases h
set_option tactic.hygienic true
def IL:kH X (.builtin "len") (gL X.K (lr .len)):=λh_ s σ H q us Q I r h=>by
 obtain⟨n,d,fr,F,v,h1,rfl,g,c,k⟩:=zQ sV h
 clear h; cases n with
 |lst m=>
   cases h1;obtain⟨p,vs,rfl,t,e⟩:=c;refine sU h_ s σ H _ us Q I r ⟨p,vs,W,.inl (g.sub.seq t),?_⟩;rw[e.length];exact k _ F H (Step.refl g) W bx
 |tup m=>
   cases h1;obtain⟨p,vs,rfl,t,e⟩:=c;refine sU h_ s σ H _ us Q I r ⟨p,vs,W,.inr (t.mono g.sub).sq,?_⟩;rw[e.length];exact k _ F H (Step.refl g) W bx
 |str z=>
   simp only[lr,b1,Xe]at h1;split at h1
   .rename_i f;cases h1;cases c;exact Ab h_ s σ H _ us Q I r ⟨z,W,f,k _ F H (Step.refl g) W bx⟩
   .cases h1
 |dct w m=>
   cases h1;obtain⟨p,x,rfl,i,rfl,l⟩:=c;obtain⟨u,rfl,j⟩:=vals1 r;clear r; cases j;refine ZO I (.inl (g.sub _ _ i)) λt y o=>⟨.int _,H,o,⟨t,W⟩,?_⟩
   rw[((aD ..).symm)];exact k _ F H (Step.refl g) W bx
 |_=>cases h1
def IP:kH X (.type "int") (gL X.K (lr .int)):=λh_ s σ H j us Q I r h=>by
 obtain⟨f,d,fr,F,v,h1,rfl,g,c,k⟩:=zQ sV h
 clear h; cases f with
 |int i=>
   cases h1;cases c;exact IQ h_ s σ H _ us Q I r (.inl ⟨i,W,k _ F H (Step.refl g) W bx⟩)
 |bl b=>
   cases h1;cases c;obtain⟨u,rfl,e⟩:=vals1 r;cases e;exact call_int_bool ⟨.int _,H,I.tok _,⟨_,W⟩,k _ F H (Step.refl g) W bx⟩
 |str x=>
   simp only[lr,b1,Xe,Z5,bLS,Z6,Xd]at h1;split at h1
   .rename_i hl;obtain⟨i,h2,h1⟩:=eT h1;cases h1;cases c;obtain⟨u,rfl,t,rfl⟩:=vals1 r;exact PySem.W.KIN.call_text h2 hl ⟨.int i,H,I.tok _,⟨_,W⟩,k _ F H (Step.refl g) W bx⟩
   .cases h1
 |_=>cases h1
def IK:kH X (.type "str") (gL X.K (lr .str)):=λh_ s σ H f us Q I r h=>by
 refine ac λ_ a=>?_;obtain⟨e,d,fr,F,v,h1,rfl,g,c,k⟩:=zQ sV h
 apply a;clear a h; cases e with
 |int i=>
   simp only[lr,b1,Xd]at h1;split at h1
   .rename_i hl;cases h1;cases c;exact Aa h_ s σ H _ us Q I r ⟨i,W,hl,k _ F H (Step.refl g) W bx⟩
   .cases h1
 |_=>cases h1
def Ci:kH X (.type "tuple") (gL X.K (lr .tuple)):=λh_ s σ H j us Q I r h=>by
 refine ac λ_ a=>?_;obtain⟨f,d,fr,F,v,h1,rfl,g,e,k⟩:=zQ sV h
 apply a;cases f with
 |lst i=>
   cases h1;obtain⟨p,vs,rfl,t,c⟩:=e;exact qK h_ s σ H _ us Q I r ⟨p,vs,W,.inl ⟨g.sub.seq t,λl hl=>k _ _ _ (Step.alloc g hl) ⟨l,vs,W,.inl bK,c.mono (cy.upd (g.sub.free hl))⟩ bx⟩⟩
 |tup i=>
   cases h1;obtain⟨p,vs,rfl,t,c⟩:=e;exact qK h_ s σ H _ us Q I r ⟨p,vs,W,.inr ⟨(t.mono g.sub).sq,k _ F H (Step.refl g) ⟨p,vs,W,t,c⟩ bx⟩⟩
 |_=>cases h1
def fJ(o:XB):O Dat->g_
 |[x,y]=>iT o x y
 |_=>L
def Ma{o:XB}{K:Fg}{xs:O V}{H:Hp}{Q:VK}(h:gL K (fJ o) xs H Q) :
  ∃C B d fr F v w,iT o C B=Y (d,fr)/\xs=[v,w]/\Good F H/\Rep K F C v/\Rep K F B w/\∀w P I,Step F H P I->Rep K P d w->(fr=U->hV K H I d w)->Q w I:=by
 refine ac λ_ a=>?_;obtain⟨l,d,fr,h1,F,g,r,k⟩:=h
 apply a;match l,h1 with
 |[C,B],h1=>
   refine ac λ_ a=>?_;obtain⟨v,w,rfl,f,i,j,rfl,c,e⟩:=r;cases e;apply a;exact⟨C,B,d,fr,F,v,i,h1,W,g,f,c,k⟩
def wK(B:X.calm=U):kH X (.builtin "max") (gL X.K (fJ .mx)):=λh_ s σ H p us Q I r h=>by
 refine ac λ_ a=>?_;obtain⟨o,e,d,fr,F,v,w,h1,rfl,g,f,l,k⟩:=Ma h;apply a;cases o<;>cases e<;>simp only[iT,Jk,Rc,Rb,reduceCtorEq]at h1
 rename_i i j;refine ac λ_ a=>?_;clear h; cases h1;cases f;cases l;obtain⟨u,m,rfl,⟨t,rfl⟩,⟨q,rfl⟩⟩:=vals2 r;apply a;refine max_two_ints (I.ok.hd B) λx n hk=>⟨.int _,H,I.kept hk,?_,k _ F H (Step.refl g) W bx⟩
 by_cases c:i<j
 .rw[a5 c,a5 (c)];exact⟨_,W⟩
 .rw[cb c,cb (c)];exact⟨_,W⟩
def EC(B:X.calm=U):kH X (.builtin "min") (gL X.K (fJ .mn)):=λh_ s σ H p us Q I r h=>by
 refine ac λ_ a=>?_;obtain⟨o,e,d,fr,F,v,w,h1,rfl,g,f,l,k⟩:=Ma h;apply a;cases o<;>cases e<;>simp only[iT,Jk,Rc,Rb,reduceCtorEq]at h1
 rename_i i j;refine ac λ_ a=>?_;clear h; cases h1;cases f;cases l;obtain⟨u,m,rfl,⟨t,rfl⟩,⟨q,rfl⟩⟩:=vals2 r;apply a;refine min_two_ints (I.ok.hd B) λx n hk=>⟨.int _,H,I.kept hk,?_,k _ F H (Step.refl g) W bx⟩
 by_cases c:j<i
 .rw[a5 c,a5 c];exact⟨_,W⟩
 .rw[cb c,cb c];exact⟨_,W⟩
set_option tactic.hygienic false
def Kd{I:ej}(hc:kH X (.builtin I) (gL X.K (fJ o)))(P:Gl X x)(R:X.mg x=L)(S:dt x=Y (.builtin I))(ha:SA X C [e,e2] [xa,xb])(hn:x≠"__name__")(B:(x == ("__debug__":aa))=J)
  (he:aP [e,e2] X.env=(J,eval e X.env)::aP [e2] X.env)(O':(er pos (aP [e2] X.env)).any (·.1)=J):SE X C (.Call (.Name x p) [e,e2] [] pos) (.bin o xa xb):=
 PE.imp (p7 hc P R S ha hn B he O') (sW λj d fr h=>by
  refine ac λ_ a=>?_;obtain⟨⟨i,f⟩,h1,h⟩:=bT h;obtain⟨⟨c,g⟩,h2,h⟩:=bT h
  apply a;exact⟨[i,c],by simp only[mH,h1,h2,bp,eA],h⟩)
end
section
variable{X:Cx}{pos:rC}{xs:O Ex}{F H:Hp}{iter:a9}
def tyName:Ty->ej
 |.int=>"int"
 |.bool=>"bool"
 |.str=>"str"
 |.tuple=>"tuple"
 |.list=>"list"
noncomputable def Zn:Dat->ej
 |.non=>"NoneType"
 |.bl _=>"bool"
 |.int _=>"int"
 |.str _=>"str"
 |.tup _=>"tuple"
 |.lst _=>"list"
 |.dct _ _=>"dict"
 |.any=>"dict"
 |.exc _ _ _=>"NoneType"
def VS(K:Fg)(t:Ty)(d:Dat):PySem.W.kitOne K (.type (Zn d)) (.type (tyName t))=Y (LK t d):=by
 cases t<;>cases d<;>rfl
def aa6(K:Fg)(t:Ty):O V->Hp->VK->Prop:=λxs H Q=>∃a F v,xs=[v,.ty (tyName t)]/\Good F H/\Rep K F a v/\nax a=U/\Q (.bl (LK t a)) H
def IM:kH X (.builtin "isinstance") (aa6 X.K t):=λh_ s σ H xs us Q I r h=>by
 obtain⟨j,F,v,rfl,g,a,k,q⟩:=h;obtain⟨u,w,rfl,b,d⟩:=vals2 r;clear r; obtain rfl:w=.type _:=d;have e:=VS X.K t j;have fin:∀f,EP X h_ σ Q (.bool _) _:=λf=>⟨.bl _,H,I.tok f,W,q⟩
 clear q; cases j with
 |non=>cases a;obtain rfl:u=.none:=b;exact gD PySem.W.kitx_none I.wu lA e (λz=>nomatch z) fin
 |bl y=>cases a;obtain rfl:u=.bool y:=b;exact gD PySem.W.kitx_bool I.wu lA e (λz=>nomatch z) fin
 |int y=>cases a;obtain⟨c,rfl⟩:=b;exact gD PySem.W.kitx_int I.wu lA e (λz=>nomatch z) fin
 |str y=>cases a;obtain⟨c,rfl⟩:=b;exact gD PySem.W.kitx_str I.wu lA e (λz=>nomatch z) fin
 |tup l=>
   obtain⟨p,vs,rfl,c,_⟩:=a;obtain rfl:u=.ref p:=b;obtain⟨i,_,⟨o,h1,h2,_⟩,_⟩:=I.tupR g c;exact gD PySem.W.kitx_tuple I.wu ⟨o,h1,h2⟩ e (λz=>nomatch z) fin
 |lst l=>
   obtain⟨p,vs,rfl,c,_⟩:=a;obtain rfl:u=.ref p:=b;obtain⟨i,_,⟨o,n,h1,h2,_⟩,_⟩:=I.lstR g c;exact gD PySem.W.kitx_list I.wu ⟨o,h1,h2⟩ e (λz=>nomatch z) fin
 |dct x l=>
   refine ac λ_ m=>?_;obtain⟨p,A,rfl,c,_⟩:=a;obtain rfl:u=.ref p:=b;obtain⟨_,_,_,_,o,B,C,h1,h2,_⟩:=I.hok p _ (g.sub _ _ c);apply m;exact gD PySem.W.kitx_dict I.wu ⟨o,h1,h2.1⟩ e (λz=>nomatch z) fin
 |any=>cases k
 |exc _ _ _=>cases k
def Uk(t:Ty)(hg:Gl X "isinstance")(hm:X.mg "isinstance"=L)(B:Gl X x)(O':X.mg x=L)(I:dt x=Y (.type (tyName t)))(ha:SE X C a xa)(hn:x≠"__name__")(P:(x == ("__debug__":aa))=J)
  (he:aP [a,.Name x S] X.env=(J,eval a X.env)::aP [.Name x S] X.env)(hpl:(er pos (aP [.Name x S] X.env)).any (·.1)=J) :
  SE X C (.Call (.Name "isinstance" p) [a,.Name x S] [] pos) (.blt (.isi t) [xa]):=
 PE.imp (p7 IM hg hm (by decide +kernel) (kT ha (kT (FK B O' I (v:=.ty _) W hn P) tS) he) (by decide) (by decide) he hpl) λσ H Q b=>by
  refine ac λ_ i=>?_;obtain⟨l,d,fr,h,F,g,R,k⟩:=b;obtain⟨n,h1,h2⟩:=bT h;clear h; obtain⟨⟨j,c⟩,h3,h1⟩:=bT h1;cases h1;obtain⟨m,e⟩:=Ql (h2);clear h2; cases e;apply i;exact⟨l,j,c,h3,F,g,R,λv F1 f st r _=>⟨j,F1,v,W,st.good,r,m,k _ F1 f st W bx⟩⟩
end
end M
namespace L2
section
end
section
end
section
end
section
end
end L2
namespace M
open L2
section
end
section
end
section
def HG{f:O ak}(h:PySem.ItemsOf (λi v=>f.toArray[f.toArray.size - 1 - i]?=Y v) acc f.toArray.size):acc=f.reverse.toArray:=by
 obtain⟨h1,h2⟩:=h;apply rR;intro j;by_cases a:j<acc.size
 .have:=h2 j _ (br a);rw[br a]
  grind
 simp_all
end
section
end
section
variable{X:Cx}{iter:a9}{ifs:O a9}
def OU(f:X.calm=U)(S:jT X scope tn P caps)(hi:SI X C tg iter it)(F:qM tn.length g)(R:Xl X.K tn.length one g)
  (hg:∀(cl:O (aa×aN))(B:ao)(I:Hp)(Ca:aN)(ex:O aN),PG (fH X scope cl (tn++P) B I Ca ex) tg g)
  (ht:∀(cl:O (aa×aN))(B:ao)(I:Hp)(Ca:aN)(ex:O aN),Nx (fH X scope cl (tn++P) B I Ca ex) ifs (XW X.K C xs))
  (he:∀(cl:O (aa×aN))(B:ao)(I:Hp)(Ca:aN)(ex:O aN),SE (fH X scope cl (tn++P) B I Ca ex) C elt xe)
  (hs:∀x,ea iter X.env x=pure x):SE X C (.ListComp elt [⟨tg,iter,ifs,0⟩] scope pos) (.comp tn.length one caps it xs xe):=
 PE.imp (Po f S hi hg F ht he hs) (yJ R λ_ _ _=>trivial)
def Dr{f:rC}(h0:i≠0)(hN:X.N.Nodup)(R:X.N[i]?=Y x)(hx:Loc X.env.scope x)(F:X.calm=U)(S:jT X scope tn cn caps)(hi:SI X C tg iter it)(I:qM tn.length g)(tgc:Xl X.K tn.length one g)
  (hg:∀(cl:O (aa×aN))(B:ao)(P:Hp)(Ca:aN)(ex:O aN),PG (fH X scope cl (tn++cn) B P Ca ex) tg g)
  (ht:∀(cl:O (aa×aN))(B:ao)(P:Hp)(Ca:aN)(ex:O aN),Nx (fH X scope cl (tn++cn) B P Ca ex) ifs (XW X.K C xs))
  (he:∀(cl:O (aa×aN))(B:ao)(P:Hp)(Ca:aN)(ex:O aN),SE (fH X scope cl (tn++cn) B P Ca ex) C elt xe)
  (hsw:ez (.ListComp elt [⟨tg,iter,ifs,0⟩] scope pos) (Y (.Name x pos')) f.line X.env=pure U)
  (hs:∀x,ea iter X.env x=pure x)(hf:X.fn x=U\/X.env.scope.names.lookup x=Y .local) :
  SS X C (.Assign [.Name x pos'] (.ListComp elt [⟨tg,iter,ifs,0⟩] scope pos) f) (.set i (.comp tn.length one caps it xs xe)):=
 PS.imp (DH hN R hx F S hi hg I ht he hsw hs hf) (A8 h0 (yJ tgc λ_ _ _=>trivial))
end
def SG(K:Fg)(one:cc)(f:O T)(g:TG):Prop:=∀c H₀ F H σ e d x a Q,Rl K c H₀ F H σ e->Rep K F d x->eO one f d e=Y a->(∀b,Rl K c H₀ F H b a->Q b H)->g x σ H Q
def Oc{K:Fg}:SG K U [i] (lp i):=λb H₀ F H σ c d x a Q R r hb k=>by
 simp only[eO,jL]at hb;subst hb;exact k _ (R.zq r)
def gNs:O T->SJ
 |[]=>Iu
 |i::is=>yw (lp i) (gNs is)
theorem L9{K:Fg}:∀(f:O T){σ:St}{ρ:cT},Rl K C H₀ F H σ ρ->∀ds:O Dat,Z ds=Z f->(∀B,Rl K C H₀ F H B (qp f ds ρ)->Q B H)->∀vs,de K F ds vs->gNs f vs σ H Q
 |[],σ,ρ,R,ds,a,k,vs,r=>by
   cases ds with
   |nil=>exact⟨r,k _ R⟩
   |cons _ _=>cases a
 |i::is,σ,ρ,R,ds,a,k,vs,r=>by
   cases ds with
   |nil=>cases a
   |cons d ds=>
     obtain⟨v,w,rfl,b,c⟩:=r;exact⟨v,w,W,L9 is (R.zq b) ds (by simpa using a) k w c⟩
def JO{K:Fg}:SG K J f (L8 K f.length (gNs f)):=λg H₀ F H σ h d x c Q R r hb k=>by
 simp only[eO]at hb
 cases d with
 |tup e=>
   dsimp only at hb;split at hb
   .rename_i b;cases hb;obtain⟨a,vs,rfl,t,r⟩:=r;exact⟨a,vs,W,(t.mono R.step.good.sub).sq,by rwa[r.length],(L9 f R e b k vs r)⟩
   .cases hb
 |_=>cases hb
section
variable{X:Cx}{iter:a9}{pos:rC}
def Mq{K:Fg}(R:Rl K I H₀ F H σ ρ)(h:ZI C (.rng es) ρ=Y (items,f))
  (k:∀J' F1 B,cy F F1->Rl K I H₀ F1 B σ f->nQ K (wD (.rng es) F1) J' items->Q J' B):gI K C (.rng es) σ H Q:=by
 obtain⟨e,h1,h⟩:=eT h;cases h;obtain⟨c,d,b⟩:=R.jo;refine⟨_,_,c,h1,b.step.good,b.full,λJ' F1 B st ok=>?_⟩;have a:=Step.shrink R.step.good d st;exact k J' _ B a.ff (R.moved a) ok
def Mr{K:Fg}(R:Rl K I H₀ F H σ ρ)(h:(CP C it (xT (nu is ρ))).map (λds=>(ds,nu is ρ))=Y (items,f))
  (k:∀J' F1 B,cy F F1->Rl K I H₀ F1 B σ f->nQ K (wD it F1) J' items->Q J' B):gI K C it σ H Q:=by
 obtain⟨ds,h1,h⟩:=eT h;cases h;obtain⟨a,s2,R2⟩:=R.freeze is;exact⟨_,_,a,h1,R2.step.good,R2.xT,λJ' F1 B st ok=>k J' F1 B (s2.trans st.ff) (R2.moved st) ok⟩
def qa{K:Fg}{F1:Hp}{D:Ends}(tgs:SG K one ts g)(s1:cy F F1)(R1:Rl K Fz H₀ F1 H1 σ ρ')(le:∀P,cy F1 P->cy F0 P)(ok:nQ K F0 J' items)
  (h:iw (eO one ts) (dI C xs) items ρ'=Y out)(k:sH K Fz H₀ F D out):∃R:T->T->St->Hp->Prop,(∃m,R 0 m σ H1)/\∀i m σ H,R i m σ H->
   (J'.stop i H/\D.nx σ H)\/(J'.go i H/\∃N:St->Hp->Prop,(∀O' H',N O' H'->∃S,S<m/\R (i+1) S O' H')/\∀x H',J'.yld i H x H'->g x σ H' λσ2 H2=>gSs K C xs { D with nx:=N,ct:=N,bk:=D.nx } σ2 H2):=by
 refine⟨λi m σ H=>∃F M,Rl K Fz _ F H σ M/\cy F1 F/\iw (eO _ ts) _ (items.drop i) M=Y _/\m=Z items - i/\i<=Z items,⟨_,F1,_,R1,cy.refl _,h,W,aU _⟩,?_⟩;rintro i m σ2 H2 ⟨P,n,R2,s2,hl,rfl,p⟩;clear R1 h; obtain⟨q,Y2⟩:=ok P H2 R2.step.good (le P s2);by_cases a:i<Z items
 .obtain⟨go,B⟩:=q i _ (ai a);refine .inr ⟨go,λO' H'=>∃S,S<Z items - i/\∃F M,Rl K Fz _ F H' O' M/\cy F1 F/\iw (eO _ ts) _ (items.drop _) M=Y _/\S=Z items - (i+1)/\i+1<=Z items,λO' H' z=>z,λx w E=>?_⟩;obtain⟨y,c,G⟩:=B x w E;rw[fj a]at hl;obtain⟨f,r,hl⟩:=bT hl;obtain⟨o,ho,hl⟩:=bT hl;refine tgs Fz _ y w _ n _ x f _ (R2.moved c) G r λI Q=>?_;have b :=s2.trans c.ff;refine⟨Fz,_,y,f,o,ho,Q,?_⟩
  clear tgs R2 s2 c G r ho Q; cases o with
  |nx j=>exact λs A l t u=>⟨_,lQ (ws a) (wt (aE a)),s,j,u,b.trans t,hl,W,a⟩
  |rt d fr=>
    cases hl;exact k
  |rl d j=>
    cases hl;exact λv s A l t u=>k v s A l ((s1.trans b).trans t) u
 .have e :=aH p (cj a);subst e;rw[uW]at hl;cases hl;exact .inl ⟨Y2 _ (aq _),k P H2 _ (s1.trans s2) R2⟩
def J1(hp:qz (aC X.prog X.w) X.A X.env X.xe)(hc:X.calm=U)(hi:SI X C tg iter it)(I:∀a,it≠.itv a)(f:PG X tg g)(B:SG X.K one P g)(hb:Jl X C body xs)
  (hs:∀x,ea iter X.env x=pure x):SS X C (.For tg iter body [] pos) (.loop one P it xs):=
 PS.imp (DJ hp hc hi f hb hs) λD σ H c=>by
  obtain⟨l,H₀,F,n,out,h,R,k⟩:=c;obtain⟨⟨items,i⟩,h1,h⟩:=bT h;have fin:∀j F1 b,cy F F1->Rl _ l _ F1 b σ i->nQ _ (wD it F1) j items->_:=λj F1 b s1 d ok=>qa B s1 d (λe s=>BX s) ok h k
  cases it with
  |itv a=>exact absurd rfl (I a)
  |rng m=>exact Mq R h1 fin
  |zip m=>exact Mr R h1 fin
def Ox(hp:qz (aC X.prog X.w) X.A X.env X.xe)(hc:X.calm=U)(he:SE X C iter xe)(I:PG X tg g)(B:SG X.K one P g)(hb:Jl X C body xs)
  (hs:∀x,ea iter X.env x=pure x):SS X C (.For tg iter body [] pos) (.loop one P (.itv xe) xs):=
 PS.imp (DJ hp hc (PI.or (PI.or (zz he) (KJ he)) (KL he)) I hb hs) λD σ H j=>by
  refine ac λ_ l=>?_;obtain⟨z,H₀,F,E,out,h,R,k⟩:=j;obtain⟨⟨items,o⟩,h1,h⟩:=bT h;obtain⟨⟨d,fr,q⟩,h2,h3⟩:=bT h1;clear h1; obtain⟨G,c,u⟩:=eT h3;clear h3; cases u
  apply l;cases d with
  |lst y=>
    cases c;refine .inl (.inl (zU R h2 λv Fm m n a b st r f=>?_));obtain⟨p,vs,rfl,t,e⟩:=r;exact⟨p,W,⟨vs,st.good.sub.seq t⟩,qa B (a.trans st.ff) (b.moved st) (λi s=>s) (t9 t e) h k⟩
  |tup y=>
    cases c;refine .inl (.inr (zU R h2 λv Fm m n a b st r f=>?_));obtain⟨p,vs,rfl,t,e⟩:=r;exact⟨p,W,⟨vs,(t.mono st.good.sub).sq⟩,qa B (a.trans st.ff) (b.moved st) (λi s=>s) (BJ t e) h k⟩
  |str x=>
    cases c;refine .inr (zU R h2 λv Fm m n a b st r f=>?_);clear R h2 f; cases r;exact⟨x,W,qa B (a.trans st.ff) (b.moved st) (λi s=>s) BK h k⟩
  |_=>cases c
def JY(hp:qz (aC X.prog X.w) X.A X.env X.xe)(hc:ST X C S P)(hb:Jl X C body xs):SS X C (.While S body [] pos) (.SX P xs):=
 PS.imp (KC hp hc hb) λD σ H B=>by
  refine ac λ_ V=>?_;obtain⟨M,H₀,F,K,out,h,R,k⟩:=B;apply V;have h:pW (λK=>(be C P _).bind _) _ kQ K=Y _:=h;generalize kQ=n at h;refine⟨λm σ H=>∃F1 K,Rl _ M _ F1 H σ K/\cy F F1/\pW (λK=>(be C P (full K)).bind _) _ m K=Y _,⟨n,F,K,R,cy.refl _,h⟩,?_⟩;rintro m g I ⟨F1,i,j,s1,a⟩
  cases m with
  |zero=>cases a
  |succ m=>
    obtain⟨b,l,a⟩:=bT a;obtain⟨⟨d,fr⟩,h1,E⟩:=bT l;clear l; obtain⟨G,N,s⟩:=j.jo;refine⟨_,d,fr,b,h1,E,G,s.step.good,s.full,λJ' H2 st=>?_⟩;have nU:=Step.shrink j.step.good N st;clear h1 E N s st; cases b with
    |false=>
      apply Ee;cases a;exact k _ H2 g (s1.trans nU.ff) (j.moved nU)
    |true=>
      apply Ec;obtain⟨o,ho,a⟩:=bT a;refine⟨λc Q=>∃t,t<m+1/\∃F1 K,Rl _ M _ F1 Q c K/\cy F F1/\pW (λK=>(be C P _).bind λx=>gw _) _ t K=Y _,λc Q z=>z,?_⟩;refine⟨M,_,_,i,o,ho,(j.moved nU),?_⟩;have u:=s1.trans nU.ff
      clear j s1 nU ho; cases o with
      |nx e=>exact λp y f q r=>⟨m,aq _,p,e,r,u.trans q,a⟩
      |rt d fr=>
        cases a;exact k
      |rl d e=>
        cases a;exact λv p y f q r=>k v p y f (u.trans q) r
def TB(he:SE X C e xe)(B:SG X.K J S tg')(O':PG X P tg')
  (hs:gN [P] e pos.line X.env=pure J)(I:gU [P] e X.env=pure L)(h1:(ek [P] X.env).map (·.2)=[hW P X.env]):SS X C (.Assign [P] e pos) (.unp S xe):=
 PS.imp (DK he O' hs I h1) λD σ H b=>by
  refine ac λ_ l=>?_;obtain⟨q,H₀,F,s,out,h,R,k⟩:=b;obtain⟨⟨d,fr,m⟩,h1,h⟩:=bT h
  apply l;cases d with
  |tup n=>
    have h:(if Z n=(Z S) then Y (Out.nx (qp S n m))else L)=Y _:=h;split at h
    .rename_i c;cases h;refine zU R h1 λv Fm o p g i st r f=>?_;refine B q _ o p σ _ _ v (qp S n _) _ (i.moved st) r ?_ λa j=>k o p a (g.trans st.ff) j;simp only[eO];rw[a5 c]
    .cases h
  |_=>cases h
end
section
variable{K:Fg}{base:bJ}
def Ws{st:iE}(F:Xs K x qual st f fd)(S:lV N ps (bE st))(B:Z ps<=Z N)
  (I:∀(cdv:ak)(A:bP)(outer:O C8)(s:ao)(H:Hp)(E:XK),i7 k (A.deeper (f7 qual (bE st) s.heap.objs.size f cdv))->
   Jl (pJ vq P w K mg base N qual (bE st) f cdv A outer s H E).yk C (i5 st) body):jx P w K mg base vq (k+1) f fd ps (pf K ps.length (QG C ps.length N.length body)):=by
 refine F.ok S (λvs H Q E h=>h.1) λcdv A outer s H vs Q E b h=>⟨_,I _ A _ s H E b,?_⟩
 refine ac λ_ u=>?_;obtain⟨hl,y,d,fr,he,D,g,r,a⟩:=h;apply u;unfold QG at he;split at he
 .rename_i c;obtain⟨o,ho,he⟩:=bT he;refine⟨D,⟨H,L⟩,D,_,o,ho,⟨Step.refl g,?_,λi G q=>?_,λ_ _ _ z=>(nomatch z),λ_=>[],λi G q=>?_,λi j d1 d2 e p t=>?_⟩,?_⟩
  .unfold L2.start;simp[hl,c]
  .have hi:i<Z y:=by
    by_cases hi:i<Z y
    .exact hi
    .rw[aQ (by simpa using hi),bI]at q;split at q<;>cases q
   rw[aR (by simpa using hi),aV]at q;refine ac λ_ u=>?_;obtain⟨d2,M,V⟩:=eT q;cases V;obtain⟨v,X,l⟩:=r.get M;apply u;refine⟨v,?_,l⟩;unfold L2.start;rw[aR (by simp_all),aV,X];rfl
  .exfalso;by_cases hi:i<Z y
   .rw[aR (by simpa using hi)]at q
    simp_all
   .rw[aQ (by simpa using hi),bI]at q;split at q<;>cases q
  .simp
  .clear u hl g r c ho; cases o with
   |nx ρ'=>
     cases he;exact λF' H' m s' R=>a _ F' H' R.step W bx
   |rt G n=>
     cases he;exact a
   |rl _ _=>cases he
 .cases he
end
theorem cZ.take{K:Fg}:∀(n:T){ds:O Dat}{vs:O V}{S:O aN},cZ K H ds vs S->∃B C,cZ K H (ds.take n) (vs.take n) B/\cZ K H (ds.drop n) (vs.drop n) C/\S=B++C
 |0,ds,vs,S,h=>⟨[],S,⟨W,W⟩,h,W⟩
 |n+1,[],vs,S,h=>by
   obtain⟨rfl,rfl⟩:=h;exact⟨[],[],⟨W,W⟩,⟨W,W⟩,W⟩
 |n+1,d::ds,vs,S,b=>by
   refine ac λ_ j=>?_;obtain⟨v,r,B,C,e,h1,h2,q⟩:=b;subst e q;obtain⟨a,c,f,g,i⟩:=cZ.take n h2;apply j;exact⟨_,c,⟨v,_,B,a,W,h1,f,W⟩,g,by simp_all⟩
theorem cZ.setAt{K:Fg}{T':O aN}(I:kW K H R P T'):∀(n:T){ds:O Dat}{vs:O V}{S:O aN},n<Z ds->cZ K H ds vs S->∃B F C,cZ K H (ds.set n R) (vs.set n P) (B++T'++C)/\S=B++F++C
 |n,[],vs,S,a,h=>absurd a (by simp)
 |0,d::ds,vs,S,_,b=>by
   obtain⟨v,r,B,F,e,h1,h2,q⟩:=b;subst e q;exact⟨[],B,F,⟨P,r,T',F,W,I,h2,by simp⟩,by simp⟩
 |n+1,d::ds,vs,S,a,b=>by
   obtain⟨v,r,B,F,e,h1,h2,q⟩:=b;subst e q;obtain⟨c,g,f,i,j⟩:=cZ.setAt I n (by simpa using a) h2;refine⟨B++c,g,f,⟨v,_,B,_,W,h1,i,by simp⟩,by rw[j];simp⟩
section
variable{K:Fg}
def Rl.mut(R:Rl K Fz H₀ F H σ ρ)(S:Ow K H₀.h F H σ ρ Ss)(hi:ρ[i]?=Y (Y (d,U)))(B:σ[i]?=Y (Y v))
  (hl:l∈Ss i)(I:IU o')(o:kW K (upd H l o') d' v S')(nd:S'.Nodup)(P:∀a∈S',a∈Ss i\/(F a=L/\H₀.h a=L/\∀(j:T)d2,ρ[j]?=Y (Y (d2,U))->a∉Ss j)) :
  Rl K Fz H₀ F (upd H l o') σ (ρ.set i (Y (d',U))):=by
 obtain⟨w,G,x,M,p⟩:=S.own i d hi;obtain⟨ol,r,mul⟩:=x.uQ _ l hl;refine⟨⟨⟨λa u q=>?_,λa us q=>?_⟩,R.step.ff,λa u q=>?_,R.step.un⟩,by simpa using R.len,λj d2 q=>?_,λd2 s q=>?_,λj=>if j=i then S' else Ss j,λj d2 q=>?_,λj k d1 d2 n y t=>?_⟩
 .rw[cz (gP q ((p l hl).1))];exact R.step.good.sub a u q
 .by_cases ha:a=l
  .subst ha;rw[bK]at q;cases q;exact I.elim
  .rw[cz ha]at q;exact R.step.good.tup a us q
 .rw[cz (gP q ((p l hl).2))];exact R.step.hh a u q
 .rcases dc q with⟨rfl,e⟩|⟨b,g⟩
  .cases e
  .exact R.val j d2 g
 .clear S B hl I o nd P x p r mul; rcases dc q with⟨rfl,e⟩|⟨b,g⟩
  .exact R.keep _ s hi
  .exact R.keep _ s g
 .rcases dc q with⟨rfl,e⟩|⟨b,g⟩
  .cases e;rw[a5 W];refine⟨v,B,o,nd,λa m=>?_⟩
   rcases P a m with m|m
   .exact p a m
   .exact⟨m.1,m.2.1⟩
  .rw[cb (cB b)];obtain⟨w,A,C,D,E⟩:=S.own j d2 g;exact⟨w,A,C.upd (λvs z=>by rw[r]at z;cases z;exact mul) d2 (S.sep i j d d2 b hi g l hl),D,E⟩
 .intro a m
  rcases dc y with⟨rfl,e⟩|⟨h1,f⟩
  .rw[a5 W]at m
   rcases dc t with⟨x,_⟩|⟨h2,c⟩
   .exact absurd x n
   .rw[cb (cB h2)]
    rcases P a m with m|m
    .exact S.sep _ k d d2 h2 hi c a m
    .exact m.2.2 k d2 c
  .rw[cb (cB h1)]at m
   rcases dc t with⟨rfl,e⟩|⟨h2,c⟩
   .rw[a5 W];intro m2
    rcases P a m2 with m2|m2
    .exact S.sep _ j d d1 h1 hi f a m2 m
    .exact m2.2.2 j d1 f m
   .rw[cb (cB h2)];exact S.sep j k d1 d2 n f c a m
def Step.X6(st:Step F H C f)(g:Good F H)(B:∀a∈S,H a=L)(o:cZ K f ds vs S):Step F H (uz C S) f:=by
 refine⟨⟨λa d q=>?_,λa vs q=>?_⟩,λa d q=>?_,st.hh,λa d q n=>?_⟩
 .by_cases m:a∈S
  .rw[ur m]at q;cases q
  .rw[jv m]at q;exact st.good.sub a d q
 .rw[jv λm=>?_]
  .exact st.good.tup a vs q
  .obtain⟨u,b,c⟩:=o.uQ _ a m;rw[q]at b;cases b;exact c
 .rw[jv λm=>?_]
  .exact st.ff a d q
  .rw[g.sub.free (B a m)]at q;cases q
 .by_cases m:a∈S
  .exact ur m
  .rw[jv m];exact st.un a d q n
def zV(R:Rl K P H₀ F H σ ρ)(h:pG C es (M.full ρ)=Y (ds,U))
  (k:∀vs I B S,Step F H I B->cZ K B ds vs S->S.Nodup->(∀a∈S,H a=L/\I a=L)->Q vs B):gF K C es σ H Q:=by
 obtain⟨d,g,c⟩:=R.jo;refine⟨_,ds,U,h,d,c.step.good,c.full,λvs F1 e st r f=>?_⟩;obtain⟨S,n,b,o⟩:=f W;exact k vs _ e S (Step.X6 (Step.shrink R.step.good g st) R.step.good b o) o n λa m=>⟨b a m,ur m⟩
end
noncomputable def VY:V->ar Key
 |.int i=>Y (.inl i)
 |.str x=>Y (.inr x)
 |_=>L
def LD(h:VY v=Y k):v=kV k:=by
 cases v<;>first|(cases h;rfl)|cases h
def Qh(k:Key):VY (kV k)=Y k:=by cases k<;>rfl
noncomputable def tQ(k:Key)(y:V):O (Key×V)->O (Key×V)
 |[]=>[(k,y)]
 |p::r=>if p.1=k then(p.1,y)::r else p::tQ k y r
theorem Ft:∀(r:O (Key×V)),(r.any λB=>decide (B.1=k))=J->r.map (λB=>if B.1=k then(B.1,y)else B)=r
 |[],_=>rfl
 |p::r,h=>by
   rw[rP,Bool.or_eq_false_iff]at h;rw[aI,cb (of_decide_eq_false h.1),Ft r h.2]
theorem FA:∀(f:O (Key×V)),Bq k (f.map (·.1))=U->putK f k y=tQ k y f
 |[],_=>rfl
 |p::r,h=>by
   simp only[aI,Bq]at h;by_cases e:p.1=k
   .rw[a5 e]at h
    have h2:(r.any λa=>decide (a.1=k))=J:=by
     simp only[gZ]at h;rwa[List.any_map]at h
    unfold putK tQ;rw[a5 e,a5 (by rw[rP,c0 e];rfl),aI,a5 e,Ft r h2]
   .rw[cb e]at h;unfold tQ;rw[cb e,<-(FA (y:=y) r h)];unfold putK;rw[rP,c4 e,Bool.false_or];split
    .rw[aI,cb e]
    .rfl
theorem x9:∀(f:O (Key×V))(ds:O Dat),Z ds=Z f->(tQ k y f).map (·.1)=(putD k d (f.map (·.1)) ds).1
 |[],ds,h=>by
   cases ds with
   |nil=>rfl
   |cons _ _=>cases h
 |p::r,[],h=>by cases h
 |p::r,e::ds,h=>by
   have a:=x9 (k:=k) (y:=y) (d:=d) r ds (by simpa using h);simp only[tQ,aI,putD];by_cases q:p.1=k
   .rw[a5 q,a5 q];rfl
   simp_all
theorem cZ.put{K:Fg}{T':O aN}(o:kW K H d y T')(B:T'.Nodup):∀(F:O (Key×V)) (ds:O Dat) (S:O aN),cZ K H ds (F.map (·.2)) S->S.Nodup->(∀a∈S,a∉T')->
  ∃C,cZ K H (putD k d (F.map (·.1)) ds).2 ((tQ k y F).map (·.2)) C/\C.Nodup/\∀a∈C,a∈S\/a∈T'
 |[],[],S,os,f,c=>⟨T',.one o,B,λa m=>.inr m⟩
 |[],e::ds,S,os,f,c=>by
   obtain⟨v,r,i,g,q,_⟩:=os;cases q
 |p::r,[],S,os,f,c=>by
   cases os.1
 |p::r,e::ds,S,os,f,c=>by
   refine ac λ_ w=>?_;obtain⟨v,u,i,g,q,l,j,rfl⟩:=os;cases q;apply w;have h:=cO.mp f;simp only[tQ,aI,putD];by_cases q:p.1=k
   .rw[a5 q,a5 q];refine⟨_,⟨y,r.map _,T',g,W,o,j,W⟩,cO.mpr ⟨B,h.2.1,λa m b m2 z=>c b (aw _ m2) (z▸m)⟩,λa m=>?_⟩
    grind
   .rw[cb q,cb q];obtain⟨C,n,s,t⟩:=cZ.put o B r ds g j h.2.1 λa m=>c a (aw _ m);refine⟨_,⟨_,(tQ k y r).map _,i,C,W,l,n,W⟩,cO.mpr ⟨h.1,s,λa m b m2 z=>?_⟩,λa m=>?_⟩
    .subst z
     rcases t a m2 with z|z
     .exact h.2.2 a m a z W
     .exact c a (aF _ m) z
    grind
noncomputable def Vf:HO->O V->ar HO
 |.lst a,[y]=>if Z a<aJ then Y (.lst (a++[y]))else L
 |_,_=>L
def K8:HO->O V->ar HO
 | .lst b,l=>match l with
   |[y,.int i]=>if -1000000<=i/\i<=1000000 then(T9 y i b).map .lst else L
   |_=>L
 | .dK a,l=>match l with
   |[y,v]=>(VY v).bind λk=>if Z a<aJ then Y (.dK (putK a k y))else L
   |_=>L
 |_,_=>L
def Bo:Jm->HO->O V->ar HO
 |.app,a,l=>Vf a l
 |.seti,a,l=>K8 a l
 |_,_,_=>L
def jS{T':O aN}(nd:(S++T').Nodup):S.Nodup/\T'.Nodup/\∀a∈S,a∉T':=by
 obtain⟨h1,h2,h3⟩:=cO.mp nd;exact⟨h1,h2,λa m n=>h3 a m a n W⟩
def jG{S T':O aN}(h1:S.Nodup)(h2:T'.Nodup)(h3:∀a∈S,a∉T'):(S++T').Nodup:=cO.mpr ⟨h1,h2,λa m b n z=>h3 a m (z▸n)⟩
def G6(K:Fg)(H:Hp)(f:Jm)(B:Dat)(v:V)(vs:O V)(S T':O aN):Prop:=
 ∃l b c d,v=.ref l/\l∈S/\H l=Y b/\Bo f b vs=Y c/\IU c/\kW K (upd H l c) B v d/\d.Nodup/\∀a∈d,a∈S\/a∈T'
section
variable{K:Fg}{T':O aN}
def PY{d1:Dat}(hl:H l=Y (.lst xs))(os:cZ K H es xs F)(nd:(l::F).Nodup)(I:kW K H d1 y T')(nt:T'.Nodup)(B:∀a∈l::F,a∉T')(C:Z es<aJ):G6 K H .app (.lst (es++[d1])) (.ref l) [y] (l::F) T':=by
 have f:=a6.mp nd;have d :=B l jM;refine⟨l,_,.lst _,_,W,jM,hl,by simp only[Bo,Vf];rw[a5 (by rwa[os.length])],trivial,⟨l,_,_,W,bK,(os.upd (λvs z=>by rw[hl]at z;cases z) _ f.1).append (.one (I.upd (λvs z=>by rw[hl]at z;cases z) _ d)),W⟩,?_,λb m=>?_⟩
 .refine a6.mpr ⟨λm=>?_,jG f.2 nt λb m=>B b (jY _ m)⟩
  rcases ax.mp m with m|m
  .exact f.1 m
  .exact d m
 .clear hl os nd I nt B C f d; rcases aA.mp m with rfl|m
  .exact .inl jM
  .rcases ax.mp m with m|m
   .exact .inl (jY _ m)
   .exact .inr m
def V6(h:rJ n i=Y k):k<n:=(zK h).2.1
def PX{d1:Dat}(hl:H l=Y (.lst xs))(os:cZ K H es xs F)(nd:(l::F).Nodup)(I:kW K H d1 y T')(nt:T'.Nodup)(B:∀a∈l::F,a∉T')(C:-1000000<=i/\i<=1000000)(h2:rJ es.length i=Y k):G6 K H .seti (.lst (es.set k d1)) (.ref l) [y,.int i] (l::F) T':=by
 have n :=B l jM;obtain⟨f,r,g,o,rfl⟩:=os.setAt I k (V6 h2);have h:=jS (a6.mp nd).2;have d:l∉f++T'++g:=λm=>by
  grind
 refine⟨l,_,.lst _,_,W,jM,hl,?_,trivial,⟨l,_,_,W,bK,o.upd (λvs z=>by rw[hl]at z;cases z) _ d,W⟩,?_,λb m=>?_⟩
 .simp only[Bo,K8];rw[a5 C];unfold T9;rw[os.length,h2];rfl
 .refine a6.mpr ⟨d,jG (jG (jS h.1).1 nt λb m=>B b (jY _ (aF _ (aF _ m)))) h.2.1 λb m m2=>?_⟩
  grind
 grind
end
def Lj{K:Fg}{T':O aN}{d1:Dat}(hl:H l=Y (.dK C))(os:cZ K H ds (C.map (·.2)) F)(nd:(l::F).Nodup)(f:kW K H d1 y T')(nt:T'.Nodup)(B:∀a∈l::F,a∉T')(I:Z (C.map (·.1))<aJ/\Bq k (C.map (·.1))=U) :
  G6 K H .seti (.dct (putD k d1 (C.map (·.1)) ds).1 (putD k d1 (C.map (·.1)) ds).2) (.ref l) [y,kV k] (l::F) T':=by
 have h:=a6.mp nd;obtain⟨g,i,j,n⟩:=cZ.put f nt C ds F os h.2 λa m=>B a (jY _ m)
 have d:l∉g:=λm=>by
  rcases n l m with z|z
  .exact h.1 z
  .exact (B l jM) z
 refine⟨l,_,.dK _,_,W,jM,hl,?_,trivial,⟨l,_,g,W,bK,x9 C ds (by simpa using os.length.symm),i.upd (λvs z=>by rw[hl]at z;cases z) _ d,W⟩,a6.mpr ⟨d,j⟩,λb m=>?_⟩
 .simp only[Bo,K8,Qh,bp];rw[a5 (by simpa using I.1),FA C I.2]
 grind
def zC{K:Fg}{T':O aN}(h1:op≠.ext)(h:mD op d ds=Y I)(o:kW K H d v S)(nd:S.Nodup)(a:cZ K H ds vs T')(nt:T'.Nodup)(B:∀a∈S,a∉T'):G6 K H op I v vs S T':=by
 have hd:(∃F,d=.lst F)\/(op=.seti/\∃G ws,d=.dct G ws):=by
  clear o nd a nt B; cases d with
  |lst F=>exact .inl ⟨F,W⟩
  |dct G ws=>cases op<;>first|exact absurd rfl h1|exact .inr ⟨W,G,ws,W⟩|cases h
  |any=>cases op<;>first|exact absurd rfl h1|cases h
  |_=>cases op<;>cases h
 rcases hd with hd|⟨rfl,G,ws,rfl⟩
 rotate_left
 .obtain⟨l,P,M,rfl,hl,rfl,os,rfl⟩:=o
  cases ds with
  |nil=>cases h
  |cons d1 ds=>
    cases ds with
    |nil=>cases h
    |cons d0 ds=>
      cases ds with
      |cons _ _=>cases h
      |nil=>
        obtain⟨k,hk,h⟩:=bT h;split at h
        .rename_i b;refine ac λ_ E=>?_;cases h;clear h; obtain⟨y,r,t,u,e,c,m,q⟩:=a;obtain⟨w,A,z,n,p,j,f,g⟩:=m;obtain⟨rfl,rfl⟩:=f
         have C:w=kV k/\z=[]:=by
          clear nt hl os nd B b E e c q p g; cases d0 with
          |int i=>cases hk;exact j
          |str x=>cases hk;exact j
          |_=>cases hk
         clear hk j; obtain⟨rfl,rfl⟩:=C;apply E;rw[aL]at g;clear E; subst e p g;rw[aL]at q;subst q;exact Lj hl os nd c nt B b
        .cases h
 obtain⟨F,rfl⟩:=hd;obtain⟨l,Q,M,rfl,hl,os,rfl⟩:=o
 cases op with
 |ext=>exact absurd rfl h1
 |app=>
   cases ds with
   |nil=>cases h
   |cons d1 ds=>
     cases ds with
     |cons _ _=>cases h
     |nil=>
       obtain⟨y,r,t,u,e,c,f,q⟩:=a;obtain⟨rfl,rfl⟩:=f;rw[aL]at q;subst e q;simp only[mD,S7,JH,S6]at h;split at h
       .rename_i b;cases h;exact PY hl os nd c nt B b
       .cases h
 |seti=>
   cases ds with
   |nil=>cases h
   |cons d1 ds=>
     cases ds with
     |nil=>cases h
     |cons d0 ds=>
       cases ds with
       |cons _ _=>cases d0<;>cases h
       |nil=>
         cases d0 with
         |int i=>
           obtain⟨y,r,t,u,e,c,m,q⟩:=a;obtain⟨w,A,z,n,p,j,f,g⟩:=m;obtain⟨rfl,rfl⟩:=f;obtain⟨rfl,rfl⟩:=j;rw[aL]at g;subst e p g;rw[aL]at q;subst q;simp only[mD,S7,JH,S6]at h;split at h
           .rename_i b;obtain⟨N,s,h⟩:=eT h;cases h;obtain⟨k,D,s⟩:=eT s;subst s;exact PX hl os nd c nt B b D
           .cases h
         |_=>cases h
section
variable{X:Cx}{K:Fg}
def Wm(h:gF K C [P,S] σ H Q):gE K C P σ H λx B=>gE K C S σ B λy I=>Q [x,y] I:=by
 refine ac λ_ o=>?_;obtain⟨p,q,al,h,F,g,R,k⟩:=h;obtain⟨⟨d,fr⟩,h1,h⟩:=bT h;obtain⟨⟨r,n⟩,h2,h⟩:=eT h;cases h;obtain⟨⟨d2,c⟩,h3,i⟩:=bT h2;clear h2; cases i;apply o;refine⟨p,d,fr,h1,F,g,R,λv F1 B a e j=>⟨p,d2,c,h3,F1,a.good,R.mono a.ff,λw l I b f m=>k _ l I (a.trans b) ⟨v,_,W,e.mono b.ff,w,[],W,f,W⟩ λz=>?_⟩⟩;simp only[ip,pT,ah]at z;refine fU.cons a.hh b.hh ?_ (fU.cons b.hh (cy.refl _) ?_ .nil)
 .rcases z.1 with z|z
  .exact j z
  .exact .lP a.good z e
 .rcases z.2 with z|z
  .exact m z
  .exact .lP b.good z f
def nj(h:gE K C x σ H Q)(f:∀v B,cy H B->Q v B->I v B):gE K C x σ H I:=by
 obtain⟨b,d,fr,h,F,g,R,k⟩:=h;exact⟨b,d,fr,h,F,g,R,λv c a st r fr=>f v a st.hh (k v c a st r fr)⟩
def Bw(h:pv C (.mut op i es) ρ=Y out) :
  ∃ds d f,pG C es (full ρ)=Y (ds,U)/\ρ[i]?=Y (Y (d,U))/\mD op d ds=Y f/\out=.nx (ρ.set i (Y (f,U))):=by
 obtain⟨⟨ds,al⟩,h3,h⟩:=bT h;by_cases a:al=U
 .subst a
  cases q:ρ[i]? with
  |none=>rw[q]at h;cases h
  |some z=>
    rw[q]at h
    match z,h with
    |some (d,U),h=>
      obtain⟨f,b,c⟩:=eT h;exact⟨ds,d,f,h3,W,b,c.symm⟩
 simp_all
def Bv(h1:op≠.ext){D:Ends}(h:gS K C (.mut op i es) D σ H) :
  ∃l B,σ[i]?=Y (Y (.ref l))/\H l=Y B/\(op≠.seti->∃xs,B=.lst xs)/\gF K C es σ H λvs P=>∃S ob',P l=Y S/\Bo op S vs=Y ob'/\D.nx σ (upd P l ob'):=by
 refine ac λ_ x=>?_;obtain⟨Fz,H₀,F,ρ,out,h,R,k⟩:=h;obtain⟨ds,d,d',h3,hi,b,rfl⟩:=Bw h;clear h; obtain⟨Ss,y⟩:=R.ow;obtain⟨v,V,Q,e3,J'⟩:=y.own i d hi
 have c:∃l B,v=.ref l/\H l=Y B/\(op≠.seti->∃xs,B=.lst xs):=by
  clear x R h3 hi k y V e3 J'; cases d with
  |lst es=>
    obtain⟨l,xs,S',rfl,hl,os,L'⟩:=id Q;exact⟨l,_,W,hl,λ_=>⟨xs,W⟩⟩
  |dct ks ws=>
    obtain⟨l,k_,S',rfl,hl,_⟩:=id Q;refine⟨l,_,W,hl,λe=>?_⟩
    cases op<;>first|exact absurd rfl h1|exact absurd _ h2|exact absurd rfl e|cases b
  |any=>cases op<;>first|exact absurd rfl h1|exact absurd _ h2|cases b
  |_=>cases op<;>cases b
 obtain⟨l,B,rfl,hl,f⟩:=c;apply x;refine⟨l,B,V,hl,f,zV R h3 λvs F' H' T' st ow t s=>?_⟩;have z:∀a∈Ss i,a∉T':=λa m m2=>by
  obtain⟨u,A,_⟩:=Q.uQ _ a m
  simp_all
 refine ac λ_ x=>?_;obtain⟨M,S,ob',N,ev,g,n,o,E,G,p,r⟩:=zC h1 b (Q.mono st.hh) e3 ow t z;cases ev;apply x;refine⟨S,_,n,o,k F' _ σ st.ff ((R.moved st).mut (y.moved st) hi V g E G p λa m=>?_)⟩
 rcases r a m with m|m
 .exact .inl m
 .refine .inr ⟨(s a m).2,R.step.hh.free (s a m).1,λj d2 q m2=>?_⟩;obtain⟨w,_,I,_⟩:=y.own j d2 q;obtain⟨u,A,_⟩:=I.uQ _ a m2
  simp_all
def Ov{st:iE}(h1:op≠.ext)(h3:op≠.seti)(S:∀l B P vs H Q,H l=Y B->Bo op B vs=Y P->(∀u,Q u (upd H l P))->r (.ref l) vs H Q)
  (I:PS X st (AU (Td X.K "list" r (rT i) (gF X.K C es)))):SS X C st (.mut op i es):=PS.imp I λD σ H h=>by
 obtain⟨l,b,j,hl,a,g⟩:=Bv h1 h;obtain⟨m,rfl⟩:=a h3;refine⟨_,j,.inl ⟨W,m,nW.of hl⟩,?_⟩;refine ac λ_ d=>?_;obtain⟨n,o,al,h,F,c,R,k⟩:=g;apply d;exact⟨n,o,al,h,F,c,R,λvs p e st r f=>by obtain⟨B,_,q,s,t⟩:=k vs p e st r f;exact S l B _ vs e _ q s λ_=>t⟩
def Kw:V->V->V->Hp->(Hp->Prop)->Prop:=λo i v H Q=>∃p a k,o=.ref p/\i=kV k/\H p=Y (.dK a)/\Z a<aJ/\Q (upd H p (.dK (putK a k v)))
def Fl(B:X.A.units+1<eE):Xm X (λo i v H Q=>Fv o i v H Q\/Kw o i v H Q):=λh_ s σ H o i v d e u Q I a b c h=>by
 rcases h with h|⟨p,j,k,rfl,rfl,hp,f,q⟩
 .exact set_list h_ s σ H o i v d e u Q I a b c h
 .cases a;exact IF I (Ro.k hp f) b c λl g=>⟨_,g,q⟩
def Ot{st:iE}(B:PS X st (Dq (gE X.K C xe) (Wj (rT i) (gE X.K C xi) (λo i v H Q=>Fv o i v H Q\/Kw o i v H Q)))):SS X C st (.mut .seti i [xe,xi]):=PS.imp B λD σ H h=>by
 obtain⟨l,d,e,hl,_,g⟩:=Bv (by simp) h;refine nj (Wm g) λx u s1 f=>⟨_,e,nj f λy E s2 m=>?_⟩
 obtain⟨n,s,b,a,c⟩:=m
 cases n with
 |lst z=>
   cases y with
   |int k=>
     simp only[Bo,K8]at a;split at a
     .obtain⟨w,p,q⟩:=eT a;clear a; cases q;obtain⟨j,r,rfl⟩:=eT p;exact .inl ⟨l,z,k,j,W,W,b,r,c⟩
     .cases a
   |_=>cases a
 |dK A=>
   obtain⟨k,hk,a⟩:=bT a;split at a
   .rename_i t;cases a;exact .inr ⟨l,A,k,W,LD hk,b,t,c⟩
   .cases a
 |_=>cases a
end
section
def El:∀l B f vs H(Q:VK),H l=Y B->Bo .app B vs=Y f->(∀u,Q u (upd H l f))->Fx (.ref l) vs H Q:=λl B f vs H Q h1 h2 h3=>by
 cases B with
 |lst b=>
   cases vs with
   |nil=>cases h2
   |cons y vs=>
     cases vs with
     |cons _ _=>cases h2
     |nil=>
       simp only[Bo,Vf]at h2;split at h2
       .rename_i a;cases h2;exact⟨l,b,y,W,W,h1,a,h3 _⟩
       .cases h2
 |_=>cases h2
end
def B3{items B:c7 ak}(f:items.size+B.size<=aJ):¬(!items.isEmpty && jj (items.size+B.size))=U:=by
 rw[Lb f];simp
def Mj(l:aN)(items:c7 ak)(n:T)(b:aN)(B:c7 ak)(f:T)(F:ar aN)(zo:c7 (ar ak))(C:¬(!items.isEmpty && jj (items.size+B.size))=U)(I:items.size<=aJ)(P:items.size+B.size<=aJ+1) :
  Meets (jB.«list.extend» ⟨[.ref l,.ref b],[]⟩) (λ_ R s=>s.heap.get? l=Y { cls:=.type "list",dict:=L,data:=.seq items n,slots:=#[] }/\s.heap.get? b=Y { cls:=.type "tuple",dict:=F,data:=.seq B f,slots:=zo }/\R (.ok (.ret eY)) { s with heap:=s.heap.update l (fD λx=>x++B),toks:=s.toks }):=
 .of_wp λprog w A R s h=>by
  obtain⟨hp,g,d,a,os⟩:=s;obtain⟨hl,hb,h⟩:=h
  wp_walk using(rq hl W ),rA hl,rA hb
  exact⟨_,W,h⟩
def Mn(l:aN)(items:c7 ak)(n:T)(b:aN)(B:c7 ak)(f:T)(F:ar aN)(zo:c7 (ar ak))(C:¬(!items.isEmpty && jj (items.size+B.size))=U)(I:items.size<=aJ)(P:items.size+B.size<=aJ+1) :
  Meets (jB.«list.extend» ⟨[.ref l,.ref b],[]⟩) (λ_ R s=>s.heap.get? l=Y { cls:=.type "list",dict:=L,data:=.seq items n,slots:=#[] }/\s.heap.get? b=Y { cls:=.type "list",dict:=F,data:=.seq B f,slots:=zo }/\R (.ok (.ret eY)) { s with heap:=s.heap.update l (fD λx=>x++B),toks:=s.toks }):=
 .of_wp λprog w A R s h=>by
  obtain⟨hp,g,d,a,os⟩:=s;obtain⟨hl,hb,h⟩:=h
  wp_walk using(rq hl W ),rA hl,rA hb
  exact⟨_,W,h⟩
section
variable{K:Fg}
def YQ(K:Fg):V->O V->Hp->VK->Prop:=λx vs H Q=>∃l b c a,x=.ref l/\vs=[.ref b]/\H l=Y (.lst c)/\(nW K H b a\/wW K H b a)/\Z c+Z a<=aJ/\Q .non (upd H l (.lst (c++a)))
def Vt:MtM X "list.extend" (YQ X.K):=by
 intro h_ s σ H x vs v us Q I t w h;obtain⟨l,b,E,m,rfl,rfl,o,f,y,q⟩:=h;cases t;obtain⟨u,rfl,A⟩:=w.one;clear w; cases A;obtain⟨z,C,n,r,hl,e⟩:=I.P8 o
 have fin:∀(a:O ak)(p:T),df m a->EP X h_ σ Q _ { s with heap:=s.heap.update l (fD λx=>x++a.toArray),toks:=p }:=λa p c=>
  ⟨.non,_,I.Zd o e (by simp) (r.append c) (by simp_all),W,q⟩
 have d:∀{a:O ak},df m a->C.toArray.size+a.toArray.size<=aJ:=λc=>by rwa[bF,bF,<-r.length,<-c.length]
 rcases f with f|f
 .refine ac λ_ B=>?_;obtain⟨a,c,⟨j,k,D,hc,hd,hs⟩,_⟩:=I.list f;obtain⟨g,i,data2,zo⟩:=j;subst hc hd hs;apply B;exact PySem.call_meets nF ⟨_,e,W⟩ Nj (Jq _ _) (Mn l _ n b _ k _ zo (B3 (d c)) (by simp_all) (du (d c))) ⟨e,D,fin a _ c⟩
 .refine ac λ_ B=>?_;obtain⟨a,c,⟨j,D,hc,k,hd⟩,_⟩:=I.tuple f;obtain⟨g,i,data2,zo⟩:=j;subst hc hd;apply B;exact PySem.call_meets nF ⟨_,e,W⟩ Nj (Jq _ _) (Mj l _ n b _ k i zo (B3 (d c)) (by exact af (ag hl.symm) z) (du (d c))) ⟨e,D,fin a _ c⟩
def SM(K:Fg)(H:Hp)(f:Dat)(v:V)(vs:O V)(S T':O aN):Prop:=
 ∃l d b c e,v=.ref l/\l∈S/\H l=Y (.lst d)/\vs=[.ref b]/\(nW K H b c\/wW K H b c)/\Z d+Z c<=aJ/\kW K (upd H l (.lst (d++c))) f v e/\e.Nodup/\∀a∈e,a∈S\/a∈T'
def Mm{T':O aN}(hl:H l=Y (.lst xs))(os:cZ K H es xs C)(nd:(l::C).Nodup)(hb:nW K H b zs\/wW K H b zs)(of:cZ K H fs zs zB)(B:∀a∈zB,a∈T')(nt:zB.Nodup)(F:∀a∈l::C,a∉T')(f:Z es+Z fs<=aJ) :
  SM K H (.lst (es++fs)) (.ref l) [.ref b] (l::C) T':=by
 have e:=a6.mp nd;have d :=λm=>F l jM (B l m);refine⟨l,xs,b,zs,_,W,jM,hl,W,hb,by rwa[os.length,of.length],⟨l,_,_,W,bK,(os.upd (λvs z=>by rw[hl]at z;cases z) _ e.1).append (of.upd (λvs z=>by rw[hl]at z;cases z) _ d),W⟩,?_,λa m=>?_⟩
 .refine a6.mpr ⟨λm=>?_,jG e.2 nt λa m m2=>F a (jY _ m) (B a m2)⟩
  grind
 grind
def QD{T':O aN}(h:mD .ext d ds=Y C)(o:kW K H d v S)(nd:S.Nodup)(a:cZ K H ds vs T')(nt:T'.Nodup)(B:∀a∈S,a∉T'):SM K H C v vs S T':=by
 cases d with
 |lst p=>
   obtain⟨l,s,t,rfl,hl,os,rfl⟩:=o
   cases ds with
   |nil=>cases h
   |cons d1 ds=>
     cases ds with
     |cons _ _=>cases d1<;>cases h
     |nil=>
       obtain⟨y,r,j,k,e,f,g,q⟩:=a;obtain⟨rfl,rfl⟩:=g;rw[aL]at q;subst e q
       cases d1 with
       |lst fs=>
         simp only[mD,JH]at h;split at h
         .rename_i c;cases h;obtain⟨b,i,n,rfl,hb,of,rfl⟩:=f;exact Mm hl os nd (.inl (.inl (.inl hb))) of (λa m=>jY _ m) (a6.mp nt).2 B c
         .cases h
       |tup fs=>
         simp only[mD,JH]at h;split at h
         .rename_i c;cases h;obtain⟨b,i,rfl,hb,of⟩:=f;exact Mm hl os nd (.inr hb.sq) of (λa m=>m) nt B c
         .cases h
       |_=>cases h
 |_=>cases h
def Ml{D:Ends}(h:gS K C (.mut .ext i es) D σ H) :
  ∃l B,σ[i]?=Y (Y (.ref l))/\H l=Y (.lst B)/\gF K C es σ H λvs P=>∃xs b S,P l=Y (.lst xs)/\vs=[.ref b]/\(nW K P b S\/wW K P b S)/\Z xs+Z S<=aJ/\D.nx σ (upd P l (.lst (xs++S))):=by
 obtain⟨Fz,H₀,F,ρ,out,h,R,k⟩:=h;obtain⟨ds,d,d',h3,hi,p,rfl⟩:=Bw h;obtain⟨Ss,x⟩:=R.ow;obtain⟨v,Q,V,X,J'⟩:=x.own i d hi
 have c:∃l B,v=.ref l/\H l=Y (.lst B):=by
  clear R h3 hi k x Q X J'; cases d with
  |lst es=>
    obtain⟨l,xs,S',rfl,hl,os,L'⟩:=id V;exact⟨l,xs,W,hl⟩
  |_=>cases p
 obtain⟨l,B,rfl,hl⟩:=c;refine⟨l,B,Q,hl,zV R h3 λvs F' H' T' st ow s r=>?_⟩;have y:∀a∈Ss i,a∉T':=λa m m2=>by
  obtain⟨u,z,_⟩:=V.uQ _ a m
  simp_all
 refine ac λ_ t=>?_;obtain⟨M,xs,b,S,N,ev,e,f,g,A,E,G,n,o⟩:=QD p (V.mono st.hh) X ow s y;cases ev;apply t;refine⟨xs,b,S,f,g,A,E,k F' _ σ st.ff ((R.moved st).mut (x.moved st) hi Q e trivial G n λa m=>?_)⟩
 rcases o a m with m|m
 .exact .inl m
 .refine .inr ⟨(r a m).2,R.step.hh.free (r a m).1,λj d2 q m2=>?_⟩;obtain⟨w,_,I,_⟩:=x.own j d2 q;obtain⟨u,z,_⟩:=I.uQ _ a m2
  simp_all
def TM{st:iE}(B:PS X st (AU (Td X.K "list" (YQ X.K) (rT i) (gF X.K C es)))):SS X C st (.mut .ext i es):=PS.imp B λD σ H h=>by
 obtain⟨l,a,e,hl,g⟩:=Ml h;refine⟨_,e,.inl ⟨W,a,nW.of hl⟩,?_⟩;refine ac λ_ d=>?_;obtain⟨j,m,al,h,F,c,R,k⟩:=g;apply d;exact⟨j,m,al,h,F,c,R,λvs n o st r f=>by obtain⟨p,b,q,s,t,u,v,w⟩:=k vs n o st r f;exact⟨l,b,p,q,W,t,s,u,v,w⟩⟩
end
section
variable{X:Cx}{K:Fg}
theorem yo:∀{ds:O Dat}{q:O Key}{vs:O V},BI ds=Y q->de K F ds vs->vs=q.map kV
 |[],_,_,h,r=>by cases h;exact r
 |d::ds,_,_,h,a=>by
   obtain⟨v,w,e,h1,h2⟩:=a;obtain⟨k,hk,h⟩:=bT h;obtain⟨q,b,h⟩:=eT h;cases h;subst e;rw[aI,<-yo b h2]
   congr 1
   cases d with
   |int i=>cases hk;exact h1
   |str x=>cases hk;exact h1
   |_=>cases hk
theorem FW:∀{ds:O Dat}{q:O N2}{vs:O V},RU ds=Y q->de K F ds vs->NV2 K F q vs
 |[],_,_,h,r=>by cases h;exact r
 |d::ds,_,_,h,f=>by
   obtain⟨v,w,e,h1,h2⟩:=f;obtain⟨k,hk,h⟩:=bT h;obtain⟨q,g,h⟩:=eT h;cases h;subst e;have b:=FW g h2
   cases d with
   |int i=>cases hk;cases h1;exact⟨w,W,b⟩
   |str x=>cases hk;cases h1;exact⟨w,W,b⟩
   |tup l=>
     obtain⟨j,c,hk⟩:=eT hk;cases hk;obtain⟨a,vs,rfl,t,r⟩:=h1;rw[yo c r]at t;exact⟨a,w,W,t,b⟩
   |_=>cases hk
theorem FR:∀{ds:O Dat}{q:O NK}{vs:O V},XM ds=Y q->de K F ds vs->NVs K F q vs
 |[],_,_,h,r=>by cases h;exact r
 |d::ds,_,_,h,f=>by
   obtain⟨v,w,e,h1,h2⟩:=f;obtain⟨k,hk,h⟩:=bT h;obtain⟨q,g,h⟩:=eT h;cases h;subst e;have b:=FR g h2
   cases d with
   |int i=>cases hk;cases h1;exact⟨w,W,b⟩
   |str x=>cases hk;cases h1;exact⟨w,W,b⟩
   |tup l=>
     obtain⟨j,c,hk⟩:=eT hk;cases hk;obtain⟨a,vs,rfl,t,r⟩:=h1;exact⟨a,w,vs,W,t,FW c r,b⟩
   |_=>cases hk
def PU(h:Vm f=Y k)(r:Rep K F f v):∃a,v=.ref a/\NKy K F k a:=by
 cases f with
 |tup b=>
   obtain⟨a,vs,rfl,t,r⟩:=r;exact⟨a,W,vs,t,FR h r⟩
 |_=>cases h
theorem Gh:∀{q:O Key}{us:O ak},df (q.map kV) us->∀h:bJ,tu (Ig X.prog X.w) h q us
 |[],_,w,_=>by cases w;exact .nil
 |k::q,_,w,h=>by
   cases w with
   |cons a b=>exact .cons (wq a) (Gh b h)
theorem tV(I:Inv X h_ σ H s)(g:Good F H):∀{k:O N2}{vs:O V}{us:O ak},NV2 X.K F k vs->df vs us->tu (i2 X.prog X.w) s.heap k us
 |[],_,_,h,w=>by rw[h]at w;cases w;exact .nil
 |.inl k::d,_,_,h,w=>by
   obtain⟨r,rfl,h⟩:=h;cases w with
   |cons q w=>exact .cons (wq q) (tV I g h w)
 |.inr q::d,_,_,h,w=>by
   obtain⟨b,r,rfl,t,h⟩:=h;cases w with
   |cons a w=>
     refine .cons ?_ (tV I g h w);cases(a);obtain⟨e,c,⟨o,h1,h2,n,h3⟩,_⟩:=I.tupR g t;exact⟨b,W,o,_,n,h1,h2,h3,by simpa using Gh c _⟩
theorem tU(I:Inv X h_ σ H s)(g:Good F H):∀{k:O NK}{vs:O V}{us:O ak},NVs X.K F k vs->df vs us->Xo X.prog X.w s.heap k us
 |[],_,_,h,w=>by rw[h]at w;cases w;exact .nil
 |.inl k::e,_,_,h,w=>by
   obtain⟨r,rfl,h⟩:=h;cases w with
   |cons q w=>exact .cons (wq q) (tU I g h w)
 |.inr q::e,_,_,h,w=>by
   obtain⟨b,r,us,rfl,t,a,h⟩:=h;cases w with
   |cons c w=>
     refine .cons ?_ (tU I g h w);cases(c);obtain⟨f,d,⟨o,h1,h2,n,h3⟩,_⟩:=I.tupR g t;exact⟨b,W,o,_,n,h1,h2,h3,by simpa using tV I g a d⟩
def Lf(I:Inv X h_ σ H s)(g:Good F H)(h:NKy X.K F k a):(Y6 X.prog X.w).is s.heap k a:=by
 refine ac λ_ c=>?_;obtain⟨vs,t,r⟩:=h;obtain⟨d,b,⟨o,h1,h2,n,h3⟩,_⟩:=I.tupR g t;apply c;exact⟨o,_,n,h1,h2,h3,by simpa using tU I g r b⟩
end
section
variable{X:Cx}
noncomputable def Ji(B:Dat)(ds:O Dat)(f:O ak)(w:ak):cc:=@decide (∃(i:T) (d:Dat),f[i]?=Y w/\ds[i]?=Y d/\pL d B=U) (nK _)
def Ey(I:Inv X h_ σ H s)(g:Good F H){C:Dat}{ds:O Dat}{vs:O V}{B:O ak}(P:eU 20 ds=U)(r:de X.K F ds vs)(w:df vs B){i:T}{d:Dat}{u:ak}(h1:B[i]?=Y u)(h2:ds[i]?=Y d):Ji C ds B u=pL d C:=by
 have one:∀(j:T)q,B[j]?=Y u->ds[j]?=Y q->q=d:=λj q c b=>by
  obtain⟨v,t,x⟩:=r.get h2;obtain⟨n,e,f⟩:=r.get b;obtain⟨o,k,m⟩:=w.get t;obtain⟨p,a,h⟩:=w.get e;rw[h1]at k;cases k;rw[c]at a;cases a;have:=m.inj h;subst this;exact(zw I g d q (p9 20 _ (lX P h2)) (p9 20 _ (lX P b)) x f).symm
 by_cases hd:pL d C=U
 .rw[hd];exact@c0 _ (nK _) ⟨i,d,h1,h2,hd⟩
 .have:pL d C=J:=by simpa using hd
  rw[this];refine@c4 _ (nK _) λ⟨j,q,c,b,l⟩=>?_;rw[one j q c b]at l;exact hd l
def Ag(I:Inv X h_ σ H s)(g:Good F H)(B:eU 20 ds=U)(r:de X.K F ds vs)(w:df vs f):f.any (Ji C ds f)=ds.any λy=>pL y C:=by
 have hl:Z f=Z ds:=by rw[<-w.length,r.length]
 rw[pU,lE,lE];constructor
 .rintro⟨u,b,h⟩;obtain⟨i,hi,e⟩:=me b;have a:=af hi (ag hl);refine⟨_,bA a,?_⟩;rwa[<-Ey I g B r w (by rw[ai hi,e]) (ai a)]
 .rintro⟨d,hd,h⟩;obtain⟨i,hi,e⟩:=me hd;have a:=af hi (ag hl.symm);refine⟨_,bA a,?_⟩;rwa[Ey I g B r w (ai a) (by rw[ai hi,e])]
def Ew(I:Inv X h_ σ H s)(g:Good F H)(A:bP)(B:A.units+20<eE)(sa:iL 20 R=U)(S:eU 20 ds=U)(O':Rep X.K F R x)(C:RelV x u)(r:de X.K F ds vs)(w:df vs P) :
  ∀y∈P,Hd A s y u (Ji R ds P y):=λy c=>by
 obtain⟨i,hi,e⟩:=me c;have a:i<Z ds:=af hi (ag (by rw[<-w.length,r.length]));have h1:P[i]?=Y y:=by simp_all
 have h2:=ai a;rw[Ey I g S r w h1 h2];obtain⟨v,h,j⟩:=r.get h2;obtain⟨f,b,d⟩:=w.get h;rw[h1]at b;cases b;exact(wG I g 20 A _ R B (lX S h2) sa j O' d C).1
set_option tactic.hygienic true
def U5(O':X.A.units+21<eE):lu X (dk .In) (gB X.K (ue .isin)):=λh_ s σ H x y v u Q I e f l=>by
 refine ac λ_ c=>?_;obtain⟨D,o,d,fr,h,F,g,i,j,k⟩:=l;obtain⟨b,hd,rfl,rfl⟩:=lZ h;apply c;clear h; cases o with
 |str z=>
   cases D with
   |str C=>
     cases hd;exact HR h_ s σ H x y v u Q I e f ⟨_,_,i,j,k _ F H (Step.refl g) W bx⟩
   |_=>cases hd
 |lst E=>
   have a:(if iL 20 D && eU 20 E then Y (E.any λy=>pL y D)else L)=Y b:=by cases D<;>exact hd
   split at a
   .rename_i hs;rw[ah]at hs;cases a;obtain⟨p,vs,rfl,t,r⟩:=j;obtain rfl:u=.ref p:=f;obtain⟨G,w,pl,_⟩:=I.lstR g t;refine SeqAt.in_listAt (Ji D E _) pl.isList (λy m=>Ew I g _ (by omega) hs.1 hs.2 i e r w y (by simpa using m)) ⟨.bl _,H,I,W,?_⟩;rw[show G.toArray.any (Ji D E _)=G.any (Ji D E G) by simp,Ag I g hs.2 r w];exact k _ F H (Step.refl g) W bx
   .cases a
 |tup E=>
   have a:(if iL 20 D && eU 20 E then Y (E.any λy=>pL y D)else L)=Y b:=by cases D<;>exact hd
   split at a
   .rename_i hs;rw[ah]at hs;cases a;obtain⟨p,vs,rfl,t,r⟩:=j;obtain rfl:u=.ref p:=f;obtain⟨G,w,pl,_⟩:=I.tupR g t;refine SeqAt.in_tupleAt (Ji D E _) pl (λy m=>Ew I g _ (by omega) hs.1 hs.2 i e r w y (by simpa using m)) ⟨.bl _,H,I,W,?_⟩;rw[show G.toArray.any (Ji D E _)=G.any (Ji D E G) by simp,Ag I g hs.2 r w];exact k _ F H (Step.refl g) W bx
   .cases a
 |dct P E=>
   have a:(qV D).map (λk=>(iZ k P E).isSome)=Y b:=by cases D<;>exact hd
   refine ac λ_ c=>?_;obtain⟨M,hk,a⟩:=eT a;subst a;obtain⟨p,N,rfl,B,rfl,n⟩:=j;obtain rfl:=qd hk i;obtain rfl:u=.ref p:=f
   apply c;have R:(iZ M (N.map (·.1)) E).isSome=(pY N M).isSome:=by
    cases q:iZ M (N.map _) E with
    |none=>rw[t6 q n];rfl
    |some d=>obtain⟨w,S,_⟩:=qu q n;rw[S];rfl
   refine abK I (uh.k (g.sub _ _ B)) e λs' V=>⟨.bl _,H,V,W,?_⟩
   rw[<-R];exact k _ F H (Step.refl g) W bx
 |_=>cases D<;>cases hd
def Py(B:X.A.units+21<eE):lu X (dk .NotIn) (gB X.K (ue .nin)):=λh_ s σ H x y v u Q I f i c=>by
 refine ac λ_ e=>?_;obtain⟨q,m,d,fr,h,F,g,j,l,k⟩:=c;obtain⟨b,hd,rfl,rfl⟩:=lZ h;apply e;clear e h; cases m with
 |str z=>
   cases q with
   |str o=>
     cases hd;exact zA h_ s σ H x y v u Q I f i ⟨_,_,j,l,k _ F H (Step.refl g) W bx⟩
   |_=>cases hd
 |lst D=>
   have a:(if iL 20 q && eU 20 D then Y (!(D.any λy=>pL y q))else L)=Y b:=by cases q<;>exact hd
   split at a
   .rename_i hs;rw[ah]at hs;clear hd; cases a;obtain⟨p,vs,rfl,t,r⟩:=l;obtain rfl:u=.ref p:=i;obtain⟨C,w,pl,_⟩:=I.lstR g t;refine SeqAt.notIn_listAt (Ji q D _) pl.isList (λy n=>Ew I g _ (by omega) hs.1 hs.2 j f r w y (by simpa using n)) ⟨.bl _,H,I,W,?_⟩;rw[show C.toArray.any (Ji q D _)=C.any (Ji q D C) by simp,Ag I g hs.2 r w];exact k _ F H (Step.refl g) W bx
   .cases a
 |_=>cases q<;>cases hd
set_option tactic.hygienic false
end
def gM(K:Fg)(f:Dat->O Dat->g_):V->O V->Hp->VK->Prop:=λx g H Q=>∃b c d fr F,f b c=Y (d,fr)/\Good F H/\Rep K F b x/\de K F c g/\∀v e a,Step F H e a->Rep K e d v->(fr=U->hV K H a d v)->Q v a
section
variable{X:Cx}
def HU(hs:∀B ds r,jH m B ds=Y r->∃z,B=.str z):∀σ H Q,gE X.K C (.lj m I xs) σ H Q->Td X.K "str" (gM X.K (jH m)) (gE X.K C I) (gA X.K C xs) σ H Q:=λσ H Q f=>by
 refine ac λ_ x=>?_;obtain⟨y,d,fr,h,F,g,R,k⟩:=f;obtain⟨⟨B,i⟩,h1,h⟩:=bT h;obtain⟨ds,h2,h3⟩:=bT h;obtain⟨z,j⟩:=hs B ds _ h3;apply x;refine⟨y,B,i,h1,F,g,R,λv F1 u a c _=>⟨?_,y,ds,h2,F1,a.good,R.mono a.ff,λvs l A b n=>⟨B,ds,d,fr,l,h3,b.good,c.mono b.ff,n,λw o p e s t=>k w o p ((a.trans b).trans e) s λq=>(t q).back (F:=F) (a.hh.trans b.hh)⟩⟩⟩;rw[j]at c;rw[c];exact rfl
def DW(hs:∀B ds r,jH m B ds=Y r->∃z,B=.str z):∀σ H Q,gE X.K C (.lj m I []) σ H Q->Yg X.K "str" (gM X.K (jH m)) (gE X.K C I) σ H Q:=λσ H Q e=>by
 refine ac λ_ s=>?_;obtain⟨t,d,fr,h,F,g,R,k⟩:=e;obtain⟨⟨B,f⟩,h1,h⟩:=bT h;obtain⟨ds,h2,h3⟩:=bT h;cases h2;obtain⟨z,i⟩:=hs B [] _ h3;apply s;refine⟨t,B,f,h1,F,g,R,λv F1 p a b _=>⟨?_,B,[],d,fr,F1,h3,a.good,b,W,λw j l c n o=>k w j l (a.trans c) n λq=>(o q).back (F:=F) a.hh⟩⟩;rw[i]at b;rw[b];exact rfl
def JF(r:de X.K F [] vs)(w:df vs us):us=[]:=by
 rw[r]at w;cases w;rfl
section
def yt(h:jH .upper f ds=Y r):∃x,f=.str x/\ds=[]/\jH .upper (.str x) []=Y r:=by
 cases f with
 |str x=>
   cases ds with
   |nil=>exact⟨x,W,W,h⟩
   |cons _ _=>cases h
 |_=>cases h
set_option tactic.hygienic true
def wz(h:jH .join f ds=Y r):∃x es,f=.str x/\ds=[.lst es]/\jH .join (.str x) [.lst es]=Y r:=by
 cases f with
 |str x=>
   cases ds with
   |nil=>cases h
   |cons d1 ds=>
     cases ds with
     |nil=>
       cases d1 with
       |lst y=>exact⟨x,y,W,W,h⟩
       |_=>cases h
     |cons _ _=>cases d1<;>cases h
 |_=>cases h
def Lm:Xp X "str.upper" (gM X.K (jH .upper)):=λh_ s σ H x l v us Q I b c a=>by
 refine ac λ_ j=>?_;obtain⟨m,n,d,fr,F,h,g,e,f,k⟩:=a;obtain⟨o,rfl,rfl,h⟩:=yt h;apply j;simp only[jH,mS0]at h;split at h
 .rename_i i;clear j; cases h;rw[e]at b;obtain⟨t,rfl⟩:=b;obtain rfl:=JF f c;exact SCL.upper (af i cF) λ_=>⟨.str _,H,I.tok _,⟨_,W⟩,k _ F H (Step.refl g) W bx⟩
 .cases h
theorem vL:∀{es:O Dat}{B:O aa}{vs:O V}{us:O ak},AV es=Y B->de X.K F es vs->df vs us->StrsAre us B
 |[],B,vs,us,h,r,w=>by
   cases h;rw[r]at w;cases w;exact .nil
 |d::es,B,vs,us,h,r,w=>by
   cases d with
   |str x=>
     obtain⟨g,h1,h⟩:=eT h;cases h;obtain⟨v,q,rfl,a,b⟩:=r;rw[a]at w
     cases w with
     |cons c f=>
       obtain⟨t,rfl⟩:=c;exact .cons x t (vL h1 b f)
   |_=>cases h
def P0:Xp X "str.join" (gM X.K (jH .join)):=λh_ s σ H x B v us Q I b c a=>by
 refine ac λ_ y=>?_;obtain⟨C,D,d,fr,F,h,g,f,i,k⟩:=a;obtain⟨E,G,rfl,rfl,h⟩:=wz h;obtain⟨M,h1,h⟩:=bT h;apply y;split at h
 .rename_i j;clear y; cases h;rw[f]at b;obtain⟨t,rfl⟩:=b;obtain⟨w,q,e,⟨p,vs,z,l,m⟩,n⟩:=i;rw[n]at e;subst e z;obtain⟨u,rfl,o⟩:=vals1 c;obtain rfl:u=.ref p:=o;obtain⟨A,r,pl,_⟩:=I.lstR g l;exact join_list pl.isList (by simpa using vL h1 m r) (af j cF) λN P=>⟨.str _,H,I.tok _,⟨_,W⟩,k _ F H (Step.refl g) W bx⟩
 .cases h
set_option tactic.hygienic false
end
end
section
variable{X:Cx}{es:O a9}
def hV.rj{K:Fg}(hp:H p=L):hV K H (L2.upd H p (.dK [])) (.dct [] []) (.ref p):=
 ⟨_,by simp,λa m=>by simp_all,p,[],[],W,bK,W,⟨W,W⟩,W⟩
def OT:SE X C (.Dict [] [] pos) .rj:=PE.imp KW λσ H Q a p hp=>by
 refine ac λ_ b=>?_;obtain⟨c,d,fr,h,F,g,R,k⟩:=a;cases h;apply b;exact k _ _ _ (Step.alloc g hp) ⟨p,[],W,bK,W,W⟩ λ_=>.rj hp
noncomputable def baseOk:a9->cc
 |.Call (.Name _ _) [] [] _=>J
 |_=>U
def og(h:baseOk o=U):fC o m env w=w:=by
 cases o with
 |Call f a k p=>
   cases f with
   |Name x q=>
     cases a with
     |nil=>
       cases k with
       |nil=>cases h
       |cons _ _=>rfl
     |cons _ _=>rfl
   |_=>rfl
 |_=>rfl
def DV(hs:∀B ds r,jH m B ds=Y r->∃I ws,B=.dct I ws):∀σ H Q,gE X.K C (.lj m P xs) σ H Q->Td X.K "dict" (gM X.K (jH m)) (gE X.K C P) (gA X.K C xs) σ H Q:=λσ H Q i=>by
 refine ac λ_ z=>?_;obtain⟨A,d,fr,h,F,g,R,k⟩:=i;obtain⟨⟨B,j⟩,h1,h⟩:=bT h;obtain⟨ds,h2,h3⟩:=bT h;obtain⟨I,ws,l⟩:=hs B ds _ h3;apply z;refine⟨A,B,j,h1,F,g,R,λv F1 y b e _=>⟨?_,A,ds,h2,F1,b.good,R.mono b.ff,λvs n E c o=>⟨B,ds,d,fr,n,h3,c.good,e.mono c.ff,o,λw p s f t u=>k w p s ((b.trans c).trans f) t λq=>(u q).back (F:=F) (b.hh.trans c.hh)⟩⟩⟩;rw[l]at e;obtain⟨a,D,rfl,x,_⟩:=e;exact .inr (.inr ⟨W,D,b.good.sub _ _ x⟩)
def Gk(h:jH .get f ds=Y r):∃C ws B F k,f=.dct C ws/\ds=[B,F]/\qV B=Y k/\r=((iZ k C ws).getD F,J):=by
 have h:VA f ds=Y r:=h;unfold VA at h;split at h
 .obtain⟨k,hk,rfl⟩:=eT h;exact⟨_,_,_,_,k,W,W,hk,W⟩
 .cases h
def Vs(B:X.A.units+1<eE):Xp X "dict.get" (gM X.K (jH .get)):=λh_ s σ H x xs v us Q I j l a=>by
 refine ac λ_ e=>?_;obtain⟨da,ds,d,fr,F,h,g,m,n,k⟩:=a;obtain⟨ks,ws,C,D,P,rfl,rfl,hk,o⟩:=Gk h;clear h; obtain⟨p,R,rfl,r,rfl,f⟩:=m;obtain⟨E,G,rfl,t,J',L',i,w,y⟩:=n;apply e;rw[y]at i;clear e y; subst i;obtain rfl:=qd hk t;obtain⟨u,M,rfl,z,b⟩:=vals2 l;cases j;refine WJ I (uh.k (g.sub _ _ r)) z b λN s' S c=>⟨_,H,S,c,?_⟩
 cases o
 cases q:iZ P (R.map _) ws with
 |none=>
   rw[q]at k;rw[t6 q f];exact k _ F H (Step.refl g) w bx
 |some d1=>
   rw[q]at k;obtain⟨O',V,e2⟩:=qu q f;rw[V];exact k _ F H (Step.refl g) e2 bx
def YA{B:ej}{ap cp:rC}(slot:PySem.Slot "str" name B)(ty:hD (.builtin B)=pure (.type "method_descriptor"))(F:Xp X B (gM X.K (jH m)))(hs:∀f ds r,jH m f ds=Y r->∃z,f=.str z)
  (ho:SE X C o I)(ha:SA X C [e] [P])(hb:baseOk o=U)(hl:(ap.endLine == cp.line)=U)(h1:aP [e] X.env=(J,eval e X.env)::aP [] X.env):SE X C (.Call (.Attribute o name ap) [e] [] cp) (.lj m I [P]):=
 PE.imp (yh oG slot ty F ho ha (og hb) (by rw[h1];rfl) hl h1 W) (HU hs)
def YB{B:ej}{ap cp:rC}(slot:PySem.Slot "str" name B)(ty:hD (.builtin B)=pure (.type "method_descriptor"))(F:Xp X B (gM X.K (jH m)))(hs:∀f ds r,jH m f ds=Y r->∃z,f=.str z)
  (ho:SE X C o I)(hb:baseOk o=U)(hl:(ap.endLine == cp.line)=U):SE X C (.Call (.Attribute o name ap) [] [] cp) (.lj m I []):=
 PE.imp (UU oG slot ty F ho (og hb) hl) (DW hs)
def Um{ap cp:rC}(B:X.A.units+1<eE)(ho:SE X C o f)(ha:SA X C [e,e2] [I,P])(hb:baseOk o=U)(hl:(ap.endLine == cp.line)=U)(h1:aP [e,e2] X.env=(J,eval e X.env)::aP [e2] X.env)(h2:aP [e2] X.env=[(J,eval e2 X.env)]):SE X C (.Call (.Attribute o "get" ap) [e,e2] [] cp) (.lj .get f [I,P]):=
 PE.imp (yh PySem.F.plainAttrs_dict Aq PySem.F.type_dict_get (Vs B) ho ha (og hb) (by rw[h1,h2];rfl) hl h1 (by rw[h2];rfl)) (DV λb c r h=>by obtain⟨a,ws,_,_,_,q,_⟩:=Gk h;exact⟨a,ws,q⟩)
def VM{α:Type}{l:O α}(h:Z l=2):∃a b,l=[a,b]:=by
 obtain⟨a,r,rfl⟩:=List.exists_cons_of_length_eq_add_one h;obtain⟨b,rfl⟩:=fY.mp (Nat.succ.inj h);exact⟨a,b,W⟩
noncomputable def WY(m:aa)(k:T):ar Mth:=
 if m="join"/\k=1 then Y .join else if m="get"/\k=2 then Y .get else if m="upper"/\k=0 then Y .upper else L
def Q0{f:Mth}{ap cp:rC}(P:X.A.units+21<eE)(h:WY m (Z es)=Y f)(ho:SE X C o R)(ha:SA X C es xs)(hlen:Z xs=Z es)(B:∀e,es=[e]->aP [e] X.env=(J,eval e X.env)::aP [] X.env)(I:∀e e2,es=[e,e2]->aP [e,e2] X.env=(J,eval e X.env)::aP [e2] X.env/\aP [e2] X.env=[(J,eval e2 X.env)])(hb:baseOk o=U)(hl:(ap.endLine == cp.line)=U) :
  SE X C (.Call (.Attribute o m ap) es [] cp) (.lj f R xs):=by
 have one:Z es=1->∃e a,es=[e]/\xs=[a]:=λq=>by
  clear P h ho ha B I hb hl; obtain⟨e,rfl⟩:=fY.mp q;obtain⟨a,rfl⟩:=fY.mp hlen;exact⟨e,a,W,W⟩
 have nil:Z es=0->es=[]/\xs=[]:=λq=>by
  grind
 unfold WY at h;split at h
 .rename_i q;clear P hlen I nil; cases h;obtain⟨rfl,q⟩:=q;obtain⟨e,a,rfl,rfl⟩:=one q;exact YA kC An P0 (λ_ _ _ h=>by obtain⟨x,_,q,_⟩:=wz h;exact⟨x,q⟩) ho ha hb hl (B e W)
 split at h
 .rename_i q;clear B one nil; cases h;obtain⟨rfl,q⟩:=q;obtain⟨e,e2,rfl⟩:=VM q;obtain⟨a,b,rfl⟩:=VM hlen;exact Um (az (Hg P) (by decide)) ho ha hb hl (I e e2 W).1 (I e e2 W).2
 split at h
 .rename_i q;clear P ha hlen B I one; cases h;obtain⟨rfl,q⟩:=q;obtain⟨rfl,rfl⟩:=nil q;exact YB PySem.F.slot_str_upper PySem.F.type_str_upper Lm (λ_ _ _ h=>by obtain⟨x,q,_⟩:=yt h;exact⟨x,q⟩) ho hb hl
 .cases h
end
end M
namespace L2
section
variable{A:bP}{s:ao}
def VI:typeLookup (.type "list_reverseiterator") "__len__"=pure L:=by kernel_rfl
def Ze:PySem.Slot "list_reverseiterator" "__length_hint__" "list_reverseiterator.__length_hint__":=.of (owner:="list_reverseiterator") (n:="__length_hint__") (by kernel_rfl) (by decide +kernel) (by decide +kernel) (by decide +kernel) (.inr (by decide +kernel)) (by kernel_rfl)
def Qa(ty:s.TypeIs (.ref I) "list_reverseiterator")(k:Q J s):aG (aC prog w) A (kP (.ref I)) Q E s:=by
 refine wb9 (jl ty VI ?_);refine wb9 (jl ty Ze.lookup ?_);generalize a:("list_reverseiterator.__length_hint__")=id0
 wp_delta
 subst a;exact wb9 (eW (b:=U) ty (by kernel_rfl) (wu9 k))
def D5{C:c7 ak}(hh:A.handled=L)(P:C.size<=aJ)(ne:l≠I)(hl:s.heap.IsList l C)(hi:s.heap.IsRevIter I l ((C.size:cx) - 1))
  (k:∀(F:bJ)B,s.heap.objs.size<=F.objs.size->(∀b o,b≠I->s.heap.get? b=Y o->F.get? b=Y o)->Q C.toList.reverse { s with heap:=F,toks:=B }):aG (aC prog w) A (mB (.ref I)) Q E s:=by
 refine wI (D:=λd R=>d=s.drawn/\R=λi v=>C[C.size - 1 - i]?=Y v) hi.typeIs cF cF P (λh0 ex lt c=>Ny (hi.at λo e=>ex _ _ e) (c h0 _ I _ _ _ (Walks.listRev (prog:=prog) (w:=w) (A:=A.in1) hh I l ne _) ((λh0 ex=>⟨aU _,by simpa using hi.at λo e=>ex _ _ e,hl.at λo e=>ex _ _ e⟩) h0 ex) (λz=>?_) (λb o n _=>n) (λ_ _ e=>e) ⟨W,W⟩))
  (λh1 d ex c=>Qa (hi.at λo e=>ex _ _ e).typeIs (c _ _)) λh1 d B f R ⟨h,j⟩ sz kp a=>?_
 .obtain⟨o,e,_⟩:=hl;obtain⟨m,g,_⟩:=hi
  rcases aA.mp z with z|z
  .exact absurd (hl9 g) (z▸bH _)
  .exact absurd (hl9 e) (au.mp z▸bH _)
 .subst h j;have:=M.HG a;clear a; subst this;exact k h1 B (aE sz) kp
def P9{f:c7 ak}{x:aa}(hh:A.handled=L)(R:f.size<=aJ)(ne:l≠I)(hl:s.heap.IsList l f)(hi:s.heap.IsRevIter I l ((f.size:cx) - 1))(hs:PyProof.Rows.StrsAre f.toList.reverse P)
  (hok:(P.map (·.length)).sum+P.length * x.length<=16777216)
  (k:∀(C:bJ)B t',s.heap.objs.size<=C.objs.size->(∀b o,b≠I->s.heap.get? b=Y o->C.get? b=Y o)->Q (.str (pB x P) t') { s with heap:=C,toks:=B }):aG (aC prog w) A (call (.builtin "str.join") [.str x t,.ref I]) Q E s:=by
 refine qO (fR kC.plain PySem.F.entry_str_join (kC.check _ _ _ _ _ _ _ _ (CW ..) (PySem.F.args_str_join_2 _ _) ?_));rw[join_tree_other];refine wb9 (jU hi.typeIs ?_);refine wb9 (PySem.wpAny_tryCatch (Ny hi ?_));refine wb9 (D5 (hh) R ne hl hi λC B sz ex=>?_);obtain⟨l,a,rfl⟩:=strsAre_values hs;have hok:=joinOk_of hok;unfold JoinOk at hok;rw[gZ]at hok;rw[a]
 have g:Gives (joinTail x (strValues l)) (joinMade x l):=by
  have d:=gives_joinTail x l hok
  cases l with
  |nil=>exact d
  | cons p r=>cases r with
    |nil=>exact d
    |cons q c=>exact d
 exact g _ w A (wants Q E) _ (post_join l ⟨joinFit_length hok,λt' e=>k _ _ _ sz ex⟩)
end
end L2
namespace M
open L2
def aaZ:Dat->ar Dat
 |.lst a=>Y (.lst a.reverse)
 |_=>L
def Ex.jrv(o a:Ex):Ex:=⟨o.fv++a.fv,λC b=>(be C o b).bind λx=>(be C a b).bind λy=>(aaZ y.1).bind λd=>jH .join x.1 [d]⟩
section
variable{X:Cx}
def Ug{ap cp:rC}(B:X.calm=U)(O':Gl X "reversed")(c3:X.mg "reversed"=L)(ho:SE X C o xo)(ha:SE X C a xa)(hb:baseOk o=U)(hl:(ap.endLine == cp.line)=U)
  (hs:aP [a] X.env=[(J,eval a X.env)]):SE X C (.Call (.Attribute o "join" ap) [.Call (.Name "reversed" p2) [a] [] pos2] [] cp) (.jrv xo xa):=by
 intro h_ s σ H Q I h;refine ac λ_ p=>?_;obtain⟨ρ,d,fr,h,F,g,R,k⟩:=h;obtain⟨⟨P,S⟩,h1,h⟩:=bT h;obtain⟨⟨da,T'⟩,h2,h⟩:=bT h;obtain⟨dr,h3,h⟩:=bT h;obtain⟨x,es,rfl,e,h⟩:=wz h;cases e
 apply p;obtain⟨ds,rfl⟩:∃ds,da=.lst ds:=by cases da<;>first|exact⟨_,W⟩|cases h3
 refine ac λ_ p=>?_;cases h3;apply p;refine Jo (og hb) W hl W (jf (ho h_ s σ H (λv j=>∃F1,Step F H F1 j/\v=.str x) I ⟨ρ,_,_,h1,F,g,R,λv F1 j c l _=>⟨F1,c,l⟩⟩) λv s1 K=>?_);obtain⟨U',j,q,l,F1,c,e⟩:=K;subst e;obtain⟨t,rfl⟩:=l;refine⟨_,_,oG,kC,An,W,(λa z=>nomatch z),?_⟩;refine pD (by rfl) (qB ?_);apply rO;refine fN (qc q O' c3 (by decide +kernel:dt _=Y (.type "reversed")) (fK ?_ (by rw[hs];rfl) W));refine jf (kS ha qS (by rw[hs];rfl) _ h_ s1 σ j (λvs H2=>∃i,Step F1 j i H2/\de _ i [.lst ds] vs) q ⟨ρ,_,by simp only[mH,h2,bp,eA],F1,c.good,R.mono c.ff,λvs i H2 f m=>⟨i,f,m⟩⟩) λus s2 ⟨vs,H2,r,A,i,f,m⟩=>?_;refine ac λ_ p=>?_;obtain⟨v,w,rfl,⟨D,vs,rfl,E,G⟩,e⟩:=m;cases e;obtain⟨u,rfl,J'⟩:=vals1 A;cases J';obtain⟨ys,L',h5⟩:=bT h;apply p;split at h5
 .rename_i M;refine ac λ_ p=>?_;cases h5;obtain⟨its,y,pl,N⟩:=r.lstR f.good E;apply p;have n:=pl.isList;apply call_reversed_list n;apply tJ;refine P9 (I.ok.hd B) (by have:=y.length;simp at *;exact af (ag this.symm) N) (ba (by obtain⟨o,e,_⟩:=n;exact hl9 e)) (n.at λo e=>hp9 _ e) ⟨_,aT _ W,W,W⟩ (by simpa using vL L' G.reverse y.reverse) (af M cF) λh' V t' sz ex=>?_;exact⟨.str _,H2,r.kept (λb o e=>ex b o (ba (hl9 e)) (hp9 _ e)),⟨_,W⟩,k _ i H2 (c.trans f) W bx⟩
 .cases h5
end
structure LO{α:Type}(lt:α->α->cc):Prop where
 irr:∀x,lt x x=J
 tr:∀x y z,lt x y=U->lt y z=U->lt x z=U
 tot:∀x y,lt x y=J->lt y x=J->x=y
def LO.Z7 (o:LO lt)(h:lt x y=U):lt y x=J:=by
 cases q:lt y x with
 |false=>rfl
 |true=>have:=o.tr _ _ _ h q;rw[o.irr]at this;cases this
section
variable{α:Type}
set_option tactic.hygienic true
theorem wa(o:LO lt):∀{l:O α},z∈BM lt x l↔z=x\/z∈l
 |[]=>by simp[BM]
 |y::a=>by
   unfold BM;split
   .rw[aA]
   .rename_i h1;split
    .rw[aA,wa o,aA];constructor
     .grind
     grind
    .rename_i h2;have:=o.tot x y (by simpa using h1) (by simpa using h2)
     simp_all
theorem kK(o:LO lt):∀{l:O α},z∈mf lt l↔z∈l
 |[]=>Nn
 |x::l=>by rw[mf,wa o,kK o,aA]
theorem Fy(o:LO lt):∀{l:O α},l.Pairwise (λa b=>lt a b=U)->(BM lt x l).Pairwise (λa b=>lt a b=U)
 |[],_=>by simp[BM]
 |y::d,h=>by
   obtain⟨h1,h2⟩:=fB.mp h;unfold BM;split
   .rename_i q;refine fB.mpr ⟨λz c=>?_,h⟩
    rcases aA.mp c with rfl|c
    .exact q
    .exact o.tr _ _ _ q (h1 z c)
   .split
    .rename_i q;refine fB.mpr ⟨λz c=>?_,Fy o h2⟩
     rcases(wa o).mp c with rfl|c
     .exact q
     .exact h1 z c
    .exact h
set_option tactic.hygienic false
theorem n8(o:LO lt):∀(l:O α),(mf lt l).Pairwise (λa b=>lt a b=U)
 |[]=>.nil
 |x::l=>Fy o (n8 o l)
def sj(o:LO lt){l:O α}(h:l.Pairwise (λa b=>lt a b=U)):l.Nodup:=h.imp λq e=>by subst e;rw[o.irr]at q;cases q
end
section
def Oz{f:bJ}{out:O ak}(I:Inv X h_ σ H s)(ex:∀b o,s.heap.get? b=Y o->f.get? b=Y o)(hl:s.heap.objs.size<=l)(g:f.get? l=Y (gg "list" out.toArray e))(w:df vs out)(B:Z vs<=aJ) :
  Inv X h_ σ (upd H l (.lst vs)) { s with heap:=f,drawn:=d,toks:=C }:=by
 have a:Inv X h_ σ (upd H l (.lst vs)) { s with heap:=f,toks:=C }:=I.laid ex hl ⟨B,_,e,w,g⟩;exact⟨a.ok,a.os,a.bare,a.base,a.loc,a.cell,a.free,a.freeC,a.pin,a.hok,a.len⟩
end
def BD:LO xD:=⟨oP.ir,oP.tr,λx y h a=>by
 by_cases e:x=y
 .exact e
 .have:=oP.co _ _ e h;simp_all⟩
theorem BH:∀{ds:O Dat}{q:O Key},BI ds=Y q->q.all sK=U->(q.map iK).map Dat.int=ds
 |[],_,h,_=>by cases h;rfl
 |d::ds,_,h,a=>by
   obtain⟨k,hk,h⟩:=bT h;obtain⟨q,b,h⟩:=eT h;cases h;simp only[eB,ah]at a;rw[aI,aI,BH b a.2]
   cases d with
   |int i=>cases hk;rfl
   |str x=>cases hk;cases a.1
   |_=>cases hk
def QO(h:n2I d=Y x)(h3:s2 x<3):QN (s2 x) (c2 x)=d:=by
 cases d with
 |int i=>cases h;rfl
 |str y=>
   cases h;show Dat.str ⟨((y.cps.toList.map fE).map vE).toArray⟩=_;rw[dM,show(vE ∘ fE)=id from rfl,List.map_id]
 |tup b=>
   obtain⟨q,a,h⟩:=eT h;cases h;simp only[s2]at h3 ⊢;by_cases c:q.all sK=U
   .rw[a5 c];show Dat.tup ((q.map iK).map _)=_;rw[BH a c]
   simp_all
 |_=>cases h
theorem B8:∀{ds:O Dat}{k:O N2},RU ds=Y k->(∀n∈k.map s2,n<3)->um QN (k.map s2) (k.map c2)=ds
 |[],_,h,_=>by cases h;rfl
 |d::ds,_,h,h3=>by
   obtain⟨x,a,h⟩:=bT h;obtain⟨q,b,h⟩:=eT h;cases h;rw[aI,aI,CI,QO a (h3 _ jM),B8 b λy c=>h3 y (jY _ c)]
theorem FV:∀{ds:O Dat}{q:O N2},RU ds=Y q->q.all sI=U->(q.map XU).map Dat.int=ds
 |[],_,h,_=>by cases h;rfl
 |d::ds,_,h,a=>by
   obtain⟨k,hk,h⟩:=bT h;obtain⟨q,b,h⟩:=eT h;cases h;simp only[eB,ah]at a;rw[aI,aI,FV b a.2]
   cases d with
   |int i=>cases hk;rfl
   |str x=>cases hk;cases a.1
   |tup f=>
     obtain⟨e,c,hk⟩:=eT hk;cases hk;cases a.1
   |_=>cases hk
def QM(h:nkI d=Y x)(h3:Br (sN x)=U):WI (sN x) (cN x)=d:=by
 cases d with
 |int i=>cases h;rfl
 |str y=>
   cases h;show Dat.str ⟨((y.cps.toList.map fE).map vE).toArray⟩=_;rw[dM,show(vE ∘ fE)=id from rfl,List.map_id]
 |tup b=>
   obtain⟨q,a,h⟩:=eT h;cases h;simp only[sN,cN]at h3 ⊢;by_cases c:q.all sI=U
   .rw[a5 c,a5 c];show Dat.tup ((q.map XU).map _)=_;rw[FV a c]
   .rw[cb c]at h3;rw[cb c,cb c];show Dat.tup _=_;rw[B8 a (K6 h3)]
 |_=>cases h
theorem GH:∀{ds:O Dat}{k:O NK},XM ds=Y k->(∀x∈k,Br (sN x)=U)->um WI (k.map sN) (k.map cN)=ds
 |[],_,h,_=>by cases h;rfl
 |d::ds,_,h,h3=>by
   obtain⟨x,a,h⟩:=bT h;obtain⟨q,b,h⟩:=eT h;cases h;rw[aI,aI,CI,QM a (h3 x jM),GH b λy c=>h3 y (jY _ c)]
def GI(h:Vm d=Y k)(h3:∀x∈k,Br (sN x)=U):EA (k.map sN) (codeN k)=d:=by
 cases d with
 |tup a=>show Dat.tup _=_;rw[GH h h3]
 |_=>cases h
theorem v7:∀{ds:O Dat}{f:O (O NK)},xC ds=Y f->Z f=Z ds/\∀i,i<Z ds->Vm (ds.getD i .non)=Y (f.getD i [])
 |[],_,h=>by cases h;exact⟨W,λi hi=>by cases hi⟩
 |d::ds,_,h=>by
   obtain⟨x,b,h⟩:=bT h;obtain⟨q,c,h⟩:=eT h;cases h;refine⟨by simp[(v7 c).1],λi hi=>?_⟩
   cases i with
   |zero=>exact b
   |succ i=>simpa using (v7 c).2 i (by simpa using hi)
theorem Gg:∀{ds:O Dat}{q:O Key},BI ds=Y q->mR ds=U
 |[],_,_=>rfl
 |d::ds,_,h=>by
   obtain⟨k,hk,h⟩:=bT h;obtain⟨q,a,_⟩:=eT h;cases d<;>first|(cases hk;done)|simp[mR,im,(Gg a)]
theorem Li:∀{ds:O Dat}{q:O N2},RU ds=Y q->mR ds=U
 |[],_,_=>rfl
 |d::ds,_,h=>by
   obtain⟨k,hk,h⟩:=bT h;obtain⟨q,b,_⟩:=eT h;cases d with
   |tup e=>
     obtain⟨c,a,_⟩:=eT hk;simp[mR,im,(Li b),Gg a]
   |int _=>simp[mR,im,(Li b)]
   |str _=>simp[mR,im,(Li b)]
   |_=>cases hk
theorem Lh:∀{ds:O Dat}{q:O NK},XM ds=Y q->mR ds=U
 |[],_,_=>rfl
 |d::ds,_,h=>by
   obtain⟨k,hk,h⟩:=bT h;obtain⟨q,b,_⟩:=eT h;cases d with
   |tup e=>
     obtain⟨c,a,_⟩:=eT hk;simp[mR,im,(Lh b),Li a]
   |int _=>simp[mR,im,(Lh b)]
   |str _=>simp[mR,im,(Lh b)]
   |_=>cases hk
def Vl(h:Vm d=Y q):im d=U:=by
 cases d with
 |tup a=>simp[im,Lh h]
 |_=>cases h
theorem Be{K:Fg}(r:de K F ds vs):∀{f:O T},(∀j∈f,j<Z ds)->de K F (f.map λj=>ds.getD j .non) (f.map λj=>vs.getD j .non)
 |[],_=>rfl
 |j::f,h=>by
   have a:=h j jM;obtain⟨v,e,q⟩:=r.get (ai a);refine⟨vs.getD j _,_,W,?_,Be r λi hi=>h i (jY _ hi)⟩
   simp_all
def A9{B:O (O NK)}(hsh:∀j,j<Z B->(B.getD j []).map sN=Jg B)(h3:∀x∈Jg B,Br x=U)(sl:Sel (λi=>B.getD i []) B.length C) :
  (C.map λj=>codeN (B.getD j [])).Perm (mf xD (B.map codeN)):=by
 have d:∀j,j<Z B->∀k∈B.getD j [],Br _=U:=λj c k hk=>h3 _ (by rw[<-hsh j c];exact dh hk)
 have g:(C.map λj=>codeN (B.getD j [])).Nodup:=by
  exact gV.mpr (lS (λ{a b}f l h e=>h (code_inj ((hsh _ (sl.lt a f)).trans (hsh _ (sl.lt b l)).symm) (d _ (sl.lt a f)) e)) (gV.mp sl.nd))
 rw[jt g (sj BD (n8 BD _))];intro z;rw[kK BD,bZ,bZ];constructor
 .rintro⟨j,c,rfl⟩;have:=sl.lt j c;exact⟨_,by simp_all,W⟩
 .rintro⟨k,hk,rfl⟩;obtain⟨i,hi,rfl⟩:=dQ.mp hk;obtain⟨j,c,e⟩:=bZ.mp (sl.all i hi);refine⟨j,c,?_⟩
  simp_all
noncomputable def adr:V->aN
 |.ref a=>a
 |_=>0
theorem AQ{B:T->aN}:∀(f:O T),df (f.map λj=>V.ref (B j)) (f.map λj=>bY (B j))
 |[]=>.nil
 |j::f=>.cons rfl (AQ f)
section
def abA{h:bJ}(hl:h.IsList l items):Nc prog w h (.ref l) items.size (λi v=>items[i]?=Y v):=by
 intro d f s1 j sz ex k;have a :=hl.at λo e=>ex l o e;have lt:l<h.objs.size:=by obtain⟨o,e,_⟩:=hl;exact hl9 e
 refine xp a (k _ _ _ (λg c=>Walks.list c _ l (ba (cR lt sz)) _) (λb hb=>?_) ⟨⟨_,aT _ W,W,W⟩,a.push _⟩)
 rcases aA.mp hb with z|z
 .exact .inl z
 .exact .inr (by simp_all)
end
section
variable{X:Cx}{vs:O V}{kk:O (O NK)}
abbrev avN(vs:O V)(j:T):aN:=adr (vs.getD j .non)
abbrev Zo(kk:O (O NK))(j:T):O NK:=kk.getD j []
def mz(r:de X.K F ds vs)(hk:xC ds=Y kk){j:T}(B:j<Z kk):vs.getD j .non=.ref (avN vs j)/\NKy X.K F (Zo kk j) (avN vs j):=by
 have b:j<Z ds:=af B (ag (v7 hk).1);obtain⟨v,e,q⟩:=r.get (ai b);have d:=(v7 hk).2 j b;rw[show ds.getD j _=ds[j] by simp[b]]at d;obtain⟨a,rfl,g⟩:=PU d q;unfold avN;rw[show vs.getD j _=.ref a by simp[e]];exact⟨W,g⟩
theorem Gp(hk:xC ds=Y kk):∀f:O T,(∀j∈f,j<Z kk)->mR (f.map λj=>ds.getD j Dat.non)=U
 |[],_=>rfl
 |j::f,h=>by
   obtain⟨b,a⟩:=v7 hk;simp only[aI,mR,ah];exact⟨Vl (a j (af (h j jM) (ag b))),Gp hk f λi hi=>h i (jY _ hi)⟩
def A5(o:K4 kk)(B:j<Z kk):(Zo kk j).map sN=Jg kk:=by
 simpa using (bh.mp o.2.2.1 _ (by simp_all))
def Oy(room:X.A.units+8<eE)(I:Inv X h_ σ H s)(g:Good F H)(r:de X.K F ds vs)(hk:xC ds=Y kk)(o:K4 kk)(hl:Z kk<=300)
  (hc:Xz X.prog X.w X.A s v (λus=>∃R,us=R.map (λj=>bY (avN vs j))/\Sel (Zo kk) kk.length R))
  (k:∀w F' H',Step F H F' H'->Rep X.K F' (.lst ((mf xD (kk.map codeN)).map (EA (Jg kk)))) w->(U=U->hV X.K H H' (.lst ((mf xD (kk.map codeN)).map (EA (Jg kk)))) w)->Q w H') :
  aG (aC X.prog X.w) X.A (call (.builtin "sorted") [v]) (EP X h_ σ Q) X.xe s:=by
 obtain⟨y,l⟩:=v7 hk;obtain⟨b,hb⟩:=eh.mp o.1;have h3 :=λx D=>bh.mp o.2.1 x D;have m:∀j,j<Z kk->∀k∈Zo kk j,Br _=U:=λj c k hk=>h3 _ (by rw[<-A5 o c];exact dh hk)
 have E:∀R,Sel _ _ R->Z R=Z (mf xD (kk.map _)):=λR sl=>by
  have:=(A9 (λj c=>A5 o c) h3 sl).length_eq
  rwa [aD]at this
 refine sorted_N (by exact iY room) (λj c=>Lf I g (mz r hk c).2) (λj c=>A5 o c) h3 hb
  (λG J' Q' e k'=>hc G J' Q' e λn h1 d1 p x1 L' z=>k' n h1 d1 p x1 L' (by obtain⟨R,M,B⟩:=z;exact⟨R,M,B,by rw[E R B];exact o.2.2.2⟩)) λN d3 O' t R e3 u i P sl pw=>?_
 have d :=I.hok.fresh i;refine⟨.ref t,_,Oz I u i P (AQ R) (by rw[aD];exact af sl.len (af hl cF)),W,?_⟩
 have S:(mf xD (kk.map codeN)).map (EA (Jg kk))=R.map λj=>ds.getD j .non:=by
  rw[((List.Perm.eq_of_pairwise (λa b _ _ h h'=>BD.tot _ _ h' h) (pw.imp λq=>BD.Z7 q) ((n8 BD _).imp λq=>BD.Z7 q) (A9 (λj c=>A5 o c) h3 sl)).symm),dM];refine dY λj c=>?_;have f:=sl.lt j c;rw[<-A5 o f];exact GI (l j (af f (ag y))) (m j f)
 have C:=Be r λj c=>(af (sl.lt j c) (ag y))
 rw[(dY λj c=>(mz r hk (sl.lt j c)).1.symm)];rw[S]at k;exact k _ _ _ (Step.alloc g d) ⟨t,_,W,.inl (.inl bK),C.mono (cy.upd (g.sub.free d))⟩ λ_=>.lst (cy.refl _) d (.lP g (Gp hk R sl.lt) C)
def JX(hh:X.A.handled=L)(room:X.A.units+8<eE)(I:Inv X h_ σ H s)(g:Good F H)(t:nW X.K F l vs)(r:de X.K F ds vs)
  (hk:xC ds=Y kk)(h2:x6 kk=Y (d,fr))(k:∀w F' H',Step F H F' H'->Rep X.K F' d w->(fr=U->hV X.K H H' d w)->Q w H')
  (fin:∀S s2,aG (aC X.prog X.w) X.A (call (.builtin "sorted") [.ref S]) (EP X h_ σ Q) X.xe s2->Q1 (.ref S) s2):aG (aC X.prog X.w) X.A (call (.type "set") [.ref l]) Q1 E s:=by
 unfold x6 at h2;split at h2
 .rename_i hb;cases h2;obtain⟨P,p,pl,N⟩:=I.lstR g t;obtain⟨a,C⟩:=v7 hk;have c:=r.length;have il:Z P=Z kk:=by exact aH (wc (ag p.length.symm) (ag c) (ag a.symm)) (wc (ag a) (ag c.symm) (ag p.length))
  have h:∀s2:ao,(∀b o,s.heap.get? b=Y o->s2.heap.get? b=Y o)->s2.TypeIs (.ref l) _:=λs2 ex=>by
   obtain⟨o,R,e2,_⟩:=pl.isList;exact⟨o,ex _ _ R,e2⟩
  have hsz:P.toArray.size=Z kk:=by simp_all
  have f:=abA (prog:=X.prog) (w:=X.w) pl.isList;rw[hsz]at f;refine Hx hh h PySem.F.sub_list_set PySem.F.sub_list_frozenset cF f (λi v x=>?_) (λj D=>Lf I g (mz r hk D).2) hb.1 (by exact aE (aE (aE room))) λh' O' y ex=>fin _ _ (Oy room (I.kept ex) g r hk hb.2 hb.1 (λJ' L' Q' e k'=>IH hh y hb.1 J' L' Q' e λm h1 d1 n x1 M z=>k' m h1 d1 n x1 M z) k)
  .have hi:i<Z kk:=by
    have:i<P.toArray.size:=by rcases bC.mp x with⟨q,_⟩;exact q
    simp_all
   obtain⟨u,G,B⟩:=p.get (ai ((af hi (af (ag a) (ag c.symm)))));have R:P[i]?=Y v:=by simpa using x
   rw[G]at R;cases R;have:=(mz r hk hi).1;rw[show vs.getD i _=vs[i]'(af hi (af (ag a) (ag c.symm))) by simp[show i<(Z vs) from(af hi (af (ag a) (ag c.symm)))]]at this;rwa[this]at B
 .cases h2
end
section
end
section
end
section
variable{X:Cx}
def OQ(hu:X.A.units+21<eE)(O':X.calm=U)(hg:Gl X "sorted")(hm:X.mg "sorted"=L)(P:Gl X "set")(c3:X.mg "set"=L)(ha:SE X C a xa)
  (hs:aP [a] X.env=[(J,eval a X.env)]) :
  SE X C (.Call (.Name "sorted" p) [.Call (.Name "set" p2) [a] [] pos2] [] pos) (.blt .sset [xa]):=by
 intro h_ s σ H Q I h;refine ac λ_ c=>?_;obtain⟨K,d,fr,h,F,g,R,k⟩:=h;obtain⟨M,h1,h2⟩:=bT h;obtain⟨⟨i,G⟩,h3,h1⟩:=bT h1;clear h3; cases h1;apply c;refine fN (qc I hg hm (by decide +kernel:dt _=Y (.builtin "sorted")) (qD ?_ W rfl));show aG _ _ (spliced ((J,eval (.Call (.Name _ p2) _ [] _) _)::er _ [])) _ _ s;apply rO;refine fN (qc I P c3 (by decide +kernel:dt _=Y (.type "set")) (fK ?_ (by rw[hs];rfl) W));refine jf ((kS ha qS (by rw[hs];rfl)) _ h_ s σ H (λvs j=>∃F1,Step F H F1 j/\de _ F1 [i] vs) I ⟨K,_,(by simp_all),F,g,R,λvs F1 j b m=>⟨F1,b,m⟩⟩) λus s1 ⟨vs,j,o,x,F1,b,m⟩=>?_;refine ac λ_ c=>?_;clear hg hm P c3 ha hs g R h1; obtain⟨v,w,rfl,n,e⟩:=m;cases e;obtain⟨u,rfl,y⟩:=vals1 x
 apply c; clear x; cases i with
 |lst M=>
   refine ac λ_ c=>?_;obtain⟨l,vs,rfl,t,B⟩:=n;cases y;obtain⟨kk,D,E⟩:=bT h2;apply c;exact JX (I.ok.hd O') (iY hu) o b.good t B D E (λw N V st r f=>k w N V (b.trans st) r λz=>hV.back (F:=F1) b.hh (f z)) λS s2 q=>tJ q
 |_=>simp only[lr,b1,bLS]at h2;cases h2
end
noncomputable def posK(k:Key):O Key->ar T
 |[]=>L
 |j::a=>if j=k then Y 0 else(posK k a).map (·+ 1)
def Vq(f:Jm)(B:Dat)(ds:O Dat):Dat->ar Dat
 |.dct b ws=>(qV B).bind λk=>(posK k b).bind λj=>(ws[j]?).bind λe=>(mD f e ds).map λa=>.dct b (ws.set j a)
 |_=>L
def Y9(f:Jm)(i:T)(ρ:cT)(B:Dat)(ds:O Dat):g_->ar Out
 |some (d,U)=>(Vq f B ds d).map λa=>.nx (ρ.set i (Y (a,U)))
 |_=>L
def Sx.Za(f:Jm)(i:T)(ke:Ex)(es:O Ex):Sx:={ ex:=λC a=>(be C ke (full a)).bind λy=>(pG C es (full a)).bind λx=>if x.2=U then Y9 f i a y.1 x.1 (a[i]?).join else L }
theorem FD:∀{f:O (Key×V)}{j:T}{v:V},posK k (f.map (·.1))=Y j->(f.map (·.2))[j]?=Y v->pY f k=Y v
 |[],_,_,h,_=>by cases h
 |p::r,j,v,h,e=>by
   simp only[aI,posK]at h;by_cases q:p.1=k
   .rw[a5 q]at h;cases h;cases e;simp[pY,q]
   .rw[cb q]at h;obtain⟨a,h1,rfl⟩:=eT h;have:=FD h1 e;unfold pY at this ⊢;rwa[List.find?_cons_of_neg (by simpa using q)]
section
variable{X:Cx}{K:Fg}
def YO:R2:=λx y H Q=>∃a b k w,x=.ref a/\y=kV k/\H a=Y (.dK b)/\pY b k=Y w/\Q w H
def V4(B:X.A.units+1<eE):Xq X YO:=by
 intro value slice h_ s σ H x y v u Q I b c h hs;refine ac λ_ i=>?_;obtain⟨a,l,k,w,rfl,rfl,d,e,q⟩:=h;cases b;apply i;have dg:uh H a (kV k) (Y w):=by rw[<-e];exact uh.k d
 exact NI (uD I dg) wZ.lookup (yH I dg c λg m j f=>⟨w,H,j,f,q⟩) hs
def cZ.at (o:cZ K H ds vs S)(hk:ds[k]?=Y e) :
  ∃v B F C,vs[k]?=Y v/\kW K H e v F/\S=B++(F++C)/\cZ K H (ds.take k) (vs.take k) B/\cZ K H (ds.drop (k+1)) (vs.drop (k+1)) C/\vs=vs.take k++v::vs.drop (k+1):=by
 obtain⟨B,i,d,c,rfl⟩:=o.take k;have a :=(aK.mp hk).1
 have hd:ds.drop k=e::ds.drop (k+1):=by
  rw[fj a]
  simp_all
 rw[hd]at c;refine ac λ_ h=>?_;obtain⟨v,r,F,C,j,f,g,rfl⟩:=c;apply h;have b:k<Z vs:=by rwa[o.length]
 rw[(fj b)]at j;refine ac λ_ h=>?_;obtain⟨rfl,rfl⟩:=iO j;apply h;exact⟨_,B,F,C,ai b,f,W,d,g,by simp⟩
structure Chg(K:Fg)(H:Hp)(op:Jm)(p l:aN)(d':Dat)(ws:O V)(S T':O aN)(ob':HO)(S':O aN):Prop where
 own:kW K (upd H l ob') d' (.ref p) S'
 nd:S'.Nodup
 sub:∀a∈S',a∈S\/a∈T'
def PZ{ws:O Dat}{T':O aN}(h1:op≠.ext)(h0:op≠.seti)(B:cy H H')(R:ws[j]?=Y e)(O':mD op e ds=Y e')(o:kW K H (.dct ks ws) v S)(nd:S.Nodup)
  (a:cZ K H' ds us T')(nt:T'.Nodup)(dj:∀a∈S,a∉T'):∃p k_ l xs c3 ob' S',v=.ref p/\H p=Y (.dK k_)/\k_.map (·.1)=ks/\(k_.map (·.2))[j]?=Y (.ref l)/\H l=Y (.lst xs)/\l∈S/\H' l=Y c3/\Bo op c3 us=Y ob'/\IU ob'/\Chg K H' op p l (.dct ks (ws.set j e')) us S T' ob' S':=by
 refine ac λ_ q=>?_;obtain⟨p,k_,P,rfl,hp,rfl,os,rfl⟩:=o;obtain⟨C,h,x,i,D,y,rfl,F,G,I⟩:=os.at R;have k:∃l xs,C=.ref l/\H l=Y (.lst xs):=by
  clear B R a nt hp D os nd dj q F G I; cases e with
  |lst E=>obtain⟨l,xs,S',rfl,hl,_⟩:=id y;exact⟨l,xs,W,hl⟩
  |dct ks ws=>cases op<;>first|exact absurd rfl h1|exact absurd _ h2|exact absurd rfl h0|cases O'
  |any=>cases op<;>first|exact absurd rfl h1|exact absurd _ h2|cases O'
  |_=>cases op<;>cases O'
 obtain⟨l,xs,rfl,hl⟩:=k;have A:=a6.mp nd;have n:=jS A.2;have r:=jS n.2.1
 have c:∀a,a∈h\/a∈x\/a∈i->a∈p::(h++(x++i)):=λa m=>jY _ (by
  grind)
 obtain⟨Q,c3,ob',S',ev,b,d,f,t,u,s,M⟩:=zC h1 O' (y.mono B) r.1 a nt λa m=>dj a (c a (.inr (.inl m)));cases ev
 apply q;have g:∀us,H' l≠Y (.tup us):=λus z=>by rw[d]at z;clear B R a hp q F G hl D I A n r c t s b d u; cases z;cases op<;>first|exact absurd rfl h1|exact absurd _ h2|cases f
 have w:p≠l:=λz=>A.1 (z▸aw _ (aF _ b));refine⟨p,k_,l,xs,c3,_,p::(h++(S'++i)),W,hp,W,D,hl,c l (.inr (.inl b)),d,f,t,⟨p,k_,_,W,(cz w).trans (B _ _ hp),W,?_,W⟩,?_,λa m=>?_⟩
 .have N:ws.set j e'=ws.take j++([e']++ws.drop (j+1)):=by
   rw[km,a5 (aK.mp R).1];rfl
  rw[N];exact I.symm▸(((F.mono B).upd g _ (λm=>n.2.2 l m (aF _ b))).append ((cZ.one u).append ((G.mono B).upd g _ (λm=>r.2.2 l b m))))
 .refine a6.mpr ⟨λm=>?_,jG n.1 (jG s r.2.1 λa m m3=>?_) λa m m2=>?_⟩
  .grind
  .grind
  grind
 grind
def Ll(h:pv C (.Za op i ke es) ρ=Y out) :
  ∃B F k ds I ws j e P,be C ke (full ρ)=Y (B,F)/\qV B=Y k/\pG C es (full ρ)=Y (ds,U)/\ρ[i]?=Y (Y (.dct I ws,U))/\posK k I=Y j/\ws[j]?=Y e/\mD op e ds=Y P/\out=.nx (ρ.set i (Y (.dct I (ws.set j P),U))):=by
 refine ac λ_ m=>?_;obtain⟨⟨B,F⟩,hk,h⟩:=bT h;obtain⟨⟨ds,al⟩,h3,h⟩:=bT h;apply m;by_cases b:al=U
 .subst b
  cases q:ρ[i]? with
  |none=>rw[q]at h;cases h
  |some z=>
    rw[q]at h
    match z,h with
    |some (d,U),h=>
      clear q; obtain⟨o,a,n⟩:=eT h
      cases d with
      |dct I ws=>
        refine ac λ_ m=>?_;obtain⟨k,c,a⟩:=bT a;obtain⟨j,f,a⟩:=bT a;obtain⟨e,g,a⟩:=bT a;obtain⟨P,l,rfl⟩:=eT a;apply m;exact⟨B,F,k,ds,I,ws,j,e,P,hk,c,h3,W,f,g,l,n.symm⟩
      |_=>cases a
 .rw[cb b]at h;cases h
def Lk(h1:op≠.ext)(h0:op≠.seti){D:Ends}(h:gS K C (.Za op i ke es) D σ H) :
  ∃p,σ[i]?=Y (Y (.ref p))/\gE K C ke σ H λc3 B=>∃k_ k l xs,c3=kV k/\B p=Y (.dK k_)/\pY k_ k=Y (.ref l)/\B l=Y (.lst xs)/\gF K C es σ B λws H2=>∃e0 ob',H2 l=Y e0/\Bo op e0 ws=Y ob'/\D.nx σ (upd H2 l ob'):=by
 refine ac λ_ X=>?_;obtain⟨Fz,H₀,F,ρ,out,h,R,I⟩:=h;obtain⟨J',L',k,ds,ks,ws,j,e,e',M,g,N,hi,P,t,c,rfl⟩:=Ll h;obtain⟨Ss,O'⟩:=R.ow;obtain⟨v,e1,e2,e3,e4⟩:=O'.own i _ hi;obtain⟨p,k_,S0,rfl,hp,n,os,eS⟩:=id e2;obtain⟨Q,sp,x⟩:=R.jo;apply X;refine⟨p,e1,_,J',L',M,Q,x.step.good,x.full,λc3 F1 B o S _=>?_⟩;refine ac λ_ X=>?_;obtain rfl:=qd g S;have b:=Step.shrink R.step.good sp o;have r:=R.moved b;have y:=O'.moved b;obtain⟨U',S1,S2,S3,z,V,f3,f4,f5,f6⟩:=os.at t
 have s:∃l xs,U'=.ref l/\H l=Y (.lst xs):=by
  cases e with
  |lst ls=>obtain⟨l,xs,S',rfl,hl,_⟩:=id V;exact⟨l,xs,W,hl⟩
  |dct ks ws=>cases op<;>first|exact absurd rfl h1|exact absurd _ h2|exact absurd rfl h0|cases c
  |any=>cases op<;>first|exact absurd rfl h1|exact absurd _ h2|cases c
  |_=>cases op<;>cases c
 obtain⟨l,xs,rfl,hl⟩:=s;apply X;refine⟨k_,k,l,xs,W,b.hh _ _ hp,FD (by rwa[n]) z,b.hh _ _ hl,zV r N λus F' H' T' st ow e7 d=>?_⟩;have dj:∀a∈Ss i,a∉T':=λa m m2=>by
  obtain⟨u,f,_⟩:=e2.uQ _ a m;have:=b.hh _ _ f;rw[(d a m2).1]at this;cases this
 refine ac λ_ X=>?_;obtain⟨p',A,l',xs',e0,ob',S',q1,E,q3,G,q5,q6,q7,q8,q9,ch⟩:=PZ h1 h0 (b.hh.trans st.hh) t c e2 e3 ow e7 dj;cases q1;apply X;rw[hp]at E;cases E;rw[z]at G;refine ac λ_ X=>?_;cases G;apply X;refine⟨e0,_,q7,q8,I F' _ σ (b.ff.trans st.ff) ((r.moved st).mut (y.moved st) hi e1 q6 q9 ch.own ch.nd λa m=>?_)⟩
 rcases ch.sub a m with m|m
 .exact .inl m
 .refine .inr ⟨(d a m).2,(r.step.hh.free (d a m).1),λj d2 q m2=>?_⟩
  .obtain⟨w,_,g,_⟩:=y.own j d2 q;obtain⟨u,f,_⟩:=g.uQ _ a m2;rw[(d a m).1]at f;cases f
def TF{st:iE}(h1:op≠.ext)(h3:op≠.seti)(S:∀l B P vs H Q,H l=Y B->Bo op B vs=Y P->(∀u,Q u (upd H l P))->r (.ref l) vs H Q)
  (I:PS X st (AU (Td X.K "list" r (Nq YO (rT i) (gE X.K C ke)) (gF X.K C es)))):SS X C st (.Za op i ke es):=PS.imp I λD σ H h=>by
 obtain⟨p,s,g⟩:=Lk h1 h3 h;refine⟨_,s,nj g λm n s1 d=>?_⟩;refine ac λ_ o=>?_;obtain⟨t,k,l,v,rfl,a,b,c,e⟩:=d;apply o;refine⟨p,t,k,_,W,W,a,b,.inl ⟨W,v,nW.of c⟩,?_⟩;refine ac λ_ o=>?_;obtain⟨w,x,al,h,F,j,R,k⟩:=e;apply o;exact⟨w,x,al,h,F,j,R,λvs y q st r f=>let ⟨B,_,a,b,c⟩:=k vs y q st r f;S l B _ vs q _ a b λ_=>c⟩
end
end M
namespace L2
section
variable{St:T->bJ->Prop}
end
section
end
end L2
namespace M
open L2
section
end
def Vp(f:Jm)(ds:O Dat):Dat->Dat->ar Dat
 |.lst ws,.int k=>(rJ ws.length k).bind λj=>(ws[j]?).bind λe=>(mD f e ds).map λa=>.lst (ws.set j a)
 |_,_=>L
def Vr(f:Jm)(i:T)(ρ:cT)(B:Dat)(ds:O Dat):g_->ar Out
 |some (d,U)=>(Vp f ds d B).map λa=>.nx (ρ.set i (Y (a,U)))
 |_=>L
def Sx.RV(i:T)(ke xi xe:Ex):Sx:={ ex:=λC a=>(be C xe (full a)).bind λx=>if im x.1=U then(be C ke (full a)).bind λy=>(be C xi (full a)).bind λz=>Vr .seti i a y.1 [x.1,z.1] (a[i]?).join else L }
def Sx.Jh(i:T)(ke xe:Ex):Sx:={ ex:=λC a=>(be C ke (full a)).bind λy=>(be C xe (full a)).bind λx=>if im x.1=U then Vr .app i a y.1 [x.1] (a[i]?).join else L }
section
variable{K:Fg}
def FY(h:Vr op i ρ C ds (ρ[i]?).join=Y out) :
  ∃ws k j e B,C=.int k/\ρ[i]?=Y (Y (.lst ws,U))/\rJ ws.length k=Y j/\ws[j]?=Y e/\mD op e ds=Y B/\out=.nx (ρ.set i (Y (.lst (ws.set j B),U))):=by
 cases q:ρ[i]? with
 |none=>rw[q]at h;cases h
 |some z=>
   rw[q]at h
   match z,h with
   |some (d,U),h=>
     clear q; obtain⟨m,a,l⟩:=eT h
     cases d with
     |lst ws=>
       cases C with
       |int k=>
         refine ac λ_ g=>?_;obtain⟨j,b,a⟩:=bT a;obtain⟨e,c,a⟩:=bT a;obtain⟨B,f,rfl⟩:=eT a;apply g;exact⟨ws,k,j,e,B,W,W,b,c,f,l.symm⟩
       |_=>cases a
     |_=>cases a
def FX{ws:O Dat}(h1:op≠.ext)(B:cy H H')(P:ws[j]?=Y e)(R:mD op e ds=Y e')(o:kW K H (.lst ws) v S)(nd:S.Nodup)(a:cZ K H' ds us []) :
  ∃p vs l O' ob' S',v=.ref p/\H p=Y (.lst vs)/\Z vs=Z ws/\vs[j]?=Y (.ref l)/\l∈S/\H' l=Y O'/\Bo op O' us=Y ob'/\IU ob'/\kW K (upd H' l ob') (.lst (ws.set j e')) (.ref p) S'/\S'.Nodup/\∀a∈S',a∈S:=by
 refine ac λ_ q=>?_;obtain⟨p,vs,M,rfl,hp,os,rfl⟩:=o;obtain⟨N,g,y,h,A,C,rfl,E,F,G⟩:=os.at P;have k:=a6.mp nd;have n:=jS k.2;have i:=jS n.2.1;obtain⟨l,O',ob',S',rfl,b,c,d,I,u,r,s⟩:=zC h1 R (C.mono B) i.1 a fL λa _ m=>by cases m
 apply q;have t :=λa m=>(s a m).elim id λz=>by cases z
 have f:∀us,H' l≠Y (.tup us):=λus z=>by rw[c]at z;clear B P R a hp os q E F k n i A C G b c I u r s t; cases z;cases op<;>first|exact absurd rfl h1|exact absurd _ h2|cases d
 have x:p≠l:=λz=>k.1 (z▸aw _ (aF _ b))
 have sub:∀a∈g++(S'++h),a∈g++(y++h):=λa m=>by
  grind
 refine⟨p,vs,l,O',_,p::(g++(S'++h)),W,hp,os.length,A,jY _ (aw _ (aF _ b)),c,d,I,⟨p,vs,_,W,(cz x).trans (B _ _ hp),?_,W⟩,?_,λa m=>?_⟩
 .have w:ws.set j e'=ws.take j++([e']++ws.drop (j+1)):=by
   rw[km,a5 (aK.mp P).1];rfl
  rw[w];exact G.symm▸(((E.mono B).upd f _ (λm=>n.2.2 l m (aF _ b))).append ((cZ.one u).append ((F.mono B).upd f _ (λm=>i.2.2 l b m))))
 .exact a6.mpr ⟨λm=>k.1 (sub p m),jG n.1 (jG r i.2.1 λa m m3=>i.2.2 a (t a m) m3) λa m m2=>by
   grind⟩
 grind
def Rl.ask(R:Rl K P H₀ F H σ ρ)(h:be C x (M.full ρ)=Y (d,fr))
  (k:∀v F1 B,Step F H F1 B->(im d=U->∀I,cy B I->kW K I d v [])->(∀k,qV d=Y k->v=kV k)->(∀i,d=.int i->v=.int i)->Q v B):gE K C x σ H Q:=by
 obtain⟨g,j,f⟩:=R.jo;refine⟨_,d,fr,h,g,f.step.good,f.full,λv F1 B b c _=>k v _ B (Step.shrink R.step.good j b) (λm I s2=>kW.lP (λa o e=>s2 a o (b.good.sub a o e)) d m c) (λk q=>qd q c) λi q=>?_⟩;rwa[q]at c
set_option tactic.hygienic true
def Ln{D:Ends}(h:gS K C (.RV i ke xi xe) D σ H) :
  gE K C xe σ H λv H1=>∃p,σ[i]?=Y (Y (.ref p))/\gE K C ke σ H1 λkv H2=>∃xs k l,kv=.int k/\H2 p=Y (.lst xs)/\vp xs k=Y (.ref l)/\gE K C xi σ H2 λc3 B=>∃e0 ob',B l=Y e0/\Bo .seti e0 [v,c3]=Y ob'/\D.nx σ (upd B l ob'):=by
 refine ac λ_ P=>?_;obtain⟨Fz,H₀,F,ρ,out,h,R,J'⟩:=h;obtain⟨⟨d,fd⟩,h1,h⟩:=bT h;apply P;split at h
 .rename_i hd;refine ac λ_ P=>?_;obtain⟨⟨X,fk⟩,h2,h⟩:=bT h;obtain⟨⟨o,fz⟩,h3,h⟩:=bT h;obtain⟨ws,k,j,e,e',rfl,hi,L',y,g,rfl⟩:=FY h;apply P;refine R.ask h1 λv F1 H1 c ow _ _=>?_;have z:=R.moved c;refine ac λ_ P=>?_;obtain⟨Ss,O'⟩:=R.ow;obtain⟨v0,e1,e2,e3,e4⟩:=O'.own i _ hi;obtain⟨p,xs,S0,rfl,hp,os,eS⟩:=id e2;apply P;refine⟨p,e1,z.ask h2 λkv F2 H2 b _ _ hk=>?_⟩;have R2:=z.moved b;refine ac λ_ P=>?_;obtain⟨M,S1,S2,S3,A,E,f3,f4,f5,f6⟩:=os.at y
  have r:im o=U:=by
   cases e with
   |lst ls=>
     cases o with
     |int n=>rfl
     |_=>cases g
   |dct ks ws=>
     obtain⟨kz,q,_⟩:=bT (g)
     clear g; cases o with
     |int n=>rfl
     |str n=>rfl
     |_=>cases q
   |_=>cases g
  have s:∃l,M=.ref l:=by
   cases e with
   |lst ls=>obtain⟨l,xs,S',rfl,hl,_⟩:=id E;exact⟨l,W⟩
   |dct ks ws=>obtain⟨l,xs,S',rfl,hl,_⟩:=id E;exact⟨l,W⟩
   |_=>cases g
  obtain⟨l,rfl⟩:=s;apply P;refine⟨xs,k,l,hk k W,b.hh _ _ (c.hh _ _ hp),by unfold vp;rwa[os.length,L'],R2.ask h3 λc3 N B f t hz hn=>?_⟩;refine ac λ_ P=>?_;obtain⟨p',Q,l',e0,ob',S',S,G,q3,I,T',U',V,e7,u,w,x⟩:=FX (by simp) ((c.hh.trans b.hh).trans f.hh) y g e2 e3 ⟨v,_,[],[],W,ow hd B (b.hh.trans f.hh),⟨c3,[],[],[],W,t r B (λ_ _ e=>e),⟨W,W⟩,W⟩,W⟩;cases S;apply P;rw[hp]at G;cases G;rw[A]at I;refine ac λ_ P=>?_;cases I;apply P;exact⟨e0,_,U',V,J' N _ σ ((c.ff.trans b.ff).trans f.ff) ((R2.moved f).mut (((O'.moved c).moved b).moved f) hi e1 T' e7 u w λa m=>.inl (x a m))⟩
 .cases h
def Lo{D:Ends}(h:gS K C (.Jh i ke xe) D σ H) :
  ∃p,σ[i]?=Y (Y (.ref p))/\gE K C ke σ H λc3 B=>∃xs k l ys,c3=.int k/\nW K B p xs/\vp xs k=Y (.ref l)/\B l=Y (.lst ys)/\gE K C xe σ B λv H2=>∃e0 ob',H2 l=Y e0/\Bo .app e0 [v]=Y ob'/\D.nx σ (upd H2 l ob'):=by
 refine ac λ_ k0=>?_;obtain⟨Fz,H₀,F,ρ,out,h,R,x⟩:=h;obtain⟨⟨P,Q⟩,h1,h⟩:=bT h;obtain⟨⟨d,fd⟩,h2,h⟩:=bT h;apply k0;split at h
 .rename_i hd;refine ac λ_ k0=>?_;obtain⟨ws,k,j,e,S,rfl,hi,y,q,r,rfl⟩:=FY h;obtain⟨Ss,O'⟩:=R.ow;obtain⟨T',e1,e2,e3,U'⟩:=O'.own i _ hi;obtain⟨p,xs,V,rfl,hp,os,e4⟩:=id e2;apply k0;refine⟨p,e1,R.ask h1 λc3 F1 B b _ _ hk=>?_⟩;have s:=R.moved b;refine ac λ_ k0=>?_;obtain⟨z,X,S2,S3,t,A,f3,f4,f5,f6⟩:=os.at q
  have f:∃l ys,z=.ref l/\H l=Y (.lst ys):=by
   cases e with
   |lst ls=>obtain⟨l,ys,S',rfl,hl,_⟩:=id A;exact⟨l,ys,W,hl⟩
   |_=>cases r
  clear A f3 f4 f5 f6; obtain⟨l,ys,rfl,hl⟩:=f;apply k0;refine⟨xs,k,l,ys,hk k W,nW.of (b.hh _ _ hp),by unfold vp;rwa[os.length,y],b.hh _ _ hl,s.ask h2 λv E H2 c ow _ _=>?_⟩;refine ac λ_ k0=>?_;obtain⟨p',G,l',e0,ob',S',I,u,q3,w,J',L',M,N,g,n,o⟩:=FX (by simp) (b.hh.trans c.hh) q r e2 e3 ⟨v,[],[],[],W,ow hd H2 (λ_ _ e=>e),⟨W,W⟩,W⟩;cases I;apply k0;rw[hp]at u;cases u;rw[t]at w;refine ac λ_ k0=>?_;cases w;apply k0;exact⟨e0,_,L',M,x E _ σ (b.ff.trans c.ff) ((s.moved c).mut ((O'.moved b).moved c) hi e1 J' N g n λa m=>.inl (o a m))⟩
 .cases h
def TH{st:iE}(B:PS X st (Dq (gE X.K C xe) (Wj (Nq (Kx X.K) (rT i) (gE X.K C ke)) (gE X.K C xi) (λo i v H Q=>Fv o i v H Q\/Kw o i v H Q)))):SS X C st (.RV i ke xi xe):=PS.imp B λD σ H h=>by
 refine nj (Ln h) λv s s1 ⟨p,x,g⟩=>⟨_,x,nj g λt I s2 ⟨A,k,l,E,hp,ha,d⟩=>⟨p,A,k,_,W,E,nW.of hp,ha,nj d λy u s3 z=>?_⟩⟩
 obtain⟨e,_,b,a,c⟩:=z;cases e with
 |lst F=>
   cases y with
   |int n=>
     simp only[Bo,K8]at a;split at a
     .obtain⟨w,f,m⟩:=eT a;clear a; cases m;obtain⟨j,q,rfl⟩:=eT f;exact .inl ⟨l,F,n,j,W,W,b,q,c⟩
     .cases a
   |_=>cases a
 |dK G=>
   obtain⟨n,hk,a⟩:=bT a;split at a
   .rename_i r;cases a;exact .inr ⟨l,G,n,W,LD hk,b,r,c⟩
   .cases a
 |_=>cases a
set_option tactic.hygienic false
def TJ{st:iE}(f:∀l B I vs H Q,H l=Y B->Bo .app B vs=Y I->(∀u,Q u (upd H l I))->r (.ref l) vs H Q)
  (F:PS X st (AU (Td X.K "list" r (Nq (Kx X.K) (rT i) (gE X.K C ke)) (λσ H Q=>gE X.K C xe σ H λv P=>Q [v] P)))):SS X C st (.Jh i ke xe):=PS.imp F λD σ H h=>by
 obtain⟨p,j,g⟩:=Lo h;refine⟨_,j,nj g λe P s1 z=>by obtain⟨m,k,l,n,o,hp,ha,hl,a⟩:=z;exact⟨p,m,k,_,W,o,hp,ha,.inl ⟨W,n,nW.of hl⟩,nj a λv q s2 y=>by obtain⟨B,_,b,c,d⟩:=y;exact f l B _ _ q _ b c λ_=>d⟩⟩
end
section
variable{K:Fg}
def Tq.uz(nt:∀a∈S,∀vs,H a≠Y (.tup vs))(t:Tq K H a vs):Tq K (uz H S) a vs:=by
 rcases t with t|t
 .exact .inl (by rwa[jv λm=>nt a m vs t])
 .exact .inr t
mutual
theorem kW.uz(nt:∀a∈S,∀vs,H a≠Y (.tup vs)):∀(d:Dat){v:V}{T':O aN},kW K H d v T'->(∀a∈T',a∉S)->kW K (M.uz H S) d v T'
 |.non,_,_,h,_=>h
 |.bl _,_,_,h,_=>h
 |.int _,_,_,h,_=>h
 |.str _,_,_,h,_=>h
 |.tup f,_,_,g,n=>by obtain⟨a,vs,e,t,r⟩:=g;exact⟨a,vs,e,t.uz nt,cZ.uz nt f r n⟩
 |.lst f,_,_,c,n=>by
   obtain⟨a,vs,i,e,t,r,rfl⟩:=c;exact⟨a,vs,i,e,(jv (n a jM)).trans t,cZ.uz nt f r (λb m=>n b (jY _ m)),W⟩
 |.dct _ f,_,_,c,n=>by
   obtain⟨a,l,i,e,t,k,r,rfl⟩:=c;exact⟨a,l,i,e,(jv (n a jM)).trans t,k,cZ.uz nt f r (λb m=>n b (jY _ m)),W⟩
 |.any,_,_,h,_=>h
 |.exc ..,_,_,c,n=>by
   obtain⟨a,j,e,t,r,rfl⟩:=c;exact⟨a,j,e,(jv (n a jM)).trans t,(jv (n j (jY _ jM))).trans r,W⟩
theorem cZ.uz(nt:∀a∈S,∀vs,H a≠Y (.tup vs)):∀(ds:O Dat){vs:O V}{T':O aN},cZ K H ds vs T'->(∀a∈T',a∉S)->cZ K (M.uz H S) ds vs T'
 |[],_,_,h,_=>h
 |d::ds,_,_,b,n=>by
   obtain⟨v,r,c,f,e,h1,h2,q⟩:=b;subst q;exact⟨v,r,c,f,e,kW.uz nt d h1 (λa m=>n a (aF _ m)),cZ.uz nt ds h2 (λa m=>n a (aw _ m)),W⟩
end
def X2:cy (M.uz H S) H:=λa o e=>by
 by_cases m:a∈S
 .rw[ur m]at e;cases e
 .rwa [jv m]at e
def kW.nt(o:kW K H d v S):∀a∈S,∀vs,H a≠Y (.tup vs):=λa m vs z=>by
 obtain⟨u,b,c⟩:=o.uQ _ a m;rw[z]at b;cases b;exact c
end
noncomputable def lnR:Dat×cc->ar (Dat×Dat)
 |(d,U)=>Y (.non,d)
 |(.tup [r,d],J)=>Y (r,d)
 |_=>L
def TR(K:Fg)(n:T)(f:O Dat->g_):Sp:=λvs H Q _=>Z vs=n/\∃d h y r e v us S F,vs=v::us/\f (d::h)=Y y/\lnR y=Y (r,e)/\kW K H d v S/\S.Nodup/\Good F H/\(∀a∈S,F a=L)/\de K F h us/\
 ∀u b c g,Step F (uz H S) b c->Rep K b r u->kW K c e v g->g.Nodup->(∀a∈g,b a=L/\uz H S a=L)->Q u c
def zI:T:=2000
noncomputable def ZM:Out->g_
 | .nx a=>match(a[0]?).join with
   |some (d,U)=>Y (d,U)
   |_=>L
 | .rl r a=>match(a[0]?).join with
   |some (d,U)=>Y (.tup [r,d],J)
   |_=>L
 |_=>L
def exL(C:Fs)(B f:T)(body:O Sx):O Dat->g_
 |d::a=>if Z a+1=B then(dI C body (Y (d,U)::(a.map (λd=>Y (d,J))++bb (f - B) L))).bind ZM else L
 |[]=>L
def GF{ds:O Dat}{m j:T}{d:Dat}{b:cc}(q:(ds.map (λd=>Y (d,J))++bb m L:cT)[j]?=Y (Y (d,b))):b=J/\ds[j]?=Y d:=by
 by_cases hi:j<Z ds
 .rw[aR (by simpa using hi),aV]at q
  simp_all
 .rw[aQ (by simpa using hi),bI]at q;split at q<;>cases q
section
variable{K:Fg}{base:bJ}
def Wr{st:iE}(F:Xs K x qual st f fd)(S:lV N ps (bE st))(c3:Z ps<=Z N)
  (e0:∀(cdv:ak)(A:bP)(outer:O C8)(s:ao)(H:Hp)(E:XK),i7 k (A.deeper (f7 qual (bE st) s.heap.objs.size f cdv))->
   Jl (pJ vq P w K mg base N qual (bE st) f cdv A outer s H E).yk C (i5 st) body):jx P w K mg base vq (k+1) f fd ps (TR K ps.length (exL C ps.length N.length body)):=by
 refine F.ok S (λvs H Q E h=>h.1) λcdv A outer s H vs Q E I h=>⟨_,e0 _ A _ s H E I,?_⟩
 refine ac λ_ kq=>?_;clear F S c3 e0 I; obtain⟨hl,d,ds,y,V,e,v,us,B,Fz,rfl,he,D,o,nd,g,J',r,G⟩:=h;apply kq;have he:(if Z ds+1=(Z ps) then _ else L)=Y y:=he;split at he
 .rename_i e3;obtain⟨out,ho,he⟩:=bT he;have L':L2.start N (v::us)=Y v::(us.map Y++bb _ L):=rfl;refine⟨Fz,⟨uz H B,Y v⟩,Fz,_,_,ho,⟨⟨g,cy.refl _,X2,λ_ _ _ n=>n⟩,?_,λi d' q=>?_,λd' M q z=>?_,λi=>if i=0 then B else [],λi d' q=>?_,λi j d1 d2 T' X q2=>?_⟩,?_⟩
  .grind
  .cases i with
   |zero=>cases q
   |succ i=>
     obtain⟨w,e1,e2⟩:=r.get (GF q).2;refine⟨w,?_,e2⟩;show(us.map Y++_)[i]?=_;rw[aR (by simpa using ((aK.mp e1).1)),aV,e1];rfl
  .cases z;rfl
  .cases i with
   |zero=>cases q;exact⟨v,W,o,nd,λa m=>⟨J' a m,ur m⟩⟩
   |succ i=>cases(GF q).1
  .grind
  .have own:∀{ρ':cT} {l:Dat},ρ'[0]?=Y (Y _)->∀F' H' b,Rl K Fz ⟨uz H B,_⟩ F' H' b _->∃S',kW K H' l v S'/\S'.Nodup/\∀a∈S',F' a=L/\uz H B a=L:=λh0 F' H' b R=>by
    obtain⟨Ss,O'⟩:=R.ow;obtain⟨M,e1,o',c,p⟩:=O'.own 0 _ h0;have e2:=R.keep _ v h0 W;rw[e1]at e2;cases e2;exact⟨_,o',c,p⟩
   have t:∀{ρ':cT}{g:Dat->Dat×cc},(match(ρ'[0]?).join with|some (d,U)=>Y (g d)|_=>L)=Y y->∃l,ρ'[0]?=Y (Y (l,U))/\y=g l:=λ{ρ' g}he=>by
    cases q:ρ'[0]? with
    |none=>rw[q]at he;cases he
    |some z=>
      rw[q]at he
      match z,he with
      |some (d',U),he=>simp_all
   clear o nd g J' r ho L'; cases out with
   |nx ρ'=>
     obtain⟨l,h0,rfl⟩:=t he;cases D;intro F' H' b s' R;obtain⟨S',o',c,p⟩:=own h0 F' H' b R;exact G _ F' H' S' R.step W o' c p
   |rl d1 ρ'=>
     obtain⟨l,h0,rfl⟩:=t he;cases D;intro u F' H' b s' R U';obtain⟨S',o',c,p⟩:=own h0 F' H' b R;exact G u F' H' S' R.step U' o' c p
   |rt _ _=>cases he
 .cases he
end
section
variable{K:Fg}
def Rl.abt(R:Rl K Fz H₀ F H σ ρ)(S:Ow K H₀.h F H σ ρ Ss)(hi:ρ[i]?=Y (Y (d,U)))(B:σ[i]?=Y (Y v))
  (st:Step F (uz H (Ss i)) F' H')(o:kW K H' e v S')(nd:S'.Nodup)(P:∀a∈S',F' a=L/\uz H (Ss i) a=L):Rl K Fz H₀ F' H' σ (ρ.set i (Y (e,U))):=by
 obtain⟨w,N,M,Q,G⟩:=S.own i d hi
 have up:∀a u,H₀.h a=Y u->uz H (Ss i) a=Y u:=λa u q=>by
  rw[jv λm=>by simp_all];exact R.step.hh a u q
 have b:∀j d2,i≠j->ρ[j]?=Y (Y _)->∀a∈Ss j,∃u,uz H _ a=Y u/\F a=L:=λj d2 t q a m=>by
  refine ac λ_ I=>?_;obtain⟨_,_,l,_,x⟩:=S.own j d2 q;obtain⟨u,p,_⟩:=l.uQ _ a m;apply I;exact⟨u,by rwa[jv (S.sep j i d2 d (cB t) q hi a m)],(x a m).1⟩
 refine⟨⟨st.good,R.step.ff.trans st.ff,λa u q=>st.hh a u (up a u q),λa u q n=>st.un a u (up a u q) (R.step.un a u q n)⟩,by simpa using R.len,λj d2 q=>?_,λd2 A q=>?_,λj=>if j=i then S' else Ss j,λj d2 q=>?_,λj k d1 d2 r D C a m=>?_⟩
 .rcases dc q with⟨rfl,z⟩|⟨_,c⟩
  .cases z
  .obtain⟨w,y,l⟩:=R.val j d2 c;exact⟨w,y,l.mono st.ff⟩
 .clear S B st o nd P N M Q G up b; rcases dc q with⟨rfl,_⟩|⟨_,c⟩
  .exact R.keep _ A hi
  .exact R.keep _ A c
 .rcases dc q with⟨rfl,z⟩|⟨f,c⟩
  .cases z;rw[a5 W];refine⟨v,B,o,nd,λa m=>⟨(P a m).1,?_⟩⟩
   cases q:H₀.h a with
   |none=>rfl
   |some u=>have:=up a u q;simp_all
  .rw[cb (cB f)];obtain⟨w,y,l,E,x⟩:=S.own j d2 c;refine⟨w,y,(l.uz M.nt d2 λa m=>S.sep j i d2 d (cB f) c hi a m).mono st.hh,E,λa m=>⟨?_,(x a m).2⟩⟩;obtain⟨u,p,hf⟩:=b j d2 f c a m;exact st.un a u p hf
 .rcases dc D with⟨rfl,_⟩|⟨h1,s⟩
  .rcases dc C with⟨z,_⟩|⟨h2,g⟩
   .exact absurd z r
   .rw[cb (cB h2)];intro m2;obtain⟨u,p,_⟩:=b k d2 h2 g a m2
    simp_all
  .rw[cb (cB h1)]at m
   rcases dc C with⟨rfl,_⟩|⟨h2,g⟩
   .intro m2;obtain⟨u,p,_⟩:=b j d1 h1 s a m
    simp_all
   .rw[cb (cB h2)];exact S.sep j k d1 d2 r s g a m
end
section
variable{X:Cx}{C:Fs}{K:Fg}
def Zg(C:Fs)(t j i:T)(ρ:cT)(ds:O Dat):g_->g_->ar Out
 |some (a,J),Y (d,U)=>(C j (d::ds)).bind λx=>(lnR x).bind λp=>(fJ .mx [a,p.1]).map λy=>.nx ((ρ.set i (Y (p.2,U))).set t (Y (y.1,J)))
 |_,_=>L
def Sx.lmx(t j i:T)(es:O Ex):Sx:={ ex:=λC a=>(mH C es (xT (nu (Iz es) a))).bind λb=>Zg C t j i (nu (Iz es) a) b ((nu (Iz es) a)[t]?).join ((nu (Iz es) a)[i]?).join }
def Qb(h:Zg C t j i ρ ds (ρ[t]?).join (ρ[i]?).join=Y out) :
  ∃a d x p y,ρ[t]?=Y (Y (a,J))/\ρ[i]?=Y (Y (d,U))/\C j (d::ds)=Y x/\lnR x=Y p/\fJ .mx [a,p.1]=Y y/\out=.nx ((ρ.set i (Y (p.2,U))).set t (Y (y.1,J))):=by
 cases q:ρ[t]? with
 |none=>rw[q]at h;cases h
 |some z=>
   cases b:ρ[i]? with
   |none=>
     rw[q,b]at h
     rcases z with _|⟨a,_|_⟩<;>cases h
   |some w=>
     rw[q,b]at h
     clear q b; obtain⟨a,d,rfl,rfl⟩:∃a d,z=Y (a,J)/\w=Y (d,U):=by rcases z with _|⟨a,_|_⟩<;>rcases w with _|⟨d,_|_⟩<;>first|exact⟨_,_,W,W⟩|cases h
     refine ac λ_ c=>?_;obtain⟨x,h1,h⟩:=bT h;obtain⟨p,h2,h⟩:=bT h;obtain⟨y,h3,h⟩:=eT h;apply c;exact⟨a,d,x,p,y,W,W,h1,h2,h3,h.symm⟩
def TK{pos:rC}(B:X.calm=U)(G:jx X.prog X.w X.K X.mg X.base vq k f fd ps (TR X.K n (C j)))(hr:i7 k X.A)(hg:Gl X x)(hm:X.mg x=Y (.ref f))(hk:dO X.K (.ref f)=U)(hb:Binds X.K fd ps [])
  (hv:PE X e (rT i))(ha:SA X C es xs)(hn:Z xs+1=n)(c3:(x == ("__debug__":aa))=J)(he:aP (e::es) X.env=(J,eval e X.env)::aP es X.env)(e0:(er cp (aP es X.env)).any (·.1)=J)
  (hgm:Gl X "max")(hmm:X.mg "max"=L)(hN:X.N.Nodup)(ht:X.N[t]?=Y y)(hx:Loc X.env.scope y)(hvt:PE X (.Name y p1) (rT t))
  (h1:aP [.Name y p1,.Call (.Name x p) (e::es) [] cp] X.env=(J,eval (.Name y p1) X.env)::aP [.Call (.Name x p) (e::es) [] cp] X.env)(h2:aP [.Call (.Name x p) (e::es) [] cp] X.env=[(J,eval (.Call (.Name x p) (e::es) [] cp) X.env)])
  (hs:ez (.Call (.Name "max" pm) [.Name y p1,.Call (.Name x p) (e::es) [] cp] [] pc) (Y (.Name y p2)) pos.line X.env=pure J)
  (hf:X.fn y=U\/X.env.scope.names.lookup y=Y .local) :
  SS X C (.Assign [.Name y p2] (.Call (.Name "max" pm) [.Name y p1,.Call (.Name x p) (e::es) [] cp] [] pc) pos) (.lmx t j i xs):=
 PS.imp (DI hN ht hx (p7 (wK B) hgm hmm (by decide +kernel) (kT hvt (kT (FJ G hr hg hm hk hb .nil KZ (kT hv ha he) c3 he e0) tS h2) h1) (by decide) (by decide) h1 (by rfl)) hs hf) λD σ H M=>by
  refine ac λ_ k0=>?_;obtain⟨Fz,H₀,F,ρ,out,h,R,P⟩:=M;obtain⟨ds,s,h⟩:=bT h;obtain⟨a,d,z,q,w,g,hi,Q,S,T',rfl⟩:=Qb h;obtain⟨U',s2,R2⟩:=R.freeze _;obtain⟨Ss,O'⟩:=R2.ow;obtain⟨v,e1,e2,e3,e4⟩:=O'.own i d hi;obtain⟨E,V,e7⟩:=R2.val t a g;apply k0;refine⟨E,V,v,e1,_,ds,s,U',R2.step.good,R2.xT,λvs F1 H1 b I=>?_⟩;have J':=O'.moved b;refine ac λ_ k0=>?_;obtain⟨_,_,g2,_,g4⟩:=J'.own i d hi;apply k0;show TR _ n _ _ H1 _ _;rw[aL];refine⟨by rw[cg,I.length,qe s,hn],d,ds,z,_,_,v,vs,_,F1,W,Q,S,e2.mono b.hh,e3,b.good,λa m=>(g4 a m).1,I,λu F' H' S' st ru o nd hS=>?_⟩;have L':=(R2.moved b).abt J' hi e1 st o nd hS;exact⟨_,_,_,T',F',L'.step.good,⟨E,_,W,(e7.mono b.ff).mono st.ff,u,_,W,ru,W⟩,λv' l r c r2 _=>P l r _ (((s2.trans b.ff).trans st.ff).trans c.ff) ((L'.moved c).zq r2)⟩
end
section
variable{K:Fg}
end
def ZE(C:Fs)(one:cc)(f:O T)(body:O Sx)(i:T)(ρ:cT)(B:Dat):g_->ar Out
 | some (.lst ws,U)=>match B with
   | .int k=>(rJ ws.length k).bind λj=>match ws[j]? with
     |some (.lst a)=>iw (eO one f) (dI C body) a (ρ.set i (Y (.lst (ws.set j .any),U)))
     |_=>L
   |_=>L
 |_=>L
def Sx.XX(one:cc)(f:O T)(i:T)(ke:Ex)(body:O Sx):Sx:={ ex:=λC a=>(be C ke (full a)).bind λy=>ZE C one f body i a y.1 (a[i]?).join }
def QA(h:ZE C one B body i ρ f (ρ[i]?).join=Y out) :
  ∃ws k j es,f=.int k/\ρ[i]?=Y (Y (.lst ws,U))/\rJ ws.length k=Y j/\ws[j]?=Y (.lst es)/\iw (eO one B) (dI C body) es (ρ.set i (Y (.lst (ws.set j .any),U)))=Y out:=by
 cases q:ρ[i]? with
 |none=>rw[q]at h;cases h
 |some z=>
   rw[q]at h
   clear q; obtain⟨ws,rfl⟩:∃ws,z=Y (.lst ws,U):=by
    obtain _|⟨d,b⟩:=z
    .cases h
    cases d<;>cases b<;>first|exact⟨_,W⟩|cases h
   cases f with
   |int k=>
       obtain⟨j,b,h⟩:=bT h
       cases a:ws[j]? with
       |none=>rw[a]at h;cases h
       |some e=>
         rw[a]at h
         cases e with
         |lst es=>exact⟨ws,k,j,es,W,W,b,a,h⟩
         |_=>cases h
   |_=>cases h
section
variable{K:Fg}
def Rl.part{ws:O Dat}(R:Rl K Fz H₀ F H σ ρ)(hi:ρ[i]?=Y (Y (.lst ws,U)))(c3:ws[j]?=Y e)(B:σ[i]?=Y (Y (.ref p))) :
  ∃v vs F',H p=Y (.lst vs)/\Z vs=Z ws/\vs[j]?=Y v/\cy F F'/\Rep K F' e v/\Rl K Fz H₀ F' H σ (ρ.set i (Y (.lst (ws.set j .any),U))):=by
 refine ac λ_ kq=>?_;obtain⟨Ss,O'⟩:=R.ow;obtain⟨X,e1,e2,e3,E⟩:=O'.own i _ hi;apply kq;rw[B]at e1;refine ac λ_ kq=>?_;cases e1;obtain⟨e0,vs,S0,ep,hp,os,t⟩:=id e2;clear e2; cases ep;obtain⟨v,u,r,x,N,P,rfl,Q,S,T'⟩:=os.at c3;apply kq;have G:∀a∈r,a∈Ss i:=λa m=>by rw[t];grind
 rw[t]at e3;have y:=a6.mp e3;have s:=jS y.2;have I:=jS s.2.1
 have b:∀a∈p::(u++x),a∈Ss i/\a∉r:=λa m=>by
  rw[t]
  rcases aA.mp m with rfl|m
  .exact⟨jM,λz=>y.1 (aw _ (aF _ z))⟩
  .rcases ax.mp m with m|m
   .exact⟨jY _ (aF _ m),λz=>s.2.2 a m (aF _ z)⟩
   .exact⟨jY _ (aw _ (aw _ m)),λz=>I.2.2 a z m⟩
 have A:cy F (fz F H r):=qY R.step.good.sub;refine⟨v,vs,_,hp,os.length,N,A,P.nu R.step.good _ λa m=>m,⟨vh R.step.good,R.step.ff.trans A,R.step.hh,λa o q n=>?_⟩,by simpa using R.len,λj' d' q=>?_,λd' J' q=>?_,λj'=>if j'=i then p::(u++x)else Ss j',λj' d' q=>?_,λj' k d1 d2 c U' L' a m=>?_⟩
 .rw[oU λm=>?_]
  .exact R.step.un a o q n
  .rw[(E a (G a m)).2]at q;cases q
 .rcases dc q with⟨rfl,z⟩|⟨_,g⟩
  .cases z
  .obtain⟨w,C,D⟩:=R.val j' d' g;exact⟨w,C,D.mono A⟩
 .rcases dc q with⟨rfl,z⟩|⟨_,g⟩
  .exact R.keep _ J' hi
  .exact R.keep _ J' g
 .rcases dc q with⟨rfl,z⟩|⟨h,g⟩
  .cases z;rw[a5 W];refine⟨_,B,⟨p,vs,_,W,hp,?_,W⟩,a6.mpr ⟨λz=>y.1 ?_,jG s.1 I.2.1 λa m z=>s.2.2 a m (aw _ z)⟩,λa m=>?_⟩
   .have V:ws.set j .any=ws.take j++([.any]++ws.drop (j+1)):=by
     rw[km,a5 (aK.mp c3).1];rfl
    rw[V];exact T'.symm▸Q.append ((cZ.one (d:=.any) W).append S)
   .grind
   .rw[oU (b a m).2];exact E a (b a m).1
  .rw[cb (cB h)];obtain⟨w,C,D,e4,M⟩:=O'.own j' d' g;refine⟨w,C,D,e4,λa m=>⟨?_,(M a m).2⟩⟩;rw[oU λz=>O'.sep j' i d' _ (cB h) g hi a m (G a z)];exact(M a m).1
 .rcases dc U' with⟨rfl,_⟩|⟨h1,l⟩
  .rw[a5 W]at m
   rcases dc L' with⟨z,_⟩|⟨h2,f⟩
   .exact absurd z c
   .rw[cb (cB h2)];exact O'.sep _ k _ d2 c hi f a (b a m).1
  .rw[cb (cB h1)]at m
   rcases dc L' with⟨rfl,_⟩|⟨h2,f⟩
   .rw[a5 W];exact λz=>O'.sep j' _ d1 _ c l hi a m (b a z).1
   .rw[cb (cB h2)];exact O'.sep j' k d1 d2 c l f a m
end
section
variable{X:Cx}
def TL{iter:a9}(hp:qz (aC X.prog X.w) X.A X.env X.xe)(hc:X.calm=U)(he:PE X iter (Nq (Kx X.K) (rT i) (gE X.K C ke)))(P:PG X tg g)(B:SG X.K one S g)(hb:Jl X C body xs)
  (hs:∀x,ea iter X.env x=pure x):SS X C (.For tg iter body [] pos) (.XX one S i ke xs):=
 PS.imp (DJ hp hc (zz he) P hb hs) λD σ H c=>by
  refine ac λ_ N=>?_;obtain⟨Fz,H₀,F,ρ,out,h,R,k⟩:=c;obtain⟨⟨G,I⟩,h1,h⟩:=bT h;obtain⟨ws,n,j,es,d,hi,e,f,h⟩:=QA h;obtain⟨Ss,V⟩:=R.ow;obtain⟨J',Q,e2,_⟩:=V.own i _ hi;obtain⟨p,vs,_,rfl,m,os,_⟩:=id e2;apply N;refine⟨_,Q,R.ask h1 λL' F1 M a _ _ hk=>?_⟩;refine ac λ_ N=>?_;obtain⟨v,us,o,q,r,u,y,z,b⟩:=(R.moved a).part hi f Q;obtain⟨l,ys,rfl,t,E⟩:=id z;apply N;refine⟨p,us,n,_,W,hk n d,nW.of q,by unfold vp;rwa[r,e],l,W,⟨ys,b.step.good.sub.seq t⟩,qa B (a.ff.trans y) b (λo s=>s) (t9 t E) h k⟩
end
end M
namespace L2
section
end
section
end
end L2
namespace M
open L2
section
end
noncomputable def WV:Dat×cc->Dat×cc->g_
 |(.lst a,U),(.lst b,U)=>if Z a+Z b<=aJ then Y (.lst (a++b),U)else L
 |_,_=>L
def Ex.cat(a b:Ex):Ex:=⟨a.fv++b.fv,λC c=>(be C a c).bind λx=>(be C b c).bind λy=>WV x y⟩
def QT(h:WV x y=Y r):∃xs f,x=(.lst xs,U)/\y=(.lst f,U)/\Z xs+Z f<=aJ/\r=(.lst (xs++f),U):=by
 unfold WV at h;split at h
 .simp_all
 .cases h
def YS(K:Fg):R2:=λx y H Q=>∃c d F a b,Good F H/\Rep K F (.lst c) x/\Rep K F (.lst d) y/\kW K H (.lst c) x a/\kW K H (.lst d) y b/\Z c+Z d<=aJ/\
 ∀p f e,H p=L->Step F H f e->Rep K f (.lst (c++d)) (.ref p)->kW K e (.lst (c++d)) (.ref p) (p::(a.tail++b.tail))->Q (.ref p) e
section
def PF:lu X (dy .Add) (YS X.K):=by
 intro h_ s σ H x y v u Q I j m h;refine ac λ_ A=>?_;obtain⟨E,G,F,o,w,g,⟨l,vs,rfl,t,r⟩,⟨q,us,rfl,B,f⟩,⟨M,a,c,C,hl,os,rfl⟩,⟨z,b,d,D,i,e,rfl⟩,n,k⟩:=h;cases C;cases D;obtain rfl:=I.qb (nW.of hl) (g.sub.seq t);obtain rfl:=I.qb (nW.of i) (g.sub.seq B);apply A;exact U8 h_ s σ H _ _ v u Q I j m ⟨l,q,a,b,W,W,hl,i,by rwa[r.length,f.length],λp hp=>k p _ _ hp (Step.alloc g hp) ⟨p,_,W,.inl (.inl bK),(r.append f).mono (cy.upd (g.sub.free hp))⟩ ⟨p,_,_,W,bK,(os.append e).mono (cy.upd hp),W⟩⟩
def Uq(ha:SE X C a xa)(hb:SE X C b xb):SE X C (.BinOp a .Add b pos) (.cat xa xb):=
 PE.imp (RP PF ha hb) λσ H Q r=>by
  refine ac λ_ O'=>?_;obtain⟨P,d,fr,h,F,g,R,k⟩:=r;obtain⟨L',h1,h⟩:=bT h;obtain⟨M,h2,h⟩:=bT h;obtain⟨xs,ys,rfl,rfl,s,e⟩:=QT h;obtain⟨rfl,rfl⟩:=Prod.mk.inj e;apply O';refine⟨P,_,_,h1,F,g,R,λv F1 N f t x=>⟨P,_,_,h2,F1,f.good,R.mono f.ff,λw y S c A B=>?_⟩⟩;obtain⟨j,D,e1,l⟩:=x W;obtain⟨n,E,V,q⟩:=B W
  have d1:∀a∈j,S a≠L:=λa m z=>by
   obtain⟨u,i,_⟩:=l.uQ _ a m;have:=c.hh _ _ i;rw[z]at this;cases this
  have d12:∀a∈j,a∉n:=λa m m2=>by
   obtain⟨u,i,_⟩:=l.uQ _ a m;rw[V a m2]at i;cases i
  have d2:∀a∈n,S a≠L:=λa m z=>by
   obtain⟨u,i,_⟩:=q.uQ _ a m;rw[z]at i;cases i
  refine⟨xs,ys,y,j,n,c.good,t.mono c.ff,A,l.mono c.hh,q,s,λp G I hp o J' K=>k _ G I ((f.trans c).trans o) J' λ_=>⟨_,?_,?_,K⟩⟩
  .refine a6.mpr ⟨λm=>?_,jG ((Jx _).nodup D) ((Jx _).nodup E) λa m m2=>d12 a (gW m) (gW m2)⟩
   rcases ax.mp m with m|m
   .exact d1 p (gW m) hp
   .exact d2 p (gW m) hp
  .intro a m
   rcases aA.mp m with rfl|m
   .exact(f.hh.trans c.hh).free hp
   .rcases ax.mp m with m|m
    .exact e1 a (gW m)
    .exact f.hh.free (V a (gW m))
end
end M
namespace L2
section
end
end L2
namespace L2
section
end
end L2
namespace M
open L2
section
variable{X:Cx}
def Kf(j n:T)(G:jx X.prog X.w X.K X.mg X.base vq k f fd ps (pf X.K n (C j)))(S:i7 k X.A)(I:Gl X x)(P:X.mg x=Y (.ref f))(hk:dO X.K (.ref f)=U)(hb:Binds X.K fd ps [])
  (hn:n=0)(B:(x == ("__debug__":aa))=J):SE X C (.Call (.Name x p) [] [] pos) (.call j []):=
 PE.imp (KY G S I P hk hb .nil KZ B) λσ H Q h=>by
  refine ac λ_ a=>?_;obtain⟨b,c,h1,F,g,R,k⟩:=(sW (xs:=[]) (x:=.call j []) (λb d fr h=>bT h) σ H Q h);cases h1;apply a;exact⟨by rw[hn];rfl,k [] F H (Step.refl g) W⟩
end
end M
namespace L2
section
variable{X:Cx}
def PS.yk{st:iE}(h:PS X.yk st t):PS X st t:=λh_ s σ H D I a=>bO (h h_ s σ H D (I.tK _) a) (λ_ _ q=>q.lJ) λ_ _ z=>cA z
end
end L2
namespace M
open L2
def gLx(K:Fg)(g:O Dat->g_):O V->Hp->XK->Prop:=λvs H E=>∃d c f k fr,g d=Y (.exc c f k,fr)/\∃F,Good F H/\de K F d vs/\∀e a b,Step F H e a->a b=L->E (.ref c) (Y b) (upd a b (.xd [(f,kV k)]))
def Yq(K:Fg)(n:T)(f g:O Dat->g_):Sp:=λvs H Q E=>Z vs=n/\(gL K f vs H Q\/gLx K g vs H E)
def Qg{K:Fg}(h:qV d=Y k)(r:Rep K F d w):w=kV k:=by
 cases d with
 |int i=>cases h;exact r
 |str x=>cases h;exact r
 |_=>cases h
def YE(C:Fs)(c:T)(f:aa)(xe:Ex):Out->g_
 |.nx a=>(be C xe (full a)).bind λx=>(qV x.1).map λk=>(.exc c f k,U)
 |_=>L
def QF(C:Fs)(B f:T)(body:O Sx)(z:T×aa×Ex)(ds:O Dat):g_:=
 if Z ds=B then(dI C body (ds.map (λd=>Y (d,J))++bb (f - B) L)).bind (YE C z.1 z.2.1 z.2.2)else L
def gCx(K:Fg)(C:Fs)(f:Hp)(H₀:HZ)(D:Ends)(B:XK)(z:T×aa×Ex):Out->Prop
 |.rt d fr=>∀v b a,Step f H₀.h b a->Rep K b d v->(fr=U->hV K H₀.h a d v)->D.rt v a
 |.nx e=>∃d fr k,be C z.2.2 (full e)=Y (d,fr)/\qV d=Y k/\∀b a c,Step f H₀.h b a->a c=L->B (.ref z.1) (Y c) (upd a c (.xd [(z.2.1,kV k)]))
 |_=>False
def Wi(K:Fg)(C:Fs)(f:XK)(z:T×aa×Ex)(xs:O Sx):TS:=λD σ H=>∃a H₀ F b out,dI C xs b=Y out/\Rl K a H₀ F H σ b/\gCx K C a H₀ D f z out
section
variable{X:Cx}{st:iE}
def JV(h1:SS X.yk C st x)(h2:sY X B (Wi X.K C I z xs)):sY X (st::B) (Wi X.K C I z (x::xs)):=sY.imp (Bj (PS.yk h1) h2) λD σ H b=>by
 refine ac λ_ g=>?_;obtain⟨i,H₀,F,j,out,h,R,k⟩:=b;obtain⟨o,ho,h⟩:=bT h;apply g;refine⟨i,_,F,j,o,ho,R,?_⟩
 clear g R ho; cases o with
 |nx a=>exact λF1 f c s1 e=>⟨i,_,F1,a,_,h,e,k⟩
 |rt d fr=>cases h;exact k
 |_=>cases h;exact k.elim
def Om(B:G5 X EE)(O':X.calm=U)(I:Gl X x)(hm:X.mg x=Y (.ref c))(q:vI X.K c fI=U)(hd:(x == ("__debug__":aa))=J)(F:jx X.prog X.w X.K X.mg X.base vq k fI fd ["self",f] (vP c f))(hr:i7 (k+1) X.A)(hb:Binds X.K fd ["self",f] [])
  (ha:SA X.yk C [P] [xe])(he:aP [P] X.env=[(J,eval P X.env)]):sY X [.Raise (Y (.Call (.Name x np) [P] [] S)) L pos] (Wi X.K C EE (c,f,xe) []):=
 sY.imp (zy (KE B O' I hm q hd F hr hb ha he)) λD σ H g=>by
  refine ac λ_ n=>?_;obtain⟨t,H₀,G,u,out,h,R,k⟩:=g;cases h;obtain⟨d,fr,i,h1,h2,k⟩:=k;obtain⟨j,v,a⟩:=R.jo;apply n;refine⟨_,[d],by simp only[mH];rw[h1];rfl,j,a.step.good,a.full,λvs o p st r=>?_⟩;obtain⟨w,m,rfl,l,e⟩:=r;cases e;exact⟨w,W,λs b=>by rw[Qg h2 l];exact k o p s (a.step.trans st) b⟩
end
section
variable{K:Fg}{base:bJ}
def Bd{N ps:O aa}(g:Good B H)(r:de K B ds vs)(hl:Z vs=Z ps)(C:Z ds=Z ps)(f:Z ps<=Z N) :
  Rl K B ⟨H,L⟩ B H (L2.start N vs) (ds.map (λd=>Y (d,J))++bb (Z N - Z ps) L):=by
 refine⟨Step.refl g,?_,λi h q=>?_,λ_ _ _ z=>(nomatch z),λ_=>[],λi h q=>?_,λi j d1 d2 a c e=>?_⟩
 .unfold L2.start;simp[hl,C]
 .have hi:i<Z ds:=by
   by_cases hi:i<Z ds
   .exact hi
   .rw[aQ (by simpa using hi),bI]at q;split at q<;>cases q
  rw[aR (by simpa using hi),aV]at q;obtain⟨d2,k,l⟩:=eT q;cases l;obtain⟨v,m,b⟩:=r.get k;refine⟨v,?_,b⟩;unfold L2.start;rw[aR (by simp_all),aV,m];rfl
 .exfalso;by_cases hi:i<Z ds
  .rw[aR (by simpa using hi)]at q
   simp_all
  .rw[aQ (by simpa using hi),bI]at q;split at q<;>cases q
 .simp
theorem wF:∀{a:O Sx}{ρ:cT}{o:Out},dI C (a++[.Ay]) ρ=Y o->dI C a ρ=Y o/\∀f,o≠.nx f
 |[],ρ,o,h=>by cases h
 |s::a,ρ,o,h=>by
   obtain⟨b,h1,h2⟩:=bT h
   clear h; cases b with
   |nx c=>obtain⟨h3,d⟩:=wF h2;exact⟨(iD).mpr ⟨_,h1,h3⟩,d⟩
   |_=>cases h2;exact⟨(iD).mpr ⟨_,h1,W⟩,λ_ z=>nomatch z⟩
def Wq{st:iE}(F:Xs K x qual st f I)(S:lV N ps (bE st))(B:Z ps<=Z N)
  (R:∀(cdv:ak)(A:bP)(outer:O C8)(s:ao)(H:Hp)(E:XK),i7 k (A.deeper (f7 qual (bE st) s.heap.objs.size f cdv))->
   sY (pJ (IV P w) P w K mg base N qual (bE st) f cdv A outer s H E) (i5 st) (Wi K C E z body)) :
  jx P w K mg base (IV P w) (k+1) f I ps (Yq K ps.length (QG C ps.length N.length (body++[.Ay])) (QF C ps.length N.length body z)):=by
 refine ac λ_ j=>?_;obtain⟨oc,od,kV,doc,pm,an,cdv,ct,osl,rfl,l,a⟩:=F.ex;apply j;refine Mf l a S (λvs H Q E h=>h.1) λA outer s H vs Q E m h=>⟨_,R _ A _ s H E m,?_⟩
 obtain⟨hl,h|h⟩:=h
 .obtain⟨t,d,fr,he,i,g,r,b⟩:=h;unfold QG at he;split at he
  .rename_i e;obtain⟨o,ho,he⟩:=bT he;refine⟨i,_,i,_,o,(wF ho).1,Bd g r hl e B,?_⟩
   cases o with
   |nx u=>exact((wF ho).2 _ W).elim
   |rt d2 p=>clear ho; cases he;exact b
   |_=>cases he
  .cases he
 .obtain⟨t,c,G,n,fr,he,i,g,r,b⟩:=h;unfold QF at he;split at he
  .rename_i e;obtain⟨o,ho,he⟩:=bT he;refine⟨i,_,i,_,o,ho,Bd g r hl e B,?_⟩
   clear B hl g r e ho; cases o with
   |nx M=>
     refine ac λ_ j=>?_;obtain⟨⟨d,I⟩,h1,he⟩:=bT he;obtain⟨V,h2,he⟩:=eT he;cases he;apply j;exact⟨d,I,_,h1,h2,λv y D st q=>b v y D st q⟩
   |_=>cases he
  .cases he
end
noncomputable def abC(f:O (T×cc)):Dat->g_
 |.exc c _ _=>(f.lookup c).map λb=>(.bl b,J)
 |_=>L
def Ex.CO(f:O (T×cc))(a:Ex):Ex:=⟨a.fv,λC b=>(be C a b).bind λx=>abC f x.1⟩
section
variable{X:Cx}{C:Fs}{a:a9}
def aa5(K:Fg)(B:O (T×cc))(vc:V):O V->Hp->VK->Prop:=λd H Q=>∃c f k F v b,d=[v,vc]/\Good F H/\Rep K F (.exc c f k) v/\B.lookup c=Y b/\Q (.bl b) H
def Cz(K:Fg)(f:O (T×cc))(u:ak):Prop:=∀c b,f.lookup c=Y b->AN K c=U/\l8 K (.ref c) u=Y b
def MS(B:∀w,RelV vc w->w=u)(ht:Cz X.K tab u):kH X (.builtin "isinstance") (aa5 X.K tab vc):=λh_ s σ H o us Q I r h=>by
 refine ac λ_ n=>?_;obtain⟨c,f,k,F,v,b,rfl,g,⟨p,t,rfl,e,m⟩,hb,q⟩:=h;obtain⟨i,w,rfl,j,d⟩:=vals2 r;clear r; obtain rfl:=B w d;obtain rfl:i=.ref p:=j;apply n;exact gD (VR (ht _ _ hb).1) I.wu (I.hok p _ (g.sub _ _ e)).1 (ht _ _ hb).2 (λz=>nomatch z) λl=>⟨.bl _,H,I.tok l,W,q⟩
def LJ(h:gE X.K C (.CO tab S) σ H Q):gE X.K C S σ H λv I=>∃c f k F b,Good F I/\Rep X.K F (.exc c f k) v/\tab.lookup c=Y b/\∀P B,Step F I P B->Q (.bl b) B:=by
 refine ac λ_ l=>?_;obtain⟨m,d,fr,h,F,g,R,k⟩:=h;obtain⟨⟨n,j⟩,h3,h2⟩:=bT h
 apply l; clear h; cases n with
 |exc c f e=>
   refine ac λ_ l=>?_;obtain⟨b,hb,h2⟩:=eT h2;cases h2;apply l;exact⟨m,_,j,h3,F,g,R,λv F1 I st r _=>⟨c,f,e,F1,b,st.good,r,hb,λP B i=>k _ P B (st.trans i) W bx⟩⟩
 |_=>cases h2
def Ke(B:Gl X "isinstance")(I:X.mg "isinstance"=L)(hc:PE X (.Name x P) (tC vc))(S:∀w,RelV vc w->w=u)(ht:Cz X.K tab u)(ha:SE X C a xa)
  (he:aP [a,.Name x P] X.env=(J,eval a X.env)::aP [.Name x P] X.env)(O':(er pos (aP [.Name x P] X.env)).any (·.1)=J) :
  SE X C (.Call (.Name "isinstance" p) [a,.Name x P] [] pos) (.CO tab xa):=
 PE.imp (p7 (MS S ht) B I (by decide +kernel) (kT ha (kT hc tS) he) (by decide) (by decide) he O') λσ H Q h=>by
  refine ac λ_ l=>?_;obtain⟨m,d,fr,h1,F,g,R,k⟩:=LJ h;apply l;exact⟨m,d,fr,h1,F,g,R,λv F1 e st r f=>by obtain⟨c,f,n,i,b,j,o,hb,q⟩:=k v F1 e st r f;exact⟨c,f,_,i,v,b,W,j,o,hb,q i e (Step.refl j)⟩⟩
noncomputable def kD:Key->Dat
 |.inl i=>.int i
 |.inr x=>.str x
def VZ{K:Fg}(k:Key):Rep K F (kD k) (kV k):=by cases k<;>rfl
def Qi(r:RelV (kV k) u):PySem.W.handedIn u=U:=by
 cases k with
 |inl i=>obtain⟨t,rfl⟩:=r;rfl
 |inr x=>obtain⟨t,rfl⟩:=r;rfl
def abS(B:O T)(f:aa):Dat->g_
 |.exc c g k=>if c∈B/\g=f then Y (kD k,J)else L
 |_=>L
def Ex.GW(B:O T)(f:aa)(a:Ex):Ex:=⟨a.fv,λC b=>(be C a b).bind λx=>abS B f x.1⟩
def UW(he:PE X e P)(hb:fC e f X.env (eval e X.env)=eval e X.env):PE X (.Attribute e f pos) (λσ H Q=>P σ H λv B=>∃a c F k,v=.ref a/\B a=Y (.ext (XO a c F))/\B F=Y (.xd [(f,kV k)])/\Dg X.K c f=U/\Q (kV k) B):=by
 intro h_ s σ H Q I h;refine Attribute_any_ (jf (he h_ s σ H _ I h) λu s1 y=>?_) (by rw[arm_eval_Attribute,hb]);obtain⟨x,B,i,m,a,c,F,k,ex,n,o,hf,q⟩:=y;subst ex;obtain rfl:u=bY a:=m;obtain⟨p,r,j⟩:=i.hok F _ o;have b:=j f;rw[dE,fc]at b;obtain⟨hh,g,d,t,os⟩:=s1
 cases l:p f with
 |none=>rw[l]at b;exact cA b
 |some w=>
   rw[l]at b;exact N4 i.wu hf (i.hok a _ n).1 r.ns l (Qi b) ⟨_,B,i.tok _,b,q⟩
def Us(B:∀c∈cs,Dg X.K c f=U)(he:SE X C a I)(hb:fC a f X.env (eval a X.env)=eval a X.env):SE X C (.Attribute a f pos) (.GW cs f I):=
 PE.imp (UW he hb) λσ H Q y=>by
  obtain⟨q,d,fr,h,F,g,R,k⟩:=y
  obtain⟨⟨s,i⟩,h3,h2⟩:=bT h
  cases s with
  |exc c o b=>
    have e:(if c∈cs/\o=f then Y (kD b,J)else L)=Y _:=h2;clear h2 h;by_cases hc:c∈cs/\o=f
    .rw[a5 hc]at e;refine ac λ_ n=>?_;cases e;obtain⟨hc,rfl⟩:=hc;apply n;refine⟨q,_,i,h3,F,g,R,λv F1 j st r _=>?_⟩;refine ac λ_ n=>?_;obtain⟨p,t,rfl,l,m⟩:=r;apply n;exact⟨p,c,t,b,W,st.good.sub _ _ l,st.good.sub _ _ m,B c hc,k _ F1 j st (VZ b) bx⟩
    simp_all
  |_=>cases h2
end
def CM:T:=4000
noncomputable def S9(y m:T)(ok:O T)(ρ:cT)(fr:cc):Dat->ar Out
 |.exc c f k=>if c∈ok/\fr=U then Y (.nx ((ρ.set y (Y (.exc c f k,U))).set m L))else L
 |_=>L
def Sx.XF(i j:T)(xs:O Ex)(y m:T)(ok:O T):Sx:={ ex:=λC a=>match yF C (.call j xs) a with
 |some x=>if i=0\/y=0 then L else Y (.nx (x.2.2.set i (Y (x.1,x.2.1 && !im x.1))))
 |none=>if i=0\/y=0 then L else(yF C (.call (j+CM) xs) a).bind λx=>S9 y m ok x.2.2 x.2.1 x.1 }
section
variable{K:Fg}
def Rl.OP(m:T)(R:Rl K B H₀ F H σ ρ):Rl K B H₀ F H (σ.set m L) (ρ.set m L):=by
 obtain⟨r,p⟩:=R.ow;refine⟨R.step,by simpa using R.len,λj o q=>?_,λo h q=>?_,r,λj o q=>?_,λj k d1 d2 c i l=>?_⟩
 .rcases dc q with⟨rfl,e⟩|⟨a,b⟩
  .cases e
  .obtain⟨w,n,d⟩:=R.val j o b;exact⟨w,by simp_all,d⟩
 .rcases dc q with⟨_,e⟩|⟨a,b⟩
  .cases e
  .intro z;rw[bX a];exact R.keep _ h b z
 .rcases dc q with⟨rfl,e⟩|⟨a,b⟩
  .cases e
  .obtain⟨w,n,d⟩:=p.own j o b;exact⟨w,by simp_all,d⟩
 .rcases dc i with⟨_,e⟩|⟨_,f⟩
  .cases e
  .rcases dc l with⟨_,e⟩|⟨_,g⟩
   .cases e
   .exact p.sep j k d1 d2 c f g
end
section
variable{X:Cx}{xs:O Ex}
set_option tactic.hygienic true in
def JN(O':m≠y)(c3:Z xs=n)(hok:∀c∈ok,iq X.K (.ref c) (.ref CD)=Y U) :
  ∀D σ H,gS X.K C (.XF i j xs y m ok) D σ H->X9 X.K (Yq X.K n (C j) (C (j+CM))) CD i y m (gA X.K C xs) D σ H:=λD σ H M=>by
 refine ac λ_ kq=>?_;obtain⟨Fz,H₀,F,ρ,out,h,R,k⟩:=M;apply kq;have s:∀(g:T)(e:gC)(d:Dat)(fr:cc),be C (.call g xs) e=Y _->∃ds,mH C xs e=Y ds/\C g ds=Y (d,fr):=λg e d fr h=>bT h;have h:(match yF C _ ρ with|some x=>if i=0\/y=0 then L else Y (Out.nx (x.2.2.set i (Y (x.1,x.2.1 && !im _))))|none=>if i=0\/y=0 then L else(yF C (.call _ xs) ρ).bind λx=>S9 y m ok ..)=Y _:=h;split at h
 .rename_i x h1;obtain⟨d,fr,ρ'⟩:=x;split at h
  .cases h
  rename_i h0;cases h;obtain⟨e,e1,E,ge,G,ke⟩:=tO (λz=>h0 (.inl z)) R h1 k;obtain⟨ds,e2,e3⟩:=s j e d fr e1;exact⟨e,ds,e2,E,ge,G,λvs F1 N p u=>⟨by rw[u.length,qe e2,c3],.inl ⟨ds,d,fr,e3,F1,p.good,u,λv I H2 r P Q=>ke v I H2 (p.trans r) P λz=>(Q z).back (F:=E) p.hh⟩⟩⟩
 .split at h
  .cases h
  rename_i h0;obtain⟨⟨d,fr,ρ'⟩,h1,h⟩:=bT h
  cases d with
  |exc c f l=>
    have J':(if c∈ok/\fr=U then Y (Out.nx ((ρ'.set y (Y _)).set m L))else L)=Y _:=h;clear h;split at J'
    .rename_i hc;refine ac λ_ kq=>?_;obtain⟨hc,rfl⟩:=hc;cases J';have k2:sH _ Fz _ F { D with nx:=λw H'=>D.nx (w.set m L) H' } (.nx (ρ'.set y (Y _))):=λF' H' w s' S=>k F' H' _ s' (S.OP m);obtain⟨e,e1,E,ge,G,ke⟩:=tO (λz=>h0 (.inr z)) R h1 k2;obtain⟨ds,e2,e3⟩:=s _ e _ _ e1;apply kq;refine⟨e,ds,e2,E,ge,G,λvs F1 N p u=>⟨by rw[u.length,qe e2,c3],.inr ⟨ds,c,f,l,_,e3,F1,p.good,u,λI H2 dx r A=>?_⟩⟩⟩;refine⟨c,dx,W,W,hok c hc,λa ha=>?_⟩;have t:a≠dx:=λz=>by subst z;rw[bK]at ha;cases ha
     have B:=(r.trans (Step.alloc (o:=.xd [(f,kV l)]) r.good A))
     have q:=ke _ _ _ (p.trans (B.trans (Step.alloc (o:=.ext _) B.good ha))) ⟨a,dx,W,bK,(by rw[cz t.symm,bK])⟩ λ_=>⟨_,by simp[t],λb hb=>?_,a,dx,W,bK,(by rw[cz t.symm,bK]),W⟩
     .have es:((σ.set m (Y (V.ref a))).set y (Y (.ref a))).set m L=(σ.set y (Y (.ref a))).set m L:=by
       rw[List.set_comm _ _ O',List.set_set]
      simp_all
     .rcases aA.mp hb with rfl|hb
      .exact(p.trans r).hh.free (by rwa[cz t]at ha)
      .rw[au.mp hb];exact(p.trans r).hh.free A
    .cases J'
  |_=>cases h
end
structure Xg where
 exc:O (aa×T×aa)
 cls:O (aa×O (T×cc))
 GW:O (aa×O T)
 hnd:O (aa×O T)
 rai:O aa
structure Sg where
 fns:O (aa×T)
 con:O (aa×Dat)
 x:Xg
structure Sc where
 N:O aa
 nm:O (aa×lH)
 top:cc
noncomputable def mI:O aa:=["len","range","zip","all","any","isinstance","list","tuple","reversed","int","bool","str","sorted","set","min","max","enumerate","sum","dict","abs"]
noncomputable def oR(x:aa):O aa->ar T
 |[]=>L
 |y::r=>if y=x then Y 0 else(oR x r).map (·+ 1)
set_option tactic.hygienic true
theorem eV:∀{N:O aa}{i:T},oR x N=Y i->N[i]?=Y x
 |[],_,h=>by cases h
 |y::r,i,h=>by
   have h:(if y=x then Y 0 else(oR x r).map (·+ 1))=Y i:=h;split at h
   .cases h;rename_i e;subst e;rfl
   .obtain⟨j,h1,rfl⟩:=eT h;exact(iH ..).trans (eV h1)
noncomputable def B1(x:aa):T->O (aa×T)->ar (T×T)
 |_,[]=>L
 |k,y::r=>if y.1=x then Y (k,y.2)else B1 x (k+1) r
theorem sO:∀{L':O (aa×T)}{k j n:T},B1 x k L'=Y (j,n)->∃i,j=k+i/\L'[i]?=Y (x,n)
 |[],_,_,_,h=>by cases h
 |y::r,k,j,n,h=>by
   have h:(if y.1=x then Y (k,y.2)else B1 x (k+1) r)=Y (j,n):=h;split at h
   .cases h;rename_i e;clear h; subst e;exact⟨0,W,W⟩
   .obtain⟨i,a,b⟩:=sO h;exact⟨i+1,aH (iY (ag a)) (iY (ag a.symm)),(iH ..).trans b⟩
set_option tactic.hygienic false
noncomputable def gJ(x:aa):cc:=!(x == ("__debug__":aa)) && !(x == ("__classdict__":aa)) && !(x == ("__name__":aa))
noncomputable def aaG:ar lH->cc
 |some .local=>U
 |some .cell=>U
 |some .free=>U
 |_=>J
noncomputable def abq:ar lH->cc
 |some .local=>U
 |some .cell=>U
 |_=>J
def uK(S:Sc)(x:aa):cc:=aaG (S.nm.lookup x)
def uN(S:Sc)(x:aa):cc:=abq (S.nm.lookup x)
def AA(S:Sc)(x:aa):cc:=S.nm.lookup x == Y .globalImplicit
noncomputable def dP:a9->cc
 |.Starred _ _=>J
 |_=>U
def tW:a9->cc
 |.Set _ _ _=>J
 |_=>U
noncomputable def si:a9->cc
 |.IfExp _ _ _ _=>J
 |_=>U
noncomputable def W8:C5->ar XB
 |.Add=>Y .add
 |.Sub=>Y .sub
 |.Mult=>Y .mul
 |.Mod=>Y .mod
 |.RShift=>Y .shr
 |.BitAnd=>Y .band
 |_=>L
noncomputable def Z0:CmpOp->ar Cop
 |.Eq=>Y .eq
 |.NotEq=>Y .ne
 |.Lt=>Y .lt
 |.Gt=>Y .gt
 |.IsNot=>Y .nisn
 |.In=>Y .isin
 |.NotIn=>Y .nin
 |_=>L
noncomputable def cTy(x:aa):ar Ty:=
 if x="int" then Y .int else if x="bool" then Y .bool else if x="str" then Y .str else if x="tuple" then Y .tuple else if x="list" then Y .list else L
noncomputable def W7(x:aa):ar Blt:=
 if x="len" then Y .len else if x="tuple" then Y .tuple else if x="int" then Y .int else if x="str" then Y .str else L
noncomputable def Bg(S:Sc)(sc:nR):O (aa×lH):=sc.names.map λp=>if(p.2 == eQ && S.nm.lookup p.1 == Y .cell)then(p.1,m9)else p
noncomputable def iM:a9->ar aa
 |.Name x _=>Y x
 |_=>L
def dZ(h:iM e=Y x):∃p,e=.Name x p:=by
 unfold iM at h;split at h
 .cases h;exact⟨_,W⟩
 .cases h
def namesOf:O a9->ar (O aa)
 |[]=>Y []
 |e::r=>(iM e).bind λt=>(namesOf r).map λa=>t::a
def qo:a9->ar (cc×O aa)
 |.Name t _=>Y (U,[t])
 |.Tuple a _ _=>(namesOf a).map λb=>(J,b)
 |_=>L
def freeOf(sc:nR):O aa:=sc.names.filterMap λp=>if p.2=.free then Y p.1 else L
def uF(N:O aa):O aa->ar (O T)
 |[]=>Y []
 |x::r=>(oR x N).bind λi=>(uF N r).map λis=>i::is
noncomputable def MM(S:Sc)(sc:nR)(tn f:O aa):cc:=
 decide (sc.kind=.function) && sc.names.all (λy=>!decide (y.2=.cell)) && sc.names.all (λy=>!decide (y.2=.local) || decide (sc.names.lookup y.1=Y .local))
  && sc.names.all (λy=>!decide (y.2=.free) || decide (S.nm.lookup y.1=Y .cell) || decide (S.nm.lookup y.1=Y .free))
  && f.all (λx=>(decide (S.nm.lookup x=Y .cell) || decide (S.nm.lookup x=Y .free)) && decide (sc.names.lookup x=Y .free))
  && decide (tn++f).Nodup && tn.all λx=>decide (sc.names.lookup x=Y .local)
def inner(S:Sc)(sc:nR)(tn f:O aa):Sc:=⟨tn++f,Bg S sc,J⟩
noncomputable def B0(f:Ex->Ex->Ex):O Ex->ar Ex
 |[]=>L
 | x::r=>match r with
   |[]=>Y x
   |_::_=>(B0 f r).map (f x)
def t5(f:a9->ar Ex):O a9->ar (O Ex)
 |[]=>Y []
 |e::r=>if dP e=U then(f e).bind λx=>(t5 f r).map λa=>x::a else L
noncomputable def jR{α:Type}:O α->ar α
 |[]=>L
 |a::r=>if r.isEmpty=U then Y a else L
def fF (h:jR l=Y a):l=[a]:=by
 match l,h with
 |[b],h=>cases h;rfl
def Bp{α:Type}:O α->ar (α×α)
 |[]=>L
 |a::r=>(jR r).map λb=>(a,b)
def sg (h:Bp l=Y p):l=[p.1,p.2]:=by
 cases l with
 |nil=>cases h
 |cons a r=>
   obtain⟨b,h1,rfl⟩:=eT h;rw[fF h1]
structure Ca where
 fn:a9
 args:O a9
 kws:O Keyword
 pos:rC
noncomputable def QV:a9->ar Ca
 |.Call fn args kws p=>Y ⟨fn,args,kws,p⟩
 |_=>L
def Ad(h:QV e=Y c):e=.Call c.fn c.args c.kws c.pos:=by
 unfold QV at h;split at h
 .cases h;rfl
 .cases h
def qg(e:a9):ar (aa×O a9):=(QV e).bind λc=>if c.kws.isEmpty=U then(iM c.fn).map λx=>(x,c.args)else L
def kN(h:qg e=Y (x,args)):∃p q,e=.Call (.Name x p) args [] q:=by
 obtain⟨⟨fn,as,kws,q⟩,h0,h1⟩:=bT h;clear h; obtain rfl:=Ad h0;split at h1
 .rename_i hk;obtain⟨y,h2,h3⟩:=eT h1;clear h1; cases h3;obtain⟨p,a⟩:=dZ h2
  grind
 .cases h1
def isTup:a9->cc
 |.Tuple _ _ _=>U
 |_=>J
def LL(h:isTup e=U):∃es k p,e=.Tuple es k p:=by
 unfold isTup at h;split at h
 .exact⟨_,_,_,W⟩
 .cases h
def ZX(S:Sc)(f:a9->ar Ex)(tg:a9)(x:aa)(args:O a9):ar Iw:=
 if AA S x=U then(t5 f args).bind λb=>
  if x="range" then(jR b).map λa=>.rng [a]
  else if(decide (x="zip") && isTup tg)=U then(Bp b).map λp=>.zip [p.1,p.2]else L
 else L
def V9(x:aa):cc:=decide (x="range") || decide (x="zip")
def LG(e:a9):ar (aa×O a9):=(qg e).bind λc=>if V9 c.1=U then Y c else L
def cI(S:Sc)(f:a9->ar Ex)(tg iter:a9):ar Iw:=match LG iter with
 |some c=>ZX S f tg c.1 c.2
 |none=>(f iter).map .itv
def abP(f:a9->ar Ex):O a9->ar (O Ex)
 |[]=>Y []
 |c::r=>if(r.isEmpty && si c)=U then(f c).map λx=>[x]else L
noncomputable def MU(f:a9->ar Ex):ar a9->ar (ar Ex)
 |none=>Y L
 |some e=>(f e).map Y
noncomputable def W3:Const->ar Dat
 |.int i=>Y (.int i)
 |.bool b=>Y (.bl b)
 |.none=>Y .non
 |.str x=>Y (.str x)
 |_=>L
def Sq(G:Sg)(S:Sc)(x:aa):ar Ex:=if gJ x=U then(if uK S x=U then(oR x S.N).map .v else if AA S x=U then(G.con.lookup x).map .con else L)else L
def cUn(f:a9->ar Ex)(a:a9):UnaryOp->ar Ex
 |.Not=>if si a=U then(f a).map .not else L
 |_=>L
def W5(f:a9->ar Ex)(es:O a9):BoolOp->ar Ex
 |.And=>(t5 f es).bind (B0 .and)
 |.Or=>(t5 f es).bind (B0 .or)
def Sy(f:a9->ar Ex)(a:a9)(B:O CmpOp)(bs:O a9):ar Ex:=(f a).bind λc=>match jR B with
 |some e=>(jR bs).bind λb=>if tW b=U then(Z0 e).bind λo=>(f b).map λd=>.cmp o c d else L
 |none=>L
def MY(f:a9->ar Ex)(B:O (ar a9))(vs:O a9):ar Ex:=
 if(B.isEmpty && vs.isEmpty)=U then Y .rj
 else L
noncomputable def kR:a9->ar (ar a9×ar a9×ar a9)
 |.Slice lo hi st _=>Y (lo,hi,st)
 |_=>L
def ZU(f:a9->ar Ex)(a b:a9):ar Ex:=(f a).bind λc=>match kR b with
 |some t=>if t.2.2.isNone=U then(MU f t.1).bind λd=>(MU f t.2.1).map λe=>.sl c d e else L
 |none=>(f b).map λg=>.ix c g
def W1(S:Sc)(f:a9->ar Ex)(o:a9)(args:O a9):ar Ex:=(jR args).bind λe=>(qg e).bind λc=>(jR c.2).bind λa=>if(decide (c.1="reversed") && baseOk o && AA S "reversed" && dP a)=U then(f o).bind λb=>(f a).map λd=>.jrv b d else L
def Sr(G:Sg)(S:Sc)(f:a9->ar Ex)(o:a9)(m:aa)(ap:rC)(args:O a9)(cp:rC):ar Ex:=
 if(ap.endLine == cp.line)=U then match(if m="join" then W1 S f o args else L)with
 |some z=>Y z
 |none=>(t5 f args).bind λc=>if baseOk o=U then(f o).bind λa=>(WY m args.length).map λb=>.lj b a c else L
 else L
def W2(S:Sc)(f:a9->ar Ex)(args:O a9):ar Ex:=(Bp args).bind λp=>(iM p.2).bind λt=>
 if(AA S "isinstance" && AA S t && dP p.1)=U then(cTy t).bind λty=>(f p.1).map λa=>.blt (.isi ty) [a]else L
def WX(S:Sc)(f:a9->ar Ex)(x y:aa)(b:Blt)(args:O a9):ar Ex:=(jR args).bind λe=>(qg e).bind λc=>if c.1=y then(jR c.2).bind λa=>
 if(AA S x && AA S y && dP a)=U then(f a).map λd=>.blt b [d]else L else L
def ZZ(G:Sg)(S:Sc)(x:aa)(xs:O Ex):ar Ex:=
 if(gJ x && AA S x)=U then match B1 x 0 G.fns with
  |some a=>if Z xs=a.2 then Y (.call a.1 xs)else L
  | none=>match jR xs with
    |some c=>(W7 x).map λb=>.blt b [c]
    |none=>(Bp xs).bind λp=>if x="max" then Y (.bin .mx p.1 p.2)else if x="min" then Y (.bin .mn p.1 p.2)else L
 else L
def ZY(G:Sg)(S:Sc)(f:a9->ar Ex)(args:O a9):ar Ex:=(Bp args).bind λp=>(iM p.2).bind λt=>
 if(AA S "isinstance" && AA S t && dP p.1 && gJ t)=U then(G.x.cls.lookup t).bind λb=>(f p.1).map λa=>.CO b a else L
def ED(G:Sg)(S:Sc)(f:a9->ar Ex)(x:aa)(args:O a9):ar Ex:=
 if x="isinstance" then(match W2 S f args with|some z=>Y z|none=>ZY G S f args)else match(if x="sorted" then WX S f "sorted" "set" .sset args else L)with
  |some z=>Y z
  |none=>(t5 f args).bind (ZZ G S x)
noncomputable def wU:a9->ar (a9×aa×rC)
 |.Attribute o m ap=>Y (o,m,ap)
 |_=>L
def uf(h:wU e=Y t):e=.Attribute t.1 t.2.1 t.2.2:=by
 unfold wU at h;split at h
 .cases h;rfl
 .cases h
def M0(G:Sg)(S:Sc)(f:a9->ar Ex)(fn:a9)(args:O a9)(cp:rC):ar Ex:=match wU fn with
 |some t=>Sr G S f t.1 t.2.1 t.2.2 args cp
 |none=>(iM fn).bind λx=>ED G S f x args
structure Gn where
 tg:a9
 it:a9
 ifs:O a9
def Sd(f:O Comprehension):ar Gn:=(jR f).bind λg=>if g.is_async=0 then Y ⟨g.target,g.iter,g.ifs⟩else L
def Sv(S:Sc)(f:Sc->a9->ar Ex)(elt:a9)(g:Gn)(sc:nR):ar Ex:=(qo g.tg).bind λt=>(uF S.N (freeOf sc)).bind λcaps=>
 if(MM S sc t.2 (freeOf sc) && tW g.it)=U then
  (cI S (f S) g.tg g.it).bind λit=>(abP (f (inner S sc t.2 (freeOf sc))) g.ifs).bind λa=>(f (inner S sc t.2 (freeOf sc)) elt).map λxe=>.comp t.2.length t.1 caps it a xe
 else L
noncomputable def LM:a9->cc
 |.List _ _=>U
 |.ListComp _ _ _ _=>U
 |_=>J
def LN:C5->cc
 |.Add=>U
 |_=>J
def Im(h:LN op=U):op=.Add:=by cases op<;>first|rfl|cases h
def QU(f:C5)(a b:a9):cc:=LN f && LM a && LM b
def Wa:a9->cc
 | .Constant c _ _=>match c with
   |.int _=>U
   |_=>J
 |_=>J
def cE(G:Sg):T->Sc->a9->ar Ex
 |0,_,_=>L
 | n+1,S,e=>match e with
   |.Constant c _ _=>(W3 c).map .con
   |.Name x _=>Sq G S x
   |.BinOp a k b _=>if QU k a b=U then(cE G n S a).bind λd=>(cE G n S b).map λf=>.cat d f else(W8 k).bind λo=>(cE G n S a).bind λd=>(cE G n S b).map λf=>.bin o d f
   |.UnaryOp k a _=>cUn (cE G n S) a k
   |.BoolOp k l _=>if l.all si=U then W5 (cE G n S) l k else L
   |.Compare a h bs _=>Sy (cE G n S) a h bs
   |.IfExp c a b _=>if si c=U then(cE G n S c).bind λi=>(cE G n S a).bind λd=>(cE G n S b).map λf=>.ite i d f else L
   |.Tuple l _ _=>(t5 (cE G n S) l).map .tup
   |.List l _=>(t5 (cE G n S) l).map .lst
   |.Dict q vs _=>MY (cE G n S) q vs
   |.Subscript a b _=>ZU (cE G n S) a b
   |.Call fn args kws cp=>if kws.isEmpty=U then M0 G S (cE G n S) fn args cp else L
   |.Attribute a m _=>if baseOk a=U then(G.x.GW.lookup m).bind λr=>(cE G n S a).map λd=>.GW r m d else L
   |.ListComp p j sc _=>(Sd j).bind λg=>Sv S (cE G n) p g sc
   |_=>L
def CV(K:Fg)(d:Dat)(v:V):Prop:=(∀F,Rep K F d v)/\∀a,v=.ref a->∃o,K.lookup a=Y o/\o.cls=.type "tuple"/\o.dict=L
def Nf(K:Fg)(mg:aa->ar ak)(x:aa)(f:O (T×cc)):Prop:=(∃C,mg x=Y (.ref C)/\Cz K f (.ref C))\/∃T',mg x=L/\dt x=Y (.type T')/\x≠"__name__"/\Cz K f (.type T')
structure pA(G:Sg)(C:Fs)(S:Sc)(X:Cx):Prop where
 N:X.N=S.N
 nm:X.env.scope.names=S.nm
 kind:X.env.scope.kind=.function
 calm:X.calm=U
 un:X.A.units+21<eE
 xe:X.xe=λ_ _=>False
 fn:S.top=U->∀x,X.fn x=U
 fns:∀(j:T)x n,G.fns[j]?=Y (x,n)->∃k f fd ps,(jx X.prog X.w X.K X.mg X.base vq k f fd ps (pf X.K n (C j))/\jx X.prog X.w X.K X.mg X.base vq k f fd ps (TR X.K n (C (j+zI))))/\i7 k X.A/\X.mg x=Y (.ref f)/\dO X.K (.ref f)=U/\Binds X.K fd ps []
 blt:∀x∈mI,X.mg x=L
 con:∀x d,G.con.lookup x=Y d->∃v u,X.mg x=Y u/\RelV v u/\CV X.K d v
 cls:∀x tab,G.x.cls.lookup x=Y tab->Nf X.K X.mg x tab
 GW:∀f cs,G.x.GW.lookup f=Y cs->∀c∈cs,Dg X.K c f=U
 hnd:∀n ok,G.x.hnd.lookup n=Y ok->∃CD,X.mg n=Y (.ref CD)/\∀c∈ok,iq X.K (.ref c) (.ref CD)=Y U
 rai:∀(j:T)x n,G.fns[j]?=Y (x,n)->x∈G.x.rai->∃k f fd ps,jx X.prog X.w X.K X.mg X.base (IV X.prog X.w) k f fd ps (Yq X.K n (C j) (C (j+CM)))/\i7 k X.A/\X.mg x=Y (.ref f)/\dO X.K (.ref f)=U/\Binds X.K fd ps []
 st:S.top=U->X.stack=X.env::X.outer
 fm:S.top=U->X.env.frame=Y X.env.locals
inductive Args (P:a9->Ex->Prop):O a9->O Ex->Prop
 |nil:Args P [] []
 |cons {e:a9} {es:O a9} {x:Ex} {xs:O Ex}:dP e=U->P e x->Args P es xs->Args P (e::es) (x::xs)
def bD (h:(if b=U then x else L)=Y y):b=U/\x=Y y:=by
 simp_all
section
variable{G:Sg}{C:Fs}{S:Sc}{X:Cx}{e:a9}{x:aa}
def lU(T':pA G C S X)(h:uK S x=U):M9 X.env.scope x:=by
 unfold uK at h;unfold M9;rw[T'.nm]
 cases q:S.nm.lookup x with
 |none=>rw[q]at h;cases h
 |some k=>rw[q]at h;cases k<;>first|(simp;done)|cases h
def oQ(T':pA G C S X)(h:uN S x=U):L2.Loc X.env.scope x:=by
 unfold uN at h;unfold L2.Loc;rw[T'.nm]
 cases q:S.nm.lookup x with
 |none=>rw[q]at h;cases h
 |some k=>rw[q]at h;cases k<;>first|(simp;done)|cases h
def iA(T':pA G C S X)(h:AA S x=U):Gl X x:=by
 unfold Gl tH;rw[T'.nm];exact beq_iff_eq.mp h
def eJ(h:gJ x=U):(x == ("__debug__":aa))=J/\(x == ("__classdict__":aa))=J/\x≠"__name__":=by
 unfold gJ at h
 simp_all
def cv(h:dP e=U):aP (e::es) env=(J,eval e env)::aP es env:=by
 cases e<;>first|rfl|cases h
theorem lg:∀{es:O a9},es.all dP=U->(er pos (aP es env)).any (·.1)=J
 |[],_=>rfl
 |e::es,h=>by
   rw[eB,ah]at h;rw[cv h.1];have q:=lg (pos:=pos) (env:=env) h.2;unfold er at q ⊢;rw[aI,rP,q];rfl
theorem j9(hf:∀e x,f e=Y x->P e x):∀{es:O a9}{xs:O Ex},t5 f es=Y xs->Args P es xs
 |[],_,h=>by cases h;exact .nil
 |e::r,_,h=>by
   obtain⟨hs,h⟩:=bD h;obtain⟨x,h1,h⟩:=bT h;obtain⟨xs,h2,rfl⟩:=eT h;exact .cons hs (hf _ _ h1) (j9 hf h2)
theorem Args.sa{es:O a9}{xs:O Ex}(h0:Args (SE X C) es xs):SA X C es xs:=by
 induction h0 with
 |nil=>exact qS
 |cons hs h _ r=>exact kS h r (cv hs)
theorem Args.sf{es:O a9}{xs:O Ex}(h0:Args (SE X C) es xs):SF X C es xs:=by
 induction h0 with
 |nil=>exact Kb
 |cons hs h _ r=>exact Fk h r (cv hs)
theorem Args.star{es:O a9}{xs:O Ex}(h0:Args P es xs):es.all dP=U:=by
 induction h0 with
 |nil=>rfl
 |cons hs _ _ r=>rw[eB,hs,r];rfl
theorem Args.len{es:O a9}{xs:O Ex}(h0:Args P es xs):Z xs=Z es:=by
 induction h0 with
 |nil=>rfl
 |cons _ _ _ r=>exact c8 (·+ 1) r
def Args.one(h:Args P es [z]):∃a,es=[a]/\dP a=U/\P a z:=by
 cases h with
 |cons s p r=>cases r;exact⟨_,W,s,p⟩
def Args.two(h:Args P es [z,w]):∃a b,es=[a,b]/\dP a=U/\dP b=U/\P a z/\P b w:=by
 cases h with
 |cons s p r=>
   obtain⟨b,rfl,d,c⟩:=r.one;exact⟨_,b,W,s,d,p,c⟩
def Kg(s:dP a=U)(f:dP b=U)(ha:SE X C a z)(hb:SE X C b w):SA X C [a,b] [z,w]:=kS ha (kS hb qS (cv f)) (cv s)
def JU(s:dP a=U)(f:dP b=U):aP [a,b] env=[(J,eval a env),(J,eval b env)]:=(cv s).trans (c8 _ (cv f))
def Q8(h:W8 op=Y o):lu X (dy op) (gB X.K (iT o)):=by
 cases op<;>first|(cases h;first|exact PJ|exact Pu|exact Pz|exact PC|exact Pw|exact PH)|cases h
def GR(f:X.A.units+21<eE)(h:Z0 op=Y o):lu X (dk op) (gB X.K (ue o)):=by
 cases op<;>first|(cases h;first|exact U7 (aE f)|exact U1 (aE f)|exact U4|exact U6|exact op_geD|exact K1|exact U5 f|exact Py f)|cases h
def Ld(h:tW b=U):fy op b=J:=by
 cases b<;>first|rfl|cases h
def OR(ha:SE X C a B):SE X C (.UnaryOp .Not a pos) (.not B):=by
 rintro h_ s σ H Q I ⟨p,d,fr,h,F,g,R,k⟩;refine ac λ_ e=>?_;obtain⟨⟨o,i⟩,h1,h⟩:=bT h;obtain⟨b,hb,h⟩:=eT h;cases h;apply e;refine UnaryOp_ (jf (ha h_ s σ H (λv f=>∃F1,Step F H F1 f/\Rep _ F1 o v) I ⟨p,o,i,h1,F,g,R,λv F1 f st r _=>⟨F1,st,r⟩⟩) λv s1 y=>?_);obtain⟨x,f,j,l,F1,st,r⟩:=y;refine not_of (jf (JM h_ s1 σ f x v (λc n=>c=b/\n=f) j l ⟨b,Fd st.good r hb,W,W⟩) ?_);rintro c s2 ⟨n,m,rfl,rfl⟩;exact⟨.bl _,n,m,W,k _ F1 n st W bx⟩
def XA(X:Cx)(C:Fs)(e:a9)(x:Ex):Prop:=SE X C e x/\(si e=U->ST X C e x)
theorem yB{x:Ex}(g:Args (XA X C) es xs):es.all si=U->B0 .and xs=Y x->SE X C (.BoolOp .And es pos) x/\SW X C (.BoolOp .And es pos) x:=by
 induction g generalizing x with
 |nil=>intro _ h;cases h
 |cons _ p e i=>
   intro n h;rw[eB,ah]at n;cases e with
   |nil=>cases h;exact⟨Fn p.1,Og (p.2 n.1)⟩
   |cons s q r=>obtain⟨z,h1,rfl⟩:=eT h;obtain⟨a,i2⟩:=i n.2 h1;exact⟨Ut p.1 a,Th (p.2 n.1) i2⟩
theorem BZ{x:Ex}(g:Args (XA X C) es xs):es.all si=U->B0 .or xs=Y x->SE X C (.BoolOp .Or es pos) x/\SW X C (.BoolOp .Or es pos) x:=by
 induction g generalizing x with
 |nil=>intro _ h;cases h
 |cons _ p e i=>
   intro n h;rw[eB,ah]at n;cases e with
   |nil=>cases h;exact⟨Fn p.1,Tf (p.2 n.1)⟩
   |cons s q r=>obtain⟨z,h1,rfl⟩:=eT h;obtain⟨a,i2⟩:=i n.2 h1;exact⟨Yz p.1 a,Yi (p.2 n.1) i2⟩
set_option tactic.hygienic true
def OW(T':pA G C S X)(hb:W7 x=Y f)(hp:gJ x=U)(B:AA S x=U)(hs:dP e=U)(he:SE X C e F):SE X C (.Call (.Name x p) [e] [] pos) (.blt f [F]):=by
 have h1:aP _ X.env=(J,eval e _)::aP [] _:=cv hs;have ha :=kS he qS h1;obtain⟨d1,d2,d3⟩:=eJ hp;have a:=iA T' B;unfold W7 at hb;split at hb
 .rename_i q;refine ac λ_ b=>?_;subst q;cases hb;apply b;exact OX IL a (T'.blt _ (by decide +kernel)) PySem.boot_len ha d3 d1 h1 W
 split at hb
 .rename_i q;refine ac λ_ b=>?_;subst q;cases hb;apply b;exact zu Ci a (T'.blt _ (by decide +kernel)) (by decide +kernel) ha d3 d1 h1 W
 split at hb
 .rename_i q;subst q;cases hb;exact zu IP a (T'.blt _ (by decide +kernel)) (by decide +kernel) ha d3 d1 h1 W
 split at hb
 .rename_i q;subst q;cases hb;exact zu IK a (T'.blt _ (by decide +kernel)) (by decide +kernel) ha d3 d1 h1 W
 .cases hb
def Q6(T':pA G C S X)(ha:Args (SE X C) es xs)(h:ZZ G S x xs=Y z):SE X C (.Call (.Name x p) es [] pos) z:=by
 obtain⟨hp,h⟩:=bD h;rw[ah]at hp;obtain⟨d1,d2,d3⟩:=eJ hp.1
 cases g:B1 x 0 _ with
 |some u=>
   obtain⟨j,n⟩:=u;rw[g]at h;have h:(if Z xs=n then Y (Ex.call j xs)else L)=Y z:=h;split at h
   .rename_i l;cases h;obtain⟨i,w,y⟩:=sO g;obtain⟨k,f,A,ps,F,m,o,hk,hb⟩:=T'.fns i x n y;rw[fZ]at w;clear y; subst w
    cases ha with
    |nil=>exact Kf j n F.1 m (iA T' hp.2) o hk hb l.symm d1
    |cons hs he r=>exact OV j n F.1 m (iA T' hp.2) o hk hb (kS he r.sa (cv hs)) l d1 (cv hs) (lg r.star)
   .cases h
 |none=>
   rw[g]at h
   clear g; cases ho:jR xs with
   |some s=>
     obtain rfl:=fF ho;obtain⟨b,h1,rfl⟩:=eT h;obtain⟨e,rfl,hs,he⟩:=ha.one;exact OW T' h1 hp.1 hp.2 hs he
   |none=>
     rw[ho]at h;clear ho; obtain⟨⟨s,v⟩,h1,c⟩:=bT h;clear h;clear h; obtain rfl:xs=[s,v]:=sg h1;obtain⟨a,b,rfl,hs,d,he,hb⟩:=ha.two
     .have t:=Kg hs d he hb;split at c
      .rename_i q;subst q;cases c;exact Kd (wK T'.calm) (iA T' hp.2) (T'.blt _ (by decide +kernel)) (by decide +kernel) t d3 d1 (cv hs) (lg (by simp[d]))
      split at c
      .rename_i q;subst q;cases c;exact Kd (EC T'.calm) (iA T' hp.2) (T'.blt _ (by decide +kernel)) (by decide +kernel) t d3 d1 (cv hs) (lg (by simp[d]))
      .cases c
def WW(h:cTy t=Y ty):dt t=Y (.type (tyName ty))/\t∈mI/\(t == ("__debug__":aa))=J/\t≠"__name__":=by
 unfold cTy at h
 repeat' (split at h;(rename_i q;subst q;cases h;exact⟨by decide +kernel,by decide +kernel,by decide +kernel,by decide +kernel⟩))
 cases h
def Su{iter:a9}(T':pA G C S X)(hf:∀e x,f e=Y x->SE X C e x)(h:cI S f tg iter=Y it):SI X C tg iter it/\∀a,it=.itv a->SE X C iter a:=by
 unfold cI at h
 cases hi:LG iter with
 |none=>
   rw[hi]at h;obtain⟨x,h1,rfl⟩:=eT h;exact⟨TZ (hf _ _ h1),λa z=>by cases z;exact hf _ _ h1⟩
 |some c=>
   rw[hi]at h;obtain⟨x,args⟩:=c;obtain⟨m,h1,h2⟩:=bT hi;obtain⟨_,h2⟩:=bD h2;obtain rfl:m=(x,args):=bL h2;obtain⟨p,q,rfl⟩:=kN h1;obtain⟨n,h3⟩:=bD h;clear h h1 h2 hi;clear h2; obtain⟨s,j,g⟩:=bT h3;have ha:=j9 hf j;clear h3 j;have l:=iA T' n;split at g
   .rename_i e;refine ac λ_ r=>?_;subst e;obtain⟨o,i,rfl⟩:=eT g;obtain rfl:=fF i;obtain⟨a,rfl,hs,he⟩:=ha.one;apply r;exact⟨OL l (T'.blt _ (by decide +kernel)) (kS he qS (cv hs)) (cv hs),λa z=>nomatch z⟩
   split at g
   .rename_i e;simp only[ah,c6]at e;refine ac λ_ r=>?_;obtain⟨rfl,ht⟩:=e;obtain⟨p,i,rfl⟩:=eT g;clear g; obtain rfl:=sg i;obtain⟨t,k,u,rfl⟩:=LL ht;obtain⟨a,b,rfl,hs,d,he,hb⟩:=ha.two;apply r;exact⟨TY l (T'.blt _ (by decide +kernel)) (Kg hs d he hb) (JU hs d) (cv d),λa z=>nomatch z⟩
   .cases g
set_option tactic.hygienic false
def lY(h:tW e=U):∀v,ea e X.env v=pure v:=λv=>by
 cases e<;>first|rfl|cases h
theorem Cg:∀{f:O aa}{is:O T},uF N f=Y is->is.map (λj=>N[j]?)=f.map Y
 |[],_,h=>by cases h;rfl
 |x::r,_,h=>by
   obtain⟨i,h1,h⟩:=bT h;obtain⟨is,h2,rfl⟩:=eT h;rw[aI,aI,eV h1,Cg h2]
theorem lookup_mem:∀{L':O (aa×lH)},L'.lookup x=Y k->(x,k)∈L'
 |[],h=>by cases h
 |(y,j)::r,h=>by
   rw[dE]at h;split at h
   .simp_all
   .exact jY _ (lookup_mem h)
structure G7(S:Sc)(sc:nR)(tn cn:O aa):Prop where
 kind:sc.kind=.function
 nocell:∀y∈sc.names,y.2≠.cell
 locs:∀y∈sc.names,y.2=.local->sc.names.lookup y.1=Y .local
 frees:∀y∈sc.names,y.2=.free->S.nm.lookup y.1=Y .cell\/S.nm.lookup y.1=Y .free
 capk:∀x∈cn,(S.nm.lookup x=Y .cell\/S.nm.lookup x=Y .free)/\sc.names.lookup x=Y .free
 nd:(tn++cn).Nodup
 tl:∀x∈tn,sc.names.lookup x=Y .local
def MK(h:MM S sc tn f=U):G7 S sc tn f:=by
 unfold MM at h;simp only[ah,bh,c6,pT,gZ,e6]at h;obtain⟨⟨⟨⟨⟨⟨h1,h2⟩,h3⟩,b⟩,g⟩,c⟩,d⟩:=h;refine⟨h1,h2,λy a e=>?_,λy a e=>?_,g,c,d⟩
 .rcases h3 y a with z|z
  .exact absurd e z
  .exact z
 .rcases b y a with(z|z)|z
  .exact absurd e z
  .exact .inl z
  .exact .inr z
def zY(T':pA G C S X)(h:G7 S sc tn f)(hc:uF S.N f=Y caps):jT X sc tn f caps where
 kind:=h.kind
 nocell:=h.nocell
 locs:=h.locs
 frees:=λy b e=>by unfold tH;rw[T'.nm];exact h.frees y b e
 nofree:=λx e=>lookup_mem e
 caps:=by rw[T'.N];exact Cg hc
 capk:=λx a=>by unfold tH;rw[T'.nm];exact(h.capk x a).1
 capn:=λx a=>(h.capk x a).2
def tN(T':pA G C S X)(h:G7 S sc tn B)(cl:O (aa×aN))(F:ao)(f:Hp)(Ca:aN)(ex:O aN):pA G C (inner S sc tn B) (fH X sc cl (tn++B) F f Ca ex) where
 N:=rfl
 nm:=by
  show(hM sc X.env).names=Bg S sc;unfold hM Bg tH;rw[T'.nm,T'.kind];refine dY λp _=>?_;obtain⟨n,k⟩:=p;dsimp only;rw[show(AH == AH)=U from rfl,ip]
 kind:=h.kind
 calm:=T'.calm
 un:=T'.un
 xe:=rfl
 fn:=λz=>nomatch z
 fns:=T'.fns
 blt:=T'.blt
 con:=T'.con
 cls:=T'.cls
 GW:=T'.GW
 hnd:=T'.hnd
 rai:=T'.rai
 st:=λz=>nomatch z
 fm:=λz=>nomatch z
end
section
variable{G:Sg}{C:Fs}{S:Sc}{X:Cx}{e:a9}{x:aa}{f:a9->ar Ex}
def KQ(T':pA G C S F)(B:S.N.Nodup)(hi:S.N[i]?=Y t)(hl:S.nm.lookup t=Y .local):PG F (.Name t p) (lp i):=by
 refine FH (by rwa[T'.N]) (by rwa[T'.N]) ?_ (.inr (by rwa[T'.nm]));unfold L2.Loc;rw[T'.nm];exact .inl hl
def sr{sc:nR}(h:sc.names.lookup x=Y .local):(Bg S sc).lookup x=Y .local:=by
 unfold Bg;generalize sc.names=L' at h
 induction L' with
 |nil=>cases h
 |cons p r a=>
   obtain⟨y,k⟩:=p;rw[dE]at h;rw[aI];by_cases hc:(k == eQ && S.nm.lookup y == Y .cell)=U
   .dsimp only;rw[a5 hc,dE];split at h
    .simp_all
    .exact a h
   .rw[cb hc,dE];split at h
    .exact h
    .exact a h
theorem oN:∀{es:O a9}{tn:O aa},namesOf es=Y tn->Z (ek es env)=Z es/\(ek es env).findIdx? (·.1)=L/\Z tn=Z es
 |[],tn,h=>by cases h;exact⟨W,W,W⟩
 |e::es,tn,h=>by
   obtain⟨t,h0,h⟩:=bT h;obtain⟨a,h1,rfl⟩:=eT h;obtain⟨p,rfl⟩:=dZ h0;obtain⟨b,c,d⟩:=oN (env:=env) h1;have g:ek (.Name t p::es) env=(J,hW _ _)::ek es _:=rfl;rw[g];refine⟨by simp[b],?_,by simp[d]⟩;rw[List.findIdx?_cons];simp[c]
def gK:T->T->SJ
 |_,0=>Iu
 |k,n+1=>yw (lp k) (gK (k+1) n)
theorem Gy:∀n k x σ H Q F,(∀B I,Q B I->F B I)->gK k n x σ H Q->gK k n x σ H F
 |0,_=>Ir
 |n+1,k=>Er wC (Gy n (k+1))
theorem BW:∀n k,k+n<=nt->wV nt (gK k n)
 |0,_,_=>Hu
 |n+1,k,h=>Dm wC (Gy n (k+1)) (vK (az (aZ _ _) h)) (BW n (k+1) (iY h))
theorem Mb{K:Fg}:∀(ds:O Dat)(vs:O V)(k:T)(σ:St)(ρ:gC)(Q:St->Hp->Prop),de K F ds vs->oj K F σ ρ->Z σ=Z ρ->(∀B,oj K F B (zt k ds ρ)->Q B H)->gK k ds.length vs σ H Q
 |[],vs,k,σ,ρ,Q,r,R,hl,q=>⟨r,q σ R⟩
 |d::ds,vs,k,σ,ρ,Q,r,R,hl,q=>by
   obtain⟨v,w,rfl,a,b⟩:=r;exact⟨v,w,W,Mb ds w _ _ _ Q b (Bh hl R a) (by simpa using hl) q⟩
set_option tactic.hygienic true
def JP{K:Fg}:Xl K n J (L8 K n (gK 0 n)):=λF H σ i d x j Q g R c hl r hb k=>by
 cases d with
 |tup h=>
   have hb:(if Z h=n then Y (zt 0 h i)else L)=Y _:=hb;split at hb
   .rename_i b;cases hb;clear hb; obtain⟨a,vs,rfl,t,r⟩:=r;subst b;exact⟨a,vs,W,(t.mono g.sub).sq,r.length,Mb h vs 0 σ i Q r R hl k⟩
   .cases hb
 |_=>cases hb
theorem Bk(T':pA G C S B)(nd:S.N.Nodup):∀{es:O a9}{tn:O aa}(k:T),namesOf es=Y tn->(∀i t,tn[i]?=Y t->S.N[k+i]?=Y t)->(∀t∈tn,S.nm.lookup t=Y .local)->X0 B es (gK k es.length)
 |[],_,_,_,_,_=>FG
 |e::es,tn,k,h,hi,hl=>by
   obtain⟨t,h0,h⟩:=bT h;obtain⟨a,h1,rfl⟩:=eT h;obtain⟨p,rfl⟩:=dZ h0;refine Bl (KQ T' nd (hi 0 t W) (hl t jM)) (Bk T' nd _ h1 (λi b e=>?_) λb m=>hl b (jY _ m));rw[show k+1+i=k+(i+1)from(j6 ..)]
   simp_all
def X7(T':pA G C S X)(ht:qo tg=Y (one,tn))(h:G7 S sc tn (freeOf sc)) :
  ∃g,qM tn.length g/\Xl X.K tn.length one g/\∀(cl:O (aa×aN))(B:ao)(F:Hp)(Ca:aN)(ex:O aN),PG (fH X sc cl (tn++freeOf sc) B F Ca ex) tg g:=by
 cases tg with
 |Name t p=>
   cases ht;exact⟨_,vK (by simp),Od,λcl B F Ca ex=>KQ (tN T' h cl B F Ca ex) h.nd W (sr (h.tl t (by simp)))⟩
 |Tuple c k pos=>
   obtain⟨b,h1,h2⟩:=eT ht;cases h2;refine⟨L8 _ _ (gK 0 _),Ht (BW _ 0 (ic (aq _) (aU _))),JP,λcl B F Ca ex=>?_⟩;have a:=tN T' h cl B F Ca ex;have n:=oN (env:=(fH X sc cl (tn++freeOf sc) B F Ca ex).env) h1;have q:=Bk a h.nd 0 h1 (λi t e=>by rw[fZ];exact(aR (aK.mp e).1).trans e) λt m=>sr (h.tl t m);rw[<-n.2.2]at q;exact KN a.calm q (n.1.trans n.2.2.symm) n.2.1
 |_=>cases ht
def Ih(G:Sg)(C:Fs)(f:Sc->a9->ar Ex):Prop:=∀S e x,f S e=Y x->∀X,pA G C S X->XA X C e x
def Ck(T':pA G C S X)(h:Sq G S x=Y z):SE X C (.Name x p) z:=by
 obtain⟨hp,h⟩:=bD h;obtain⟨d1,d2,d3⟩:=eJ hp;split at h
 .rename_i a;obtain⟨i,h1,rfl⟩:=eT h;exact Ua i (by rw[T'.N];exact eV h1) (lU T' a) d1 d2
 .obtain⟨d,h1,rfl⟩:=eT (bD h).2;obtain⟨v,u,c,r,hd⟩:=T'.con x d h1;exact OS (iA T' (bD h).1) c r hd.1 d1
def MZ{bs:O a9}(T':pA G C S X)(hf:∀e x,f e=Y x->SE X C e x)(h:Sy f a ops bs=Y z):SE X C (.Compare a ops bs pos) z/\ST X C (.Compare a ops bs pos) z:=by
 obtain⟨k,h1,d⟩:=bT h;clear h
 cases ho:jR ops with
 |some m=>
   obtain rfl:=fF ho;obtain⟨b,h2,g⟩:=bT d;clear d; obtain rfl:=fF h2;obtain⟨hs,i⟩:=bD g;clear g; obtain⟨o,c,j⟩:=bT i;clear i; obtain⟨l,h3,rfl⟩:=eT j;exact⟨Uo (GR T'.un c) (hf _ _ h1) (hf _ _ h3) (Ld hs),Tx (GR T'.un c) (hf _ _ h1) (hf _ _ h3) (Ld hs)⟩
 |none=>
   simp_all
def Co(hf:∀e x,f e=Y x->SE X C e x)(h:MY f B vs=Y z):SE X C (.Dict B vs pos) z:=by
 unfold MY at h;split at h
 .rename_i q;simp only[ah,gr]at q;obtain⟨rfl,rfl⟩:=q;cases h;exact OT
 .cases h
def Cj(hf:∀e x,f e=Y x->SE X C e x)(h:MU f o=Y z):SO X C o z:=by
 cases o with
 |none=>cases h;exact OC
 |some e=>
   obtain⟨y,h1,rfl⟩:=eT h;exact OB (hf _ _ h1)
def Dt{lo st:ar a9}(h:kR b=Y (lo,hi,st)):∃p,b=.Slice lo hi st p:=by
 unfold kR at h;split at h
 .cases h;exact⟨_,W⟩
 .cases h
def my(h:kR b=L):Aj b:=by
 cases b<;>first|(intro o i;rfl)|cases h
def GQ(T':pA G C S X)(hf:∀e x,f e=Y x->SE X C e x)(h:ZU f a b=Y z):SE X C (.Subscript a b pos) z:=by
 obtain⟨i,h1,h⟩:=bT h
 cases hs:kR b with
 |some t=>
   rw[hs]at h;obtain⟨lo,hi,st⟩:=t;obtain⟨j,h2,g⟩:=bT (bD h).2;obtain⟨k,h3,rfl⟩:=eT g;clear g; obtain⟨p,rfl⟩:=Dt hs
   clear hs; cases st with
   |none=>exact Yy (hf _ _ h1) (Cj hf h2) (Cj hf h3)
   |some _=>cases (bD h).1
 |none=>
   rw[hs]at h;refine ac λ_ c=>?_;obtain⟨l,h2,rfl⟩:=eT h;apply c;exact YC (abz (az (Hg T'.un) cF)) (hf _ _ h1) (hf _ _ h2) (my hs)
def Q3{ap cp:rC}(T':pA G C S X)(hf:∀e x,f e=Y x->SE X C e x)(B:(ap.endLine == cp.line)=U)(h:W1 S f o es=Y z):SE X C (.Call (.Attribute o "join" ap) es [] cp) z:=by
 obtain⟨e,h1,b⟩:=bT h;clear h; obtain⟨⟨c,as⟩,h2,d⟩:=bT b;clear b; obtain⟨q,n,rfl⟩:=kN h2;clear h2; obtain rfl:=fF h1;clear h1; obtain⟨a,h3,g⟩:=bT d;clear d; obtain rfl:as=[a]:=fF h3;clear h3; obtain⟨hc,i⟩:=bD g;simp only[ah,c6]at hc;clear g; obtain⟨⟨⟨j,hb⟩,k⟩,hs⟩:=hc;obtain rfl:c="reversed":=j;obtain⟨p,l,m⟩:=bT i;clear i; obtain⟨r,s,rfl⟩:=eT m;exact Ug T'.calm (iA T' k) (T'.blt _ (by decide +kernel)) (hf _ _ l) (hf _ _ s) hb B (cv hs)
def MW(T':pA G C S X)(hf:∀e x,f e=Y x->SE X C e x)(h:Sr G S f o m ap es cp=Y z):SE X C (.Call (.Attribute o m ap) es [] cp) z:=by
 obtain⟨a,h⟩:=bD h;generalize b:(if m="join" then W1 S f o es else L)=w at h
 cases w with
 |some w=>
   cases h;split at b
   .rename_i c;clear h; subst c;exact Q3 T' hf a b
   .cases b
 |none=>
 clear b; obtain⟨j,h1,h⟩:=bT h;have ha:=j9 hf h1;clear h1; obtain⟨hb,h⟩:=bD h;obtain⟨d,h0,h⟩:=bT h;obtain⟨g,h2,rfl⟩:=eT h;exact Q0 (by have:=T'.un;omega) h2 (hf _ _ h0) ha.sa ha.len (λe z=>by subst z;exact cv (by simpa using ha.star)) (λe i z=>by subst z;have q:=bh.mp ha.star;exact⟨cv (q e (by simp)),cv (q i (by simp))⟩) hb a
def QW(T':pA G C S X)(hf:∀e x,f e=Y x->SE X C e x)(h:WX S f x y I es=Y z)
  (hl:∀a B(p q F pos:rC),dP a=U->Gl X x->Gl X y->SE X C a B->SE X C (.Call (.Name x p) [.Call (.Name y q) [a] [] F] [] pos) (.blt I [B])):SE X C (.Call (.Name x p) es [] pos) z:=by
 obtain⟨e,h1,c⟩:=bT h;clear h; obtain⟨⟨d,as⟩,h2,b⟩:=bT c;clear c; obtain⟨q,F,rfl⟩:=kN h2;clear h2; obtain rfl:=fF h1;split at b
 .rename_i g;clear h1; obtain rfl:d=y:=g;obtain⟨a,h3,i⟩:=bT b;clear b; obtain rfl:as=[a]:=fF h3;obtain⟨hc,j⟩:=bD i;simp only[ah]at hc;clear i; obtain⟨B,k,rfl⟩:=eT j;exact hl a B _ _ _ _ hc.2 (iA T' hc.1.1) (iA T' hc.1.2) (hf _ _ k)
 .cases b
def Q5(T':pA G C S X)(hf:∀e x,f e=Y x->SE X C e x)(h:W2 S f es=Y z):SE X C (.Call (.Name "isinstance" p) es [] pos) z:=by
 obtain⟨⟨a,l⟩,h1,b⟩:=bT h;clear h; obtain rfl:es=[a,l]:=sg h1;clear h1; obtain⟨t,h2,c⟩:=bT b;clear b; obtain⟨d,m⟩:=dZ h2;obtain rfl:l=.Name t d:=m;obtain⟨hc,g⟩:=bD c;simp only[ah]at hc;clear c; obtain⟨ty,h3,i⟩:=bT g;clear g; obtain⟨k,j,rfl⟩:=eT i;obtain⟨b1,b2,b3,b4⟩:=WW h3;exact Uk ty (iA T' hc.1.1) (T'.blt _ (by decide +kernel)) (iA T' hc.1.2) (T'.blt _ b2) b1 (hf _ _ j) b4 b3 (cv hc.2) (lg (by rfl))
def Q4(T':pA G C S X)(hf:∀e x,f e=Y x->SE X C e x)(h:ZY G S f es=Y z):SE X C (.Call (.Name "isinstance" p) es [] pos) z:=by
 obtain⟨⟨a,s⟩,h1,g⟩:=bT h;clear h; obtain rfl:es=[a,s]:=sg h1;clear h1; obtain⟨t,h2,i⟩:=bT g;clear g; obtain⟨j,u⟩:=dZ h2;obtain rfl:s=.Name t j:=u;obtain⟨hc,k⟩:=bD i;simp only[ah]at hc;clear i; obtain⟨⟨⟨c1,c2⟩,b⟩,l⟩:=hc;obtain⟨v,h3,m⟩:=bT k;clear k; obtain⟨q,c,rfl⟩:=eT m;have d :=iA T' c2
 rcases T'.cls t _ h3 with⟨n,m1,m2⟩|⟨Ty,m1,m2,m3,o⟩
 .exact Ke (vc:=.ref n) (iA T' c1) (T'.blt _ (by decide +kernel)) (FI d m1 W (eJ l).1) (λw r=>r) m2 (hf _ _ c) (cv b) (lg (by rfl))
 .exact Ke (vc:=.ty Ty) (iA T' c1) (T'.blt _ (by decide +kernel)) (FK d m1 m2 W m3 (eJ l).1) (λw r=>r) o (hf _ _ c) (cv b) (lg (by rfl))
def IS(T':pA G C S X)(hf:∀e x,f e=Y x->SE X C e x)(h:ED G S f x es=Y z):SE X C (.Call (.Name x p) es [] pos) z:=by
 unfold ED at h;split at h
 .rename_i b;subst b
  cases c:W2 S f es with
  |some j=>rw[c]at h;cases h;exact Q5 T' hf c
  |none=>rw[c]at h;exact Q4 T' hf h
 .generalize d:(if x="sorted" then WX S f _ _ _ es else L)=w at h
  cases w with
  |some w=>
    cases h;split at d
    .rename_i b;subst b;exact QW T' hf d λa k _ _ _ _ hs g i ha=>OQ T'.un T'.calm g (T'.blt _ (by decide +kernel)) i (T'.blt _ (by decide +kernel)) ha (by rw[cv hs];rfl)
    .cases d
  |none=>
    obtain⟨l,h1,h⟩:=bT h;exact Q6 T' (j9 hf h1) h
def Cq(T':pA G C S X)(hf:∀e x,f e=Y x->SE X C e x)(h:M0 G S f fn es pos=Y z):SE X C (.Call fn es [] pos) z:=by
 unfold M0 at h
 cases a:wU fn with
 |some t=>
   obtain rfl:=uf a;exact MW T' hf h
 |none=>
   rw[a]at h;obtain⟨x,h1,h⟩:=bT h;obtain⟨p,rfl⟩:=dZ h1;exact IS T' hf h
def BV(h:Sd B=Y g):B=[⟨g.tg,g.it,g.ifs,0⟩]:=by
 obtain⟨c,h1,a⟩:=bT h;clear h; obtain rfl:=fF h1;split at a
 .rename_i b;clear h1; cases a;cases c;cases b;rfl
 .cases a
set_option tactic.hygienic false
def Cp(I:Ih G C F)(T':pA G C S X)(h:Sv S F elt g sc=Y z) :
  ∃tn caps one it xs xe P,z=.comp tn caps one it xs xe/\∃tl:O aa,Z tl=tn/\jT X sc tl (freeOf sc) one/\SI X C g.tg g.it it/\qM tl.length P/\Xl X.K tl.length caps P/\
   (∀(cl:O (aa×aN))(B:ao)(R:Hp)(Ca:aN)(ex:O aN),PG (fH X sc cl (tl++freeOf sc) B R Ca ex) g.tg P/\Nx (fH X sc cl (tl++freeOf sc) B R Ca ex) g.ifs (XW X.K C xs)/\SE (fH X sc cl (tl++freeOf sc) B R Ca ex) C elt xe)/\tW g.it=U:=by
 obtain⟨⟨one,tn⟩,h0,h⟩:=bT h;obtain⟨caps,h1,h⟩:=bT h;obtain⟨hc,h⟩:=bD h;simp only[ah]at hc;obtain⟨it,h2,h⟩:=bT h;obtain⟨xs,h3,h⟩:=bT h;obtain⟨xe,k,rfl⟩:=eT h;have d:=MK hc.1;obtain⟨P,a,i,l⟩:=X7 T' h0 d;refine⟨_,_,_,it,xs,xe,P,W,tn,W,zY T' d h1,(Su T' (λe x q=>(I _ _ _ q X T').1) h2).1,a,i,λcl B R Ca ex=>?_,hc.2⟩;have j:=tN T' d cl B R Ca ex;refine⟨l cl B R Ca ex,?_,(I _ _ _ k _ j).1⟩;generalize g.ifs=ifs at h3
 cases ifs with
 |nil=>cases h3;exact Oj
 |cons c r=>
   obtain⟨b,n⟩:=bD h3;simp only[ah,gr]at b;clear h3; obtain⟨rfl,b⟩:=b;obtain⟨y,m,rfl⟩:=eT n;exact Oi ((I _ _ _ m _ j).2 b)
theorem wN:∀n,Ih G C (cE G n)
 |0=>λ_ _ _ h=>by cases h
 |n+1=>λS e z h X T'=>by
   have t:=λe x h=>wN n S e x h X T';have hf:=λe x h=>(t e x h).1
   cases e with
   |Constant c k p=>
     obtain⟨d,h1,rfl⟩:=eT h
     have q:SE X C (.Constant c k p) (.con d):=by
      cases c<;>first|(clear h; cases h1;first|exact Ul|exact YD|exact Ud|exact Uc)|cases h1
     exact⟨q,λ_=>mj q⟩
   |Name x p=>exact⟨Ck T' h,λ_=>mj (Ck T' h)⟩
   |BinOp a D b p=>
     have h:(if QU D a b=U then(cE G n S a).bind λl=>(cE G n S b).map _ else(W8 D).bind λo=>(cE G n S a).bind λl=>(cE G n S b).map _)=Y z:=h;by_cases hc:QU D a b=U
     .rw[a5 hc]at h;obtain⟨l,h1,h⟩:=bT h;obtain⟨r,h2,rfl⟩:=eT h;simp only[QU,ah]at hc;obtain rfl:=Im hc.1.1;have q:=Uq (pos:=p) (hf _ _ h1) (hf _ _ h2);exact⟨q,λ_=>mj q⟩
     rw[cb hc]at h;obtain⟨o,h0,h⟩:=bT h;obtain⟨l,h1,h⟩:=bT h;obtain⟨r,h2,rfl⟩:=eT h;have q:=Ur (pos:=p) (Q8 h0) (hf _ _ h1) (hf _ _ h2);exact⟨q,λ_=>mj q⟩
   |UnaryOp D a p=>
     cases D with
     |USub=>cases h
     |Not=>
       obtain⟨l,h1,rfl⟩:=eT (bD h).2;exact⟨OR (hf _ _ h1),λ_=>Tw ((t _ _ h1).2 (bD h).1)⟩
     |_=>cases h
   |BoolOp D H p=>
     obtain⟨s,h⟩:=bD h
     cases D with
     |And=>
       obtain⟨E,h1,h⟩:=bT h;have q:=yB (pos:=p) (j9 t h1) s h;exact⟨q.1,λ_=>q.2.pt⟩
     |Or=>
       obtain⟨E,h1,h⟩:=bT h;have q:=BZ (pos:=p) (j9 t h1) s h;exact⟨q.1,λ_=>q.2.pt⟩
   |Compare a u bs p=>
     have q:=MZ (pos:=p) T' hf h;exact⟨q.1,λ_=>q.2⟩
   |IfExp c a b p=>
     obtain⟨s,h⟩:=bD h;obtain⟨y,h1,h⟩:=bT h;obtain⟨l,h2,h⟩:=bT h;obtain⟨r,h3,rfl⟩:=eT h;exact⟨Uh ((t _ _ h1).2 s) (hf _ _ h2) (hf _ _ h3),λz=>by cases z⟩
   |Tuple H k p=>
     obtain⟨E,h1,rfl⟩:=eT h;have q:=Ub (x1:=k) (pos:=p) (j9 hf h1).sf;exact⟨q,λ_=>mj q⟩
   |List H p=>
     obtain⟨E,h1,rfl⟩:=eT h;have q:=Ue (pos:=p) (j9 hf h1).sf;exact⟨q,λ_=>mj q⟩
   |Dict R vs p=>exact⟨Co hf h,λ_=>mj (Co hf h)⟩
   |Subscript a b p=>exact⟨GQ T' hf h,λ_=>mj (GQ T' hf h)⟩
   |Call fn args kws cp=>
     obtain⟨hk,h⟩:=bD h
     cases kws with
     |nil=>exact⟨Cq T' hf h,λ_=>mj (Cq T' hf h)⟩
     |cons _ _=>cases hk
   |Attribute a m p=>
     obtain⟨hb,h⟩:=bD h;obtain⟨I,h1,h⟩:=bT h;obtain⟨l,h2,rfl⟩:=eT h;have q:=Us (pos:=p) (T'.GW m I h1) (hf _ _ h2) (og hb);exact⟨q,λ_=>mj q⟩
   |ListComp K A sc p=>
     refine ac λ_ M=>?_;obtain⟨g,h1,h⟩:=bT h;obtain rfl:=BV h1;obtain⟨_,_,_,it,E,xe,B,rfl,tl,rfl,N,P,Q,v,F,w⟩:=Cp (wN n) T' h;apply M;have q:=OU (pos:=p) T'.calm N P Q v (λcl i j Ca ex=>(F cl i j Ca ex).1) (λcl i j Ca ex=>(F cl i j Ca ex).2.1) (λcl i j Ca ex=>(F cl i j Ca ex).2.2) (lY w);exact⟨q,λ_=>mj q⟩
   |_=>cases h
end
noncomputable def qr:a9->cc
 |.ListComp _ _ _ _=>J
 |.SetComp _ _ _ _=>J
 |.DictComp _ _ _ _ _=>J
 |_=>U
noncomputable def JT(S:Sc)(sc:nR)(cp:rC)(t:aa)(p:rC):cc:=S.nm.lookup t == Y .local && p.line == cp.line && !(sc.names.any λ(n,k)=>n == t && (k == .local || k == .cell))
noncomputable def ZW(m:aa)(k:T):ar Jm:=
 if m="append"/\k=1 then Y .app else if m="extend"/\k=1 then Y .ext else L
def Kr(S:Sc)(e:a9):ar T:=(iM e).bind λx=>if(gJ x && uK S x)=U then oR x S.N else L
def ZV(G:Sg)(S:Sc)(f:a9->ar Ex):ar a9->ar Sx
 |none=>L
 | some e=>match Kr S e with
   |some i=>Y (.oM i)
   |none=>(f e).map .ret
def uu:a9->ar (aa×a9)
 |.Subscript a ix _=>(iM a).map λx=>(x,ix)
 |_=>L
def To:a9->ar (aa×a9×a9)
 |.Subscript a k _=>(uu a).map λz=>(z.1,z.2,k)
 |_=>L
def W9(S:Sc)(f:a9->ar Ex)(t e:a9):ar Sx:=match iM t with
 |some x=>if uN S x=U then(oR x S.N).bind λi=>if i≠0 then(f e).map λxe=>.set i xe else L else L
 | none=>match uu t with
   |some (x,ix)=>if(uK S x && gJ x && (kR ix).isNone && qr e)=U then(oR x S.N).bind λi=>(f e).bind λxe=>(f ix).map λb=>.mut .seti i [xe,b]else L
   | none=>match To t with
    |some (x,ix,k)=>if(uK S x && gJ x && (kR ix).isNone && (kR k).isNone && qr e)=U then(oR x S.N).bind λi=>(f e).bind λxe=>(f ix).bind λb=>(f k).map λa=>.RV i b a xe else L
    |none=>(qo t).bind λtn=>if(tn.2.all (uN S) && !isTup e && !tn.1)=U then(uF S.N tn.2).bind λc=>(f e).map λxe=>.unp c xe else L
structure Mc where
 x:aa
 m:aa
 ap:rC
 args:O a9
 cp:rC
def Vz(e:a9):ar Mc:=(QV e).bind λc=>(wU c.fn).bind λt=>(iM t.1).bind λx=>if c.kws.isEmpty=U then Y ⟨x,t.2.1,t.2.2,c.args,c.pos⟩else L
noncomputable def abd:O a9->ar a9
 |[a]=>Y a
 |_=>L
structure Mk where
 x:aa
 ix:a9
 ap:rC
 a:a9
 cp:rC
def Vu(e:a9):ar Mk:=(QV e).bind λc=>(wU c.fn).bind λt=>(uu t.1).bind λz=>(abd c.args).bind λa=>if(c.kws.isEmpty && t.2.1 == "append")=U then Y ⟨z.1,z.2,t.2.2,a,c.pos⟩else L
def cLn(G:Sg)(S:Sc)(f:a9->ar Ex)(e:a9):ar (T×T×O Ex):=(qg e).bind λc=>match c.2 with
 |a::d=>(iM a).bind λy=>if(gJ c.1 && AA S c.1 && uK S y && gJ y && d.all dP)=U then(B1 c.1 0 G.fns).bind λb=>(oR y S.N).bind λi=>(t5 f d).bind λg=>if Z g+1=b.2 then Y (b.1+zI,i,g)else L else L
 |[]=>L
def W0(G:Sg)(S:Sc)(f:a9->ar Ex)(t e:a9):ar Sx:=(iM t).bind λy=>(qg e).bind λc=>if decide (c.1="max")=U then match c.2 with
 |[a,b]=>(iM a).bind λd=>if(decide (d=y) && uN S y && uK S y && gJ y && AA S "max" && dP b)=U then(oR y S.N).bind λg=>(cLn G S f b).map λz=>.lmx g z.1 z.2.1 z.2.2 else L
 |_=>L
 else L
def cExp(G:Sg)(S:Sc)(f:a9->ar Ex)(e:a9):ar Sx:=match Vz e with
 |some c=>if(uK S c.x && gJ c.x && (c.ap.endLine == c.cp.line))=U then(oR c.x S.N).bind λi=>(t5 f c.args).bind λd=>(ZW c.m d.length).map λh=>.mut h i d else L
 | none=>match Vu e with
   |some c=>if(uK S c.x && gJ c.x && (kR c.ix).isNone && (c.ap.endLine == c.cp.line) && dP c.a)=U then(oR c.x S.N).bind λi=>(f c.ix).bind λg=>(f c.a).map λb=>if(uu c.ix).isNone=U then .Jh i g b else .Za .app i g [b]else L
   |none=>L
def qI(f:iE->ar Sx)(B:O iE):O Sx:=B.map λs=>(f s).getD .Ay
def D8(S:Sc)(f:a9->ar Ex)(it:a9):ar (T×Ex):=(uu it).bind λz=>if(uK S z.1 && gJ z.1 && (kR z.2).isNone && !Wa z.2)=U then(oR z.1 S.N).bind λi=>(f z.2).map λa=>(i,a)else L
noncomputable def GZ:iE->ar (O a9×a9×rC)
 |.Assign a e p=>Y (a,e,p)
 |_=>L
def Cu(h:GZ s=Y t):s=.Assign t.1 t.2.1 t.2.2:=by
 unfold GZ at h;split at h<;>cases h
 rfl
def G0(b:O iE):ar (aa×aa×O a9):=(jR b).bind λs=>(GZ s).bind λz=>(jR z.1).bind λt=>(iM t).bind λx=>(qg z.2.1).map λc=>(x,c)
def R0(hs:O ExceptHandler):ar (aa×aa×aa):=(jR hs).bind λ
 |.ExceptHandler t n b _=>t.bind λt=>(iM t).bind λD=>n.bind λn=>(jR b).bind λs=>(GZ s).bind λz=>(jR z.1).bind λy=>(iM y).bind λy=>(iM z.2.1).bind λw=>if w=n then Y (D,n,y)else L
def ZT(G:Sg)(S:Sc)(f:a9->ar Ex)(b:O iE)(hs:O ExceptHandler):ar Sx:=(G0 b).bind λa=>(R0 hs).bind λh=>
 if(gJ a.2.1 && AA S a.2.1 && !a.2.2.isEmpty && gJ h.1 && AA S h.1 && gJ h.2.1 && S.nm.lookup h.2.1 == Y .local && uN S a.1 && uN S h.2.2 && h.2.1 != h.2.2 && G.x.rai.contains a.2.1)=U then
  (B1 a.2.1 0 G.fns).bind λc=>(t5 f a.2.2).bind λd=>if Z d=c.2 then(G.x.hnd.lookup h.1).bind λok=>(oR a.1 S.N).bind λi=>(oR h.2.1 S.N).bind λm=>(oR h.2.2 S.N).map λy=>.XF i c.1 d y m ok else L
 else L
def cS(G:Sg)(S:Sc):T->iE->ar Sx
 |0,_=>L
 | n+1,st=>match st with
   |.Return v _=>ZV G S (cE G n S) v
   | .Assign g e _=>(jR g).bind λt=>match W0 G S (cE G n S) t e with
     |some y=>Y y
     |none=>W9 S (cE G n S) t e
   |.Expr e _=>cExp G S (cE G n S) e
   |.If c a b _=>if si c=U then(cE G n S c).map λf=>.ifs f (qI (cS G S n) a) (qI (cS G S n) b)else L
   |.For tg iter body d _=>if d.isEmpty=U then(qo tg).bind λt=>if(t.2.all (uN S) && tW iter)=U then(uF S.N t.2).bind λg=>match D8 S (cE G n S) iter with|some z=>Y (.XX t.1 g z.1 z.2 (qI (cS G S n) body))|none=>(cI S (cE G n S) tg iter).map λit=>.loop t.1 g it (qI (cS G S n) body)else L else L
   |.While c body d _=>if(d.isEmpty && si c)=U then(cE G n S c).map λf=>.SX f (qI (cS G S n) body)else L
   |.Try b hs d fin _=>if(d.isEmpty && fin.isEmpty)=U then ZT G S (cE G n S) b hs else L
   |_=>L
section
variable{G:Sg}{X:Cx}
theorem j8{f:iE->ar Sx}(hf:∀s y,f s=Y y->SS X C s y):∀(B:O iE),Jl X C B (qI f B)
 |[]=>Oo
 | s::r=>JW (by
    show SS X C s ((f s).getD .Ay)
    cases q:f s with
    |none=>exact JZ
    |some y=>exact hf _ _ q) (j8 hf r)
def DR(h:qr e=U):ez e t line X.env=pure J:=by
 cases e<;>first|rfl|cases h
def KO(T':pA G C S X)(ht:S.top=U)(B:S.N.Nodup)(hi:S.N[i]?=Y t)(hl:uN S t=U):PG X (.Name t p) (lp i):=
 FH (by rwa[T'.N]) (by rwa[T'.N]) (oQ T' hl) (.inl (T'.fn ht t))
theorem Bu(T':pA G C S X)(B:S.top=U)(f:S.N.Nodup):∀{es:O a9}{tn:O aa}{F:O T},namesOf es=Y tn->tn.all (uN S)=U->uF S.N tn=Y F->X0 X es (gNs F)/\Z F=Z es
 |[],tn,F,h,_,hc=>by
   cases h;cases hc;exact⟨FG,W⟩
 |e::es,tn,F,h,hl,hc=>by
   obtain⟨t,h0,h⟩:=bT h;obtain⟨a,h1,rfl⟩:=eT h;obtain⟨p,rfl⟩:=dZ h0;obtain⟨i,h2,hc⟩:=bT hc;obtain⟨is,h3,rfl⟩:=eT hc;rw[eB,ah]at hl;obtain⟨b,c⟩:=Bu T' B f h1 hl.2 h3;exact⟨Bl (KO T' B f (eV h2) hl.1) b,c8 _ c⟩
def JQ(T':pA G C S X)(B:S.top=U)(f:S.N.Nodup)(ht:qo tg=Y (one,tn))(hl:tn.all (uN S)=U)(hc:uF S.N tn=Y F) :
  ∃g,SG X.K one F g/\PG X tg g:=by
 cases tg with
 |Name t p=>
   cases ht;obtain⟨i,h1,hc⟩:=bT hc;cases hc;exact⟨_,Oc,KO T' B f (eV h1) (by simpa using hl)⟩
 |Tuple d k p=>
   obtain⟨a,h1,h⟩:=eT ht;cases h;obtain⟨b,c⟩:=Bu T' B f h1 hl hc;exact⟨_,JO,KN T'.calm b ((oN h1).1.trans c.symm) (oN h1).2.1⟩
 |_=>cases ht
def QZ(T':pA G C S X)(hf:∀e x,f e=Y x->SE X C e x)(h:ZV G S f v=Y y):SS X C (.Return v pos) y:=by
 cases v with
 |none=>cases h
 |some e=>
   have h:(match Kr S e with|some i=>Y _|none=>(f e).map _)=Y y:=h
   cases a:Kr S e with
   |some i=>
     rw[a]at h;cases h;clear h; obtain⟨x,h1,h2⟩:=bT a;obtain⟨p,rfl⟩:=dZ h1;obtain⟨hc,h2⟩:=bD h2;rw[ah]at hc;exact Ou (by rw[T'.N];exact eV h2) (lU T' hc.2) (eJ hc.1).1 (eJ hc.1).2.1
   |none=>
     rw[a]at h;obtain⟨xe,h1,rfl⟩:=eT h;exact TC (hf _ _ h1)
def xW{ix:a9}(h:qr e=U):gN [.Subscript a ix sp] e line env=pure J/\gU [.Subscript a ix sp] e env=pure L:=by
 cases e<;>first|exact⟨W,W⟩|cases h
def Hr(h:isTup e=J):gN [.Tuple es k tp] e line env=pure J/\gU [.Tuple es k tp] e env=pure L:=by
 cases e<;>first|exact⟨W,W⟩|cases h
def rU{ix:a9}(h:uu t=Y (x,ix)):∃p sp,t=.Subscript (.Name x p) ix sp:=by
 unfold uu at h;split at h
 .obtain⟨a,h1,h2⟩:=eT h;clear h; cases h2;obtain⟨p,rfl⟩:=dZ h1;exact⟨p,_,W⟩
 .cases h
def Oh{ix:a9}(h:To t=Y (x,ix,k)):∃p sp B,t=.Subscript (.Subscript (.Name x p) ix sp) k B:=by
 unfold To at h;split at h
 .obtain⟨⟨y,z⟩,h1,h2⟩:=eT h;clear h; cases h2;obtain⟨p,a,rfl⟩:=rU h1;exact⟨p,a,_,W⟩
 .cases h
def X8(h:qo t=Y (J,tn)):∃es k tp,t=.Tuple es k tp:=by
 unfold qo at h;split at h
 .cases h
 .exact⟨_,_,_,W⟩
 .cases h
def Zr{ix:a9}(h:kR ix=L):∀v,hW (.Subscript o ix p) env v=(do
   let f <-holding [v] (eval o env);let B <-holding [v,f] (eval ix env)
   standAt p
   holding [v,f,B] (mi f B v)
   release [v,f,B] []):=λv=>by
 cases ix<;>first|rfl|cases h
def WS(hc:¬qr e=U)(h:cE G n S e=Y z):∃elt B sc cp,e=.ListComp elt B sc cp:=by
 cases n with
 |zero=>cases h
 |succ n=>
   cases e with
   |ListComp elt B sc cp=>exact⟨_,_,_,_,W⟩
   |SetComp _ _ _ _=>cases h
   |DictComp _ _ _ _ _=>cases h
   |_=>exact absurd rfl hc
def QY(h0:i≠0)(T':pA G C S X)(top:S.top=U)(nd:S.N.Nodup)(hl:uN S x=U)(h1:oR x S.N=Y i)(h2:cE G n S e=Y xe):SS X C (.Assign [.Name x p] e pos) (.set i xe):=by
 have d:X.N.Nodup:=by rwa[T'.N]
 have hi:X.N[i]?=Y x:=by rw[T'.N];exact eV h1
 have q:=(wN n S e xe h2 X T').1;by_cases hc:qr e=U
 .exact J0 h0 d hi (oQ T' hl) q (DR hc) (.inl (T'.fn top x))
 .obtain⟨u,h,sc,cp,rfl⟩:=WS hc h2
  have c:ez (.ListComp u h sc cp) (Y (.Name x p)) pos.line X.env=pure (JT S sc cp x p):=by
   unfold ez JT;have hb:X.env.blockKind=.function:=by unfold Env.blockKind;rw[T'.kind];rfl
   simp only[pure_bind,hb,tH,T'.nm];rfl
  clear hc; cases hb:JT S sc cp x p with
  |false=>
    rw[hb]at c;exact J0 h0 d hi (oQ T' hl) q c (.inl (T'.fn top x))
  |true=>
    rw[hb]at c
    clear q hb; cases n with
    |zero=>cases h2
    |succ n=>
      refine ac λ_ t=>?_;obtain⟨g,h3,j⟩:=bT h2;clear h2; obtain rfl:=BV h3;obtain⟨_,_,_,it,v,xe,s,rfl,tl,rfl,k,l,m,o,f,r⟩:=Cp (wN n) T' j;apply t;exact Dr h0 d hi (oQ T' hl) T'.calm k l m o (λcl a b Ca ex=>(f cl a b Ca ex).1) (λcl a b Ca ex=>(f cl a b Ca ex).2.1) (λcl a b Ca ex=>(f cl a b Ca ex).2.2) c (lY r) (.inl (T'.fn top x))
set_option tactic.hygienic true
def Q9(T':pA G C S X)(top:S.top=U)(nd:S.N.Nodup)(h:W9 S (cE G n S) t e=Y y):SS X C (.Assign [t] e pos) y:=by
 have hf:=λe x(h)=>(wN n S e x h X T').1;unfold W9 at h
 cases ht:iM t with
 |some x=>
   obtain⟨p,rfl⟩:=dZ ht;obtain⟨hl,d⟩:=bD h;clear h; obtain⟨i,h1,b⟩:=bT d;split at b
   .rename_i h0;clear d; obtain⟨xe,h2,rfl⟩:=eT b;exact QY h0 T' top nd hl h1 h2
   .cases b
 |none=>
   rw[ht]at h
   clear ht; cases hs:uu t with
   |some z=>
     obtain⟨x,ix⟩:=z;obtain⟨p,sp,rfl⟩:=rU hs;obtain⟨hc,d⟩:=bD h;simp only[ah,dU]at hc;refine ac λ_ m=>?_;clear h; obtain⟨⟨⟨q,hp⟩,f⟩,j⟩:=hc;obtain⟨i,h1,b⟩:=bT d;clear d; obtain⟨xe,h2,l⟩:=bT b;clear b; obtain⟨E,h3,rfl⟩:=eT l;obtain⟨d1,d2,d3⟩:=eJ hp;apply m;have c:=xW (line:=pos.line) (env:=X.env) (a:=.Name x p) (ix:=ix) (sp:=sp) j;exact Ot (DK (hf _ _ h2) (KP (lL (pos:=p) (by rw[T'.N];exact eV h1) (lU T' q) d1 d2) (hf _ _ h3) (Fl (iY T'.un)) (Zr f)) c.1 c.2 W)
   |none=>
    rw[hs]at h
    clear hs; cases o:To t with
    |some z=>
     obtain⟨x,ix,k⟩:=z;obtain⟨p,sp,r,rfl⟩:=Oh o;obtain⟨hc,d⟩:=bD h;simp only[ah,dU]at hc;clear h; obtain⟨⟨⟨⟨q,hp⟩,f⟩,s⟩,j⟩:=hc;obtain⟨i,h1,b⟩:=bT d;clear d; obtain⟨xe,h2,l⟩:=bT b;clear b; obtain⟨E,h3,u⟩:=bT l;clear l; obtain⟨B,v,rfl⟩:=eT u;have c:=xW (line:=pos.line) (env:=X.env) (a:=.Subscript (.Name x p) ix sp) (ix:=k) (sp:=r) j;exact TH (DK (hf _ _ h2) (KP (Bm vf (lL (by rw[T'.N];exact eV h1) (lU T' q) (eJ hp).1 (eJ hp).2.1) (hf _ _ h3) (my f)) (hf _ _ v) (Fl (by have:=T'.un;exact iY this)) (Zr s)) c.1 c.2 W)
    |none=>
     rw[o]at h;obtain⟨⟨one,tn⟩,h0,d⟩:=bT h;clear h; obtain⟨hl,b⟩:=bD d;simp only[ah,gZ]at hl;refine ac λ_ m=>?_;clear d; obtain⟨D,h1,l⟩:=bT b;clear b; obtain⟨xe,h3,rfl⟩:=eT l;obtain⟨g,w,A⟩:=JQ T' top nd h0 hl.1.1 h1;obtain rfl:one=J:=hl.2;obtain⟨es,k,tp,rfl⟩:=X8 h0;apply m;have c:=Hr (line:=pos.line) (env:=X.env) (es:=es) (k:=k) (tp:=tp) hl.1.2;exact TB (hf _ _ h3) w A c.1 c.2 W
def P4(h:Vz e=Y c):∃p,e=.Call (.Attribute (.Name c.x p) c.m c.ap) c.args [] c.cp:=by
 refine ac λ_ d=>?_;obtain⟨⟨fn,as,kws,cp⟩,h0,g⟩:=bT h;clear h; obtain⟨⟨o,m,ap⟩,h1,a⟩:=bT g;clear g; obtain⟨x,h2,b⟩:=bT a;clear a; cases (bD b).2;obtain⟨p,f⟩:=dZ h2;obtain rfl:o=.Name x p:=f;obtain rfl:kws=[]:=gr.mp (bD b).1;obtain rfl:fn=.Attribute _ m ap:=uf h1;apply d;exact⟨p,Ad h0⟩
def P1(h:Vu e=Y c):∃p sp,e=.Call (.Attribute (.Subscript (.Name c.x p) c.ix sp) "append" c.ap) [c.a] [] c.cp:=by
 obtain⟨⟨fn,args,kws,cp⟩,h0,g⟩:=bT h;clear h; obtain⟨⟨o,m,ap⟩,h1,g⟩:=bT g;obtain⟨⟨x,ix⟩,h2,g⟩:=bT g;obtain⟨a,h3,g⟩:=bT g;obtain⟨hk,g⟩:=bD g;cases g;simp only[ah,eb]at hk;obtain⟨p,sp,d⟩:=rU h2;clear h2; obtain rfl:o=.Subscript _ ix sp:=d;obtain rfl:kws=[]:=gr.mp hk.1;obtain rfl:m="append":=hk.2;obtain rfl:fn=.Attribute (.Subscript _ ix sp) "append" ap:=uf h1
 clear h1; obtain⟨f,rfl⟩:∃f,args=[f]:=by rcases args with _|⟨f,_|_⟩<;>first|exact⟨_,W⟩|cases h3
 cases h3;exact⟨p,sp,Ad h0⟩
def WZ(T':pA G C S X)(hf:∀e x,f e=Y x->SE X C e x)(h:cLn G S f e=Y z):∃g p a es q k f' P ps,e=.Call (.Name g p) (a::es) [] q/\jx X.prog X.w X.K X.mg X.base vq k f' P ps (TR X.K (Z z.2.2+1) (C z.1))/\i7 k X.A/\Gl X g/\X.mg g=Y (.ref f')/\dO X.K (.ref f')=U/\Binds X.K P ps []/\PE X a (rT z.2.1)/\SA X C es z.2.2/\(g == ("__debug__":aa))=J/\aP (a::es) X.env=(J,eval a X.env)::aP es X.env/\(er q (aP es X.env)).any (·.1)=J:=by
 obtain⟨⟨g,as⟩,l,h⟩:=bT h;obtain⟨p,q,rfl⟩:=kN l
 clear l; cases as with
 |nil=>cases h
 |cons a es=>
   have h:(iM a).bind (λy=>if(gJ g && AA S g && uK S y && gJ y && es.all dP)=U then(B1 g 0 _).bind λd=>(oR y _).bind λi=>(t5 f es).bind _ else L)=Y z:=h;obtain⟨v,o,h⟩:=bT h;obtain⟨hc,h⟩:=bD h;simp only[ah]at hc;refine ac λ_ I=>?_;obtain⟨⟨⟨⟨r,b⟩,s⟩,hp⟩,c⟩:=hc;obtain⟨⟨j,n⟩,t,h⟩:=bT h;obtain⟨i,u,h⟩:=bT h;obtain⟨R,B,h⟩:=bT h;apply I;split at h
   .rename_i D;refine ac λ_ I=>?_;cases h;obtain⟨V,rfl⟩:=dZ o;obtain⟨m,M,Q⟩:=sO t;clear t; obtain⟨k,f',P,ps,F,E,H,hk,hb⟩:=T'.fns m g n Q;apply I;rw[fZ]at M;subst M;subst D;exact⟨g,p,_,es,q,k,f',P,ps,W,F.2,E,iA T' b,H,hk,hb,lL (by rw[T'.N];exact eV u) (lU T' s) (eJ hp).1 (eJ hp).2.1,(j9 hf B).sa,(eJ r).1,cv W,lg c⟩
   .cases h
def Q2(T':pA G C S X)(top:S.top=U)(nd:S.N.Nodup)(hf:∀e x,f e=Y x->SE X C e x)(h:W0 G S f t e=Y y):SS X C (.Assign [t] e pos) y:=by
 obtain⟨v,n,b1⟩:=bT h;clear h;obtain⟨E,rfl⟩:=dZ n;obtain⟨⟨g,as⟩,o,b2⟩:=bT b1;clear b1;obtain⟨pm,H,rfl⟩:=kN o;clear o; obtain⟨c,b3⟩:=bD b2;clear b2;obtain rfl:g="max":=c5 c
 obtain⟨a,b,rfl⟩:∃a b,as=[a,b]:=by rcases as with _|⟨a,_|⟨b,_|_⟩⟩<;>first|exact⟨_,_,W⟩|cases b3
 obtain⟨m,r,b4⟩:=bT b3;clear b3;obtain⟨I,rfl⟩:=dZ r;obtain⟨hc,b5⟩:=bD b4;clear b4;simp only[ah]at hc;refine ac λ_ K=>?_;obtain⟨⟨⟨⟨⟨h1,hl⟩,s⟩,hp⟩,d⟩,i⟩:=hc;obtain rfl:=c5 h1;obtain⟨u,w,b6⟩:=bT b5;clear b5; obtain⟨z,A,rfl⟩:=eT b6;clear b6; obtain⟨g,p,a,M,q,k,P,Q,ps,rfl,F,B,c,D,hk,hb,j,ha,hd,he,l⟩:=WZ T' hf A;apply K;exact TK T'.calm F B c D hk hb j ha W hd he l (iA T' d) (T'.blt _ (by decide +kernel)) (by rwa[T'.N]) (by rw[T'.N];exact eV w) (oQ T' hl) (lL (by rw[T'.N];exact eV w) (lU T' s) (eJ hp).1 (eJ hp).2.1) (cv W) (cv i) W (.inl (T'.fn top m))
def HY(T':pA G C S X)(hf:∀e x,f e=Y x->SE X C e x)(h:D8 S f e=Y z):PE X e (Nq (Kx X.K) (rT z.1) (gE X.K C z.2)):=by
 obtain⟨⟨x,ix⟩,h1,h⟩:=bT h;obtain⟨p,d,rfl⟩:=rU h1;obtain⟨hc,h⟩:=bD h;simp only[ah,dU]at hc;refine ac λ_ c=>?_;obtain⟨⟨⟨b,hp⟩,a⟩,_⟩:=hc;obtain⟨i,h2,h⟩:=bT h;obtain⟨g,h3,rfl⟩:=eT h;apply c;exact Bm vf (lL (by rw[T'.N];exact eV h2) (lU T' b) (eJ hp).1 (eJ hp).2.1) (hf _ _ h3) (my a)
def Q7(T':pA G C S X)(hf:∀e x,f e=Y x->SE X C e x)(h:cExp G S f e=Y y):SS X C (.Expr e pos) y:=by
 unfold cExp at h
 cases j:Vz e with
 |none=>
   rw[j]at h
   cases hk:Vu e with
   |none=>
     simp_all
   |some c=>
     rw[hk]at h;obtain⟨p,u,rfl⟩:=P1 hk;clear hk; obtain⟨x,ix,ap,a,cp⟩:=c;obtain⟨hc,l⟩:=bD h;simp only[ah,dU]at hc;clear h; obtain⟨⟨⟨⟨q,hp⟩,k⟩,g⟩,r⟩:=hc;obtain⟨i,h1,n⟩:=bT l;clear l; obtain⟨v,h2,o⟩:=bT n;clear n; obtain⟨s,h3,rfl⟩:=eT o;have d:=lL (pos:=p) (by rw[T'.N];exact eV h1) (lU T' q) (eJ hp).1 (eJ hp).2.1;have b:aP _ X.env=(J,eval a _)::aP [] _:=cv r;by_cases t:(uu ix).isNone=U
     .rw[a5 t];exact TJ El (u7 (yh jP jD nE tZ (Bm vf d (hf _ _ h2) (my k)) (kT (hf _ _ h3) tS b) W (by rw[b];rfl) g b W) W)
     rw[cb t];exact TF (by simp) (by simp) El (u7 (yh jP jD nE tZ (Bm (V4 (by have:=T'.un;exact iY this)) d (hf _ _ h2) (my k)) (Fk (hf _ _ h3) Kb b) W (by rw[b];rfl) g b W) W)
 |some c=>
   rw[j]at h;obtain⟨p,rfl⟩:=P4 j;obtain⟨x,m,ap,args,cp⟩:=c;obtain⟨hc,l⟩:=bD h;simp only[ah]at hc;obtain⟨⟨q,hp⟩,g⟩:=hc;obtain⟨i,h1,n⟩:=bT l;obtain⟨w,h2,o⟩:=bT n;obtain⟨z,h3,rfl⟩:=eT o;have ha:=j9 hf h2;have d:=lL (pos:=p) (by rw[T'.N];exact eV h1) (lU T' q) (eJ hp).1 (eJ hp).2.1;clear h l n o j h2;unfold ZW at h3;split at h3
   .rename_i j;obtain⟨rfl,hk⟩:=j;cases h3;obtain⟨s,rfl⟩:=fY.mp hk;obtain⟨e,rfl,hs,he⟩:=ha.one;exact Ov (by simp) (by simp) El (u7 (yh jP jD nE tZ d ha.sf W (by rw[(cv hs)];rfl) g (cv hs) W) W)
   split at h3
   .rename_i j;clear T' hf q hp h1; obtain⟨rfl,hk⟩:=j;cases h3;obtain⟨s,rfl⟩:=fY.mp hk;obtain⟨e,rfl,hs,he⟩:=ha.one;exact TM (u7 (yh jP nF PySem.F.type_list_extend Vt d ha.sf W (by rw[(cv hs)];rfl) g (cv hs) W) W)
   .cases h3
def EK(h:G0 b=Y (x,fn,as)):∃B p cp ap,b=[.Assign [.Name x B] (.Call (.Name fn p) as [] cp) ap]:=by
 refine ac λ_ k=>?_;obtain⟨st,h1,a⟩:=bT h;obtain⟨⟨n,e,ap⟩,h0,a⟩:=bT a;obtain⟨t,h2,d⟩:=bT a;obtain⟨y,h3,f⟩:=bT d;obtain⟨B,l⟩:=dZ h3;obtain⟨c,g,i⟩:=eT f;clear f; cases i;obtain⟨p,q,j⟩:=kN g;apply k;have m:=fF h2;exact⟨B,p,q,ap,by rw[fF h1,Cu h0,m,l,j]⟩
def LX{D:aa}(h:R0 hs=Y (D,n,y)):∃dp F B C hp,hs=[.ExceptHandler (Y (.Name D dp)) (Y n) [.Assign [.Name y F] (.Name n B) C] hp]:=by
 refine ac λ_ A=>?_;obtain⟨hd,h1,d⟩:=bT h;obtain⟨t,u,b,hp⟩:=hd;obtain⟨t,rfl,f⟩:=bT d;clear d; obtain⟨v,h3,g⟩:=bT f;clear f; obtain⟨m,rfl,i⟩:=bT g;clear g; obtain⟨st,E,a⟩:=bT i;clear i; obtain⟨⟨K,e,C⟩,h0,a⟩:=bT a;obtain⟨w,j,k⟩:=bT a;obtain⟨x,l,o⟩:=bT k;clear k; obtain⟨z,H,c⟩:=bT o;clear o; obtain⟨dp,I⟩:=dZ h3;obtain⟨F,p⟩:=dZ l;clear l; obtain⟨B,r⟩:=dZ H;apply A;have s:=fF j;split at c
 .rename_i q;refine ac λ_ A=>?_;cases c;apply A;exact⟨dp,F,B,C,hp,by rw[fF h1,fF E,Cu h0,I,s,p,r,q]⟩
 .cases c
def QX(T':pA G C S X)(top:S.top=U)(nd:S.N.Nodup)(hf:∀e x,f e=Y x->SE X C e x)(O':X.xe=λ_ _=>False)(h:ZT G S f b hs=Y y):SS X C (.Try b hs [] [] pos) y:=by
 obtain⟨⟨x,fn,as⟩,h1,t⟩:=bT h;clear h; obtain⟨⟨D,n,yn⟩,h2,u⟩:=bT t;clear t; obtain⟨px,p,cp,ap,rfl⟩:=EK h1;clear h1; obtain⟨dp,py,np,yp,hp,rfl⟩:=LX h2;obtain⟨hc,v⟩:=bD u;simp only[ah,eb,bne_iff_ne,List.contains_iff_mem]at hc;clear u; obtain⟨⟨⟨⟨⟨⟨⟨⟨⟨⟨c1,c2⟩,c3⟩,w⟩,A⟩,B⟩,E⟩,H⟩,I⟩,Z1⟩,c⟩:=hc;obtain⟨⟨j,k⟩,h3,J'⟩:=bT v;clear v; obtain⟨xs,K,d⟩:=bT J';split at d
 .rename_i L';clear J'; obtain⟨ok,h5,M⟩:=bT d;clear d; obtain⟨i,P,Q⟩:=bT M;clear M; obtain⟨m,s,R⟩:=bT Q;clear Q; obtain⟨U',V,rfl⟩:=eT R;clear R; obtain⟨CD,g,hok⟩:=T'.hnd D ok h5;obtain⟨i',e,l⟩:=sO h3;rw[fZ]at e;clear h3; subst e;obtain⟨kk,fa,fd,ps,F,q,hm,hk,hb⟩:=T'.rai _ fn k l c;have ha:=j9 hf K;have a :=T'.N;have o:m≠U':=λz=>by
   have z1:=eV s;have z2:=eV V
   simp_all
  clear hf c K l; cases ha with
  |nil=>simp_all
  |cons hs he r=>
    have X':X.yk=X:=by
     clear T' top I H B A w c1 c2 s V g hok F q hm hk hb a o hs he r P L'; cases X;cases O';rfl
    exact PS.imp (UK (by rwa[a]) (T'.st top) (T'.fm top) (iA T' A) g (eJ w).1 (by rw[a];exact eV P) (oQ T' H) (.inl (T'.fn top _)) (by rw[a];exact eV s) (by rwa[T'.nm]) (by rw[a];exact eV V) (oQ T' I) (.inl (T'.fn top _)) (eJ B).1 (eJ B).2.1 F q (iA T' c2) hm hk hb (eJ c1).1 (X'.symm▸(kS he r.sa (cv hs))) (cv hs) (lg r.star)) (JN o L' hok)
 .cases d
set_option tactic.hygienic false
theorem MT(T':pA G C S X)(top:S.top=U)(nd:S.N.Nodup):∀(n:T)(st:iE)(y:Sx),cS G S n st=Y y->SS X C st y
 |0,_,_,h=>by cases h
 |n+1,st,y,h=>by
   have m:=λe x(h)=>wN n S e x h X T';have hf:=λe x h=>(m e x h).1;have hs:=MT T' top nd n
   cases st with
   |Return v p=>exact QZ T' hf h
   |Assign u e p=>
     obtain⟨t,h1,d⟩:=bT h;clear h; obtain rfl:=fF h1
     cases j:W0 G S _ t e with
     |some z=>rw[j]at d;cases d;exact Q2 T' top nd hf j
     |none=>rw[j]at d;exact Q9 T' top nd d
   |Expr e p=>exact Q7 T' hf h
   |If c a b p=>
     obtain⟨q,h1,rfl⟩:=eT (bD h).2;exact Yp ((m _ _ h1).2 (bD h).1) (j8 hs _) (j8 hs _)
   |For tg iter body k p=>
     obtain⟨he,d⟩:=bD h;clear h; obtain rfl:=gr.mp he;obtain⟨⟨one,tn⟩,h0,r⟩:=bT d;clear d; obtain⟨hc,s⟩:=bD r;rw[ah]at hc;clear r; obtain⟨u,h1,l⟩:=bT s;clear s; obtain⟨g,f,i⟩:=JQ T' top nd h0 hc.1 h1;have hp:qz (aC X.prog X.w) X.A X.env X.xe:=by rw[T'.xe];exact EZ
     cases j:D8 S _ _ with
     |some z=>
       rw[j]at l;cases l;exact TL hp T'.calm (HY T' hf j) i f (j8 hs _) (lY hc.2)
     |none=>
     rw[j]at l;obtain⟨it,h2,rfl⟩:=eT l;clear l; obtain⟨o,B⟩:=Su T' hf h2
     clear hf h2; cases it with
     |itv a=>exact Ox hp T'.calm (B a W) i f (j8 hs _) (lY hc.2)
     |rng D=>exact J1 hp T'.calm o (λa z=>nomatch z) i f (j8 hs _) (lY hc.2)
     |zip D=>exact J1 hp T'.calm o (λa z=>nomatch z) i f (j8 hs _) (lY hc.2)
   |While c body k p=>
     obtain⟨hc,d⟩:=bD h;rw[ah]at hc;clear h; obtain rfl:=gr.mp hc.1;obtain⟨q,h1,rfl⟩:=eT d;exact JY (by rw[T'.xe];exact EZ) ((m _ _ h1).2 hc.2) (j8 hs _)
   |Try b hs k fin p=>
     obtain⟨hc,d⟩:=bD h;rw[ah]at hc;clear h; obtain rfl:=gr.mp hc.1;obtain rfl:=gr.mp hc.2;exact QX T' top nd hf T'.xe d
   |_=>cases h
end
structure Df where
 st:iE
 p:T
 n:T
 body:O Sx
 x:ar (T×aa×Ex)
noncomputable def Df.name(d:Df):aa:=match d.st with
 |.FunctionDef x _ _ _ _ _ _ _ _ _=>x
 |_=>""
def Df.ps(d:Df):O aa:=(vn d.st).args.map λa=>a.arg
def Df.N(d:Df):O aa:=d.ps++((bE d.st).names.filterMap λp=>if(p.2 == .local || p.2 == .cell) && !(d.ps.contains p.1)then Y p.1 else L)
def Cn(D:O Df):T->Fs
 |0=>λ_ _=>L
 | n+1=>λj a=>match D[j]? with
   |some d=>QG (Cn D n) d.p d.n d.body a
   | none=>if CM<=j then match D[j - CM]? with
     |some d=>d.x.bind λz=>QF (Cn D n) d.p d.n d.body.dropLast z a
     |none=>L
     else if zI<=j then match D[j - zI]? with
     |some d=>exL (Cn D n) d.p d.n d.body a
     |none=>L
     else L
def cX(G:Sg)(S:Sc)(b:O iE):ar (O Sx×T×aa×Ex):=match b.getLast? with
 |some (.Raise (Y e) L _)=>(qg e).bind λc=>if(gJ c.1 && AA S c.1)=U then(jR c.2).bind λa=>if dP a=U then(G.x.exc.lookup c.1).bind λcf=>(cE G 39 S a).map λd=>(qI (cS G S 40) b.dropLast,cf.1,cf.2,d)else L else L
 |_=>L
section
variable{G:Sg}{X:Cx}
theorem FP(hf:∀s y,f s=Y y->SS X.yk C s y)(h:sY X [r] (Wi X.K C F z [])):∀B:O iE,sY X (B++[r]) (Wi X.K C F z (qI f B))
 |[]=>h
 | s::B=>JV (by
    show SS X.yk C s ((f s).getD .Ay)
    cases q:f s with
    |none=>exact JZ
    |some y=>exact hf _ _ q) (FP hf h B)
set_option tactic.hygienic true in
def ZS(T':pA G C S X.yk)(top:S.top=U)(nd:S.N.Nodup)(B:G5 X R)
  (ex:∀x c f,G.x.exc.lookup x=Y (c,f)->∃I P k,X.mg x=Y (.ref c)/\vI X.K c I=U/\jx X.prog X.w X.K X.mg X.base vq k I P ["self",f] (vP c f)/\i7 (k+1) X.A/\Binds X.K P ["self",f] [])(h:cX G S b=Y (ys,z)):sY X b (Wi X.K C R z ys):=by
 unfold cX at h;split at h
 .rename_i e ps hl;obtain⟨⟨x,args⟩,h1,d⟩:=bT h;clear h; obtain⟨p,cp,rfl⟩:=kN h1;clear h1; obtain⟨hc,g⟩:=bD d;rw[ah]at hc;refine ac λ_ v=>?_;clear d; obtain⟨a,h2,i⟩:=bT g;clear g; obtain rfl:=fF h2;obtain⟨hs,j⟩:=bD i;clear i; obtain⟨⟨c,y⟩,h3,l⟩:=bT j;clear j; obtain⟨m,n,o⟩:=eT l;clear l; cases o;obtain⟨I,P,k,r,q,F,s,hb⟩:=ex x c y h3;have t :=iA  T' hc.2;obtain⟨u,rfl⟩:=List.getLast?_eq_some_iff.mp hl;apply v;rw[E4];exact FP (MT T' top nd 40) (Om B T'.calm t r q (eJ hc.1).1 F s hb (kS (wN 39 S a m n _ T').1 qS (cv hs)) (cv hs)) u
 .cases h
end
def Ka(D:O Df)(con:O (aa×Dat))(xg:Xg):Sg:=⟨D.map λd=>(d.name,d.p),con,xg⟩
structure Xy(G:Sg)(d:Df):Prop where
 sc:lV d.N d.ps (bE d.st)
 pn:Z d.ps=d.p
 nn:Z d.N=d.n
 cmp:qI (cS G ⟨d.N,(bE d.st).names,U⟩ 40) (i5 d.st)=d.body
 xr:∀z,d.x=Y z->cX G ⟨d.N,(bE d.st).names,U⟩ (i5 d.st)=Y (d.body.dropLast,z)/\d.body=d.body.dropLast++[.Ay]
section
variable{P:bW}{w:cU}{K:Fg}{mg:aa->ar ak}{base:bJ}
structure At(K:Fg)(mg:aa->ar ak)(d:Df)(f:aN)(fd:iF):Prop where
 fn:Xs K d.name d.name d.st f fd
 mgf:mg d.name=Y (.ref f)
 bd:∀us:O ak,Z us=Z d.ps->hB fd ⟨us,[]⟩=pure (d.ps.zip us)
def YI(K:Fg)(d:Df):ar (aN×ak×ar aN×iF×c7 (ar ak)):=match fu K c9 d.name with
 | some (Y (.ref f))=>match K.lookup f with
   |some ⟨oc,od,.func a,l⟩=>Y (f,oc,od,a,l)
   |_=>L
 |_=>L
def fnK(d:Df)(kV doc pm:ak)(an:ar aN)(cdv ct:ak):iF:=oB d.name d.name (vn d.st) (i5 d.st) (bE d.st) .none kV doc pm an cdv ct
def rdB(K:Fg)(d:Df):cc:=match YI K d with
 |some x=>pO K x.2.2.2.1.code d.name && dO K (.ref x.1)
 |none=>J
def rdF(K:Fg)(d:Df):ar iF:=(YI K d).map λx=>x.2.2.2.1
def rdG(K:Fg)(d:Df):ar iF:=(YI K d).map λx=>fnK d x.2.2.2.1.kwdefaults x.2.2.2.1.doc x.2.2.2.1.pyModule x.2.2.2.1.annotations x.2.2.2.1.code x.2.2.2.1.closureTuple
def Xh{D:O Df}(X:K.In h)(G:h.Ns c9 mg)(h1:D.map (rdF K)=D.map (rdG K))(h2:D.all (rdB K)=U)(h3:∀(kV doc pm:ak) (an:ar aN) (cdv ct:ak) (u:T->ak),D.map (λd=>hB (fnK d kV doc pm an cdv ct) ⟨(aX d.ps.length).map u,[]⟩)=D.map λd=>pure (d.ps.zip ((aX d.ps.length).map u))) :
  ∀d∈D,∃f B,At K mg d f B:=λd hd=>by
 have j:=uo.mp h1 d hd;have k:=bh.mp h2 d hd;unfold rdB at k;unfold rdF rdG at j
 cases e:YI K d with
 |none=>rw[e]at k;cases k
 |some x=>
   obtain⟨f,oc,od,B,l⟩:=x;rw[e]at j k;have j :=bL j;unfold YI at e;split at e
   .rename_i m a;split at e
    .rename_i b;refine ac λ_ c=>?_;cases e;apply c;refine⟨f,B,⟨⟨_,_,_,_,_,_,_,_,_,j,b,(dR.mp k).1⟩,(dR.mp k).2⟩,nA X G a,λus g=>?_⟩;have:=uo.mp (h3 B.kwdefaults B.doc B.pyModule B.annotations B.code B.closureTuple λi=>us.getD i .none) d hd
     have q:(aX d.ps.length).map (λi=>us.getD i .none)=us:=by
      refine lD (by rw[aD,aW,g]) λi h1 h2=>?_;rw[Nm,Jd,List.getD_eq_getElem?_getD,ai h2];rfl
     rw[q]at this;exact(c8 (λz=>hB z _) j).trans this
    .cases e
   .cases e
def aaj(K:Fg)(mg:aa->ar ak)(x:aa)(c:aN)(f:aa):Prop:=mg x=Y (.ref c)/\∃a b,vI K c a=U/\(∀P w base k,jx P w K mg base vq (k+1) a b ["self",f] (vP c f))/\Binds K b ["self",f] []
structure Here(K:Fg)(mg:aa->ar ak)(D:O Df)(con:O (aa×Dat))(xg:Xg):Prop where
 ok:∀d∈D,Xy (Ka D con xg) d
 fn:∀d∈D,∃f fd,At K mg d f fd
 ln:Z D<=zI
 blt:∀x∈mI,mg x=L
 con:∀x d,con.lookup x=Y d->∃v u,mg x=Y u/\RelV v u/\CV K d v
 exc:∀x c f,xg.exc.lookup x=Y (c,f)->aaj K mg x c f
 cls:∀x tab,xg.cls.lookup x=Y tab->Nf K mg x tab
 GW:∀f cs,xg.GW.lookup f=Y cs->∀c∈cs,Dg K c f=U
 hnd:∀n ok,xg.hnd.lookup n=Y ok->∃CD,mg n=Y (.ref CD)/\∀c∈ok,iq K (.ref c) (.ref CD)=Y U
 rai:∀d∈D,d.name∈xg.rai->∃z,d.x=Y z
def _root_.L2.i7.mono(r:i7 k A)(h:m<=k):i7 m A:=⟨r.hd,by have:=r.dp;exact lQ this (ZB 3 h),by have:=r.un;exact lQ this (ZB 16 h)⟩
theorem EO{D:O Df}{con:O (aa×Dat)}{xg:Xg}(T':Here K mg D con xg):∀(n j:T)(d:Df)(f:aN)(fd:iF),D[j]?=Y d->At K mg d f fd->jx P w K mg base vq (n+2) f fd d.ps (pf K d.ps.length (Cn D n j))/\jx P w K mg base vq (n+2) f fd d.ps (TR K d.ps.length (Cn D n (j+zI)))/\∀z,d.x=Y z->jx P w K mg base (IV P w) (n+2) f fd d.ps (Yq K d.ps.length (Cn D n j) (Cn D n (j+CM)))
 |0,j,d,f,fd,p,_=>by
   have no:∀vs H Q E,¬pf K d.ps.length (Cn D 0 j) vs H Q E:=λvs H Q E h=>by
    obtain⟨_,ds,z,fr,h,_⟩:=h;cases h
   have u:∀vs H Q E,¬TR K d.ps.length (Cn D 0 (j+zI)) vs H Q E:=λvs H Q E h=>by
    obtain⟨_,d,ds,y,r,e,v,us,S,F,_,h,_⟩:=h;cases h
   have B:∀vs H Q E,¬Yq K d.ps.length (Cn D 0 j) (Cn D 0 (j+CM)) vs H Q E:=λvs H Q E h=>by
    obtain⟨_,⟨ds,z,fr,h,_⟩|⟨ds,c,f,k,fr,h,_⟩⟩:=h<;>cases h
   exact⟨⟨λvs H Q E h=>absurd h (no vs H Q E),λA outer s H args us vs Q E _ _ _ _ h=>absurd h (no vs H Q E)⟩,⟨λvs H Q E h=>absurd h (u vs H Q E),λA outer s H args us vs Q E _ _ _ _ h=>absurd h (u vs H Q E)⟩,λ_ _=>⟨λvs H Q E h=>absurd h (B vs H Q E),λA outer s H args us vs Q E _ _ _ _ h=>absurd h (B vs H Q E)⟩⟩
 |n+1,j,d,f,fd,p,at_=>by
   have ok:=T'.ok d (aY p);have J' :=aS (aK.mp p).1 T'.ln
   have e:Cn D (n+1) j=QG (Cn D n) d.ps.length d.N.length d.body:=by
    funext ds;simp only[Cn,p,ok.pn,ok.nn]
   have L':Cn D (n+1) (j+zI)=exL (Cn D n) d.ps.length d.N.length d.body:=by
    funext ds;have C:¬CM<=j+zI:=by unfold CM zI at *;exact fun z => (Nat.not_le_of_lt z (Nat.add_lt_of_lt_sub J'))
    simp only[Cn,(qk (af T'.ln (fS _ _))),cb C,a5 (fS zI j),Jw,p,ok.pn,ok.nn]
   have M:∀z,d.x=Y z->Cn D (n+1) (j+CM)=QF (Cn D n) d.ps.length d.N.length d.body.dropLast z:=λz t=>by
    funext ds;have l:D[j+CM]?=L:=qk (af T'.ln (by unfold CM zI;simp));simp only[Cn,l,a5 (fS CM j),Jw,p,ok.pn,ok.nn,t,bp]
   have o:Z d.ps<=Z d.N:=by have:=c8 gh ok.sc.pre;grind
   have G:∀(i:T)(x:aa)(m:T),(Ka D con xg).fns[i]?=Y (x,m)->∃V X b,D[i]?=Y V/\x=V.name/\m=Z V.ps/\At K mg V X b:=λi x m hi=>by
    unfold Ka at hi;rw[aV]at hi;obtain⟨V,e1,e2⟩:=eT hi;clear hi; cases e2;obtain⟨X,b,a⟩:=T'.fn V (aY e1);exact⟨V,X,b,e1,W,(T'.ok V (aY e1)).pn.symm,a⟩
   have S:∀(I:SN)(cdv:ak)(A:bP)(outer:O C8)(s:ao)(H:Hp)(E:XK),i7 _ (A.deeper (f7 d.name (bE _) _ f cdv))->pA (Ka D _ xg) _ ⟨d.N,(bE _).names,U⟩ (pJ I P w K mg _ d.N _ (bE _) f _ A outer s H E).yk:=λI cdv A outer s H E g=>by
    refine⟨W,W,ok.sc.kind,W,?_,W,λ_ _=>W,λi x m hi=>?_,T'.blt,T'.con,T'.cls,T'.GW,T'.hnd,λi x m hi C=>?_,λ_=>W,λ_=>W⟩
    .show(A.deeper _).units+21<eE;exact iY g.units
    .obtain⟨V,X,b,e1,rfl,rfl,a⟩:=G i x m hi;have q:=EO T' n i V X b e1 a;exact⟨_,X,b,_,⟨q.1,q.2.1⟩,g,a.mgf,a.fn.kp,.all a.bd⟩
    .obtain⟨V,X,b,e1,rfl,rfl,a⟩:=G i x m hi;obtain⟨z,t⟩:=T'.rai V (aY e1) C;exact⟨_,X,b,_,(EO T' n i V X b e1 a).2.2 z t,g,a.mgf,a.fn.kp,.all a.bd⟩
   rw[e,L']
   have hb :=λcdv A outer s H E g=>
    ok.cmp▸j8 (MT (S vq cdv A outer s H E g) W ok.sc.nd 40) _
   refine⟨Ws at_.fn ok.sc o hb,Wr at_.fn ok.sc o hb,λz t=>?_⟩;rw[M z t,(ok.xr z t).2,E4];refine Wq at_.fn ok.sc o λcdv A outer s H E g=>ZS (S _ _ A _ s H E g) W ok.sc.nd JE (λx c fl C=>?_) (ok.xr z t).1
   obtain⟨R,U',fd,q,F,hb⟩:=T'.exc x c fl C;exact⟨U',fd,1,R,q,F _ _ _ 0,g.mono (by simp),hb⟩
def J4(K:Fg):Sp:=λvs H Q _=>∃(a:aN) (ns:O cx),vs=[.ref a]/\nW K H a (ns.map V.int)/\Z ns<=63/\∀b,Q (.bl U) b
def HH(ns:O cx):de K F (ns.map Dat.int) (ns.map V.int):=by
 induction ns with
 |nil=>exact rfl
 |cons n r a=>exact⟨_,_,W,W,a⟩
def VQ{D:O Df}{con:O (aa×Dat)}{xg:Xg}(T':Here K mg D con xg)(C:D[j]?=Y d)(at_:At K mg d f fd)(hp:Z d.ps=1)
  (B:∀ns:O cx,Z ns<=63->∃fr,Cn D n j [.lst (ns.map Dat.int)]=Y (.bl U,fr)):jx P w K mg base vq (n+2) f fd d.ps (J4 K):=
 jx.imp (EO T' n j d f fd C at_).1 λvs H Q E c=>by
  obtain⟨a,ns,rfl,b,hl,q⟩:=c;obtain⟨fr,h⟩:=B ns hl;refine⟨by rw[hp];rfl,_,_,fr,h,H,⟨cy.refl _,λ_ _ z=>z⟩,⟨_,_,W,⟨a,_,W,b,HH ns⟩,W⟩,λv g e _ r _=>?_⟩;rw[r];exact q e
def VP{D:O Df}{con:O (aa×Dat)}{xg:Xg}{l:jI}(T':Here K mg D con xg)(B:D[j]?=Y d)(I:d.ps=[x])(C:mg d.name=Y (.ref R))
  (S:∀ns:O cx,Z ns<=63->∃fr,Cn D n j [.lst (ns.map Dat.int)]=Y (.bl U,fr)) :
  ∃F:iF,(∀(s:ao)(u:ak),CG s F ⟨[u],[]⟩ [(x,u)])/\∀base:bJ,K.In base->base.Ns c9 mg->jx l.prog w K mg base vq (n+2) R F [x] (J4 K):=by
 refine ac λ_ b=>?_;obtain⟨f,F,a⟩:=T'.fn d (aY B);have e:=C.symm.trans a.mgf
 cases e;apply b;refine⟨F,λs u=>?_,λbase _ _=>?_⟩
 .have:=a.bd [u] (by rw[I];rfl)
  rw[I]at this;exact .of_eq this
 .have:=VQ (P:=l.prog) (w:=w) (base:=base) T' B a (by rw[I];rfl) S
  simp_all
def walk{l:jI}{d:DefRec}{K:Params->Fg}(C:l.most=Y 63)(hk:i7 n j0)(B:d.params.defaults=[])
  (I:∀(w:cU)(h:bJ),YP w h->(K w.params).In h)
  (F:∀(w:cU)(mg:aa->ar ak)(R:aN)(h:bJ),(K w.params).In h->h.Ns c9 mg->mg d.name=Y (.ref R)->
   ∃S:iF,(∀(s:ao)(u:ak),CG s S ⟨[u],[]⟩ [(x,u)])/\∀base:bJ,(K w.params).In base->base.Ns c9 mg->jx l.prog w (K w.params) mg base vq n R S [x] (J4 (K w.params))) :
  xu q loose XP YP l.row.toRowW d [] (λf vs=>Hb f vs):=
 L2.N9 C cF B hk I F (λ_ _ a ns hl _ b=>⟨a,ns,W,b,hl,λ_=>W⟩) λ_ _ _ _ _ z=>z
end
def Ra{K:Fg}(X:K.In h)(G:h.Ns c9 mg)(z:mI.map (λx=>fu K c9 x)=bb 20 (Y L)):∀x∈mI,mg x=L:=λx a=>by
 have q:fu K c9 x∈mI.map (λx=>fu K _ x):=bZ.mpr ⟨x,a,W⟩;rw[z]at q;exact PySem.W.mg_none_of X G (List.eq_of_mem_replicate q)
def dfL(G:Sg)(d:Df):ScopeKind×cc×cc×cc×T×T×O Sx×ar (O Sx×T×aa×Ex)×O Sx:=((bE d.st).kind,(bE d.st).isCoroutine,(bE d.st).isGenerator,decide (d.N.Nodup/\(∀x∈d.ps,(bE d.st).names.lookup x=Y .local\/(bE d.st).names.lookup x=Y .cell)/\∀y∈(bE d.st).names,y.2≠.free),d.ps.length,d.N.length,qI (cS G ⟨d.N,(bE d.st).names,U⟩ 40) (i5 d.st),(if d.x.isSome=U then cX G ⟨d.N,(bE d.st).names,U⟩ (i5 d.st)else L),d.body)
def Vd{G:Sg}{D:O Df}(h:D.map (dfL G)=D.map λd=>(.function,J,J,U,d.p,d.n,d.body,d.x.map (λz=>(d.body.dropLast,z)),if d.x.isSome=U then d.body.dropLast++[.Ay]else d.body)):∀d∈D,Xy G d:=λd hd=>by
 have e:=uo.mp h d hd;unfold dfL at e;simp only[qE]at e;obtain⟨m,o,q,i,e5,j,k,f,g⟩:=e;obtain⟨a,b,c⟩:=c5 i;refine⟨⟨m,o,q,a,List.take_left' W,b,c⟩,e5,j,k,λz l=>?_⟩;rw[l]at f g;exact⟨f,g⟩
end M
namespace M
open L2
section
@[simp] def o5:iT .add (.int i) (.int j)=Y (.int (i+j),J):=rfl
@[simp] def wQ:iT .sub (.int i) (.int j)=Y (.int (i - j),J):=rfl
def oY(h:0<j):iT .mod (.int i) (.int j)=Y (.int (i % j),J):=a5 h
@[simp] def wO:lr .len [.lst xs]=Y (.int xs.length,J):=rfl
@[simp] def EG:lr .len [.tup xs]=Y (.int xs.length,J):=rfl
@[simp] def sy(ns:O cx):mR (ns.map Dat.int)=U:=by
 induction ns with
 |nil=>rfl
 |cons n r a=>show(U && mR (r.map Dat.int))=U;rw[a];rfl
end
section
def fT{ds:O Dat}(h:Z ds=np)(B:dI C body (ds.map (λd=>Y (d,J))++bb (nl - np) L)=Y (.rt d fr)):QG C np nl body ds=Y (d,fr):=by
 unfold QG;rw[a5 h,B];rfl
def zj(h:pv C s ρ=Y (.nx f)):dI C (s::ss) ρ=dI C ss f:=by show(pv C s ρ).bind _=_;rw[h];rfl
def uY(h:pv C s ρ=Y (.rt d fr)):dI C (s::ss) ρ=Y (.rt d fr):=by show(pv C s ρ).bind _=_;rw[h];rfl
def Vc(h:pv C s ρ=Y (.nx f)):dI C [s] ρ=Y (.nx f):=by show(pv C s ρ).bind _=_;rw[h];rfl
def LR(h:be C e (full ρ)=Y (d,fr))(ht:gw d=Y U):pv C (.ifs e a b) ρ=dI C a ρ:=by show(be C e _).bind _=_;rw[h];show(gw d).bind _=_;rw[ht];rfl
def LS(h:be C e (full ρ)=Y (d,fr))(ht:gw d=Y J):pv C (.ifs e a b) ρ=dI C b ρ:=by show(be C e _).bind _=_;simp_all
end
section
def wR(h1:-18446744073709551616<i)(h2:i<18446744073709551616):iT .mul (.int i) (.int j)=Y (.int (i * j),J):=a5 (.inl ⟨h1,h2⟩)
def rm(h1:-18446744073709551616<j)(h2:j<18446744073709551616):iT .mul (.int i) (.int j)=Y (.int (i * j),J):=a5 (.inr ⟨h1,h2⟩)
def zR{C:Fs}{i:T}{e:Ex}{ρ:cT}:pv C (.set i e) ρ=(be C e (full ρ)).bind λx=>if(im x.1 || x.2)=U then Y (.nx (ρ.set i (Y (x.1,x.2 && !im x.1))))else(be C e (xT (nu e.fv ρ))).map λy=>.nx ((nu e.fv ρ).set i (Y (y.1,y.2 && !im y.1))):=by
 show(yF C e ρ).map _=_;unfold yF
 cases be C e (full ρ)with
 |none=>rfl
 |some x=>
   show jQ _ (if(im _ || x.2)=U then _ else _)=if(im _ || x.2)=U then _ else _
   cases im _ || x.2 with
   |true=>rfl
   |false=>exact Option.map_map ..
section
end
def qt{ds:O Dat}(h:Z ds<1000000):mD .app (.lst ds) [d]=Y (.lst (ds++[d])):=a5 (by exact af h cF)
def sS:pv C (.loop one f (.rng es) body) ρ=(CP C (.rng es) (full ρ)).bind λds=>iw (eO one f) (dI C body) ds ρ:=by
 show((CP C _ _).map _).bind _=_;cases CP C _ _<;>rfl
def yD:pv C (.loop one f (.itv e) body) ρ=(be C e (full ρ)).bind λx=>if(im x.1 || x.2)=U then(kL x.1).bind λds=>iw (eO one f) (dI C body) ds ρ
  else(be C e (xT (nu e.fv ρ))).bind λy=>(kL y.1).bind λds=>iw (eO one f) (dI C body) ds (nu e.fv ρ):=by
 show((yF C e ρ).bind λx=>(kL _).map _).bind _=_;unfold yF
 cases be C e (full ρ)with
 |none=>rfl
 |some x=>
   refine (?_ : bu (bu (if(im _ || x.2)=U then _ else _) _) _=if(im _ || x.2)=U then _ else _)
   cases im _ || x.2 with
   |true=>refine (?_ : ((kL x.1).map _).bind _=(kL _).bind _);cases kL _<;>rfl
   |false=>
     cases be C e (xT (nu _ ρ))with
     |none=>rfl
     |some y=>refine (?_ : ((kL y.1).map _).bind _=(kL _).bind _);cases kL _<;>rfl
section
def Wz:kh .eq (.str x) (.str y)=Y (x == y):=rfl
def abh:kh .ne (.str x) (.str y)=Y (!(x == y)):=rfl
def Wy(h1:eU 19 ds=U)(h2:eU 19 f=U):kh .eq (.tup ds) (.tup f)=Y (pH ds f):=by simp only[kh,iL,h1,h2,rQ,eu,pL]
def abg(h1:eU 19 ds=U)(h2:eU 19 f=U):kh .ne (.tup ds) (.tup f)=Y (!pH ds f):=by simp only[kh,iL,h1,h2,rQ,eu,pL]
end
def fA(h:be C a ρ=Y (.bl x,f)):be C (.and a b) ρ=if x=U then be C b ρ else Y (.bl J,J):=by
 show(be C a ρ).bind _=_;rw[h];rfl
def Ms(h:be C a ρ=Y (.bl x,f)):be C (.or a b) ρ=if x=U then Y (.bl U,J)else be C b ρ:=by
 show(be C a ρ).bind _=_;rw[h];rfl
def QJ(h:be C c ρ=Y (d,f))(ht:gw d=Y x):be C (.ite c a b) ρ=if x=U then be C a ρ else be C b ρ:=by
 show(be C c ρ).bind _=_;simp_all
end
section
def nO:be C (.v i) ρ=((ρ[i]?).join).map λd=>(d,J):=rfl
def oV:be C (.bin o a b) ρ=(be C a ρ).bind λx=>(be C b ρ).bind λy=>iT o x.1 y.1:=rfl
def Eu:be C (.cmp o a b) ρ=(be C a ρ).bind λx=>(be C b ρ).bind λy=>(kh o x.1 y.1).map λr=>(.bl r,J):=rfl
def Wv:be C (.not a) ρ=(be C a ρ).bind λx=>(gw x.1).map λb=>(.bl (!b),J):=rfl
def zS:be C (.tup es) ρ=(pG C es ρ).bind λx=>if Z x.1<=1000000 then Y (.tup x.1,x.2)else L:=rfl
def Mo:be C (.lst es) ρ=(pG C es ρ).bind λx=>if Z x.1<=1000000 then Y (.lst x.1,x.2)else L:=rfl
def GC:be C (.ix a b) ρ=(be C a ρ).bind λx=>(be C b ρ).bind λy=>(Az x.1 y.1).map λd=>(d,J):=rfl
def yE:be C (.sl a b c) ρ=(be C a ρ).bind λx=>(Z4 C ρ b).bind λl=>(Z4 C ρ c).bind λh=>Jf x.1 l h:=rfl
def kc:be C (.call f es) ρ=(mH C es ρ).bind λds=>C f ds:=rfl
def Ww:be C (.blt f es) ρ=(mH C es ρ).bind λds=>lr f ds:=rfl
def cJ:mH C (e::es) ρ=(be C e ρ).bind λx=>(mH C es ρ).map λr=>x.1::r:=rfl
def gH:pG C (e::es) ρ=(be C e ρ).bind λx=>(pG C es ρ).map λr=>(x.1::r.1,(x.2 || im x.1) && r.2):=rfl
def zT:be C (.lj m o es) ρ=(be C o ρ).bind λx=>(mH C es ρ).bind λds=>jH m x.1 ds:=rfl
def QI:CP C (.itv a) ρ=(be C a ρ).bind λx=>kL x.1:=rfl
def QH:CP C (.rng es) ρ=(mH C es ρ).bind O6:=rfl
def oW{ifs:O Ex}(hi:CP C it ρ=Y items)(hl:Z items<=1000000)(B:sk (pz C nt one (ki nt caps ρ) ifs elt) items=Y (f,fr)) :
  be C (.comp nt one caps it ifs elt) ρ=Y (.lst f,fr):=by
 show(CP C it ρ).bind _=_
 simp_all
def IG:pz C 1 U ρ0 [] elt d=(be C elt (ρ0.set 0 (Y d))).map Y:=rfl
def MJ{ρ0:gC}(h:be C i (ρ0.set 0 (Y d))=Y (x,f))(ht:gw x=Y t):pz C 1 U ρ0 [i] elt d=if t=U then(be C elt (ρ0.set 0 (Y d))).map Y else Y L:=by
 unfold pz;simp only[GV,bp,B5,h,ht];cases t<;>rfl
end
mutual
noncomputable def same:Dat->Dat->cc
 | .non,c=>match c with
   |.non=>U
   |_=>J
 | .bl a,c=>match c with
   |.bl b=>a == b
   |_=>J
 | .int i,c=>match c with
   |.int j=>i == j
   |_=>J
 | .str x,c=>match c with
   |.str y=>x == y
   |_=>J
 | .tup d,c=>match c with
   |.tup e=>vT d e
   |_=>J
 | .lst d,c=>match c with
   |.lst e=>vT d e
   |_=>J
 |_,_=>J
noncomputable def vT:O Dat->O Dat->cc
 |[],[]=>U
 |x::a,y::b=>same x y && vT a b
 |_,_=>J
end
mutual
theorem Fo:∀(x y:Dat),same x y=U->x=y
 |.non,y,h=>by cases y<;>first|rfl|(simp[same]at h)
 |.bl a,y,h=>by cases y<;>first|(simp[same]at h;rw[h])|(simp[same]at h)
 |.int a,y,h=>by cases y<;>first|(simp[same]at h;rw[h])|(simp[same]at h)
 |.str a,y,h=>by cases y<;>first|(simp[same]at h;rw[h])|(simp[same]at h)
 |.tup a,y,h=>by cases y<;>first|(rw[vS _ _ h])|(simp[same]at h)
 |.lst a,y,h=>by cases y<;>first|(rw[vS _ _ h])|(simp[same]at h)
theorem vS:∀(x y:O Dat),vT x y=U->x=y
 |[],y,h=>by cases y<;>first|rfl|(simp[vT]at h)
 |x::a,y,h=>by
   cases y with
   |nil=>simp[vT]at h
   |cons y b=>
     simp[vT]at h;rw[Fo _ _ h.1,vS _ _ h.2]
end
def uv:g_->g_->cc
 |some (d,b),Y (e,c)=>same d e && b == c
 |none,L=>U
 |_,_=>J
def rV(h:uv x y=U):x=y:=by
 cases x with
 |none=>cases y<;>first|rfl|(simp[uv]at h)
 |some x=>
   cases y with
   |none=>simp[uv]at h
   |some y=>
     obtain⟨d,b⟩:=x;simp[uv]at h;rw[Fo _ _ h.1,h.2]
def Bb{n dflt:T}{i:cx}(h0:0<=i)(h1:i<=n):HT.jJ n dflt (Y i)=i.toNat:=by
 obtain⟨k,rfl⟩:=ko h0;exact eG (ie.mp h1)
def GK{α:Type}{xs:O α}{i:cx}(h0:0<=i)(h1:i<=Z xs):cutD xs (Y i) L=xs.drop i.toNat:=by
 unfold cutD;rw[Bb h0 h1,HT.rW];rw[cM (by simp)]
def GL{α:Type}{xs:O α}{i:cx}(h0:0<=i)(h1:i<=Z xs):cutD xs L (Y i)=xs.take i.toNat:=by
 unfold cutD;rw[Bb h0 h1];rfl
def oZ{xs f:O Dat}(h:Z xs+Z f<=1000000):iT .add (.lst xs) (.lst f)=Y (.lst (xs++f),mR (xs++f)):=a5 (qv h)
noncomputable abbrev T'(l:O T):aa:=⟨l.toArray⟩
def Na(a b:O T):T' a++T' b=T' (a++b):=by
 show Str.mk _=_;simp[T']
def Z9(h:T' a=T' b):a=b:=by
 simp_all
def SH(a b:O T):(T' a == T' b)=decide (a=b):=by
 by_cases h:a=b
 .subst h;simp
 simp_all
def uG(a:O T):(T' a).length=a.length:=by show(a.toArray).size=_;simp
def qW:kh .isin (.str (T' [c])) (.str (T' l))=Y (decide (c∈l)):=by
 show Y _=_;rw[PySem.StrLaws.found_one _ c]
def OK:oK (T' l)=l.map λc=>T' [c]:=by
 unfold oK;simp[T']
def len_T{l:O T}(h:Z l<=1000000):lr .len [.str (T' l)]=Y (.int l.length,J):=by
 show(if(T' l).length<=aJ then Y (Dat.int _,J)else L)=_;rw[uG,a5 (by exact af h cF)]
def V5{l:O T}(hl:Z l<=1000000)(h:i<Z l):Az (.str (T' l)) (.int (i:T))=Y (.str (T' [l[i]])):=by
 show(if(T' l).length<=aJ then(vp _ _).map λc=>Dat.str ⟨_⟩else L)=_;rw[a5 (by exact af hl cF)];rw[show vp _ _=Y l[i]from jK (by simp[h])];rfl
theorem Fh:∀ws:O (O T),AV (ws.map λl=>Dat.str (T' l))=Y (ws.map T')
 |[]=>rfl
 |x::r=>by simp only[aI,AV,Fh r,eA]
def V0:∀ws:O (O T),pB (T' []) (ws.map T')=T' ws.flatten:=by
 intro ws;rw[show pB _ _=Str.join _ (ws.map T')from StrLaws.glued_eq_join _ _]
 induction ws with
 |nil=>rfl
 |cons x r a=>
   cases r with
   |nil=>show T' x=_;simp
   |cons y r=>
     show(T' x++T' []++Str.join _ _)=_;rw[a,Na,Na];simp
def F7{ws:O (O T)}(h:(ws.map (·.length)).sum<=1000000):jH .join (.str (T' [])) [.lst (ws.map λl=>Dat.str (T' l))]=Y (.str (T' ws.flatten),J):=by
 simp only[jH,mSL,Fh,bp];rw[a5,V0];rw[uG,dM];have e:(Ry ((λx:aa=>x.length) ∘ T') ws)=ws.map _:=dY λl _=>uG l;rw[e];simpa using h
def ne_T(a b:O T):kh .ne (.str (T' a)) (.str (T' b))=Y (!decide (a=b)):=by
 show Y (!(T' a == T' b))=_;rw[SH]
def abJ(a b:O T):kh .eq (.str (T' a)) (.str (T' b))=Y (decide (a=b)):=by
 show Y (T' a == T' b)=_;rw[SH]
theorem ud:∀(a b:O cx),pH (a.map Dat.int) (b.map Dat.int)=decide (a=b)
 |[],[]=>rfl
 |[],b::bs=>by simp[pH]
 |a::as,[]=>by simp[pH]
 |a::as,b::bs=>by
   simp only[aI,pH,pL,ud as bs];by_cases h:a=b
   .subst h;simp
   .simp[h]
theorem p5(k:T):∀a:O cx,eU k (a.map Dat.int)=U
 |[]=>by simp[eU]
 |a::as=>by simp[eU,iL,p5 k as]
def EH{xs f:O Dat}(h:Z xs+Z f<=1000000):iT .add (.tup xs) (.tup f)=Y (.tup (xs++f),J):=a5 (qv h)
def HS{ds es:O Dat}(h:Z ds+Z es<=1000000):mD .ext (.lst ds) [.lst es]=Y (.lst (ds++es)):=a5 (qv h)
end M
namespace M
open L2
noncomputable def wj:O T:=[97,98,99,100,101,102,103,104,105,106,107,108,109,110,111,112,113,114,115,116,117,118,119,120,121,122]
noncomputable def SK:O T:=[119,98,109,101]
abbrev Fm:=O T×O cx×O T
abbrev jh(t:Fm):Dat:=.tup [.str (T' t.1),.tup (t.2.1.map Dat.int),.str (T' t.2.2)]
def O5(h:m<=1000000):O6 [.int (m:T)]=Y ((aX m).map λk:T=>Dat.int k):=by
 show(if _ then _ else L)=_;rw[a5 (by omega)];simp
def ZF(xs:O T):(xs.map λc=>[c]).flatten=xs:=by
 induction xs with
 |nil=>rfl
 |cons a r b=>simp_all
def aaU(xs:O T):((xs.map λc=>[c]).map (·.length)).sum=Z xs:=by
 induction xs with
 |nil=>rfl
 |cons a r b=>rw[aI,aI,List.sum_cons,b];exact Dc _ _
def XI(k:T):O T:=(aX 4).filterMap λi=>if k / 2 ^ i % 2=1 then SK[i]? else L
def Gq(f:Fm):im (jh f)=U:=by
 show(U && (mR (f.2.1.map _) && (U && U)))=U;rw[sy];rfl
theorem nN:∀fs:O Fm,mR (fs.map jh)=U
 |[]=>rfl
 |f::fs=>by show(im (jh f) && mR (fs.map jh))=U;rw[Gq,nN fs];rfl
def zo(a b c:Dat):Jf (.tup [a,b,c]) L (Y 2)=Y (.tup [a,b],J):=rfl
def A4(f:Fm):iL 20 (.tup [.str (T' f.1),.tup (f.2.1.map Dat.int)])=U:=by
 show(U && (eU 18 (f.2.1.map _) && U))=U;rw[p5];rfl
noncomputable abbrev tI(l:O cx):Dat:=.tup (l.map Dat.int)
open Builtin Builtin.Str
def LU{p q n:T}:strSliceIndices (Y (p:cx)) (Y (q:cx)) 1 n=strSliceIndices (Y (p:cx)) (Y ((min q n:T):cx)) 1 n:=by
 have h2:¬((q:cx)<0):=by simp
 have h3:¬(((min q n:T):cx)<0):=by simp
 have e:max (0:cx) (min (q) (n))=max 0 (min ((min q n:T):cx) (n)):=by rw[show((min q n:T):cx)=min (q:cx) n by omega,Int.min_assoc,Int.min_self]
 simp only[strSliceIndices,h2,h3,et,e,show((1:cx) > 0)=True by simp,eu]
def zm{x:O T}(h1:p<=q)(h2:q<=Z x)(h:strSliceIndices l u 1 (Z x)=strSliceIndices (Y (p:cx)) (Y (q:cx)) 1 x.length):dv (T' x) l u=T' ((x.drop p).take (q - p)):=by
 have e:=PySem.StrLaws.sliced_plain (T' x) h1 (by exact h2);rw[uG]at e;unfold dv;rw[uG,h,e,PySem.StrLaws.strSliceIndices_plain h1 h2];split
 .rename_i z;simp at z;have hp:p=0:=aH (wc (ws h1) h2 (ag z.symm)) (lw0);clear h1 h2 h e; subst hp;rw[z,xP,uV]
 .rfl
def J9{x:O T}(hp:p<=Z x)(B:p<=q):dv (T' x) (Y (p:cx)) (Y (q:cx))=T' ((x.drop p).take (q - p)):=by
 rw[zm (by omega) (pE _ _) LU]
 congr 1
 by_cases h:q<=Z x
 .rw[(eG h)]
 .rw[cM (by rw[dF];exact wc (ws hp) (a1 q x.length (iY (cC h))) (wT (Min.min q _) p)),cM (by rw[dF];exact Nat.sub_le_sub_right (aE (cC h)) _)]
def OF:dv (T' (c::r)) L (Y 1)=T' [c]:=by
 rw[zm (p:=0) (q:=1) (by simp) (by simp)]
 .rfl
 .rfl
open Builtin Builtin.Str
end M
namespace M
open L2
section
variable{K:Fg}
mutual
noncomputable def O8(K:Fg):Dat->ak->cc
 |.str x,u=>match u with
   |.str y _=>decide (x=y)
   |_=>J
 |.int i,u=>match u with
   |.int j _=>decide (i=j)
   |_=>J
 | .tup b,u=>match u with
   |.ref p=>match K.lookup p with
     |some ⟨.type c,L,.seq a _,_⟩=>decide (c="tuple") && decide (a.size<=aJ) && Ku K b a.toList
     |_=>J
   |_=>J
 |_,_=>J
noncomputable def Ku(K:Fg):O Dat->O ak->cc
 |[],[]=>U
 |d::a,u::us=>O8 K d u && Ku K a us
 |_,_=>J
end
set_option tactic.hygienic true
mutual
theorem Fu:∀(d:Dat)(u:ak),O8 K d u=U->∃v,RelV v u/\CV K d v
 |.str x,u,h=>by
   unfold O8 at h;split at h
   .cases c5 h;exact⟨.str x,⟨_,W⟩,λ_=>W,λ_ z=>nomatch z⟩
   .cases h
 |.int i,u,h=>by
   unfold O8 at h;split at h
   .cases c5 h;exact⟨.int i,⟨_,W⟩,λ_=>W,λ_ z=>nomatch z⟩
   .cases h
 |.tup e,u,h=>by
   unfold O8 at h;split at h
   .rename_i p;split at h
    .rename_i c f n l a;obtain⟨h1,h2⟩:=dR.mp (dR.mp h).1;cases c5 h1;obtain⟨vs,r,q⟩:=Bf e _ (dR.mp h).2;exact⟨.ref p,W,λF=>⟨p,vs,W,.inr ⟨_,_,n,a,W,W,c5 h2,r⟩,q F⟩,λb z=>by cases z;exact⟨_,a,W,W⟩⟩
    .cases h
   .cases h
 |.non,_,h=>nomatch h
 |.bl _,_,h=>nomatch h
 |.lst _,_,h=>nomatch h
 |.dct _ _,_,h=>nomatch h
 |.any,_,h=>nomatch h
 |.exc _ _ _,_,h=>nomatch h
theorem Bf:∀(ds:O Dat)(us:O ak),Ku K ds us=U->∃vs,df vs us/\∀F,de K F ds vs
 |[],[],_=>⟨[],.nil,λ_=>W⟩
 |d::ds,u::us,h=>by
   obtain⟨h1,h2⟩:=dR.mp h;obtain⟨v,r,q⟩:=Fu d u h1;obtain⟨vs,a,b⟩:=Bf ds us h2;exact⟨v::vs,.cons r a,λF=>⟨v,vs,W,q.1 F,b F⟩⟩
 |[],_::_,h=>nomatch h
 |_::_,[],h=>nomatch h
end
def ZQ(K:Fg)(p:aa×Dat):cc:=match fu K c9 p.1 with
 |some (Y u)=>O8 K p.2 u
 |_=>J
theorem GN(X:K.In h)(G:h.Ns c9 mg):∀{con:O (aa×Dat)},con.all (ZQ K)=U->∀x d,con.lookup x=Y d->∃v u,mg x=Y u/\RelV v u/\CV K d v
 |(y,e)::b,h,x,d,q=>by
   obtain⟨h1,h2⟩:=dR.mp h;rw[dE]at q;split at q
   .rename_i z;cases q;rw[eq_of_beq z];unfold ZQ at h1;split at h1
    .rename_i u a;obtain⟨v,r,c⟩:=Fu _ _ h1;exact⟨v,u,nA X G a,r,c⟩
    .cases h1
   .exact GN X G h2 x d q
set_option tactic.hygienic false
end
section
variable{K:Fg}
noncomputable def abD:iE->cc
 |.FunctionDef _ _ _ _ _ _ _ _ _ _=>U
 |_=>J
def Wc:iE->iE
 |.ClassDef _ _ _ b _ _ _ _ _ _ _=>(b.find? abD).getD (.Pass ⟨0,0,0,0⟩)
 |s=>s
noncomputable def isC(x:aa):iE->cc
 |.ClassDef y _ _ _ _ _ _ _ _ _ _=>y == x
 |_=>J
def Wb(B:O iE)(x:aa):Df:=⟨Wc ((B.find? (isC x)).getD (.Pass ⟨0,0,0,0⟩)),2,2,[],L⟩
noncomputable def YJ(K:Fg)(c:T):ar (aN×ak×ar aN×iF×c7 (ar ak)):=match K.lookup c with
 | some ⟨_,_,.cls a,_⟩=>match fu K a.ns "__init__" with
   | some (Y (.ref f))=>match K.lookup f with
     |some ⟨oc,od,.func b,l⟩=>Y (f,oc,od,b,l)
     |_=>L
   |_=>L
 |_=>L
def fnI(d:Df)(f:iF):iF:=oB f.name f.qualname (vn d.st) (i5 d.st) (bE d.st) .none f.kwdefaults f.doc f.pyModule f.annotations f.code f.closureTuple
def aa8(d:Df):rC×rC×rC×rC:=match i5 d.st with
 |[.Assign [.Attribute (.Name _ a) _ b] (.Name _ c) e]=>(a,b,c,e)
 |_=>(⟨0,0,0,0⟩,⟨0,0,0,0⟩,⟨0,0,0,0⟩,⟨0,0,0,0⟩)
noncomputable def bdI(f:aa)(p:rC×rC×rC×rC):O iE:=[.Assign [.Attribute (.Name "self" p.1) f p.2.1] (.Name f p.2.2.1) p.2.2.2]
def exB(K:Fg)(x:aa)(c:T)(f:aa):cc:=match YJ K c with
 |some z=>pO K z.2.2.2.1.code z.2.2.2.1.qualname && dO K (.ref z.1) && vI K c z.1 && JA K c && (l9 K (.ref c) f == Y L) && (l9 K (.ref c) "__setattr__" == Y (Y (.builtin "object.__setattr__"))) && (fu K c9 x == Y (Y (.ref c))) && !(f == ("__debug__":aa)) && !(f == ("__classdict__":aa))
 |none=>J
theorem XQ{α f:Type}[BEq α][LawfulBEq α]{x:α}{y:f}:∀{L':O (α×f)},L'.lookup x=Y y->(x,y)∈L'
 |(a,b)::L',q=>by
   rw[dE]at q;split at q
   .simp_all
   .exact jY _ (XQ q)
def QE(X:K.In h)(G:h.Ns c9 mg)(h1:(YJ K c).map (λz=>z.2.2.2.1)=(YJ K c).map λz=>fnI d z.2.2.2.1)(h2:exB K x c f=U)
  (h3:((bE d.st).kind,(bE d.st).isCoroutine,(bE d.st).isGenerator,decide (d.N.Nodup/\(∀x∈d.ps,(bE d.st).names.lookup x=Y .local\/(bE d.st).names.lookup x=Y .cell)/\∀y∈(bE d.st).names,y.2≠.free),d.N,d.ps,i5 d.st)=(.function,J,J,U,[("self":aa),f],[("self":aa),f],bdI f (aa8 d)))
  (I:∀(F:iF)(u v:ak),hB (fnI d F) ⟨[u,v],[]⟩=pure [(("self":aa),u),(f,v)]):aaj K mg x c f:=by
 unfold exB at h2
 cases e:YJ K c with
 |none=>rw[e]at h2;cases h2
 |some z=>
   obtain⟨g,oc,od,F,l⟩:=z;rw[e]at h1 h2;have H :=bL h1;simp only[ah,eb,gZ]at h2;obtain⟨⟨⟨⟨⟨⟨⟨⟨M,Q⟩,R⟩,i⟩,V⟩,j⟩,m⟩,n⟩,o⟩:=h2
   have p:K.lookup g=Y ⟨oc,od,.func F,l⟩:=by
    unfold YJ at e;split at e
    .split at e
     .split at e
      .grind
      .cases e
     .cases e
    .cases e
   simp only[qE]at h3;obtain⟨q,r,s,t,A,e5,B⟩:=h3;obtain⟨a,b,C⟩:=c5 t;rw[A]at a;rw[e5]at b;have S:lV ["self",f] ["self",f] (bE d.st):=⟨q,r,s,a,W,b,C⟩
   have xT:∀y∈[("self":aa),f],M9 (bE d.st) y:=λy D=>(b y D).imp id .inl;refine⟨nA X G m,g,F,R,λP w base k=>Qz ⟨⟨oc,od,_,_,_,_,_,_,l,H,p,M⟩,Q⟩ S B ⟨i,V,j⟩ (xT _ jM) (xT _ (jY _ jM)) n o λ_ _=>W,.all λus E=>?_⟩;obtain⟨u,v,rfl⟩:=VM E;exact(c8 (λz=>hB z ⟨[u,v],[]⟩) H).trans (I F u v)
def clB(K:Fg)(q:aa×O (T×cc)):cc:=q.2.all (λp=>AN K p.1) && match fu K c9 q.1 with
 |some (Y (.ref C))=>q.2.all λp=>l8 K (.ref p.1) (.ref C) == Y p.2
 | some L=>match dt q.1 with
   |some (.type T')=>(q.1 != "__name__") && q.2.all λp=>l8 K (.ref p.1) (.type T') == Y p.2
   |_=>J
 |_=>J
def JR{f:O (T×cc)}(h1:f.all (λp=>AN K p.1)=U)(h2:(f.all λp=>l8 K (.ref p.1) u == Y p.2)=U):Cz K f u:=λc b q=>by
 exact⟨bh.mp h1 _ (XQ q),eq_of_beq (bh.mp h2 _ (XQ q))⟩
set_option tactic.hygienic true
def QR(X:K.In h)(G:h.Ns c9 mg){L':O (aa×O (T×cc))}(h1:L'.all (clB K)=U):∀x f,L'.lookup x=Y f->Nf K mg x f:=λx f b=>by
 obtain⟨e,d⟩:=dR.mp (bh.mp h1 _ (XQ b));split at d
 .rename_i C a;exact .inl ⟨C,nA X G a,JR e d⟩
 .rename_i a;split at d
  .rename_i T' c;exact .inr ⟨T',C1 X G a,c,by simpa using (dR.mp d).1,JR e (dR.mp d).2⟩
  .cases d
 .cases d
noncomputable def hnB(K:Fg)(n:aa)(c:T):cc:=match fu K c9 n with
 |some (Y (.ref a))=>iq K (.ref c) (.ref a) == Y U
 |_=>J
def Qs(X:K.In h)(G:h.Ns c9 mg)(e:hnB K n c=U):∃f,mg n=Y (.ref f)/\∀B∈[c],iq K (.ref B) (.ref f)=Y U:=by
 unfold hnB at e;split at e
 .rename_i f a;exact⟨f,nA X G a,λB hc=>by simp_all⟩
 .cases e
set_option tactic.hygienic false
end
end M
namespace K35
open L2 M
noncomputable def top(i:T):iE:=nJ.main.body.getD i (.Pass ⟨0,0,0,0⟩)
def JB:O Sx:=[.set 3 (.bin .add (.v 3) (.e_ 1))]
def Ia:O Sx:=[.Za .app 1 (.ix (.v 3) (.e_ 0)) [.v 3]]
def lbA:O Sx:=[.ifs (.cmp .ne (.call 33 [.v 1,.v 2,.v 7]) (.call 32 [.v 2,.v 7])) [.ret (.con (.bl J))] []]
def lbR:O Sx:=[.ifs (.cmp .isin (.v 6) (.ix (.v 3) (.v 5))) [.lmx 4 (9+zI) 3 [.ix (.v 2) (.v 6),.v 1,.v 5]] []]
def Nu:O Sx:=[.ifs (.and (.call 0 [.v 6]) (.cmp .isin (.v 6) (.ix (.v 3) (.blt .len [.v 1])))) [.ret (.call 10 [.v 3,.v 6])] []]
def Qd:O Sx:=[.ifs (.cmp .isin (.v 7) (.ix (.v 2) (.blt .len [.v 1]))) [.ret (.tup [.f_ "read",.e_ 0])] []]
def abx:O Sx:=[.ifs (.cmp .isin (.v 10) (.v 4)) [.mut .app 8 [.tup [.f_ "all",.lj .upper (.v 2) [],.v 3,.v 11]]] []]
abbrev GX:Ex:=.tup [.v 0,.bin .add (.lj .upper (.ix (.v 1) (.e_ 0)) []) (.sl (.v 1) (Y (.e_ 1)) L),.bin .add (.v 4) (.v 2),.v 3]
def STX:Ex:=.con (.tup [.str (ae "out"),.str (ae "in"),.str (ae "done"),.str (ae "num"),.str (ae "let"),.str (ae "all")])
def Z1:Ex:=.and (.cmp .lt (.v 3) (.blt .len [.v 0])) (.and (.cmp .lt (.bin .add (.v 2) (.v 3)) (.blt .len [.v 1])) (.cmp .eq (.ix (.v 0) (.v 3)) (.ix (.v 1) (.bin .add (.v 2) (.v 3)))))
def SY:O Sx:=[.set 4 (.ix (.ix (.v 0) (.v 3)) (.v 1)),.mut .app 2 [.ix (.v 4) (.e_ 1)],.set 3 (.bin .sub (.v 3) (.blt .len [.ix (.v 4) (.e_ 2)])),.set 1 (.ix (.v 4) (.e_ 0))]
def c31:Ex:=.and (.cmp .lt (.v 3) (.blt .len [.v 0])) (.cmp .eq (.sl (.v 1) (Y (.v 2)) (Y (.bin .add (.bin .add (.v 2) (.v 3)) (.e_ 1)))) (.sl (.v 0) L (Y (.bin .add (.v 3) (.e_ 1)))))
def plX:Ex:=.lj .join (.f_ "") [.comp 1 U [6] (.rng [.e_ 4]) [.cmp .eq (.bin .band (.bin .shr (.v 1) (.v 0)) (.e_ 1)) (.e_ 1)] (.ix (.f_ "wbme") (.v 0))]
def lbY:O Sx:=[.set 6 (.call 31 [.ix (.v 5) (.e_ 2),.v 1,.v 4]),.set 3 (.bin .mx (.v 3) (.bin .add (.v 4) (.v 6))),.ifs (.cmp .eq (.v 6) (.blt .len [.ix (.v 5) (.e_ 2)])) [.Jh 2 (.bin .add (.v 4) (.v 6)) (.ix (.v 5) (.e_ 3))] []]
def Zm:O Sx:=[.set 6 (.call 8 [.ix (.v 5) (.e_ 2),.v 2,.v 3]),.set 4 (.bin .mx (.v 4) (.bin .add (.v 3) (.v 6))),.ifs (.cmp .eq (.v 6) (.blt .len [.ix (.v 5) (.e_ 2)])) [.RV 0 (.bin .add (.v 3) (.v 6)) (.ix (.v 5) (.e_ 3)) (.v 5)] []]
def Zj:O Sx:=[.set 10 (.bin .add (.v 5) (.blt .len [.ix (.v 9) (.e_ 1)])),.ifs (.and (.cmp .eq (.ix (.v 9) (.e_ 0)) (.v 6)) (.and (.cmp .eq (.sl (.v 3) (Y (.v 5)) (Y (.v 10))) (.ix (.v 9) (.e_ 1))) (.cmp .isin (.ix (.v 9) (.e_ 3)) (.ix (.v 4) (.v 10))))) [.mut .app 8 [.v 9]] []]
def lbX:O Sx:=[.ifs (.cmp .isin (.ix (.v 5) (.e_ 0)) (.ix (.v 2) (.v 4))) lbY []]
def Zl:O Sx:=[.ifs (.and (.cmp .eq (.blt .len [.ix (.v 2) (.e_ 0)]) (.e_ 1)) (.cmp .nin (.ix (.v 2) (.e_ 0)) (.v 1))) [.mut .app 1 [.ix (.v 2) (.e_ 0)],.ifs (.cmp .gt (.blt .len [.ix (.ix (.v 0) (.e_ 1)) (.e_ 0)]) (.e_ 0)) [.mut .app 1 [.lj .upper (.ix (.v 2) (.e_ 0)) []]] []] []]
def Zp:O Sx:=[.ifs (.and (.cmp .isin (.f_ "w") (.v 4)) (.cmp .gt (.blt .len [.v 2]) (.e_ 1))) [.mut .app 8 [.tup [.v 9,.lj .upper (.v 2) [],.bin .add (.v 6) (.v 3),.f_ "done"]]] [],.ifs (.cmp .isin (.f_ "b") (.v 4)) [.mut .app 8 [.tup [.v 9,.lj .upper (.v 2) [],.bin .add (.v 6) (.v 3),.f_ "all"]]] []]
def iB:O Sx:=[.set 5 (.call 17 [.v 0,.v 3,.v 2,.v 1]),.ifs (.cmp .nin (.sl (.v 5) L (Y (.e_ 2))) (.comp 1 U [] (.itv (.v 4)) [] (.sl (.v 0) L (Y (.e_ 2))))) [.set 6 (.call 13 [.v 0,.bin .add (.e_ 10) (.v 3),.e_ 25031,.bin .add (.blt .len [.v 4]) (.e_ 1)]),.set 4 (.bin .add (.bin .add (.sl (.v 4) L (Y (.v 6))) (.lst [.v 5])) (.sl (.v 4) (Y (.v 6)) L))] []]
def Zv:O Sx:=[.ifs (.and (.cmp .isin (.v 10) (.v 4)) (.cmp .eq (.cmp .isin (.v 10) (.f_ "wb")) (.cmp .ne (.v 9) (.f_ "in")))) [.mut .app 8 [.tup [.v 9,.v 2,.v 3,.v 11]],.ifs (.cmp .gt (.blt .len [.v 5]) (.e_ 0)) [.mut .app 8 [.tup [.v 9,.bin .add (.lj .upper (.sl (.v 2) L (Y (.e_ 1))) []) (.sl (.v 2) (Y (.e_ 1)) L),.bin .add (.v 5) (.v 3),.v 11]]] []] []]
def VO:O Sx:=[.set 4 (.tup [.ix (.ix (.v 0) (.e_ 2)) (.v 3)]),.mut .app 2 [.tup [.f_ "out",.blt .str [.v 3],.bin .add (.ix (.v 1) (.e_ 2)) (.v 4),.f_ "num"]],.mut .app 2 [.tup [.f_ "done",.blt .str [.v 3],.bin .add (.ix (.v 1) (.e_ 2)) (.v 4),.f_ "num"]],.mut .app 2 [.tup [.f_ "num",.blt .str [.v 3],.v 4,.f_ "num"]]]
def Zk:O Sx:=[.set 7 (.bin .add (.v 5) (.blt .len [.ix (.v 6) (.e_ 1)])),.ifs (.and (.cmp .eq (.sl (.v 1) (Y (.v 5)) (Y (.v 7))) (.ix (.v 6) (.e_ 1))) (.cmp .isin (.ix (.v 6) (.e_ 3)) (.ix (.v 2) (.v 7)))) [.set 8 (.bin .add (.blt .len [.ix (.v 6) (.e_ 2)]) (.ix (.ix (.v 2) (.v 7)) (.ix (.v 6) (.e_ 3)))),.RV 2 (.v 5) (.ix (.v 6) (.e_ 0)) (.bin .mn (.v 8) (.lj .get (.ix (.v 2) (.v 5)) [.ix (.v 6) (.e_ 0),.v 8]))] []]
def lbW:O Sx:=[.set 8 (.bin .add (.v 4) (.blt .len [.ix (.v 7) (.e_ 2)])),.set 9 (.tup [.bin .add (.v 5) (.blt .len [.ix (.v 7) (.e_ 1)]),.ix (.v 7) (.e_ 3)]),.set 10 (.and (.cmp .eq (.ix (.v 7) (.e_ 0)) (.v 6)) (.cmp .eq (.sl (.v 2) (Y (.v 4)) (Y (.v 8))) (.ix (.v 7) (.e_ 2)))),.ifs (.and (.v 10) (.and (.cmp .eq (.sl (.v 1) (Y (.v 5)) (Y (.ix (.v 9) (.e_ 0)))) (.ix (.v 7) (.e_ 1))) (.cmp .nin (.v 9) (.ix (.v 3) (.v 8))))) [.Jh 3 (.v 8) (.v 9)] []]
def lbV:O Sx:=[.loop U [7] (.itv (.v 0)) lbW]
def lbT:O Sx:=[.XX J [5,6] 3 (.v 4) lbV]
def N7:O Sx:=[.set 8 (.lst []),.loop U [9] (.itv (.v 2)) Zj,.set 9 (.ix (.v 8) (.call 13 [.v 0,.bin .add (.v 1) (.blt .len [.v 7]),.e_ 70001,.blt .len [.v 8]])),.mut .app 7 [.v 9],.set 5 (.bin .add (.v 5) (.blt .len [.ix (.v 9) (.e_ 1)])),.set 6 (.ix (.v 9) (.e_ 3))]
def b0:O Sx:=[.ret (.cmp .isin (.v 0) (.con (.tup [.str (ae "out"),.str (ae "done"),.str (ae "num")])))]
def b1:O Sx:=[.ret (.comp 1 U [] (.itv (.tup [.f_ "out",.f_ "done",.f_ "num"])) [] (.tup [.v 0,.f_ " ",.tup [.e_ 0],.f_ "out"]))]
def b2:O Sx:=[.ifs (.cmp .eq (.v 1) (.tup [])) [.ret (.lst [])] [],.set 2 (.lst [.tup [.f_ "num",.f_ "",.ix (.v 0) (.e_ 3),.f_ "let"]]),.loop J [3,4] (.zip [.f_ "0123456789",.v 1]) [.mut .app 2 [.tup [.f_ "out",.v 3,.bin .add (.ix (.v 0) (.e_ 2)) (.tup [.v 4]),.f_ "num"]],.mut .app 2 [.tup [.f_ "done",.v 3,.bin .add (.ix (.v 0) (.e_ 2)) (.tup [.v 4]),.f_ "num"]],.mut .app 2 [.tup [.f_ "num",.v 3,.tup [.v 4],.f_ "num"]]],.oM 2]
def b3:O Sx:=[.set 1 (.lst []),.loop J [2,3,4] (.itv (.v 0)) [.loop J [5,6,7] (.itv (.con (.tup [.tup [.str (ae "w"),.str (ae "out"),.str (ae "done")],.tup [.str (ae "w"),.str (ae "let"),.str (ae "done")],.tup [.str (ae "b"),.str (ae "out"),.str (ae "in")],.tup [.str (ae "b"),.str (ae "let"),.str (ae "in")],.tup [.str (ae "m"),.str (ae "in"),.str (ae "in")],.tup [.str (ae "e"),.str (ae "in"),.str (ae "done")]]))) [.ifs (.cmp .isin (.v 5) (.v 4)) [.mut .app 1 [.tup [.v 6,.v 2,.v 3,.v 7]]] []]],.oM 1]
def b4:O Sx:=[.ret (.comp 4 J [1] (.itv (.v 0)) [] GX)]
def b5:O Sx:=[.set 2 (.lst []),.loop J [3,4,5] (.itv (.v 0)) [.loop J [6,7,8] (.itv (.con (.tup [.tup [.str (ae "w"),.str (ae "out"),.str (ae "done")],.tup [.str (ae "w"),.str (ae "let"),.str (ae "done")],.tup [.str (ae "b"),.str (ae "out"),.str (ae "all")],.tup [.str (ae "b"),.str (ae "let"),.str (ae "all")],.tup [.str (ae "m"),.str (ae "all"),.str (ae "all")],.tup [.str (ae "e"),.str (ae "all"),.str (ae "done")]]))) [.ifs (.and (.cmp .isin (.v 6) (.v 5)) (.or (.cmp .ne (.v 6) (.f_ "w")) (.cmp .gt (.blt .len [.v 3]) (.e_ 1)))) [.set 9 (.ite (.cmp .eq (.v 7) (.f_ "all")) (.tup []) (.v 1)),.mut .app 2 [.tup [.v 7,.lj .upper (.v 3) [],.bin .add (.v 9) (.v 4),.v 8]]] []]],.oM 2]
def b6:O Sx:=[.set 1 (.ix (.v 0) (.e_ 0)),.set 2 (.ix (.v 0) (.e_ 1)),.set 3 (.call 3 [.v 1]),.ifs (.cmp .ne (.ix (.v 2) (.e_ 0)) (.tup [])) [.set 3 (.bin .add (.v 3) (.call 4 [.v 3,.ix (.v 2) (.e_ 0)]))] [],.ifs (.cmp .ne (.ix (.v 2) (.e_ 1)) (.tup [])) [.set 3 (.bin .add (.v 3) (.call 5 [.v 1,.ix (.v 2) (.e_ 1)]))] [],.ifs (.cmp .eq (.ix (.v 0) (.e_ 2)) (.tup [])) [.set 3 (.comp 1 U [] (.itv (.v 3)) [.cmp .ne (.ix (.v 0) (.e_ 0)) (.f_ "let")] (.v 0))] [],.ret (.blt .sset [.bin .add (.bin .add (.v 3) (.call 1 [])) (.call 2 [.v 2,.ix (.v 0) (.e_ 2)])])]
def b7:O Sx:=[.set 1 .rj,.loop U [2] (.itv STX) [.mut .seti 1 [.lst [],.v 2]],.loop U [3] (.itv (.call 6 [.v 0])) Ia,.oM 1]
def b8:O Sx:=[.set 3 (.e_ 0),.SX Z1 JB,.oM 3]
def b9:O Sx:=[.set 4 (.v 3),.loop U [5] (.itv (.v 1)) Zm,.oM 4]
def b10:O Sx:=[.set 2 (.lst []),.set 3 (.bin .sub (.blt .len [.v 0]) (.e_ 1)),.SX (.cmp .gt (.v 3) (.e_ 0)) SY,.ret (.jrv (.f_ "") (.v 2))]
def XZ:O Sx:=[.set 2 (.call 7 [.v 0]),.set 3 (.cat (.comp 1 U [] (.itv (.v 1)) [] .rj) (.lst [.rj])),.RV 3 (.e_ 0) (.f_ "out") (.con .non),.set 4 (.e_ 0),.loop U [5] (.rng [.blt .len [.v 1]]) [.loop U [6] (.itv STX) lbR],.loop U [6] (.itv STX) Nu,.Ay]
def b12:O Sx:=[.ifs (.cmp .lt (.v 1) (.blt .len [.v 0])) [.ret (.ix (.v 0) (.v 1))] [],.ret (.e_ 0)]
def b13:O Sx:=[.set 4 (.bin .mod (.bin .add (.bin .add (.bin .mul (.call 12 [.v 0,.v 1]) (.e_ 48271)) (.bin .mul (.bin .mul (.e_ 7919) (.v 1)) (.v 1))) (.e_ 11)) (.v 2)),.ret (.bin .mod (.bin .mod (.bin .mul (.v 4) (.e_ 7919)) (.e_ 999983)) (.v 3))]
def b14:O Sx:=[.ret (.and (.blt (.isi .int) [.v 0]) (.not (.blt (.isi .bool) [.v 0])))]
def b15:O Sx:=[.set 3 (.bin .add (.e_ 1) (.call 13 [.v 0,.v 1,.e_ 10007,.e_ 2])),.ifs (.cmp .eq (.call 13 [.v 0,.v 1,.e_ 10009,.e_ 8]) (.e_ 0)) [.set 3 (.bin .add (.e_ 1) (.call 13 [.v 0,.v 1,.e_ 10037,.e_ 4]))] [],.ret (.blt .tuple [.comp 1 U [2,1,0] (.rng [.v 3]) [] (.bin .add (.e_ 1) (.call 13 [.v 3,.v 2,.bin .add (.e_ 10039) (.bin .mul (.e_ 22) (.v 0)),.v 1]))])]
def b16:O Sx:=[.set 1 (.bin .add (.e_ 1) (.call 13 [.v 0,.e_ 0,.e_ 15013,.e_ 3])),.ifs (.cmp .eq (.call 13 [.v 0,.e_ 0,.e_ 15017,.e_ 6]) (.e_ 0)) [.set 1 (.bin .add (.e_ 1) (.call 13 [.v 0,.e_ 0,.e_ 15031,.e_ 6]))] [],.set 2 (.call 13 [.v 0,.e_ 1,.e_ 15053,.e_ 26]),.set 3 (.ix (.lst [.e_ 1,.e_ 3,.e_ 5,.e_ 7,.e_ 9,.e_ 11,.e_ 15]) (.call 13 [.v 0,.e_ 1,.e_ 15061,.e_ 7])),.ret (.comp 1 U [2,3] (.rng [.v 1]) [] (.ix (.f_ "abcdefghijklmnopqrstuvwxyz") (.bin .mod (.bin .add (.v 1) (.bin .mul (.v 0) (.v 2))) (.e_ 26))))]
def b17:O Sx:=[.set 4 (.bin .add (.e_ 1) (.call 13 [.v 0,.bin .add (.e_ 10) (.v 1),.e_ 20021,.e_ 3])),.ifs (.cmp .eq (.call 13 [.v 0,.bin .add (.e_ 10) (.v 1),.e_ 20023,.e_ 8]) (.e_ 0)) [.set 4 (.bin .add (.e_ 1) (.call 13 [.v 0,.bin .add (.e_ 10) (.v 1),.e_ 20029,.e_ 6]))] [],.set 5 (.lj .join (.f_ "") [.comp 1 U [1,2,0] (.rng [.v 4]) [] (.ix (.v 2) (.call 13 [.v 3,.bin .add (.e_ 10) (.v 1),.bin .add (.e_ 20047) (.bin .mul (.e_ 22) (.v 0)),.blt .len [.v 2]]))]),.set 6 (.bin .add (.e_ 1) (.call 13 [.v 0,.bin .add (.e_ 10) (.v 1),.e_ 25013,.e_ 15])),.set 7 plX,.ret (.tup [.v 5,.call 15 [.v 0,.bin .add (.e_ 20) (.v 1),.v 3],.v 7])]
def b18:O Sx:=[.set 2 (.call 16 [.v 0]),.set 4 (.comp 1 U [1,2,0] (.rng [.blt .len [.v 2]]) [] (.tup [.ix (.v 2) (.v 0),.call 15 [.v 3,.bin .add (.e_ 4) (.v 0),.v 1],.f_ "wbme"])),.loop U [3] (.rng [.call 13 [.v 0,.e_ 2,.e_ 20011,.e_ 6]]) iB,.ret (.blt .tuple [.v 4])]
def b19:O Sx:=[.ret (.sl (.call 15 [.v 0,.v 1,.v 2]) L (Y (.e_ 2)))]
def b20:O Sx:=[.set 1 (.ix (.lst [.e_ 3,.e_ 6,.e_ 63]) (.call 13 [.v 0,.e_ 2,.e_ 30011,.e_ 3])),.set 2 (.lst [.tup [],.tup [],.tup [],.tup []]),.ifs (.cmp .eq (.call 13 [.v 0,.e_ 3,.e_ 30013,.e_ 3]) (.e_ 0)) [.mut .seti 2 [.call 19 [.v 0,.e_ 25,.v 1],.e_ 0],.ifs (.cmp .eq (.call 13 [.v 0,.e_ 3,.e_ 30029,.e_ 2]) (.e_ 0)) [.mut .seti 2 [.call 19 [.v 0,.e_ 26,.v 1],.e_ 1]] []] [],.set 3 (.lst []),.ifs (.cmp .eq (.call 13 [.v 0,.e_ 3,.e_ 30047,.e_ 3]) (.e_ 0)) [.set 4 (.bin .add (.e_ 1) (.call 13 [.v 0,.e_ 3,.e_ 30059,.e_ 3])),.ifs (.cmp .eq (.call 13 [.v 0,.e_ 3,.e_ 30071,.e_ 6]) (.e_ 0)) [.set 4 (.bin .add (.e_ 1) (.call 13 [.v 0,.e_ 3,.e_ 30089,.e_ 10]))] [],.set 3 (.comp 1 U [1,0] (.rng [.v 4]) [] (.bin .add (.e_ 1) (.call 13 [.v 2,.e_ 27,.bin .add (.e_ 30091) (.bin .mul (.e_ 22) (.v 0)),.v 1]))),.mut .seti 2 [.call 19 [.v 0,.e_ 28,.v 1],.e_ 2],.mut .seti 2 [.call 19 [.v 0,.e_ 29,.v 1],.e_ 3]] [],.ret (.tup [.call 18 [.v 0,.v 1],.blt .tuple [.v 2],.blt .tuple [.v 3]])]
def b21:O Sx:=[.unp [2,3,4] (.v 1),.set 5 (.ix (.ix (.v 0) (.e_ 1)) (.e_ 0)),.set 6 (.ix (.ix (.v 0) (.e_ 1)) (.e_ 1)),.set 7 (.sl (.lst [.f_ "out",.f_ "let"]) L (Y (.bin .add (.e_ 1) (.blt .int [.cmp .gt (.blt .len [.ix (.v 0) (.e_ 2)]) (.e_ 0)])))),.set 8 (.lst []),.loop U [9] (.itv (.bin .add (.v 7) (.lst [.f_ "in"]))) [.loop J [10,11] (.itv (.lst [.tup [.f_ "w",.f_ "done"],.tup [.f_ "b",.f_ "in"],.tup [.f_ "m",.f_ "in"],.tup [.f_ "e",.f_ "done"]])) Zv],.ifs (.cmp .eq (.blt .len [.v 6]) (.e_ 0)) [.oM 8] [],.loop U [9] (.itv (.v 7)) Zp,.loop J [10,11] (.itv (.lst [.tup [.f_ "m",.f_ "all"],.tup [.f_ "e",.f_ "done"]])) abx,.oM 8]
def b22:O Sx:=[.set 1 (.ix (.v 0) (.e_ 1)),.set 2 (.lst [.tup [.f_ "out",.f_ " ",.tup [.e_ 0],.f_ "out"],.tup [.f_ "done",.f_ " ",.tup [.e_ 0],.f_ "out"],.tup [.f_ "num",.f_ " ",.tup [.e_ 0],.f_ "out"]]),.loop U [3] (.rng [.blt .len [.ix (.v 0) (.e_ 2)]]) VO,.ifs (.cmp .gt (.blt .len [.ix (.v 0) (.e_ 2)]) (.e_ 0)) [.mut .app 2 [.tup [.f_ "num",.f_ "",.ix (.v 1) (.e_ 3),.f_ "let"]]] [],.loop U [5] (.itv (.ix (.v 0) (.e_ 0))) [.mut .ext 2 [.call 21 [.v 0,.v 5]]],.oM 2]
def b23:O Sx:=[.set 1 (.cat (.lst [.f_ " "]) (.comp 1 U [] (.rng [.blt .len [.ix (.v 0) (.e_ 2)]]) [] (.blt .str [.v 0]))),.loop U [2] (.itv (.ix (.v 0) (.e_ 0))) Zl,.oM 1]
def b24:O Sx:=[.set 3 (.call 23 [.v 1]),.set 3 (.bin .add (.v 3) (.sl (.v 3) (Y (.e_ 1)) L)),.ret (.lj .join (.f_ "") [.comp 1 U [0,3] (.rng [.v 2]) [] (.ix (.v 2) (.call 13 [.v 1,.bin .add (.e_ 31) (.v 0),.e_ 35023,.blt .len [.v 2]]))])]
def b25:O Sx:=[.set 2 (.comp 1 U [] (.rng [.bin .add (.blt .len [.v 1]) (.e_ 1)]) [] .rj),.loop U [3] (.itv (.lst [.f_ "out",.f_ "done",.f_ "num"])) [.RV 2 (.blt .len [.v 1]) (.v 3) (.e_ 0)],.loop U [4] (.rng [.bin .add (.blt .len [.v 1]) (.e_ 1)]) [.set 5 (.bin .sub (.blt .len [.v 1]) (.v 4)),.loop U [6] (.itv (.bin .add (.v 0) (.v 0))) Zk],.oM 2]
def b26:O Sx:=[.set 4 (.call 25 [.v 2,.v 3]),.set 5 (.e_ 0),.set 6 (.f_ "out"),.set 7 (.lst []),.SX (.cmp .lt (.v 5) (.blt .len [.v 3])) N7,.oM 7]
def b27:O Sx:=[.set 1 (.tup []),.loop U [2] (.itv (.v 0)) [.set 1 (.bin .add (.v 1) (.ix (.v 2) (.e_ 2)))],.oM 1]
def b28:O Sx:=[.set 3 (.comp 1 U [] (.rng [.bin .add (.blt .len [.v 2]) (.e_ 1)]) [] (.lst [])),.Jh 3 (.e_ 0) (.tup [.e_ 0,.f_ "out"]),.loop U [4] (.rng [.blt .len [.v 2]]) lbT,.XX J [5,6] 3 (.blt .len [.v 2]) [.ifs (.and (.cmp .eq (.v 5) (.blt .len [.v 1])) (.cmp .isin (.v 6) (.lst [.f_ "out",.f_ "done",.f_ "num"]))) [.ret (.con (.bl U))] []],.ret (.con (.bl J))]
def b29:O Sx:=[.set 1 (.lst []),.ifs (.CO [(158,J)] (.v 0)) [.mut .app 1 [.tup [.f_ "sign",.GW [158] (ae "place") (.v 0)]]] [],.ifs (.CO [(158,U)] (.v 0)) [.mut .app 1 [.tup [.f_ "reading",.GW [158] (ae "place") (.v 0)]]] [],.ifs (.CO [(158,J)] (.v 0)) [.mut .app 1 [.tup [.f_ "lines",.e_ 0]]] [],.ifs (.or (.CO [(158,J)] (.v 0)) (.or (.CO [(158,J)] (.v 0)) (.CO [(158,J)] (.v 0)))) [.mut .app 1 [.tup [.f_ "other",.e_ 0]]] [],.ifs (.or (.CO [(158,J)] (.v 0)) (.or (.CO [(158,J)] (.v 0)) (.CO [(158,J)] (.v 0)))) [.mut .app 1 [.tup [.f_ "other",.e_ 0]]] [],.ifs (.or (.CO [(158,J)] (.v 0)) (.or (.CO [(158,J)] (.v 0)) (.CO [(158,J)] (.v 0)))) [.mut .app 1 [.tup [.f_ "other",.e_ 0]]] [],.ifs (.or (.cmp .ne (.blt .len [.v 1]) (.e_ 1)) (.or (.not (.CO [(158,U)] (.v 0))) (.not (.call 14 [.ix (.ix (.v 1) (.e_ 0)) (.e_ 1)])))) [.ret (.tup [.f_ "unlike",.e_ 0])] [],.ret (.ix (.v 1) (.e_ 0))]
def b30:O Sx:=[.set 3 (.call 13 [.v 0,.v 1,.e_ 40009,.e_ 7]),.set 4 (.call 13 [.v 0,.bin .add (.v 1) (.e_ 1),.e_ 40013,.bin .add (.blt .len [.v 2]) (.e_ 1)]),.set 5 (.ix (.lst [.call 13 [.v 0,.bin .add (.v 1) (.e_ 2),.e_ 40031,.e_ 64],.e_ 0,.e_ 1]) (.call 13 [.v 0,.bin .add (.v 1) (.e_ 2),.e_ 40037,.e_ 3])),.ifs (.cmp .eq (.v 3) (.e_ 0)) [.ret (.bin .add (.bin .add (.sl (.v 2) L (Y (.v 4))) (.tup [.v 5])) (.sl (.v 2) (Y (.bin .add (.v 4) (.e_ 1))) L))] [],.ifs (.cmp .eq (.v 3) (.e_ 1)) [.ret (.bin .add (.sl (.v 2) L (Y (.v 4))) (.sl (.v 2) (Y (.bin .add (.v 4) (.e_ 1))) L))] [],.ifs (.cmp .eq (.v 3) (.e_ 2)) [.ret (.bin .add (.bin .add (.sl (.v 2) L (Y (.v 4))) (.tup [.v 5])) (.sl (.v 2) (Y (.v 4)) L))] [],.ifs (.cmp .eq (.v 3) (.e_ 3)) [.ret (.bin .add (.bin .add (.sl (.v 2) L (Y (.v 4))) (.sl (.v 2) (Y (.v 4)) (Y (.bin .add (.v 4) (.e_ 1))))) (.sl (.v 2) (Y (.v 4)) L))] [],.ifs (.cmp .eq (.v 3) (.e_ 4)) [.ret (.sl (.v 2) L (Y (.v 4)))] [],.oM 2]
def b31:O Sx:=[.set 3 (.e_ 0),.SX c31 JB,.oM 3]
def b32:O Sx:=[.set 2 (.comp 1 U [] (.rng [.bin .add (.blt .len [.v 1]) (.e_ 1)]) [] (.lst [])),.Jh 2 (.e_ 0) (.f_ "out"),.set 3 (.e_ 0),.loop U [4] (.rng [.blt .len [.v 1]]) [.loop U [5] (.itv (.v 0)) lbX],.loop U [7] (.itv (.lst [.f_ "out",.f_ "done",.f_ "num"])) Qd,.ret (.tup [.f_ "reading",.v 3])]
def b33:O Sx:=[.set 3 (.con .non),.set 4 (.f_ ""),.XF 4 11 [.v 0,.v 2] 3 5 [158],.ifs (.cmp .nisn (.v 3) (.con .non)) [.ret (.call 29 [.v 3])] [],.ifs (.and (.blt (.isi .str) [.v 4]) (.call 28 [.v 1,.v 4,.v 2])) [.ret (.tup [.f_ "read",.e_ 0])] [],.ret (.tup [.f_ "odd",.e_ 0])]
def b34:O Sx:=[.set 1 (.call 20 [.v 0]),.set 2 (.call 22 [.v 1]),.set 3 (.call 24 [.v 0,.v 1,.call 13 [.v 0,.e_ 2,.e_ 35027,.e_ 15]]),.set 4 (.call 27 [.call 26 [.v 0,.e_ 31,.v 2,.v 3]]),.set 5 (.call 30 [.v 0,.e_ 46,.call 30 [.v 0,.e_ 49,.v 4]]),.ifs (.cmp .eq (.call 13 [.v 0,.e_ 30,.e_ 40039,.e_ 4]) (.e_ 0)) [.set 6 (.ix (.lst [.e_ 3,.e_ 4,.e_ 7,.e_ 64]) (.call 13 [.v 0,.e_ 30,.e_ 40063,.e_ 4])),.set 5 (.blt .tuple [.comp 1 U [6,0] (.rng [.call 13 [.v 0,.e_ 46,.e_ 40093,.e_ 13]]) [] (.call 13 [.v 2,.bin .add (.e_ 47) (.v 0),.e_ 40087,.v 1])])] [],.loop U [7] (.itv (.lst [.v 5,.v 4,.v 5])) lbA,.ret (.con (.bl U))]
def d0:Df:=⟨top 20,1,1,b0,L⟩
def d1:Df:=⟨top 21,0,0,b1,L⟩
def d2:Df:=⟨top 22,2,5,b2,L⟩
def d3:Df:=⟨top 23,1,8,b3,L⟩
def d4:Df:=⟨top 24,2,2,b4,L⟩
def d5:Df:=⟨top 25,2,10,b5,L⟩
def d6:Df:=⟨top 26,1,4,b6,L⟩
def d7:Df:=⟨top 27,1,4,b7,L⟩
def d8:Df:=⟨top 29,3,4,b8,L⟩
def d9:Df:=⟨top 30,4,7,b9,L⟩
def d10:Df:=⟨top 31,2,5,b10,L⟩
def d11:Df:=⟨top 32,2,7,XZ,(Y (158,ae "place",.v 4))⟩
def d12:Df:=⟨top 34,2,2,b12,L⟩
def d13:Df:=⟨top 35,4,5,b13,L⟩
def d14:Df:=⟨top 36,1,1,b14,L⟩
def d15:Df:=⟨top 37,3,4,b15,L⟩
def d16:Df:=⟨top 38,1,4,b16,L⟩
def d17:Df:=⟨top 39,4,8,b17,L⟩
def d18:Df:=⟨top 40,2,7,b18,L⟩
def d19:Df:=⟨top 41,3,3,b19,L⟩
def d20:Df:=⟨top 42,1,5,b20,L⟩
def d21:Df:=⟨top 43,2,12,b21,L⟩
def d22:Df:=⟨top 44,1,6,b22,L⟩
def d23:Df:=⟨top 45,1,3,b23,L⟩
def d24:Df:=⟨top 46,3,4,b24,L⟩
def d25:Df:=⟨top 47,2,9,b25,L⟩
def d26:Df:=⟨top 48,4,11,b26,L⟩
def d27:Df:=⟨top 49,1,3,b27,L⟩
def d28:Df:=⟨top 50,3,11,b28,L⟩
def d29:Df:=⟨top 51,1,2,b29,L⟩
def d30:Df:=⟨top 52,3,6,b30,L⟩
def d31:Df:=⟨top 53,3,4,b31,L⟩
def d32:Df:=⟨top 54,2,8,b32,L⟩
def d33:Df:=⟨top 55,3,6,b33,L⟩
def d34:Df:=⟨top 56,1,8,b34,L⟩
def D:O Df:=[d0,d1,d2,d3,d4,d5,d6,d7,d8,d9,d10,d11,d12,d13,d14,d15,d16,d17,d18,d19,d20,d21,d22,d23,d24,d25,d26,d27,d28,d29,d30,d31,d32,d33,d34]
noncomputable def con:O (aa×Dat):=[(ae "FIGURES",(.str (ae "0123456789"))),(ae "STATES",(.tup [(.str (ae "out")),(.str (ae "in")),(.str (ae "done")),(.str (ae "num")),(.str (ae "let")),(.str (ae "all"))])),(ae "END_STATES",(.tup [(.str (ae "out")),(.str (ae "done")),(.str (ae "num"))])),(ae "WAYS",(.tup [(.tup [(.str (ae "w")),(.str (ae "out")),(.str (ae "done"))]),(.tup [(.str (ae "w")),(.str (ae "let")),(.str (ae "done"))]),(.tup [(.str (ae "b")),(.str (ae "out")),(.str (ae "in"))]),(.tup [(.str (ae "b")),(.str (ae "let")),(.str (ae "in"))]),(.tup [(.str (ae "m")),(.str (ae "in")),(.str (ae "in"))]),(.tup [(.str (ae "e")),(.str (ae "in")),(.str (ae "done"))])])),(ae "ALL_GREAT_WAYS",(.tup [(.tup [(.str (ae "w")),(.str (ae "out")),(.str (ae "done"))]),(.tup [(.str (ae "w")),(.str (ae "let")),(.str (ae "done"))]),(.tup [(.str (ae "b")),(.str (ae "out")),(.str (ae "all"))]),(.tup [(.str (ae "b")),(.str (ae "let")),(.str (ae "all"))]),(.tup [(.str (ae "m")),(.str (ae "all")),(.str (ae "all"))]),(.tup [(.str (ae "e")),(.str (ae "all")),(.str (ae "done"))])]))]
noncomputable def xg:Xg:=⟨[("NoReading",158,"place")],(["NoSign","NoLines","NoForm","NoLetter","NoMark","NoTable","NoEntry","NoLine","TooMany","Twice","Two"]:O aa).map (λx=>(x,[(158,J)]))++([("NoReading",[(158,U)]),("ValueError",[(158,U)])]:O (aa×O (T×cc))),[("place",[158])],[("DotError",[158])],["read"]⟩
def G:Sg:=Ka D con xg
def Y2:∀d∈D,Xy G d:=Vd (by kernel_rfl)
end K35
namespace K35
open L2 M
structure L7(f:Fm):Prop where
 ne:f.1≠[]
 low:∀c∈f.1,c∈wj
 ll:Z f.1<=6
 c1:0<Z f.2.1
 cl:Z f.2.1<=4
 pp:∃k,1<=k/\k<16/\f.2.2=XI k
abbrev Zy(i:cx):N2:=.inl (.inl i)
theorem v8:∀f:O cx,RU (f.map Dat.int)=Y (f.map Zy)
 |[]=>rfl
 |c::r=>by simp only[aI,RU,n2I,v8 r,bp,eA]
def Qr{a b:O cx}(e:a.map Zy=b.map Zy):a=b:=(Jb (λx y z=>AB (AB z))).mp e
end K35
namespace K35E
open L2 M K35
abbrev sT(l:O T):Dat:=.str (T' l)
def xA(h:be C a (full ρ)=Y (d,f)):dI C [.ret a] ρ=Y (.rt d f):=by
 show bu (jQ _ (be C a _)) _=_;rw[h];rfl
def dX(h:be C a (full ρ)=Y (d,f))(hi:im d=U):pv C (.set i a) ρ=Y (.nx (ρ.set i (Y (d,J)))):=by
 rw[zR]
 grind
def Kc(h:be C a (full ρ)=Y (.lst ds,U)):pv C (.set i a) ρ=Y (.nx (ρ.set i (Y (.lst ds,U)))):=by
 rw[zR,h];rfl
def Ev(C:Fs)(e:Ex)(ρ:gC)(P:Dat->Prop):Prop:=∃d f,be C e ρ=Y (d,f)/\im d=U/\P d
def Ei(C:Fs)(e:Ex)(ρ:gC)(P:T->Prop):Prop:=∃q f,be C e ρ=Y (.int (q:T),f)/\P q
def Go(C:Fs)(f:O Sx)(ρ:cT)(Q:Out->Prop):Prop:=∃o,dI C f ρ=Y o/\Q o
def Dw(C:Fs)(N:Dat):Prop:=∀k p m:cx,0<=k/\k<=1000->0<p->0<m->∃q:T,C 13 [N,.int k,.int p,.int m]=Y (.int (q:T),J)/\(q:cx)<m
section
def gm(hd:Dw C N)(h0:be C a ρ=Y (N,f))(h1:be C k ρ=Y (.int i,g))(h2:be C p ρ=Y (.int j,h))(h3:be C m ρ=Y (.int l,w))(hk:0<=i/\i<=1000)(hp:0<j)(B:0<l)(H:∀q:T,(q:cx)<l->P q):Ei C (.call 13 [a,k,p,m]) ρ P:=by
 obtain⟨q,r,b⟩:=hd i j l hk hp B;exact⟨q,J,by rwa[kc,cJ,h0,cJ,h1,cJ,h2,cJ,h3],H q b⟩
def WB(c:T)(h:Ei C e ρ P)(hp:∀q,P q->B (c+q)):Ei C (.bin .add (.con (.int (c:T))) e) ρ B:=by
 obtain⟨q,f,r,b⟩:=h;refine⟨_,J,?_,hp q b⟩;rw[oV,r];show Y (Dat.int _,J)=_;simp
def Ez(h:Ei C e ρ P)(hp:∀q,P q->f (1+q)):Ei C (.bin .add (.e_ 1) e) ρ f:=WB 1 h hp
def uC{b:T}(hd:Dw C N)(h0:be C a ρ=Y (N,f))(h1:be C k ρ=Y (.int i,g))(h2:be C p ρ=Y (.int j,h))(h3:be C m ρ=Y (.int l,w))(hk:0<=i/\i<=1000)(hp:0<j)(B:0<l)(hb:l<=b):Ei C (.bin .add (.e_ 1) (.call 13 [a,k,p,m])) ρ λv=>1<=v/\v<=b:=
 Ez (gm hd h0 h1 h2 h3 hk hp B λ_ h=>h) λq h=>by omega
def vm{is:O T}(B:be C x ρ=Y (.lst (is.map λi:T=>Dat.int i),f))(h:Ei C e ρ (·< Z is))(hp:∀q∈is,P q):Ei C (.ix x e) ρ P:=by
 obtain⟨q,g,r,a⟩:=h;refine⟨_,J,?_,hp _ (bA a)⟩;rw[GC,B,r];show((vp _ _).map _)=_;rw[jK (by rw[aV,ai a];rfl)];rfl
def uB(h:Ei C e ρ P)(j:cx):∃t f,be C (.cmp .eq e (.con (.int j))) ρ=Y (.bl t,f):=by
 obtain⟨q,f,r,_⟩:=h;exact⟨_,J,by rw[Eu,r];rfl⟩
def gn(h1:be C a ρ=Y (x',f))(h2:be C e ρ=Y (y,g))(h:kh o x' y=Y r):be C (.cmp o a e) ρ=Y (.bl r,J):=by rw[Eu,h2];simp_all
def fJ(h1:be C a ρ=Y (x',f))(h2:be C e ρ=Y (y,g))(h:iT o x' y=r):be C (.bin o a e) ρ=r:=by rwa[oV,h1,h2]
def ik(h1:be C a ρ=Y (x',f))(h:lr o [x']=r):be C (.blt o [a]) ρ=r:=by rwa[Ww,cJ,h1]
def Vv(h1:be C a ρ=Y (x',f))(h:jH o x' []=r):be C (.lj o a []) ρ=r:=by rwa[zT,h1]
def yr(h1:be C a ρ=Y (x',f))(h2:be C e ρ=Y (y,g))(h:Az x' y=Y d):be C (.ix a e) ρ=Y (d,J):=by rw[GC,h1,h2];show(Az x' y).map _=_;rw[h];rfl
def OJ(h1:be C a ρ=Y (x',f))(h2:be C e ρ=Y (.int i,g))(h:Jf x' L (Y i)=r):be C (.sl a L (Y e)) ρ=r:=by rw[yE,h1];show bu (r8 _) _=_;rwa[h2]
def OI(h1:be C a ρ=Y (x',f))(h2:be C e ρ=Y (.int i,g))(h:Jf x' (Y i) L=r):be C (.sl a (Y e) L) ρ=r:=by rw[yE,h1];show bu (r8 _) _=_;rwa[h2]
def wM(h1:be C a ρ=Y (x',f)):be C (.call q [a]) ρ=C q [x']:=by rw[kc,cJ,h1];rfl
def yK(h1:be C a ρ=Y (x',f))(h2:be C e ρ=Y (y,g)):be C (.call q [a,e]) ρ=C q [x',y]:=by rw[kc,cJ,h1,cJ,h2];rfl
def wL(h1:be C a ρ=Y (x',f))(h2:be C e ρ=Y (y,g))(h3:be C x ρ=Y (z,h)):be C (.call q [a,e,x]) ρ=C q [x',y,z]:=by rw[kc,cJ,h1,cJ,h2,cJ,h3];rfl
def mG(h:Ei C e ρ P):Ev C e ρ (λd=>∃q:T,d=.int (q:T)/\P q):=by
 obtain⟨q,f,r,b⟩:=h;exact⟨_,f,r,W,q,W,b⟩
def Et(h:be C a ρ=Y (.int i,f))(B:be C e ρ=Y (.int j,g))(hi:0<=i/\i<=1000):be C (.bin .mul a e) ρ=Y (.int (i * j),J):=by
 rw[oV,h,B];exact wR (Nv hi.1) (gv hi.2 cF)
def jO(h:be C a ρ=Y (.int i,f))(B:be C e ρ=Y (.int j,g)):be C (.bin .add a e) ρ=Y (.int (i+j),J):=by
 rw[oV,h,B];rfl
def n9{m:T}(h:be C e ρ=Y (.int (m:T),f))(B:m<=1000):CP C (.rng [e]) ρ=Y ((aX m).map λk:T=>Dat.int k):=by
 rw[QH,cJ,h];exact O5 (af B cF)
def Mp{F:O T}{P:T->Prop}(B:be C x ρ=Y (.lst (F.map λc=>sT [c]),f))(h:Ei C e ρ (·< Z F))(hl:∀c∈F,P c):∃c b,be C (.ix x e) ρ=Y (sT [c],b)/\P c:=by
 obtain⟨q,g,r,a⟩:=h;refine⟨_,J,?_,hl _ (bA a)⟩;rw[GC,B,r];show((vp _ _).map _)=_;rw[jK (by rw[aV,ai a];rfl)];rfl
def oX{α I:Type}{caps:O T}{it:Iw}{elt:Ex}{xs:O α}{e:α->Dat}(g:I->Dat)(P:α->I->Prop)(hi:CP C it ρ=Y (xs.map e))(hl:Z xs<=1000)(B:∀y,im (g y)=U)(h:∀x∈xs,∃y b,be C elt ((ki 1 caps ρ).set 0 (Y (e x)))=Y (g y,b)/\P x y):∃F:O I,be C (.comp 1 U caps it [] elt) ρ=Y (.lst (F.map g),U)/\Z F=Z xs/\(∀y∈F,∃x∈xs,P x y)/\∀x∈xs,∃y∈F,P x y:=by
 suffices ∃F:O I,sk (pz C 1 U (ki 1 _ ρ) [] _) _=Y _/\Z F=Z xs/\(∀y∈F,∃x∈xs,P x y)/\∀x∈xs,∃y∈F,P x y by
  obtain⟨F,a,b⟩:=this;exact⟨F,oW hi (by rw[aD];exact af hl cF) a,b⟩
 clear hi hl
 induction xs with
 |nil=>exact⟨[],W,W,(λ_ h=>nomatch h),(λ_ h=>nomatch h)⟩
 |cons x xs d=>
   refine ac λ_ i=>?_;obtain⟨y,b,hb,hp⟩:=h x jM;obtain⟨F,h1,h2,h3,f⟩:=d λz c=>h z (jY _ c);apply i;refine⟨y::F,?_,by simp_all,λz c=>?_,λz c=>?_⟩
   .rw[aI,sk,IG,hb,h1];simp[B y]
   .rcases aA.mp c with rfl|c
    .exact⟨x,jM,hp⟩
    simp_all
   .rcases aA.mp c with rfl|c
    .exact⟨y,jM,hp⟩
    simp_all
end
section
variable{C:Fs}{ρ:cT}{e:Ex}{ss:O Sx}{Q:Out->Prop}{P:Dat->Prop}{i:T}
def bN(h:pv C s ρ=Y (.nx f))(k:Go C ss f Q):Go C (s::ss) ρ Q:=by
 obtain⟨o,a,b⟩:=k;exact⟨o,by rwa[zj h],b⟩
def kM(h:Ev C e (full ρ) P)(k:∀d,P d->Go C ss (ρ.set i (Y (d,J))) Q):Go C (.set i e::ss) ρ Q:=by
 obtain⟨d,f,h1,h2,h3⟩:=h;exact bN (dX h1 h2) (k d h3)
def fG(h:be C e (full ρ)=Y (.lst ds,U))(k:Go C ss (ρ.set i (Y (.lst ds,U))) Q):Go C (.set i e::ss) ρ Q:=bN (Kc h) k
def jN(h:be C e (full ρ)=Y (d,f))(q:Q (.rt d f)):Go C [.ret e] ρ Q:=⟨_,xA h,q⟩
def bo(q:Q (.nx ρ)):Go C [] ρ Q:=⟨_,W,q⟩
def DU(hi:(ρ[i]?).join=Y (d,U))(he:pG C es (full ρ)=Y (ds,U))(B:mD op d ds=Y f):pv C (.mut op i es) ρ=Y (.nx (ρ.set i (Y (f,U)))):=by
 show((pG C es _).bind λx=>if x.2=U then Y8 op i ρ _ _ else L)=_;rw[he,hi];show(mD op d ds).map _=_;rw[B];rfl
def qX(h:Ev C e (full ρ) P)(hi:(ρ[i]?).join=Y (.lst ds,U))(hl:Z ds<1000000)(k:∀d,P d->Go C ss (ρ.set i (Y (.lst (ds++[d]),U))) Q):Go C (.mut .app i [e]::ss) ρ Q:=by
 obtain⟨d,f,h1,h2,h3⟩:=h;exact bN (DU hi (by rw[gH,h1];show Y _=_;simp_all) (qt hl)) (k d h3)
def Gf(hb:f d ρ=Y B)(h:body B=Y (.nx F)):iw f body (d::ds) ρ=iw f body ds F:=by
 simp only[iw,hb,bp,h];rfl
theorem wm{α:Type}{S:Dat->cT->ar cT}{body:O Sx}{V:α->Dat}{I:O α->cT->Prop}:∀(xs f:O α)(ρ:cT),(∀(us:O α)x(vs:O α)ρ,f++xs=us++x::vs->I us ρ->∃F,S (V x) ρ=Y F/\Go C body F λo=>∃B,o=.nx B/\I (us++[x]) B)->I f ρ->∃R,iw S (dI C body) (xs.map V) ρ=Y (.nx R)/\I (f++xs) R
 |[],f,ρ,_,h=>⟨ρ,W,by simp_all⟩
 |x::xs,f,ρ,hs,h=>by
   obtain⟨F,h1,_,h2,B,rfl,h3⟩:=hs f x xs ρ W h;obtain⟨R,a,b⟩:=wm xs (f++[x]) B (λus z vs ρ q=>hs us z vs ρ (by simp_all)) h3;rw[aI,Gf h1 h2]
   simp_all
def i4{α:Type}{one:cc}{O':O T}{it:Iw}{body:O Sx}{V:α->Dat}{xs:O α}{ρ0:cT}{I:O α->cT->Prop}(f:pv C (.loop one O' it body) ρ=iw (eO one O') (dI C body) (xs.map V) ρ0)(F:I [] ρ0)(hs:∀(us:O α)x(vs:O α)ρ,xs=us++x::vs->I us ρ->∃S,eO one O' (V x) ρ=Y S/\Go C body S λo=>∃B,o=.nx B/\I (us++[x]) B)(K:∀R,I xs R->Go C ss R Q):Go C (.loop one O' it body::ss) ρ Q:=by
 obtain⟨R,h1,h2⟩:=wm xs [] _ hs F;exact bN (by rwa[f]) (K _ h2)
def lM(he:be C e (full ρ)=Y (d,f))(hd:kL d=Y ds)(hf:(im d || f)=U):pv C (.loop one B (.itv e) body) ρ=iw (eO one B) (dI C body) ds ρ:=by
 rw[yD,he,bp,a5 hf,hd];rfl
def Ep{O':O T}{body:O Sx}{I:O T->cT->Prop}{P:T->Prop}(he:Ei C e (full ρ) P)(F:∀m,P m->m<=1000)(R:I [] ρ)(hs:∀m,P m->∀(us:O T)x(vs:O T)ρ,aX m=us++x::vs->I us ρ->∃S,eO U O' (.int (x:T)) ρ=Y S/\Go C body S λo=>∃B,o=.nx B/\I (us++[x]) B)(K:∀m,P m->∀ρ',I (aX m) ρ'->Go C ss ρ' Q):Go C (.loop U O' (.rng [e]) body::ss) ρ Q:=by
 obtain⟨m,f,he,a⟩:=he;exact i4 (by rw[sS,n9 he (F m a)];rfl) R (hs m a) (K m a)
def yv{J':cT->Prop}{A:O Sx}(h:∃t f,be C e (full ρ)=Y (.bl t,f))(B:Go C A ρ λo=>∃F,o=.nx F/\J' F)(I:J' ρ)(k:∀F,J' F->Go C ss F Q):Go C (.ifs e A []::ss) ρ Q:=by
 obtain⟨t,f,h⟩:=h;cases t
 .exact bN (by rw[LS h W];rfl) (k ρ I)
 .obtain⟨_,h1,F,rfl,h2⟩:=B;exact bN (by rwa[LR h W]) (k _ h2)
def zO{e1 e2 e3:Ex}{P:T->Prop}(h1:Ei C e1 (full ρ) P)(h2:∀v:T,∃t f,be C e2 (full (ρ.set i (Y (.int (v:T),J))))=Y (.bl t,f))(h3:∀v:T,Ei C e3 (full (ρ.set i (Y (.int (v:T),J)))) P)(K:∀v:T,P v->Go C ss (ρ.set i (Y (.int (v:T),J))) Q):Go C (.set i e1::.ifs e2 [.set i e3] []::ss) ρ Q:=by
 refine kM (mG h1) λd hd=>?_;obtain⟨v,rfl,b⟩:=hd;refine yv (J':=λc=>∃v:T,P v/\c=ρ.set i (Y (.int (v),J))) (h2 v) (kM (mG (h3 v)) λd hd=>?_) ⟨v,b,W⟩ λc h=>?_
 .obtain⟨w,rfl,a⟩:=hd;exact bo ⟨_,W,w,a,List.set_set _⟩
 .obtain⟨w,a,rfl⟩:=h;exact K w a
def iN{A B:O Sx}{b:cc}{f:cc}{J':cT->Prop}(h:be C e (full ρ)=Y (.bl b,f))(R:b=U->Go C A ρ λo=>∃I,o=.nx I/\J' I)(F:b=J->Go C B ρ λo=>∃I,o=.nx I/\J' I)(k:∀I,J' I->Go C ss I Q):Go C (.ifs e A B::ss) ρ Q:=by
 cases b
 .obtain⟨_,h1,I,rfl,h2⟩:=F W;exact bN (by rwa[LS h W]) (k _ h2)
 .obtain⟨_,h1,I,rfl,h2⟩:=R W;exact bN (by rwa[LR h W]) (k _ h2)
end
def sD(h:be C e (full ρ)=Y (.bl U,f))(F:dI C A ρ=Y (.rt d g))(q:Q (.rt d g)):Go C (.ifs e A B::ss) ρ Q:=⟨_,by rw[uY (by rwa[LR h W])],q⟩
def jg(h:be C e (full ρ)=Y (.bl J,f))(k:Go C ss ρ Q):Go C (.ifs e A []::ss) ρ Q:=bN (by rw[LS h W];rfl) k
def ph{ds:O Dat}(B:Z ds=np)(h:Go (Cn D n) body (ds.map (λd=>Y (d,J))++bb (nl - np) L) λo=>o=.rt d b):QG (Cn D n) np nl body ds=Y (d,b):=by
 obtain⟨_,h1,rfl⟩:=h;exact fT B h1
def Kp{ns:O cx}:∃c:cx,Cn D (n+1) 12 [.lst (ns.map Dat.int),.int (k:T)]=Y (.int c,J):=by
 have hl:lr .len [.lst (ns.map Dat.int)]=Y (.int (ns.length),J):=by simp
 by_cases h:k<Z ns
 .refine⟨ns[k],ph W (sD (gn W (ik W hl) (c8 Y (c0 ((uJ.mpr h))))) (xA (yr W rfl (jK (by simp_all)))) W)⟩
 .exact⟨0,ph W (jg (gn W (ik W hl) (c8 Y (c4 ((λz=>(vG z (ie.mpr (cj h)))))))) (jN W rfl))⟩
def IE(hc:C 12 [N,.int k]=Y (.int c,J))(k1:0<=k)(k2:k<=1000)(hp:0<p)(f:0<m):Go C b13 [Y (N,J),Y (.int k,J),Y (.int p,J),Y (.int m,J),L] λo=>o=.rt (.int ((c * 48271+7919 * k * k+11) % p * 7919 % 999983 % m)) J:=by
 exact bN (dX (fJ (fJ (fJ (fJ hc W (rm cF cF)) (fJ (fJ W rfl (wR cF cF)) W (rm (Nv k1) (gv k2 cF))) W) W rfl) W (oY hp)) W) (jN (fJ (fJ (fJ W rfl (rm cF cF)) W (oY cF)) W (oY f)) W)
def dw{ns:O cx}:Dw (Cn D (n+2)) (.lst (ns.map Dat.int)):=λk p m hk hp a=>by
 obtain⟨j,b⟩:=ko hk.1;obtain⟨c,hc⟩:=Kp;rw[<-b]at hc;have h:=IE hc hk.1 hk.2 hp a;generalize e:(c * 48271+7919 * k * k+11) % p * 7919 % 999983=y at h;have f:y % m<m:=UV _ a;obtain⟨q,d⟩:=ko (RA _ (Int.ne_of_gt a));rw[d]at f h;exact⟨q,ph W h,f⟩
def QQ{C:Fs}{ρ:gC}{α:Type}{caps:O T}{it:Iw}{c:Ex}{xs:O α}{e:α->Dat}(p:α->cc)(hi:CP C it ρ=Y (xs.map e))(hl:Z xs<=1000)(B:∀x,im (e x)=U)(h:∀x∈xs,∃f,be C c ((ki 1 caps ρ).set 0 (Y (e x)))=Y (.bl (p x),f))(F:∀d:Dat,be C (.v 0) ((ki 1 caps ρ).set 0 (Y d))=Y (d,J):=by intro;rfl):be C (.comp 1 U caps it [c] (.v 0)) ρ=Y (.lst ((xs.filter p).map e),U):=by
 apply oW hi (by rw[aD];exact af hl cF);clear hi hl
 induction xs with
 |nil=>rfl
 |cons x xs a=>
   obtain⟨f,hf⟩:=h x jM;rw[aI,sk,MJ hf W,a λy b=>h y (jY _ b),F];cases q:p x<;>simp[q,B]
abbrev Ed:=aa×O T×O cx×aa
abbrev cY(e:Ed):Dat:=.tup [.str e.1,.str (T' e.2.1),.tup (e.2.2.1.map Dat.int),.str e.2.2.2]
abbrev My(e:Ed):O NK:=[.inl (.inr e.1),.inl (.inr (T' e.2.1)),.inr (e.2.2.1.map Zy),.inl (.inr e.2.2.2)]
def RT(e:Ed):Vm (cY e)=Y (My e):=by
 simp only[Vm,XM,nkI,v8,eA,bp]
theorem Lg:∀es:O Ed,xC (es.map cY)=Y (es.map My)
 |[]=>rfl
 |e::es=>by
   rw[aI,xC,RT,Lg es];rfl
theorem allI:∀l:O cx,(l.map Zy).all sI=U
 |[]=>rfl
 |a::r=>by rw[aI,eB,allI r];rfl
noncomputable abbrev shE:O (O T):=[[1],[1],[2],[1]]
def x8(e:Ed):(My e).map sN=shE:=by
 simp only[aI,List.map_nil,sN,allI,eu]
abbrev Jj(e:Ed):O (O (O cx)):=codeN (My e)
def J2(es:O Ed):O Dat:=(mf xD (es.map Jj)).map (EA shE)
def RR(e:Ed):∀x∈My e,Br (sN x)=U:=λx a=>by
 have:sN x∈(My e).map sN:=dh a;rw[x8]at this;exact bh.mp cF _ this
def WH(e:Ed):EA shE (Jj e)=cY e:=by
 have:=GI (RT e) (RR e);rwa[x8]at this
def MQ(h:Jj a=Jj b):a=b:=by
 have h1 :=code_inj ((x8 a).trans (x8 b).symm) (RR a) h;simp only[My,gu,Sum.inl.injEq,Sum.inr.injEq,and_true]at h1;obtain⟨h1,h2,h3,c⟩:=h1;exact E3 h1 (E3 (Z9 h2) (E3 (Qr h3) c))
def DS{α:Type}[BEq α][LawfulBEq α]{l f:O α}(B:l.Nodup)(h:∀x∈l,x∈f):Z l<=Z f:=by
 induction l generalizing f with
 |nil=>exact aU _
 |cons a r c=>
   have ha:=h a jM;have:=c (a6.mp B).2 λx b=>(List.mem_erase_of_ne (λe:x=a=>(a6.mp B).1 (e▸b))).mpr (h x (jY _ b))
   grind
def TN(es:O Ed):∃E:O Ed,J2 es=E.map cY/\E.Nodup/\(∀e,e∈E↔e∈es)/\Z E<=Z es:=by
 have a:∀l:O (O (O (O _))),(∀c∈l,∃e:Ed,c=Jj e)->l.Nodup->∃E:O Ed,l=E.map Jj/\E.Nodup:=λl=>by
  induction l with
  |nil=>intro _ _;exact⟨[],W,fL⟩
  |cons c r d=>
    intro h b;obtain⟨e,rfl⟩:=h c jM;obtain⟨E,h1,h2⟩:=d (λc hc=>h c (jY _ hc)) (a6.mp b).2;refine⟨_,by rw[h1];rfl,a6.mpr ⟨λm=>(a6.mp b).1 ?_,h2⟩⟩;rw[h1];exact dh m
 obtain⟨E,h1,h2⟩:=a (mf xD _) (λc hc=>by
  obtain⟨e,_,rfl⟩:=bZ.mp ((kK BD).mp hc)
  exact⟨e,W⟩) (sj BD (n8 BD _))
 refine⟨E,?_,h2,λe=>?_,?_⟩
 .unfold J2;rw[h1,dM];exact dY λe _=>WH e
 .have:=kK BD (z:=Jj e) (l:=es.map Jj);rw[h1]at this;constructor
  .intro h;obtain⟨f,he,q⟩:=bZ.mp (this.mp (dh h));rwa[<-MQ q]
  .intro h;obtain⟨f,he,q⟩:=bZ.mp (this.mpr (dh h));rwa[<-MQ q]
 .have:=DS (sj BD (n8 BD (es.map Jj))) λx g=>(kK BD).mp g;rwa[h1,aD,aD]at this
def S4(es:O Ed):Z (mf xD (es.map Jj))<=Z es:=by
 have:=DS (sj BD (n8 BD (es.map Jj))) λx a=>(kK BD).mp a
 simp_all
def Oq{es:O Ed}(hl:Z es<=300)(B:es≠[]):lr .sset [.lst (es.map cY)]=Y (.lst (J2 es),U):=by
 cases es with
 |nil=>exact absurd rfl B
 |cons e r=>
   have hs:Jg ((e::r).map My)=shE:=x8 e
   have h3:(((e::r).map My).all λk=>decide (k.map sN=Jg ((e::r).map My)))=U:=by
    rw[bh];intro k hk;obtain⟨q,_,rfl⟩:=bZ.mp hk;rw[hs];exact c0 (x8 q)
   show(xC _).bind x6=_;rw[Lg];show x6 _=_;unfold x6 K4;rw[a5 ⟨by rw[aD];omega,by rfl,by rw[hs];rfl,h3,by rw[dM];exact af (S4 _) hl⟩,hs,dM];rfl
structure Tb where
 fs:O Fm
 m0:O cx
 m1:O cx
 m2:O cx
 m3:O cx
 fg:O cx
structure K5(t:Tb):Prop where
 ho:∀f∈t.fs,L7 f
 hl:Z t.fs<=12
 h0:Z t.m0<=2
 h1:Z t.m1<=2
 h2:Z t.m2<=2
 h3:Z t.m3<=2
 hf:Z t.fg<=10
abbrev Nr(t:Tb):Dat:=.tup [tI t.m0,tI t.m1,tI t.m2,tI t.m3]
abbrev tb(t:Tb):Dat:=.tup [.tup (t.fs.map jh),Nr t,tI t.fg]
def Le(m:O cx):kh .ne (tI m) (.tup [])=Y (!m.isEmpty):=by
 cases m with
 |nil=>rfl
 |cons a r=>
   rw[abg (p5 19 _) W];rfl
def Mv(m:O cx):kh .eq (tI m) (.tup [])=Y m.isEmpty:=by
 cases m with
 |nil=>rfl
 |cons a r=>
   rw[Wy (p5 19 (a::r)) W];rfl
def gQ(m:O cx):lr .len [tI m]=Y (.int (m.length:T),J):=by rw[EG,aD]
def mY(m:O cx):im (tI m)=U:=sy m
def qh(a b:O cx)(h:Z a+Z b<=1000):iT .add (tI a) (tI b)=Y (tI (a++b),J):=by
 rw[EH (by rw[aD,aD];exact af h cF),<-dB]
noncomputable abbrev jw:aa:=ae "out"
noncomputable abbrev lz:aa:=ae "let"
def LQ(a b c:aa)(m:O cx):im (.tup [.str a,.str b,tI m,.str c])=U:=by
 simp[im,mR,(sy m)]
def upB:(wj.all λc=>decide (uH c=[c - 32]))=U:=by kernel_rfl
def up1(h:c∈wj):uH c=[c - 32]:=c5 (bh.mp upB c h)
def KH(u:O T)(f:T->O T):(AD (T' u) λ_ c=>f c)=(u.flatMap f).toArray:=by
 apply Array.ext';simp only[AD];rw[Array.toList_flatten,Array.toList_mapIdx]
 have e:∀(u:O _),(u.mapIdx λ_ c=>(f c).toArray)=u.map λc=>(f c).toArray:=λu=>by
  apply lD<;>simp
 rw[e,dM]
 congr 1
def ze(h:∀c∈u,c∈wj)(hl:Z u<=1000):jH .upper (.str (T' u)) []=Y (.str (T' (u.map (·- 32))),J):=by
 show(if(T' u).length<=1000000 then Y (Dat.str (tF _),J)else L)=_;rw[uG,a5 (af hl cF)]
 have:tF (T' u)=T' (u.map (·- 32)):=by
  show(⟨AD _ _⟩:aa)=_;rw[KH];show T' _=T' _
  congr 1
  clear hl
  induction u with
  |nil=>rfl
  |cons a r b=>
    rw[Jy,up1 (h a jM),b λc m=>h c (jY _ m)];rfl
 rw[this]
def L6(l:O T):O T:=(T' [l.headD 0 - 32]++dv (T' l) (Y 1) L).cps.toList
def BP(ho:L7 f):∃(B:T) (C:aa),Az (.str (T' f.1)) (.int 0)=Y (.str (T' [B]))/\jH .upper (.str (T' [B])) []=Y (.str (T' [B - 32]),J)/\Jf (.str (T' f.1)) (Y 1) L=Y (.str C,J)/\iT .add (.str (T' [B - 32])) (.str C)=Y (.str (T' (L6 f.1)),J):=by
 obtain⟨B,d,hc⟩:∃c r,f.1=c::r:=by
  cases q:f.1 with
  |nil=>exact absurd q ho.ne
  |cons c r=>exact⟨c,r,W⟩
 have b :=ho.low B (by simp_all);refine⟨B,dv (T' _) _ L,?_,ze (λc hc=>by simp_all) (by simp),a5 (af ho.ll cF),?_⟩
 .rw[hc];exact V5 (by rw[<-hc];exact af ho.ll cF) (by simp)
 .have a:(T' _).length=f.1.length:=uG _;have e:(T' [B - 32]).length=1:=uG _;have hh:f.1.headD 0=B:=by rw[hc];rfl
  show(if(T' [B - 32]).length+(dv (T' f.1) (Y 1) L).length<=aJ then Y (Dat.str (T' [B - 32]++dv (T' f.1) (Y 1) L),J)else L)=_;rw[a5 (by rw[e,mS];exact wc (AF (T' f.1) _ L) (ag a) ho.ll)];unfold L6;rw[hh]
abbrev uT(l:O T):O T:=l.map (·- 32)
abbrev vt:aa:=ae "all"
noncomputable abbrev jq:aa:=ae "done"
theorem Eh:∀es:O Ed,mR (es.map cY)=U
 |[]=>rfl
 |e::es=>by rw[aI,mR,LQ,Eh es];rfl
def JG(ho:L7 f):jH .upper (.str (T' f.1)) []=Y (.str (T' (uT f.1)),J):=ze ho.low (af ho.ll cF)
abbrev mK:aa:=ae "num"
abbrev FIG:aa:=ae "0123456789"
noncomputable def QC:O T:=[48,49,50,51,52,53,54,55,56,57]
noncomputable def GU:O Ed:=[("out",[32],[0],"out"),("done",[32],[0],"out"),("num",[32],[0],"out")]
noncomputable abbrev qN:aa:=ae "in"
def PW:ae "w"=T' [119]:=by decide +kernel
def PB:ae "b"=T' [98]:=by decide +kernel
def PE:ae "e"=T' [101]:=by decide +kernel
def uA(e:Ed):im (cY e)=U:=LQ ..
def WC(es:O Ed)(e:Ed):es.map cY++[cY e]=(es++[e]).map cY:=by simp
theorem hJ{α f:Type}{g:α->O f}{m:T}:∀{l:O α},(∀x∈l,Z (g x)<=m)->Z (l.flatMap g)<=m * Z l
 |[],_=>by simp
 |a::r,h=>by
   rw[Jy,aj,cg,Nat.mul_add];have:=h a jM;have:=hJ λx b=>h x (jY _ b);omega
def ite_le{α:Type}{x y:O α}(h1:Z x<=n)(h2:Z y<=n):Z (if b=U then x else y)<=n:=by
 split
 .exact h1
 .exact h2
def KG{α:Type}{l us vs:O α}{x:α}(h:l=us++x::vs):Z us<Z l:=by
 rw[h,aj];exact bc (aZ _ _)
section
variable{es:O Ed}
def lR(h1:be C a ρ=Y (.str e.1,f1))(h2:be C b ρ=Y (sT e.2.1,f2))(h3:be C c ρ=Y (tI e.2.2.1,f))(B:be C d ρ=Y (.str e.2.2.2,f4)):Ev C (.tup [a,b,c,d]) ρ (·= cY e):=
 ⟨_,_,by rw[zS,gH,h1,gH,h2,gH,h3,gH,B];rfl,uA e,W⟩
def abp(h:Ev C x ρ (·= d)):be C (.lst [x]) ρ=Y (.lst [d],U):=by
 obtain⟨_,b,ev,hi,rfl⟩:=h;rw[Mo,gH,ev];show Y _=_;rw[hi,mQ];rfl
def pq(h:Ev C x (full ρ) (·= cY e))(hi:(ρ[i]?).join=Y (.lst (es.map cY),U))(hl:Z es<1000)(k:Go C ss (ρ.set i (Y (.lst ((es++[e]).map cY),U))) Q):Go C (.mut .app i [x]::ss) ρ Q:=
 qX h hi (by rw[aD];exact af hl cF) λd hd=>by rwa[hd,WC]
def Qv(h:be C c (full ρ)=Y (.bl b,f'))(B:Ev C x (full ρ) (·= cY e))(hi:(ρ[i]?).join=Y (.lst (es.map cY),U))(f:ρ.set i (Y (.lst (es.map cY),U))=ρ)(hl:Z es<1000)(k:Go C ss (ρ.set i (Y (.lst ((es++if b=U then [e]else []).map cY),U))) Q):Go C (.ifs c [.mut .app i [x]] []::ss) ρ Q:=by
 refine iN (J':=λa=>a=ρ.set i (Y (.lst _,U))) h (λq=>?_) (λq=>bo ⟨_,W,?_⟩) λa e=>by rwa[e]
 .rw[a5 q];exact pq B hi hl (bo ⟨_,W,W⟩)
 simp_all
def Xi(h:be C a ρ=Y (.bl x,f))(B:be C b ρ=Y (.bl y,g)):∃g,be C (.and a b) ρ=Y (.bl (x && y),g):=by
 cases x
 .exact⟨J,fA h⟩
 .exact⟨g,by rwa[fA h]⟩
def or2(h:be C a ρ=Y (.bl x,f))(B:be C b ρ=Y (.bl y,g)):∃g,be C (.or a b) ρ=Y (.bl (x || y),g):=by
 cases x
 .exact⟨g,by rwa[Ms h]⟩
 .exact⟨J,Ms h⟩
end
noncomputable def W6:O (T×aa×aa):=[(119,"out","done"),(119,"let","done"),(98,"out","in"),(98,"let","in"),(109,"in","in"),(101,"in","done")]
def A6:O (T×aa×aa):=[(119,"out","done"),(119,"let","done"),(98,"out","all"),(98,"let","all"),(109,"all","all"),(101,"all","done")]
abbrev w6D(w:T×aa×aa):Dat:=.tup [sT [w.1],.str w.2.1,.str w.2.2]
noncomputable abbrev Iy(f:Fm)(w:T×aa×aa):O Ed:=if decide (w.1∈f.2.2)=U then [(w.2.1,f.1,f.2.1,w.2.2)]else []
abbrev E6(f:Fm):O Ed:=W6.flatMap (Iy f)
def Ek{α:Type}{b:cc}{e:α}:Z (if b=U then [e]else [])<=1:=ite_le (aq 1) (aU 1)
def Mz(f:Fm):Z (E6 f)<=6:=hJ λ_ _=>Ek
def LP{fs:O Fm}:(im (.tup (fs.map jh)) || J)=U:=by
 show(mR _ || J)=U;rw[nN];rfl
def HA{fs:O Fm}(hl:Z fs<=12):Cn D (n+1) 3 [.tup (fs.map jh)]=Y (.lst ((fs.flatMap E6).map cY),U):=by
 refine ph W ?_;refine fG W (i4 (I:=λus i=>∃b c m j k a,i=[Y (.tup _,J),Y (.lst ((us.flatMap E6).map cY),U),b,c,m,j,k,a]) (lM W rfl LP) ⟨_,_,_,_,_,_,W⟩ ?_ λi v=>by obtain⟨_,_,_,_,_,_,h⟩:=v;rw[h];exact⟨_,W,W⟩);rintro us f vs _ e ⟨_,_,_,j,k,a,rfl⟩;have h1:=hJ (l:=us) λf _=>Mz f;refine⟨_,W,i4 (V:=w6D) (xs:=W6) (I:=λws i=>∃j k a,i=[Y (.tup (fs.map jh),J),Y (.lst ((us.flatMap E6++ws.flatMap (Iy f)).map cY),U),Y (sT f.1,J),Y (tI f.2.1,J),Y (sT f.2.2,J),j,k,a]) (lM W rfl rfl) ⟨j,k,a,by rw[iJ,aL];rfl⟩ ?_ λi y=>by obtain⟨_,_,_,h⟩:=y;rw[h];exact bo ⟨_,W,_,_,_,_,_,_,by rw[di,cQ]⟩⟩;rintro ws w vs _ d ⟨_,_,_,rfl⟩;have h2:=hJ (g:=Iy f) (l:=ws) λ_ _=>Ek;have h3:Z ws<6:=KG d;exact⟨_,W,Qv (gn W rfl qW) (lR W rfl rfl rfl) W rfl (by grind) (bo ⟨_,W,_,_,_,by rw[di,cQ,<-aM];rfl⟩)⟩
def HE:Cn D (n+1) 1 []=Y (.lst (GU.map cY),U):=by
 exact rV (by kernel_rfl)
abbrev Nw(m:O cx)(e:Ed):Ed:=(e.1,L6 e.2.1,m++e.2.2.1,e.2.2.2)
theorem yu{m:O cx}(F:Z m<=2)(B:Dat):∀es:O Ed,(∀e∈es,∃f,L7 f/\e.2.1=f.1/\e.2.2.1=f.2.1)->sk (pz C 4 J (ki 4 [1] [Y B,Y (tI m)]) [] GX) (es.map cY)=Y ((es.map (Nw m)).map cY,U)
 |[],_=>rfl
 |e::es,h=>by
   obtain⟨f,hf,o,p⟩:=h e jM;obtain⟨l,n,i,j,k,g⟩:=BP hf;have hl:=hf.cl;obtain⟨d,b,ev,hi,rfl⟩:=lR (ρ:=[Y (.str e.1),Y (sT e.2.1),Y (tI e.2.2.1),Y (.str e.2.2.2),Y (tI m)]) (e:=Nw m e) (a:=.v 0) (b:=.bin .add (.lj .upper (.ix (.v 1) (.e_ 0)) []) (.sl (.v 1) (Y (.e_ 1)) L)) (c:=.bin .add (.v 4) (.v 2)) (d:=.v 3) W (fJ (Vv (yr W rfl (by rw[o];exact i)) j) (OI W rfl (by rw[o];exact k)) (by rw[<-o]at g;exact g)) (qh m e.2.2.1 (by rw[p];exact af (eC F hl) cF)) W
   have hc:pz C 4 J (ki 4 [1] [Y B,Y (tI m)]) [] GX (cY e)=Y (Y (cY (Nw m e),b)):=by
    show(be C GX [Y (.str e.1),Y (sT e.2.1),Y (tI e.2.2.1),Y (.str e.2.2.2),Y (tI m)]).map Y=_;rw[ev];rfl
   rw[aI];unfold sk;rw[yu F B es λe he=>h e (jY _ he)]
   simp_all
def HB{n:T}{m:O cx}(B:Z m<=2){es:O Ed}(h:∀e∈es,∃f,L7 f/\e.2.1=f.1/\e.2.2.1=f.2.1)(hl:Z es<=1000):Cn D (n+1) 4 [.lst (es.map cY),tI m]=Y (.lst ((es.map (Nw m)).map cY),U):=
 fT W (xA (oW W (by rw[aD];exact af hl cF) (yu B _ es h)))
noncomputable abbrev bg(f:Fm)(w:T×aa×aa):cc:=decide (w.1∈f.2.2) && (!decide ([w.1]=[119]) || decide (1<(f.1.length:cx)))
def sJ(m:O cx)(f:Fm)(w:T×aa×aa):O Ed:=if bg f w=U then [(w.2.1,uT f.1,(if(w.2.1 == vt)=U then []else m)++f.2.1,w.2.2)]else []
abbrev H6(m:O cx)(f:Fm):O Ed:=A6.flatMap (sJ m f)
def mF:Z (sJ m f w)<=1:=Ek
def Eo(m:O cx)(f:Fm):Z (H6 m f)<=6:=hJ λ_ _=>mF
def zv{n:T}{m:O cx}(B:Z m<=2){fs:O Fm}(ho:∀f∈fs,L7 f)(hl:Z fs<=12):Cn D (n+1) 5 [.tup (fs.map jh),tI m]=Y (.lst ((fs.flatMap (H6 m)).map cY),U):=by
 refine ph W ?_;generalize Cn D n=C;refine fG W (i4 (I:=λus ρ=>∃p k A j d i c,ρ=[Y (.tup _,J),Y _,Y (.lst ((us.flatMap (H6 m)).map cY),U),p,k,A,j,d,i,c]) (lM W rfl LP) ⟨_,_,_,_,_,_,_,W⟩ ?_ λρ ⟨_,_,_,_,_,_,_,h⟩=>by rw[h];exact⟨_,W,W⟩);rintro us f vs _ r ⟨_,_,_,j,d,i,c,rfl⟩;have h1:=hJ (l:=us) λf _=>Eo m f;have hf:=ho f (by rw[r];simp);refine⟨_,W,i4 (V:=w6D) (xs:=A6) (I:=λws ρ=>∃j d i c,ρ=[Y (.tup (fs.map jh),J),Y (tI m,J),Y (.lst ((us.flatMap (H6 m)++ws.flatMap (sJ m f)).map cY),U),Y (sT f.1,J),Y (tI f.2.1,J),Y (sT f.2.2,J),j,d,i,c]) (lM W rfl rfl) ⟨j,d,i,c,by rw[iJ,aL];rfl⟩ ?_ λρ ⟨_,_,_,_,h⟩=>by rw[h];exact bo ⟨_,W,_,_,_,_,_,_,_,by rw[di,cQ]⟩⟩;rintro ws w vs _ s ⟨_,_,_,c,rfl⟩;have h2:=hJ (g:=sJ m f) (l:=ws) λ_ _=>mF;have h3:Z ws<6:=KG s;refine⟨_,W,?_⟩;rw[di,cQ,<-aM];have o:Z (us.flatMap (H6 m)++ws.flatMap (sJ m f))<1000:=by grind
 generalize us.flatMap _++ws.flatMap _=es at o ⊢;obtain⟨y,t⟩:=or2 (ρ:=full [Y (.tup _,J),Y _,Y (.lst _,U),Y (sT _,J),Y (tI _,J),Y (sT _,J),Y (sT _,J),Y (.str _,J),Y (.str _,J),c]) (a:=.cmp _ (.v 6) (.con (sT [119]))) (b:=.cmp .gt (.blt _ [.v 3]) (.e_ 1)) (gn W rfl (ne_T _ _)) (gn (ik W (len_T (af hf.ll cF))) W rfl);obtain⟨z,u⟩:=Xi (gn (a:=.v 6) (e:=.v 5) W rfl qW) t;refine iN (J':=λρ=>∃c,ρ=[Y (.tup _,J),Y _,Y (.lst _,U),Y (sT _,J),Y (tI _,J),Y (sT _,J),Y (sT [w.1],J),Y (.str w.2.1,J),Y (.str w.2.2,J),c]) u (λq=>?_) (λq=>bo ⟨_,W,c,by unfold sJ;rw[cb (by rw[show bg f w=J from q];decide),aL];rfl⟩) λρ ⟨c,h⟩=>bo ⟨_,W,_,_,_,c,h⟩
 have x:be C (.ite (.cmp .eq (.v 7) (.con (.str vt))) (.tup []) (.v 1)) (full [Y (.tup (fs.map jh),J),Y (tI m,J),Y (.lst (es.map cY),U),Y (sT f.1,J),Y (tI f.2.1,J),Y (sT f.2.2,J),Y (sT [w.1],J),Y (.str w.2.1,J),Y (.str w.2.2,J),c])=Y (tI (if(w.2.1 == vt)=U then []else m),w.2.1 == vt):=by
  rw[QJ (gn W rfl Wz) W];cases w.2.1 == vt<;>rfl
 refine bN (dX x (mY _)) (pq (e:=(w.2.1,uT _,(if(w.2.1 == vt)=U then []else m)++f.2.1,w.2.2)) (lR W (Vv W (JG hf)) (qh _ _ (af (eC (ite_le (aU _) B) hf.cl) cF)) W) W o (bo ⟨_,W,_,by unfold sJ;rw[a5 (q)];rfl⟩))
abbrev pF(t:Tb)(p:T×cx):O Ed:=[(jw,[p.1],t.m2++[p.2],mK),(jq,[p.1],t.m2++[p.2],mK),(mK,[p.1],[p.2],mK)]
abbrev xF(t:Tb):O (T×cx):=QC.zip t.fg
abbrev fgD(p:T×cx):Dat:=.tup [sT [p.1],.int p.2]
theorem E7:∀(l:O T)(g:O cx),pV ((l.map λc=>T' [c]).map Dat.str) (g.map Dat.int)=(l.zip g).map fgD
 |[],_=>by simp[pV]
 |_::_,[]=>by simp[pV]
 |c::l,x::g=>by
   have:=E7 l g;simp only[aI,pV,IZ,this]
abbrev rF(t:Tb):O Ed:=if t.fg.isEmpty=U then []else(mK,[],t.m3,lz)::(xF t).flatMap (pF t)
def B2(t:Tb):Z (xF t)<=10:=by
 rw[xj];exact j2 _ _
def abT : es++[a]++[b]++[c]=es++[a,b,c]:=by simp
def O2{t:Tb}(h2:Z t.m2<=2):Cn D (n+1) 2 [Nr t,tI t.fg]=Y (.lst ((rF t).map cY),U):=by
 refine ph (body:=b2) W ?_;generalize Cn D n=C;have hc:be C (.cmp _ (.v 1) (.tup [])) (full [Y (Nr t,J),Y (tI t.fg,J),L,L,L])=Y (.bl _,J):=gn W rfl (Mv _);unfold K35.b2 rF;revert hc;cases t.fg.isEmpty
 .intro hc;refine jg hc (fG (ds:=[(mK,[],t.m3,lz)].map cY) (abp (lR W rfl rfl rfl)) (i4 (V:=fgD) (xs:=xF t) (ρ0:=[Y (Nr t,J),Y (tI t.fg,J),Y (.lst _,U),L,L]) (I:=λus f=>∃c i,f=[Y _,Y (tI _,J),Y (.lst (((mK,[],t.m3,lz)::us.flatMap (pF t)).map cY),U),c,i]) ?_ ⟨_,_,W⟩ ?_ λf y=>by obtain⟨_,_,h⟩:=y;rw[h];exact⟨_,W,W⟩))
  .show bu (jQ (λds=>(ds,[Y _,Y (tI _,J),Y (.lst _,U),L,L])) (Y (pV ((oK _).map _) (t.fg.map _)))) (λx:O _×cT=>iw (eO J _) ..)=_;rw[OK,E7];rfl
  .rintro us p vs _ d ⟨_,_,rfl⟩;have h1:=B2 t;have h3:=hJ (g:=pF t) (l:=us) λ_ _=>aq 3;refine⟨_,W,?_⟩;rw[di,<-pe];have a:Z ((mK,[],t.m3,lz)::us.flatMap (pF t))<900:=by grind
   generalize (mK,[],t.m3,lz)::us.flatMap _=es at a ⊢;have b:=qh _ [p.2] (by exact az h2 (by decide));exact pq (e:=(jw,[p.1],t.m2++[p.2],mK)) (lR W rfl b W) W (af a (by decide)) (pq (e:=(jq,[p.1],t.m2++[p.2],mK)) (lR W rfl b W) W (by simp;exact az a (by decide)) (pq (lR W rfl rfl rfl) W (by simp;exact bc (az a (by decide))) (bo ⟨_,W,_,_,by rw[abT];rfl⟩)))
 .intro hc;exact sD hc W rfl
abbrev Bt(e:Ed):cc:=!(e.1 == lz)
def Ah(A B:O Ed)(h:Z A+Z B<=1000):iT .add (.lst (A.map cY)) (.lst (B.map cY))=Y (.lst ((A++B).map cY),U):=by
 rw[oZ (by rw[aD,aD];exact af h cF),<-dB,Eh]
abbrev s0(t:Tb):O Ed:=t.fs.flatMap E6
abbrev s1(t:Tb):O Ed:=if t.m0.isEmpty=U then s0 t else s0 t++(s0 t).map (Nw t.m0)
abbrev DA(t:Tb):O Ed:=if t.m1.isEmpty=U then s1 t else s1 t++t.fs.flatMap (H6 t.m1)
abbrev s3(t:Tb):O Ed:=if t.fg.isEmpty=U then(DA t).filter Bt else DA t
abbrev got(t:Tb):O Ed:=s3 t++GU++rF t
def DC{t:Tb}(hl:Z t.fs<=12):Z (s0 t)<=72:=by
 exact lQ (hJ λf _=>Mz f) (ZB 6 hl)
def Ki{t:Tb}(hl:Z t.fs<=12):Z (s1 t)<=144:=by
 have h:=DC hl;exact ite_le (af h cF) (by rw[aj,aD];exact af (eC h h) cF)
def DB{t:Tb}(hl:Z t.fs<=12):Z (DA t)<=216:=by
 have h:=Ki hl;exact ite_le (af h cF) (by exact wc h (hJ (l:=t.fs) λf _=>Eo t.m1 f) (ZB 6 hl))
def Kh{t:Tb}(hl:Z t.fs<=12):Z (s3 t)<=216:=ite_le (af (jb _ _) (DB hl)) (DB hl)
def Ky(t:Tb):Z (rF t)<=31:=by
 have h:=B2 t;have a:=hJ (g:=pF t) (l:=xF t) λ_ _=>aq 3;exact ite_le (aU _) (by grind)
abbrev e5(t:Tb)(es:O Ed):cT:=[Y (tb t,J),Y (.tup (t.fs.map jh),J),Y (Nr t,J),Y (.lst (es.map cY),U)]
def Ej(t:Tb):im (Nr t)=U:=by
 simp only[im,mR,ip,ah];exact⟨mY _,mY _,mY _,mY _⟩
def Sa{B:O Ed}(h:be C c (full (e5 t A))=Y (.bl (!b),f))(F:be C y (full (e5 t A))=Y (.lst (B.map cY),U))(k:Go C ss (e5 t (if b=U then A else B)) Q):Go C (.ifs c [.set 3 y] []::ss) (e5 t A) Q:=by
 refine iN (J':=λa=>a=e5 t _) h (λq=>fG F (bo ⟨_,W,?_⟩)) (λq=>bo ⟨_,W,?_⟩) λa h=>by rwa[h]
 .rw[cb (by simpa using q)];rfl
 .rw[a5 (by simpa using q)]
def HC(ht:K5 t)(B:Z (got t)<=300):Cn D (n+2) 6 [tb t]=Y (.lst (J2 (got t)),U):=by
 have d:=HB (n:=n) ht.h0 (λe he=>by
  obtain⟨f,hf,h⟩:=eN.mp he;obtain⟨w,_,h⟩:=eN.mp h;unfold Iy at h;split at h
  .rw[au.mp h];exact⟨f,ht.ho f hf,W,W⟩
  .cases h) (af (DC ht.hl) cF)
 have a:=DC ht.hl;have p:=Ki ht.hl;have b:=Kh ht.hl;have r:=hJ (l:=t.fs) λf _=>Eo t.m1 f;have m:=ht.hl;apply ph W;refine bN (dX W (nN _)) (bN (dX W (Ej t)) (fG (HA (n:=n) ht.hl) ?_));refine Sa (gn W rfl (Le _)) (fJ W d (Ah _ _ (by rw[aD];exact af (eC a a) cF))) ?_;refine Sa (A:=s1 t) (gn W rfl (Le _)) (fJ W (zv (n:=n) ht.h1 ht.ho ht.hl) (Ah _ _ (wc p r (ZB 6 m)))) ?_;refine iN (J':=λc=>c=e5 t (s3 t)) (gn W rfl (Mv _)) (λq=>fG (QQ Bt W (af (DB ht.hl) cF) uA λe _=>⟨J,gn W rfl abh⟩) (bo ⟨_,W,?_⟩)) (λq=>bo ⟨_,W,?_⟩) ?_
 .show _=e5 t (if t.fg.isEmpty=U then(DA t).filter Bt else DA t);rw[a5 q];rfl
 .show _=e5 t (if t.fg.isEmpty=U then(DA t).filter Bt else DA t);rw[cb (show¬t.fg.isEmpty=U by rw[q];decide)]
 .rintro _ rfl;exact jN (ik (fJ (fJ W (HE (n:=n)) (Ah _ _ (Nat.add_le_add_right (af b cF) _))) (O2 (n:=n) ht.h2) (Ah _ _ (by rw[aj];show _+3+_<=_;exact lQ b (Ky t)))) (Oq B (by intro e;simp[GU]at e))) W
theorem B4:∀{a b:O Sx}{ρ f:cT},dI C a ρ=Y (.nx f)->dI C (a++b) ρ=dI C b f
 |[],_,ρ,f,h=>by cases h;rfl
 |s::a,b,ρ,f,h=>by
   obtain⟨o,h1,h2⟩:=bT h
   obtain⟨_,rfl⟩:∃r,o=.nx r:=by cases o<;>first|exact⟨_,W⟩|cases h2
   rw[pe,zj h1];exact B4 h2
noncomputable abbrev kU:O aa:=["out","in","done","num","let","all"]
theorem FE{g g':aa->Dat}{s:aa}:∀{l:O aa},l.Nodup->s∈l->(∀f∈l,f≠s->g' f=g f)->∃j,posK (.inr s) (l.map bQ)=Y j/\(l.map g)[j]?=Y (g s)/\(l.map g).set j (g' s)=l.map g'
 |a::r,b,hs,h=>by
   obtain⟨h1,h2⟩:=a6.mp b;by_cases q:a=s
   .subst q;refine⟨0,a5 W,W,?_⟩;have :=dY λf m=>(h f (jY _ m) λe=>h1 (e▸m)).symm
    grind
   .obtain⟨j,d,c,i⟩:=FE h2 ((aA.mp hs).resolve_left λe=>q e.symm) λf m=>h f (jY _ m);refine⟨j+1,?_,c,?_⟩
    .show(if(bQ a)=.inr s then Y 0 else(posK _ _).map _)=_
     simp_all
    simp_all
noncomputable abbrev Sz(E:O Ed)(s:aa):O Ed:=E.filter λe=>e.1 == s
abbrev Se(E:O Ed)(s:aa):Dat:=.lst ((Sz E s).map cY)
abbrev pI(E:O Ed):Dat:=.dct (kU.map bQ) (kU.map (Se E))
def Yn:kU.Nodup:=by decide +kernel
def UI{E:O Ed}(hl:Z E<1000)(hs:e.1∈kU):Vq .app (.str e.1) [cY e] (pI E)=Y (pI (E++[e])):=by
 obtain⟨j,b,c,f⟩:=FE (g':=Se (E++[e])) Yn hs λi _ q=>by
  unfold Se Sz;rw[tm,AK (by simpa using λh=>q h.symm),NW,aL]
 have hb:Z (Sz E e.1)<=Z E:=jb _ _
 have a:mD .app (Se E e.1) [cY e]=Y (Se (E++[e]) e.1):=by
  unfold Se Sz;rw[qt (by rw[aD];exact az hb (af hl cF)),tm,AJ (by simp),dB];rfl
 show((posK (.inr e.1) (kU.map bQ)).bind λj=>((kU.map (Se E))[j]?).bind λd=>(mD .app d [cY e]).map λg=>Dat.dct (kU.map bQ) ((kU.map (Se E)).set j g))=_;rw[b,bp,c,bp,a,eA,f]
abbrev ID(d:Dat)(E:O Ed)(z:g_):cT:=[Y (d,J),Y (pI E,U),Y (.str "all",J),z]
def Xb{E:O Ed}(hl:Z E<1000)(hs:e.1∈kU):dI C Ia (ID d E (Y (cY e,J)))=Y (.nx (ID d (E++[e]) (Y (cY e,J)))):=by
 apply Vc;show((be C (.ix (.v 3) (.e_ 0)) (full (ID d E (Y (cY e,J))))).bind λy=>(pG C [.v 3] (full (ID d E (Y _)))).bind λx=>if x.2=U then Y9 _ 1 (ID d E (Y _)) y.1 x.1 (Y _)else L)=_
 have a:pG C [.v 3] (full (ID d E (Y (cY e,J))))=Y ([cY e],U):=by
  show Y _=_;rw[(uA e)];rfl
 rw[a];show(Vq _ (.str _) _ _).map _=_;rw[(UI hl hs)];rfl
theorem Lz:∀(es E:O Ed)(z:g_),Z E+Z es<1000->(∀e∈es,e.1∈kU)->∃B,iw (eO U [3]) (dI C Ia) (es.map cY) (ID d E z)=Y (.nx (ID d (E++es) B))
 |[],E,z,_,_=>⟨z,by rw[aL];rfl⟩
 |e::es,E,z,hl,hs=>by
   obtain⟨B,a⟩:=Lz es (E++[e]) (Y _) (by exact iY hl) λx b=>hs x (jY _ b);refine⟨B,?_⟩;rw[aM]at a;show((dI C Ia (ID d E (Y _))).bind _)=_;rwa[Xb (az (aZ _ _) hl) (hs e jM)]
def aaW:dI C [.set 1 .rj,.loop U [2] (.itv (.con (.tup [(.str (ae "out")),(.str (ae "in")),(.str (ae "done")),(.str (ae "num")),(.str (ae "let")),(.str (ae "all"))]))) [(.mut .seti 1 [(.lst []),(.v 2)])]] [Y (d,J),L,L,L]=Y (.nx (ID d [] L)):=by kernel_rfl
def UD{E:O Ed}(f:Cn D (n+2) 6 [tb t]=Y (.lst (E.map cY),U))(hl:Z E<=300)(hs:∀e∈E,e.1∈kU):Cn D (n+3) 7 [tb t]=Y (pI E,U):=by
 apply fT W;refine (?_ : dI (Cn D (n+2)) ([.set 1 .rj,.loop U [2] (.itv (.con (.tup [(.str (ae "out")),(.str (ae "in")),(.str (ae "done")),(.str (ae "num")),(.str (ae "let")),(.str (ae "all"))]))) [(.mut .seti 1 [(.lst []),(.v 2)])]]++[.loop U [3] (.itv (.call 6 [.v 0])) Ia,.oM 1]) [Y (tb t,J),L,L,L]=_);rw[B4 aaW];obtain⟨a,b⟩:=Lz E [] L (az (mP hl _) cF) hs
 have h1:pv (Cn D (n+2)) (.loop U [3] (.itv (.call 6 [.v 0])) Ia) (ID (tb t) [] L)=Y (.nx (ID (tb t) E a)):=by
  rw[yD];have:be (Cn D (n+2)) (.call 6 [.v 0]) (full (ID (tb t) [] L))=Y (.lst _,U):=f;rw[this];exact b
 rw[zj h1];rfl
noncomputable abbrev pre(x:O T)(p:T)(e:Ed):cc:=decide (e.2.1 <+: x.drop p)
abbrev Row:=aa->ar T
class VD (α:Type) where
 v:α->Dat
 i:∀a,im (v a)=U
noncomputable instance:VD T:=⟨λk=>.int (k:T),λ_=>W⟩
noncomputable def vD{α:Type}[VD α]:ar α->Dat
 |none=>.non
 |some k=>VD.v k
abbrev dD{α:Type}[VD α](l:O aa)(g:aa->ar α):Dat:=.dct (l.map bQ) (l.map λs=>vD (g s))
theorem LB{α:Type}[VD α]{g:aa->ar α}{s:aa}:∀{l:O aa},s∈l->iZ (.inr s) (l.map bQ) (l.map λs=>vD (g s))=Y (vD (g s))
 |a::r,h=>by
   show(if(bQ a)=.inr s then Y (vD (g a))else iZ (.inr s) (r.map bQ) (r.map λs=>vD (g s)))=_;by_cases q:a=s
   .simp_all
   .rw[cb λe=>q (pN e)];exact LB ((aA.mp h).resolve_left λe=>q e.symm)
abbrev o6:O aa:=["out","done","num"]
structure gE(E:O Ed):Prop where
 b:∀e∈E,e.1∈kU
 o:∀e∈E,e.2.2.2∈kU
 t:∀e∈E,Z e.2.1<=1000
 n:∀e∈E,e.2.1=[]->e.1="num"/\e.2.2.2="let"
 l:Z E<=300
def Vy(n:T):(kU.all λs=>uv (Cn D (n+1) 0 [.str s]) (Y (.bl (decide (s∈o6)),J)))=U:=by kernel_rfl
def Uy(hs:s∈kU):Cn D (n+1) 0 [.str s]=Y (.bl (decide (s∈o6)),J):=rV (bh.mp (Vy n) s hs)
theorem LA:∀{l:O aa},s∈l->iZ (.inr s) (l.map bQ) (l.map g)=Y (g s)
 |a::r,h=>by
   show(if(bQ a)=.inr s then Y (g a)else iZ (.inr s) (r.map bQ) (r.map g))=_;by_cases q:a=s
   .simp_all
   .rw[cb λe=>q (pN e)];exact LA ((aA.mp h).resolve_left λe=>q e.symm)
theorem zE:∀ds:O Dat,sk (pz C 1 U ρ0 [] .rj) ds=Y (bb ds.length (.dct [] []),U)
 |[]=>rfl
 |d::ds=>by
   show bu (Y (Y (Dat.dct [] [],U))) _=_;rw[zE ds];rfl
def cq(b:T)(f:O cx):Prop:=0<Z f/\Z f<=b/\∀c∈f,1<=c/\c<=63
def Cw(C:Fs)(N:Dat):Prop:=∀k a:cx,0<=k/\k<=100->0<a/\a<=63->∃c b,C 15 [N,.int k,.int a]=Y (tI c,b)/\cq 4 c
def Ce(hd:Dw C N)(hi:be C it ρ=Y (.int (m:T),f))(I:m<=10)(hk:0<=k/\k<=1000)(hp:0<p)(hf:0<B/\B<=63)
  (h1:∀d,be C e1 ((ki 1 caps ρ).set 0 (Y d))=Y (N,J))(h2:∀d,be C e2 ((ki 1 caps ρ).set 0 (Y d))=Y (.int k,J))(h3:∀d,be C e3 ((ki 1 caps ρ).set 0 (Y d))=Y (.int B,J)) :
  ∃F:O cx,be C (.comp 1 U caps (.rng [it]) [] (.bin .add (.e_ 1) (.call 13 [e1,e2,.bin .add (.con (.int p)) (.bin .mul (.e_ 22) (.v 0)),e3]))) ρ=Y (.lst (F.map Dat.int),U)/\Z F=m/\∀c∈F,1<=c/\c<=63:=by
 obtain⟨F,a,l,h,_⟩:=oX (elt:=.bin _ _ (.call 13 [e1,e2,.bin _ (.con (.int p)) (.bin _ (.e_ 22) (.v 0)),e3])) (λc:T=>.int _) (λ_ c:T=>(1:cx)<=c/\(c:cx)<=63) (n9 hi (af I cF)) (by grind) (λ_=>W) λj b=>
  Ez (gm hd (h1 _) (h2 _) (jO W (Et W (j:=(j)) (g:=J) (by rw[nO];simp[ki]) cF)) (h3 _) hk (by omega) hf.1 λ_ h=>h) λq h=>by omega
 rw[aW]at l;refine⟨F.map _,by rwa[dM],by rw[aD,l],λc hc=>?_⟩;obtain⟨d,hd,rfl⟩:=bZ.mp hc;obtain⟨_,_,q⟩:=h d hd;exact q
def cw{ns:O cx}:Cw (Cn D (n+3)) (.lst (ns.map Dat.int)):=λk c hk hf=>by
 have hd:Dw (Cn D (n+2)) (.lst (ns.map _)):=dw
 suffices h:Go (Cn D _) _ [Y (.lst (ns.map _),J),Y _,Y _,L] λo=>∃f b,o=.rt (tI f) b/\cq 4 f by
  obtain⟨_,h1,f,b,rfl,h2⟩:=h;exact⟨f,b,fT W h1,h2⟩
 generalize Dat.lst (ns.map _)=N at hd ⊢;have a:0<=k/\k<=1000:=⟨hk.1,(ig hk.2 (by decide))⟩
 refine zO (P:=λv=>1<=v/\v<=4) (uC hd W rfl rfl rfl a (by decide) (by decide) (by decide)) (λv=>uB (gm hd W rfl rfl rfl a (by decide) (by decide) λ_ _=>trivial) 0) (λv=>uC hd W rfl rfl rfl a (by decide) (by decide) (by decide)) λm d=>?_;obtain⟨h1,h2⟩:=d
 .obtain⟨f,e,l,h3⟩:=Ce (ρ:=full [Y (N,J),Y (.int k,J),Y (.int c,J),Y (.int _,J)]) (p:=10039) (caps:=[2,1,0]) (it:=.v 3) (e1:=.v 3) (e2:=.v 2) (e3:=.v 1) hd W (af h2 (by decide)) a (by decide) hf (λ_=>W) (λ_=>W) (λ_=>W);exact jN (ik e W) ⟨f,_,W,af h1 (ag l.symm),af (ag l) h2,h3⟩
section
def Wx{z:cx}{f:cc}(h:be C e ρ=Y (.int z,f)):∃c b,be C (.ix (.f_ "abcdefghijklmnopqrstuvwxyz") (.bin .mod e (.e_ 26))) ρ=Y (sT [c],b)/\c∈wj:=by
 have h1:0<=z % 26:=RA _ cF;obtain⟨q,a⟩:=ko h1;have hl:q<Z wj:=by show q<26;omega
 refine⟨_,J,?_,bA hl⟩;rw[GC,oV,h];show((iT .mod (.int z) (.int 26)).bind λy=>(Az (.str (T' wj)) _).map λd=>(d,J))=_;rw[oY cF,a];show((Az (.str _) (.int _)).map _)=_;rw[V5 cF hl];rfl
def Sj{elt:Ex}{caps:O T}{P:T->Prop}{r:T->Prop}(h:Ei C e ρ r)(B:∀m,r m->m<=1000)(hs:∀m,r m->∀i,i<m->∃c b,be C elt ((ki 1 caps ρ).set 0 (Y (.int ((i:T):cx))))=Y (sT [c],b)/\P c):Ev C (.lj .join (.f_ "") [.comp 1 U caps (.rng [e]) [] elt]) ρ λd=>∃F:O T,d=sT F/\r (Z F)/\∀c∈F,P c:=by
 refine ac λ_ k=>?_;obtain⟨m,f,q,g⟩:=h;have a:=B m g;obtain⟨F,e,l,n,_⟩:=oX (λc=>sT _) _ (n9 q a) (by simp_all) (λ_=>W) λi hi=>hs m g i (bq.mp hi);apply k;rw[aW]at l;have j:=F7 (by rw[aaU];exact af (ag l) (af a cF));rw[ZF,dM]at j;exact⟨_,J,by rwa[zT,cJ,e],W,F,W,by rwa[l],λc hc=>by obtain⟨_,_,q⟩:=n c hc;exact q⟩
end
def lq(f:O T):Prop:=0<Z f/\Z f<=6/\∀c∈f,c∈wj
abbrev Nt(f:O T):Dat:=.lst (f.map λc=>sT [c])
def Lw(C:Fs)(N:Dat):Prop:=∃a,C 16 [N]=Y (Nt a,U)/\lq a
def lw{ns:O cx}:Lw (Cn D (n+3)) (.lst (ns.map Dat.int)):=by
 have hd:Dw (Cn D (n+2)) (.lst (ns.map _)):=dw
 suffices h:Go (Cn D _) _ [Y (.lst (ns.map _),J),L,L,L] λo=>∃d,o=.rt (Nt d) U/\lq d by
  obtain⟨_,h1,d,rfl,h2⟩:=h;exact⟨d,fT W h1,h2⟩
 generalize Dat.lst (ns.map _)=N at hd ⊢;refine zO (P:=λv=>1<=v/\v<=6) (uC hd W rfl rfl rfl (by decide) (by decide) (by decide) (by decide)) (λv=>uB (gm hd W rfl rfl rfl (by decide) (by decide) (by decide) λ_ _=>trivial) 0) (λv=>uC hd W rfl rfl rfl (by decide) (by decide) (by decide) (by decide)) λm a=>?_;obtain⟨h1,h2⟩:=a;apply kM (mG (gm hd W rfl rfl rfl (by decide) (by decide) (by decide) λq h=>trivial));rintro _ ⟨b,rfl,-⟩;apply kM (mG (vm (is:=[1,3,5,7,9,11,15]) W (gm hd W rfl rfl rfl (by decide) (by decide) (by decide) λq h=>by show q<7;omega) λ_ _=>trivial));rintro _ ⟨st,rfl,-⟩;obtain⟨d,e,l,hl,_⟩:=oX (ρ:=full [Y _,Y (.int _,J),Y (.int _,J),Y (.int _,J)]) (caps:=[2,3]) (it:=.rng [.v 1]) (elt:=.ix (.f_ _) (.bin _ (.bin _ (.v 1) (.bin _ (.v 0) (.v 2))) _)) (λc=>sT _) _ (n9 W (af h2 (by decide))) (by rw[aW];exact af h2 (by decide)) (λ_=>W) λi hi=>Wx (jO W (Et W rfl (by grind)));rw[aW]at l;exact jN e ⟨d,W,af h1 (ag l.symm),af (ag l) h2,λc hc=>by obtain⟨_,_,q⟩:=hl c hc;exact q⟩
def lo(B:O T)(f:Fm):Prop:=L7 f/\(∀c∈f.1,c∈B)/\∀c∈f.2.1,1<=c/\c<=63
def Fw(C:Fs)(N:Dat):Prop:=∀(k a:cx)(c:O T),0<=k/\k<=10->0<a/\a<=63->lq c->∃f b,C 17 [N,.int k,Nt c,.int a]=Y (jh f,b)/\lo c f
def plB(C:Fs):((aX 16).all λk=>uv (be C plX [L,L,L,L,L,L,Y (.int (k:T))]) (Y (.str (T' (XI k)),J)))=U:=by kernel_rfl
def ZG{C:Fs}{a b c d e f g:ar Dat}{k:T}(h:k<16):be C plX [a,b,c,d,e,f,Y (.int (k:T)),g]=Y (sT (XI k),J):=rV (bh.mp (plB C) k (bq.mpr h))
def fw{ns:O cx}:Fw (Cn D (n+4)) (.lst (ns.map Dat.int)):=λk a A hk hf hl=>by
 have hd:Dw (Cn D (n+3)) (.lst (ns.map _)):=dw;have hc:Cw (Cn D (n+3)) (.lst (ns.map _)):=cw
 suffices h:Go (Cn D _) _ [Y (.lst (ns.map _),J),Y _,Y _,Y _,L,L,L,L] λo=>∃f b,o=.rt (jh f) b/\lo A f by
  obtain⟨_,h1,f,b,rfl,h2⟩:=h;exact⟨f,b,fT W h1,h2⟩
 generalize Dat.lst (ns.map _)=N at hd hc ⊢;generalize Cn D _=C at hd hc ⊢;refine zO (P:=λv=>1<=v/\v<=6) (uC hd W (jO W rfl) W rfl (⟨(Nv hk.1),(Nv hk.2)⟩) (by decide) (by decide) (by decide)) (λv=>uB (gm hd W (jO W rfl) W rfl (⟨(Nv hk.1),(Nv hk.2)⟩) (by decide) (by decide) λ_ _=>trivial) 0) (λv=>uC hd W (jO W rfl) W rfl (by omega) (by decide) (by decide) (by decide)) λm t=>?_;have j:lr .len [Nt A]=Y (.int (A.length),J):=by simp
 refine kM (Sj (r:=λm=>1<=m/\m<=6) ⟨m,_,W,t⟩ (λm h=>(af h.2 (by decide))) λm t i hi=>Mp W (gm hd W (jO W rfl) (jO W (Et W rfl (by decide))) (j) (⟨(Nv hk.1),(Nv hk.2)⟩) (by omega) (qm.mpr hl.1) λq h=>by omega) λc hc=>hc) ?_;rintro _ ⟨u,rfl,w,d⟩;apply kM (mG (P:=λm=>1<=m/\m<16) (Ez (gm hd W (jO W rfl) W rfl (⟨(Nv hk.1),(Nv hk.2)⟩) (by decide) (by decide) λq h=>by omega) λq h=>by omega));rintro _ ⟨l,rfl,p,g⟩;apply bN (dX (ZG g) W);obtain⟨B,b,x,c1,c2,y⟩:=hc (20+k) a (⟨(Nv hk.1),(Nv hk.2)⟩) hf
 have s:∀z:gC,z[0]?=Y (Y N)->z[1]?=Y (Y (.int k))->z[3]?=Y (Y _)->be C (.call 15 [.v 0,.bin .add (.e_ 20) _,.v 3]) _=Y _:=λz h0 h1 h3=>by
  rwa[kc,cJ,nO,h0,cJ,oV,nO,h1,cJ,nO,h3]
 refine jN (f:=U) ?_ ⟨(u,B,XI l),_,W,⟨λe=>?_,λc hc=>hl.2.2 c (d c hc),w.2,c1,c2,l,p,g,W⟩,d,y⟩
 .rw[zS,gH,gH,s _ W rfl rfl];show Y (jh (u,B,XI l),((b || im _) && U))=_;rw[mY,mQ];rfl
 simp_all
section
def Vo{fs:O Fm}(B:be C x (full ρ)=Y (.lst (fs.map jh),g))(hl:Z fs<=1000)(F:be C y (full ρ)=Y (jh f,g')):∃t f',be C (.cmp .nin (.sl y L (Y (.e_ 2))) (.comp 1 U [] (.itv x) [] (.sl (.v 0) L (Y (.e_ 2))))) (full ρ)=Y (.bl t,f'):=by
 obtain⟨a,e,_,_⟩:=oX (elt:=.sl (.v 0) L (Y (.e_ 2))) (λf:Fm=>.tup [sT _,tI _]) (λ_ _=>True) (by rw[QI,B];rfl) hl (λf=>by
  show(U && (mR (f.2.1.map _) && U))=U
  rw[sy];rfl) λf _=>⟨f,J,W,trivial⟩
 have hs:∀fs:O Fm,eU 20 (fs.map λf=>Dat.tup [sT f.1,tI f.2.1])=U:=λfs=>by
  induction fs with
  |nil=>rfl
  |cons g r b=>show(iL 20 _ && eU 20 _)=U;rw[A4,b];rfl
 obtain⟨t,c⟩:∃t,kh .nin (.tup [sT f.1,tI f.2.1]) (.lst (a.map λf=>.tup [sT f.1,tI f.2.1]))=Y t:=⟨_,a5 (by rw[A4,hs];rfl)⟩
 refine⟨t,J,?_⟩;rw[Eu,e,yE,F];show((kh _ (.tup [sT _,tI _]) _).map _)=_;rw[c];rfl
def zN(h:Ev C x (full ρ) P)(F:be C y (full ρ)=Y (.int k,g))(hi:(ρ[i]?).join=Y (.lst ds,U))(K:∀d,P d->∃B,mD .seti (.lst ds) [d,.int k]=Y (.lst B)/\Go C ss (ρ.set i (Y (.lst B,U))) Q):Go C (.mut .seti i [x,y]::ss) ρ Q:=by
 refine ac λ_ c=>?_;obtain⟨d,f,h1,h2,h3⟩:=h;obtain⟨B,a,b⟩:=K d h3;apply c;exact bN (DU hi (by rw[gH,h1,gH,F];show Y ([d,.int k],(f || im d) && ((g || U) && U))=_;simp_all) a) b
end
structure fq(ls:O T)(fs:O Fm):Prop where
 o:∀f∈fs,lo ls f
 w:∀c∈ls,∃cs,([c],cs,SK)∈fs
abbrev E22(N:Dat)(B:cx)(C:O T)(fs:O Fm)(f z5 z6:g_):cT:=[Y (N,J),Y (.int B,J),Y (Nt C,U),f,Y (.lst (fs.map jh),U),z5,z6]
def I22(N:Dat)(B:cx)(f:O T)(us:O T)(ρ:cT):Prop:=∃(fs:O Fm) (a b c:g_),ρ=E22 N B f fs a b c/\Z fs<=Z f+Z us/\fq f fs
def Ys{fs:O Fm}(h:q<=Z fs):Jf (.lst (fs.map jh)) L (Y (q:cx))=Y (.lst ((fs.take q).map jh),U):=by
 show Y (Dat.lst (M.cutD _ L (Y _)),mR (M.cutD _ L (Y _)))=_;rw[GL (fQ _) (by simp_all),show((q:cx)).toNat=q by rfl,<-List.map_take,nN]
def Yt{fs:O Fm}(h:q<=Z fs):Jf (.lst (fs.map jh)) (Y (q:cx)) L=Y (.lst ((fs.drop q).map jh),U):=by
 show Y (Dat.lst (M.cutD _ (Y _) L),mR (M.cutD _ (Y _) L))=_;rw[GK (fQ _) (by rw[aD];exact ie.mpr h),show((q:cx)).toNat=q by rfl,<-List.map_drop,nN]
def M8{A B:O Fm}(h:Z A+Z B<=1000):iT .add (.lst (A.map jh)) (.lst (B.map jh))=Y (.lst ((A++B).map jh),U):=by
 rw[oZ (by rw[aD,aD];exact af h cF),<-dB,nN]
def Tu(hd:Dw C N)(F:Fw C N)(hf:0<R/\R<=63)(hl:lq S){us:O T}(I:Z us<=5)(hx:x<=5)(h:I22 N R S us ρ):∃ρ1,eO U [3] (.int (x:T)) ρ=Y ρ1/\Go C iB ρ1 λo=>∃O',o=.nx O'/\I22 N R S (us++[x]) O':=by
 refine ac λ_ n=>?_;obtain⟨fs,r,s,D,rfl,h1,h2⟩:=h;apply n;refine⟨_,W,?_⟩;refine ac λ_ n=>?_;obtain⟨f,b,k,l⟩:=F _ _ S (⟨(fQ _),(ig (ie.mpr hx) cF)⟩) hf hl;apply n;have m:=hl.2.1;refine bN (dX k (Gq f)) ?_;refine yv (Vo W (wc h1 m I) W) ?_ ⟨fs,_,_,_,W,by rw[aj];exact du h1,h2⟩ λp h=>bo ⟨_,W,h⟩;have d:lr .len [.lst (fs.map jh)]=Y (.int (fs.length),J):=by simp
 refine kM (mG (P:=(·<=Z fs)) (gm hd W (jO W rfl) W (jO (d) W) (by omega) cF (by simp) λq h=>by omega)) ?_;rintro _ ⟨q,rfl,j⟩;have e:Z (fs.drop q)=Z fs - q:=dF;refine fG ?_ (bo ⟨_,W,fs.take q++[f]++fs.drop q,_,_,_,W,?_,?_,?_⟩)
 .have t:be C (.sl (.v 4) L (Y (.v 6))) (full (E22 N R S fs (Y (.int (x),J)) (Y (jh f,J)) (Y (.int _,J))))=Y (.lst _,U):=Ys j;have u:be C (.sl (.v 4) (Y (.v 6)) L) (full (E22 N R S fs (Y (.int (x),J)) (Y (jh f,J)) (Y (.int _,J))))=Y (.lst _,U):=Yt j;have y:be C (.lst [.v 5]) (full (E22 N R S fs (Y (.int (x),J)) (Y (jh f,J)) (Y (.int (q),J))))=Y (.lst ([f].map jh),im (jh f) && U):=rfl;show be C _ (full (E22 N _ S fs (Y (.int _,J)) (Y _) (Y (.int _,J))))=_;rw[oV,oV,t,u,y,bp,bp];rw[(M8 (A:=fs.take q) (B:=[f]) (by simp;exact XN (pE q fs.length) h1 m I))];exact (M8 (A:=fs.take q++[f]) (B:=fs.drop q) (by simp;exact a4 (j2 q fs.length) (ws j) h1 m I))
 .rw[aj,e];grind
 .intro g a
  rcases ax.mp a with a|a
  .rcases ax.mp a with a|a
   .exact h2.o g (cP a)
   simp_all
  .exact h2.o g (fM a)
 .intro c hc;obtain⟨z,i⟩:=h2.w c hc;refine⟨z,?_⟩;rw[<-bf q fs]at i
  grind
def Ow(C:Fs)(N:Dat):Prop:=∀a:cx,0<a/\a<=63->∃(c:O T) (fs:O Fm) (b:cc),C 18 [N,.int a]=Y (.tup (fs.map jh),b)/\Z fs<=11/\lq c/\fq c fs
def vY(h:aX m=us++x::vs):Z us<m/\x<m:=by
 have h1:=c8 gh h;rw[aW,aj]at h1;exact⟨az (aZ _ _) (ag h1.symm),bq.mp (by rw[h];simp)⟩
def UY:SK=XI 15:=cF
def ow{ns:O cx}:Ow (Cn D (n+5)) (.lst (ns.map Dat.int)):=λa hf=>by
 have hd:Dw (Cn D (n+4)) (.lst (ns.map _)):=dw;have hc:Cw (Cn D (n+4)) (.lst (ns.map _)):=cw;have d:Fw (Cn D (n+4)) (.lst (ns.map _)):=fw;obtain⟨y,el,hl⟩:Lw (Cn D (n+4)) (.lst (ns.map _)):=lw
 suffices h:Go (Cn D _) _ [Y (.lst (ns.map _),J),Y _,L,L,L,L,L] λo=>∃(fs:O Fm) (b:cc),o=.rt (.tup (fs.map jh)) b/\Z fs<=11/\fq y fs by
  obtain⟨_,h1,fs,b,rfl,h2,h3⟩:=h;exact⟨y,fs,b,fT W h1,h2,hl,h3⟩
 generalize Dat.lst (ns.map _)=N at hd hc d el ⊢;generalize Cn D _=C at hd hc d el ⊢;have s:=hl.2.1;have g:lr .len [Nt y]=Y (.int (y.length),J):=by simp
 refine fG el ?_
 obtain⟨fs,e,l,h1,h2⟩:=oX (ρ:=full [Y (N,J),Y (.int a,J),Y (Nt y,U),L,L,L,L]) (caps:=[1,2,0]) (it:=.rng [.blt .len [.v 2]]) (elt:=.tup [.ix (.v 2) (.v 0),.call 15 [.v 3,.bin .add (.e_ 4) (.v 0),.v 1],.f_ "wbme"]) jh (λ(k)(f)=>lo y f/\∀h:k<Z y,f.1=[y[k]]/\f.2.2=SK) (n9 (g) (af s (by decide))) (by rw[aW];exact af s (by decide)) (λf=>Gq f) λi hi=>by
  have hi:=bq.mp hi;obtain⟨z,b,t,c1,c2,u⟩:=hc (4+(i)) a (by omega) hf
  have j:Az (Nt y) (.int (i))=Y (sT [y[i]]):=by
   show vp _ _=_;rw[jK (by rw[aV,ai hi];rfl)]
  refine⟨([y[i]],z,SK),U,?_,⟨⟨by simp,λc h=>?_,by simp,c1,c2,15,by decide,by decide,UY⟩,λc h=>?_,u⟩,λ_=>⟨W,W⟩⟩
  .show bu (bu (jQ _ (Az (Nt y) (.int _))) _) _=_;rw[j];show bu (jQ _ (bu (C 15 [N,.int _,.int a]) _)) _=_;rw[t];show Y (jh ([y[i]],z,SK),((b || im _) && U))=_;rw[mY,mQ];rfl
  .rw[au.mp h];exact hl.2.2 _ (bA hi)
  simp_all
 rw[aW]at l;apply fG e;refine Ep (I:=I22 N a y) (gm hd W rfl rfl rfl (by decide) (by decide) (by decide) λq h=>by omega) (λm h=>by omega) ⟨fs,_,_,_,W,ag l,⟨λf hf=>?_,λc hc=>?_⟩⟩ (λm w us x vs ρ r p=>Tu hd d hf hl (by have:=vY r;omega) (by have:=vY r;omega) p) λm w ρ p=>?_
 .obtain⟨_,_,q,_⟩:=h1 f hf;exact q
 .obtain⟨i,hi,rfl⟩:=me hc;obtain⟨f,hf,_,q⟩:=h2 i (bq.mpr hi);exact⟨_,by rwa[<-(q hi).1,<-(q hi).2]⟩
 .obtain⟨fs,B,E,F,rfl,j,A⟩:=p;rw[aW]at j;exact jN (by rfl) ⟨fs,_,W,by omega,A⟩
def Mw(C:Fs)(N:Dat):Prop:=∀k a:cx,0<=k/\k<=100->0<a/\a<=63->∃c b,C 19 [N,.int k,.int a]=Y (tI c,b)/\cq 2 c
def mw{ns:O cx}:Mw (Cn D (n+4)) (.lst (ns.map Dat.int)):=λk a hk hf=>by
 obtain⟨g,b,e,c1,c2,f⟩:=cw k a hk hf;refine⟨g.take 2,J,fT W ?_,by rw[iG];omega,by rw[iG];exact j2 _ _,λc h=>f c (cP h)⟩;generalize Dat.lst (ns.map _)=N at e ⊢;generalize Cn D _=C at e ⊢;apply xA;show bu (C 15 [N,.int k,.int a]) _=_;rw[e];show Y (Dat.tup (M.cutD (g.map _) L _),J)=_
 have:M.cutD (g.map Dat.int) L (Y 2)=(g.take 2).map Dat.int:=by
  by_cases h:2<=Z g
  .rw[GL (by simp) (by grind)];simp
  .match g,c1 with
   |[c],_=>rfl
   |c::d::r,_=>simp at h
 rw[this]
def mq(b:T)(m:O cx):Prop:=Z m<=b/\∀c∈m,1<=c/\c<=63
def t4(b:T):mq b []:=⟨aU _,λ_ h=>nomatch h⟩
def cq.m{b:T}{m:O cx}(h:cq b m):mq b m/\m≠[]:=⟨⟨h.2.1,h.2.2⟩,λe=>by rw[e]at h;exact absurd h.1 cF⟩
structure wT(t:Tb):Prop where
 ok:K5 t
 own:∀f∈t.fs,∀c∈f.1,∃cs,([c],cs,SK)∈t.fs
 cf:∀f∈t.fs,∀c∈f.2.1,1<=c/\c<=63
 cm:∀m∈[t.m0,t.m1,t.m2,t.m3,t.fg],∀c∈m,1<=c/\c<=63
 m1:t.m1≠[]->t.m0≠[]
 m3:t.fg≠[]->t.m3≠[]
def vj(F:Mw C N)(h0:ρ[0]?=Y (Y (N,J)))(h1:ρ[1]?=Y (Y (.int f,J)))(hk:0<=k/\k<=100)(hf:0<f/\f<=63):Ev C (.call 19 [.v 0,.con (.int k),.v 1]) (full ρ) λd=>∃B,d=tI B/\cq 2 B:=by
 obtain⟨B,b,e,h⟩:=F k _ hk hf;refine⟨_,b,?_,mY B,B,W,h⟩;have c:be C (.v 0) (full ρ)=Y (N,J):=by rw[nO,full,aV,h0];rfl
 have a:be C (.v 1) (full ρ)=Y (.int f,J):=by rw[nO,full,aV,h1];rfl
 rwa[kc,cJ,c,cJ,cJ,a]
abbrev mk4(m0 m1 m2 m3:O cx):Dat:=.lst [tI m0,tI m1,tI m2,tI m3]
def Hz{ns:O cx}:∃t b,Cn D (n+6) 20 [.lst (ns.map Dat.int)]=Y (tb t,b)/\wT t:=by
 have hd:Dw (Cn D (n+5)) (.lst (ns.map _)):=dw;have i:Mw (Cn D (n+5)) (.lst (ns.map _)):=mw;have ho:Ow (Cn D (n+5)) (.lst (ns.map _)):=ow
 suffices h:Go (Cn D _) _ [Y (.lst (ns.map _),J),L,L,L,L] λo=>∃t b,o=.rt (tb t) b/\wT t by
  refine ac λ_ B=>?_;obtain⟨_,h1,t,b,rfl,h2⟩:=h;apply B;exact⟨t,b,fT W h1,h2⟩
 generalize Dat.lst (ns.map _)=N at hd i ho ⊢;generalize Cn D _=C at hd i ho ⊢;apply kM (mG (P:=λq=>0<q/\q<=63) (vm (is:=[3,6,63]) W (gm hd W rfl rfl rfl cF cF cF λq h=>by show q<3;omega) cF));rintro _ ⟨a,rfl,hf⟩;have hf:(0:cx)<(a)/\(a:cx)<=63:=⟨(qm.mpr hf.1),(ie.mpr hf.2)⟩
 apply fG W;refine yv (J':=λρ=>∃m0 m1,ρ=[Y _,Y (.int _,J),Y (mk4 m0 m1 [] [],U),L,L]/\mq 2 m0/\mq 2 m1/\(m1≠[]->m0≠[])) (uB (gm hd W rfl rfl rfl cF cF cF λq h=>trivial) 0) ?_ ⟨[],[],W,t4 2,t4 2,λh=>absurd rfl h⟩ ?_
 .refine zN (vj i W rfl cF hf) W rfl λd g=>?_;obtain⟨m0,rfl,h0⟩:=g;refine⟨_,W,yv (J':=λρ=>∃m1,ρ=[Y _,Y (.int _,J),Y (mk4 m0 m1 [] [],U),L,L]/\mq 2 m1) (uB (gm hd W rfl rfl rfl cF cF cF λq h=>trivial) 0) ?_ ⟨[],W,t4 2⟩ ?_⟩
  .refine zN (vj i W rfl cF hf) W rfl λd g=>?_;obtain⟨m1,rfl,h1⟩:=g;exact⟨_,W,bo ⟨_,W,m1,W,h1.m.1⟩⟩
  .rintro _ ⟨m1,rfl,h1⟩;exact bo ⟨_,W,m0,m1,W,h0.m.1,h1,λ_=>h0.m.2⟩
 rintro _ ⟨m0,m1,rfl,h0,h1,s⟩;apply fG W;refine yv (J':=λρ=>∃m2 m3 fg E,ρ=[Y _,Y (.int _,J),Y (mk4 m0 m1 m2 m3,U),Y (.lst (fg.map Dat.int),U),E]/\mq 2 m2/\mq 2 m3/\mq 10 fg/\(fg≠[]->m3≠[])) (uB (gm hd W rfl rfl rfl cF cF cF λq h=>trivial) 0) ?_ ⟨[],[],[],L,W,t4 2,t4 2,t4 10,λh=>absurd rfl h⟩ ?_
 .refine zO (P:=λv=>1<=v/\v<=10) (uC hd W rfl rfl rfl cF cF cF cF) (λv=>uB (gm hd W rfl rfl rfl cF cF cF λ_ _=>trivial) 0) (λv=>uC hd W rfl rfl rfl cF cF cF cF) λm u=>?_;have k:=u.2;refine ac λ_ B=>?_;obtain⟨fg,e,l,h3⟩:=Ce (ρ:=full [Y (N,J),Y (.int _,J),Y _,Y _,Y (.int _,J)]) (p:=30091) (caps:=[1,0]) (it:=.v 4) (e1:=.v 2) (e2:=.e_ 27) (e3:=.v 1) hd W k cF cF hf (λ_=>W) (λ_=>W) (λ_=>W);apply B;apply fG e;refine zN (vj i W rfl cF hf) W rfl λd g=>?_;obtain⟨m2,rfl,h2⟩:=g;refine⟨[tI m0,tI m1,tI m2,tI []],W,zN (vj i W rfl cF hf) W rfl λd g=>?_⟩;obtain⟨m3,rfl,r⟩:=g;exact⟨_,W,bo ⟨_,W,m2,m3,fg,_,W,h2.m.1,r.m.1,⟨af (ag l) k,h3⟩,λ_=>r.m.2⟩⟩
 rintro _ ⟨m2,m3,fg,E,rfl,h2,h3,x,y⟩;obtain⟨F,fs,b,e,hl,z,j⟩:=ho a hf;refine jN (d:=tb ⟨fs,m0,m1,m2,m3,fg⟩) (f:=U) ?_ ⟨_,_,W,⟨λf hf=>(j.o f hf).1,du hl,h0.1,h1.1,h2.1,h3.1,x.1⟩,λf hf c hc=>j.w c ((j.o f hf).2.1 c hc),λf hf=>(j.o f hf).2.2,?_,s,y⟩
 .show bu (bu (C 18 [N,.int _]) _) _=_;rw[e];have A:im (Dat.tup _)=U:=nN fs
  have i2:im (Dat.tup [tI m0,tI m1,tI m2,tI m3])=U:=by
   simp only[im,mR,ip,ah];exact⟨mY _,mY _,mY _,mY _⟩
  have i3:=mY fg;refine (?_ : Y (tb ⟨fs,m0,m1,m2,m3,fg⟩,(b || im (Dat.tup _)) && ((_ || im (Dat.tup _)) && ((_ || im _) && U)))=_)
  simp_all
 .intro m i c hc;simp only[aA,bV,eg]at i
  rcases i with rfl|rfl|rfl|rfl|rfl
  .exact h0.2 c hc
  .exact h1.2 c hc
  .exact h2.2 c hc
  .exact h3.2 c hc
  .exact x.2 c hc
def ltN(a b:T):cc:=decide (a<b)
def loN:M.LO ltN:=⟨λx=>by simp[ltN],λx y z h a=>by simp[ltN]at *;exact cR h a,λx y h a=>by simp[ltN]at *;exact aH a h⟩
abbrev c1(l:O T):O Dat:=l.map λc=>sT [c]
def lets(fs:O Fm):O T:=(fs.map (·.1)).flatten
def U'(fs:O Fm):O T:=mf ltN (lets fs)
def Lp:c∈U' fs↔∃f∈fs,c∈f.1:=by
 rw[U',kK loN];unfold lets;simp
noncomputable def grT(t:Tb)(u:O T):O T:=if t.m0.isEmpty=U then []else u.map (·- 32)
def raw(t:Tb):O T:=[32]++QC.take (Z t.fg)++grT t (U' t.fs)++U' t.fs
def aaV:((aX 10).all λk=>uv (lr .str [.int (k:T)]) (Y (.str (T' [48+k]),J)) && decide (QC[k]?=Y (48+k)))=U:=by kernel_rfl
def xX(h:k<10):lr .str [.int (k:T)]=Y (.str (T' [48+k]),J)/\QC[k]?=Y (48+k):=by
 have:=bh.mp aaV k (bq.mpr h);rw[ah]at this;exact⟨rV this.1,c5 this.2⟩
def Y5:kh .nin (sT [c]) (.lst (c1 l))=Y (!decide (c∈l)):=by
 have hs:∀l:O _,eU 20 (c1 l)=U:=λl=>by
  induction l with
  |nil=>rfl
  |cons a r b=>show(U && eU 20 (c1 r))=U;rw[b];rfl
 show(if(U && eU 20 _)=U then Y (!(c1 l).any λy=>pL y (sT _))else L)=_;rw[hs,rQ,a5 W]
 congr 2
 induction l with
 |nil=>rfl
 |cons a r b=>
   show((T' _ == T' _) || (c1 r).any λy=>pL y (sT _))=_;rw[b]
   grind
def ve(h:be C a ρ=Y (tI m,f)):be C (.cmp .gt (.blt .len [a]) (.e_ 0)) ρ=Y (.bl (!m.isEmpty),J):=gn (ik h (gQ m)) W (by
 show Y (decide (0<((m.length):cx)))=_
 clear h; cases m with
 |nil=>rfl
 |cons a r=>simp)
def YM{t:Tb}(hf:f∈t.fs)(hc:c∈f.1):c∈raw t:=aw _ (Lp.mpr ⟨f,hf,hc⟩)
def YK{t:Tb}(hf:f∈t.fs)(hc:c∈f.1)(B:t.m0.isEmpty=J):c - 32∈raw t:=by
 refine aF _ (aw _ ?_);unfold grT;rw[B];exact bZ.mpr ⟨c,Lp.mpr ⟨f,hf,hc⟩,W⟩
def YL{t:Tb}(hk:k<Z t.fg)(h:k<10):48+k∈raw t:=by
 refine aF _ (aF _ (aw _ ?_));have:=(xX h).2;exact qi.mpr ⟨k,by simp_all⟩
def YN(t:Tb):32∈raw t:=aF _ (aF _ (aF _ jM))
def sq(t:Tb)(b:T)(f:O T):Prop:=f≠[]/\Z f<=b/\∀c∈f,c∈raw t
abbrev Xv(t:Tb)(f:O T)(z:g_):cT:=[Y (tb t,J),Y (.lst (c1 f),U),z]
def I27(t:Tb)(us:O Fm)(ρ:cT):Prop:=∃a z,ρ=Xv t a z/\sq t (11+2 * Z us) a
def J3(h:sq t b ss)(hc:c∈raw t):sq t (b+1) (ss++[c]):=⟨by simp,by rw[aj];exact bc h.2.1,λd hd=>by
 rcases ax.mp hd with q|q
 .exact h.2.2 d q
 simp_all⟩
def M2(B:O T)(c:T):c1 B++[sT [c]]=c1 (B++[c]):=by show _=Ry _ _;rw[dB];rfl
def Ts(ht:K5 t){us:O Fm}(hf:f∈t.fs)(I:Z us<=100)(h:I27 t us ρ):∃F,eO U [2] (jh f) ρ=Y F/\Go C Zl F λo=>∃B,o=.nx B/\I27 t (us++[f]) B:=by
 obtain⟨a,z,rfl,hs⟩:=h;refine⟨_,W,?_⟩;have g:=ht.ho f hf;have hlen:=hs.2.1;have fin:∀i,sq t (11+2 * Z us+2) i->∃B,Out.nx (Xv t _ (Y (jh f,J)))=.nx B/\I27 t (us++[f]) B:=λi h=>⟨_,W,_,_,W,h.1,by rw[aj];have:=h.2.1;omega,h.2.2⟩
 have l:be C (.cmp .eq (.blt _ [.ix (.v 2) (.e_ 0)]) (.e_ 1)) (full (Xv t a (Y (jh f,J))))=Y (.bl (decide (Z f.1=1)),J):=gn (ik W (len_T (af g.ll cF))) W (by
  show Y (decide _)=_
  rw[decide_eq_decide.mpr (show((f.1.length):cx)=1↔Z f.1=1 by omega)])
 by_cases h1:Z f.1=1
 .obtain⟨c,hc⟩:∃c,f.1=[c]:=by
   match q:f.1,h1 with
   |[c],_=>exact⟨c,W⟩
  have e:c∈f.1:=by simp_all
  have j:be C (.and (.cmp .eq (.blt .len [.ix (.v 2) (.e_ 0)]) (.e_ 1)) (.cmp .nin (.ix (.v 2) (.e_ 0)) (.v 1))) (full (Xv t a (Y (jh f,J))))=Y (.bl (!decide (c∈a)),J):=by
   rw[fA l,c0 h1];exact (gn W rfl (by rw[hc,Y5]))
  refine iN j (λ_=>?_) (λ_=>bo (fin a ⟨hs.1,C9 hlen,hs.2.2⟩)) λk h=>bo ⟨_,W,h⟩;refine qX (P:=(·= sT _)) ⟨sT _,J,W,W,by rw[hc]⟩ W (by exact wc hlen I I) λd hd=>?_;rw[hd,M2];have b:=J3 hs (YM hf e);refine iN (ve W) (λq=>?_) (λ_=>bo (fin _ ⟨b.1,du b.2.1,b.2.2⟩)) λk h=>bo ⟨_,W,h⟩;refine qX (P:=(·= sT [c - 32])) ⟨sT _,J,?_,W,W⟩ W (by exact wc hlen I I) λd hd=>?_
  .show jH .upper (sT _) []=_;rw[hc];exact (ze (λd hd=>by rw[au.mp hd];exact g.low c e) (by simp))
  .rw[hd,M2];exact bo (fin _ (J3 b (YK hf e (by simpa using q))))
 .have j:be C (.and (.cmp .eq (.blt .len [.ix (.v 2) (.e_ 0)]) (.e_ 1)) (.cmp .nin (.ix (.v 2) (.e_ 0)) (.v 1))) (full (Xv t a (Y (jh f,J))))=Y (.bl J,J):=by
   rw[fA l,c4 h1];rfl
  exact iN j (λq=>absurd q cF) (λ_=>bo (fin a ⟨hs.1,C9 hlen,hs.2.2⟩)) λk h=>bo ⟨_,W,h⟩
def DD(ht:K5 t):∃B,Cn D (n+1) 23 [tb t]=Y (.lst (c1 B),U)/\sq t 40 B:=by
 suffices h:Go _ _ [Y _,L,L] λo=>∃B,o=.rt (.lst (c1 B)) U/\sq t 40 B by
  obtain⟨_,h1,B,rfl,h2⟩:=h;exact⟨B,fT W h1,h2⟩
 generalize Cn D n=C;have a:=ht.hf
 obtain⟨fs,e,l,h1,_⟩:=oX (ρ:=full [Y (tb t,J),L,L]) (it:=.rng [.blt .len [.ix (.v 0) (.e_ 2)]]) (elt:=.blt .str [.v 0]) (λc=>sT [c]) _ (n9 (gQ _) (af a cF)) (by grind) (λ_=>W) λk hk=>by
  have hk:=bq.mp hk;exact⟨_,J,(xX (af hk a)).1,YL hk (af hk a)⟩
 refine fG (ds:=c1 (32::fs)) ?_ ?_
 .show bu (be C (.comp 1 U [] (.rng [.blt _ [.ix _ _]]) [] (.blt _ _)) (full [Y _,L,L])) _=_;rw[e];show(if 1+Z (fs.map λc=>sT _)<=aJ then _ else L)=_;rw[a5 (by rw[mS];exact lQ (ag l) a)];rfl
 .refine i4 (I:=I27 t) (lM W rfl (by show(mR _ || J)=U;rw[nN];rfl)) ⟨_,_,W,by simp,by simp_all,λc hc=>?_⟩ (λus f vs ρ q h=>Ts ht (by rw[q];simp) (by have:=ht.hl;grind) h) λb h=>?_
  .rcases aA.mp hc with rfl|hc
   .exact YN t
   simp_all
  .clear a e l h1 right; obtain⟨B,z,rfl,hs⟩:=h;exact⟨_,W,B,W,hs.1,by have:=hs.2.1;have:=ht.hl;omega,hs.2.2⟩
def Kk{ns:O cx}(ht:K5 t)(B:m<=100):∃x b,Cn D (n+3) 24 [.lst (ns.map Dat.int),tb t,.int (m:T)]=Y (sT x,b)/\Z x=m/\∀c∈x,c∈raw t:=by
 have hd:Dw (Cn D (n+2)) (.lst (ns.map _)):=dw;refine ac λ_ z=>?_;obtain⟨g,r,h0,hl,hs⟩:=DD (n:=n+1) ht
 apply z; suffices h:Go (Cn D _) _ [Y (.lst (ns.map _),J),Y _,Y (.int _,J),L] λo=>∃x b,o=.rt (sT x) b/\Z x=m/\∀c∈x,c∈raw t by
  obtain⟨_,h1,x,b,rfl,h2⟩:=h;exact⟨x,b,fT W h1,h2⟩
 generalize Dat.lst (ns.map _)=N at hd ⊢;have j :=bG.mpr h0;refine fG r ?_
 have hi:∀l:O _,mR (c1 l)=U:=λl=>by
  induction l with
  |nil=>rfl
  |cons a r s=>show(U && mR _)=U;rw[s];rfl
 refine fG (ds:=c1 (g++g.drop 1)) ?_ ?_
 .have A:Jf (.lst (c1 g)) (Y 1) L=Y (.lst (c1 (g.drop 1)),U):=by
   show Y (Dat.lst (M.cutD _ _ L),mR (M.cutD _ _ L))=_;rw[GK (by simp) (by rw[aD];exact ie.mpr j)];show Y (Dat.lst ((c1 g).drop 1),mR ((c1 g).drop 1))=_;rw[List.map_drop.symm,hi]
  apply fJ W (OI W rfl A);rw[oZ (by grind),dB.symm,hi]
 .have h2:∀c∈g++g.drop 1,c∈raw t:=λc hc=>by
   grind
  have h3:0<Z (g++g.drop 1):=by rw[aj];exact NO _ j
  generalize g++g.drop 1=s2 at h2 h3 ⊢;have k:lr .len [.lst (c1 s2)]=Y (.int (s2.length),J):=by simp
  refine ac λ_ z=>?_;obtain⟨d,f,e,_,y,rfl,u,p⟩:=Sj (ρ:=full [Y (N,J),Y _,Y (.int _,J),Y (.lst (c1 s2),U)]) (e:=.v 2) (caps:=[0,3]) (elt:=.ix (.v 2) (.call 13 [.v 1,.bin _ (.e_ 31) (.v 0),.e_ 35023,.blt .len [.v 2]])) (r:=(·= m)) ⟨m,_,W,W⟩ (λm h=>(af (ag h) (af B cF))) λw h i hi=>Mp W (gm hd W (jO W rfl) W (k) (by omega) cF (qm.mpr h3) λq h=>by omega) h2;apply z;exact jN e ⟨y,f,W,u,p⟩
def gX(t:Tb)(f:Fm)(w:T×aa×aa):O Ed:=Iy f w++(if t.m0.isEmpty=U then []else(Iy f w).map (Nw t.m0))
abbrev W4:O (T×aa):=[(119,jq),(98,qN),(109,qN),(101,jq)]
def hit(b:aa)(w:T×aa):cc:=decide (w.1∈[119,98]) == !(b == qN)
def hX(t:Tb)(f:Fm)(b:aa)(w:T×aa):O Ed:=if hit b w=U then gX t f (w.1,b,w.2)else []
abbrev w2D(w:T×aa):Dat:=.tup [sT [w.1],.str w.2]
abbrev CQ(t:Tb)(f:Fm)(B:g_)(es:O Ed)(C I F:g_):cT:=[Y (tb t,J),Y (jh f,J),Y (sT f.1,J),Y (tI f.2.1,J),Y (sT f.2.2,J),Y (tI t.m0,J),Y (tI t.m1,J),B,Y (.lst (es.map cY),U),C,I,F]
set_option tactic.hygienic true in
def Wg(ho:L7 f)(h:be C a ρ=Y (sT f.1,g)):be C (.bin .add (.lj .upper (.sl a L (Y (.e_ 1))) []) (.sl a (Y (.e_ 1)) L)) ρ=Y (sT (L6 f.1),J):=by
 refine ac λ_ j=>?_;obtain⟨b,e,_,h2,h3,d⟩:=BP ho
 apply j;have h1:Jf (sT f.1) L (Y 1)=Y (sT [b],J):=by
  show(if(T' _).length<=aJ then Y (Dat.str (dv (T' _) L _),J)else L)=_;rw[a5 (by exact af ho.ll (by decide))]
  obtain⟨c,r,hc⟩:∃c r,f.1=c::r:=by
   cases q:f.1 with
   |nil=>exact absurd q ho.ne
   |cons c r=>exact⟨c,r,W⟩
  rename_i q;rw[hc]at q ⊢;rw[OF];have:=V5 (l:=c::r) (i:=0) (by rw[<-hc];exact af ho.ll (by decide)) (by simp)
  simp_all
 exact fJ (Vv (OJ h W h1) h2) (OI h W h3) d
def R9(q:(decide (w.1∈f.2.2) && hit b w)=J):hX t f b w=[]:=by
 unfold hX gX Iy;by_cases h:hit b w=U
 .simp_all
 .rw[cb h]
def R8(q:(decide (w.1∈f.2.2) && hit b w)=U):hX t f b w=[(b,f.1,f.2.1,w.2)]++(if t.m0.isEmpty=U then []else [(b,L6 f.1,t.m0++f.2.1,w.2)]):=by
 rw[ah]at q;unfold hX gX Iy;rw[a5 q.2,a5 q.1];rfl
def En(t:Tb)(f:Fm)(b:aa)(w:T×aa):Z (hX t f b w)<=2:=by
 cases q:(decide (w.1∈f.2.2) && hit b w)with
 |false=>rw[R9 q];exact aU _
 |true=>
   rw[R8 q];cases t.m0.isEmpty
   .exact aq 2
   .exact xf 1
section
variable{t:Tb}{f:Fm}(ht:K5 t)(ho:L7 f)
include ht ho
def Xa{es:O Ed}(hl:Z es<900):Go C Zv (CQ t f B es (Y (.str b,J)) (Y (sT [w.1],J)) (Y (.str w.2,J))) λo=>∃F,o=.nx F/\F=CQ t f B (es++hX t f b w) (Y (.str b,J)) (Y (sT [w.1],J)) (Y (.str w.2,J)):=by
 have j:be C (.and (.cmp .isin (.v 10) (.v 4)) (.cmp .eq (.cmp .isin (.v 10) (.f_ "wb")) (.cmp .ne (.v 9) (.f_ "in")))) (full (CQ t f B es (Y (.str b,J)) (Y (sT [w.1],J)) (Y (.str w.2,J))))=Y (.bl (decide (w.1∈f.2.2) && hit b w),J):=by
  rw[fA (gn W rfl qW),(gn (gn W rfl qW) (gn W rfl rfl) W)];cases decide (w.1∈f.2.2)<;>rfl
 refine iN j (λq=>?_) (λq=>bo ⟨_,W,by rw[R9 q,aL]⟩) λa h=>bo ⟨_,W,h⟩;rw[R8 q,<-aM];apply pq (e:=(b,f.1,f.2.1,w.2)) (lR W rfl rfl rfl) W (af hl cF);refine (?_ : Go C _ (CQ t f B _ (Y _) (Y (sT _,J)) (Y (.str _,J))) _);refine iN (ve W) (λc=>?_) (λc=>bo ⟨_,W,?_⟩) λa h=>bo ⟨_,W,h⟩
 .refine pq (e:=(b,L6 _,t.m0++f.2.1,w.2)) (lR W (Wg ho W) (qh _ _ (by have:=ht.h0;have:=ho.cl;omega)) W) W (by rw[aj];exact az hl cF) (bo ⟨_,W,?_⟩);have d:t.m0.isEmpty=J:=by simpa using c
  rw[d];rfl
 .have d:t.m0.isEmpty=U:=by simpa using c
  rw[d,a5 W,aL]
end
abbrev bs(t:Tb):O aa:=if t.fg.isEmpty=U then [jw]else [jw,lz]
abbrev A2(t:Tb)(f:Fm)(b:aa):O Ed:=sJ t.m1 f (119,b,jq)++sJ t.m1 f (98,b,vt)
abbrev V2:O (T×aa):=[(109,vt),(101,jq)]
abbrev A3(t:Tb)(f:Fm)(w:T×aa):O Ed:=sJ t.m1 f (w.1,vt,w.2)
abbrev F1(t:Tb)(f:Fm):O Ed:=(bs t++[qN]).flatMap λb=>W4.flatMap (hX t f b)
abbrev sv(t:Tb)(f:Fm):O Ed:=F1 t f++(if t.m1.isEmpty=U then []else(bs t).flatMap (A2 t f)++V2.flatMap (A3 t f))
def EF(t:Tb):Z (bs t)<=2:=by
 show(if t.fg.isEmpty=U then [jw]else [jw,lz]).length<=2;split<;>decide
def Nd(t:Tb)(f:Fm):Z (F1 t f)<=24:=by
 have h:=hJ (l:=bs t++[qN]) λb _=>hJ (l:=W4) λw _=>En t f b w;have h2:=EF t;rw[aj]at h;have h:Z (F1 t f)<=8 * (Z (bs t)+1):=h;omega
def Md{es:O Ed}(h:be C c (full ρ)=Y (.bl (bg f w),f'))(B:Ev C x (full ρ) (·= cY (w.2.1,uT f.1,(if(w.2.1 == vt)=U then []else m)++f.2.1,w.2.2)))(hi:(ρ[i]?).join=Y (.lst (es.map cY),U))(F:ρ.set i (Y (.lst (es.map cY),U))=ρ)(hl:Z es<1000)(k:Go C ss (ρ.set i (Y (.lst ((es++sJ m f w).map cY),U))) Q):Go C (.ifs c [.mut .app i [x]] []::ss) ρ Q:=by
 refine iN (J':=λa=>a=ρ.set i (Y (.lst _,U))) h (λq=>?_) (λq=>bo ⟨_,W,?_⟩) λa e=>by rwa[e]
 .unfold sJ;rw[a5 q];exact pq B hi hl (bo ⟨_,W,W⟩)
 .unfold sJ;rw[cb (by rw[q];decide),aL,F]
def UB(ht:K5 t)(ho:L7 f):Cn D (n+1) 21 [tb t,jh f]=Y (.lst ((sv t f).map cY),U):=by
 suffices h:Go _ _ [Y _,Y _,L,L,L,L,L,L,L,L,L,L] λo=>o=.rt (.lst ((sv t f).map cY)) U by
  obtain⟨_,h1,rfl⟩:=h;exact fT W h1
 generalize Cn D n=C;have B:=Nd t f;have hb:=EF t;have p:=JG ho
 have K:pv C (.unp [2,3,4] (.v 1)) [Y (tb t,J),Y (jh f,J),L,L,L,L,L,L,L,L,L,L]=Y (.nx [Y (tb t,J),Y (jh f,J),Y (sT f.1,J),Y (tI f.2.1,J),Y (sT f.2.2,J),L,L,L,L,L,L,L]):=by
  show bu (if(im _ || J)=U then _ else _) _=_;rw[Gq];rfl
 refine bN K (bN (dX W (mY _)) (bN (dX W (mY _)) ?_))
 have E:be C (.sl (.lst [.con (.str jw),.con (.str lz)]) L (Y (.bin .add (.e_ 1) (.blt .int [.cmp .gt (.blt .len [.ix (.v 0) (.e_ 2)]) (.e_ 0)])))) (full [Y (tb t,J),Y (jh f,J),Y (sT f.1,J),Y (tI f.2.1,J),Y (sT f.2.2,J),Y (tI t.m0,J),Y (tI t.m1,J),L,L,L,L,L])=Y (.lst ((bs t).map Dat.str),U):=by
  have u:=ve (C:=C) (ρ:=full [Y (tb t,J),Y (jh f,J),Y (sT f.1,J),Y (tI f.2.1,J),Y (sT f.2.2,J),Y (tI t.m0,J),Y (tI t.m1,J),L,L,L,L,L]) (a:=.ix (.v 0) (.e_ 2)) W;unfold bs;revert u;cases t.fg.isEmpty
  .intro u;exact OJ W (fJ W (ik u W) W) W
  .intro u;exact OJ W (fJ W (ik u W) W) W
 refine fG E (fG W ?_);refine i4 (I:=λus ρ=>∃j c e,ρ=CQ t f (Y (.lst ((bs t).map _),U)) (us.flatMap λb=>W4.flatMap (hX t f b)) j c e) (lM (d:=.lst ((bs t++[qN]).map Dat.str)) ?_ W rfl) ⟨L,L,L,W⟩ ?_ ?_
 .unfold bs;cases t.fg.isEmpty<;>rfl
 .rintro us b vs _ z ⟨j,c,e,rfl⟩
  have s:Z us<=3:=by
   exact lQ (ag (c8 gh z).symm) hb
  have i:=hJ (m:=8) (l:=us) λb _=>hJ (l:=W4) λw _=>En t f b w;refine⟨_,W,?_⟩;rw[di];generalize (us.flatMap λb=>W4.flatMap _)=pre at i ⊢;refine i4 (I:=λws ρ=>∃c e,ρ=CQ t f (Y (.lst ((bs t).map _),U)) (pre++ws.flatMap (hX t f b)) (Y _) c e) (lM (d:=.lst (W4.map w2D)) W rfl rfl) ⟨c,e,by rw[iJ,aL];rfl⟩ ?_ ?_
  .rintro ws w vs _ A ⟨c,e,rfl⟩
   have x:Z ws<=4:=by
    have:=c8 gh A;simp only[aj,cg,NS]at this;exact af (aZ _ _) (ag this.symm)
   have h2:=hJ (l:=ws) λw _=>En t f b w;refine⟨_,W,?_⟩;obtain⟨o,N,M,rfl,rfl⟩:=Xa (es:=pre++ws.flatMap (hX t f b)) ht ho (by rw[aj];exact XN i h2 (ZB 8 s) (ZB 2 x));exact⟨_,N,_,W,_,_,by rw[di,aM,cQ]⟩
  .rintro _ ⟨c,e,rfl⟩;exact bo ⟨_,W,_,_,_,by rw[cQ]⟩
 rintro _ ⟨j,c,e,rfl⟩
 have hc:be C (.cmp .eq (.blt _ [.v 6]) (.e_ 0)) (full (CQ t f (Y (.lst ((bs t).map Dat.str),U)) (F1 t f) j c e))=Y (.bl t.m1.isEmpty,J):=gn (ik W (gQ _)) W (by
  cases t.m1 with
  |nil=>rfl
  |cons a r=>rfl)
 show Go C _ (CQ t f (Y (.lst ((bs t).map _),U)) (F1 t f) j c e) λo=>o=.rt (.lst ((F1 t f++(if t.m1.isEmpty=U then []else(bs t).flatMap (A2 t f)++V2.flatMap (A3 t f))).map cY)) U;generalize F1 t f=G at B hc ⊢
 cases q:t.m1.isEmpty with
 |true=>
   rw[q]at hc;apply sD hc W;rw[a5 W,aL]
 |false=>
   rw[q]at hc;apply jg hc;rw[cb cF];refine i4 (ρ0:=CQ t f (Y (.lst ((bs t).map _),J)) G j c e) (I:=λus ρ=>∃j c e,ρ=CQ t f (Y (.lst ((bs t).map _),J)) (G++us.flatMap (A2 t f)) j c e) (by rfl) ⟨j,c,e,by rw[iJ,aL]⟩ ?_ ?_
   .rintro us b vs _ z ⟨j,c,e,rfl⟩
    have y:(b == vt)=J:=by
     have:b∈bs t:=by rw[z];simp
     unfold bs at this;revert this;cases t.fg.isEmpty
     .intro h
      rcases aA.mp h with rfl|h
      .decide
      .rw[au.mp h];decide
     .intro h;rw[au.mp h];decide
    have s:Z us<=2:=by
     exact lQ (ag (c8 gh z).symm) hb
    have i:=hJ (m:=2) (l:=us) λb _=>by
     rw[aj];exact af (eC (mF (m:=t.m1) (f:=f) (w:=(119,b,jq))) (mF (m:=t.m1) (f:=f) (w:=(98,b,vt)))) cF
    refine⟨_,W,?_⟩;rw[di,cQ];have hl:Z (G++us.flatMap (A2 t f))<=100:=by exact XN B i s s
    rw[show G++(us.flatMap _++A2 t f b)=(G++us.flatMap (A2 t f))++sJ t.m1 f (119,b,jq)++sJ t.m1 f (98,b,vt) by simp[A2]];generalize G++us.flatMap _=H at hl ⊢;have k:=qh t.m1 f.2.1 (by have:=ht.h1;have:=ho.cl;omega);unfold Zp;rw[PW,PB];refine Md (f':=J) ?_ (lR W p (by rwa[y]) W) W rfl (az hl cF) (Md (f':=J) ?_ (lR W p (by rwa[y]) W) W rfl (by exact lQ hl (mF (m:=t.m1) (f:=f) (w:=(119,b,jq)))) (bo ⟨_,W,_,_,_,W⟩))
    .show be C _ (full (CQ t f (Y (.lst ((bs t).map _),J)) H (Y _) c e))=_;rw[fA (gn W rfl qW),(gn (ik W (len_T (af ho.ll cF))) W rfl)];unfold bg;cases decide ((119,b,jq).1∈f.2.2)<;>rfl
    .apply gn W rfl;rw[qW];show _=Y (decide _ && U);rw[ip]
   rintro _ ⟨j,c,e,rfl⟩
   have i:=hJ (m:=2) (l:=bs t) λb _=>by
    rw[aj];exact af (eC (mF (m:=t.m1) (f:=f) (w:=(119,b,jq))) (mF (m:=t.m1) (f:=f) (w:=(98,b,vt)))) cF
   have hl:Z (G++(bs t).flatMap (A2 t f))<=100:=by exact XN B i hb hb
   rw[<-aM];generalize G++(bs t).flatMap _=H at hl ⊢;refine i4 (I:=λws ρ=>∃c e,ρ=CQ t f (Y (.lst ((bs t).map _),J)) (H++ws.flatMap (A3 t f)) j c e) (lM (d:=.lst (V2.map w2D)) W rfl rfl) ⟨c,e,by rw[iJ,aL]⟩ ?_ ?_
   .rintro ws w vs _ A ⟨c,e,rfl⟩
    have F:w=(109,vt)\/w=(101,jq):=by
     have:w∈V2:=by rw[A];simp
     simpa using this
    have x:Z ws<=2:=by
     have:=c8 gh A;simp only[aj,cg,NS]at this;exact af (aZ _ _) (ag this.symm)
    refine⟨_,W,?_⟩;rw[di,cQ,<-aM];refine Md (f':=J) ?_ (lR W p W rfl) W rfl (by exact wc hl (hJ (g:=A3 t f) (l:=ws) λw _=>mF) x) (bo ⟨_,W,_,_,W⟩);apply gn W rfl;rw[qW]
    rcases F with rfl|rfl<;>exact c8 Y (ip _).symm
   .rintro _ ⟨c,e,rfl⟩;exact⟨_,W,W⟩
abbrev dg(t:Tb)(k:T):O Ed:=pF t (48+k,t.fg.getD k 0)
abbrev LE(t:Tb):O Ed:=GU++(aX t.fg.length).flatMap (dg t)++(if t.fg.isEmpty=U then []else [(mK,[],t.m3,lz)])++t.fs.flatMap (sv t)
abbrev Xw(t:Tb)(es:O Ed)(f z4 z5:g_):cT:=[Y (tb t,J),Y (Nr t,J),Y (.lst (es.map cY),U),f,z4,z5]
def wo(t:Tb)(f:Fm):Z (sv t f)<=30:=by
 have h3:=hJ (g:=A2 t f) (m:=2) (l:=bs t) λb _=>by
  rw[aj];exact af (eC (mF (m:=t.m1) (f:=f) (w:=(119,b,jq))) (mF (m:=t.m1) (f:=f) (w:=(98,b,vt)))) cF
 have e:Z V2=2:=rfl;have a:Z (if t.m1.isEmpty=U then []else(bs t).flatMap (A2 t f)++V2.flatMap _)<=6:=ite_le (aU _) (by exact XN h3 (hJ (g:=A3 t f) (l:=V2) λw _=>mF) (ZB 2 (EF t)) (ag e));rw[aj];exact af (eC (Nd t f) a) cF
def Tt(ht:K5 t){es:O Ed}(hk:k<Z t.fg)(hl:Z es<900):∃I,eO U [3] (.int (k:T)) (Xw t es F z4 R)=Y I/\Go C VO I λo=>∃B,o=.nx B/\∃F z4 R,B=Xw t (es++dg t k) F z4 R:=by
 refine⟨_,W,?_⟩;obtain⟨c,hc⟩:∃c,c=t.fg.getD k 0:=⟨_,W⟩
 have i:Az (tI t.fg) (.int (k))=Y (.int c):=by
  show vp _ _=_;rw[jK (by rw[aV,ai hk];rfl),hc];simp[hk]
 have m:∀{l:cT},(l[0]?).join=Y _->(l[3]?).join=Y _->be C (.ix (.ix _ (.e_ 2)) _) _=Y _:=λ{l}a b=>by
  have f:be C (.v 0) (full l)=Y (tb t,J):=by
   cases h:l[0]? with
   |none=>rw[h]at a;cases a
   |some o=>rw[h]at a;rw[nO,full,aV,h];rw[show o=Y (tb t,J)from a];rfl
  have j:be C (.v 3) (full l)=Y (.int (k),J):=by
   cases h:l[3]? with
   |none=>rw[h]at b;cases b
   |some o=>rw[h]at b;rw[nO,full,aV,h];rw[show o=Y (.int _,J)from b];rfl
  exact yr (yr f W rfl) j i
 have st:=(xX (af hk ht.hf)).1;have g:=qh _ [c] (az ht.h2 cF);unfold VO dg;rw[<-hc];refine kM (P:=(·= tI [c])) ⟨tI _,_,by rw[zS,gH,m W rfl];rfl,W,W⟩ λd hd=>?_;rw[hd];refine pq (e:=(jw,[48+k],t.m2++[c],mK)) (lR W st g W) W (af hl cF) ?_;refine pq (e:=(jq,[48+k],t.m2++[c],mK)) (lR W st g W) W (by rw[aj];exact az hl cF) ?_;refine pq (e:=(mK,[48+k],[c],mK)) (lR W st W rfl) W (by rw[aj,aj];exact bc (az hl cF)) (bo ⟨_,W,Y (.int (k),J),Y (tI [c],J),R,?_⟩);rw[aM,aM];rfl
def UA(ht:K5 t):Cn D (n+2) 22 [tb t]=Y (.lst ((LE t).map cY),U):=by
 have s:∀f∈t.fs,Cn D (n+1) 21 _=Y (.lst _,U):=λf hf=>UB ht (ht.ho f hf)
 suffices h:Go (Cn D _) _ [Y _,L,L,L,L,L] λo=>o=.rt (.lst ((LE t).map cY)) U by
  obtain⟨_,h1,rfl⟩:=h;exact fT W h1
 generalize Cn D _=C at s ⊢;have hf:=ht.hf;refine bN (dX W (Ej t)) (fG W ?_);refine Ep (I:=λus G=>∃b F d,G=Xw t (GU++us.flatMap (dg t)) b F d) (P:=(·= Z t.fg)) ⟨_,J,gQ _,W⟩ (λm h=>(af (ag h) (af hf cF))) ⟨L,L,L,W⟩ ?_ ?_
 .rintro m rfl us k vs _ i ⟨b,F,d,rfl⟩;have u:=vY i;have a:=hJ (g:=dg t) (l:=us) λk _=>aq 3;obtain⟨j,w,o,x,y,rfl,z,A,B,rfl⟩:=Tt ht (es:=GU++us.flatMap (dg t)) u.2 (by rw[aj];show 3+_<_;exact wc a (ZB 3 u.1) (ZB 3 hf));refine⟨j,w,_,x,_,W,z,A,B,?_⟩;rw[di,<-aM,cQ]
 rintro m rfl _ ⟨b,F,d,rfl⟩;have a:=hJ (g:=dg t) (l:=aX t.fg.length) λk _=>aq 3;have c:Z (GU++(aX t.fg.length).flatMap (dg t))<=40:=by rw[aj];show 3+_<=_;exact XN a hf hf hf
 show Go C _ _ λo=>o=.rt (.lst ((GU++(aX t.fg.length).flatMap (dg t)++(if t.fg.isEmpty=U then []else [(mK,[],t.m3,lz)])++t.fs.flatMap (sv t)).map cY)) U;generalize GU++(aX _).flatMap _=H at c ⊢;refine iN (J':=λG=>G=Xw t (H++if t.fg.isEmpty=U then []else [(mK,[],t.m3,lz)]) b F d) (ve W) (λq=>?_) (λq=>bo ⟨_,W,?_⟩) ?_
 .refine pq (e:=(mK,[],t.m3,lz)) (lR W rfl rfl rfl) W (az c cF) (bo ⟨_,W,?_⟩);have p:t.fg.isEmpty=J:=by simpa using q
  rw[p];rfl
 .have p:t.fg.isEmpty=U:=by simpa using q
  rw[p,a5 W,aL]
 .rintro _ rfl
  have r:Z (H++if t.fg.isEmpty=U then []else [(mK,[],t.m3,lz)])<=41:=by
   rw[aj];exact af (eC c (ite_le (aU _) (aq _))) cF
  generalize (H++if t.fg.isEmpty=U then []else [(mK,[],t.m3,lz)])=H2 at r ⊢;refine i4 (I:=λus G=>∃d,G=Xw t (H2++us.flatMap (sv t)) b F d) (lM W rfl (by show(mR _ || J)=U;rw[nN];rfl)) ⟨d,by rw[iJ,aL]⟩ ?_ ?_
  .rintro us f vs _ i ⟨d,rfl⟩;have a:=hJ (l:=us) λf _=>wo t f
   have E:Z us<=12:=by
    exact lQ (ag (c8 gh i).symm) ht.hl
   have ht.hl:=wo t f;refine⟨_,W,bN (DU (ds:=[.lst ((sv t f).map cY)]) W ?_ (HS (by rw[aD,aD,aj];omega))) (bo ⟨_,W,Y (jh f,J),?_⟩)⟩
   .have e:be C (.call 21 [.v 0,.v 5]) (full (Xw t (H2++us.flatMap (sv t)) b F (Y (jh f,J))))=Y (.lst _,U):=s f (by rw[i];simp);show pG C [.call 21 _] (full (Xw t (H2++us.flatMap _) b F (Y _)))=_;rw[gH,e];rfl
   .rw[<-dB,di,cQ,<-aM H2];rfl
  .rintro _ ⟨d,rfl⟩;exact⟨_,W,W⟩
def XJ(t:Tb)(w:T×aa×aa):Prop:=t.fg.isEmpty=U->w.2.1≠lz
variable{t:Tb}
def RJ(h:e∈Iy f w):e.1=w.2.1:=by
 simp_all
def RH(h:e∈gX t f w):e.1=w.2.1:=by
 rcases ax.mp h with h|h
 .exact RJ h
 .split at h
  .cases h
  .obtain⟨b,a,rfl⟩:=bZ.mp h;exact RJ (e:=b) a
def RI(h:e∈sJ m f w):e.1=w.2.1:=by
 unfold sJ at h;split at h
 .rw[au.mp h]
 .cases h
def qU:e∈s0 t↔∃f∈t.fs,∃w∈W6,e∈Iy f w:=by
 simp
def D0:e∈s1 t↔∃f∈t.fs,∃w∈W6,e∈gX t f w:=by
 show e∈(if t.m0.isEmpty=U then s0 t else s0 t++(s0 t).map (Nw _))↔_;unfold gX;cases t.m0.isEmpty
 .constructor
  .intro h
   rcases ax.mp h with h|h
   .obtain⟨f,hf,w,b,he⟩:=qU.mp h;exact⟨f,hf,w,b,aF _ he⟩
   .obtain⟨c,a,rfl⟩:=bZ.mp h;obtain⟨f,hf,w,b,he⟩:=qU.mp a;exact⟨f,hf,w,b,aw _ (dh he)⟩
  .rintro⟨f,hf,w,b,he⟩
   rcases ax.mp he with he|he
   .exact aF _ (qU.mpr ⟨f,hf,w,b,he⟩)
   .obtain⟨c,a,rfl⟩:=bZ.mp he;exact aw _ (dh (qU.mpr ⟨f,hf,w,b,a⟩))
 .refine (?_ : e∈s0 t↔∃f∈t.fs,∃w∈W6,e∈Iy f w++[])
  simp only[aL];exact qU
def P2:e∈DA t↔∃f∈t.fs,(∃w∈W6,e∈gX t f w)\/(t.m1.isEmpty=J/\∃w∈A6,e∈sJ t.m1 f w):=by
 show e∈(if t.m1.isEmpty=U then s1 t else s1 t++t.fs.flatMap (H6 _))↔_;cases t.m1.isEmpty
 .constructor
  .intro h
   rcases ax.mp h with h|h
   .obtain⟨f,hf,h⟩:=D0.mp h;exact⟨f,hf,.inl h⟩
   .obtain⟨f,hf,h⟩:=eN.mp h;exact⟨f,hf,.inr ⟨W,eN.mp h⟩⟩
  .rintro⟨f,hf,h|⟨_,h⟩⟩
   .exact aF _ (D0.mpr ⟨f,hf,h⟩)
   .exact aw _ (eN.mpr ⟨f,hf,eN.mpr h⟩)
 .refine (?_ : e∈s1 t↔_);rw[D0];constructor
  .rintro⟨f,hf,h⟩;exact⟨f,hf,.inl h⟩
  .rintro⟨f,hf,h|⟨h,_⟩⟩
   .exact⟨f,hf,h⟩
   .cases h
def zD:e∈s3 t↔e∈DA t/\(t.fg.isEmpty=U->e.1≠lz):=by
 show e∈(if t.fg.isEmpty=U then(DA t).filter Bt else DA t)↔_;cases t.fg.isEmpty
 .simp
 simp
def Gr(h:hit b w=U):hX t f b w=gX t f (w.1,b,w.2):=a5 h
def Gs(h:hit b w=J):hX t f b w=[]:=cb (by rw[h];decide)
def W_o:W4.flatMap (hX t f jw)=gX t f (119,jw,jq)++gX t f (98,jw,qN):=by
 show hX t f jw _++(hX t f jw _++(hX t f jw _++(hX t f jw _++[])))=_;rw[Gr (by decide +kernel),Gr (by decide +kernel),Gs (by decide +kernel),Gs (by decide +kernel)];simp
def W_l:W4.flatMap (hX t f lz)=gX t f (119,lz,jq)++gX t f (98,lz,qN):=by
 show hX t f lz _++(hX t f lz _++(hX t f lz _++(hX t f lz _++[])))=_;rw[Gr (by decide +kernel),Gr (by decide +kernel),Gs (by decide +kernel),Gs (by decide +kernel)];simp
def W_i:W4.flatMap (hX t f qN)=gX t f (109,qN,qN)++gX t f (101,qN,jq):=by
 show hX t f qN _++(hX t f qN _++(hX t f qN _++(hX t f qN _++[])))=_;rw[aL];rfl
def ol:¬jw=lz:=cF
def il:¬qN=lz:=cF
def al:¬vt=lz:=cF
def F9:e∈sv t f↔(∃w∈W6,XJ t w/\e∈gX t f w)\/(t.m1.isEmpty=J/\∃w∈A6,XJ t w/\e∈sJ t.m1 f w):=by
 have h1:e∈F1 t f↔∃w∈W6,XJ t w/\e∈gX t f w:=by
  unfold XJ;show e∈((if t.fg.isEmpty=U then [jw]else [jw,lz])++[qN]).flatMap (λb=>W4.flatMap _)↔_;cases t.fg.isEmpty
  .show e∈W4.flatMap _++(W4.flatMap _++(W4.flatMap _++[]))↔_;rw[W_o,W_l,W_i];simp only[W6,ax,aA,bV,eg,fx,gi,ck,false_implies,true_and];constructor
   .rintro((h|h)|(h|h)|(h|h))
    .exact .inl h
    .exact .inr (.inr (.inl h))
    .exact .inr (.inl h)
    .exact .inr (.inr (.inr (.inl h)))
    .exact .inr (.inr (.inr (.inr (.inl h))))
    .exact .inr (.inr (.inr (.inr (.inr h))))
   .rintro(h|h|h|h|h|h)
    .exact .inl (.inl h)
    .exact .inr (.inl (.inl h))
    .exact .inl (.inr h)
    .exact .inr (.inl (.inr h))
    .exact .inr (.inr (.inl h))
    .exact .inr (.inr (.inr h))
  .show e∈W4.flatMap _++(W4.flatMap _++[])↔_;rw[W_o,W_i];simp only[W6,ax,aA,bV,eg,fx,gi,true_implies];constructor
   .rintro((h|h)|(h|h))
    .exact .inl ⟨ol,h⟩
    .exact .inr (.inr (.inl ⟨ol,h⟩))
    .exact .inr (.inr (.inr (.inr (.inl ⟨il,h⟩))))
    .exact .inr (.inr (.inr (.inr (.inr ⟨il,h⟩))))
   .rintro(⟨_,h⟩|⟨q,h⟩|⟨_,h⟩|⟨q,h⟩|⟨_,h⟩|⟨_,h⟩)
    .exact .inl (.inl h)
    .exact absurd rfl q
    .exact .inl (.inr h)
    .exact absurd rfl q
    .exact .inr (.inl h)
    .exact .inr (.inr h)
 have h2:e∈(bs t).flatMap (A2 t f)++V2.flatMap (A3 t f)↔∃w∈A6,XJ t w/\e∈sJ t.m1 f w:=by
  unfold XJ;show e∈(if t.fg.isEmpty=U then [jw]else [jw,lz]).flatMap _++V2.flatMap _↔_;cases t.fg.isEmpty
  .show e∈(A2 t f jw++(A2 t f lz++[]))++(sJ _ f (109,vt,vt)++(sJ _ f (101,vt,jq)++[]))↔_;simp only[A6,A2,ax,aA,bV,eg,fx,gi,ck,false_implies,true_and];constructor
   .rintro(((h|h)|(h|h))|(h|h))
    .exact .inl h
    .exact .inr (.inr (.inl h))
    .exact .inr (.inl h)
    .exact .inr (.inr (.inr (.inl h)))
    .exact .inr (.inr (.inr (.inr (.inl h))))
    .exact .inr (.inr (.inr (.inr (.inr h))))
   .rintro(h|h|h|h|h|h)
    .exact .inl (.inl (.inl h))
    .exact .inl (.inr (.inl h))
    .exact .inl (.inl (.inr h))
    .exact .inl (.inr (.inr h))
    .exact .inr (.inl h)
    .exact .inr (.inr h)
  .show e∈(A2 t f jw++[])++(sJ _ f (109,vt,vt)++(sJ _ f (101,vt,jq)++[]))↔_;simp only[A6,A2,ax,aA,bV,eg,fx,gi,true_implies];constructor
   .rintro((h|h)|(h|h))
    .exact .inl ⟨ol,h⟩
    .exact .inr (.inr (.inl ⟨ol,h⟩))
    .exact .inr (.inr (.inr (.inr (.inl ⟨al,h⟩))))
    .exact .inr (.inr (.inr (.inr (.inr ⟨al,h⟩))))
   .rintro(⟨_,h⟩|⟨q,h⟩|⟨_,h⟩|⟨q,h⟩|⟨_,h⟩|⟨_,h⟩)
    .exact .inl (.inl h)
    .exact absurd rfl q
    .exact .inl (.inr h)
    .exact absurd rfl q
    .exact .inr (.inl h)
    .exact .inr (.inr h)
 rw[ax,h1];cases t.m1.isEmpty
 .exact or_congr Nn (h2.trans ⟨λh=>⟨W,h⟩,λh=>h.2⟩)
 .exact or_congr Nn ⟨(λh=>nomatch h),(λh=>nomatch h.1)⟩
def HV:e∈s3 t↔e∈t.fs.flatMap (sv t):=by
 rw[zD,P2,eN];constructor
 .rintro⟨⟨f,hf,h⟩,q⟩;refine⟨f,hf,F9.mpr ?_⟩
  rcases h with⟨w,a,h⟩|⟨b,w,a,h⟩
  .exact .inl ⟨w,a,λz=>RH h▸q z,h⟩
  .exact .inr ⟨b,w,a,λz=>RI h▸q z,h⟩
 .rintro⟨f,hf,h⟩
  rcases F9.mp h with⟨w,a,q,h⟩|⟨b,w,a,q,h⟩
  .exact⟨⟨f,hf,.inl ⟨w,a,h⟩⟩,λz=>by rw[RH h];exact q z⟩
  .exact⟨⟨f,hf,.inr ⟨b,w,a,h⟩⟩,λz=>by rw[RI h];exact q z⟩
def QB(hf:Z t.fg<=10):xF t=(aX t.fg.length).map λk=>(48+k,t.fg.getD k 0):=by
 refine lD (by rw[aD,aW];rw[xj];exact NN hf) λi h1 h2=>?_;rw[aD,aW]at h2;rw[List.getElem_zip,((aK.mp (xX (af h2 hf)).2).2)];simp[h2]
def Vx(hf:Z t.fg<=10):e∈LE t↔e∈got t:=by
 have hd:(xF t).flatMap (pF t)=(aX t.fg.length).flatMap (dg t):=by rw[QB hf,List.flatMap_map]
 show e∈GU++(aX _).flatMap _++(if t.fg.isEmpty=U then []else [(mK,[],t.m3,lz)])++t.fs.flatMap _↔e∈s3 t++GU++(if t.fg.isEmpty=U then []else(mK,[],t.m3,lz)::(xF t).flatMap _)
 rw[hd];simp only[ax,<-HV];cases q:t.fg.isEmpty
 .simp only[ck,et,aA,bV,eg];constructor
  .rintro(((h|h)|h)|h)
   .exact .inl (.inr h)
   .exact .inr (.inr h)
   .exact .inr (.inl h)
   .exact .inl (.inl h)
  .rintro((h|h)|h|h)
   .exact .inr h
   .exact .inl (.inl (.inl h))
   .exact .inl (.inr h)
   .exact .inl (.inl (.inr h))
 .have z:Z t.fg=0:=by simp_all
  rw[z];simp only[eu,bV,eg,List.range_zero,iJ];exact or_comm
end K35E
namespace K35E
open L2 M K35
def wB:L6 (c::r)=(c - 32)::r:=by
 have h:dv (T' (c::r)) (Y 1) L=T' r:=by
  refine(zm (p:=1) (by simp) (aq _) ?_).trans (by simp);have e:max (0:cx) (min ((c::r).length) ((c::r).length))=((c::r).length):=by rw[Int.min_self,Int.max_eq_right (T0 _)]
  simp only[Builtin.Str.strSliceIndices,show((1) > 0)=True by simp,eu];rw[cb (show¬(((c::r).length):cx)<0 from(λz=>(vG z (fQ _)))),e];rfl
 unfold L6;rw[h,Na];rfl
variable{t:Tb}{e:Ed}
def mr1:e∈s1 t↔∃B∈s0 t,e=B\/(t.m0.isEmpty=J/\e=Nw t.m0 B):=by
 show e∈(if t.m0.isEmpty=U then s0 t else s0 t++(s0 t).map (Nw _))↔_;cases t.m0.isEmpty
 .refine (?_ : e∈s0 t++(s0 t).map (Nw _)↔_);rw[ax,bZ];constructor
  .rintro(h|⟨B,h,rfl⟩)
   .exact⟨e,h,.inl rfl⟩
   .exact⟨B,h,.inr ⟨W,W⟩⟩
  .rintro⟨B,h,rfl|⟨_,rfl⟩⟩
   .exact .inl h
   .exact .inr ⟨B,h,W⟩
 .constructor
  .intro h;exact⟨e,h,.inl rfl⟩
  .rintro⟨B,h,rfl|⟨q,_⟩⟩
   .exact h
   .cases q
def mrb:e∈DA t↔e∈s1 t\/(t.m1.isEmpty=J/\∃f∈t.fs,∃w∈A6,e∈sJ t.m1 f w):=by
 show e∈(if t.m1.isEmpty=U then s1 t else s1 t++t.fs.flatMap (H6 _))↔_;cases t.m1.isEmpty
 .simp
 simp
def W6B:(W6.all λw=>decide (w.2.1∈kU) && decide (w.2.2∈kU))=U:=by decide +kernel
def A6B:(A6.all λw=>decide (w.2.1∈kU) && decide (w.2.2∈kU))=U:=by decide +kernel
structure uL(e:Ed):Prop where
 b:e.1∈kU
 o:e.2.2.2∈kU
 t:Z e.2.1<=6
 n:e.2.1=[]->e.1=mK/\e.2.2.2=lz
 c:e.2.2.1≠[]
 z:(∀c∈e.2.2.1,c≠0)\/(e.1∈o6/\e.2.2.2=jw)
 k:Z e.2.2.1<=6
def yi(h1:e.1∈kU)(h2:e.2.2.2∈kU)(h3:Z e.2.1<=6)(B:e.2.1≠[])(C:e.2.2.1≠[])(F:∀c∈e.2.2.1,c≠0)(f:Z e.2.2.1<=6):uL e:=⟨h1,h2,h3,λh=>absurd h B,C,.inl F,f⟩
def Wh(w:wT t):∀e∈got t,uL e:=λe he=>by
 have ht:=w.ok;have d:∀m∈[t.m0,t.m1,t.m2,t.m3,t.fg],∀c∈m,c≠0:=λm u c hc=>by have:=w.cm m u c hc;exact λz=>(NX this.1 (gv (Dd z) cF))
 have app:∀{a b:O cx},(∀c∈a,c≠0)->(∀c∈b,c≠0)->∀c∈a++b,c≠0:=λha hb c hc=>(ax.mp hc).elim (ha c) (hb c)
 rcases ax.mp he with he|he
 .rcases ax.mp he with he|he
  .have j:∀f∈t.fs,L7 f/\(∀c∈f.2.1,c≠0)/\f.2.1≠[]/\∃c r,f.1=c::r:=λf hf=>by
    have go:=ht.ho f hf;refine⟨go,λc hc=>by have:=w.cf f hf c hc;exact λz=>(NX this.1 (gv (Dd z) (by decide))),bG.mp go.c1,?_⟩
    cases q:f.1 with
    |nil=>exact absurd q go.ne
    |cons c r=>exact⟨c,r,W⟩
   rcases mrb.mp (zD.mp he).1 with h|⟨_,f,hf,k,n,h⟩
   .obtain⟨v,h0,h⟩:=mr1.mp h;obtain⟨f,hf,k,n,h0⟩:=qU.mp h0;obtain⟨go,l,i,c,r,hc⟩:=j f hf;have g:=bh.mp W6B k n;rw[ah,c6,c6]at g
    have o:v=(k.2.1,f.1,f.2.1,k.2.2):=by
     unfold Iy at h0;split at h0
     .exact au.mp h0
     .cases h0
    subst o;have ll:=go.ll
    rcases h with rfl|⟨_,rfl⟩
    .exact yi g.1 g.2 ll go.ne i l (by exact af go.cl cF)
    .refine yi g.1 g.2 ?_ ?_ (λh=>i (CK.mp h).2) (app (d _ (by simp)) l) ?_
     .show(L6 _).length<=6;rw[hc,wB];rwa[hc]at ll
     .show L6 _≠[];rw[hc,wB];simp
     .show(t.m0++f.2.1).length<=6;rw[aj];have:=ht.h0;have:=go.cl;omega
   .obtain⟨go,l,i,c,r,hc⟩:=j f hf;have g:=bh.mp A6B k n;rw[ah,c6,c6]at g;unfold sJ at h;split at h
    .rw[au.mp h];refine yi g.1 g.2 ?_ ?_ (λh=>i (CK.mp h).2) ?_ ?_
     .rw[aD];exact go.ll
     .rw[hc];simp
     .refine app (λc hc=>?_) l;split at hc
      .cases hc
      .exact d _ (by simp) c hc
     .have h1:=ht.h1;have h2:=go.cl;rw[aj];split
      .exact af (mP h2 _) cF
      .exact af (eC h1 h2) cF
    .cases h
  .have g:(GU.all λe=>decide (e.1∈kU) && (decide (e.2.2.2∈kU) && (decide (Z e.2.1<=6) && (decide (e.2.1≠[]) && (decide (e.2.2.1≠[]) && (decide (e.1∈o6) && (decide (e.2.2.2=jw) && decide (Z e.2.2.1<=6))))))))=U:=by decide +kernel
   have:=bh.mp g e he;simp only[ah,c6]at this;obtain⟨h1,h2,h3,x,s,y,A,B⟩:=this;exact⟨h1,h2,h3,λh=>absurd h x,s,.inr ⟨y,A⟩,B⟩
 .have he:e∈(if t.fg.isEmpty=U then []else(mK,[],t.m3,lz)::(xF t).flatMap _):=he;split at he
  .cases he
  .rename_i q
   rcases aA.mp he with rfl|he
   .exact⟨by show mK∈kU;decide,by show lz∈kU;decide,aU _,λ_=>⟨W,W⟩,w.m3 (λz=>q (by rw[z];rfl)),.inl (d _ (by simp)),by exact af ht.h3 cF⟩
   .obtain⟨p,hp,h⟩:=eN.mp he;have h1:∀c∈[p.2],c≠0:=λc hc=>by rw[au.mp hc];exact (d _ (by simp) _ (iX hp).2)
    simp only[pF,aA,bV,eg]at h
    rcases h with rfl|rfl|rfl
    .exact yi (by show jw∈kU;decide) (by show mK∈kU;decide) (by simp) (by simp) (by simp) (app (d _ (by simp)) h1) (by rw[aj];exact az ht.h2 cF)
    .exact yi (by show jq∈kU;decide) (by show mK∈kU;decide) (by simp) (by simp) (by simp) (app (d _ (by simp)) h1) (by rw[aj];exact az ht.h2 (by decide))
    .exact yi (by show mK∈kU;decide) (by show mK∈kU;decide) (by simp) (by simp) (by simp) h1 (by show 1<=6;decide)
def Gx(ht:K5 t):Z (got t)<=300:=by
 rw[aj,aj];show _+3+_<=_;exact lQ (Kh ht.hl) (Ky t)
def Mx(w:wT t):∃E:O Ed,J2 (got t)=E.map cY/\gE E/\(∀e,e∈E↔e∈got t)/\∀e∈E,uL e:=by
 obtain⟨E,h1,_,h3,a⟩:=TN _;have ok:=λe he=>Wh w e ((h3 e).mp he);exact⟨E,h1,⟨λe he=>(ok e he).b,λe he=>(ok e he).o,λe he=>af (ok e he).t cF,λe he=>(ok e he).n,af a (Gx w.ok)⟩,h3,ok⟩
def Qn(t:Tb)(d:T):Prop:=∃c∈U' t.fs,d=c\/(t.m0.isEmpty=J/\d=c - 32)
def VL(w:wT t)(hd:Qn t d)(B:v∈W6)(hl:t.fg.isEmpty=U->v.2.1≠lz):∃C,(v.2.1,[d],C,v.2.2)∈got t:=by
 obtain⟨c,hc,h⟩:=hd;obtain⟨f,hf,a⟩:=Lp.mp hc;obtain⟨C,b⟩:=w.own f hf c a;have g:(W6.all λv=>decide (v.1∈SK))=U:=cF;have h0 :=qU.mpr ⟨_,b,v,B,by
  unfold Iy;rw[a5 (c0 (c5 (bh.mp g v B)))]
  exact au.mpr W⟩
 clear w B hf a b g; rcases h with rfl|⟨i,rfl⟩
 .exact⟨C,aF _ (aF _ (zD.mpr ⟨mrb.mpr (.inl (mr1.mpr ⟨_,h0,.inl rfl⟩)),hl⟩))⟩
 .refine⟨t.m0++C,aF _ (aF _ (zD.mpr ⟨mrb.mpr (.inl (mr1.mpr ⟨_,h0,.inr ⟨i,?_⟩⟩)),hl⟩))⟩;show _=(v.2.1,L6 [c],t.m0++C,v.2.2)
  rw[wB]
def WG(hf:Z t.fg<=10)(hk:k<Z t.fg)(hs:s∈o6):∃f,(s,[48+k],f,mK)∈got t:=by
 have c:(48+k,t.fg[k])∈xF t:=by
  refine qi.mpr ⟨k,?_⟩;rw[List.getElem?_zip_eq_some];exact⟨((xX (af hk hf)).2),ai hk⟩
 have b:t.fg.isEmpty=J:=by
  grind
 have a:∀e∈pF t _,e∈got t:=λe he=>by
  apply aw _;show e∈(if t.fg.isEmpty=U then []else(mK,[],t.m3,lz)::(xF t).flatMap _);rw[b];exact jY _ (eN.mpr ⟨_,c,he⟩)
 simp only[o6,aA,bV,eg]at hs
 rcases hs with rfl|rfl|rfl
 .exact⟨_,a _ jM⟩
 .exact⟨_,a _ (jY _ jM)⟩
 .exact⟨_,a _ (jY _ (jY _ jM))⟩
def Z3(hs:s∈o6):(s,[32],[0],jw)∈got t:=by
 refine aF _ (aw _ ?_);have a:(o6.all λs=>decide ((s,[32],[0],jw)∈GU))=U:=by decide +kernel
 exact c5 (bh.mp a s hs)
def Y4(h:t.fg.isEmpty=J):(mK,[],t.m3,lz)∈got t:=by
 apply aw _
 grind
variable{E:O Ed}{x:O T}
inductive fin (E:O Ed) (x:O T):T->aa->Prop
 |z {s:aa}:s∈o6->fin E x x.length s
 |s {p:T} {e:Ed}:p<=Z x->e∈E->pre x p e=U->fin E x (p+Z e.2.1) e.2.2.2->fin E x p e.1
def vi(h:fin E x p s):(p=Z x/\s∈o6)\/∃e∈E,e.1=s/\pre x p e=U/\fin E x (p+Z e.2.1) e.2.2.2:=by
 cases h with
 |z h=>exact .inl ⟨W,h⟩
 |s a b c d=>exact .inr ⟨_,b,W,c,d⟩
def HI(w:wT t)(h:d∈raw t)(B:¬Qn t d):d=32\/∃k,k<Z t.fg/\d=48+k:=by
 rcases ax.mp h with h|h
 .rcases ax.mp h with h|h
  .rcases ax.mp h with h|h
   .exact .inl (au.mp h)
   .obtain⟨k,hk⟩:=qi.mp h
    have a:k<Z t.fg:=by
     rw[dz]at hk
     simp_all
    rw[dz,a5 a,(xX (af a w.ok.hf)).2]at hk;exact .inr ⟨k,a,(bL hk).symm⟩
  .exfalso;unfold grT at h;split at h
   .cases h
   .rename_i q;obtain⟨c,hc,rfl⟩:=bZ.mp h;exact B ⟨c,hc,.inr ⟨by simpa using q,W⟩⟩
 .exact absurd ⟨d,h,.inl rfl⟩ B
structure cl(t:Tb)(E:O Ed)(x:O T)(p:T):Prop where
 o:fin E x p jw
 i:(∃d,x[p]?=Y d/\Qn t d)->fin E x p qN
 d:(¬ ∃d,x[p]?=Y d/\Qn t d)->fin E x p jq
 n:t.fg.isEmpty=J->fin E x p mK
theorem G4(w:wT t)(B:∀e,e∈E↔e∈got t)(F:∀c∈x,c∈raw t):∀(m p:T),p+m=Z x->cl t E x p
 |0,p,h=>by
   have hp:p=Z x:=by omega
   subst hp;refine⟨.z cF,?_,λ_=>.z cF,λ_=>.z cF⟩;rintro⟨d,hd,_⟩;rw[qk (aq _)]at hd;cases hd
 |m+1,p,h=>by
   have hp :=az (aZ _ _) (ag h);have j:=G4 w B F m (p+1) (aH (iY (ag h)) (iY (ag h.symm)));have hd :=ai hp
   have f:[x[p]] <+: x.drop p:=by
    rw[fj hp];exact⟨x.drop (p+1),W⟩
   have go:∀{s o:aa}{C:O cx},(s,[x[p]],C,o)∈got t->fin E x (p+1) o->fin E x p s:=λ{s o C}he hf=>.s (aE hp) ((B _).mpr he) (c0 f) hf;by_cases g:Qn t x[p]
   .have b:∀{v:T×aa×aa},v∈W6->(t.fg.isEmpty=U->v.2.1≠lz)->fin E x (p+1) v.2.2->fin E x p v.2.1:=λ{v} y hl hf=>by
     obtain⟨C,he⟩:=VL w g y hl;exact go he hf
    have A:fin E x p lz->t.fg.isEmpty=J->fin E x p mK:=λhl hf=>.s (aE hp) ((B _).mpr (Y4 hf)) (c0 NR) hl;by_cases u:∃d,x[p+1]?=Y d/\Qn t d
    .have hi:=j.i u;refine⟨b (v:=(98,jw,qN)) cF (λ_=>by decide) hi,λ_=>b (v:=(109,qN,qN)) cF (λ_=>by decide) hi,λq=>absurd ⟨_,hd,g⟩ q,λq=>A (b (v:=(98,lz,qN)) cF (λz=>by rw[q]at z;cases z) hi) q⟩
    .have hi:=j.d u;refine⟨b (v:=(119,jw,jq)) cF (λ_=>by decide) hi,λ_=>b (v:=(101,qN,jq)) cF (λ_=>by decide) hi,λq=>absurd ⟨_,hd,g⟩ q,λq=>A (b (v:=(119,lz,jq)) cF (λz=>by rw[q]at z;cases z) hi) q⟩
   .have hi:¬ ∃d,x[p]?=Y d/\Qn t d:=by
     rintro⟨d,h1,h2⟩;rw[hd]at h1;exact g (bL h1▸h2)
    rcases HI w (F _ (bA hp)) g with e|⟨k,hk,e⟩
    .have hb:∀{s:aa},s∈o6->fin E x p s:=λ{s}hs=>go (by rw[e];exact Z3 hs) j.o;exact⟨hb cF,λz=>absurd z hi,λ_=>hb cF,λ_=>hb cF⟩
    .have l:t.fg.isEmpty=J:=by
      cases h:t.fg with
      |nil=>rw[h]at hk;cases hk
      |cons a r=>rfl
     have hb:∀{s:aa},s∈o6->fin E x p s:=λ{s}hs=>by
      obtain⟨C,he⟩:=WG w.ok.hf hk hs;exact go (by rw[e];exact he) (j.n l)
     exact⟨hb cF,λz=>absurd z hi,λ_=>hb cF,λ_=>hb cF⟩
end K35E
namespace K35E
open L2 M K35
variable{s:aa}
noncomputable abbrev mX(S:O Ed):O cx:=S.flatMap λe=>e.2.2.1
def Ch:aa->O Ed->aa->Prop
 |s,[],o=>s=o
 |s,e::S,o=>e.1=s/\Ch e.2.2.2 S o
theorem MP:∀{S:O Ed}{a b:aa}{e:Ed},Ch a S b->e.1=b->Ch a (S++[e]) e.2.2.2
 |[],_,_,_,h,q=>⟨q.trans h.symm,W⟩
 |_::S,_,_,_,h,q=>⟨h.1,MP h.2 q⟩
noncomputable abbrev zf(S:O Ed):O T:=S.flatMap λe=>e.2.1
def Yx(h:be C a (full ρ)=Y (d,U))(hi:im d=J):pv C (.set i a) ρ=Y (.nx (ρ.set i (Y (d,U)))):=by
 rw[zR,h];show(if(im d || U)=U then Y (Out.nx (ρ.set i (Y _)))else _)=_;rw[hi];rfl
def yZ:pv C (.SX c b) ρ=pW (λρ=>(be C c (full ρ)).bind λx=>gw x.1) (dI C b) kQ ρ:=rfl
def Qw(h:n<=1000):2 * n+1<kQ:=by
 unfold kQ;exact lQ h h
end K35E
namespace K35E
open L2 M K35
variable{F:O Ed}{x:O T}{p:T}{s:aa}
structure Rw{α:Type}(ks:O aa)(g:aa->ar α):Prop where
 nd:ks.Nodup
 mem:∀s,s∈ks↔∃k,g s=Y k
 st:∀s∈ks,s∈kU
noncomputable abbrev S5{α:Type}(g:aa->ar α)(s:aa)(v:α):aa->ar α:=λr=>if r=s then Y v else g r
theorem BC:∀{l:O aa},s∉l->iZ (.inr s) (l.map bQ) (l.map g)=L
 |[],_=>rfl
 |a::r,h=>by
   have q:¬(bQ a:Key)=.inr s:=λe=>h (pN e▸jM);show(if(bQ a)=.inr s then _ else iZ ..)=L;rw[cb q,BC λm=>h (jY _ m)]
def D7{α:Type}[VD α]{f:O aa}{g:aa->ar α}(h:Rw f g):iZ (.inr s) (f.map bQ) (f.map λs=>vD (g s))=(g s).map VD.v:=by
 by_cases m:s∈f
 .obtain⟨k,hk⟩:=(h.mem s).mp m;rw[LB m,hk];rfl
 .rw[BC m]
  cases q:g s with
  |none=>rfl
  |some k=>exact absurd ((h.mem s).mpr ⟨k,q⟩) m
theorem RO{α:Type}[VD α]{g:aa->ar α}{v:α}:∀{f:O aa},f.Nodup->∃B:O aa,putD (.inr s) (VD.v v) (f.map bQ) (f.map λs=>vD (g s))=(B.map bQ,B.map λr=>vD (S5 g s v r))/\Bq (.inr s) (f.map bQ)=U/\B.Nodup/\∀r,r∈B↔r∈f\/r=s
 |[],_=>⟨[s],by show([bQ s],[VD.v v])=([bQ s],[vD (if s=s then Y v else g s)]);rw[a5 W];rfl,W,by simp,by simp⟩
 |a::l,h=>by
   obtain⟨h1,h2⟩:=a6.mp h;by_cases q:a=s
   .subst q
    have e :=dY λr m=>by
     show vD (g r)=vD (if r=a then Y v else g r);rw[cb λz:r=a=>h1 (z▸m)]
    refine⟨_,?_,?_,h,λr=>⟨.inl,λz=>z.elim id λz=>z▸jM⟩⟩
    .show(if(bQ a)=.inr a then((bQ a)::l.map bQ,VD.v v::l.map λr=>vD _)else _)=(_,vD (if a=a then Y v else g a)::_)
     rw[a5 W,a5 W,e];rfl
    .show(if(bQ a)=.inr a then !((l.map bQ).any λi=>decide _)else _)=U
     grind
   .obtain⟨B,b,d,j,c⟩:=RO (v:=v) h2;refine⟨a::B,?_,?_,a6.mpr ⟨λm=>?_,j⟩,λr=>?_⟩
    .show(if(bQ a)=.inr s then _ else((bQ a)::(putD _ _ _ (l.map λs=>vD _)).1,vD _::(putD _ _ _ (l.map λs=>vD _)).2))=(_,vD (if a=s then Y v else g a)::_)
     rw[cb (λe=>q (pN e)),cb q,b];rfl
    .show(if(bQ a)=.inr s then _ else Bq _ _)=U;rw[cb (λe=>q (pN e)),d]
    .grind
    .rw[aA,aA,c,or_assoc]
def Y7{α:Type}[VD α]{f:O aa}{g:aa->ar α}(h:Rw f g)(hs:s∈kU)(v:α):∃B,mD .seti (dD f g) [VD.v v,.str s]=Y (dD B (S5 g s v))/\Rw B (S5 g s v):=by
 refine ac λ_ b=>?_;obtain⟨B,c,d,e,a⟩:=RO (v:=v) h.nd;apply b;refine⟨B,?_,e,λr=>?_,λr m=>?_⟩
 .show(if(f.map bQ).length<aJ/\Bq _ _=U then Y (Dat.dct (putD _ _ _ (f.map λs=>vD _)).1 (putD _ _ _ (f.map λs=>vD _)).2)else L)=_;rw[a5 ⟨by rw[aD];exact az (DS h.nd h.st) cF,d⟩,c]
 .rw[a];show _↔∃k,(if r=s then Y v else g r)=Y k;by_cases q:r=s
  .simp[q]
  .rw[h.mem];simp[q]
 .rcases(a r).mp m with m|m
  .exact h.st r m
  .exact m▸hs
structure CT{α:Type}[VD α](L':O Dat)(n:T)(G:T->aa->ar α):Prop where
 l:Z L'=n+1
 r:∀q,q<=n->∃ks,L'[q]?=Y (dD ks (G q))/\Rw ks (G q)
abbrev Hm{α:Type}(G:T->aa->ar α)(p:T)(s:aa)(v:α):T->aa->ar α:=λq=>if q=p then S5 (G p) s v else G q
section
variable{L':O Dat}{G:T->Row}
def F6{α:Type}[VD α]{L':O Dat}{n i:T}{v:α}{G:T->aa->ar α}{ρ:cT}{ke xi xe:Ex}{B I R:cc}(h:CT L' n G)(hp:p<=n)(hs:s∈kU)(h2:(ρ[i]?).join=Y (.lst L',U))(e1:be C xe (full ρ)=Y (VD.v v,B))(e2:be C ke (full ρ)=Y (.int (p:T),I))(e3:be C xi (full ρ)=Y (.str s,R)) :
  ∃P,pv C (.RV i ke xi xe) ρ=Y (.nx (ρ.set i (Y (.lst P,U))))/\CT P n (Hm G p s v):=by
 obtain⟨k,g,c⟩:=h.r p hp;obtain⟨a,b,b0⟩:=Y7 c hs v;refine⟨L'.set p (dD a (S5 (G p) s v)),?_,by rw[pP];exact h.l,λq f=>?_⟩
 .have h1:rJ L'.length ((p))=Y p:=by
   unfold rJ;rw[a5 (fQ _),a5 (by rw[h.l];exact uJ.mpr (bc hp))];simp
  have h3:Vp .seti [VD.v v,.str s] (.lst L') (.int (p))=Y (.lst (L'.set p (dD a (S5 (G p) s v)))):=by
   show((rJ _ _).bind λj=>(L'[j]?).bind λd=>(mD _ d _).map λm=>Dat.lst _)=_
   simp_all
  refine (?_ : bu (be C xe _) _=_);rw[e1];show(if im _=U then _ else L)=_;rw[a5 (VD.i v),e2];rw[e3];rw[h2];show(Vp _ _ _ (.int _)).map _=_;rw[h3];rfl
 .by_cases e:q=p
  .clear hs h2 e1 e2 e3 c b f; subst e;rw[eZ (by rw[h.l];exact bc hp)];show ∃k,Y _=Y (dD k (if q=q then _ else _))/\Rw k (if q=q then _ else _);rw[a5 W];exact⟨a,W,b0⟩
  .rw[bX (cB e)];show ∃k,L'[q]?=Y (dD k (if q=p then _ else _))/\Rw k (if q=p then _ else _);rw[cb e];exact h.r q f
def yI{α:Type}[VD α]{L':O Dat}{n q:T}{G:T->aa->ar α}(h:CT L' n G)(B:q<=n):∃f,Az (.lst L') (.int (q:T))=Y (dD f (G q))/\Rw f (G q):=
 let ⟨f,a,b⟩:=h.r q B
 ⟨f,jK a,b⟩
def zL{α:Type}[VD α]{f:O aa}{g:aa->ar α}(h:Rw f g):kh .isin (.str s) (dD f g)=Y (g s).isSome:=by
 show Y (iZ _ _ (f.map λs=>vD _)).isSome=_;rw[D7 h];cases g s<;>rfl
def Zq{α:Type}[VD α]{f:O aa}{g:aa->ar α}{v:α}(h:Rw f g)(e:g s=Y v):Az (dD f g) (.str s)=Y (VD.v v):=by
 show iZ _ _ (f.map λs=>vD _)=_;rw[D7 h,e];rfl
def ZD(h:Rw f g):jH .get (dD f g) [.str s,.int (v:T)]=Y (.int ((g s).getD v:T),J):=by
 show Y ((iZ _ _ (f.map λs=>vD _)).getD (.int _),J)=_;rw[D7 h];cases g s<;>rfl
def abm(h1:be C a ρ=Y (x',f))(h2:be C b ρ=Y (y,g))(h3:be C c ρ=Y (z,h))(h:jH o x' [y,z]=r):be C (.lj o a [b,c]) ρ=r:=by rwa[zT,h1,cJ,h2,cJ,h3]
def vO(x:O T)(p:T)(e:Ed)(G:T->Row):T->Row:=if pre x p e=U then match G (p+Z e.2.1) e.2.2.2 with
 |none=>G
 |some c=>Hm G p e.1 (min ((G p e.1).getD (Z e.2.2.1+c)) (Z e.2.2.1+c))else G
abbrev Xu(F:O Ed)(x:O T)(L':O Dat)(C z4 z6 f B:g_)(p:T):cT:=[Y (.lst (F.map cY),J),Y (sT x,J),Y (.lst L',U),C,z4,Y (.int (p:T),J),z6,f,B]
def UL(e:Ed):decide ((x.drop p).take (Z e.2.1)=e.2.1)=pre x p e:=decide_eq_decide.mpr ⟨λh=>fO.mpr h.symm,λh=>(fO.mp h).symm⟩
def Du(B:Z x<=10000)(hp:p<=Z x)(h1:be C a ρ=Y (sT x,f1))(h2:be C b ρ=Y (.int (p:T),f2))(h3:be C c ρ=Y (.int ((p+Z e.2.1:T):cx),P))(I:be C d ρ=Y (sT e.2.1,f4)) :
  be C (.cmp .eq (.sl a (Y b) (Y c)) d) ρ=Y (.bl (pre x p e),J):=by
 refine gn (x':=sT ((x.drop p).take e.2.1.length)) (f:=J) ?_ I ?_
 .rw[yE,h1];show bu (r8 _) _=_;rw[h2];show bu (r8 (be C c ρ)) _=_;rw[h3];show(if(T' x).length<=aJ then Y (Dat.str (dv _ (Y _) (Y _)),J)else L)=_;rw[a5 (by exact af B cF),J9 hp (aZ _ _),dn]
 .rw[abJ,UL]
def Tr{e:Ed}{I z4 z6 z7 R:g_}(hx:Z x<=1000)(hp:p<=Z x)(he:uL e)(h:CT L' x.length G):∃S,eO U [6] (cY e) (Xu F x L' I z4 z6 z7 R p)=Y S/\Go C Zk S λo=>∃P,o=.nx P/\∃B z6 z7 R,P=Xu F x B I z4 z6 z7 R p/\CT B x.length (vO x p e G):=by
 refine⟨_,W,?_⟩;apply bN (dX (fJ W (ik W (len_T (af he.t cF))) (by rw[o5])) W);have f:=Du (C:=C) (ρ:=full (Xu F x L' I z4 (Y (cY e,J)) (Y (.int ((p+Z e.2.1)),J)) R p)) (a:=.v 1) (b:=.v 5) (c:=.v 7) (d:=.ix (.v 6) (.e_ 1)) (af hx (by decide)) hp W rfl rfl rfl;by_cases q:pre x p e=U
 .rw[q]at f;obtain⟨n,c1,c2⟩:=yI h (q:=p+Z e.2.1) (lQ (ws hp) ((c5 q).length_le));have l:be C (.cmp _ (.ix (.v 6) (.e_ 3)) (.ix (.v 2) (.v 7))) (full (Xu F x L' I z4 (Y (cY e,J)) (Y (.int _,J)) R p))=Y (.bl (G _ _).isSome,J):=gn W (yr W rfl c1) (zL c2);have g:=(fA f).trans ((a5 W).trans l)
  cases k:G _ _ with
  |none=>
    rw[k]at g;exact jg g (bo ⟨_,W,L',_,_,_,W,by unfold vO;simp_all⟩)
  |some c=>
    rw[k]at g;refine iN (J':=λρ=>∃B R,ρ=Xu F x B I z4 (Y (cY e,J)) (Y (.int ((p+Z e.2.1)),J)) R p/\CT B _ _) g (λ_=>?_) (λz=>nomatch z) λm h=>bo ⟨_,W,by obtain⟨B,z,h1,h2⟩:=h;exact⟨B,_,_,z,h1,h2⟩⟩;apply bN (dX (fJ (ik W (gQ _)) (yr (yr W rfl c1) W (Zq c2 k)) (by show iT _ _ (.int _)=_;rw[o5])) W);refine ac λ_ j=>?_;obtain⟨kp,d1,d2⟩:=yI h hp
    obtain⟨B,m1,m2⟩:=F6 (i:=2) (ρ:=Xu F x L' I z4 (Y (cY e,J)) (Y (.int _,J)) (Y (.int ((Z e.2.2.1+c)),J)) p) (v:=min ((G p e.1).getD (Z e.2.2.1+c)) (Z e.2.2.1+c)) (ke:=.v 5) (xi:=.ix (.v 6) (.e_ 0)) (xe:=.bin .mn (.v 8) (.lj _ (.ix (.v 2) (.v 5)) [(.ix (.v 6) (.e_ 0)),(.v 8)])) h hp he.b W (fJ W (abm (yr W rfl d1) W rfl (ZD d2)) (by
     apply c8 (λi=>Y (Dat.int i,J))
     split<;>omega)) W rfl
    apply j;exact bN m1 (bo ⟨_,W,B,_,W,by unfold vO;simp_all⟩)
 .rw[Np]at q;rw[q]at f;exact jg ((fA f).trans (cb cF)) (bo ⟨_,W,L',_,_,_,W,by unfold vO;simp_all⟩)
end
end K35E
namespace K35E
open L2 M K35
variable{E F:O Ed}{x:O T}{p:T}{s:aa}{G:T->Row}
def qq(hp:p<=Z x)(h:pre x p e=U):p+Z e.2.1<=Z x:=by
 grind
structure Iv(E F:O Ed)(x:O T)(p:T)(us:O Ed)(G:T->Row):Prop where
 hi:∀q,p<q->q<=Z x->∀s,(G q s).isSome=U↔fin E x q s
 lo:∀q,q<p->∀s,(G q s).isSome=J
 a:∀s,(G p s).isSome=U->fin E x p s
 b:∀e∈us,pre x p e=U->e.2.1≠[]->fin E x (p+Z e.2.1) e.2.2.2->(G p e.1).isSome=U
 c:∀e∈us.drop F.length,e.2.1=[]->fin E x p lz->(G p mK).isSome=U
 z:p=Z x->∀s∈o6,(G p s).isSome=U
def X4:Hm G p s v p=S5 (G p) s v:=a5 W
def X5(h:q≠p):Hm G p s v q=G q:=cb h
def x5:(vO x p e G q s).isSome=U↔(G q s).isSome=U\/pre x p e=U/\(G (p+Z e.2.1) e.2.2.2).isSome=U/\q=p/\s=e.1:=by
 unfold vO;by_cases h:pre x p e=U
 .rw[a5 h]
  cases b:G _ _ with
  |none=>simp
  |some c=>
    by_cases a:q=p
    .subst a;show(Hm G q _ _ q s).isSome=U↔_;rw[X4];show(if s=e.1 then Y _ else G q s).isSome=U↔_;by_cases z:s=e.1<;>simp[z,h]
    .refine (?_ : (Hm G p _ _ q s).isSome=U↔_);rw[X5 a];simp[a]
 .rw[cb h];simp[h]
def VJ(g:gE E)(B:∀e,e∈F↔e∈E)(h:Iv E F x p us G)(C:∀e∈F,e∈us)(f:fin E x p lz):(G p lz).isSome=U:=by
 rcases vi f with⟨_,q⟩|⟨e,he,h1,h2,hi⟩
 .exact absurd q cF
 .rw[<-h1];exact h.b e (C e ((B e).mpr he)) h2 (λq=>absurd (h1.symm.trans (g.n e he q).1) cF) hi
def Qj(g:gE E)(B:∀e,e∈F↔e∈E)(hp:p<=Z x)(C:F++F=us++e::vs)(h:Iv E F x p us G):Iv E F x p (us++[e]) (vO x p e G):=by
 have l:e∈F:=by
  have:e∈F++F:=by rw[C];simp
  rcases ax.mp this with m|m<;>exact m
 have he:=(B e).mp l
 have j:∀d∈(us++[e]).drop _,d∈us.drop _\/(d=e/\Z F<=Z us):=λd m=>by
  by_cases q:Z F<=Z us
  .rw[vC q]at m
   rcases ax.mp m with m|m
   .exact .inl m
   .exact .inr ⟨au.mp m,q⟩
  .rw[List.drop_of_length_le (by rw[aj];exact cC q)]at m;cases m
 have f:Z F<=Z us->∀d∈F,d∈us:=λq d m=>by
  exact(List.prefix_of_prefix_length_le (by rw[<-C];exact Ja _ _) (Ja _ _) q).subset m
 have v:pre x p e=U->(G (p+Z e.2.1) e.2.2.2).isSome=U->fin E x (p+Z e.2.1) _:=λq k=>by
  by_cases y:e.2.1=[]
  .rw[y]at k ⊢;exact h.a _ k
  .exact(h.hi _ (CH (bG.mpr y)) (qq hp q) _).mp k
 refine⟨λq h1 h2 s=>?_,λq h1 s=>?_,λs k=>?_,λd m i o hf=>x5.mpr ?_,λd m i hf=>x5.mpr ?_,λz s hs=>x5.mpr (.inl (h.z z s hs))⟩
 .rw[x5,<-h.hi q h1 h2 s];exact⟨λk=>k.elim id λk=>absurd k.2.2.1 (jE h1),.inl⟩
 .rw[g9,Ne,x5,h.lo q h1 s];exact λk=>k.elim (λk=>nomatch k) λk=>absurd k.2.2.1 (ba h1)
 .rcases x5.mp k with k|⟨r,t,_,rfl⟩
  .exact h.a s k
  .exact .s hp he r (v r t)
 .rcases ax.mp m with m|m
  .exact .inl (h.b d m i o hf)
  .cases au.mp m;exact .inr ⟨i,(h.hi _ (CH (bG.mpr o)) (qq hp i) _).mpr hf,W,W⟩
 .clear hp C l v; rcases j d m with m|⟨rfl,u⟩
  .exact .inl (h.c d m i hf)
  .refine .inr ⟨c0 (by rw[i];exact NR),?_,W,(g.n d he i).1.symm⟩;rw[i,(g.n d he i).2];exact VJ g B h (f u) hf
def V7(g:gE E)(B:∀e,e∈F↔e∈E)(h:Iv E F x p (F++F) G):(G p s).isSome=U↔fin E x p s:=by
 refine⟨h.a s,λhf=>?_⟩
 rcases vi hf with⟨f,i⟩|⟨e,he,rfl,h2,hi⟩
 .exact h.z f s i
 .have d:=(B e).mpr he;by_cases y:e.2.1=[]
  .rw[y,(g.n e he y).2]at hi;rw[(g.n e he y).1];exact h.c e (by rwa[ju]) y hi
  .exact h.b e (aF _ d) h2 y hi
end K35E
namespace K35E
open L2 M K35
variable{F:O Ed}{x:O T}{s:aa}
def CT.to{G:T->Row}(h:CT L' n G)(e:∀q,q<=n->G q=f q):CT L' n f:=⟨h.l,λq a=>by rw[<-e q a];exact h.r q a⟩
def Ae(h:aX m=us++b::vs):b=Z us/\Z us<m:=by
 have h1:Z us<m:=by have:=c8 gh h;simp at this;simp_all
 have h2:=c8 (·[us.length]?) h;simp[h1]at h2;exact⟨h2.symm,h1⟩
def HD(g:gE E)(c3:∀e,e∈F↔e∈E)(ok:∀e∈F,uL e)(hl:Z F<=1000)(O':Z x<=900):∃(L':O Dat) (G:T->Row),Cn D (n+1) 25 [.lst (F.map cY),sT x]=Y (.lst L',U)/\CT L' x.length G/\∀q,q<=Z x->∀s,(G q s).isSome=U↔fin E x q s:=by
 suffices h:Go _ _ [Y (.lst _,J),Y _,L,L,L,L,L,L,L] λo=>∃L' G,o=.rt (.lst L') U/\CT L' _ G/\∀q,q<=Z x->∀s,(G q s).isSome=U↔fin E x q s by
  obtain⟨_,h1,L',G,rfl,h2⟩:=h;exact⟨L',G,fT W h1,h2⟩
 generalize Cn D n=C;have r :=len_T (af O' cF);apply fG (oW (n9 ((λh=>fJ (ik h r) W (by rfl)) W) (az O' cF)) (by rw[aD,aW];exact az O' cF) (by rw[zE]))
 refine i4 (xs:=o6) (I:=λus ρ=>∃L' c,ρ=[Y (.lst _,J),Y _,Y (.lst L',U),c,L,L,L,L,L]/\CT L' x.length λq s=>if q=Z x/\s∈us then Y 0 else L)
  (lM W rfl rfl) ⟨_,L,W,by simp,λq d=>⟨[],?_,fL,λs=>?_,λs m=>nomatch m⟩⟩ ?_ ?_
 .rw[bI,a5 (by simp;exact bc d)];rfl
 .simp
 .rintro us s vs _ B ⟨L',c,rfl,h⟩;refine⟨_,W,?_⟩
  obtain⟨H,m1,m2⟩:=F6 (i:=2) (ρ:=[Y (.lst _,J),Y (sT x,J),Y _,Y (.str s,J),L,L,L,L,L]) (ke:=.blt _ [.v 1]) (xi:=.v 3) (xe:=.e_ 0) h (aq _) (by
   exact(by decide:∀s∈o6,s∈kU) s (by rw[B];simp)) W rfl (ik W r) W
  refine bN m1 (bo ⟨_,W,H,_,W,m2.to λq d=>?_⟩)
  grind
 rintro _ ⟨L',c,rfl,h⟩
 refine Ep (P:=(·= Z x+1)) (I:=λus ρ=>∃L' G c V X t j l,ρ=[Y (.lst _,J),Y _,Y (.lst L',U),c,V,X,t,j,l]/\CT L' _ G/\∀q,q<=Z x->∀s,(G q s).isSome=U↔if Z x<q+(Z us) then fin E x q s else q=Z x/\s∈o6)
  ⟨_,J,(λh=>fJ (ik h r) W (by rfl)) W,W⟩ (λm S=>(af (ag S) (az O' cF))) ⟨L',_,c,L,L,L,L,L,W,h,λq d s=>?_⟩ ?_ ?_
 .show(if q=Z x/\s∈o6 then Y 0 else L).isSome=U↔if Z x<q then _ else _
  rw[cb (Nat.not_lt.mpr d)];simp
 .rintro m rfl us b vs _ B ⟨L',G,c,V,X,t,j,l,rfl,h,u⟩;obtain⟨rfl,hb⟩:=Ae B;refine⟨_,W,?_⟩;obtain⟨p,hp⟩:∃p,p+Z us=Z x:=⟨_,j4 (a8 hb)⟩
  apply bN (dX (fJ (ik W r) W (by rw[wQ,show((x.length):cx) - ((us.length))=(p) by omega])) W);have a :=af (aZ _ _) (ag hp)
  have J':Iv E F x p [] G:=by
   have R:=λs=>(u p a s).trans (by rw[cb (by omega)]);refine⟨λq h1 h2 s=>(u q h2 s).trans (by rw[a5 (by omega)]),λq h1 s=>?_,λs k=>?_,(λ_ m=>nomatch m),(λ_ m=>by simp_all),λz s hs=>((R s).mpr ⟨z,hs⟩)⟩
   .rw[g9,Ne,u q (aE (af h1 a)) s,cb (by omega)];exact λz=>a7 h1 (af a (ag z.1.symm))
   .obtain⟨rfl,q⟩:=(R s).mp k;exact .z q
  refine i4 (I:=λw ρ=>∃L' G t j l,ρ=Xu F x L' c (Y (.int _,J)) t j l p/\CT L' _ G/\Iv E F x p w G)
   (lM (f:=mR (F.map cY++F.map cY)) (fJ W rfl (by rw[oZ (by simp;exact af (eC hl hl) cF),<-dB])) W (by rw[<-dB,Eh,mQ])) ⟨L',G,_,_,_,W,h,J'⟩ ?_ ?_
  .rintro w e T' _ y ⟨L',G,t,j,l,rfl,h,A⟩
   have he:e∈F:=by
    have:e∈F++F:=by rw[y];simp
    grind
   obtain⟨K,h1,o,h2,U',rfl,H,M,N,Q,rfl,h3⟩:=Tr (af O' cF) a (ok e he) h;exact⟨K,h1,_,h2,_,W,H,_,M,N,Q,W,h3,Qj g c3 a y A⟩
  .rintro _ ⟨L',G,t,j,l,rfl,h,A⟩;refine bo ⟨_,W,L',G,c,_,_,t,j,l,W,h,λq d s=>?_⟩;rw[aj];show _↔if _<q+(Z us+1)then _ else _
   by_cases z:Z x<q+(Z us+1)
   .rw[a5 z];by_cases e:q=p
    .rw[e];exact V7 g c3 A
    .exact A.hi q (bw (lQ (ag hp) z) (cB e)) d s
   .rw[cb z,A.lo q (lQ (cC z) (ag hp.symm)) s]
    grind
 .rintro m rfl _ ⟨L',G,c,V,X,t,j,l,rfl,h,u⟩;exact⟨_,W,L',G,W,h,λq d s=>(u q d s).trans (by rw[a5 (by simp;exact fS _ _)])⟩
end K35E
namespace K35E
open L2 M K35
variable{E F:O Ed}{x:O T}{p:T}{s:aa}
abbrev sel(G:T->Row)(x:O T)(p:T)(s:aa)(e:Ed):cc:=e.1 == s && (pre x p e && (G (p+Z e.2.1) e.2.2.2).isSome)
abbrev EW(aq0:cx)(N:Dat)(F:O Ed)(x:O T)(L':O Dat)(p:T)(s:aa)(S:O Ed)(f B C:g_):cT:=[Y (N,J),Y (.int aq0,J),Y (.lst (F.map cY),J),Y (sT x,J),Y (.lst L',U),Y (.int (p:T),J),Y (.str s,J),Y (.lst (S.map cY),U),f,B,C]
section
variable{C:Fs}{S:O Ed}
def Tp{G:T->Row}{us:O Ed}(I:Z x<=900)(hp:p<=Z x)(he:uL e)(hu:Z us<1000)(h:CT L' x.length G):∃ρ1,eO U [9] (cY e) (EW aq0 N F x L' p s S (Y (.lst ((us.filter (sel G x p s)).map cY),U)) P B)=Y ρ1/\Go C Zj ρ1 λo=>∃O',o=.nx O'/\∃P B,O'=EW aq0 N F x L' p s S (Y (.lst (((us++[e]).filter (sel G x p s)).map cY),U)) P B:=by
 refine⟨_,W,?_⟩;apply bN (dX (fJ W (ik W (len_T (af he.t cF))) (by rw[o5])) W);have i:Z (us.filter (sel G x p s))<=Z us:=jb _ _;rw[tm];generalize us.filter _=R at *;have f:be C (.and (.cmp .eq (.ix (.v 9) (.e_ 0)) (.v 6)) (.and (.cmp .eq (.sl (.v 3) (Y (.v 5)) (Y (.v 10))) (.ix (.v 9) (.e_ 1))) (.cmp .isin (.ix (.v 9) (.e_ 3)) (.ix (.v 4) (.v 10))))) (full (EW aq0 N F x L' p s S (Y (.lst (R.map cY),U)) (Y (cY e,J)) (Y (.int ((p+Z e.2.1:T)),J))))=Y (.bl (sel G x p s e),J):=by
  rw[fA (gn W rfl Wz),sel]
  cases e.1 == s with
  |false=>rfl
  |true=>
    rw[fA (Du (C:=C) (ρ:=full (EW _ N F x L' p s S (Y (.lst _,U)) (Y _) (Y (.int _,J)))) (a:=.v 3) (b:=.v 5) (c:=.v 10) (d:=.ix _ _) (af I cF) hp W rfl rfl rfl)]
    cases q:pre x p e with
    |false=>rfl
    |true=>
      obtain⟨j,c1,c2⟩:=yI h (qq hp q);exact gn W (yr W rfl c1) (zL c2)
 cases q:sel G x p s e with
 |false=>
   rw[q]at f;rw[AK (by rw[q];decide),NW,aL];exact jg f (bo ⟨_,W,_,_,W⟩)
 |true=>
   rw[q]at f;rw[AJ q,dB];refine iN (J':=λρ=>ρ=EW _ N F x L' p s S (Y (.lst (R.map cY++[cY e]),U)) (Y (cY e,J)) (Y (.int ((p+Z e.2.1)),J))) f (λ_=>?_) (λz=>nomatch z) λg h=>bo ⟨_,W,_,_,h⟩;refine qX ⟨cY e,J,W,uA e,W⟩ W (by rw[aD];exact af (az i hu) cF) λd hd=>?_;rw[hd];exact bo ⟨_,W,W⟩
structure Wk(E:O Ed)(x:O T)(S:O Ed)(p:T)(s:aa):Prop where
 he:∀e∈S,e∈E
 hp:p<=Z x
 hs:s∈kU
 hl:Z S<=2 * p+1/\(s≠lz->Z S<=2 * p)
 hk:fin E x p s
 hc:Ch jw S s
 ht:zf S=x.take p
def stepK(ha:0<=aq0/\aq0<=31){G:T->Row}(hd:Dw C N)(g:gE E)(hF:∀e,e∈F↔e∈E)(ok:∀e∈F,uL e)(hFl:Z F<=1000)(hx:Z x<=400)(h:Wk E x S p s)(hp:p<Z x)(hL:CT L' x.length G)(hG:∀q,q<=Z x->∀s,(G q s).isSome=U↔fin E x q s):∃e y8 y9 c3,dI C N7 (EW aq0 N F x L' p s S z8 e0 O')=Y (.nx (EW aq0 N F x L' (p+Z e.2.1) e.2.2.2 (S++[e]) y8 y9 c3))/\Wk E x (S++[e]) (p+Z e.2.1) e.2.2.2/\(e.2.1=[]->s=mK/\e.2.2.2=lz):=by
 have ne:(F.filter (sel G x p s))≠[]:=by
  rcases vi h.hk with⟨q,_⟩|⟨e,he,hs,h2,hf⟩
  .simp_all
  .refine List.ne_nil_of_mem (jX.mpr ⟨(hF e).mpr he,?_⟩);rw[sel,h2,(hG _ (qq (aE hp) h2) _).mpr hf,hs];simp
 have pick:∀e∈F.filter (sel G x p s),Wk E x ../\(e.2.1=[]->s=mK/\e.2.2.2=lz)/\uL e:=λe m=>by
  obtain⟨m1,m2⟩:=jX.mp m;rw[ah,ah]at m2;obtain⟨m2,m3,A⟩:=m2;have hs:e.1=s:=by simpa using m2
  have he:=(hF e).mp m1;have f:=qq (aE hp) m3;refine⟨⟨λB c=>?_,f,g.o e he,?_,(hG _ f _).mp A,MP h.hc hs,?_⟩,λq=>hs▸g.n e he q,ok e m1⟩
  .rcases ax.mp c with q|q
   .exact h.he B q
   simp_all
  .obtain⟨Q,D⟩:=h.hl;by_cases q:e.2.1=[]
   .obtain⟨w,T'⟩:=g.n e he q;rw[hs]at w;have:=D (by rw[w];decide)
    simp_all
   .have :=bG.mpr q
    grind
  .rw[show zf _=zf S++e.2.1 by simp[zf],h.ht,List.take_add];exact c8 _ (fO.mp (c5 m3))
 generalize H:F.filter _=R at ne pick;have U':=h.hl.1
 suffices j:Go C N7 (EW _ N F x L' p s S z8 e0 O') λo=>∃e∈R,∃z8 e0 O',o=.nx (EW aq0 N F x L' (p+Z e.2.1) e.2.2.2 (S++[e]) z8 e0 O') by
  refine ac λ_ u=>?_;obtain⟨_,h1,e,m,k,l,b,rfl⟩:=j;apply u;exact⟨e,k,l,b,h1,(pick e m).1,(pick e m).2.1⟩
 refine fG W (i4 (I:=λus V=>∃e0 O',V=EW aq0 N F x L' p s S (Y (.lst ((us.filter (sel G x p s)).map cY),U)) e0 O') (by rfl) ⟨e0,O',W⟩ ?_ ?_)
 .rintro us e vs _ X ⟨e0,O',rfl⟩;exact Tp (af hx (by decide)) (aE hp) (ok e (by rw[X];simp)) (by grind) hL
 rintro _ ⟨e0,O',rfl⟩;rw[H];obtain⟨q,f,K⟩:=hd (aq0+Z S) 70001 _ (by omega) (by decide) (qm.mpr (bG.mpr ne));have a:q<Z R:=by omega
 have M:be C (.call 13 [(.v 0),(.bin .add (.v 1) (.blt .len [(.v 7)])),(.e_ 70001),(.blt .len [(.v 8)])]) (full (EW aq0 N F x L' p s S (Y (.lst (R.map cY),U)) e0 O'))=Y (.int (q),J):=by
  rwa[kc,cJ,cJ,fJ W (ik W (by rw[wO,aD])) (by exact c8 (λi=>Y _) (by rfl)),cJ,cJ,ik W (by rw[wO,aD])]
 obtain⟨y,z,r⟩:=pick _ (bA a);refine bN (dX (yr W M (jK (by rw[aV,ai a];rfl))) (uA _)) ?_;refine qX (P:=(·= cY _)) ⟨cY _,J,W,uA _,W⟩ W (by grind) λd hd=>?_;rw[hd,show S.map cY++[cY _]=(S++[R[q]]).map cY by simp];apply bN (dX (fJ W (ik W (len_T (by exact af r.t (by decide)))) (by rw[o5])) W);exact bN (dX W rfl) (bo ⟨_,bA a,_,_,_,W⟩)
abbrev WT(C:Fs)(ρ:cT):ar cc:=(be C (.cmp .lt (.v 5) (.blt .len [(.v 3)])) (full ρ)).bind λx=>gw x.1
theorem RX(ha:0<=aq0/\aq0<=31)(hd:Dw C N)(g:gE E)(hF:∀e,e∈F↔e∈E)(ok:∀e∈F,uL e)(I:Z F<=1000)(hx:Z x<=400){G:T->Row}(hL:CT L' x.length G)(hG:∀q,q<=Z x->∀s,(G q s).isSome=U↔fin E x q s):∀(m fuel:T)(S:O Ed)(p:T)(s:aa)(P R B:g_),Wk E x S p s->2 * (Z x - p)+(if s=mK then 1 else 0)<=m->m<fuel->∃S' s' y8 y9 O',pW (WT C) (dI C N7) fuel (EW aq0 N F x L' p s S P R B)=Y (.nx (EW aq0 N F x L' x.length s' S' y8 y9 O'))/\Wk E x S' x.length s'
 |m,0,S,p,s,_,_,_,h,a,hf=>absurd hf (j1 _)
 |m,fuel+1,S,p,s,P,R,B,h,a,hf=>by
   have b :=len_T (af hx cF)
   have hc:WT C (EW aq0 N F x L' p s S P R B)=Y (decide (p<Z x)):=by
    have:be C (.cmp .lt (.v 5) (.blt .len [(.v 3)])) (full (EW aq0 N F x L' p s S P R B))=Y (.bl (decide (p<Z x)),J):=gn W (ik W b) (by
     show Y (decide ((p:cx)<(x.length)))=_
     simp)
    unfold WT;rw[this];rfl
   unfold pW;rw[hc];by_cases hp:p<Z x
   .rw[c0 hp];obtain⟨e,y8,y9,O',h1,h2,h3⟩:=stepK ha hd g hF ok I hx h hp hL hG;have i:=h2.hp
    obtain⟨c,d⟩:∃c,m=c+1:=⟨m - 1,(j4 (wc a (wt (aE hp)) hp)).symm⟩
    subst d
    obtain⟨S',s',j,k,f,l,r⟩:=RX ha hd g hF ok I hx hL hG c fuel (S++[e]) (p+Z e.2.1) e.2.2.2 y8 y9 O' h2 (by
     by_cases q:e.2.1=[]
     .obtain⟨n,o⟩:=h3 q;rw[a5 n]at a;rw[q,o];exact a8 a
     .have z:=bG.mpr q
      split
      .exact a4 (ZB 2 (ws i)) z (ZB 2 (wt (aE hp))) a z
      .exact XN (ZB 2 (ws i)) (ZB 2 (wt (aE hp))) a z) (a8 hf)
    refine⟨S',s',j,k,f,?_,r⟩;rw[h1];exact l
   .rw[c4 hp];have :=aH h.hp (cj hp);subst this;exact⟨S,s,P,R,B,W,h⟩
end
def Kj(ha:0<=aq0/\aq0<=31){ns:O cx}(g:gE E)(B:∀e,e∈F↔e∈E)(ok:∀e∈F,uL e)(I:Z F<=1000)(C:Z x<=60)(hk:fin E x 0 jw):∃S s,Cn D (n+3) 26 [.lst (ns.map Dat.int),.int aq0,.lst (F.map cY),sT x]=Y (.lst (S.map cY),U)/\(∀e∈S,e∈E)/\Ch jw S s/\s∈o6/\zf S=x/\Z (mX S)<=6 * (2 * Z x+1):=by
 refine ac λ_ m=>?_;obtain⟨r,G,hc,c,d⟩:=HD g B ok I (af C (by decide));apply m;have hd:Dw (Cn D (n+2)) (.lst (ns.map _)):=dw;generalize Dat.lst (ns.map _)=N at hd ⊢;refine ac λ_ m=>?_;obtain⟨S,s,j,l,f,i,a⟩:=RX ha hd g B ok I (af C (by decide)) c d _ kQ [] 0 jw L L L ⟨(λ_ h=>nomatch h),aU _,by decide,by simp,hk,W,W⟩ (by split<;>simp) (Qw (af C (by decide)))
 apply m; have hs:s∈o6:=by
  rcases vi a.hk with⟨_,q⟩|⟨e,he,rfl,h2,_⟩
  .exact q
  .have b:=c5 h2;rw[uW]at b;rw[(g.n e he (List.prefix_nil.mp b)).1];decide
 refine⟨S,s,?_,a.he,a.hc,hs,by rw[a.ht,uV],?_⟩
 .refine fT W ?_
  suffices h:Go (Cn D _) _ [Y _,Y (.int _,J),Y (.lst _,J),Y _,L,L,L,L,L,L,L] λo=>o=.rt (.lst (S.map cY)) U by
   obtain⟨_,h1,rfl⟩:=h;exact h1
  exact bN (Kc ((yK W rfl).trans hc)) (bN (dX W rfl) (bN (dX W rfl) (fG W (bN (by rwa[yZ]) ⟨_,W,W⟩))))
 .have h1:=hJ λe he=>(ok e ((B e).mpr (a.he e he))).k;have:=a.hl.1
  grind
end K35E
namespace K35E
open L2 M K35
variable{F:O Ed}{x:O T}{s:aa}
def Kq(us:O Ed)(e:Ed):mX (us++[e])=mX us++e.2.2.1:=by simp[mX]
def Zh(B:S=us++e::vs):Z (mX us)+Z e.2.2.1<=Z (mX S)/\Z (zf us)+Z e.2.1<=Z (zf S):=by
 subst B;simp
def Kl(hl:Z (mX S)<=1000):Cn D (n+1) 27 [.lst (S.map cY)]=Y (tI (mX S),J):=by
 apply ph W;refine bN (dX W rfl) (i4 (I:=λus b=>∃z,b=[Y (.lst (S.map cY),J),Y (tI (mX us),J),z]) (by rfl) ⟨L,W⟩ ?_ ?_)
 .rintro us e vs _ a ⟨z,rfl⟩;exact⟨_,W,bN (dX (fJ W rfl (qh _ _ (af ((Zh a).1) hl))) (mY _)) (bo ⟨_,W,_,by rw[Kq];rfl⟩)⟩
 .rintro _ ⟨z,rfl⟩;exact⟨_,W,W⟩
def abe(h:be C a ρ=Y (.bl b,f)):be C (.not a) ρ=Y (.bl (!b),J):=by
 rw[Wv,h];rfl
end K35E
namespace K35E
open L2 M K35
noncomputable abbrev lK(r:O cx)(q:T)(e:Ed):cc:=decide (e.2.2.1 <+: r.drop q)
inductive Wl (E:O Ed) (x:O T) (r:O cx):T->T->aa->Prop
 |z:Wl E x r 0 0 jw
 |s {p q:T} {e:Ed}:Wl E x r p q e.1->e∈E->pre x p e=U->lK r q e=U->Wl E x r (p+Z e.2.1) (q+Z e.2.2.1) e.2.2.2
section
variable{E:O Ed}{x:O T}{r:O cx}
def rY(B:q<=Z r)(h:lK r q e=U):q+Z e.2.2.1<=Z r:=by
 grind
def Wl.le{p q:T}{s:aa}(h:Wl E x r p q s):p<=Z x/\q<=Z r:=by
 induction h with
 |z=>simp
 |s _ _ h1 h2 a=>exact⟨qq a.1 h1,rY a.2 h2⟩
def Wl.st(ho:∀e∈E,e.2.2.2∈kU){p q:T}{s:aa}(h:Wl E x r p q s):s∈kU:=by
 cases h with
 |z=>exact jM
 |s _ he _ _=>exact ho _ he
def XS(E:O Ed)(x:O T)(r:O cx):Prop:=∃s∈o6,Wl E x r x.length r.length s
theorem Sn:∀(S us:O Ed){s o:aa},(∀e∈us++S,e∈E)->Ch s S o->Wl E (zf (us++S)) (mX (us++S)) (zf us).length (mX us).length s->Wl E (zf (us++S)) (mX (us++S)) (zf (us++S)).length (mX (us++S)).length o
 |[],us,s,o,_,hc,h=>by
   rw[aL]at h ⊢;exact(hc)▸h
 |e::S,us,s,o,he,hc,h=>by
   obtain⟨rfl,hc⟩:=hc;have a:us++e::S=(us++[e])++S:=by simp
   have w:=Wl.s h (he e (by simp)) (by simp) (by simp);have b1:Z (zf us)+Z e.2.1=Z (zf (us++[e])):=by simp[zf]
   have b2:Z (mX us)+Z e.2.2.1=Z (mX (us++[e])):=by simp[mX]
   rw[b1,b2]at w;rw[a]at w he ⊢;exact Sn S _ he hc w
def WU(he:∀e∈S,e∈E)(hc:Ch jw S s)(hs:s∈o6):XS E (zf S) (mX S):=⟨s,hs,Sn S [] he hc .z⟩
end
section
variable{G:T->Row}
end
section
variable{E:O Ed}{x:O T}{r:O cx}{A:T->O (T×aa)}
noncomputable abbrev zk(a:T×aa)(e:Ed):T×aa:=(a.1+Z e.2.1,e.2.2.2)
abbrev gd(x:O T)(r:O cx)(q:T)(a:T×aa)(e:Ed):cc:=(e.1 == a.2 && lK r q e) && pre x a.1 e
noncomputable abbrev upA(A:T->O (T×aa))(k:T)(a:T×aa):T->O (T×aa):=λq=>if q=k then A k++[a]else A q
def AX(x:O T)(r:O cx)(q:T)(a:T×aa)(e:Ed)(A:T->O (T×aa)):T->O (T×aa):=if(gd x r q a e && !decide (zk a e∈A (q+Z e.2.2.1)))=U then upA A (q+Z e.2.2.1) (zk a e)else A
structure Sw(E:O Ed)(x:O T)(r:O cx)(A:T->O (T×aa)):Prop where
 z:(0,jw)∈A 0
 s:∀q,∀a∈A q,Wl E x r a.1 q a.2
 n:∀q,(A q).Nodup
abbrev Cy(x:O T)(r:O cx)(A:T->O (T×aa))(q:T)(a:T×aa)(e:Ed):Prop:=gd x r q a e=U->zk a e∈A (q+Z e.2.2.1)
def Fb(h:b∈A q):b∈upA A k a q:=by
 grind
def Ol(h:b∈A k):b∈AX x r q a e A k:=by
 unfold AX;split
 .exact Fb h
 .exact h
def Yo(h:k≠q+Z e.2.2.1):AX x r q a e A k=A k:=by
 unfold AX;by_cases c:(gd x r q a e && !decide (zk a e∈A (q+Z e.2.2.1)))=U
 .rw[a5 c];exact cb h
 .rw[cb c]
set_option tactic.hygienic true
def Of(h:Sw E x r A)(ha:Wl E x r a.1 q a.2)(he:e∈E):Sw E x r (AX x r q a e A):=by
 unfold AX;split
 .rename_i c;rw[ah,ah,ah]at c;obtain⟨⟨⟨c1,c2⟩,f⟩,g⟩:=c;refine⟨Fb h.z,λk b hb=>?_,λk=>?_⟩
  .have hb:b∈(if k=q+(Z e.2.2.1) then A _++[zk a e]else A k):=hb;split at hb
   .rename_i d
    rcases ax.mp hb with hb|hb
    .exact h.s k b (by rwa[d])
    .rw[au.mp hb,d];exact .s ((eq_of_beq c1)▸ha) he f c2
   .exact h.s k b hb
  .show(if k=q+(Z e.2.2.1) then A _++[zk a e]else A k).Nodup;split
   .refine cO.mpr ⟨h.n _,by simp,λb hb c hc z=>?_⟩
    simp_all
   .exact h.n k
 .exact h
def zW(h:Cy x r A k b d):Cy x r (AX x r q a e A) k b d:=λc=>Ol (h c)
def WK:Cy x r (AX x r q a e A) q a e:=λc=>by
 unfold AX;split
 .grind
 .rename_i d;rwa[c,oz,gZ,Bool.not_eq_false,c6]at d
def SV(h:Sw E x r A)(hc:∀q,q<Z r->∀a∈A q,∀e∈E,Cy x r A q a e)(B:∀e∈E,e.2.2.1≠[])(w:Wl E x r p q s):(p,s)∈A q:=by
 induction w with
 |z=>exact h.z
 |s w he h1 h2 b=>
   rename_i p q e;refine hc q ?_ _ b _ he ?_
   .have:=rY w.le.2 h2;have:=bG.mpr (B _ he);omega
   simp_all
set_option tactic.hygienic false
def Tg(h:Sw E x r A)(ho:∀e∈E,e.2.2.2∈kU)(q:T):Z (A q)<=(Z x+1) * 6:=by
 have hs:∀a∈A q,a∈(aX _).flatMap λp=>kU.map λs=>(p,s):=λa ha=>by
  have w:=h.s q a ha;refine eN.mpr ⟨_,bq.mpr (jk w.le.1),bZ.mpr ⟨_,w.st ho,W⟩⟩
 apply af ((h.n q).length_le_of_subset λa ha=>hs a ha);simp[List.map_const']
end
section
variable{F:O Ed}{x:O T}{r:O cx}{k:T}{A:T->O (T×aa)}{SL:O Dat}{a:T×aa}
def vo{α B:Type}{f:α->B}{l:O α}{lo hi:ar cx}:M.cutD (l.map f) lo hi=(M.cutD l lo hi).map f:=by
 unfold M.cutD;simp
def MD{α:Type}{l:O α}(h:i<=Z l):M.cutD l (Y (i:T)) (Y ((i+c:T):cx))=(l.drop i).take c:=by
 unfold M.cutD;rw[HT.uZ,HT.uZ,eG h];by_cases q:i+c<=Z l
 .simp_all
 .rw[NN (aE (cC q)),cM (by simp),cM (by rw[dF];exact lQ (ws h) (cC q))]
noncomputable abbrev pf(a:T×aa):Dat:=.tup [.int (a.1:T),.str a.2]
theorem RM:∀l:O (T×aa),eU 20 (l.map pf)=U
 |[]=>rfl
 |a::l=>by
   show(iL 20 (pf a) && eU 20 (l.map pf))=U;rw[RM l];rfl
def Sl(a b:T×aa):pL (pf a) (pf b)=decide (a=b):=by
 show((((a.1):cx) == ((b.1))) && ((a.2 == b.2) && U))=_;rw[ip,pU,ah,eb,eb,c6,Prod.ext_iff];exact⟨λh=>⟨vF h.1,h.2⟩,λh=>⟨c8 _ h.1,h.2⟩⟩
def Vn(b:T×aa)(l:O (T×aa)):kh .nin (pf b) (.lst (l.map pf))=Y (!decide (b∈l)):=by
 show(if(iL 20 _ && eU 20 _)=U then Y (!(l.map pf).any λy=>pL y _)else L)=_;rw[RM,List.any_map];apply c8 (λt=>Y _);rw[pU,lE,c6];constructor
 .rintro⟨y,c,h⟩;have h:pL _ (pf b)=U:=h;rw[Sl,c6]at h;exact h▸c
 .exact λh=>⟨b,h,by show pL _ (pf b)=U;rw[Sl,c6]⟩
structure SR(SL:O Dat)(n k:T)(A:T->O (T×aa)):Prop where
 l:Z SL=n+1
 r:∀q,k<=q->q<=n->SL[q]?=Y (.lst ((A q).map pf))
abbrev EI(F:O Ed)(x:O T)(r:O cx)(SL:O Dat)(z4 z5 z6 f B C I:g_):cT:=[Y (.lst (F.map cY),J),Y (sT x,J),Y (tI r,J),Y (.lst SL,U),z4,z5,z6,f,B,C,I]
def OG{ρ:gC}{a b c d:Ex}{q:T}{B R I P:cc}(S:q<=Z r)(h1:be C a ρ=Y (tI r,B))(h2:be C b ρ=Y (.int (q:T),R))(h3:be C c ρ=Y (.int ((q+Z e.2.2.1:T):cx),I))(h4:be C d ρ=Y (tI e.2.2.1,P)) :
  be C (.cmp .eq (.sl a (Y b) (Y c)) d) ρ=Y (.bl (lK r q e),J):=by
 refine gn (x':=tI ((r.drop q).take e.2.2.1.length)) (f:=J) ?_ h4 ?_
 .rw[yE,h1];show bu (r8 _) _=_;rw[h2];show bu (r8 (be C c ρ)) _=_;rw[h3];show Y (Dat.tup (M.cutD (r.map _) (Y _) (Y _)),J)=_;rw[vo,MD S]
 .rw[Wy (p5 19 _) (p5 19 _),ud];exact c8 Y (decide_eq_decide.mpr ⟨λh=>fO.mpr h.symm,λh=>(fO.mp h).symm⟩)
def Yk(hx:Z x<=6000)(ha:a.1<=Z x)(I:q<Z r)(he:uL e)(hn:∀q,Z (A q)<=100000)(h:SR SL r.length (q+1) A) :
  ∃R,eO U [7] (cY e) (EI F x r SL (Y (.int (q:T),J)) (Y (.int (a.1:T),J)) (Y (.str a.2,J)) P S z9 B)=Y R/\Go C lbW R λo=>∃O',o=.nx O'/\∃SL P S z9 B,O'=EI F x r SL (Y (.int (q:T),J)) (Y (.int (a.1:T),J)) (Y (.str a.2,J)) P S z9 B/\SR SL r.length (q+1) (AX x r q a e A):=by
 refine⟨_,W,?_⟩;apply bN (dX (fJ W (ik W (gQ _)) W) W);apply bN (dX (d:=pf (zk a e)) (by rw[zS,gH,fJ W (ik W (len_T (af he.t (by decide)))) W];rfl) W);have w:(gd x r q a e && !decide (zk a e∈A _))=J->SR SL _ _ (AX x r q a e A):=λc=>by unfold AX;rwa[cb (by rw[c];decide)]
 have y:be C (.and (.cmp .eq (.ix (.v 7) (.e_ 0)) (.v 6)) (.cmp .eq (.sl (.v 2) (Y (.v 4)) (Y (.v 8))) (.ix (.v 7) (.e_ 2)))) (full (EI F x r SL (Y (.int (q),J)) (Y (.int (a.1),J)) (Y (.str a.2,J)) (Y (cY e,J)) (Y (.int ((q+Z e.2.2.1)),J)) (Y (pf (zk a e),J)) B))=Y (.bl (e.1 == a.2 && lK r q e),J):=by
  rw[fA (gn W rfl Wz)];cases e.1 == a.2
  .rfl
  .exact OG (aE I) W rfl rfl rfl
 apply bN (dX y W);by_cases c1:(e.1 == a.2 && lK r q e)=U
 .have b:=rY (aE I) ((ah _ _▸c1).2);rw[c1];show Go C _ (EI F x r SL (Y (.int _,J)) (Y (.int _,J)) (Y (.str _,J)) (Y _) (Y (.int ((q+Z e.2.2.1:T)),J)) (Y (pf _,J)) (Y _)) _;generalize f:EI F x r SL (Y (.int _,J)) (Y (.int _,J)) (Y (.str _,J)) (Y _) (Y (.int _,J)) (Y (pf _,J)) (Y _)=ρ;have g:=h.r _ (mP (bG.mpr he.c) _) b
  have G:be C (.cmp .nin (.v 9) (.ix (.v 3) (.v 8))) (full ρ)=Y (.bl (!decide (zk a e∈A (q+Z e.2.2.1))),J):=by
   rw[<-f];exact gn W (yr W rfl (jK g)) (Vn _ _)
  have j:be C (.and (.v 10) (.and (.cmp .eq (.sl (.v 1) (Y (.v 5)) (Y (.ix (.v 9) (.e_ 0)))) (.ix (.v 7) (.e_ 1))) (.cmp .nin (.v 9) (.ix (.v 3) (.v 8))))) (full ρ)=Y (.bl (pre x a.1 e && !decide (zk a e∈A (q+Z e.2.2.1))),J):=by
   rw[fA (by rw[<-f];rfl),fA (by rw[<-f];exact Du (af hx (by decide)) ha W rfl rfl rfl)];cases pre x _ e
   .rfl
   simp_all
  cases c2:(pre x _ e && !decide (zk a e∈A _))with
  |false=>
    rw[c2]at j;refine jg j (bo ⟨_,W,SL,_,_,_,_,f.symm,w ?_⟩);rwa[show gd x r q a e=pre x _ e by show((e.1 == a.2 && lK r q e) && pre x _ e)=_;rw[c1,oz]]
  |true=>
    rw[c2]at j
    have u:rJ SL.length ((q+Z e.2.2.1:T))=Y (q+Z e.2.2.1):=by
     unfold rJ;rw[a5 (fQ _),a5 (by rw[h.l];exact uJ.mpr (bc b))];exact c8 Y (uI _)
    have E:pv C (.Jh 3 (.v 8) (.v 9)) ρ=Y (.nx (EI F x r (SL.set (q+Z e.2.2.1) (.lst ((A (q+Z e.2.2.1)++[zk a e]).map pf))) (Y (.int (q),J)) (Y (.int (a.1),J)) (Y (.str a.2,J)) (Y (cY e,J)) (Y (.int ((q+Z e.2.2.1)),J)) (Y (pf (zk a e),J)) (Y (.bl U,J)))):=by
     rw[<-f];show jQ _ (bu (rJ _ _) _)=_;rw[u,bp,g,bp];rw[qt (by grind),dB];rfl
    refine iN (J':=λn=>n=EI F x r (SL.set _ (.lst ((A _++[zk a e]).map pf))) (Y (.int _,J)) (Y (.int _,J)) (Y (.str _,J)) (Y _) (Y (.int _,J)) (Y (pf _,J)) (Y _)) j (λ_=>bN E (bo ⟨_,W,W⟩)) (λz=>nomatch z) λn i=>bo ⟨_,W,_,_,_,_,_,i,?_⟩;unfold AX;rw[a5 (by rwa[show gd x r q a e=pre x _ e by show((e.1 == a.2 && lK r q e) && pre x _ e)=_;rw[c1,oz]])];refine⟨by rw[pP];exact h.l,λm h1 h2=>?_⟩;show _=Y (Dat.lst ((if m=q+(Z e.2.2.1) then A _++[zk a e]else A m).map pf));by_cases c:m=q+Z e.2.2.1
    .rw[c,eZ (by rw[h.l];exact bc b),a5 W]
    .rw[bX (cB c),cb c];exact h.r m h1 h2
 .rw[Np]at c1;rw[c1];refine jg ((fA W).trans (cb (by decide))) (bo ⟨_,W,SL,_,_,_,_,W,w ?_⟩);show(((e.1 == a.2 && lK r q e) && pre x _ e) && _)=J;rw[c1];rfl
end
section
variable{E F:O Ed}{x:O T}{r:O cx}{q:T}{e:Ed}{A:T->O (T×aa)}{a:T×aa}{A0:O (T×aa)}
def ZC{α:Type}{st:Sx}{one:cc}{O':O T}{body f:O Sx}{V:α->Dat}{xs:O α}{ρ ρ0:cT}{Q:Out->Prop}{I:O α->cT->Prop}(P:pv C st ρ=iw (eO one O') (dI C body) (xs.map V) ρ0)(hI:I [] ρ0)
  (hs:∀(us:O α)x(vs:O α)ρ,xs=us++x::vs->I us ρ->∃S,eO one O' (V x) ρ=Y S/\Go C body S λo=>∃B,o=.nx B/\I (us++[x]) B)(K:∀R,I xs R->Go C f R Q):Go C (st::f) ρ Q:=by
 obtain⟨R,h1,h2⟩:=wm xs [] _ hs hI;exact bN (by rwa[P]) (K _ h2)
structure Ic(E F:O Ed)(x:O T)(r:O cx)(q:T)(A0:O (T×aa))(A:T->O (T×aa)):Prop where
 w:Sw E x r A
 c:∀k,k<q->∀a∈A k,∀e∈F,Cy x r A k a e
 e:A q=A0
def Qq(h:Ic E F x r q A0 A)(ha:a∈A0)(he:e∈E)(hc:e.2.2.1≠[]):Ic E F x r q A0 (AX x r q a e A):=by
 have ne:∀k,k<=q->AX x r q a e A k=A k:=λk hk=>Yo (ba (eC hk (bG.mpr hc)));refine⟨Of h.w (h.w.s q a (h.e▸ha)) he,λk hk b hb d hd=>?_,(ne q (aq _)).trans h.e⟩;rw[ne k (aE hk)]at hb;exact zW (h.c k hk b hb d hd)
def Yl(hF:∀e∈F,e∈E)(ho:∀e∈E,e.2.2.2∈kU)(ok:∀e∈F,uL e)(hx:Z x<=6000)(hq:q<Z r)(ha:a∈A0)(h:SR S r.length (q+1) A)(hi:Ic E F x r q A0 A)(hu:∀a∈us,∀e∈F,Cy x r A q a e) :
  ∃ρ1,eO J [5,6] (pf a) (EI F x r S (Y (.int (q:T),J)) z5 z6 O' P R B)=Y ρ1/\Go C lbV ρ1 λo=>∃ρ2,o=.nx ρ2/\∃S A z5 z6 O' P R B,ρ2=EI F x r S (Y (.int (q:T),J)) z5 z6 O' P R B/\SR S r.length (q+1) A/\Ic E F x r q A0 A/\∀b∈us++[a],∀e∈F,Cy x r A q b e:=by
 refine⟨_,W,?_⟩;refine i4 (I:=λvs t=>∃S A O' P R B,t=EI F x r S (Y (.int (q),J)) (Y (.int (a.1),J)) (Y (.str a.2,J)) O' P R B/\SR S _ _ A/\Ic E F x r q A0 A/\(∀b∈us,∀e∈F,Cy x r A q b e)/\∀e∈vs,Cy x r A q a e) (by rfl) ⟨S,A,O',P,R,B,W,h,hi,hu,λ_ h=>nomatch h⟩ ?_ ?_
 .rintro vs e ws _ j ⟨S,A,O',P,R,B,rfl,h,hi,hu,f⟩;have he:e∈F:=by rw[j];simp
  refine ac λ_ p=>?_;obtain⟨ρ1,h1,o,h2,ρ2,rfl,g,l,m,n,i,rfl,h3⟩:=Yk hx (hi.w.s q a (hi.e▸ha)).le.1 hq (ok e he) (λk=>af (Tg hi.w ho k) (iY (ZB 6 hx))) h;apply p;refine⟨_,h1,_,h2,_,W,g,_,l,m,n,i,W,h3,Qq hi ha (hF e he) (ok e he).c,λb hb d hd=>zW (hu b hb d hd),λd hd=>?_⟩
  rcases ax.mp hd with hd|hd
  .exact zW (f d hd)
  .rw[au.mp hd];exact WK
 .rintro _ ⟨S,A,O',P,R,B,rfl,h,hi,hu,f⟩;refine bo ⟨_,W,S,A,_,_,O',P,R,B,W,h,hi,λb hb d hd=>?_⟩
  rcases ax.mp hb with hb|hb
  .exact hu b hb d hd
  .rw[au.mp hb];exact f d hd
def Mg(h:SR I n k A)(hk:k<=q)(B:q<=n)(he:be C ke (full (EI F x r I z4 z5 z6 R S z9 P))=Y (.int (q:T),f)) :
  pv C (.XX one ts 3 ke body) (EI F x r I z4 z5 z6 R S z9 P)=iw (eO one ts) (dI C body) ((A q).map pf) (EI F x r (I.set q .any) z4 z5 z6 R S z9 P)/\SR (I.set q .any) n (q+1) A:=by
 have b:rJ I.length ((q))=Y q:=by
  unfold rJ;rw[a5 (fQ _),a5 (by rw[h.l];exact uJ.mpr (bc B))];simp
 refine⟨?_,by rw[pP];exact h.l,λc h1 h2=>?_⟩
 .show bu _ _=_;rw[he];show bu (rJ _ _) _=_;rw[b,bp,h.r q hk B];rfl
 .rw[bX (ba h1)];exact h.r c (aE (az hk h1)) h2
def stepT(hF:∀e∈F,e∈E)(ho:∀e∈E,e.2.2.2∈kU)(ok:∀e∈F,uL e)(hx:Z x<=6000)(hq:q<Z r)(h:SR S r.length q A)(hw:Sw E x r A)(hc:∀k,k<q->∀a∈A k,∀e∈F,Cy x r A k a e) :
  ∃ρ1,eO U [4] (.int (q:T)) (EI F x r S z4 O' z6 P R z9 B)=Y ρ1/\Go C lbT ρ1 λo=>∃ρ2,o=.nx ρ2/\∃S A z4 O' z6 P R z9 B,ρ2=EI F x r S z4 O' z6 P R z9 B/\SR S r.length (q+1) A/\Sw E x r A/\∀k,k<q+1->∀a∈A k,∀e∈F,Cy x r A k a e:=by
 refine⟨_,W,?_⟩;obtain⟨g,i⟩:=Mg (ke:=.v 4) (z4:=Y (.int _,J)) h (aq _) (aE hq) W;refine ZC (I:=λus l=>∃S f O' z6 P R z9 B,l=EI F x r S (Y (.int _,J)) O' z6 P R z9 B/\SR S _ _ f/\Ic E F x r q _ f/\∀b∈us,∀e∈F,Cy x r f q b e) g ⟨_,A,O',z6,P,R,z9,B,W,i,⟨hw,hc,W⟩,λ_ h=>nomatch h⟩ ?_ ?_
 .rintro us a vs _ j ⟨S,f,O',z6,P,R,z9,B,rfl,h,hi,hb⟩;exact Yl hF ho ok hx hq (by rw[j];simp) h hi hb
 .rintro _ ⟨S,f,O',z6,P,R,z9,B,rfl,h,hi,hb⟩;refine bo ⟨_,W,S,f,_,O',z6,P,R,z9,B,W,h,hi.w,λk hk b d e he=>?_⟩
  rcases gf k q with c|c
  .exact hi.c k c b d e he
  .have:k=q:=aH (a8 hk) c
   subst this;rw[hi.e]at d;exact hb b d e he
def Zi:O Sx:=[(.ifs (.and (.cmp .eq (.v 5) (.blt .len [(.v 1)])) (.cmp .isin (.v 6) (.lst [(.con (.str jw)),(.con (.str jq)),(.con (.str mK))]))) [(.ret (.con (.bl U)))] [])]
def Wd(s:aa):kh .isin (.str s) (.lst [.str jw,.str jq,.str mK])=Y (decide (s∈o6)):=by
 show Y ((jw == s) || ((jq == s) || ((mK == s) || J)))=_;apply c8 Y
 grind
theorem Si(O':Z x<=6000):∀(l:O (T×aa))(B z6:g_),∃o,iw (eO J [5,6]) (dI C Zi) (l.map pf) (EI F x r P z4 B z6 R S z9 I)=Y o/\((∃a∈l,a.1=Z x/\a.2∈o6)->o=.rt (.bl U) J)/\((¬ ∃a∈l,a.1=Z x/\a.2∈o6)->∃ρ,o=.nx ρ)
 |[],B,z6=>⟨_,W,λ⟨_,h,_⟩=>(nomatch h),λ_=>⟨_,W⟩⟩
 |a::l,B,z6=>by
   have f :=len_T (af O' (by decide))
   have d:be C (.and (.cmp .eq (.v 5) (.blt .len [(.v 1)])) (.cmp .isin (.v 6) (.lst [(.con (.str jw)),(.con (.str jq)),(.con (.str mK))]))) (full (EI F x r P z4 (Y (.int (a.1),J)) (Y (.str a.2,J)) R S z9 I))=Y (.bl (decide (a.1=Z x) && decide (a.2∈o6)),J):=by
    rw[fA (x:=decide (a.1=Z x)) (gn W (ik W f) (by
     exact c8 Y (decide_eq_decide.mpr (by omega))))]
    cases decide (a.1=Z x)
    .rfl
    .exact gn W rfl (Wd a.2)
   by_cases c:a.1=Z x/\a.2∈o6
   .rw[c0 c.1,c0 c.2]at d;refine⟨.rt (.bl U) J,?_,λ_=>W,λh=>absurd ⟨a,jM,c⟩ h⟩;obtain⟨o,h1,rfl⟩:Go C Zi (EI F x r P z4 (Y (.int (a.1),J)) (Y (.str a.2,J)) R S z9 I) λo=>o=.rt (.bl U) J:=sD d (xA W) W;show bu (dI C Zi (EI F x r P z4 (Y (.int (a.1),J)) (Y (.str a.2,J)) R S z9 I)) _=_;rw[h1];rfl
   .have g:(decide (a.1=Z x) && decide (a.2∈o6))=J:=by
     rw[<-Bool.decide_and];exact c4 c
    rw[g]at d;obtain⟨o,h1,h2,h3⟩:=Si O' l (Y (.int (a.1),J)) (Y (.str a.2,J));obtain⟨k,i,rfl⟩:Go C Zi (EI F x r P z4 (Y (.int (a.1),J)) (Y (.str a.2,J)) R S z9 I) λo=>o=.nx (EI F x r P z4 (Y (.int (a.1),J)) (Y (.str a.2,J)) R S z9 I):=jg d (bo W);refine⟨o,?_,λ⟨b,hb,h⟩=>h2 ?_,λh=>h3 λ⟨b,hb,j⟩=>h ⟨b,jY _ hb,j⟩⟩
    .rw[aI,Gf W i];exact h1
    grind
end
section
variable{E F:O Ed}{x:O T}{r:O cx}
theorem wb:∀ds:O Dat,sk (pz C 1 U ρ0 [] (.lst [])) ds=Y (bb ds.length (.lst []),U)
 |[]=>rfl
 |d::ds=>by
   show bu (Y (Y (Dat.lst [],U))) (λo=>(sk (pz C 1 U ρ0 [] (.lst [])) ds).map _)=_;rw[wb ds];rfl
abbrev A1:T->O (T×aa):=λq=>if q=0 then [(0,jw)]else []
def OZ{n:T}(S:∀e,e∈F↔e∈E)(ge:gE E)(ok:∀e∈F,uL e)(P:Z x<=6000)(R:Z r<=999):∃b,Cn D (n+1) 28 [.lst (F.map cY),sT x,tI r]=Y (.bl b,J)/\(b=U↔XS E x r):=by
 suffices h:Go _ _ _ λo=>∃b,o=.rt (.bl b) J/\(b=U↔XS E x r) by
  refine ac λ_ V=>?_;obtain⟨_,h1,b,rfl,h2⟩:=h;apply V;exact⟨b,fT W h1,h2⟩
 generalize Cn D n=C;show Go C (.set 3 (.comp 1 U [] (.rng [(.bin _ (.blt _ _) _)]) [] _)::.Jh 3 _ (.tup _)::.loop U _ (.rng [(.blt _ _)]) _::.XX J _ 3 (.blt _ _) Zi::.ret (.con _)::[]) _ _;apply fG (oW (n9 (fJ (ik W (gQ _)) W rfl) (bc R)) (by rw[aD,aW];exact az R (by decide)) (wb _));rw[aD,aW]
 have j:rJ (bb (Z r+1) (Dat.lst [])).length ((0:T))=Y 0:=by
  unfold rJ;simp
 have s1:pv C (.Jh 3 (.e_ 0) (.tup [(.e_ 0),(.con (.str jw))])) (EI F x r (bb (Z r+1) (.lst [])) L L L L L L L)=Y (.nx (EI F x r ((bb (Z r+1) (.lst [])).set 0 (.lst [pf (0,jw)])) L L L L L L L)):=by
  show jQ _ (bu (rJ (bb _ _).length ((0:T))) _)=_;rw[j];rfl
 have y:SR ((bb (Z r+1) (.lst [])).set 0 (.lst [pf (0,jw)])) r.length 0 A1:=by
  refine⟨by simp,λq _ f=>?_⟩;by_cases c:q=0
  .subst c;rfl
  .rw[bX (cB c),bI,a5 (jk f)]
   simp_all
 have B:Sw E x r A1:=by
  refine⟨by simp,λq a ha=>?_,λq=>?_⟩
  .have ha:a∈(if q=0 then [(0,jw)]else []):=ha;split at ha
   .rename_i c;rw[au.mp ha,c];exact .z
   .cases ha
  .show(if q=0 then [(0,jw)]else []).Nodup;split<;>simp
 refine bN s1 (i4 (I:=λus Q=>∃H A N K M l m p d,Q=EI F x r H N K M l m p d/\SR H _ us.length A/\Sw E x r A/\∀k,k<Z us->∀a∈A k,∀e∈F,Cy x r A k a e) (by rw[sS,n9 (ik W (gQ _)) (du R)];rfl) ⟨_,A1,L,L,L,L,L,L,L,W,y,B,λ_ h=>nomatch h⟩ ?_ ?_)
 .rintro us q vs _ G ⟨H,A,N,K,M,l,m,p,d,rfl,h,i,hc⟩;obtain⟨rfl,f⟩:=Ae G;rw[aj];exact stepT (λe=>(S e).mp) ge.o ok P f h i hc
 rintro _ ⟨H,A,N,K,M,l,m,p,d,rfl,h,i,hc⟩;rw[aW]at h hc;obtain⟨u,_⟩:=Mg (ke:=.blt _ [(.v 2)]) h (aq _) (aq _) (ik W (gQ _));obtain⟨o,h1,h2,h3⟩:=Si P (A _) K M
 have g:(∃a∈A r.length,a.1=Z x/\a.2∈o6)↔XS E x r:=by
  constructor
  .rintro⟨a,ha,c1,c2⟩;exact⟨_,c2,c1▸i.s _ a ha⟩
  .rintro⟨s,hs,w⟩;exact⟨_,SV i (λq f a ha e he=>hc q f a ha e ((S e).mpr he)) (λe he=>(ok e ((S e).mpr he)).c) w,W,hs⟩
 by_cases c:∃a∈A r.length,a.1=Z x/\a.2∈o6
 .refine⟨_,uY (by rw[u,h1,h2 c]),U,W,λ_=>g.mp c,λ_=>W⟩
 .obtain⟨Q,t⟩:=h3 c;exact bN (by rw[u,h1,t]) (jN W ⟨J,W,⟨(λz=>nomatch z),λz=>absurd (g.mpr z) c⟩⟩)
end
inductive Rr (E:O Ed) (r:O cx):T->aa->Prop
 |z:Rr E r 0 jw
 |s {q:T} {e:Ed}:Rr E r q e.1->e∈E->lK r q e=U->Rr E r (q+Z e.2.2.1) e.2.2.2
variable{E:O Ed}{x:O T}{r:O cx}
abbrev Cm:=T->aa->ar (ar Ed)
structure Cv(E:O Ed)(r:O cx)(G:Cm):Prop where
 z:∀s o,G 0 s=Y o->s=jw/\o=L
 y:G 0 jw=Y L
 a:∀p s e,G p s=Y (Y e)->e∈E/\e.2.2.2=s/\∃q,q+Z e.2.2.1=p/\lK r q e=U/\(G q e.1).isSome=U
 n:∀p s,0<p->G p s≠Y L
def HM(h:lK r q e=U):r.take (q+Z e.2.2.1)=r.take q++e.2.2.1:=by
 rw[List.take_add,fO.mp (c5 h)];simp
theorem GP:∀{S:O Ed}{s:aa}{e:Ed},Ch s S e.1->Ch s (S++[e]) e.2.2.2
 |[],_,_,h=>⟨h.symm,W⟩
 |_::_,_,_,⟨h1,h2⟩=>⟨h1,GP h2⟩
def GJ{G:Cm}(h:Cv E r G)(ok:∀e∈E,e.2.2.1≠[])(hp:0<p)(hs:(G p s).isSome=U):∃e,G p s=Y (Y e)/\e∈E/\e.2.2.2=s/\Z e.2.2.1<=p/\0<Z e.2.2.1/\lK r (p - Z e.2.2.1) e=U/\(G (p - Z e.2.2.1) e.1).isSome=U:=by
 obtain⟨o,ho⟩:=eh.mp hs
 clear hs; cases o with
 |none=>exact absurd ho (h.n p s hp)
 |some e=>
   obtain⟨he,rfl,q,rfl,b,hi⟩:=h.a p s e ho;refine⟨e,ho,he,W,fS _ _,bG.mpr (ok e he),?_,?_⟩
   .simp_all
   simp_all
def oH{α:Type}{G:T->aa->ar α}{p:T}{s:aa}{v:α}:Hm G p s v p s=Y v:=by grind
def tL{α:Type}{G:T->aa->ar α}{p q:T}{s t:aa}{v:α}(h:¬(q=p/\t=s)):Hm G p s v q t=G q t:=by
 show(if q=p then(λr=>if r=s then Y v else G p r)else G q) t=_;by_cases c:q=p
 .simp_all
 .rw[cb c]
def AS{α:Type}{G:T->aa->ar α}{p q:T}{s t:aa}{v:α}(h:q≠p):Hm G p s v q t=G q t:=tL λz=>h z.1
def E9{α:Type}{G:T->aa->ar α}{p q:T}{s t:aa}{v:α}(h:(G q t).isSome=U):(Hm G p s v q t).isSome=U:=by
 by_cases c:q=p/\t=s
 .rw[c.1,c.2,oH];rfl
 .rwa[tL c]
def WL{G:Cm}(h:Cv E r G)(he:e∈E)(ok:e.2.2.1≠[])(B:lK r q e=U)(hs:(G q e.1).isSome=U):Cv E r (Hm G (q+Z e.2.2.1) e.2.2.2 (Y e)):=by
 have hl:=bG.mpr ok;refine⟨λs o ho=>?_,?_,λp s i g=>?_,λp s hp ho=>?_⟩
 .rw[AS (ba (Nat.lt_add_left _ hl))]at ho;exact h.z s o ho
 .rw[AS (UF (Nat.lt_add_left _ hl))];exact h.y
 .by_cases c:p=q+Z e.2.2.1/\s=e.2.2.2
  .rw[c.1,c.2,oH]at g;cases g;exact⟨he,c.2.symm,q,c.1.symm,B,E9 hs⟩
  .rw[tL c]at g;obtain⟨a,b,j,c,d,f⟩:=h.a p s i g;exact⟨a,b,j,c,d,E9 f⟩
 .by_cases c:p=q+Z e.2.2.1/\s=e.2.2.2
  .rw[c.1,c.2,oH]at ho;cases ho
  .rw[tL c]at ho;exact h.n p s hp ho
def MC{G:Cm}(h:Cv E r G)(hc:∀q,∀e∈E,(G q e.1).isSome=U->lK r q e=U->(G (q+Z e.2.2.1) e.2.2.2).isSome=U)(w:Rr E r q s):(G q s).isSome=U:=by
 induction w with
 |z=>rw[h.y];rfl
 |s w he hp a=>exact hc _ _ he a hp
noncomputable def nV:O cx->O cx->T
 |a::as,b::bs=>if a=b then nV as bs+1 else 0
 |_,_=>0
theorem ug:∀c r:O cx,nV c r=Z c↔c <+: r
 |[],_=>by simp[nV]
 |_::_,[]=>by simp[nV]
 |a::as,b::bs=>by
   unfold nV;by_cases h:a=b
   .rw[a5 h,cg,Nat.succ_inj,ug as bs];simp[h]
   .simp[h]
abbrev yQ(c r:O cx)(p k:T):cT:=[Y (tI c,J),Y (tI r,J),Y (.int (p:T),J),Y (.int (k:T),J)]
abbrev XG(C:Fs)(ρ:cT):ar cc:=(be C Z1 (full ρ)).bind λx=>gw x.1
def RZ(h:c[k]?=Y a):Az (tI c) (.int (k:T))=Y (.int a):=jK (by simp_all)
theorem RY{C:Fs}{c r:O cx}{p:T}:∀(m fuel k:T),k+m=Z c->m<fuel->pW (XG C) (dI C JB) fuel (yQ c r p k)=Y (.nx (yQ c r p (k+nV (c.drop k) (r.drop (p+k)))))
 |m,0,k,_,h=>absurd h (j1 _)
 |m,fuel+1,k,hk,hf=>by
   have h1:be C (.cmp .lt (.v 3) (.blt .len [.v 0])) (full (yQ c r p k))=Y (.bl (decide ((k:cx)<(c.length))),J):=gn W (ik W (gQ c)) W;have l:be C (.bin .add (.v 2) (.v 3)) (full (yQ c r p k))=Y (.int ((p+k):cx),J):=fJ W rfl rfl;have h2:be C (.cmp .lt (.bin .add (.v 2) (.v 3)) (.blt .len [.v 1])) (full (yQ c r p k))=Y (.bl (decide (((p+k:T):cx)<(r.length))),J):=gn l (ik W (gQ r)) W
   have g:∀{f:cc},be C Z1 (full (yQ c r p k))=Y (.bl J,f)->nV (c.drop k) (r.drop (p+k))=0->pW (XG C) (dI C JB) (fuel+1) (yQ c r p k)=Y (.nx (yQ c r p (k+nV (c.drop k) (r.drop (p+k))))):=λh q=>by
    have hc:XG C (yQ c r p k)=Y J:=by unfold XG;rw[h];rfl
    unfold pW;rw[hc,q];rfl
   cases hc:c.drop k with
   |nil=>
     have:¬((k:cx)<(c.length)):=by simp_all
     rw[c4 this]at h1;rw[<-hc];exact g (fA h1) (by rw[hc];rfl)
   |cons a y=>
     have n:c[k]?=Y a:=by rw[<-NT,hc];rfl
     have u :=(aK.mp n).1;rw[c0 (Int.ofNat_lt.mpr u)]at h1
     cases d:r.drop (p+k)with
     |nil=>
       have:¬(((p+k:T):cx)<(r.length)):=by have:=List.drop_eq_nil_iff.mp d;omega
       rw[c4 this]at h2;rw[<-hc,<-d];exact g ((fA h1).trans ((a5 W).trans (fA h2))) (by rw[hc,d];rfl)
     |cons b o=>
       have s:r[p+k]?=Y b:=by rw[<-NT,d];rfl
       have w :=(aK.mp s).1;rw[c0 (Int.ofNat_lt.mpr w)]at h2;have h3:be C (.cmp .eq (.ix (.v 0) (.v 3)) (.ix (.v 1) (.bin .add (.v 2) (.v 3)))) (full (yQ c r p k))=Y (.bl (decide (a=b)),J):=gn (yr W rfl (RZ n)) (yr W l (RZ s)) W;have e:=(fA h1).trans ((a5 W).trans ((fA h2).trans ((a5 W).trans h3)));by_cases q:a=b
       .rw[c0 q]at e;obtain⟨i,rfl⟩:∃i,m=i+1:=⟨m - 1,aH (iY (ay m 1)) (iY (wS m 1 (lQ u (ag hk.symm))))⟩
        have t:=RY (C:=C) (c:=c) (r:=r) (p:=p) i fuel (k+1) (aH (iY (ag hk)) (iY (ag hk.symm))) (a8 hf);rw[<-Rx,hc,<-i9,<-Rx,d]at t;have j:XG C (yQ c r p k)=Y U:=by unfold XG;rw[show be C Z1 (full (yQ c r p k))=_ from e];rfl
        unfold pW;rw[j,bp,a5 W];apply Eq.trans t;show Y (Out.nx (yQ c r p (k+1+nV y o)))=Y (Out.nx (yQ c r p (k+if a=b then nV y o+1 else 0)));rw[a5 q,i9,Dc 1]
       .rw[c4 q]at e;rw[<-hc,<-d];exact g e (by rw[hc,d];exact cb q)
def UC{c:O cx}(hc:Z c<=1000):Cn D (n+1) 8 [tI c,tI r,.int (p:T)]=Y (.int (nV c (r.drop p):T),J):=by
 apply ph W;generalize Cn D n=C;have h:=RY (C:=C) (r:=r) (p:=p) _ kQ 0 (fZ _) (az hc (by decide));rw[fZ]at h;exact bN (dX W rfl) (bN (by rwa[yZ]) ⟨_,W,W⟩)
def Am(E:O Ed)(r:O cx)(f:T):Prop:=f=0\/∃q,∃e∈E,Rr E r q e.1/\q<Z r/\f=q+nV e.2.2.1 (r.drop q)
def Jn(E:O Ed)(r:O cx)(f:T):Prop:=Am E r f/\∀q,∀e∈E,Rr E r q e.1->q<Z r->q+nV e.2.2.1 (r.drop q)<=f
def Wu(h:Jn E r f)(k:Jn E r g):f=g:=by
 have a:∀{f g:T},Jn E r f->Jn E r g->f<=g:=λh k=>by
  rcases h.1 with rfl|⟨q,e,he,w,b,rfl⟩
  .exact aU _
  .exact k.2 q e he w b
 exact aH (a h k) (a k h)
def EN(h:Am E r f)(k:Am E r g):Am E r (Max.max f g):=by
 rcases Nat.le_total f g with c|c
 .simp_all
 simp_all
def DL(ok:e.2.2.1≠[])(h:lK r q e=U):q<Z r:=by
 have h1:=(c5 h).length_le;rw[dF]at h1;have:=bG.mpr ok;omega
def YF(ok:∀e∈E,e.2.2.1≠[])(w:Rr E r q s):Am E r q:=by
 cases w with
 |z=>exact .inl rfl
 |s w he hp=>exact .inr ⟨_,_,he,w,DL (ok _ he) hp,by rw[(ug _ _).mpr (c5 hp)]⟩
theorem MB{G:Cm}(h:Cv E r G)(ok:∀e∈E,e.2.2.1≠[]):∀(m p:T),p<=m->∀{s:aa},(G p s).isSome=U->Rr E r p s
 |m,p,a,s,hs=>by
   rcases Nat.eq_zero_or_pos p with rfl|hp
   .obtain⟨o,ho⟩:=eh.mp hs;rw[(h.z s o ho).1];exact .z
   .obtain⟨e,_,b,rfl,c,g,d,f⟩:=GJ h ok hp hs
    cases m with
    |zero=>exact absurd hp (Nat.not_lt.mpr a)
    |succ m=>
      have w:=Rr.s (MB h ok m _ (wc (ws c) a g) f) b d;rwa[j4 c]at w
def DT(a b:T):(if(a:cx)<(b:cx)then(b:cx)else a)=((Max.max a b:T):cx):=by
 split<;>omega
noncomputable instance:VD Ed:=⟨cY,uA⟩
instance {α:Type} [VD α]:VD (ar α):=⟨vD,λo=>match o with
 |none=>rfl
 |some k=>VD.i k⟩
structure Rdn(E:O Ed)(r:O cx)(P:T->aa->Prop)(G:Cm):Prop where
 c:Cv E r G
 d:∀e∈E,∀q,P q e.1->(G q e.1).isSome=U->lK r q e=U->(G (q+Z e.2.2.1) e.2.2.2).isSome=U
def UE{G:Cm}(h:Rdn E r P G)(he:e∈E)(ok:e.2.2.1≠[])(B:lK r p e=U)(hs:(G p e.1).isSome=U)(f:∀q t,P q t->q<=p):Rdn E r P (Hm G (p+Z e.2.2.1) e.2.2.2 (Y e)):=by
 have hl:=bG.mpr ok;refine⟨WL h.c he ok B hs,λb a q h1 h2 h3=>?_⟩;have:=f q _ h1;rw[AS (ba (eC this hl))]at h2;exact E9 (h.d b a q h1 h2 h3)
abbrev Xx(L':O Dat)(es:O Ed)(r:O cx)(p f:T)(z5 z6:g_):cT:=[Y (.lst L',U),Y (.lst (es.map cY),J),Y (tI r,J),Y (.int (p:T),J),Y (.int (f:T),J),z5,z6]
structure Wo(E:O Ed)(r:O cx)(P:T->aa->Prop)(p:T)(G G':Cm)(us:O Ed)(f:T):Prop where
 rd:Rdn E r P G'
 o:∀q t,q<=p->G' q t=G q t
 u:∀e∈us,lK r p e=U->(G' (p+Z e.2.2.1) e.2.2.2).isSome=U
 a:Am E r f
 m:∀e∈us,p+nV e.2.2.1 (r.drop p)<=f
def Tv{G:Cm}(S:∀{c r:O cx} {p:T},Z c<=1000->C 8 [tI c,tI r,.int (p:T)]=Y (.int (nV c (r.drop p):T),J))(he:e∈E)(ok:uL e)(hp:p<Z r)(hP:∀q t,P q t->q<=p)(hs:(G p e.1).isSome=U)(hR:Rr E r p e.1)(h:CT L' r.length R)(I:Wo E r P p G R us f) :
  ∃B,eO U [5] (cY e) (Xx L' es r p f z5 z6)=Y B/\Go C Zm B λo=>∃F,o=.nx F/\∃L' R f z5 z6,F=Xx L' es r p f z5 z6/\CT L' r.length R/\Wo E r P p G R (us++[e]) f:=by
 refine⟨_,W,?_⟩;have hl:=bG.mpr ok.c;refine bN (dX ((wL W rfl rfl).trans (S (af ok.k (by decide)))) W) (bN (dX (fJ W (fJ W rfl rfl) (c8 (λi=>Y (Dat.int i,J)) (DT f _))) W) ?_);have j:=EN I.a (.inr ⟨p,e,he,hR,hp,W⟩)
 have fm:∀d∈us++[e],p+nV _ _<=max f (p+nV _ _):=λd hd=>by
  rcases ax.mp hd with hd|hd
  .exact af (I.m d hd) (xw _ _)
  .rw[au.mp hd];exact vy _ _
 generalize max f (p+nV _ _)=f' at j fm;have b:be C (.cmp .eq (.v 6) (.blt _ [.ix (.v 5) (.e_ 2)])) (full (Xx L' es r p f' (Y (cY e,J)) (Y (.int (nV e.2.2.1 (r.drop p)),J))))=Y (.bl (decide (((nV _ _):cx)=(e.2.2.1.length))),J):=gn W (ik W (gQ _)) W;have n:decide (((nV _ _):cx)=(e.2.2.1.length))=lK r p e:=decide_eq_decide.mpr (Int.ofNat_inj.trans (ug _ _));rw[n]at b;by_cases q:lK r p e=U
 .rw[q]at b;have hlen:=(c5 q).length_le;rw[dF]at hlen;obtain⟨L',m1,m2⟩:=F6 (i:=0) (ρ:=Xx L' es r p f' (Y (cY e,J)) (Y (.int (nV _ _),J))) (v:=Y e) (p:=p+Z e.2.2.1) (ke:=.bin .add (.v 3) (.v 6)) (xi:=.ix (.v 5) (.e_ 3)) (xe:=.v 5) h (lQ (ws (Nat.le_of_lt hp)) hlen) ok.o W rfl (fJ W rfl (by rw[((ug _ _).mpr (c5 q))];rfl)) W;refine iN (J':=λρ=>ρ=Xx L' es r p f' (Y _) (Y (.int (nV _ _),J))) b (λ_=>bN m1 (bo ⟨_,W,W⟩)) (λz=>nomatch z) λs z=>bo ⟨_,W,L',_,f',_,_,z,m2,UE I.rd he ok.c q (by rwa[I.o p _ (aq _)]) hP,λw t l=>(AS (UF (Nat.add_le_add l hl))).trans (I.o w t l),λd hd g=>?_,j,fm⟩
  rcases ax.mp hd with hd|hd
  .exact E9 (I.u d hd g)
  .rw[au.mp hd,oH];rfl
 .rw[g9.mpr q]at b;refine jg b (bo ⟨_,W,L',R,f',_,_,W,h,I.rd,I.o,λd hd g=>?_,j,fm⟩)
  rcases ax.mp hd with hd|hd
  .exact I.u d hd g
  .rw[au.mp hd]at g;exact absurd g q
def ZR:Cn D (k+1) (9+zI) ds=exL (Cn D k) 4 7 b9 ds:=rfl
def Uv{G:Cm}(ok:∀e∈E,uL e)(he:∀e∈es,e∈E/\e.1=s)(hp:p<Z r)(B:∀q t,P q t->q<=p)(hs:(G p s).isSome=U)(h:CT L' r.length G)(F:Rdn E r P G) :
  ∃R S f,Cn D (k+2) (9+zI) [.lst L',.lst (es.map cY),tI r,.int (p:T)]=Y (.tup [.int (f:T),.lst R],J)/\CT R r.length S/\Wo E r P p G S es f:=by
 rw[ZR];have b:∀{c r:O _}{p:T},Z c<=1000->Cn D (k+1) 8 [tI c,tI r,.int (p)]=Y (.int (nV c _),J):=λh=>UC h;have d:=MB F.c (λe he=>(ok e he).c) _ _ (aq p) hs;generalize Cn D _=C at b
 have g:Go C b9 [Y (.lst L',U),Y (.lst (es.map cY),J),Y (tI r,J),Y (.int (p),J),L,L,L] λo=>∃R S f j n,o=.rl (.int (f:T)) (Xx R es r p f j n)/\CT R r.length S/\Wo E r P p G S es f:=by
  refine bN (dX W rfl) (i4 (I:=λus v=>∃R S f j n,v=Xx R es r p f j n/\CT R _ S/\Wo E r P p G S us f) (by rfl) ⟨L',G,p,L,L,W,h,F,λ_ _ _=>W,(λ_ h=>nomatch h),(YF (λe he=>(ok e he).c) d),λ_ h=>nomatch h⟩ ?_ ?_)
  .rintro us e vs _ l ⟨R,S,f,j,n,rfl,u,a⟩;obtain⟨i,rfl⟩:=he e (by rw[l];simp);exact Tv b i (ok e i) hp B hs d u a
  .rintro _ ⟨R,S,f,j,n,rfl,u,a⟩;exact⟨_,W,R,S,f,j,n,W,u,a⟩
 refine ac λ_ w=>?_;obtain⟨_,m,R,S,f,j,n,rfl,u,a⟩:=g;apply w;refine⟨R,S,f,?_,u,a⟩;show bu (dI C b9 [Y _,Y (.lst _,J),Y _,Y (.int _,J),L,L,L]) ZM=_;rw[m];rfl
def WO{α:Type}[VD α](n:T):CT (α:=α) (bb n (.dct [] [])++[.dct [] []]) n λ_ _=>L:=by
 refine⟨by simp,λq a=>⟨[],?_,fL,λs=>by simp,λs h=>nomatch h⟩⟩;rw[<-List.replicate_succ',bI,a5 (jk a)];rfl
end K35E
namespace K35E
open L2 M K35
variable{E:O Ed}{x:O T}{r:O cx}
abbrev XE(R:O Ed):O Dat:=R.map λe=>Dat.str (T' e.2.1)
abbrev X1(L':O Dat)(s:aa)(R:O Ed)(p:T)(z4:g_):cT:=[Y (.lst L',J),Y (.str s,J),Y (.lst (XE R),U),Y (.int (p:T),J),z4]
abbrev t12(C:Fs)(ρ:cT):ar cc:=(be C (.cmp .gt (.v 3) (.e_ 0)) (full ρ)).bind λx=>gw x.1
theorem RW{G:Cm}(B:Cv E r G)(ok:∀e∈E,uL e)(I:CT L' r.length G):∀(m fuel p:T) (s:aa) (R:O Ed) (z4:g_),p<=m->m<fuel->p<=Z r->Z R+p<=1000->(G p s).isSome=U->
  ∃S s' O',pW (t12 C) (dI C SY) fuel (X1 L' s R p z4)=Y (.nx (X1 L' s' (R++S.reverse) 0 O'))/\(∀e∈S,e∈E)/\Ch jw S s/\mX S=r.take p/\Z S<=p
 |m,0,p,s,R,z4,_,h,_,_,_=>absurd h (j1 _)
 |m,fuel+1,p,s,R,z4,w,hf,hp,y,hs=>by
   have hc:t12 C (X1 L' s R p z4)=Y (decide (0<p)):=by
    show Y (decide _)=_;simp
   unfold pW;rw[hc];by_cases q:0<p
   .refine ac λ_ n=>?_;obtain⟨e,f,A,g,D,F,i,j⟩:=GJ B (λe he=>(ok e he).c) q hs;obtain⟨a,rfl⟩:∃a,m=a+1:=⟨m - 1,aH (iY (ay m 1)) (iY (wS m 1 (lQ q w)))⟩
    obtain⟨S,s',O',h1,h2,h3,k,v⟩:=RW B ok I a fuel _ _ (R++[e]) (Y _) (wc (ws D) w F) (a8 hf) (af (yY _ _) hp) (by rw[aj,qj];exact wc y F (ws D)) j;apply n;refine⟨_,s',O',?_,λd hd=>?_,g▸GP h3,?_,by rw[aj,qj];exact wc v F (ws D)⟩
    .refine ac λ_ n=>?_;obtain⟨H,l,i2⟩:=yI I hp;have t:((p):cx) - (e.2.2.1.length)=((p - Z e.2.2.1:T)):=Eq.symm (Int.ofNat_sub D)
     have b:Go C SY (X1 L' s R p z4) λo=>o=.nx (X1 L' e.1 (R++[e]) (p - Z e.2.2.1) (Y (cY e,J))):=by
      refine bN (dX (yr (yr W rfl l) W (Zq i2 f)) (uA e)) (qX (P:=(·= Dat.str (T' _))) ⟨_,J,W,W,W⟩ W (by grind) λd hd=>?_);rw[hd,show XE R++[Dat.str (T' _)]=XE (R++[e]) by simp[XE]];exact bN (dX (fJ W (ik W (gQ _)) (by rw[wQ,t])) W) (bN (dX W rfl) (bo W))
     obtain⟨_,u,rfl⟩:=b;apply n;rwa[c0 q,u,List.reverse_append,<-aM]
    .rcases ax.mp hd with hd|hd
     .exact h2 d hd
     simp_all
    .have:p - Z e.2.2.1+Z e.2.2.1=p:=j4 D
     rw[<-this,HM i,<-k];simp[mX]
   .clear ok I w hf hp y hc; obtain rfl:p=0:=aH (cj q) (aU _)
    obtain⟨o,ho⟩:=eh.mp hs;obtain⟨rfl,_⟩:=B.z s o ho;exact⟨[],jw,z4,by simp,(λ_ h=>nomatch h),W,W,aq _⟩
theorem Tn:∀{S:O Ed},(∀e∈S,Z e.2.1<=6)->((S.map λe=>e.2.1).map (·.length)).sum<=6 * Z S
 |[],_=>aq _
 |e::S,h=>by
   have h1:=h e jM;have h2:=Tn λe he=>h e (jY _ he)
   grind
def S8(h:∀e∈S,Z e.2.1<=6):Z (zf S)<=6 * Z S:=by
 have:=Tn h;rw[dM]at this;rwa[List.length_flatMap]
def Uw{G:Cm}(f:Cv E r G)(ok:∀e∈E,uL e)(F:CT L' r.length G)(B:Z r<=999)(hs:(G r.length s).isSome=U) :
  ∃S,Cn D (k+1) 10 [.lst L',.str s]=Y (sT (zf S),J)/\(∀e∈S,e∈E)/\Ch jw S s/\mX S=r/\Z S<=Z r:=by
 obtain⟨S,g,b,h1,h2,h3,a,c⟩:=RW (C:=Cn D k) f ok F _ kQ _ s [] L (aq _) (az B (by decide)) (aq _) (by grind) hs;rw[uV]at a;refine⟨S,?_,h2,h3,a,c⟩;apply ph W;generalize Cn D k=C at h1
 have d:be C (.bin .sub (.blt .len [.v 0]) (.e_ 1)) (full [Y (.lst L',J),Y (.str s,J),Y (.lst [],U),L,L])=Y (.int (r.length),J):=fJ (ik W rfl) W (by
  rw[F.l];simp)
 refine fG W (bN (dX d W) (bN (by rwa[yZ]) (jN ?_ W)));show jH .join (.str (T' [])) [.lst (XE _).reverse]=_;rw[List.nil_append,XE,List.map_reverse,List.reverse_reverse,show(S.map λe=>Dat.str (T' _))=(S.map _).map λl=>Dat.str _ by rw[dM];rfl,F7 (af (Tn λe he=>(ok e (h2 e he)).t) (lQ (ZB 6 c) (ZB 6 B))),<-List.flatMap_def]
abbrev wY(t:Tb)(r:O cx)(E:O Ed)(b:cc)(L':O Dat)(f:T)(z5 z6:g_):cT:=[Y (tb t,J),Y (tI r,J),Y (pI E,b),Y (.lst L',U),Y (.int (f:T),J),z5,z6]
abbrev Pr(p:T)(us:O aa):T->aa->Prop:=λa s0=>a<p\/(a=p/\s0∈us)
structure Rf(E:O Ed)(r:O cx)(P:T->aa->Prop)(G:Cm)(f:T):Prop where
 g:Rdn E r P G
 a:Am E r f
 m:∀e∈E,∀q,P q e.1->(G q e.1).isSome=U->q+nV e.2.2.1 (r.drop q)<=f
def Ym{G:Cm}(ok:∀e∈E,uL e)(hp:p<Z r)(F:kU=us++s::vs)(h:CT L' r.length G)(hi:Rf E r (Pr p us) G f) :
  ∃P,eO U [6] (.str s) (wY t r E b L' f (Y (.int (p:T),J)) z6)=Y P/\Go (Cn D (k+2)) lbR P λo=>∃I,o=.nx I/\∃b L' G f z6,I=wY t r E b L' f (Y (.int (p:T),J)) z6/\CT L' r.length G/\Rf E r (Pr p (us++[s])) G f:=by
 refine⟨_,W,?_⟩;obtain⟨V,B,i2⟩:=yI h (aE hp);have w:be (Cn D (k+2)) (.cmp _ (.v 6) (.ix (.v 3) (.v 5))) (full (wY t r E b L' f (Y (.int _,J)) (Y (.str s,J))))=Y (.bl _,J):=gn W (yr W rfl B) (zL i2)
 have H:∀{q:T}{u:aa},Pr p _ q u->Pr p us q u\/(q=p/\u=s):=λh=>by
  rcases h with h|⟨h1,h2⟩
  .exact .inl (.inl h)
  .rcases ax.mp h2 with h2|h2
   .exact .inl (.inr ⟨h1,h2⟩)
   .exact .inr ⟨h1,au.mp h2⟩
 by_cases A:(G p s).isSome=U
 .rw[A]at w;have l:∀q t,Pr p us q t->q<=p:=λq t C=>C.elim aE λz=>ag z.1
  clear B i2; obtain⟨y,Q,N,c1,c2,j⟩:=Uv (es:=Sz E s) ok (λe he=>by
   simp_all) hp l A h hi.g
  have K:Az (pI E) (.str s)=Y (.lst _):=LA (by rw[F];simp)
  have M:mH (Cn D (k+2)) [.ix (.v 2) (.v 6),.v 1,.v 5] [Y (tb t),Y (tI r),Y (pI E),L,Y (.int (f)),Y (.int (p)),Y (.str s)]=Y [.lst ((Sz E s).map cY),tI r,.int (p)]:=by
   rw[cJ,yr W rfl K];rfl
  have s1:pv (Cn D (k+2)) (.lmx 4 (9+zI) 3 [.ix (.v 2) (.v 6),.v 1,.v 5]) (wY t r E b L' f (Y (.int (p),J)) (Y (.str s,J)))=Y (.nx (wY t r E J y (max f N) (Y (.int (p),J)) (Y (.str s,J)))):=by
   show bu (mH (Cn D _) [.ix _ _,.v 1,.v 5] [Y _,Y (tI r),Y (pI E),L,Y (.int _),Y (.int _),Y (.str s)]) _=_;rw[M];show(Cn D _ _ [.lst L',.lst _,tI r,.int _]).bind _=_;rw[c1];exact c8 (λi=>Y (Out.nx [Y _,Y _,Y _,Y _,Y (.int i,J),Y (.int _,J),Y _])) (DT f N)
  refine iN (J':=λR=>R=wY t r E J y _ (Y (.int _,J)) (Y _)) w (λ_=>bN s1 (bo ⟨_,W,W⟩)) (λz=>nomatch z) λS z=>bo ⟨_,W,_,y,Q,_,_,z,c2,⟨j.rd.c,λe he q h1 h2 h3=>?_⟩,EN hi.a j.a,λe he q h1 h2=>?_⟩
  .clear ok hp F h hi w A l c1 c2 K M s1 z; rcases H h1 with h1|⟨rfl,n⟩
   .exact j.rd.d e he q h1 h2 h3
   .exact j.u e (jX.mpr ⟨he,by simpa using n⟩) h3
  .clear ok hp F h w A c1 c2 K M s1 z; rcases H h1 with h1|⟨rfl,n⟩
   .rw[j.o q _ (l q _ h1)]at h2;exact af (hi.m e he q h1 h2) (xw _ _)
   .exact af (j.m e (jX.mpr ⟨he,by simpa using n⟩)) (vy _ _)
 .rw[g9.mpr A]at w;refine jg w (bo ⟨_,W,b,L',G,f,_,W,h,⟨hi.g.c,λe he q h1 h2 h3=>?_⟩,hi.a,λe he q h1 h2=>?_⟩)
  .rcases H h1 with h1|⟨rfl,n⟩
   .exact hi.g.d e he q h1 h2 h3
   simp_all
  .rcases H h1 with h1|⟨rfl,n⟩
   .exact hi.m e he q h1 h2
   simp_all
theorem findR{G:Cm}(F:∀s∈kU,C 0 [.str s]=Y (.bl (decide (s∈o6)),J))(h:CT L' r.length G):∀(l:O aa) (z6:g_),(∀s∈l,s∈kU)->
  (∃s∈o6,(G r.length s).isSome=U/\∀d B,C 10 [.lst L',.str s]=Y (d,B)->iw (eO U [6]) (dI C Nu) (l.map Dat.str) (wY t r E b L' f z5 z6)=Y (.rt d B))\/((∀s∈l,s∈o6->(G r.length s).isSome=J)/\∃z,iw (eO U [6]) (dI C Nu) (l.map Dat.str) (wY t r E b L' f z5 z6)=Y (.nx (wY t r E b L' f z5 z)))
 |[],z6,hl=>.inr ⟨(λ_ h=>nomatch h),_,W⟩
 |s::l,z6,hl=>by
   refine ac λ_ u=>?_;obtain⟨w,k,i2⟩:=yI h (aq _);have m:be C (.call 0 [.v 6]) (full (wY t r E b L' f z5 (Y (.str s,J))))=Y (.bl (decide _),J):=(wM W).trans (F s (hl s jM));have n:be C (.cmp _ (.v 6) (.ix (.v 3) (.blt _ [.v 1]))) (full (wY t r E b L' f z5 (Y (.str s,J))))=Y (.bl (G _ s).isSome,J):=gn W (yr W (ik W (gQ r)) k) (zL i2);obtain⟨g,c⟩:=Xi m n;apply u;by_cases q:(decide (s∈o6) && (G r.length s).isSome)=U
   .rw[q]at c;obtain⟨e,a⟩:=dR.mp q;refine .inl ⟨s,c5 e,a,λd B hd=>?_⟩;have j:Go C Nu (wY t r E b L' f z5 (Y _)) _:=sD c (xA ((yK W rfl).trans hd)) W;obtain⟨_,i,rfl⟩:=j;show(dI C Nu (wY t r E b L' f z5 (Y _))).bind _=_;rw[i];rfl
   .rw[g9.mpr q]at c;have j:Go C Nu (wY t r E b L' f z5 (Y _)) λo=>o=.nx (wY t r E b L' f z5 (Y _)):=jg c (bo W);obtain⟨_,i,rfl⟩:=j
    rcases findR F h l (Y _) (λs h=>hl s (jY _ h))with⟨p,e,a,q3⟩|⟨e,z,a⟩
    .refine .inl ⟨p,e,a,λd B hd=>?_⟩;show(dI C Nu (wY t r E b L' f z5 (Y _))).bind _=_;rw[i];exact q3 d B hd
    .refine .inr ⟨λp h1 h2=>?_,z,?_⟩
     .grind
     .show(dI C Nu (wY t r E b L' f z5 (Y _))).bind _=_;rwa[i]
abbrev Is(E:O Ed)(r:O cx):Prop:=∃s∈o6,Rr E r r.length s
def xR(f:T):Dat:=.exc 158 "place" (.inl (f:T))
theorem RK:∀{a:O Sx}{ρ:cT},dI C a ρ=Y (.rt d f)->dI C (a++b) ρ=Y (.rt d f)
 |[],_,h=>nomatch h
 |s::a,ρ,h=>by
   obtain⟨o,h1,h2⟩:=bT h;refine(iD).mpr ⟨o,h1,?_⟩
   clear h h1; cases o with
   |nx c=>exact RK h2
   |_=>exact h2
def run_read(ge:gE E)(ok:∀e∈E,uL e)(O':Cn D (k+3) 7 [tb t]=Y (pI E,U))(c3:Z r<=999):(Is E r/\∃y,Cn D (k+4) 11 [tb t,tI r]=Y (sT y,J)/\XS E y r/\Z y<=6 * Z r)\/(¬Is E r/\Cn D (k+4) 11 [tb t,tI r]=L/\∃f,Cn D (k+4) (11+CM) [tb t,tI r]=Y (xR f,U)/\Jn E r f):=by
 suffices h:Go (Cn D (k+3)) XZ.dropLast [Y (tb t,J),Y (tI r,J),L,L,L,L,L] λo=>(∃y,o=.rt (sT y) J/\Is E r/\XS E y r/\Z y<=6 * Z r)\/∃b L' f z5 z6,o=.nx (wY t r E b L' f z5 z6)/\¬Is E r/\Jn E r f by
  obtain⟨o,h1,⟨y,rfl,h2,h3⟩|⟨b,L',f,z5,z6,rfl,h2,h3⟩⟩:=h
  .exact .inl ⟨h2,y,fT (body:=XZ) W (RK (b:=[.Ay]) h1),h3⟩
  .refine .inr ⟨h2,?_,f,?_,h3⟩
   .show(dI (Cn D (k+3)) (XZ.dropLast++[.Ay]) [Y (tb t,J),Y (tI r,J),L,L,L,L,L]).bind ZL=L
    cases q:dI (Cn D (k+3)) (XZ.dropLast++[.Ay]) [Y (tb t,J),Y (tI r,J),L,L,L,L,L]with
    |none=>rfl
    |some o=>
      obtain⟨j,l⟩:=wF q;rw[h1]at j;cases j;exact absurd rfl (l _)
   .show(dI (Cn D (k+3)) XZ.dropLast [Y (tb t,J),Y (tI r,J),L,L,L,L,L]).bind (YE (Cn D (k+3)) 158 "place" (.v 4))=_;rw[h1];rfl
 have n:∀s∈kU,Cn D (k+3) 0 [.str s]=Y (.bl (decide (s∈o6)),J):=λs hs=>Uy hs;have u:=λ(L':O Dat)(G:Cm)(s:aa)(P:Cv E r G)(Q:CT L' r.length G)(hs:(G r.length s).isSome=U)=>Uw (k:=k+2) P ok Q c3 hs;have A:=λ(p:T)(b:cc)(L':O Dat)(G:Cm)(f:T)(z6:g_)(s:aa)(us vs:O aa)(hp:p<Z r)(F:kU=us++s::vs)(h:CT L' r.length G)(hi:Rf E r (Pr p us) G f)=>Ym (k:=k+1) (t:=t) (b:=b) (f:=f) (z6:=z6) ok hp F h hi;generalize Cn D (k+3)=C at O' n u A ⊢
 have c1:be C (.cat (.comp 1 U [] (.itv (.v 1)) [] .rj) (.lst [.rj])) [Y (tb t),Y (tI r),Y (pI E),L,L,L,L]=Y (.lst (bb r.length (.dct [] [])++[.dct [] []]),U):=by
  have R:be C (.comp 1 U [] (.itv (.v 1)) [] .rj) [Y (tb t),Y (tI r),Y (pI E),L,L,L,L]=Y (.lst (bb r.length (.dct [] [])),U):=by
   refine oW (items:=r.map Dat.int) W (by rw[aD];exact af c3 (by decide)) (by rw[zE,aD])
  show bu (be C (.comp 1 U [] (.itv (.v 1)) [] .rj) [Y (tb t),Y (tI r),Y (pI E),L,L,L,L]) _=_;rw[R];show(if(bb r.length (Dat.dct [] [])).length+1<=aJ then _ else L)=_;rw[a5 (by rw[ja,mS];exact TD c3 (by decide))]
 refine bN (Yx ((wM W).trans O') W) (fG c1 ?_);obtain⟨T',m1,m2⟩:=F6 (i:=3) (C:=C) (ρ:=[Y (tb t,J),Y (tI r,J),Y (pI E,U),Y (.lst (bb r.length (.dct [] [])++[.dct [] []]),U),L,L,L]) (v:=(L:ar Ed)) (p:=0) (s:=jw) (ke:=.e_ 0) (xi:=.con (.str jw)) (xe:=.con .non) (WO r.length) (aU _) (by decide) W rfl rfl rfl;refine bN m1 (bN (dX W rfl) ?_)
 have H:Rf E r (Pr 0 []) (Hm (λ_ _=>L) 0 jw L) 0:=by
  refine⟨⟨⟨λs o ho=>?_,oH,λp s e he=>?_,λp s hp ho=>?_⟩,λe he q h1=>by rcases h1 with h1|⟨_,h1⟩<;>cases h1⟩,.inl rfl,λe he q h1=>by rcases h1 with h1|⟨_,h1⟩<;>cases h1⟩
  .by_cases c:(0:T)=0/\s=jw
   .rw[c.2,oH]at ho;cases ho;exact⟨c.2,W⟩
   .rw[tL c]at ho;cases ho
  .by_cases c:p=0/\s=jw
   .rw[c.1,c.2,oH]at he;cases he
   .rw[tL c]at he;cases he
  .rw[AS (jE hp)]at ho;cases ho
 refine i4 (xs:=aX r.length) (V:=λk:T=>Dat.int k) (I:=λus ρ=>∃b L' G f z5 z6,ρ=wY t r E b L' f z5 z6/\CT L' r.length G/\Rf E r (Pr us.length []) G f) (by rw[sS,n9 (m:=r.length) (ik W (gQ r)) (WF c3)];rfl) ⟨U,T',_,0,L,L,W,m2,H⟩ ?_ ?_
 .rintro us p vs _ F ⟨b,L',G,f,z5,z6,rfl,h,hi⟩;obtain⟨rfl,hp⟩:=Ae F;refine⟨_,W,i4 (xs:=kU) (V:=Dat.str) (I:=λvs ρ=>∃b L' G f z6,ρ=wY t r E b L' f (Y (.int (us.length:T),J)) z6/\CT L' r.length G/\Rf E r (Pr us.length vs) G f) (by rfl) ⟨b,L',G,f,z6,W,h,hi⟩ ?_ ?_⟩
  .rintro J' s K _ M ⟨b,L',G,f,z6,rfl,h,hi⟩;exact A us.length b L' G f z6 s J' K hp M h hi
  .rintro _ ⟨b,L',G,f,z6,rfl,h,hi⟩
   have up:∀e∈E,∀q,Pr (us++[us.length]).length [] q e.1->Pr us.length kU q e.1:=λe he q h1=>by
    rw[aj]at h1
    rcases h1 with h1|⟨_,h1⟩
    .rcases gf q us.length with z|z
     .exact .inl z
     .exact .inr ⟨aH (a8 h1) z,ge.b e he⟩
    .cases h1
   exact bo ⟨_,W,b,L',G,f,_,_,W,h,⟨hi.g.c,λe he q h1=>hi.g.d e he q (up e he q h1)⟩,hi.a,λe he q h1=>hi.m e he q (up e he q h1)⟩
 rintro _ ⟨b,L',G,f,z5,z6,rfl,h,hi⟩;rw[aW]at hi;have B:∀q,∀e∈E,(G q e.1).isSome=U->lK r q e=U->(G (q+Z e.2.2.1) e.2.2.2).isSome=U:=λq e he h1 h2=>hi.g.d e he q (.inl (DL (ok e he).c h2)) h1 h2;have N:Jn E r f:=⟨hi.a,λq e he w U'=>hi.m e he q (.inl U') (MC hi.g.c B w)⟩
 rcases findR (C:=C) (t:=t) (E:=E) (b:=b) (f:=f) (z5:=z5) n h kU z6 (λ_ h=>h)with⟨s,j,l,q3⟩|⟨j,z,l⟩
 .obtain⟨S,e1,e2,e3,e0,e5⟩:=u L' G s hi.g.c h l;have X:=q3 _ _ e1;refine⟨_,uY (show pv C (.loop U [6] (.itv STX) Nu) (wY t r E b L' f z5 z6)=Y (.rt (sT (zf S)) J)from X),.inl ⟨zf S,W,⟨s,j,MB hi.g.c (λe he=>(ok e he).c) _ _ (aq _) l⟩,e0▸WU e2 e3 j,?_⟩⟩;have:=S8 λe he=>(ok e (e2 e he)).t;exact lQ this (ZB 6 e5)
 .refine bN (show pv C (.loop U [6] (.itv STX) Nu) (wY t r E b L' f z5 z6)=Y (.nx (wY t r E b L' f z5 z))from l) (bo (.inr ⟨b,L',f,z5,z,W,λe4=>?_,N⟩));obtain⟨s,h1,h2⟩:=e4;have:=MC hi.g.c B h2;rw[j s ((by decide:∀s∈o6,s∈kU) s h1) h1]at this;cases this
end K35E
namespace K35E
open L2 M K35
section
variable{C:Fs}{E F:O Ed}{r:O cx}{q f b:T}{e:Ed}{A:T->O aa}{SL:O Dat}{us:O Ed}
theorem ER:∀(c r:O cx)(k:T),k<=nV c r↔k<=Z c/\r.take k=c.take k
 |_,_,0=>by simp
 |[],r,k+1=>by simp[nV]
 |_::_,[],k+1=>by simp[nV]
 |a::c,b::r,k+1=>by
   unfold nV;by_cases h:a=b
   .rw[a5 h,Nat.succ_le_succ_iff,ER c r k];simp[h]
   .rw[cb h];simp;exact λ_ z=>absurd z.symm h
theorem WN : M.cutD l L (Y (i:T))=l.take i:=by
 unfold M.cutD;rw[HT.uZ,HT.rW,xP]
 grind
theorem WM : M.cutD l (Y (i:T)) L=l.drop i:=by
 unfold M.cutD;rw[HT.uZ,HT.rW,cM (ag dF)];simp
theorem Yr{ρ:gC}{a c:Ex}{i:T}{f g:cc}(h:be C a ρ=Y (tI r,f))(h2:be C c ρ=Y (.int (i:T),g)):be C (.sl a L (Y c)) ρ=Y (tI (r.take i),J):=OJ h h2 (by
 show Y (Dat.tup (M.cutD (r.map Dat.int) L (Y (i:T))),J)=_
 rw[vo,WN])
theorem Yu{ρ:gC}{a c:Ex}{i:T}{f g:cc}(h:be C a ρ=Y (tI r,f))(h2:be C c ρ=Y (.int (i:T),g)):be C (.sl a (Y c) L) ρ=Y (tI (r.drop i),J):=OI h h2 (by
 show Y (Dat.tup (M.cutD (r.map _) (Y _) L),J)=_
 rw[vo,WM])
theorem Yv{ρ:gC}{a c d:Ex}{i k:T}{f g w:cc}(h:be C a ρ=Y (tI r,f))(h2:be C c ρ=Y (.int (i:T),g))(h3:be C d ρ=Y (.int ((i+k:T):cx),w))(hi:i<=Z r):be C (.sl a (Y c) (Y d)) ρ=Y (tI ((r.drop i).take k),J):=by
 rw[yE,h];show bu (r8 _) _=_;rw[h2];show bu (r8 (be C d ρ)) _=_;rw[h3];show Y (Dat.tup (M.cutD (r.map _) (Y _) (Y _)),J)=_;rw[vo,MD hi]
abbrev t31(C:Fs)(ρ:cT):ar cc:=(be C c31 (full ρ)).bind λx=>gw x.1
def MI(hp:p<=Z r):t31 C (yQ c r p k)=Y (decide (k+1<=nV c (r.drop p))):=by
 have h1:be C (.cmp .lt (.v 3) (.blt _ [.v 0])) (full (yQ c r p k))=Y (.bl (decide _),J):=gn W (ik W (gQ c)) W
 have h2:be C (.cmp _ (.sl (.v 1) (Y (.v 2)) (Y (.bin .add (.bin .add (.v 2) (.v 3)) (.e_ 1)))) (.sl (.v 0) L (Y (.bin .add (.v 3) (.e_ 1))))) (full (yQ c r p k))=Y (.bl (decide ((r.drop p).take (k+1)=c.take _)),J):=
  gn (Yv W rfl (fJ (fJ W rfl rfl) W rfl) hp) (Yr W (fJ W rfl rfl)) (by rw[Wy (p5 19 _) (p5 19 _),ud])
 obtain⟨g,h3⟩:=Xi h1 h2;unfold t31;rw[show be C c31 (full _)=_ from h3];rw[<-NY];exact c8 Y (decide_eq_decide.mpr ((and_congr_left' (by omega)).trans (ER ..).symm))
theorem Ly(hp:p<=Z r):∀(m fuel k:T),k+m=nV c (r.drop p)->m<fuel->pW (t31 C) (dI C JB) fuel (yQ c r p k)=Y (.nx (yQ c r p (nV c (r.drop p))))
 |m,0,k,_,h=>absurd h (j1 _)
 |0,fuel+1,k,hk,hf=>by
   unfold pW;rw[MI hp,<-hk,c4 (by omega)];rfl
 |m+1,fuel+1,k,hk,hf=>by
   unfold pW;rw[MI hp,c0 (by omega),bp];exact Ly hp m fuel (k+1) (by omega) (by omega)
def Ux{c:O cx}(hp:p<=Z r)(hc:Z c<=1000):Cn D (n+1) 31 [tI c,tI r,.int (p:T)]=Y (.int (nV c (r.drop p):T),J):=by
 apply ph W;generalize Cn D n=C;exact bN (dX W rfl) (bN (by rw[yZ];exact (Ly (C:=C) hp (nV c _) kQ 0 (fZ _) (az (af ((ER ..).mp (aq _)).1 hc) (by decide)))) ⟨_,W,W⟩)
def XD(A:T->O aa)(k:T)(s:aa):T->O aa:=λq=>if q=k then A k++[s]else A q
def nU(r:O cx)(q:T)(e:Ed)(A:T->O aa):T->O aa:=if lK r q e=U then XD A (q+Z e.2.2.1) e.2.2.2 else A
structure Dv(E F:O Ed)(r:O cx)(P:T->Ed->Prop)(A:T->O aa)(f b:T):Prop where
 z:jw∈A 0
 s:∀q,∀t∈A q,Rr E r q t
 d:∀q,∀e∈F,P q e->e.1∈A q->lK r q e=U->e.2.2.2∈A (q+Z e.2.2.1)
 a:Am E r f
 m:∀q,∀e∈F,P q e->e.1∈A q->q+nV e.2.2.1 (r.drop q)<=f
 n:∀q,Z (A q)<=b
abbrev Pq(p:T)(us:O Ed):T->Ed->Prop:=λq e=>q<p\/(q=p/\e∈us)
def FC(h:Pq q (us++[e]) k d):Pq q us k d\/(k=q/\d=e):=by
 rcases h with h|⟨h1,h2⟩
 .exact .inl (.inl h)
 .rcases ax.mp h2 with h2|h2
  .exact .inl (.inr ⟨h1,h2⟩)
  .exact .inr ⟨h1,au.mp h2⟩
def QK(hi:Dv E F r (Pq q us) A f b)(he:e∈E)(ok:e.2.2.1≠[])(B:q<Z r)(c:e.1∈A q):Dv E F r (Pq q (us++[e])) (nU r q e A) (Max.max f (q+nV e.2.2.1 (r.drop q))) (b+1):=by
 have hl:=bG.mpr ok
 have ne:∀k,k<=q->nU r q e A k=A k:=λk hk=>by
  unfold nU;split
  .exact cb (UF (Nat.add_le_add hk hl))
  .rfl
 have g:∀{k t},t∈A k->t∈nU r q e A k:=λ{k t}h=>by
  unfold nU XD;split
  .grind
  .exact h
 refine⟨g hi.z,λk t ht=>?_,λk d hd hp h1 h2=>?_,EN hi.a (.inr ⟨q,e,he,hi.s q _ c,B,W⟩),λk d hd hp h1=>?_,λk=>?_⟩
 .unfold nU at ht;split at ht
  .rename_i hp;unfold XD at ht;split at ht
   .rename_i hk
    rcases ax.mp ht with ht|ht
    .exact hi.s k t (hk▸ht)
    .rw[au.mp ht,hk];exact .s (hi.s q _ c) he hp
   .exact hi.s k t ht
  .exact hi.s k t ht
 .rw[ne k ((λh=>h.elim aE λz=>ag z.1) hp)]at h1
  clear he ok B c hl ne; rcases FC hp with hp|⟨rfl,rfl⟩
  .exact g (hi.d k d hd hp h1 h2)
  .unfold nU XD;rw[a5 h2];simp
 .rw[ne k ((λh=>h.elim aE λz=>ag z.1) hp)]at h1
  clear he ok B c hl ne g; rcases FC hp with hp|⟨rfl,rfl⟩
  .exact af (hi.m k d hd hp h1) (xw _ _)
  .exact vy _ _
 .have h1:=hi.n k;have h2:=hi.n (q+Z e.2.2.1);unfold nU XD;split
  .dsimp only;split
   .simp_all
   .exact WF h1
  .exact WF h1
def QL(hi:Dv E F r (Pq q us) A f b)(c:e.1∉A q):Dv E F r (Pq q (us++[e])) A f (b+1):=by
 refine⟨hi.z,hi.s,λk d hd hp h1 h2=>?_,hi.a,λk d hd hp h1=>?_,λk=>du (hi.n k)⟩
 .rcases FC hp with hp|⟨rfl,rfl⟩
  .exact hi.d k d hd hp h1 h2
  .exact absurd h1 c
 .rcases FC hp with hp|⟨rfl,rfl⟩
  .exact hi.m k d hd hp h1
  .exact absurd h1 c
def WD(hi:Dv E F r (Pq r.length []) A f b)(B:∀e,e∈F↔e∈E)(ok:∀e∈F,uL e)(w:Rr E r q s):s∈A q:=by
 induction w with
 |z=>exact hi.z
 |s w he hp a=>
   have he:=(B _).mpr he;exact hi.d _ _ he (.inl (DL (ok _ he).c hp)) a hp
structure SD(SL:O Dat)(n:T)(A:T->O aa):Prop where
 l:Z SL=n+1
 r:∀q,q<=n->SL[q]?=Y (.lst ((A q).map Dat.str))
abbrev xJ(F:O Ed)(r:O cx)(SL:O Dat)(f:T)(z4 z5 z6 B:g_):cT:=[Y (.lst (F.map cY),J),Y (tI r,J),Y (.lst SL,U),Y (.int (f:T),J),z4,z5,z6,B]
theorem RL:∀l:O aa,eU 20 (l.map Dat.str)=U
 |[]=>rfl
 |a::l=>by
   show(iL 20 (.str a) && eU 20 (l.map Dat.str))=U;rw[RL l];rfl
def Gj(s:aa)(l:O aa):kh .isin (.str s) (.lst (l.map Dat.str))=Y (decide (s∈l)):=by
 show(if(iL 20 _ && eU 20 (l.map _))=U then Y ((l.map _).any λy=>pL y _)else L)=_;rw[RL,CL];apply c8 Y;rw[pU,lE,c6];constructor
 .rintro⟨y,a,h⟩;exact(eq_of_beq (h))▸a
 .exact λh=>⟨s,h,by show(s == s)=U;simp⟩
def ixn(h:k<Z SL):rJ SL.length (k:T)=Y k:=by
 unfold rJ
 simp_all
def Yj(S:∀{c:O cx} {p:T},p<=Z r->Z c<=1000->C 31 [tI c,tI r,.int (p:T)]=Y (.int (nV c (r.drop p):T),J))(he:e∈E)(ok:uL e)(B:q<Z r)(hb:b<1000000)(h:SD SL r.length A)(hi:Dv E F r (Pq q us) A f b) :
  ∃R,eO U [5] (cY e) (xJ F r SL f (Y (.int (q:T),J)) z5 z6 P)=Y R/\Go C lbX R λo=>∃I,o=.nx I/\∃SL A f z5 z6,I=xJ F r SL f (Y (.int (q:T),J)) z5 z6 P/\SD SL r.length A/\Dv E F r (Pq q (us++[e])) A f (b+1):=by
 refine⟨_,W,?_⟩;have a:be C (.cmp _ (.ix (.v 5) (.e_ 0)) (.ix (.v 2) (.v 4))) (full (xJ F r SL f (Y (.int _,J)) (Y (cY e,J)) z6 P))=Y (.bl (decide _),J):=gn W (yr W rfl (jK (h.r q (aE B)))) (Gj _ _);by_cases c:e.1∈A q
 .rw[c0 c]at a;refine iN (J':=λj=>∃SL z6,j=xJ F r SL (max f (q+nV _ _)) (Y (.int _,J)) (Y (cY e,J)) z6 P/\SD SL _ _) a (λ_=>?_) (λz=>nomatch z) λs ⟨SL,z6,z,d⟩=>bo ⟨_,W,SL,_,_,_,_,z,d,(QK hi he ok.c B c)⟩;refine bN (dX ((wL W rfl rfl).trans (S (aE B) (af ok.k (by decide)))) W) (bN (dX (fJ W (fJ W rfl rfl) (c8 (λi=>Y (Dat.int i,J)) (DT f _))) W) ?_);generalize max f (q+nV _ _)=f';have m:be C (.cmp .eq (.v 6) (.blt _ [.ix (.v 5) (.e_ 2)])) (full (xJ F r SL f' (Y (.int (q),J)) (Y (cY e,J)) (Y (.int (nV _ _),J)) P))=Y (.bl (lK r q e),J):=(gn W (ik W (gQ _)) W).trans (c8 (λi=>Y (Dat.bl i,J)) (decide_eq_decide.mpr (Int.ofNat_inj.trans (ug _ _))));refine iN (J':=λj=>∃SL,j=xJ F r SL f' (Y (.int _,J)) (Y _) (Y (.int (nV _ _),J)) P/\SD SL _ _) m (λhp=>?_) (λhp=>bo ⟨_,W,SL,W,by unfold nU;simp_all⟩) λs ⟨SL,z,d⟩=>bo ⟨_,W,SL,_,z,d⟩;have hk:=rY (aE B) hp;rw[((ug _ _).mpr (c5 hp))]
  have t:pv C (.Jh 2 (.bin .add (.v 4) (.v 6)) (.ix (.v 5) (.e_ 3))) (xJ F r SL f' (Y (.int (q),J)) (Y (cY e,J)) (Y (.int (e.2.2.1.length),J)) P)=Y (.nx (xJ F r (SL.set (q+Z e.2.2.1) (.lst ((A (q+Z e.2.2.1)++[e.2.2.2]).map Dat.str))) f' (Y (.int (q),J)) (Y (cY e,J)) (Y (.int (e.2.2.1.length),J)) P)):=by
   show jQ _ (bu (rJ _ ((q+Z e.2.2.1:T))) _)=_;rw[ixn (by rw[h.l];exact jk hk),bp,h.r _ hk,bp,qt (by rw[aD];exact az (hi.n _) hb),dB];rfl
  refine bN t (bo ⟨_,W,_,W,by rw[pP];exact h.l,λk g=>?_⟩);unfold nU XD;rw[a5 hp];by_cases c:k=q+Z e.2.2.1
  .rw[c,eZ (by rw[h.l];exact jk hk),a5 W]
  .rw[bX (cB c),cb c];exact h.r k g
 .rw[c4 c]at a;exact jg a (bo ⟨_,W,SL,A,f,_,_,W,h,QL hi c⟩)
abbrev XH:Dat:=.tup [.str (ae "read"),.int 0]
noncomputable abbrev Sh(f:T):Dat:=.tup [.str (ae "reading"),.int (f:T)]
theorem findZ(h:SD SL r.length A):∀(l:O aa)(P:g_),((∃s∈l,s∈A r.length)/\∃I,iw (eO U [7]) (dI C Qd) (l.map Dat.str) (xJ F r SL f z4 z5 z6 P)=Y (.rt XH I))\/((¬ ∃s∈l,s∈A r.length)/\∃B,iw (eO U [7]) (dI C Qd) (l.map Dat.str) (xJ F r SL f z4 z5 z6 P)=Y (.nx (xJ F r SL f z4 z5 z6 B)))
 |[],P=>.inr ⟨(λ⟨_,h,_⟩=>nomatch h),_,W⟩
 |s::l,P=>by
   have a:be C (.cmp .isin (.v 7) (.ix (.v 2) (.blt .len [.v 1]))) (full (xJ F r SL f z4 z5 z6 (Y (.str s,J))))=Y (.bl (decide (s∈A r.length)),J):=gn W (yr W (ik W (gQ r)) (jK (h.r _ (aq _)))) (Gj _ _);by_cases c:s∈A r.length
   .rw[c0 c]at a;obtain⟨_,d,I,rfl⟩:Go C Qd (xJ F r SL f z4 z5 z6 (Y (.str s,J))) λo=>∃I,o=.rt XH I:=sD a (xA W) ⟨_,W⟩;refine .inl ⟨⟨s,jM,c⟩,I,?_⟩;show(dI C Qd (xJ F r SL f z4 z5 z6 (Y (.str s,J)))).bind _=_;rw[d];rfl
   .rw[c4 c]at a;obtain⟨_,d,rfl⟩:Go C Qd (xJ F r SL f z4 z5 z6 (Y (.str s,J))) λo=>o=.nx (xJ F r SL f z4 z5 z6 (Y (.str s,J))):=jg a (bo W)
    have i:∀o,iw (eO U [7]) (dI C Qd) (l.map Dat.str) (xJ F r SL f z4 z5 z6 (Y (.str s,J)))=o->iw (eO U [7]) (dI C Qd) ((s::l).map Dat.str) (xJ F r SL f z4 z5 z6 P)=o:=λo ho=>by
     show(dI C Qd (xJ F r SL f z4 z5 z6 (Y (.str s,J)))).bind _=_;rw[d];exact ho
    rcases findZ h l (Y (.str s,J))with⟨⟨t,h1,h2⟩,I,h3⟩|⟨h1,z,h3⟩
    .exact .inl ⟨⟨t,jY _ h1,h2⟩,I,i _ h3⟩
    .refine .inr ⟨λy=>?_,z,i _ h3⟩
     obtain⟨t,h2,g⟩:=y;grind
def O4(S:∀e,e∈F↔e∈E)(ok:∀e∈F,uL e)(hl:Z F<=1000)(P:Z r<=990):(Is E r/\∃R,Cn D (n+2) 32 [.lst (F.map cY),tI r]=Y (XH,R))\/(¬Is E r/\∃f R,Cn D (n+2) 32 [.lst (F.map cY),tI r]=Y (Sh f,R)/\Jn E r f):=by
 suffices h:Go (Cn D _) _ [Y (.lst _,J),Y _,L,L,L,L,L,L] λo=>(Is E r/\∃R,o=.rt XH R)\/¬Is E r/\∃f R,o=.rt (Sh f) R/\Jn E r f by
  obtain⟨_,h1,⟨h2,R,rfl⟩|⟨h2,f,R,rfl,h3⟩⟩:=h
  .exact .inl ⟨h2,R,fT W h1⟩
  .exact .inr ⟨h2,f,R,fT W h1,h3⟩
 have l:∀{c:O _}{p:T},p<=Z r->Z c<=1000->Cn D (n+1) 31 [tI c,tI r,.int _]=Y (.int (nV c _),J):=λh1 h2=>Ux h1 h2;generalize Cn D _=C at l ⊢;apply fG (oW (n9 (m:=Z r+1) (fJ (ik W (gQ _)) W rfl) (TD P (by decide))) (by rw[aD,aW];exact af (bc P) cF) (wb _));rw[aD,aW]
 have s1:pv C (.Jh 2 (.e_ 0) (.con (.str jw))) [Y (.lst (F.map cY),J),Y (tI r,J),Y (.lst (bb (Z r+1) (.lst [])),U),L,L,L,L,L]=Y (.nx [Y (.lst (F.map cY),J),Y (tI r,J),Y (.lst ((bb (Z r+1) (.lst [])).set 0 (.lst [.str jw])),U),L,L,L,L,L]):=by
  show jQ _ (bu (rJ (bb _ _).length ((0:T))) _)=_;rw[ixn (by simp)];rfl
 have v:SD ((bb (Z r+1) (.lst [])).set 0 (.lst [.str jw])) r.length λq=>if q=0 then [jw]else []:=by
  refine⟨by simp,λq g=>?_⟩;by_cases c:q=0
  .subst c;rfl
  .rw[bX (cB c),bI,a5 (jk g)]
   simp_all
 have x:Dv E F r (Pq 0 []) (λq=>if q=0 then [jw]else []) 0 1:=by
  refine⟨by simp,λq t ht=>?_,λq e _ hp=>(by rcases hp with hp|⟨_,hp⟩<;>cases hp),.inl rfl,λq e _ hp=>(by rcases hp with hp|⟨_,hp⟩<;>cases hp),λq=>by split<;>simp⟩;split at ht
  .rename_i c;rw[au.mp ht,c];exact .z
  .cases ht
 refine bN s1 (bN (dX W rfl) (i4 (I:=λus K=>∃SL A f M j H,K=xJ F r SL f M j H L/\SD SL _ A/\Dv E F r (Pq us.length []) A f (1+Z us * 1000)) (by rw[sS,n9 (ik W (gQ _)) (af P (by decide))];rfl) ⟨_,_,0,L,L,L,W,v,x⟩ ?_ ?_))
 .rintro us q vs _ y ⟨SL,A,f,M,j,H,rfl,h,hi⟩;obtain⟨rfl,g⟩:=Ae y;refine⟨_,W,i4 (I:=λvs K=>∃SL A f j H,K=xJ F r SL f (Y (.int (us.length),J)) j H L/\SD SL _ A/\Dv E F r (Pq _ vs) A f (1+Z us * 1000+Z vs)) (by rfl) ⟨SL,A,f,j,H,W,h,hi⟩ ?_ ?_⟩
  .rintro ws e N _ u ⟨SL,A,f,j,H,rfl,h,hi⟩;have i:=c8 gh u;rw[aj]at i;rw[aj];exact Yj (b:=1+Z us * 1000+Z ws) l ((S e).mp (by rw[u];simp)) (ok e (by rw[u];simp)) g (XN (ZB 1000 g) (ag i.symm) (ZB 1000 P) hl) h hi
  .rintro _ ⟨SL,A,f,j,H,rfl,h,hi⟩
   have up:∀k,∀e∈F,Pq (us++[us.length]).length [] k e->Pq _ F k e:=λk e he h1=>by
    rw[aj]at h1
    rcases h1 with h1|⟨_,h1⟩
    .rcases gf k _ with z|z
     .exact .inl z
     .exact .inr ⟨aH (a8 h1) z,he⟩
    .cases h1
   exact bo ⟨_,W,SL,A,f,_,j,H,W,h,hi.z,hi.s,λk e he hp=>hi.d k e he (up k e he hp),hi.a,λk e he hp=>hi.m k e he (up k e he hp),λk=>af (hi.n k) (by rw[aj,qj];exact iY hl)⟩
 rintro _ ⟨SL,A,f,M,j,H,rfl,h,hi⟩;rw[aW]at hi;have all:=λ(q)(s)(w:Rr E r q s)=>WD hi S ok w;rcases findZ h o6 L with⟨⟨s,h1,h2⟩,R,h3⟩|⟨h1,z,h3⟩
 .exact⟨_,uY (h3),.inl ⟨⟨s,h1,hi.s _ _ h2⟩,R,W⟩⟩
 .exact bN (h3) (jN W (.inr ⟨λ⟨s,B,G⟩=>h1 ⟨s,B,all _ s G⟩,f,_,W,⟨hi.a,λq e he w g=>hi.m q e ((S e).mpr he) (.inl g) (all q _ w)⟩⟩))
end
def VN(ht:K5 t):Z (LE t)<=1000:=by
 have h1:=hJ (g:=dg t) (l:=aX t.fg.length) λk _=>aq 3;have h2:=hJ (l:=t.fs) λf _=>wo t f;have h3:=ht.hf;have a:=ht.hl;have b:Z (if t.fg.isEmpty=U then []else [(mK,[],t.m3,lz)]:O Ed)<=1:=by split<;>simp
 rw[aW]at h1;rw[aj,aj,aj];show 3+_+_+_<=_;omega
def Zu(t:Tb):im (tb t)=U:=by
 show(mR _ && (im _ && (im (tI _) && U)))=U;rw[nN,Ej,mY];rfl
def Sk(h:be C e (full ρ)=Y (d,f))(hi:(im d || f)=U):yF C e ρ=Y (d,f,ρ):=by
 unfold yF;rw[h,bp,a5 hi]
def ZH(h:be C e (full ρ)=L):yF C e ρ=L:=by
 unfold yF;rw[h];rfl
def GB{C:Fs}{i j y m:T}{xs:O Ex}{ok:O T}{ρ:cT}:pv C (.XF i j xs y m ok) ρ=match yF C (.call j xs) ρ with
 |some x=>if i=0\/y=0 then L else Y (.nx (x.2.2.set i (Y (x.1,x.2.1 && !im x.1))))
 |none=>if i=0\/y=0 then L else(yF C (.call (j+CM) xs) ρ).bind λx=>S9 y m ok x.2.2 x.2.1 x.1:=rfl
def Km:∃b,Cn D (n+2) 29 [xR f]=Y (Sh f,b):=by
 have a:Cn D (n+1) 14 [.int (f)]=Y (.bl U,J):=ph W (jN W rfl)
 suffices h:Go (Cn D _) _ [Y _,L] λo=>∃b,o=.rt (Sh f) b by
  obtain⟨_,h1,b,rfl⟩:=h;exact⟨b,fT W h1⟩
 generalize Cn D _=C at a ⊢;refine fG W (jg W (iN (J':=λc=>c=[Y _,Y (.lst _,U)]) W (λ_=>qX (P:=(·= Sh f)) ⟨_,_,W,W,W⟩ W (by decide) λd hd=>bo ⟨_,W,by rw[hd];rfl⟩) (λz=>nomatch z) λe z=>?_));subst z;exact jg W (jg W (jg W (jg W (jg (f:=J) (abe ((wM W).trans a)) (jN W ⟨_,W⟩)))))
def HF{r:O cx}(ge:gE E)(B:∀e,e∈LE t↔e∈E)(ok:∀e∈E,uL e)(I:Cn D (n+3) 7 [tb t]=Y (pI E,U))(F:Z r<=990) :
  (Is E r/\∃b,Cn D (n+5) 33 [tb t,.lst ((LE t).map cY),tI r]=Y (XH,b))\/(¬Is E r/\∃f b,Cn D (n+5) 33 [tb t,.lst ((LE t).map cY),tI r]=Y (Sh f,b)/\Jn E r f):=by
 have d:=run_read ge ok I (af F (by decide));have g:=λf=>Km (n:=n+2) (f:=f);have i:=λ(y)(k:Z y<=6 * Z r)=>OZ (n:=n+3) (x:=y) (r:=r) B ge (λe m=>ok e ((B e).mp m)) (lQ k (ZB 6 F)) (af F (by decide))
 suffices h:Go (Cn D _) _ [Y _,Y (.lst _,J),Y _,L,L,L] λo=>(Is E r/\∃b,o=.rt XH b)\/¬Is E r/\∃f b,o=.rt (Sh f) b/\Jn E r f by
  obtain⟨_,h1,⟨h2,c,rfl⟩|⟨h2,f,c,rfl,h3⟩⟩:=h
  .exact .inl ⟨h2,c,fT W h1⟩
  .exact .inr ⟨h2,f,c,fT W h1,h3⟩
 generalize Cn D (n+4)=C at *;refine bN (dX W rfl) (bN (dX W rfl) ?_)
 rcases d with⟨h1,y,h2,h3,j⟩|⟨h1,h2,f,h3,j⟩
 .have s1:pv C (.XF 4 11 [.v 0,.v 2] 3 5 [158]) [Y (tb t,J),Y (.lst ((LE t).map cY),J),Y (tI r,J),Y (.non,J),Y (.str (T' []),J),L]=Y (.nx [Y (tb t,J),Y (.lst ((LE t).map cY),J),Y (tI r,J),Y (.non,J),Y (sT y,J),L]):=by
   rw[GB,Sk ((yK W rfl).trans h2) W];rfl
  obtain⟨b,a,e5⟩:=i y j;rw[e5.mpr h3]at a;refine bN s1 (jg W (sD (f:=J) ?_ (xA W) (.inl ⟨h1,_,W⟩)));rw[fA (ik W rfl)];exact(wL W rfl rfl).trans a
 .have s1:pv C (.XF 4 11 [.v 0,.v 2] 3 5 [158]) [Y (tb t,J),Y (.lst ((LE t).map cY),J),Y (tI r,J),Y (.non,J),Y (.str (T' []),J),L]=Y (.nx [Y (tb t,J),Y (.lst ((LE t).map cY),J),Y (tI r,J),Y (xR f,U),Y (.str (T' []),J),L]):=by
   rw[GB,ZH ((yK W rfl).trans h2),Sk ((yK W rfl).trans h3) W];rfl
  obtain⟨b,a⟩:=g f;refine bN s1 (sD W (xA ((wM W).trans a)) (.inr ⟨h1,f,b,W,j⟩))
def BQ(h:∃t f,be C e (full ρ)=Y (.bl t,f))(ha:∃d f,be C a (full ρ)=Y (d,f)/\Q (.rt d f))(k:Go C ss ρ Q):Go C (.ifs e [.ret a] []::ss) ρ Q:=by
 obtain⟨t,f,h⟩:=h;obtain⟨d,g,h1,h2⟩:=ha;cases t
 .exact jg h k
 .exact sD h (xA h1) h2
def Bc{ns:O cx}{r:O cx}(hk:0<=k/\k<=100)(F:Z r<=900):∃I b,Cn D (n+3) 30 [.lst (ns.map Dat.int),.int k,tI r]=Y (tI I,b)/\Z I<=Z r+1:=by
 have hd:Dw (Cn D (n+2)) (.lst (ns.map _)):=dw
 suffices h:Go (Cn D _) _ [Y (.lst (ns.map _),J),Y _,Y _,L,L,L] λo=>∃I b,o=.rt (tI I) b/\Z I<=Z r+1 by
  obtain⟨_,h1,I,b,rfl,h2⟩:=h;exact⟨I,b,fT W h1,h2⟩
 generalize Dat.lst (ns.map _)=N at hd ⊢;generalize Cn D _=C at hd ⊢;apply kM (mG (gm hd W rfl rfl rfl ⟨hk.1,ig hk.2 (by decide)⟩ (by decide) (by decide) λ_ _=>trivial));rintro _ ⟨v,rfl,_⟩;apply kM (mG (P:=λa=>a<=Z r) (gm hd W (jO W rfl) W (jO (ik W (gQ r)) W) (⟨(Int.le_add_one hk.1),(Int.lt_of_le_of_lt hk.2 (by decide))⟩) (by decide) (by simp) λq h=>by omega));rintro _ ⟨a,rfl,ha⟩;obtain⟨w,i,_⟩:=hd (k+2) 40031 64 (⟨(Nv hk.1),(Nv hk.2)⟩) (by decide) (by decide);refine kM (mG (vm (is:=[w,0,1]) (f:=U) ?_ (gm hd W (jO W rfl) W rfl (⟨(Nv hk.1),(Nv hk.2)⟩) (by decide) (by decide) λq h=>by show q<3;omega) λ_ _=>trivial)) ?_
 .have l:∀e:gC,e[0]?=Y (Y N)->e[1]?=Y (Y (.int k))->be C (.call 13 [.v 0,.bin .add _ (.e_ 2),.e_ _,.e_ 64]) _=Y (.int _,J):=λe h0 h1=>by
   rwa[kc,cJ,nO,h0,cJ,oV,nO,h1]
  rw[Mo,gH,l _ W rfl];rfl
 rintro _ ⟨c,rfl,_⟩;have eq:∀j:cx,∃t f,be C (.cmp .eq (.v 3) (.con (.int j))) (full [Y (N,J),Y (.int k,J),Y (tI r,J),Y (.int (v),J),Y (.int (a),J),Y (.int (c),J)])=Y (.bl t,f):=λj=>⟨_,_,gn W rfl rfl⟩
 have E:be C (.sl (.v 2) L (Y (.v 4))) (full [Y (N,J),Y (.int k,J),Y (tI r,J),Y (.int (v),J),Y (.int (a),J),Y (.int (c),J)])=Y (tI _,J):=Yr W rfl;have H:be C (.sl (.v 2) (Y (.bin .add (.v 4) (.e_ 1))) L) (full [Y (N,J),Y (.int k,J),Y (tI r,J),Y (.int (v),J),Y (.int (a),J),Y (.int (c),J)])=Y (tI (r.drop (a+1)),J):=Yu W (fJ W rfl rfl);have m:be C (.sl (.v 2) (Y (.v 4)) (Y (.bin .add (.v 4) (.e_ 1)))) (full [Y (N,J),Y (.int k,J),Y (tI r,J),Y (.int (v),J),Y (.int _,J),Y (.int (c),J)])=Y (tI ((r.drop a).take 1),J):=Yv W rfl (fJ W rfl rfl) ha;have e5:be C (.tup [.v 5]) (full [Y (N,J),Y (.int k,J),Y (tI r,J),Y (.int (v),J),Y (.int (a),J),Y (.int (c),J)])=Y (tI [(c)],U):=by rfl
 have s:Z (r.take a)<=a:=Hi _ _;have u:Z (r.drop a)=Z r - a:=dF;have z:Z (r.drop _)=Z r - (a+1):=dF;have A:Z ((r.drop a).take 1)<=1:=Hi _ _;have B:[(c:cx)].length=1:=rfl;have d:∀{x y:Ex}{p q:O _}{f g:cc}{G:gC},be C x G=Y (tI p,f)->be C y G=Y (tI q,g)->Z p+Z q<=1000->be C (.bin _ x y) G=Y (tI _,J):=λh1 h2 h=>fJ h1 h2 (qh _ _ h);apply BQ (eq 0) ⟨_,_,d (d E e5 (XN s (ag B) ha F)) H (by rw[aj];omega),_,_,W,by rw[aj,aj];omega⟩;apply BQ (eq 1) ⟨_,_,d E H (by omega),_,_,W,by rw[aj];omega⟩;apply BQ (eq 2) ⟨_,_,d (d E e5 (by omega)) (Yu W rfl) (by rw[aj];exact a4 s (ag B) (ag u) (ws ha) F),_,_,W,by rw[aj,aj];exact XN s (ag B) (ag u) (ws ha)⟩;apply BQ (eq 3) ⟨_,_,d (d E m (XN s A ha F)) (Yu W rfl) (by rw[aj];exact a4 s A (ag u) (ws ha) F),_,_,W,by rw[aj,aj];exact XN s A (ag u) (ws ha)⟩;exact BQ (eq 4) ⟨_,_,E,_,_,W,WF (af s ha)⟩ ⟨_,W,r,_,W,xf _⟩
def Rg{r:O cx}(ge:gE E)(F:∀e,e∈LE t↔e∈E)(ok:∀e∈E,uL e)(hl:Z (LE t)<=1000)(B:Cn D (n+3) 7 [tb t]=Y (pI E,U))(C:Z r<=990) :
  ∃d f g,Cn D (n+5) 33 [tb t,.lst ((LE t).map cY),tI r]=Y (d,f)/\Cn D (n+5) 32 [.lst ((LE t).map cY),tI r]=Y (d,g)/\kh .ne d d=Y J:=by
 rcases HF ge F ok B C with⟨h1,b,h2⟩|⟨h1,f,b,h2,h3⟩<;>rcases O4 F (λe m=>ok e ((F e).mp m)) hl C with⟨a,c,h⟩|⟨a,k,c,h,i⟩
 .exact⟨_,b,c,h2,h,W⟩
 .exact absurd h1 a
 .exact absurd a h1
 .rw[Wu h3 i]at h2;refine⟨_,b,c,h2,h,?_⟩;show Y (!(U && (((k:cx) == k) && U)))=_;simp
abbrev EL(N:Dat)(t:Tb)(x:O T)(r B:O cx)(z6 f:g_):cT:=[Y (N,J),Y (tb t,J),Y (.lst ((LE t).map cY),U),Y (sT x,J),Y (tI r,J),Y (tI B,J),z6,f]
def OY{ns:O cx}:Cn D (n+7) 34 [.lst (ns.map Dat.int)]=Y (.bl U,J):=by
 obtain⟨t,b,y,w⟩:=Hz;have hd:Dw (Cn D (n+6)) (.lst (ns.map _)):=dw;obtain⟨E,O',g,M,ok⟩:=Mx w;have z:=λe=>(Vx w.ok.hf).trans (M e).symm;have i:=VN w.ok;have A:=UA (n:=n+4) w.ok;have ask:=λ(r:O _)(Q:Z r<=990)=>Rg (n:=n+1) g z ok i (UD (by rw[HC w.ok (Gx w.ok),O']) g.l g.b) Q;obtain⟨m,B,R⟩:=hd 2 35027 15 (by decide) (by decide) (by decide);obtain⟨x,_,F,T',G⟩:=Kk (n:=n+3) w.ok (m:=m) (by omega);have hk:=(G4 w M G _ 0 (fZ _)).o;obtain⟨S,s,U',w2,w3,w4,w5,w6⟩:=Kj (aq0:=31) (by decide) (n:=n+3) g z (λe m=>ok e ((z e).mp m)) i (by omega) hk;have j:=Kl (n:=n+5) (S:=S) (by omega);obtain⟨V,_,e1,l1⟩:=Bc (n:=n+3) (k:=49) (r:=mX S) (by decide) (by omega);obtain⟨H,_,e2,l2⟩:=Bc (n:=n+3) (k:=46) (r:=V) (by decide) (by omega)
 suffices h:Go (Cn D _) _ [Y (.lst (ns.map _),J),L,L,L,L,L,L,L] λo=>o=.rt (.bl U) J by
  obtain⟨_,h1,rfl⟩:=h;exact fT W h1
 generalize Dat.lst (ns.map _)=N at *;generalize Cn D (n+6)=C at *;refine bN (dX ((wM W).trans y) (Zu t)) (bN (Kc ((wM W).trans A)) ?_);apply bN (dX ((wL W rfl (kc.trans (by exact B))).trans F) W);apply bN (dX ((wM (kc.trans (by exact U'))).trans j) (mY _));apply bN (dX ((wL W rfl ((wL W rfl rfl).trans e1)).trans e2) (mY _));generalize mX S=r at *;refine yv (J':=λρ=>∃c z6,ρ=EL N t x r c z6 L/\Z c<=990) (uB (gm hd W rfl rfl rfl cF cF cF λ_ _=>trivial) 0) ?_ ⟨H,L,W,by omega⟩ ?_
 .apply kM (mG (P:=λq=>0<q) (vm (is:=[3,4,7,64]) W (gm hd W rfl rfl rfl cF cF cF λq h=>by show q<4;omega) (by decide)));rintro _ ⟨u,rfl,hf⟩;obtain⟨c3,K,X⟩:=hd 46 40093 13 (by decide) (by decide) (by decide)
  obtain⟨ys,c1,c2,_⟩:=oX (ρ:=full (EL N t x r H (Y (.int _,J)) L)) (it:=.rng [.call 13 [.v 0,.e_ 46,.e_ _,.e_ 13]]) (λq:T=>Dat.int _) _ (n9 (kc.trans (K)) (by omega)) (by rw[aW];omega) (λ_=>W) λk hk=>by
   have:=bq.mp hk;obtain⟨q,f,h1,_⟩:=gm (ρ:=(ki 1 [6,0] (full (EL N t x r H (Y (.int (u),J)) L))).set 0 (Y (Dat.int (k)))) (a:=.v 2) (k:=.bin _ (.e_ 47) (.v 0)) (p:=.e_ 40087) (m:=.v 1) hd W (jO W rfl) W rfl (by omega) (by decide) (Int.natCast_pos.mpr hf) λ_ _=>trivial;exact⟨q,f,h1,trivial⟩
  rw[aW]at c2;rw[show(ys.map λq:T=>Dat.int _)=(ys.map _).map _ by rw[dM];rfl]at c1;exact bN (dX (ik c1 W) (mY _)) (bo ⟨_,W,ys.map _,_,W,by rw[aD];omega⟩)
 rintro _ ⟨c,z6,rfl,l5⟩
 refine i4 (xs:=[c,r,c]) (I:=λ_ ρ=>∃L',ρ=EL N t x r c z6 L') (lM (f:=U) (by
  show Y (Dat.lst [tI c,tI r,tI c],(J || im (tI c)) && ((J || im (tI r)) && ((J || im (tI c)) && U)))=_
  rw[mY,mY];rfl) W (by simp)) ⟨L,W⟩ ?_ ?_
 .rintro us q vs _ e0 ⟨L',rfl⟩
  obtain⟨d,f1,f2,e3,q2,q3⟩:=ask q (by
   have:q∈[c,r,c]:=by rw[e0];simp
   simp only[aA,bV,eg]at this
   rcases this with rfl|rfl|rfl<;>omega)
  exact⟨_,W,jg (gn ((wL W rfl rfl).trans e3) ((yK W rfl).trans q2) q3) (bo ⟨_,W,_,W⟩)⟩
 .rintro _ ⟨L',rfl⟩;exact jN W rfl
end K35E
def K35.math(ns:O cx)(_:Z ns<=63):∃fr,M.Cn K35.D 12 34 [.lst (ns.map M.Dat.int)]=Y (.bl U,fr):=⟨_,K35E.OY⟩
open PySem.W PyProof.Rows
structure PySem.W.Fast:Prop where(tw8042308006228846920 tw9621854055003559947 tw6990545218709468416 tw2824189097935649502 tw10757514416761928902 tw17359927272175173015 tw36813317822254649 tw3251937001941029145 tw704062009422543363 tw3501718379202434260 tw1537433266099478025 tw1094716714268052424 tw6985102616791985378 tw15320265065656291356 tw16690594172781150078 tw12823674241825309153 tw12628800182063847988 tw18140178101671617378 tw18299938472808362695 tw17227944686962779124 tw7252326483376466144 tw17571566636000767960 tw9159116859342157459 tw11165336771914754202 tw2110525162658949218 tw6097571683601449772 tw5485575249756489898 tw7877310417936925909 tw11341909783998705524 tw7835782705898641606 tw4293760817933892130 tw13196788772729309926 tw3192643668102560632 tw9770718031762671994 tw16895185378063352651 tw3164550598275033225 tw6651970211710819441 tw15111985060818744442 tw17743461690879304763 tw10804552961139270074 tw739707202032113782 tw15869274358128919408 tw4780539778681462069 tw14221697881189804416 tw3275747945795427572 tw12444830507635677547 tw5519977051166372868 tw16646399863967573070 tw12741545036039795089 tw7500173013611366498 tw7252234846499335232 tw3365188678801757873 tw3720739223940652391 tw783480946392150005 tw15006120286259190370 tw18253911727937573757 tw16752281005736590135 tw15378670185442743135 tw672925568588139030 tw10874504811844581854 tw13212194952206260678 tw5068870145036861955 tw9597927144115523933 tw2576498089221979509 tw8089798639241815427 tw8893544124922978259 tw9110365685266317814 tw14102475163339749368 tw6652415489784441346 tw626081165689148553 tw14062864178674981109 tw16886119235493497977 tw4734709060595784935 tw10520587437178498694 tw15292400542648636722 tw6000426748114458812 tw10154381649257707668 tw752832817598581144 tw17391774006437934547 tw9560034266608384226 tw4860368528786695665 tw6878576389174314780 tw10184471037566468764 tw7035543130964088014 tw13144877638014940883 tw2752052840523361494 tw16870862747027923350 tw13138334986039473015 tw5115536151680983095 tw5475285510877097342 tw11303425527538384012 tw9251861121252019816 tw10559848791832964817 tw13769767905659074015 tw3892028144040984639 tw869853158611301005 tw4556440433765962215 tw13973937468724478816 tw2184255172954892 tw15693131717713060260 tw5585516680568492040 tw9195749718762149862 tw4430210658224646688 tw7115090453144461464 tw2978606702220831869 tw6988579546987258883 tw1501947212025512046 tw11811839870989182438 tw5325658435782126998 tw7648209275299564313 tw3119468438752044790 tw7958758129526166121 tw13983767939447083913 tw17828206189084043291 tw16261423846522876907 tw2994890143298943022 tw16114359408332446119 tw10333895468533616952 tw10625575178503395843 tw12318238360854850638 tw18142837981053113039 tw9620165651706499916 tw3761080629080970703 tw15121052907193677182 tw7761999256167644686 tw14744957754049096795 tw16030842282113917487 tw14131863337080499754 tw8071423202883313349 tw2615827934828128426 tw13858053579718128766 tw12580873242117856385 tw3714916509487285507 tw1153962329637757388 tw14024196080872078517 tw8051370886999324235 tw5644848715165167047 tw13081212334843440103 tw9425833439628668117 tw14804075769079202425 tw1404556311703983603 tw12035595266916531834 tw11147504079265383351 tw6376462011627522559 tw14880577029959823810 tw10843194646652183953 tw2754646310576249779 tw9741950084648081565 tw3721165583996348825 tw8884953393372361236 tw5966779279403957112 tw11784695507975050024 tw3455121519081503955 tw8663533756309383941 tw12916159843912947600 tw3725350357657724523 tw12716720976096159954 tw4983249454549461641 tw10151385255956364084 tw12573766665085387657 tw6437586402889527174 tw12897799556920732790 tw14625556435989131138 tw5659833515461927390 tw18016551917351045551 tw6656778231734855819 tw12337339674263115182 tw1920125571997297972 tw18280477537862661653 tw16089073255670245001 tw12874595937352773262 tw6456400394942267839 tw7423903094802250893 tw15946863235596881997 tw8837473702594800872 tw13434389528311439177 tw161225745905624792 tw2235170542450947298 tw8748985041989701464 tw9547878322036933520 tw9628277039083476703 tw16946910222191593783 tw17306789099615541969 tw1407262293780049720 tw5752026059329726319 tw500422527246620340 tw10046822182694688255 tw15023603353051667200 tw4238235004546172086 tw9002956437801769364 tw9843936429800347734 tw13566138140187663634 tw15626821718937409467 tw9143202786876158088 tw9673589745318577446 tw15961727779173148948 tw11615591606385817015 tw485716324701900130 tw11559847750383332625 tw14677491975513940224 tw17682089475248611891 tw5501697437981275787 tw3887335936974891347 tw13630852863721143916 tw7057998438474627648 tw13333784375247773728 tw2016029816931936535 tw14541061488305483925 tw2913939144961399476 tw15650925810534242305 tw8732249830460799448 tw11805587436430773489 tw7574522514140663467 tw15892811628019795915 tw5021293072776822053 tw9036426120970458902 tw5342531448667356696 tw4077044186821675196 tw2983125037099790114 tw5623063643962920592 tw15253554120460320488 tw11708369433232138203 tw5692174372609438324 tw13857850413951468630 tw270822424814497396 tw3665192422361699679 tw9292240636820660342 tw5406295493060662295 tw4107120532343915382 tw14649083430431670286 tw4492753018841006389 tw12798171326119642928 tw9272118007985778887 tw15336679956926010428 tw1907517956955130818 tw5244043541356434487 tw18411905380093092397 tw11030055092187789003 tw11821398415991223705 tw1108099296822776814 tw11090746127315766487 tw7955985116998014189 tw8883096062409295544 tw2309379900317262467 tw1468499542121602907 tw17543905923598673270 tw6029117494018021686 tw16430802294022477086 tw751074206100928711 tw8506741355259577682 tw195028399874070136 tw15390978472208548083 tw10178405427051907682 tw7876216024056613401 tw3259287548135807244 tw2357353763621818875 tw17961950194897271032 tw7828652182224601127 tw7821003669662244701 tw13926244320120493844 tw17419127601561153610 tw16237007372822157248 tw5350654209049472553 tw11331476726900704258 tw4245216538921754798 tw15883443498004903102 tw18271593685185237838 tw16269845074152648555 tw1335915248627809661 tw10697817276898465188 tw2473610606319473929 tw6414451293937744264 tw2278488585068079876 tw7401151168853384914 tw9893541490890355892 tw3301830625169293604 tw18115780063928412199 tw4787815616718916170 tw15034862617214592638 tw542910199673996964 tw14271954297883417914 tw18259066533928130765 tw5071098471229859205 tw15838852972675299200 tw5326646764702311383 tw17070446148446311378 tw18081190212593928399 tw10123324272842856224 tw14220849640060616609 tw11673035004455652451 tw8981479791891313652 tw13243154604456653787 tw3524197221739744176 tw8428349466318202951 tw7312264847549402775 tw428659019343576736 tw1140416436675054401 tw13997751181983105234:True)
set_option maxRecDepth 100000 in
set_option maxHeartbeats 0 in
theorem PySem.Challenge.cw_dots_k35_no_reading_holds : PySem.Challenge.rw_dots_k35_no_reading.Holds := by
 w_on;o_law;k_head;(case hw=>w_witness2)
 k_fill
 refine M.walk (l:=nH) (n:=14) (x:="_law_script") rfl ⟨rfl,by decide,by decide⟩ rfl (λw h Y=>PySem.W.kIn_of Y) ?F
 case F=>
  intro w mg fa h KX G hmg
  have Z:∀x∈M.mI,mg x=L:=by
   refine M.Ra KX G ?_
   kernel_rfl
  have T1:=M.Xh (D:=K35.D) KX G (by kernel_rfl) (by kernel_rfl) (λ_ _ _ _ _ _ _=>by kernel_rfl);have T2:=M.GN (con:=K35.con) KX G (by kernel_rfl);have T3:=M.QE (x:="NoReading") (c:=158) (f:="place") (d:=M.Wb nJ.main.body "NoReading") KX G (by kernel_rfl) (by kernel_rfl) (by kernel_rfl) (λ_ _ _=>by kernel_rfl);have T4:=M.QR (L':=K35.xg.cls) KX G (by kernel_rfl);have T5:L2.Dg (L2.KOf KX) 158 "place"=U:=by kernel_rfl
  have T6:=M.Qs (n:="DotError") (c:=158) KX G (by kernel_rfl)
  have T':M.Here (L2.KOf KX) mg K35.D K35.con K35.xg:=⟨K35.Y2,T1,by decide,Z,T2,λx c f q=>by cases au.mp (M.XQ q);exact T3,T4,λf cs q c hc=>by cases au.mp (M.XQ q);rw[au.mp hc];exact T5,λn ok q=>by cases au.mp (M.XQ q);exact T6,λd hd hx=>by
   have q:=bh.mp (show(K35.D.all λd=>!(d.name == ("read":aa)) || d.x.isSome)=U by kernel_rfl) d hd;rw[show d.name="read" from au.mp hx]at q
   exact eh.mp q⟩
  exact M.VP (l:=nH) T' (j:=34) rfl rfl hmg K35.math
