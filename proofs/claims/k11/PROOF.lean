import PyProof.Rows.All
import Wide.All
import OpenK.AllK
import Wide.FinOn
import Lean
import PyProof.EqAt
import PyProof.EqKinds
import PyProof.TupleCall
import PySem.Challenge.RW_dots_k11_whole_every_text_has_a_writing
set_option tactic.hygienic false
open Option renaming some->Y,none->L
open _root_ renaming List->O,Option->a5,Nat->T,if_pos->a6,Bool->a7,decide_eq_true->cb,if_neg->c4,Int->dc,decide_eq_false->dd,congrArg->dy,of_decide_eq_true->ea,Array->eb,decide_eq_true_eq->ed,or_false->eg,DecidableEq->eu,Decidable->ez,String->eS,decide_eq_false_iff_not->e0,if_true->e6,bne_self_eq_false->fb,if_false->ft,beq_self_eq_true->f5,beq_iff_eq->gq,StateT->gN,ne_true_of_eq_false->hA,ForInStep->j1,instDecidableEqSum->j_,of_decide_eq_false->lh,dif_pos->mi,and_true->oa,not_or->oq,Unit->oC
open PySem renaming compareOp->dj,bootBuiltins->ei,binaryOp->ej,mainGlobals->ek,rawInt->en,foldedSetIterable->er,sysModules->et,assignEach->eH,backTo->e4,codeAny->fC,swapsWith->f9,sliceBounds->gd,isSubtype->gg,ofAClassStatement->gi,wpAny_pyIter_enum->gk,behindInMarks->gv,attributeBase->gw,pickOrder->hB,setField->hD,wpAny_letOwnedTupleGo_enum->hE,hashByValue->hG,strIterType->hH,swapsWithSole->hI,swappedStores->hK,pyNext->hL,wpAny_pyNext_enum_itemD->hM,getItem->hQ,wpAny_pyNext_enum_endD->hR,letOwnedTupleGo->hS,atKey->hW,relayAll->h9,tupleKind->j0,relabel->j3,setSearchFrom->j5,assign->kl,wpAny_pyIter_tuple->kv,wpAny_setItem_heap->k6,wpAny_assign_Name->lk,wpAny_sequenceKey->l5,callerA->l_,valueAt->ma,fits_of_scanBound->mu,field->mv,lastMarks->mC,keywordEach->m_,setNext->nh,builtinsNs->nq,wpAny_Name->ny,wpAny_load->nS,bindArgs->nT,typeOf->n3,entryFor->n7,bindL->o3,bindC->o_,setItem->pb,collect->pj
open PyProof.Rows renaming seqObj->fy,envOfC->hO,entry_list_sort->hU,gallopOf->i0,slot_list_sort->i1,pendingOf->j2,entry_tuple_getitem->j4,args_tuple_getitem->ky,failedOf->n_,sortedHeap->oe,tuples'->pM,Call_->pR,arrOf->p_
open PySem.Builtin.Str renaming occurrences->jn,partsBetween->mB
open Bool renaming true->U,false->J
noncomputable section
set_option bootstrap.genMatcherCode false
set_option genInjectivity false
set_option genSizeOf false
open And renaming intro->uA
open Array renaming getElem?_eq_getElem->a8,length_toList->be,getElem?_eq_some_iff->bY,getElem?_eq_none->gh,getElem?_toList->gX,forIn_toList->lN,getElem_toList->ph,replicate->uy,getD_eq_getD_getElem?->vX,getD->Gw,ext_getElem?->Gx,toList_push->Iv
open Bool renaming and_eq_true->au,false_eq_true->cV,and_eq_true_iff->iu,or_eq_true->jf,and_true->kD,eq_iff_iff->kX,not_eq_true'->mK,and_self->m8,true_and->zZ,or_true->Cc,eq_false_iff->IW,not_false->Qq,and_assoc->Qr
open Classical renaming propDecidable->mm,em->IV
open Eq renaming symm->tV
open False renaming elim->ik
open ForInStep renaming yield->iO
open Iff renaming rfl->MP
open Int renaming ofNat->eJ,lt_of_le_of_lt->jq,le_trans->jT,eq_ofNat_of_zero_le->nV,ofNat_le->oi,not_le->oj,emod_lt_of_pos->rz,le_of_lt->tD,toNat->ux,emod_nonneg->wx,fdiv_eq_ediv_of_nonneg->yI,toNat_natCast->MN,ofNat_zero_le->MO,not_le_of_gt->Na
open Int.ofNat renaming inj->Iu
open List renaming length->Z,getElem?_eq_getElem->ae,length_map->ah,map_cons->ak,mem_cons->aq,mem_append_right->aF,mem_singleton->aG,all_eq_true->aI,range->aJ,append_assoc->aK,getElem?_append_right->aM,length_append->aN,mem_range->aO,mem_map->aP,not_mem_nil->aQ,mem_append->aR,append_nil->aS,getElem?_eq_some_iff->aT,getElem?_map->aV,mem_of_getElem?->aX,size_toArray->aZ,getElem?_append_left->a9,take_append_drop->bc,length_cons->bf,map_map->bo,mem_append_left->bp,getElem_mem->bA,mem_map_of_mem->bC,nodup_cons->bE,map_append->bK,length_range->bM,nodup_append->bV,mem_of_mem_take->cu,mem_iff_getElem->cv,pairwise_cons->cy,getD_eq_getElem?_getD->cz,getElem?_take->cU,map_congr_left->du,perm_append_comm->dB,all_cons->dC,pairwise_append->dI,mem_of_mem_drop->dJ,getElem?_replicate->dM,getElem?_cons_succ->dO,perm_ext_iff_of_nodup->dW,pairwise_map->dX,pairwise_iff_getElem->eB,length_take->eF,cons_append->eG,replicate->eO,nodup_nil->eP,drop_sublist->eR,take_of_length_le->fh,zipIdx_cons->fm,nodup_range->fo,lookup_cons->fq,ext_getElem->fu,any_eq_true->fw,drop_zero->fA,reverse_perm->fJ,getElem?_of_mem->fK,flatMap_append->fQ,mem_flatMap->fR,flatMap_singleton->gu,forIn_cons->gR,length_filter_le->g8,take_sublist->hV,getElem?_set_ne->iq,isEmpty_iff->iN,getElem_of_mem->iW,zipIdx_nil->jc,of_mem_zip->jd,length_nil->je,length_eq_zero_iff->jm,length->jo,take_zero->jF,take_take->jG,getElem?_inj->jH,forIn_nil->jI,drop_left->jJ,drop_eq_nil_of_le->jK,drop_drop->jL,pairwise_reverse->kg,length_replicate->kh,getElem?_toArray->ki,any_cons->kC,nil_append->kU,mem_filter->kW,length_pos_iff->lj,drop_eq_getElem_cons->mF,pairwise_singleton->nL,length_drop->nM,getElem_map->nN,flatMap_nil->nO,pairwise_lt_range->n6,getElem?_set_self->n8,filterMap_cons->qa,sum_cons->qh,mem_filterMap->qV,getElem_range->qW,getElem?_drop->qX,zipWith->sE,map_inj_left->sG,getElem?_set->sH,flatMap_cons->sJ,ext_getElem?->sL,take_append_of_le_length->uv,eq_nil_of_length_eq_zero->uw,take_left->wV,map->wW,drop_take->wX,find?_range_eq_none->zX,pairwise_filterMap->Ai,zipWith_cons_cons->Cb,mem_iff_getElem?->Cu,map_eq_nil_iff->Gu,filter_sublist->Gv,zip_cons_cons->Ip,map_inj_right->Iq,length_modify->Ir,reverse_nil->MG,perm_middle->MI,mem_reverse->MJ,getD->MK,drop_length->MM,zip_append->M6,length_zip->M7,head?_cons->M8,foldl_cons->M9
open List.Nodup renaming sublist->zY
open List.Pairwise renaming imp_of_mem->fx,imp->oh,nil->wY,map->w6
open List.Perm renaming eq_of_pairwise->iE,append_left->jy,trans->Ee
open List.cons renaming injEq->cM,inj->fX
open Nat renaming le_trans->ab,le_of_eq->af,le_refl->aw,zero_le->aY,ne_of_lt->ba,lt_of_le_of_lt->bh,lt_of_lt_of_le->bq,le_antisymm->bu,le_of_lt->bx,not_le_of_lt->bD,lt_irrefl->bJ,le_add_right->bP,lt_of_le_of_ne->cj,le_of_succ_le_succ->cq,succ_le_succ->dm,lt_trans->dn,ne_of_gt->eN,le_succ_of_le->fL,add_right_comm->gD,min_eq_left->gW,lt_succ_of_lt->ie,mod_lt->iD,min_le_right->iP,lt_succ_self->iQ,lt_or_ge->iR,le_of_not_lt->iS,pos_of_ne_zero->jl,add_sub_cancel_left->jx,zero_add->jR,sub_self->jS,lt_of_not_le->kB,add_assoc->kL,add_le_of_le_sub->kO,lt_trichotomy->m6,add_sub_of_le->m7,min_le_left->oP,add_lt_of_lt_sub->pT,add_le_add->pU,sub_add_cancel->rn,lt_of_succ_lt->tz,le_succ->vW,le_add_left->wu,sub_le->IU,not_lt_zero->Qp
open Ne renaming symm->eW
open Option renaming bind_some->bH,map_some->bW,getD_some->fe,isNone_iff_eq_none->iC,bind->mj,isSome_iff_exists->mE,isSome_map->qU,bind_eq_some_iff->yH,map_eq_some_iff->zW,map->Ec,getD_none->Io,map_map->MF
open Option.some renaming inj->bb,injEq->i4
open Prod renaming ext->lT
open Prod.mk renaming injEq->wq
open PyProof.Rows renaming SortSt->bT,callWith_type1->cD,slot_tuple_getitem->c5,Keyed->iM,IntsAre->lM,StrsAre->mJ,lt_int->nK,AllBare->n5,SortKind->pf,callWith_builtin1->pA,sortedHeap_old->Cr,size_push'->Cs,args_list_sort->Ct,tupleItemsOf_->Gq,sortedHeap_at->Gr,listUpdate_at->Gs,IsTup->Il,subscriptTail_builtinR->IL,plain_sorted->IM,entry_sorted->IP,args_sorted1->IQ,seqEpoch_at->M4,kind_sorted->M5
open PyProof.Rows.F renaming entry_set_update_loop->eE,plain_set_update_loop->gQ
open PyProof.Rows.IntsAre renaming int_at->Im,length->IT
open PyProof.Rows.IsTup renaming new->IS
open PyProof.Rows.SortSt renaming mk'->j9
open PySem renaming Value->ag,Shared->ao,wpAny->aA,model->aB,Addr->aC,sizeLine->aD,starEach->aL,wpAny_setField_rec->aW,Expr->br,Str->bw,wpAny_seqItems->bF,SetTable->bG,wpAny_field->bI,wpAny_call_entry->bN,Around->bZ,Heap->cg,wpAny_holding->cx,Program->cA,wpAny_callSpecial?_slot->cC,cLine->cO,World->cT,sizeLine_eq->cY,IsPair->c6,wpAny_mono->c8,wpAny_truthy_bool->de,wpAny_setState_of->df,wpAny_updateSeq_pair->dk,wpAny_isInstance->dv,wpAny_onRaise->eo,wpAny_newObj_type->eA,wpAny_rule->eQ,codeAny_builtin->fi,Builtin->fD,wpAny_forIn_list->fH,mem_of_lookup->fP,Paired->fS,wpAny_typeOf->g9,wpAny_Call_Name_kw->hJ,FuncData->ig,IsZip->iJ,wpAny_letGo->iY,wpAny_attempt->jA,wpAny_specialOf->jD,wpAny_tupleItemsOf->jQ,wpAny_getItem_str_slice->j7,wpAny_pyIter_list->kr,codeAny_mono->ku,NameKind->kA,Obj->k8,plainId_quiet->lL,wpAny_passesOwn->l8,Stmt->l9,Scope->mD,KeyKind->mG,wpAny_newTuple->nc,tupleKind_room_in1->ng,wpAny_pyIter_strU->n0,wpAny_pyIter_enum->n4,wpAny_pyIter_zip->o8,scanBound->o9,typeIs_str->pO,post_val_or_str->p8,isSubtype_tuple_tuple->qd,wpAny_runValue->rd,isSubtype_stop->rh,codeAny_call_builtin->rj,IsPart->rl,wpAny_newList->tQ,call_meets->uk,Pos->uo,concat_meets->v7,callType_new->v8,Keyword->wa,BindsTo->wo,wpAny_askSetting->yy,noFill_tuple_add->yz,wpAny_of_eq->zR,placed->Ac,Sem->Af,wpAny_richCompare_same_room->B8,wpAny_letOwnedTupleGo_enum->Cj,Tok->Ck,MulOk->Co,GenState->Cp,wpAny_letOwnedTupleGo_zip->D7,wpAny_standAt->Gc,wpAny_in_heap->Ge,wpAny_comprehension_free->Gf,seq_tuple_add->Gg,call->Gh,wpAny_pyNext_enum_itemD->Ig,PassesOwn->Ij,wpAny_pyNext_enum_endD->IH,seqIndex_neg->II,pyIter->IJ,seqIndex_of->MW,codeAny_extend_loopS->MX,wpAny_setEntries_of->Qj,sub_zip->Qk,Env->Qn,ElemsOf->Qo
open PySem.Around renaming under_plainId->oO
open PySem.Builtin renaming bitAnd->uu,bitOr->wm
open PySem.Builtin.Frozenset renaming updateFrom->og,sizeOf->M0,isAnySet->M3
open PySem.Builtin.List renaming listExtendWith->j8,listFitsIndex->ko,listLengthHint->qg,listSameRef->sD
open PySem.Builtin.Slice renaming slicePlaces->gP,sliceAdjust->qT
open PySem.Builtin.SmallTypes renaming nextOf->di,ownedTupleIsFree->f7,ownedTupleHandOut->qS
open PySem.Builtin.Str renaming occurrences->iL
open PySem.Builtin.Tuple renaming tupleHashOf->dR,tupleItemsOf->ke
open PySem.Calls renaming spliced_nil->jB,call_function_entry->mf,Name_function_global->wk,callWith_builtin->Ah,spliced_cons->Gp
open PySem.Challenge renaming rw_dots_k11_whole_every_text_has_a_writing->iZ
open PySem.Env renaming kindOf->rm
open PySem.F renaming slot_zip_next->dt,slot_tuple_iterator_next->fI,slot_tuple_hash->fM,args_zip_next_1->i7,entry_zip_next->jj,entry_set_init->jk,sub_list_frozenset->k9,called_set->lg,args_tuple_add_2->me,plain_list_iadd->mH,entry_tuple_add->mI,slot_tuple_add->nj,slot_tuple_eq->nU,sub_list_set->n9,args_tuple_iterator_next_1->pS,entry_tuple_iterator_next->p9,typeCall_enumerate_1->tw,newCall_enumerate_1->tR,entry_proto_collect->tS,entry_enumerate_new->tU,args_object_init_3->uq,args_object_init_2->ur,plain_extend_loop->vV,slot_tuple_index->wb,slot_list_insert->wc,slot_list_append->wg,called_enumerate->wj,plainAttrs_list->wR,entry_list_iadd->wU,typeCall_zip_2->yD,typeCall_set_1->yE,slot_str_split->yF,plainAttrs_str->yG,slot_tuple_lt->zS,slot_set_iter->zT,newCall_zip_2->zU,entry_zip_new->zV,called_zip->Cq
open PySem.Heap renaming get?_push_size->ax,size_push->cm,SameBut->cJ,get?_update_self->g7,get?_update_other->jE,get?_none_of_le->pz,ExtBut->Eb,get?_update_ne->Gm
open PySem.Heap.SameBut renaming update->nJ,refl->yB
open PySem.ItemsOf renaming nil->Qm
open PySem.NameKind renaming free->dQ,cell->lS
open PySem.Obj renaming mapSeq->fB,data_mapFields->IK
open PySem.Paired renaming length->pQ
open PySem.ScopeKind renaming function->Ag
open PySem.SeqAt renaming EqAt->qf,RcNeAt->Ae,RcAt->Gk
open PySem.SetTable renaming below->aH,Probe->bO,insertAt->cR,grown->dq,runEnd->dA,advance->dD,bits->dP,toList_insertAt->eC,sizeAbove->e9,leap->f6,turns->ji,slot->lP,laid->lQ,fits->lR,fill->pe,has->wQ,layClean->Cm,tooFull->Ea,relaid->Gj,Met->ME
open PySem.SetTable.below renaming go->kz
open PySem.SetTable.layClean renaming free->cZ
open PySem.SetTable.probe renaming go->bX
open PySem.Shared renaming TypeIs->pP,heap->B9
open PySem.Str renaming ofString->aa,join->tv
open PySem.StrLaws renaming glued_eq_join->nR
open PySem.Txt renaming join->eD,split->eL,slice->eM,upper->rk,slice_le->Ad
open PySem.Unicode renaming upperOf->tu
open PySem.Value renaming ref->cQ,type->fY,none->fZ,bool->nQ,isStrOf->Ql
open PySem.W renaming Frag->aE,keepIn->fj,kia_one->fG,OpenLaw->iV,findIn->k7,nsIn->ni,fnOf->qe,codeIn->um,WalkO->v9,cellsFrom_some->yA,specialIn->D8,kitx_dict->D9,instObj->Ii,mg_of->MD,kas_item->MY,isFn->MZ
open PySem.Walks renaming list->Gi
open PySem.pickOrder renaming go->v5
open Std.Legacy.Range renaming size->Qh,forIn_eq_forIn_range'->Qi
open Sum renaming inr->jP,inl->kK
open Sum.inl renaming injEq->v3,inj->Ab
open Sum.inr renaming injEq->vZ
open True renaming intro->jh
set_option Elab.async false
set_option compiler.extract_closed false
set_option linter.all false
set_option maxRecDepth 100000
set_option maxHeartbeats 4000000
def c9{c e:Type _}{x:a5 c}{f:c->a5 e}{b:e}(h:x.bind f=Y b):∃a,x=Y a/\f a=Y b:=yH.mp h
def dY{c e:Type _}{x:a5 c}{f:c->e}{b:e}(h:x.map f=Y b):∃a,x=Y a/\f a=b:=zW.mp h
open PySem PySem.Spec in def wb9:=@wpAny_bind
open PySem PySem.Spec in def wu9:=@wpAny_pure
open PySem in def hp9:=@Heap.get?_push_of_some
open PySem in def hl9:=@Heap.lt_size
def iT{b:Type _}{a:b}{l:O b}:a∈a::l:=List.mem_cons_self
def kc{b:Type _}(y:b){a:b}{l:O b}(h:a∈l):a∈y::l:=List.mem_cons_of_mem y h
def iF{p:Prop}[ez p](h:decide p=U:=by rfl):p:=ea h
theorem W:a=a:=rfl
theorem ac{G:Prop}(h:∀P:Prop,(G->P)->P):G:=h G id
def lw0{e f:T}(h:e<=f:=by simp +arith):e<=f:=h
def lwq{e f:T}(h:e=f:=by simp +arith):e=f:=h
def rT{a b e f:T}(h1:a<=b)(h:e+b<=f+a:=by simp +arith):e<=f:=by omega
def t9{a b c d e f:T}(h1:a<=b)(h2:c<=d)(h:e+b+d<=f+a+c:=by simp +arith):e<=f:=by omega
def QI{a b c d i j e f:T}(h1:a<=b)(h2:c<=d)(h3:i<=j)(h:e+b+d+j<=f+a+c+i:=by simp +arith):e<=f:=by omega
def Zf{a b c d i j k l e f:T}(h1:a<=b)(h2:c<=d)(h3:i<=j)(B:k<=l)(h:e+b+d+j+l<=f+a+c+i+k:=by simp +arith):e<=f:=by omega
def Ze{a b:T}(h1:a<=b)(h:b+1<=a:=by simp +arith):False:=bD h h1
def Zd{a b c d:T}(h1:a<=b)(h2:c<=d)(h:b+d+1<=a+c:=by simp +arith):False:=bD h (pU h1 h2)
def Zc{a b c d i j:T}(h1:a<=b)(h2:c<=d)(h3:i<=j)(h:b+d+j+1<=a+c+i:=by simp +arith):False:=bD h (pU (pU h1 h2) h3)
def aaM{a b c d i j k l:T}(h1:a<=b)(h2:c<=d)(h3:i<=j)(B:k<=l)(h:b+d+j+l+1<=a+c+i+k:=by simp +arith):False:=by omega
def ws{a b:T}(h:b<=a):a - b+b<=a:=kO h (aw _)
def wt{a b:T}(h:b<=a):a<=a - b+b:=by omega
def iw0{e f:dc}(h:e<=f:=by simp +arith):e<=f:=h
def iw1{a b e f:dc}(h1:a<=b)(h:e+b<=f+a:=by simp +arith):e<=f:=by omega
def iw2{a b c d e f:dc}(h1:a<=b)(h2:c<=d)(h:e+b+d<=f+a+c:=by simp +arith):e<=f:=by omega
def iw3{a b c d i j e f:dc}(h1:a<=b)(h2:c<=d)(h3:i<=j)(h:e+b+d+j<=f+a+c+i:=by simp +arith):e<=f:=by omega
def aaS{a b:dc}(h1:a<=b)(h:b+1<=a:=by simp +arith):False:=by omega
def aaR{a b c d:dc}(h1:a<=b)(h2:c<=d)(h:b+d+1<=a+c:=by simp +arith):False:=by omega
def aaQ{a b c d i j:dc}(h1:a<=b)(h2:c<=d)(h3:i<=j)(h:b+d+j+1<=a+c+i:=by simp +arith):False:=by omega
def ad{a b:T}(h:b<=a):a-b+b<=a:=by omega
def am{a b:T}(h:b<=a):a<=a-b+b:=by omega
def ar(a b:T)(h:b<=a):a-b+b<=a:=ad h
def ay(a b:T):a<=a-b+b:=by omega
def a0(a b:T)(h:a<=b):a<=min a b:=by omega
def a1(a b:T)(h:b<=a):b<=min a b:=by omega
def a2(l r:T)(h:l+1<=r):l<=(l+r)/2/\(l+r)/2+1<=r:=by omega
def a3(l r:T)(h:l+1<=r):(r-l)/2+1<=r-l:=by omega
def a4{a b c d i j k l m n e f:T}(h1:a<=b)(h2:c<=d)(h3:i<=j)(o:k<=l)(t:m<=n)(h:e+b+d+j+l+n<=f+a+c+i+k+m:=by simp +arith):e<=f:=by omega
def wS(a b:T)(h:b<=a):a - b+b<=a:=ws h
def wT(a b:T):a<=a - b+b:=by omega
def wZ(a b:T)(h:a<=b):a - b<=0:=by omega
def wd(a:T):2 * (a / 2)<=a:=by omega
def we(a:T):a<=2 * (a / 2)+1:=by omega
namespace L2
open PySem PySem.Spec PyProof.Rows
abbrev Key:=Sum dc bw
noncomputable def pG:Key->ag->a7
 |.inl k,v=>Value.isInt k v
 |.inr x,v=>Ql x v
noncomputable def Zk(w:cT):Key->dc
 |.inl k=>hashInt k
 |.inr x=>hashStr w x
theorem cF:∀{k:Key}{v:ag},pG k v=U->(∃i t,k=kK i/\v=Value.int i t)\/(∃x t,k=jP x/\v=Value.str x t)
 |.inl i,v,h=>by
   obtain⟨t,e⟩:=Value.isInt_shape h;exact .inl ⟨i,t,W,e⟩
 |.inr x,v,h=>by
   obtain⟨t,e⟩:=Value.isStrOf_shape h;exact .inr ⟨x,t,W,e⟩
def xP(i:dc)(t:Ck):pG (.inl i) (.int i t)=U:=by simp[pG,Value.isInt]
def rZ(x:bw)(t:Ck):pG (.inr x) (.str x t)=U:=by simp[pG,Ql]
def Ub(a b:dc):decide ((kK a:Key)=kK b)=(a == b):=by
 grind
def T8(a b:bw):decide ((jP a:Key)=jP b)=decide (a=b):=by
 simp
def Ua(a:dc)(b:bw):decide ((kK a:Key)=jP b)=J:=dd (λq=>nomatch q)
def T9(a:bw)(b:dc):decide ((jP a:Key)=kK b)=J:=dd (λq=>nomatch q)
def cf(prog:cA)(w:cT):mG prog w Key where
 is:=pG
 hash:=Zk w
 inj:=λv a b ha hb=>by
  rcases cF ha with⟨i,t,rfl,rfl⟩|⟨x,t,rfl,rfl⟩
  .rcases cF hb with⟨j,u,rfl,e⟩|⟨y,u,rfl,e⟩
   .injection e with e1 _;rw[e1]
   .exact nomatch e
  .rcases cF hb with⟨j,u,rfl,e⟩|⟨y,u,rfl,e⟩
   .exact nomatch e
   .injection e with e1 _;rw[e1]
 byValue:=λk v h=>by
  rcases cF h with⟨i,t,rfl,rfl⟩|⟨x,t,rfl,rfl⟩<;>rfl
 pyHash:=λc h=>by
  rcases cF c with⟨i,t,rfl,rfl⟩|⟨x,t,rfl,rfl⟩
  .exact wpAny_pyHash_int h
  .exact wpAny_pyHash_str h
 eqBool:=λd c h=>by
  rcases cF d with⟨i,t,rfl,rfl⟩|⟨x,t,rfl,rfl⟩
  .rcases cF c with⟨j,u,rfl,rfl⟩|⟨y,u,rfl,rfl⟩
   .rw[Ub]at h;exact wpAny_eqBool_int h
   .rw[Ua]at h;exact SeqAt.EqAt.int_str i t y u _ _ _ _ h
  .rcases cF c with⟨j,u,rfl,rfl⟩|⟨y,u,rfl,rfl⟩
   .rw[T9]at h;exact SeqAt.EqAt.str_int x t j u _ _ _ _ h
   .rw[T8]at h;exact wpAny_eqBool_str h
 «strs» :=λk x t v h=>by
  rcases cF h with⟨i,u,rfl,e⟩|⟨y,u,rfl,e⟩
  .exact nomatch e
  .injection e with e1 _
   subst e1;cases v<;>rfl
def AY(prog:cA)(w:cT)(i:dc)(t:Ck):(cf prog w).is (.inl i) (.int i t)=U:=xP i t
def AX(prog:cA)(w:cT)(x:bw)(t:Ck):(cf prog w).is (.inr x) (.str x t)=U:=rZ x t
def P8(h c:cg):Prop:=∀b o,h.get? b=Y o->o.cls=.type "tuple"->(∃a n,o.data=.seq a n)->c.get? b=Y o
structure Ik(P:cA)(w:cT) where
 κ:Type
 d:T
 is:cg->κ->ag->Prop
 hash:κ->dc
 draw:κ->T
 inj:∀{h:cg}{x y:κ}{v:ag},is h x v->is h y v->x=y
 nW:∀{h h':cg}{k:κ}{v:ag},P8 h h'->is h k v->is h' k v
 hsh:∀{A:bZ}{E:ag->ao->Prop}{s:ao}{k:κ}{v:ag}{Q:dc->ao->Prop},A.units+d<=cO->is s.heap k v->Q (hash k) { s with toks:=s.toks+draw k }->aA (aB P w) A (pyHash v) Q E s
 eqb:∀{A:bZ}{E:ag->ao->Prop}{s:ao}{x y:κ}{u v:ag}{Q:a7->ao->Prop},A.units+d<=cO->is s.heap x u->is s.heap y v->(x=y->Q U s)->(x≠y->Q J s)->aA (aB P w) A (eqBool u v) Q E s
 qui:∀{A:bZ}{E:ag->ao->Prop}{s:ao}{k:κ}{v:ag}{Q:a7->ao->Prop}{n:T},d<=n->is s.heap k v->Q U s->aA (aB P w) A (eqIsQuiet n v) Q E s
 cla:∀{A:bZ}{E:ag->ao->Prop}{s:ao}{k:κ}{v:ag}{Q:a7->ao->Prop}{n:T},d<=n->is s.heap k v->Q J s->aA (aB P w) A (gi n v) Q E s
 hbv:∀{A:bZ}{E:ag->ao->Prop}{s:ao}{k:κ}{v:ag}{Q:a7->ao->Prop}{n:T},d<=n->is s.heap k v->(∀b,Q b s)->aA (aB P w) A (hG n v) Q E s
section
variable{P:cA}{w:cT}{A:bZ}{E:ag->ao->Prop}{z0:ao}{I:Ik P w}
def Ma(B:carriedByValue v=U)(h:Q J z0):aA (aB P w) A (gi n v) Q E z0:=by
 cases v<;>first|(cases B;done)|(exact wu9 h)|(cases n<;>(exact wu9 h))
def Uu(B:carriedByValue v=U)(h:∀b,Q b z0):aA (aB P w) A (hG n v) Q E z0:=by
 cases v<;>first|(cases B;done)|(unfold hG;exact wu9 (h _))|simp
abbrev Ht(P:cA)(w:cT):Ik P w where
 κ:=Key
 d:=0
 is:=λ_ k v=>(cf P w).is k v=U
 hash:=(cf P w).hash
 draw:=λ_=>1
 inj:=λex b=>(cf P w).inj _ _ _ ex b
 nW:=λ_ x=>x
 hsh:=λ_ a h=>(cf P w).pyHash a h
 eqb:=λ{A E s x y u v Q}_ ex b h1 h2=>(cf P w).eqBool ex b (by
  by_cases e:x=y
  .rw[cb e];exact h1 e
  .rw[dd e];exact h2 e)
 qui:=λ_ a h=>by rw[eqIsQuiet_byValue _ ((cf P w).byValue _ _ a)];exact wu9 h
 cla:=λ_ a h=>Ma ((cf P w).byValue _ _ a) h
 hbv:=λ_ a h=>Uu ((cf P w).byValue _ _ a) h
inductive qZ (I:Ik P w) (h:cg):O I.κ->O ag->Prop
 |nil:qZ I h [] []
 |cons {k:I.κ} {v:ag} {ks:O I.κ} {vs:O ag}:I.is h k v->qZ I h ks vs->qZ I h (k::ks) (v::vs)
def q9(I:Ik P w)(h:cg)(b:O I.κ)(p:aC):Prop:=∃o a n,h.get? p=Y o/\o.cls=.type "tuple"/\o.data=.seq a n/\qZ I h b a.toList
def qZ.inj(ex:qZ I h x vs)(B:qZ I h y vs):x=y:=by
 induction ex generalizing y with
 |nil=>cases B;rfl
 |cons h1 _ a=>
   cases B with
   |cons h2 b=>rw[I.inj h1 h2,a b]
def qZ.length(x:qZ I h b vs):Z vs=Z b:=by
 induction x with
 |nil=>rfl
 |cons _ _ a=>simp[a]
def qZ.nW(k:P8 h b)(x:qZ I h c vs):qZ I b c vs:=by
 induction x with
 |nil=>exact .nil
 |cons h1 _ a=>exact .cons (I.nW k h1) a
def q9.typeIs(x:q9 I z0.heap b p):z0.TypeIs (.ref p) "tuple":=let ⟨o,_,_,go,a,_⟩:=x;⟨o,go,a⟩
def q9.inj(ex:q9 I h x p)(B:q9 I h y p):x=y:=by
 refine ac λ_ j=>?_;obtain⟨o,e,n,go,_,f,g⟩:=ex;obtain⟨k,b,i,c,_,a,d⟩:=B;obtain rfl:o=k:=bb (go.symm.trans c);refine j ?_;rw[f]at a
 injection a with h1 _
 subst h1;exact g.inj d
def q9.nW(k:P8 h b)(x:q9 I h c p):q9 I b c p:=
 let ⟨o,a,n,h1,h2,h3,d⟩:=x;⟨o,_,n,k p o h1 h2 ⟨_,_,h3⟩,h2,h3,d.nW k⟩
def XT{h f:cg}(go:h.get? d=Y o)(B:o.cls≠.type "tuple")(k:∀b o,b≠d->h.get? b=Y o->f.get? b=Y o):P8 h f:=λb a e c _=>
 k b a (λz=>by
   simp_all) e
noncomputable def Fq(I:Ik P w)(b:O I.κ):dc:=reduceHash (dR (b.map I.hash))
def DI(u:A.units+(I.d+1)<=cO)(B:q9 I z0.heap t p)(h:Q (Fq I t) { z0 with toks:=z0.toks+((t.map I.draw).sum+1) }) :
  aA (aB P w) A (pyHash (.ref p)) Q E z0:=by
 have gt:=B.typeIs;obtain⟨o,j,n,go,_,l,m⟩:=B
 first|unfold pyHashByItsType|skip
 first|refine wb9 (wpAny_cRoomFor_or (.inr (bh (bP _ _) u)) ?_)|skip
 refine wb9 (jD gt fM.lookup ?_);refine wb9 (jD gt fM.lookup ?_);refine wb9 (wpAny_callSpecialIfBoundUnlessNone?_slot gt fM (bN fM gt PySem.F.entry_tuple_hash ?_ (PySem.F.args_tuple_hash_1 _)));refine (?_ : aA _ _ (ke _ >>= _) _ _ z0);refine wb9 (jQ go l ?_);refine wb9 ?_;rw[<-lN]
 refine fH _
  (λtl(b)c=>∃pre a,t=pre++a/\qZ I _ a tl/\b.toList=pre.map I.hash/\c={ z0 with toks:=z0.toks+(pre.map I.draw).sum })
  _ ?_ ?_ _ _ ⟨[],t,W,m,W,W⟩
 .rintro x tl b c ⟨pre,a,rfl,e,f,rfl⟩
  cases e with
  | @cons k _ g _ h1 i=>
    refine wb9 (I.hsh ?_ h1 ?_)
    .grind
    first
     |exact wu9 ⟨pre++[k],g,by simp,i,by simp[f],by simp[kL]⟩
     |simp
 .rintro b c ⟨pre,a,rfl,e,f,rfl⟩;refine ac λ_ q=>?_;cases e;refine q ?_;rw[aS]at h;show aA _ _ (retInt (dR _)) ..;rw[f];refine wpAny_ret_mkInt ?_;refine (?_ : aA _ _ (if(decide (-(2) ^ 63<=dR (pre.map _)) && decide (dR (pre.map _)<2 ^ 63))=U then _ else _) Q E _);unfold Fq reduceHash at h;by_cases ge:(decide (-(2) ^ 63<=dR (pre.map I.hash)) && decide (dR (pre.map I.hash)<2 ^ 63))=U
  .rw[a6 ge];rw[a6 ge]at h;exact wu9 (by simpa [kL]using h)
  .rw[c4 ge];rw[c4 ge]at h;exact wb9 (eQ (wu9 (by simpa [kL]using h)))
theorem LP(S:A.units+I.d<=cO)(ex:q9 I z0.heap x p)(O':q9 I z0.heap y b)(h1:x=y->R (.done (.ret (.bool U))) z0)(h2:x≠y->R (.done (.ret (.bool J))) z0) :
  aA (aB P w) A (fD.«tuple.__eq__» ⟨[.ref p,.ref b],[]⟩) R E z0:=by
 have l:=O'.typeIs;refine ac λ_ N=>?_;obtain⟨G,xs,na,m,_,n,o⟩:=ex;obtain⟨H,ys,nb,q,_,s,t⟩:=O';refine N ?_;show aA _ _ (isInstance _ (.type _) >>= _) _ _ z0;refine wb9 (dv l qd ?_);refine wb9 (jQ m n ?_);refine wb9 (jQ q s ?_);refine wb9 ?_
 refine fH _
  (λtl r j=>r.1=L/\j=z0/\∃x' k a c,tl=List.zip a c/\qZ I _ x' a/\qZ I _ k c/\(x'=k↔x=y)/\(Z a == Z c)=(xs.size == ys.size))
  _ ?_ ?_ _ _ ⟨W,W,x,y,_,_,W,o,t,MP,by simp⟩
 .rintro⟨u,v⟩ tl r j ⟨ge,rfl,x',k,a,c,gz,hx',X,Q,V⟩
  cases hx' with
  |nil=>simp at gz
  | @cons J' K z f D g=>
    cases X with
    |nil=>simp at gz
    | @cons L' M B h F i=>
      refine ac λ_ N=>?_;obtain⟨⟨rfl,rfl⟩,rfl⟩:=gz;refine N ?_;refine wb9 (I.eqb S D F (λC=>?_) λC=>(wb9 (wu9 (wu9 (wu9 (h2 λe=>C (fX (Q.mpr e)).1))))))
      .refine wu9 ⟨W,W,z,B,f,h,W,g,i,?_,by simpa using V⟩
       simp_all
 .rintro⟨r1,r2⟩ j ⟨rfl,rfl,x',k,a,c,gz,hx',X,Q,V⟩;refine wu9 ?_;show R (.done (.ret (.bool (xs.size == ys.size)))) j;rw[<-V]
  cases hx' with
  |nil=>
    cases X with
    |nil=>exact h1 (Q.mp W)
    |cons _ _=>simp_all
  |cons _ _=>
    cases X with
    |nil=>simp_all
    |cons _ _=>simp at gz
def Xx(c:A.units+(I.d+1)<=cO)(ex:q9 I z0.heap x p)(B:q9 I z0.heap y b)(h1:x=y->Q U z0)(h2:x≠y->Q J z0) :
  aA (aB P w) A (eqBool (.ref p) (.ref b)) Q E z0:=by
 unfold eqBool
 try with_reducible refine cx ?_
 by_cases a:(cQ p == cQ b)=U
 .rw[a6 a];have e:p=b:=by simp_all
  subst e;obtain rfl:=ex.inj B;exact wb9 (eQ (wu9 (h1 W)))
 .rw[c4 a]
  exact wb9 (B8 ex.typeIs B.typeIs nU
   (bN nU ex.typeIs PySem.F.entry_tuple_eq (LP (by exact rT c) ex B (λe=>⟨_,W,(λe=>nomatch e),de (h1 e)⟩) λe=>⟨_,W,(λe=>nomatch e),de (h2 e)⟩) (PySem.F.args_tuple_eq_2 _ _)) (bh (bP _ _) c))
def t4(t:I.d<=n)(B:q9 I z0.heap u p)(h:Q U z0):aA (aB P w) A (eqIsQuiet (n+1) (.ref p)) Q E z0:=by
 have gt:=B.typeIs;obtain⟨o,e,m,go,_,f,g⟩:=B;unfold eqIsQuiet;refine wb9 (jD gt nU.lookup ?_);refine wb9 (dv gt qd ?_);refine wb9 (bF go f ?_);refine wb9 ?_;rw[<-lN];refine fH _ (λtl r a=>r.1=L/\a=z0/\∃l,qZ I _ l tl) _ ?_ ?_ _ _ ⟨W,W,_,g⟩
 .rintro v tl r a ⟨ge,rfl,l,i⟩
  cases i with
  | @cons k _ b _ h1 c=>
    exact wb9 (I.qui t h1 (wu9 ⟨W,W,b,c⟩))
 .rintro⟨r1,r2⟩ a ⟨rfl,rfl,_⟩;exact wu9 h
def zG(B:I.d<=n)(t:q9 I z0.heap u p)(h:Q J z0):aA (aB P w) A (gi (n+1) (.ref p)) Q E z0:=by
 obtain⟨o,e,m,go,f,g,i⟩:=t;unfold gi;refine wb9 (wpAny_typeOf_ref go ?_);rw[f];refine wb9 (wu9 ?_);refine wb9 (bF go g ?_);refine wb9 ?_;rw[<-lN];refine fH _ (λtl r a=>r.1=L/\a=z0/\∃l,qZ I _ l tl) _ ?_ ?_ _ _ ⟨W,W,_,i⟩
 .rintro v tl r a ⟨ge,rfl,l,j⟩
  cases j with
  | @cons k _ b _ h1 c=>
    exact wb9 (I.cla B h1 (wu9 ⟨W,W,b,c⟩))
 .rintro⟨r1,r2⟩ a ⟨rfl,rfl,_⟩;exact wu9 h
def QM(t:I.d<=n)(B:q9 I z0.heap u p)(h:∀b,Q b z0):aA (aB P w) A (hG (n+1) (.ref p)) Q E z0:=by
 have gt:=B.typeIs;obtain⟨o,f,m,go,q,g,i⟩:=B;refine wb9 (jD gt fM.lookup ?_);refine wb9 (bF go g ?_);refine wb9 ?_;rw[<-lN];refine fH _ (λtl r a=>r.1=L/\a=z0/\∃l,qZ I _ l tl) _ ?_ ?_ _ _ ⟨W,W,_,i⟩
 .rintro v tl r a ⟨ge,rfl,l,j⟩
  cases j with
  | @cons k _ c _ h1 e=>
    refine wb9 (I.hbv t h1 λb=>?_);cases b
    .exact wu9 (wu9 (h _))
    .exact wu9 ⟨W,W,c,e⟩
 .rintro⟨r1,r2⟩ a ⟨rfl,rfl,_⟩;exact wu9 (h _)
abbrev tupI(I:Ik P w):Ik P w where
 κ:=Sum Key (O I.κ)
 d:=I.d+1
 is:=λh k v=>match k with
  |.inl k=>(cf P w).is k v=U
  |.inr B=>∃b,v=.ref b/\q9 I h B b
 hash:=λk=>match k with
  |.inl k=>(cf P w).hash k
  |.inr B=>Fq I B
 draw:=λk=>match k with
  |.inl _=>1
  |.inr B=>(B.map I.draw).sum+1
 inj:=λ{h x y v}ex c=>by
  cases x with
  |inl k=>
    cases y with
    |inl F=>exact dy _ ((cf P w).inj _ _ _ ex c)
    |inr B=>obtain⟨b,rfl,_⟩:=c;exact nomatch ((cf P w).byValue _ _ ex)
  |inr B=>
    obtain⟨b,rfl,q⟩:=ex
    cases y with
    |inl F=>exact nomatch ((cf P w).byValue _ _ c)
    |inr g=>obtain⟨r,e,j⟩:=c;cases e;exact dy _ (q.inj j)
 nW:=λ{h G k v}q x=>by
  cases k with
  |inl k=>exact x
  |inr B=>obtain⟨b,e,z⟩:=x;exact⟨b,e,z.nW q⟩
 hsh:=λ{A E s k v Q}l a h=>by
  cases k with
  |inl k=>exact(cf P w).pyHash a h
  |inr B=>obtain⟨b,rfl,z⟩:=a;exact DI l z h
 eqb:=λ{A E s x y u v Q}l ex c h1 h2=>by
  cases x with
  |inl k=>
    cases y with
    |inl F=>exact(Ht P w).eqb (by show A.units+0<=cO;exact Nat.le_trans (Nat.le_add_right _ _) l) ex c (λe=>h1 (by rw[e])) λe=>h2 λz=>e (Ab z)
    |inr B=>
      obtain⟨b,rfl,o,C,n,go,m,p,_⟩:=c;have f:s.heap.IsTuple b C:=⟨o,go,m,n,p⟩
      rcases cF ex with⟨i,t,rfl,rfl⟩|⟨z,t,rfl,rfl⟩
      .exact SeqAt.EqAt.int_tuple i t f (Nat.lt_of_le_of_lt (Nat.le_add_right _ _) l) _ _ _ _ (h2 λe=>nomatch e)
      .exact SeqAt.EqAt.str_tuple z t f (by omega) _ _ _ _ (h2 λe=>nomatch e)
  |inr B=>
    obtain⟨b,rfl,q⟩:=ex
    cases y with
    |inl F=>
      obtain⟨o,C,n,go,m,p,_⟩:=q;have f:s.heap.IsTuple b C:=⟨o,go,m,n,p⟩
      rcases cF c with⟨i,t,rfl,rfl⟩|⟨z,t,rfl,rfl⟩
      .exact SeqAt.EqAt.tuple_int i t f (by omega) _ _ _ _ (h2 λe=>nomatch e)
      .exact SeqAt.EqAt.tuple_str z t f (by omega) _ _ _ _ (h2 λe=>nomatch e)
    |inr g=>
      obtain⟨r,rfl,j⟩:=c;exact Xx l q j (λe=>h1 (by rw[e])) λe=>h2 λz=>e (Sum.inr.inj z)
 qui:=λ{A E s k v Q n}D a h=>by
  cases k with
  |inl k=>exact(Ht P w).qui (aY _) a h
  |inr B=>
    obtain⟨b,rfl,z⟩:=a
    cases n with
    |zero=>exact ((Nat.not_le_of_lt D (Nat.zero_le _))).elim
    |succ n=>exact t4 (Nat.le_of_succ_le_succ D) z h
 cla:=λ{A E s k v Q n}D a h=>by
  cases k with
  |inl k=>exact(Ht P w).cla (aY _) a h
  |inr B=>
    obtain⟨b,rfl,z⟩:=a
    cases n with
    |zero=>omega
    |succ n=>exact zG (Nat.le_of_succ_le_succ D) z h
 hbv:=λ{A E s k v Q n}D a h=>by
  cases k with
  |inl k=>exact(Ht P w).hbv (aY _) a h
  |inr B=>
    obtain⟨b,rfl,z⟩:=a
    cases n with
    |zero=>omega
    |succ n=>exact QM (Nat.le_of_succ_le_succ D) z h
end
abbrev N2:=Sum Key (O Key)
abbrev NK:=Sum Key (O N2)
noncomputable instance aam:eu N2:=j_
instance aal:eu NK:=j_
abbrev i2(P:cA)(w:cT):Ik P w:=tupI (Ht P w)
abbrev i3(P:cA)(w:cT):Ik P w:=tupI (i2 P w)
abbrev Y9(P:cA)(w:cT):cg->NK->ag->Prop:=(i3 P w).is
abbrev Vo(P:cA)(w:cT):cg->O NK->O ag->Prop:=qZ (i3 P w)
abbrev qc(P:cA)(w:cT):cg->O NK->aC->Prop:=q9 (i3 P w)
abbrev dH(P:cA)(w:cT):O NK->dc:=Fq (i3 P w)
section
variable{A:bZ}{z0:ao}
def GC:(i3 P w).d<=7:=by show 2<=7;simp
def Xw(B:A.units+3<=cO)(ex:qc P w z0.heap x p)(c:qc P w z0.heap y b)(h:Q (decide (x=y)) z0) :
  aA (aB P w) A (eqBool (.ref p) (.ref b)) Q E z0:=
 Xx B ex c (λe=>by simp_all) λe=>by simp_all
end
def xK(P:cA)(w:cT):HeapKind P w (O NK) where
 is:=qc P w
 hash:=dH P w
 draws:=λn=>(n.map (i3 P w).draw).sum+1
 room:=λA=>A.units+3<=cO
 inj:=λex c=>ex.inj c
 keeps:=λ{h p k a d o r s}x go j f=>x.nW λb t e _ ⟨l,m,q⟩=>(f.2 b λz=>by
  subst z;rw[go]at e;cases e
  rw[j]at q;cases q).trans e
 pyHash:=λg i h=>DI g i h
 eqBool:=λg ex c h=>Xw g ex c h
 quiet:=λi h=>t4 GC i h
inductive V where
 |non|bl (b:a7)|int (i:dc)|str (x:bw)|byt (b:eb UInt8)|flt (b:UInt64)|ref (a:aC)|ty (n:eS)
 deriving eu
def RelV:V->ag->Prop
 |.non,u=>u=fZ
 |.bl b,u=>u=nQ b
 |.int i,u=>∃t,u=Value.int i t
 |.str x,u=>∃t,u=Value.str x t
 |.byt b,u=>∃t,u=Value.bytes b t
 |.flt b,u=>∃t,u=Value.float b t
 |.ref a,u=>u=cQ a
 |.ty n,u=>u=fY n
abbrev cH:O V->O ag->Prop:=fS RelV
def cH.length(r:cH xs us):Z xs=Z us:=pQ r
theorem cH.get:∀{xs:O V}{us:O ag}{i:T}{x:V},cH xs us->xs[i]?=Y x->∃u,us[i]?=Y u/\RelV x u
 |_,_,_,_,.nil,e=>by simp at e
 |_,_,0,_,.cons r _,e=>by simp at e;subst e;exact⟨_,W,r⟩
 |_,_,i+1,x,.cons _ t,e=>by
   obtain⟨u,h1,h2⟩:=cH.get t (by simpa using e);exact⟨u,by simpa using h1,h2⟩
theorem cH.set(r:RelV x u):∀{xs:O V}{us:O ag}(i:T),cH xs us->cH (xs.set i x) (us.set i u)
 |_,_,_,.nil=>.nil
 |_,_,0,.cons _ t=>.cons r t
 |_,_,i+1,.cons q t=>.cons q (cH.set r i t)
theorem cH.append:∀{xs b:O V}{us ws:O ag},cH xs us->cH b ws->cH (xs++b) (us++ws)
 |_,_,_,_,.nil,s=>s
 |_,_,_,_,.cons r t,s=>.cons r (cH.append t s)
theorem cH.take:∀{xs:O V}{us:O ag}(n:T),cH xs us->cH (xs.take n) (us.take n)
 |_,_,0,_=>.nil
 |_,_,_+1,.nil=>.nil
 |_,_,n+1,.cons r t=>.cons r (cH.take n t)
theorem cH.drop:∀{xs:O V}{us:O ag}(n:T),cH xs us->cH (xs.drop n) (us.drop n)
 |_,_,0,r=>r
 |_,_,_+1,.nil=>.nil
 |_,_,n+1,.cons _ t=>cH.drop n t
def wN:a5 V->a5 ag->Prop
 |some v,Y u=>RelV v u
 |none,L=>True
 |_,_=>False
def KV{κ:Type}:O (κ×V)->O (κ×ag)->Prop:=fS λ(p:κ×V)(q:κ×ag)=>p.1=q.1/\RelV p.2 q.2
noncomputable def kV:Key->V
 |.inl i=>.int i
 |.inr x=>.str x
inductive HO where
 |lst (xs:O V)
 |tup (xs:O V)
 |dK (k_:O (Key×V))|dT (k_:O (O Key×V))
 |dN (xs:O (O NK×aC))
 |set (S:dc->a7) (n:T)
 |ins (C dx:aC) (fs:O (bw×V))
 |own (x:aC)
 |xd (fs:O (bw×V))
 |met (f x:aC)
 |rng (lo hi:dc)
 |kH (o:k8) (u:HO)
 |tbl (ps:eb ag)
 |ext (φ:cg->Prop)
abbrev Hp:=aC->a5 HO
noncomputable def upd(H:Hp)(a:aC)(o:HO):Hp:=λb=>if b=a then Y o else H b
def ck:upd H a o a=Y o:=by unfold upd;rw[a6 W]
def cL(h:b≠a):upd H a o b=H b:=by unfold upd;rw[c4 h]
def WR{H:Hp}{a b:aC}{o u:HO}(h:H a=Y o)(c:H b=Y u)(d:o≠u):a≠b:=by
 intro e;simp_all
def dS{H:Hp}{a b:aC}{o:HO}(h:H a=Y o)(c:H b=L):a≠b:=by
 intro e;simp_all
section
variable(P:cA)(w:cT)
def jO(H:Hp)(h:cg)(a:aC):HO->Prop
 |.lst b=>Z b<=aD/\∃(c:O ag) (n:T),cH b c/\h.get? a=Y { cls:=.type "list",data:=.seq c.toArray n }
 |.tup b=>Z b<=aD/\∃c:O ag,cH b c/\Il h a c.toArray
 |.dK e=>Z e<=aD/\(a == et)=J/\∃vs,KV e vs/\h.DictOf (cf P w) a vs
 | .dT e=>Z e<=aD/\(a == et)=J/\∃b:O (O Key×aC×ag),
   fS (λ(p:O Key×V)(q:O Key×aC×ag)=>p.1=q.1/\H q.2.1=Y (.tup (p.1.map kV))/\RelV p.2 q.2.2) e b/\
   ∃o g j,h.get? a=Y o/\o.ExactDict/\o.data=.dict g j/\g.toList=b.map (entryOfKey (j0 (cf P w)))/\(b.map (·.1)).Nodup
 |.dN b=>Z b<=aD/\(a == et)=J/\∃o g j,h.get? a=Y o/\o.ExactDict/\o.data=.dict g j/\g.toList=b.map (λx=>entryOfKey (xK P w) (x.1,x.2,.bool U))/\(b.map (·.1)).Nodup
 |.set S n=>h.SetOf (intKind P w) a S n
 | .ins C i fs=>H i=Y (.own a)/\Z fs<=1000/\i≠a/\h.get? a=Y (Ii C i)/\
   ∃d,h.Ns1 i d/\(∀f,wN (fs.lookup f) (d f))/\PySem.Within d (fs.map (·.1))
 |.own _=>∃o,h.get? a=Y o
 |.xd fs=>∃d,h.Ns1 a d/\∀f,wN (fs.lookup f) (d f)
 |.rng l hi=>∃t u v,h.get? a=Y { cls:=.type "range",data:=.fields #[.int l t,.int hi u,.int 1 v] }
 |.kH o u=>h.get? a=Y o/\jO H h a u
 |.tbl ps=>h.get? a=Y { cls:=.none,data:=.fields ps }
 |.met f x=>h.get? a=Y (PySem.W.methodObj (.ref f) (.ref x))
 |.ext k=>k h/\(∃o,h.get? a=Y o)/\∀h1 h2:cg,k h1->(∀o,h1.get? a=Y o->h2.get? a=Y o)->k h2
def qQ(H:Hp)(h:cg):Prop:=∀a o,H a=Y o->jO P w H h a o
end
section
variable{P:cA}{w:cT}{H:Hp}{h h':cg}{a:aC}{o:HO}
def jO.lt(x:jO P w H h a o):a<h.objs.size:=by
 cases o with
 |lst b=>obtain⟨_,_,_,_,e⟩:=x;exact hl9 e
 |tup b=>obtain⟨_,_,_,p⟩:=x;exact p.lt
 |dK c=>obtain⟨_,_,_,_,o,_,_,e,_⟩:=x;exact hl9 e
 |dT c=>obtain⟨_,_,_,_,o,_,_,e,_⟩:=x;exact hl9 e
 |dN b=>obtain⟨_,_,o,_,_,e,_⟩:=x;exact hl9 e
 |set S n=>obtain⟨o,_,_,_,e,_⟩:=x;exact hl9 e
 |ins C d fs=>obtain⟨_,_,_,e,_⟩:=x;exact hl9 e
 |own y=>obtain⟨_,e⟩:=x;exact hl9 e
 |xd fs=>obtain⟨_,⟨_,_,_,e,_⟩,_⟩:=x;exact hl9 e
 |rng g hi=>obtain⟨_,_,_,e⟩:=x;exact hl9 e
 |kH i u=>obtain⟨e,_⟩:=x;exact hl9 e
 |tbl ps=>exact hl9 (show h.get? a=Y _ from x)
 |met f y=>exact hl9 (show h.get? a=Y _ from x)
 |ext j=>obtain⟨_,⟨_,e⟩,_⟩:=x;exact hl9 e
theorem Paired.TK{c e:Type}{F G:c->e->Prop}:∀{l₁:O c}{B:O e},fS F l₁ B->(∀a b,F a b->G a b)->fS G l₁ B
 |_,_,.nil,_=>.nil
 |_,_,.cons r t,f=>.cons (f _ _ r) (Paired.TK t f)
theorem jO.nW(x:jO P w H h a o)(k:∀b u,(b=a\/H b=Y (.own a))->h.get? b=Y u->h'.get? b=Y u)
  (ho:∀b,H b=Y (.own a)->F b=Y (.own a))(B:∀b xs,H b=Y (.tup xs)->F b=Y (.tup xs)):jO P w F h' a o:=by
 induction o with
 |lst xs=>obtain⟨z,s,n,r,e⟩:=x;exact⟨z,s,n,r,k _ _ (.inl rfl) e⟩
 |tup xs=>obtain⟨z,s,r,j,e,c⟩:=x;exact⟨z,s,r,j,k _ _ (.inl rfl) e,c⟩
 |dK D=>obtain⟨z,y,vs,r,j,l,m,e,c⟩:=x;exact⟨z,y,vs,r,j,l,m,k _ _ (.inl rfl) e,c⟩
 |dT D=>
   obtain⟨z,y,xs,r,j,l,m,e,c⟩:=x;exact⟨z,y,xs,Paired.TK r λp q z=>⟨z.1,B _ _ z.2.1,z.2.2⟩,j,l,m,k _ _ (.inl rfl) e,c⟩
 |dN xs=>obtain⟨z,y,j,l,m,e,c⟩:=x;exact⟨z,y,j,l,m,k _ _ (.inl rfl) e,c⟩
 |set S n=>obtain⟨j,l,m,t,e,c⟩:=x;exact⟨j,l,m,t,k _ _ (.inl rfl) e,c⟩
 |ins C E fs=>
   obtain⟨d,z,ne,e,A,⟨od,l,m,g,c⟩,r⟩:=x;exact⟨ho _ d,z,ne,k _ _ (.inl rfl) e,A,⟨od,l,m,k _ _ (.inr d) g,c⟩,r⟩
 |own y=>obtain⟨j,e⟩:=x;exact⟨j,k _ _ (.inl rfl) e⟩
 |xd fs=>obtain⟨A,⟨od,l,m,e,c⟩,r⟩:=x;exact⟨A,⟨od,l,m,k _ _ (.inl rfl) e,c⟩,r⟩
 |rng G hi=>obtain⟨t,u,v,e⟩:=x;exact⟨t,u,v,k _ _ (.inl rfl) e⟩
 |kH j u i=>obtain⟨e,q⟩:=x;exact⟨k _ _ (.inl rfl) e,i q⟩
 |tbl ps=>
   have e :=x;exact k a _ (.inl rfl) e
 |met f y=>
   have e :=x;exact k a _ (.inl rfl) e
 |ext I=>obtain⟨p,⟨o,e⟩,st⟩:=x;exact⟨st _ _ p λo q=>k _ _ (.inl rfl) q,⟨o,k _ _ (.inl rfl) e⟩,st⟩
def qQ.lt(x:qQ P w H h)(e:H a=Y o):a<h.objs.size:=(x a o e).lt
def qQ.fresh(x:qQ P w H h)(e:h.objs.size<=a):H a=L:=by
 cases q:H a with
 |none=>rfl
 |some u=>exact absurd (bq (x.lt q) e) (bJ _)
def qQ.kept(x:qQ P w H h)(k:∀b u,h.get? b=Y u->h'.get? b=Y u):qQ P w H h':=λa o e=>
 (x a o e).nW (λb u _ q=>k b u q) (λ_ q=>q) λ_ _ q=>q
def qQ.laid(x:qQ P w H h)(k:∀b u,h.get? b=Y u->h'.get? b=Y u)(hp:h.objs.size<=a)(new:jO P w (upd H a o) h' a o):qQ P w (upd H a o) h':=λb u e=>by
 have d:=x.fresh hp;by_cases hb:b=a
 .subst hb;rw[ck]at e;cases e;exact new
 .rw[cL hb]at e;exact(x b u e).nW (λc v _ q=>k c v q) (λc q=>by rw[cL (dS q d)];exact q) λc f q=>by rw[cL (dS q d)];exact q
end
def Rd(H:Hp)(a:aC)(u:HO):Prop:=H a=Y u\/∃o,H a=Y (.kH o u)
def Rd.ok(r:Rd H a u)(x:qQ P w H h):jO P w H h a u:=by
 rcases r with r|⟨o,r⟩
 .exact x a u r
 .exact (x a _ r).2
def VO:a5 HO->Prop
 |some (.lst _)=>True
 |some (.dK _)=>True
 |some (.dT _)=>True
 |some (.dN _)=>True
 |some (.set _ _)=>True
 |some (.ins _ _ _)=>True
 |some (.ext _)=>True
 |_=>False
section
variable{h':cg}
def qQ.write(ok:qQ P w H h)(B:VO (H x))(o:e=x\/H e=Y (.own x))(k:∀b u,b≠e->h.get? b=Y u->h'.get? b=Y u)(C:∃u,h'.get? e=Y u)
  (new:jO P w (upd H x t) h' x t):qQ P w (upd H x t) h':=λb u q=>by
 have d:∀c y,H c=Y (.own y)->c≠x:=λc y r z=>by subst z;rw[r]at B;exact B
 by_cases hb:b=x
 .subst hb;rw[ck]at q;cases q;exact new
 .rw[cL hb]at q;by_cases a:b=e
  .have g:H b=Y (.own x):=by
    rcases o with z|z
    .exact absurd (a.trans z) hb
    .rw[a];exact z
   rw[q]at g;cases g;obtain⟨v,i⟩:=C;exact⟨v,by rw[a];exact i⟩
  .refine(ok b u q).nW (λc v f r=>k c v ?_ r) (λc r=>by rw[cL (d c b r)];exact r) λc j r=>by rw[cL ((λc j r z=>by subst z;rw[r]at B;exact B) c j r)];exact r
   rcases f with rfl|f
   .exact a
   .rintro rfl
    rcases o with z|z
    .exact d c b f z
    .rw[f]at z;cases z;exact hb W
end
structure Un(fs ex:O aC)(H H':Hp)(h h':cg):Prop where
 keep:∀b o,h.get? b=Y o->H b=L->b∉fs->b∉ex->h'.get? b=Y o
 slot:∀b o,h.get? b=Y o->H b=L->b∈fs->b∉ex->∃sl,h'.get? b=Y { o with slots:=sl }
 free:∀b o,h.get? b=Y o->H b=L->b∉ex->H' b=L
 there:∀b o,h.get? b=Y o->b∉ex->∃o',h'.get? b=Y o'
 tups:∀b xs,H b=Y (.tup xs)->H' b=Y (.tup xs)
 frzs:∀b o u,H b=Y (.kH o u)->H' b=Y (.kH o u)
 tbls:∀b ps,H b=Y (.tbl ps)->∃more,H' b=Y (.tbl (ps++more))
section
variable{h h':cg}
def Un.any(u:Un fs ex H c h h1)(q:h.get? b=Y ob)(n:H b=L)(B:b∉ex):∃sl,h1.get? b=Y { ob with slots:=sl }:=by
 by_cases hb:b∈fs
 .exact u.slot b ob q n hb B
 .exact⟨_,u.keep b ob q n hb B⟩
def Un.kept(k:∀b u,h.get? b=Y u->h'.get? b=Y u):Un fs ex H H h h':=
 ⟨λb a q _ _ _=>k b a q,λb a q _ _ _=>⟨a.slots,k b a q⟩,λ_ _ _ n _=>n,λb a q _=>⟨a,k b a q⟩,λ_ _ q=>q,λ_ _ _ q=>q,λ_ ps q=>⟨#[],by rw[q];simp⟩⟩
def Un.refl:Un fs ex H H h h:=Un.kept λ_ _ q=>q
def Un.laid(k:∀b u,h.get? b=Y u->h'.get? b=Y u)(hp:h.objs.size<=a)(B:H a=L):Un fs ex H (upd H a o) h h' where
 keep:=λb u q _ _ _=>k b u q
 slot:=λb u q _ _ _=>⟨u.slots,k b u q⟩
 free:=λb u q n _=>by rw[cL (ba (bq (hl9 q) hp))];exact n
 there:=λb u q _=>⟨u,k b u q⟩
 tups:=λb c q=>by rw[cL (dS q B)];exact q
 frzs:=λb u c q=>by rw[cL (dS q B)];exact q
 tbls:=λb ps q=>⟨#[],by rw[cL (dS q B),q];simp⟩
def Un.write(B:VO (H x))(f:e=x\/H e=Y (.own x))(k:∀b u,b≠e->h.get? b=Y u->h'.get? b=Y u)(t:∃u,h'.get? e=Y u):Un fs ex H (upd H x o) h h':=by
 have d:∀b,H b=L->b≠x:=λb n z=>by subst z;rw[n]at B;exact B
 have hb:∀b,H b=L->b≠e:=λb n z=>by
  subst z
  rcases f with r|r
  .exact d b n r
  .rw[n]at r;cases r
 have c:∀b u,H b=Y u->¬VO (Y u)->b≠x:=λb u q nm z=>by subst z;rw[q]at B;exact nm B
 refine⟨λb u q n _ _=>k b u (hb b n) q,λb u q n _ _=>⟨u.slots,k b u (hb b n) q⟩,λb u q n _=>by rw[cL (d b n)];exact n,λb u q _=>?_,
  λb g q=>by rw[cL (c b _ q λz=>z)];exact q,λb u g q=>by rw[cL (c b _ q λz=>z)];exact q,λb ps q=>⟨#[],by rw[cL (c b _ q λz=>z),q];simp⟩⟩
 by_cases a:b=e
 .subst a;exact t
 .exact⟨u,k b u a q⟩
end
noncomputable def Yi(h:cg)(H:Hp):O aC:=(aJ h.objs.size).filter λa=>(H a).isSome
def Bj(h:cg)(H:Hp):cg:=PySem.W.hideAll h (Yi h H)
def Hy(h:cg)(H:Hp):(Bj h H).objs.size=h.objs.size:=PySem.W.hideAll_size _ _
def Lk{h:cg}(e:h.get? b=Y o)(n:H b=L):(Bj h H).get? b=Y o:=
 PySem.W.hideAll_get _ e λa=>by
  have q :=(kW.mp a).2;rw[n]at q;simp at q
def OS(e:(Bj h H).get? b=Y o):h.get? b=Y o/\H b=L:=by
 have a :=PySem.W.of_hideAll _ e;refine⟨a,?_⟩
 cases q:H b with
 |none=>rfl
 |some x=>
   have z:(Bj h H).get? b=L:=PySem.W.hideAll_none _ (kW.mpr ⟨aO.mpr (hl9 a),by simp[q]⟩);rw[z]at e;cases e
noncomputable def P7(g h:cg)(L':aC):O (aC×k8):=(aJ h.objs.size).filterMap λa=>if a=L'\/(g.get? a).isSome=U then L else(h.get? a).map λo=>(a,o)
def rest(g h:cg)(L' d:aC):O (aC×k8):=(P7 g h L').filter λp=>decide (p.1≠d)
structure Mod(K:aE)(mg:bw->a5 ag)(base:cg):Prop where
 kin:K.In base
 glob:base.Ns ek mg
 blt:∃mb,base.Ns nq mb/\∀x:bw,x≠"__name__"->mb x=ei x
 nolimit:base.NoLimit
structure Cx where
 prog:cA
 w:cT
 K:aE
 mg:bw->a5 ag
 base:cg
 A:bZ
 N:O bw
 s₀:ao
 H₀:Hp
 env:Qn
 outer:O Qn
 stack:O Qn
 ex:O aC
 fn:bw->a7
 calm:a7
 pn:O (aC×k8)
 xe:ag->ao->Prop
noncomputable def ID(l:O Qn):O aC:=l.filterMap (·.frame)
abbrev Cx.fs(X:Cx):O aC:=ID X.outer
def Q9(sc:mD)(x:bw):Prop:=sc.names.lookup x=Y .local\/sc.names.lookup x=Y .cell\/sc.names.lookup x=Y .free
def Loc(sc:mD)(x:bw):Prop:=sc.names.lookup x=Y .local\/sc.names.lookup x=Y .cell
def Look(env:Qn)(h:cg)(m:bw->a5 ag)(x:bw)(u:ag):Prop:=
 (env.kindOf x=Y .local/\m x=Y u)\/((env.kindOf x=Y .cell\/env.kindOf x=Y .free)/\∃c,env.cells.lookup x=Y c/\h.IsCell c (Y u))
structure Cx.Ok(X:Cx):Prop where
 mod:Mod X.K X.mg X.base
 kind:X.env.scope.kind=.function
 glob:X.env.globals=ek
 blt:X.env.builtins=nq
 above:X.s₀.heap.objs.size<=X.env.locals
 inj:∀x y c,X.env.cells.lookup x=Y c->X.env.cells.lookup y=Y c->x=y
 has:∀x,(X.env.kindOf x=Y .cell\/X.env.kindOf x=Y .free)->∃c,X.env.cells.lookup x=Y c
 cab:∀x c,X.fn x=U->X.env.cells.lookup x=Y c->X.s₀.heap.objs.size<=c
 hd:X.calm=U->X.A.handled=L
 frames:X.A.frames=Y X.stack
 yP:X.stack=X.outer\/(X.stack=X.env::X.outer/\X.env.frame=Y X.env.locals)
 exf:∀b∈X.ex,b≠X.env.locals/\∀x c,X.env.cells.lookup x=Y c->c≠b
 bs:∀b o,X.base.get? b=Y o->X.s₀.heap.get? b=Y o/\X.H₀ b=L
 bsz:X.base.objs.size<=X.s₀.heap.objs.size
 noex:∀b o,X.base.get? b=Y o->b∉X.ex
 exfs:∀b∈X.ex,b∉X.fs
 vy:X.s₀.heap.FunFrames X.base X.outer
 frf:∀b∈X.fs,X.H₀ b=L
structure Inv(X:Cx)(h_:O (aC×k8))(σ:O (a5 V))(H:Hp)(s:ao):Prop where
 ok:X.Ok
 os:s.os=X.s₀.os
 bare:n5 s.gens
 base:Un X.fs X.ex X.H₀ H X.s₀.heap s.heap
 loc:∃m,s.heap.Ns X.env.locals m/\∀(i:T)(x:bw)(v:V),X.N[i]?=Y x->σ[i]?=Y (Y v)->Q9 X.env.scope x->∃u,RelV v u/\Look X.env s.heap m x u
 cell:∀x c,X.env.cells.lookup x=Y c->∃v,s.heap.IsCell c v
 free:H X.env.locals=L
 freeC:∀x c,X.env.cells.lookup x=Y c->H c=L
 pin:∀p∈X.pn++h_,s.heap.get? p.1=Y p.2/\H p.1=L/\p.1≠X.env.locals/\p.1∉X.fs/\∀v,p.2.data≠.cell v
 hok:qQ X.prog X.w H s.heap
 len:Z σ=Z X.N
section
variable{X:Cx}{h_:O (aC×k8)}{σ:O (a5 V)}{H:Hp}{s:ao}{h':cg}
def Cx.Ok.Y5(ok:X.Ok)(e:X.base.get? b=Y o):b∉X.fs:=λhb=>by
 have:=(ok.vy.mem hb).1
 simp_all
def Inv.bs(I:Inv X h_ σ H s):∀b o,X.base.get? b=Y o->s.heap.get? b=Y o/\H b=L:=λb o e=>
 ⟨I.base.keep b o (I.ok.bs b o e).1 (I.ok.bs b o e).2 (I.ok.Y5 e) (I.ok.noex b o e),I.base.free b o (I.ok.bs b o e).1 (I.ok.bs b o e).2 (I.ok.noex b o e)⟩
def Inv.bk(I:Inv X h_ σ H s):∀b o,X.base.get? b=Y o->s.heap.get? b=Y o:=λb o e=>(I.bs b o e).1
def Inv.mod(I:Inv X h_ σ H s):Mod X.K X.mg X.base:=I.ok.mod
def Inv.Dy(I:Inv X h_ σ H s):X.K.In s.heap:=I.ok.mod.kin.keeps I.bk
def Inv.fr(I:Inv X h_ σ H s):∃m,Fr X.base X.env.locals s.heap m:=
 let ⟨m,a,_⟩:=I.loc
 ⟨m,a,I.bk,ab I.ok.bsz I.ok.above⟩
def Inv.lt(I:Inv X h_ σ H s):X.env.locals<s.heap.objs.size:=let ⟨_,a,_⟩:=I.loc;a.lt
def Inv.sz(I:Inv X h_ σ H s):X.s₀.heap.objs.size<=s.heap.objs.size:=ab I.ok.above (bx I.lt)
def Inv.WN(I:Inv X h_ σ H s)(h:s.heap.objs.size<=a):a∉X.fs:=λhb=>by
 obtain⟨_,o,ho,_⟩:=I.ok.vy.mem hb;exact absurd (bq (hl9 ho) (ab I.sz h)) (bJ _)
def Inv.U1(I:Inv X h_ σ H s):∀x c,X.env.cells.lookup x=Y c->c≠X.env.locals:=λx c e z=>by
 obtain⟨v,o,ho,hd⟩:=I.cell x c e;obtain⟨m,⟨d,f,g,a,b,_⟩,_⟩:=I.loc
 grind
def Inv.vy(I:Inv X h_ σ H s):s.heap.FunFrames X.base X.outer:=by
 have all:∀(l:O Qn),(∀b∈ID l,b∈X.fs)->X.s₀.heap.FunFrames X.base l->s.heap.FunFrames X.base l:=by
  intro l
  induction l with
  |nil=>intro _ _;trivial
  |cons env r c=>
    intro h hl;obtain⟨i,⟨g,o,hf,d,ho,hd⟩,f⟩:=hl;have a :=h g (by unfold ID;simp_all);obtain⟨sl,e⟩:=I.base.slot g o ho (I.ok.frf g a) a λz=>I.ok.exfs g z a;exact⟨i,⟨g,_,hf,d,e,hd⟩,c (λb hb=>h b (by unfold ID;rw[qa,hf];exact kc _ hb)) f⟩
 exact all _ (λ_ hb=>hb) I.ok.vy
def Inv.stack(I:Inv X h_ σ H s):s.heap.FunFrames X.base X.stack:=by
 rcases I.ok.yP with e|⟨e,hf⟩
 .rw[e];exact I.vy
 .rw[e];obtain⟨m,a,_⟩:=I.loc;exact .cons (by rw[I.ok.kind];decide) hf a (pz (ab I.ok.bsz I.ok.above)) I.vy
def Inv.uG(I:Inv X h_ σ H s):∀b∈ID X.stack,b∈X.env.locals::X.fs:=λb hb=>by
 rcases I.ok.yP with e|⟨e,hf⟩
 .simp_all
 .rw[e]at hb;unfold ID at hb;rwa[qa,hf]at hb
def Inv.El(I:Inv X h_ σ H s):∀b∈ID X.stack,H b=L:=λb hb=>by
 rcases aq.mp (I.uG b hb)with e|hb
 .rw[e];exact I.free
 .obtain⟨_,o,ho,_⟩:=I.ok.vy.mem hb;exact I.base.free b o ho (I.ok.frf b hb) λz=>I.ok.exfs b z hb
def Inv.step{g':eb Cp}{t':T}{d':Drawn}{ch:O aC}(I:Inv X h_ σ H s)
  (B:∀b∈ch,(b∈X.ex\/X.s₀.heap.objs.size<=b)/\b≠X.env.locals/\(∀x c,X.env.cells.lookup x=Y c->c≠b)/\∀p∈X.pn++h_,p.1≠b)
  (keep:∀b o,b≠X.env.locals->b∉X.fs->b∉ch->s.heap.get? b=Y o->H b=L->h'.get? b=Y o)
  (slot:∀b o,b≠X.env.locals->b∈X.fs->b∉ch->s.heap.get? b=Y o->H b=L->∃sl,h'.get? b=Y { o with slots:=sl })(free:∀b o,b∉ch->s.heap.get? b=Y o->H b=L->C b=L)
  (there:∀b o,b∉ch->s.heap.get? b=Y o->∃F,h'.get? b=Y F)
  (tups:∀b xs,H b=Y (.tup xs)->C b=Y (.tup xs))(frzs:∀b o u,H b=Y (.kH o u)->C b=Y (.kH o u))(tbls:∀b ps,H b=Y (.tbl ps)->∃more,C b=Y (.tbl (ps++more)))
  (ns:∀m,s.heap.Ns X.env.locals m->h'.Ns X.env.locals m)(hok:qQ X.prog X.w C h')(P:n5 g') :
  Inv X h_ σ C { s with heap:=h',gens:=g',drawn:=d',toks:=t' }:=by
 have h:∀b o,X.s₀.heap.get? b=Y o->b≠X.env.locals:=λb o e=>ba (bq (hl9 e) I.ok.above)
 have g:∀b o,X.s₀.heap.get? b=Y o->b∉X.ex->b∉ch:=λb o e a hb=>by
  rcases(B b hb).1 with z|z
  .exact a z
  .exact absurd (bq (hl9 e) z) (bJ _)
 have cellK:∀x c,X.env.cells.lookup x=Y c->∀v,s.heap.IsCell c v->h'.IsCell c v:=λx c e v t=>by
  obtain⟨o,ho,hd⟩:=t;have f :=λz=>(B c z).2.2.1 x c e W;by_cases E:c∈X.fs
  .obtain⟨sl,q⟩:=slot c o (I.U1 x c e) E f ho (I.freeC x c e);exact⟨_,q,hd⟩
  .exact⟨o,keep c o (I.U1 x c e) E f ho (I.freeC x c e),hd⟩
 refine⟨I.ok,I.os,P,⟨λb o e n hb a=>?_,λb o e n hb a=>?_,λb o e n a=>?_,λb o e a=>?_,λb xs e=>tups b xs (I.base.tups b xs e),λb o xs e=>frzs b o xs (I.base.frzs b o xs e),λb ps e=>?_⟩,?_,λx c e=>?_,?_,λx c e=>?_,λp hp=>?_,hok,I.len⟩
 .exact keep b o (h b o e) hb (g b o e a) (I.base.keep b o e n hb a) (I.base.free b o e n a)
 .obtain⟨sl,A⟩:=I.base.slot b o e n hb a;obtain⟨j,D⟩:=slot b _ (h b o e) hb (g b o e a) A (I.base.free b o e n a);exact⟨j,D⟩
 .obtain⟨F,A⟩:=I.base.there b o e a;exact free b F (g b o e a) A (I.base.free b o e n a)
 .obtain⟨F,A⟩:=I.base.there b o e a;exact there b F (g b o e a) A
 .obtain⟨m1,A⟩:=I.base.tbls b ps e
  grind
 .obtain⟨m,y,hl⟩:=I.loc;refine⟨m,ns m y,λi x v A D G=>?_⟩;obtain⟨u,r,l⟩:=hl i x v A D G;refine⟨u,r,?_⟩
  rcases l with l|⟨k,c,e,z⟩
  .exact .inl l
  .exact .inr ⟨k,c,e,cellK x c e _ z⟩
 .obtain⟨v,z⟩:=I.cell x c e;exact⟨v,cellK x c e v z⟩
 .obtain⟨m,⟨o,_,_,ho,_⟩,_⟩:=I.loc;exact free _ o (λz=>(B _ z).2.1 W) ho I.free
 .obtain⟨v,o,ho,hd⟩:=I.cell x c e;exact free c o (λz=>(B c z).2.2.1 x c e W) ho (I.freeC x c e)
 .obtain⟨e,n,ne,nf,d⟩:=I.pin p hp;have f :=λz=>(B p.1 z).2.2.2 p hp W;exact⟨keep p.1 p.2 ne nf f e n,free p.1 p.2 f e n,ne,nf,d⟩
def Inv.un(I:Inv X h_ σ H s)(u:Un X.fs [] H t s.heap h')(hok:qQ X.prog X.w t h'):Inv X h_ σ t { s with heap:=h',toks:=t' }:=by
 obtain⟨m,⟨o,j,k,ho,r⟩,_⟩:=id I.loc;obtain⟨sl,d⟩:=u.any ho I.free (by simp)
 exact I.step (g':=s.gens) (d':=s.drawn) (ch:=[]) (λ_ z=>nomatch z) (λb o _ hb _ e n=>u.keep b o e n hb (by simp)) (λb o _ hb _ e n=>u.slot b o e n hb (by simp)) (λb o _ e n=>u.free b o e n (by simp)) (λb o _ e=>u.there b o e (by simp)) u.tups u.frzs u.tbls (λg i=>by
  obtain⟨l,h,c,a,f⟩:=i;rw[ho]at a;cases a
  exact⟨_,h,c,d,f⟩) hok I.bare
def Inv.call(I:Inv X h_ σ H s)(u:Un (ID X.stack) ch H t s.heap h')(hok:qQ X.prog X.w t h')(y:n5 g')
  (B:∀b∈ch,(b∈X.ex\/X.s₀.heap.objs.size<=b)/\b≠X.env.locals/\(∀x c,X.env.cells.lookup x=Y c->c≠b)/\∀p∈X.pn++h_,p.1≠b) :
  Inv X h_ σ t { s with heap:=h',gens:=g',drawn:=d',toks:=t' }:=by
 obtain⟨m,⟨o,l,q,ho,r⟩,_⟩:=id I.loc;obtain⟨sl,f⟩:=u.any ho I.free λz=>(B _ z).2.1 W
 exact I.step (ch:=ch) B (λb o f hb a e n=>u.keep b o e n (λz=>(aq.mp (I.uG b z)).elim f hb) a) (λb o _ _ a e n=>u.any e n a) (λb o a e n=>u.free b o e n a) (λb o a e=>u.there b o e a) u.tups u.frzs u.tbls (λi k=>by
  obtain⟨v,j,g,d,h⟩:=k;rw[ho]at d;cases d
  exact⟨_,j,g,f,h⟩) hok y
def Inv.turned(I:Inv X h_ σ H s)(k:∀b o,b≠it->s.heap.get? b=Y o->h'.get? b=Y o)(f:H it=L)(B:it≠X.env.locals)
  (h1:it∈X.ex\/X.s₀.heap.objs.size<=it)(h2:∀x c,X.env.cells.lookup x=Y c->c≠it)(h3:∀p∈X.pn++h_,p.1≠it):Inv X h_ σ H { s with heap:=h',toks:=t' }:=by
 have d:∀b u,H b=Y u->b≠it:=λb u e z=>by rw[z,f]at e;cases e
 refine I.step (g':=s.gens) (d':=s.drawn) (ch:=[it]) (λb hb=>?_) (λb o _ _ a e _=>k b o (λz=>a (by simp[z])) e) (λb o _ _ a e _=>⟨o.slots,k b o (λz=>a (by simp[z])) e⟩) (λ_ _ _ _ n=>n)
  (λb o a e=>⟨o,k b o (λz=>a (by simp[z])) e⟩) (λ_ _ e=>e) (λ_ _ _ e=>e) (λb ps e=>⟨#[],by rw[e];simp⟩) (λm g=>?_) (λb u e=>?_) I.bare
 .have e:b=it:=by simpa using hb
  subst e;exact⟨h1,B,h2,h3⟩
 .obtain⟨o,h,i,ho,r⟩:=g;exact⟨o,h,i,k _ o (eW B) ho,r⟩
 .refine(I.hok b u e).nW (λc v a q=>k c v ?_ q) (λ_ q=>q) λ_ _ q=>q
  rcases a with z|z
  .rw[z];exact d b u e
  .exact d c _ z
def Inv.tok(I:Inv X h_ σ H s)(t:T):Inv X h_ σ H { s with toks:=t }:=I.un Un.refl I.hok
def Inv.kept(I:Inv X h_ σ H s)(k:∀b u,s.heap.get? b=Y u->h'.get? b=Y u):Inv X h_ σ H { s with heap:=h',toks:=t' }:=I.un (Un.kept k) (I.hok.kept k)
def Inv.laid(I:Inv X h_ σ H s)(k:∀b u,s.heap.get? b=Y u->h'.get? b=Y u)(hp:s.heap.objs.size<=a)(new:jO X.prog X.w (upd H a o) h' a o) :
  Inv X h_ σ (upd H a o) { s with heap:=h',toks:=t' }:=I.un (Un.laid k hp (I.hok.fresh hp)) (I.hok.laid k hp new)
def Inv.write(I:Inv X h_ σ H s)(c:VO (H x))(f:e=x\/H e=Y (.own x))(k:∀b u,b≠e->s.heap.get? b=Y u->h'.get? b=Y u)(B:∃u,h'.get? e=Y u)
  (new:jO X.prog X.w (upd H x o) h' x o):Inv X h_ σ (upd H x o) { s with heap:=h',toks:=t' }:=I.un (Un.write c f k B) (I.hok.write c f k B new)
def Inv.weak{B:O (a5 V)}(I:Inv X h_ σ H s)(hl:Z B=Z σ)(w:∀(i:T)v,B[i]?=Y (Y v)->σ[i]?=Y (Y v)):Inv X h_ B H s:=
 ⟨I.ok,I.os,I.bare,I.base,let ⟨m,b,a⟩:=I.loc;⟨m,b,λi x v c d e=>a i x v c (w i v d) e⟩,I.cell,I.free,I.freeC,I.pin,I.hok,hl.trans I.len⟩
def Inv.qv(I:Inv X h_ σ H s)(h:∀p∈b,s.heap.get? p.1=Y p.2/\H p.1=L/\p.1≠X.env.locals/\p.1∉X.fs/\∀v,p.2.data≠.cell v):Inv X b σ H s:=
 ⟨I.ok,I.os,I.bare,I.base,I.loc,I.cell,I.free,I.freeC,λp hp=>(aR.mp hp).elim (λz=>I.pin p (bp _ z)) (h p),I.hok,I.len⟩
def AO{N:O bw}(B:N.Nodup){i j:T}{x:bw}(a:N[i]?=Y x)(b:N[j]?=Y x):i=j:=by
 exact(List.getElem_inj B).mp ((aT.mp a).2.trans (aT.mp b).2.symm)
def GO(I:Inv X h_ σ H s)(hN:X.N.Nodup)(hi:X.N[i]?=Y x)(B:Loc X.env.scope x)(r:RelV v u)
  (h:∀s',Inv X h_ (σ.set i (Y v)) H s'->(∃a,cJ a s.heap s'.heap/\(a=X.env.locals\/X.env.cells.lookup x=Y a))->Q () s')(hf:X.fn x=U\/X.env.scope.names.lookup x=Y .local):aA M A (storeName X.env x u) Q E s:=by
 obtain⟨m,hn,hl⟩:=id I.loc;have J':(X.env.scope.kind == .class || (X.env.scope.kind == .module && X.env.locals != X.env.globals))=J:=by rw[I.ok.kind];rfl
 have C:i<Z σ:=by rw[I.len];exact(aT.mp hi).1
 have U1:=I.U1
 have tracked:∀{a:aC}{h':cg},(∃o,s.heap.get? a=Y o/\H a=L)->cJ a s.heap h'->qQ X.prog X.w H h':=λ{a h'}ha hs b ob e=>by
  obtain⟨_,_,l⟩:=ha;refine(I.hok b ob e).nW (λc R g q=>(hs.2 c ?_).trans q) (λ_ q=>q) λ_ _ q=>q;rintro rfl
  rcases g with rfl|g
  .rw[l]at e;cases e
  .rw[l]at g;cases g
 rcases B with D|D
 .refine wpAny_storeName_local D hn (λh' T' hs=>?_) J';obtain⟨oL,_,_,U',_⟩:=id hn;refine h _ ⟨I.ok,I.os,I.bare,⟨λb o e n hb B=>?_,λb o e n hb B=>?_,I.base.free,λb o e B=>?_,I.base.tups,I.base.frzs,I.base.tbls⟩,⟨_,T',λj y c0 f t e1=>?_⟩,λy c e=>?_,I.free,I.freeC,λp hp=>?_,tracked ⟨oL,U',I.free⟩ hs,by simpa using I.len⟩ ⟨_,hs,.inl rfl⟩
  .exact(hs.2 b (ba (bq (hl9 e) I.ok.above))).trans (I.base.keep b o e n hb B)
  .obtain⟨sl,f⟩:=I.base.slot b o e n hb B;exact⟨sl,(hs.2 b (ba (bq (hl9 e) I.ok.above))).trans f⟩
  .obtain⟨o',f⟩:=I.base.there b o e B;exact⟨o',(hs.2 b (ba (bq (hl9 e) I.ok.above))).trans f⟩
  .by_cases F:j=i
   .subst F;rw[hi]at f;cases f;rw[n8 C]at t;cases t;exact⟨u,r,.inl ⟨D,by simp⟩⟩
   .rw[iq (eW F)]at t;obtain⟨e2,r',q⟩:=hl j y c0 f t e1;refine⟨e2,r',?_⟩
    rcases q with⟨k,e⟩|⟨k,c,e,z⟩
    .refine .inl ⟨k,?_⟩;have:y≠x:=λe=>F (AO hN f (e▸hi));simp[this,e]
    .exact .inr ⟨k,c,e,z.sameBut hs (U1 y c e)⟩
  .obtain⟨R,z⟩:=I.cell y c e;exact⟨R,z.sameBut hs (U1 y c e)⟩
  .obtain⟨e,n,ne,nf,d⟩:=I.pin p hp;exact⟨(hs.2 p.1 ne).trans e,n,ne,nf,d⟩
 .have G:X.fn x=U:=by
   rcases hf with z|z
   .exact z
   .rw[z]at D;cases D
  obtain⟨c,g⟩:=I.ok.has x (.inl D);obtain⟨R,z⟩:=I.cell x c g;refine wpAny_storeName_cell I.ok.kind D g z (λh' K hs=>?_);obtain⟨oc,L',O'⟩:=id z;refine h { s with heap:=h' } ⟨I.ok,I.os,I.bare,⟨λb o e n hb B=>?_,λb o e n hb B=>?_,I.base.free,λb o e B=>?_,I.base.tups,I.base.frzs,I.base.tbls⟩,⟨m,hn.sameBut hs (eW (U1 x c g)),λj y c0 f t e1=>?_⟩,λy S e=>?_,I.free,I.freeC,λp hp=>?_,tracked ⟨oc,L',I.freeC x c g⟩ hs,by simpa using I.len⟩ ⟨c,hs,.inr g⟩
  .exact(hs.2 b (ba (bq (hl9 e) (I.ok.cab x c G g)))).trans (I.base.keep b o e n hb B)
  .obtain⟨sl,f⟩:=I.base.slot b o e n hb B;exact⟨sl,(hs.2 b (ba (bq (hl9 e) (I.ok.cab x c G g)))).trans f⟩
  .obtain⟨o',f⟩:=I.base.there b o e B;exact⟨o',(hs.2 b (ba (bq (hl9 e) (I.ok.cab x c G g)))).trans f⟩
  .by_cases F:j=i
   .subst F;rw[hi]at f;cases f;rw[n8 C]at t;cases t;exact⟨u,r,.inr ⟨.inl D,c,g,K⟩⟩
   .rw[iq (eW F)]at t;obtain⟨e2,r',q⟩:=hl j y c0 f t e1;refine⟨e2,r',?_⟩
    rcases q with q|⟨k,S,e,z'⟩
    .exact .inl q
    .refine .inr ⟨k,S,e,z'.sameBut hs ?_⟩;rintro rfl;exact F (AO hN f (I.ok.inj _ _ _ e g▸hi))
  .by_cases P:S=c
   .subst P;exact⟨_,K⟩
   .obtain⟨w2,z2⟩:=I.cell y S e;exact⟨w2,z2.sameBut hs P⟩
  .obtain⟨e,n,ne,nf,d⟩:=I.pin p hp;refine⟨(hs.2 p.1 ?_).trans e,n,ne,nf,d⟩;intro q;rw[q,L']at e;have q':oc=p.2:=bb e;exact d R (by rw[<-q'];exact O')
def uF(I:Inv X h_ σ H s)(B:X.N.Nodup)(hi:X.N[i]?=Y x)(c:Loc X.env.scope x)(r:RelV v u)
  (h:∀b,Inv X h_ (σ.set i (Y v)) H b->Q () b)(hf:X.fn x=U\/X.env.scope.names.lookup x=Y .local):aA M A (storeName X.env x u) Q E s:=
 GO I B hi c r (λb a _=>h b a) hf
def Inv.XH{e:ao}(I:Inv X h_ σ H s)(ho:e.os=s.os)(u:Un (ID X.stack) ch H f s.heap e.heap)(hok:qQ X.prog X.w f e.heap)(o:n5 e.gens)
  (B:∀b∈ch,(b∈X.ex\/X.s₀.heap.objs.size<=b)/\b≠X.env.locals/\(∀x c,X.env.cells.lookup x=Y c->c≠b)/\∀p∈X.pn++h_,p.1≠b):Inv X h_ σ f e:=by
 obtain⟨h',a,d,g,h⟩:=e;subst ho;exact I.call u hok o B
end
abbrev XK:=ag->a5 aC->Hp->Prop
abbrev St:=O (a5 V)
abbrev VK:=V->Hp->Prop
abbrev TE:=St->Hp->VK->Prop
abbrev TT:=St->Hp->(a7->Hp->Prop)->Prop
abbrev TA:=St->Hp->(O V->Hp->Prop)->Prop
structure Ends where
 nx:St->Hp->Prop
 rt:VK
 bk:St->Hp->Prop:=λ_ _=>False
 ct:St->Hp->Prop:=λ_ _=>False
abbrev TS:=Ends->St->Hp->Prop
def EP(X:Cx)(h_:O (aC×k8))(σ:St)(Q:VK)(u:ag)(b:ao):Prop:=∃v a,Inv X h_ σ a b/\RelV v u/\Q v a
def TP(X:Cx)(h_:O (aC×k8))(σ:St)(Q:a7->Hp->Prop)(b:a7)(c:ao):Prop:=∃a,Inv X h_ σ a c/\Q b a
def AP(X:Cx)(h_:O (aC×k8))(σ:St)(Q:O V->Hp->Prop)(us:O ag)(b:ao):Prop:=∃vs a,Inv X h_ σ a b/\cH vs us/\Q vs a
def SP(X:Cx)(h_:O (aC×k8))(D:Ends)(f:Flow)(c:ao):Prop:=
 match f with
 |.next=>∃a b,Inv X h_ a b c/\D.nx a b
 |.brk=>∃a b,Inv X h_ a b c/\D.bk a b
 |.cont=>∃a b,Inv X h_ a b c/\D.ct a b
 |.ret u=>∃v a b,Inv X h_ a b c/\RelV v u/\D.rt v b
def PE(X:Cx)(e:br)(t:TE):Prop:=
 ∀(h_:O (aC×k8))(s:ao)(σ:St)(H:Hp)(Q:VK),Inv X h_ σ H s->t σ H Q->aA (aB X.prog X.w) X.A (eval e X.env) (EP X h_ σ Q) X.xe s
def PT(X:Cx)(e:br)(t:TT):Prop:=
 ∀(h_:O (aC×k8))(s:ao)(σ:St)(H:Hp)(Q:a7->Hp->Prop),Inv X h_ σ H s->t σ H Q->aA (aB X.prog X.w) X.A (isTrue e X.env (eval e X.env)) (TP X h_ σ Q) X.xe s
def PW(X:Cx)(e:br)(t:TT):Prop:=
 ∀(whole:Af ag)(h_:O (aC×k8))(s:ao)(σ:St)(H:Hp)(Q:a7->Hp->Prop),Inv X h_ σ H s->t σ H Q->aA (aB X.prog X.w) X.A (isTrue e X.env whole) (TP X h_ σ Q) X.xe s
def PW.pt(h:PW X e t):PT X e t:=h _
def PA(X:Cx)(es:O br)(t:TA):Prop:=
 ∀(pos:uo)(h_:O (aC×k8))(s:ao)(σ:St)(H:Hp)(Q:O V->Hp->Prop),Inv X h_ σ H s->t σ H Q->aA (aB X.prog X.w) X.A (spliced (e4 pos (aL es X.env))) (AP X h_ σ Q) X.xe s
def PS(X:Cx)(st:l9)(t:TS):Prop:=
 ∀(h_:O (aC×k8))(s:ao)(σ:St)(H:Hp)(D:Ends),Inv X h_ σ H s->t D σ H->aA (aB X.prog X.w) X.A (exec st X.env) (SP X h_ D) X.xe s
def B3(X:Cx)(st:O l9)(t:TS):Prop:=
 ∀(h_:O (aC×k8))(s:ao)(σ:St)(H:Hp)(D:Ends),Inv X h_ σ H s->t D σ H->aA (aB X.prog X.w) X.A (execs st X.env) (SP X h_ D) X.xe s
def fT (h:aA M A t Q E s)(B:∀a s,Q a s->b a s):aA M A t b E s:=c8 h B λ_ _ x=>x
section
variable{X:Cx}
def bin{a b:br}{o tb:TE}(ha:PE X a o)(hb:PE X b tb){h_:O (aC×k8)}{s:ao}{σ:St}{H:Hp}{R:V->V->Hp->Prop}(I:Inv X h_ σ H s)(h:o σ H λx C=>tb σ C λy t=>R x y t)
  {F:Type}{Q:F->ao->Prop}{f:ag->ag->Af F}
  (hf:∀v u s2 x y t,Inv X h_ σ t s2->RelV x v->RelV y u->R x y t->aA (aB X.prog X.w) X.A (f v u) Q X.xe s2) :
  aA (aB X.prog X.w) X.A (eval a X.env) (λv z=>aA (aB X.prog X.w) X.A (eval b X.env) (λu B=>aA (aB X.prog X.w) X.A (f v u) Q X.xe B) X.xe z) X.xe s:=by
 refine fT (ha h_ s σ H _ I h) λv s1 l=>?_;obtain⟨x,C,c,d,e⟩:=l;exact fT (hb h_ s1 σ C _ c e) λu s2 ⟨y,t,g,i,j⟩=>hf v u s2 x y t g d i j
def Nn(i:T):TE:=λσ H Q=>∃v,σ[i]?=Y (Y v)/\Q v H
def tC(v:V):TE:=λ_ H Q=>Q v H
def y7(o:X.N[i]?=Y x)(f:Q9 X.env.scope x)(hd:(x == ("__debug__":bw))=J)(B:(x == ("__classdict__":bw))=J):PE X (.Name x pos) (Nn i):=by
 intro h_ s σ H Q I h;obtain⟨v,e,h⟩:=h;obtain⟨m,b,hl⟩:=I.loc;obtain⟨u,r,l⟩:=hl i x v o e f;have fin:EP X h_ σ Q u s:=⟨v,H,I,r,h⟩
 rcases l with⟨g,d⟩|⟨g,c,j,a⟩
 .exact ny (wpAny_loadName_local I.ok.kind g b d fin) hd
 .rcases g with g|g
  .exact ny (wpAny_loadName_cell I.ok.kind g j a fin) hd
  .exact ny (wpAny_loadName_free I.ok.kind g j a fin B) hd
def SY{i j pos}:PE X (.Constant (.int i) j pos) (tC (.int i)):=λ_ _ _ H _ I h=>wpAny_Constant_int ⟨.int i,H,I.tok _,⟨_,W⟩,h⟩
def WC{b j pos}:PE X (.Constant (.bool b) j pos) (tC (.bl b)):=λ_ _ _ H _ I h=>Constant_bool ⟨.bl b,H,I,W,h⟩
def SV{j pos}:PE X (.Constant .none j pos) (tC .non):=λ_ _ _ H _ I h=>Constant_none ⟨.non,H,I,W,h⟩
def SR{x j pos}:PE X (.Constant (.str x) j pos) (tC (.str x)):=λ_ _ _ H _ I h=>Calls.Constant_str ⟨.str x,H,I.tok _,⟨_,W⟩,h⟩
def Gl(X:Cx)(x:bw):Prop:=X.env.kindOf x=Y .globalImplicit
def zo(I:Inv X h_ σ H s)(B:Gl X x)(b:X.mg x=Y u)(h:Q u s)
  (hd:(x == ("__debug__":bw))=J):aA (aB X.prog X.w) X.A (eval (.Name x pos) X.env) Q E s:=
 wk I.ok.kind B (Calls.loadGlobal_global (by rw[I.ok.glob];exact I.mod.glob.keeps I.bk) b h) hd
def lD(I:Inv X h_ σ H s)(B:Gl X x)(e:X.mg x=L)(b:ei x=Y u)(h:Q u s)
  (c:x≠"__name__":=by decide)(hd:(x == ("__debug__":bw))=J:=by decide):aA (aB X.prog X.w) X.A (eval (.Name x pos) X.env) Q E s:=by
 obtain⟨a,h1,h2⟩:=I.mod.blt;exact wk I.ok.kind B (Calls.loadGlobal_builtin (by rw[I.ok.glob];exact I.mod.glob.keeps I.bk) e (by rw[I.ok.blt];exact h1.keeps I.bk) ((h2 x c).trans b) h) hd
def ES(B:Gl X x)(b:X.mg x=Y u)(r:RelV v u)(hd:(x == ("__debug__":bw))=J):PE X (.Name x pos) (tC v):=
 λ_ _ _ H _ I h=>zo I B b ⟨v,H,I,r,h⟩ hd
def OC(B:Gl X x)(e:X.mg x=L)(b:ei x=Y u)(r:RelV v u)(c:x≠"__name__")(hd:(x == ("__debug__":bw))=J):PE X (.Name x pos) (tC v):=
 λ_ _ _ H _ I h=>lD I B e b ⟨v,H,I,r,h⟩ c hd
variable{ta tb:TE}
def tB(t:TE):TT:=λσ H Q=>t σ H λx a=>∃c,x=.bl c/\Q c a
variable{rest:O br}
def YM(t u:TT):TT:=λσ H Q=>t σ H λc a=>if c=U then u σ a Q else Q J a
def tOr(t u:TT):TT:=λσ H Q=>t σ H λc a=>if c=U then Q U a else u σ a Q
def YG(t:TT):TT:=λσ H Q=>t σ H λc a=>Q (!c) a
def Om(ha:PT X a f):PW X (.BoolOp .And [a] pos) f:=by
 intro b h_ s σ H Q I h;refine isTrue_and (fT (ha h_ s σ H Q I h) λc s1 e=>?_)
 cases c with
 |true=>exact isTrue_and_nil e
 |false=>exact e
def Sy(ha:PT X a f):PW X (.BoolOp .Or [a] pos) f:=by
 intro b h_ s σ H Q I h;refine isTrue_or (fT (ha h_ s σ H Q I h) λc s1 e=>?_)
 cases c with
 |false=>exact isTrue_or_nil e
 |true=>exact e
def Sz(ha:PT X a t)(hb:PW X (.BoolOp .And (b::rest) pos) o):PW X (.BoolOp .And (a::b::rest) pos) (YM t o):=by
 intro g h_ s σ H Q I h;refine isTrue_and (fT (ha h_ s σ H _ I h) λc s1 j=>?_)
 obtain⟨d,e,f⟩:=j;cases c with
 |true=>exact hb g h_ s1 σ d Q e f
 |false=>exact⟨d,e,f⟩
def Wq(ha:PT X a t)(hb:PW X (.BoolOp .Or (b::rest) pos) o):PW X (.BoolOp .Or (a::b::rest) pos) (tOr t o):=by
 intro g h_ s σ H Q I h;refine isTrue_or (fT (ha h_ s σ H _ I h) λc s1 j=>?_)
 obtain⟨d,e,f⟩:=j;cases c with
 |true=>exact⟨d,e,f⟩
 |false=>exact hb g h_ s1 σ d Q e f
def SD(ha:PT X a e):PT X (.UnaryOp .Not a pos) (YG e):=by
 intro h_ s σ H Q I h;exact isTrue_not (ha h_ s σ H (λc b=>Q _ b) I h)
def V5(ta tb:TE):TE:=λσ H Q=>ta σ H λx a=>∃c,x=.bl c/\if c=U then tb σ a Q else Q (.bl J) a
def YF(ta tb:TE):TE:=λσ H Q=>ta σ H λx a=>∃c,x=.bl c/\if c=U then Q (.bl U) a else tb σ a Q
def SU{op}(h:PE X a t):PE X (.BoolOp op [a] pos) t:=λh_ s σ H Q I b=>BoolOp_one (h h_ s σ H Q I b)
def S4(ha:PE X a ta)(hb:PE X (.BoolOp .And (b::rest) pos) tb):PE X (.BoolOp .And (a::b::rest) pos) (V5 ta tb):=by
 intro h_ s σ H Q I h;refine BoolOp_and (fT (ha h_ s σ H _ I h) λv s1 j=>?_);obtain⟨x,e,f,g,d⟩:=j;obtain⟨c,rfl,d⟩:=d;cases g;refine de ?_
 cases c with
 |true=>exact hb h_ s1 σ e Q f d
 |false=>exact⟨.bl J,e,f,W,d⟩
def Wz(ha:PE X a ta)(hb:PE X (.BoolOp .Or (b::rest) pos) tb):PE X (.BoolOp .Or (a::b::rest) pos) (YF ta tb):=by
 intro h_ s σ H Q I h;refine BoolOp_or (fT (ha h_ s σ H _ I h) λv s1 j=>?_);obtain⟨x,e,f,g,d⟩:=j;obtain⟨c,rfl,d⟩:=d;cases g;refine de ?_
 cases c with
 |false=>exact hb h_ s1 σ e Q f d
 |true=>exact⟨.bl U,e,f,W,d⟩
def tIf(t:TT)(ta tb:TE):TE:=λσ H Q=>t σ H λc a=>if c=U then ta σ a Q else tb σ a Q
def Ke(o:PT X c t)(ha:PE X a ta)(hb:PE X b tb):PE X (.IfExp c a b pos) (tIf t ta tb):=by
 intro h_ s σ H Q I h;refine wpAny_IfExp (fT (o h_ s σ H _ I h) λd s1 j=>?_)
 obtain⟨e,f,g⟩:=j;cases d with
 |true=>exact ha h_ s1 σ e Q f g
 |false=>exact hb h_ s1 σ e Q f g
end
def pv(K:aE)(H:Hp)(a:aC)(xs:O V):Prop:=
 Rd H a (.lst xs)\/
  ∃(o:k8) (b:eb ag) (n:T),K.lookup a=Y o/\o.cls=.type "list"/\o.dict=L/\o.data=.seq b n/\b.size<=aD/\cH xs b.toList
def yv(K:aE)(H:Hp)(a:aC)(xs:O V):Prop:=
 Rd H a (.tup xs)\/
  ∃(o:k8) (b:eb ag) (n:T),K.lookup a=Y o/\o.cls=.type "tuple"/\o.data=.seq b n/\b.size<=aD/\cH xs b.toList
noncomputable def ZS:ag->a5 V
 |.none=>Y .non
 |.bool b=>Y (.bl b)
 |.int i _=>Y (.int i)
 |.str x _=>Y (.str x)
 |.bytes b _=>Y (.byt b)
 |.float b _=>Y (.flt b)
 |.ref a=>Y (.ref a)
 |.type n=>Y (.ty n)
 |_=>L
def RelV.abs(r:RelV x u):ZS u=Y x:=by
 cases x with
 |non=>cases r;rfl
 |bl _=>cases r;rfl
 |int _=>obtain⟨t,rfl⟩:=r;rfl
 |str _=>obtain⟨t,rfl⟩:=r;rfl
 |byt _=>obtain⟨t,rfl⟩:=r;rfl
 |flt _=>obtain⟨t,rfl⟩:=r;rfl
 |ref _=>cases r;rfl
 |ty _=>cases r;rfl
def RelV.inj(r:RelV x u)(q:RelV y u):x=y:=bb (r.abs.symm.trans q.abs)
theorem cH.inj:∀{xs b:O V}{us:O ag},cH xs us->cH b us->xs=b
 |_,_,_,.nil,.nil=>rfl
 |_,_,_,.cons r t,.cons a c=>by rw[r.inj a,cH.inj t c]
section
def pv.of{K:aE}(h:H a=Y (.lst xs)):pv K H a xs:=.inl (.inl h)
def Inv.list(I:Inv X h_ σ H s)(h:pv X.K H a xs):∃c:O ag,cH xs c/\PlainL s.heap a c.toArray/\Z xs<=aD:=by
 rcases h with h|⟨o,c,n,d,f,hd,g,b,r⟩
 .obtain⟨z,c,n,r,e⟩:=h.ok I.hok;exact⟨_,r,⟨_,n,e,W,W,W⟩,z⟩
 .refine⟨_,r,⟨o,n,I.Dy a o d,f,hd,by simpa using g⟩,?_⟩;have e:=r.length
  simp_all
def Inv.tuple(I:Inv X h_ σ H s)(h:yv X.K H a xs):∃c:O ag,cH xs c/\Il s.heap a c.toArray/\Z xs<=aD:=by
 rcases h with h|⟨o,c,n,d,f,g,b,r⟩
 .obtain⟨z,c,r,p⟩:=h.ok I.hok;exact⟨_,r,p,z⟩
 .refine⟨_,r,⟨o,I.Dy a o d,f,n,by simpa using g⟩,?_⟩;have e:=r.length
  simp_all
def Inv.qz(I:Inv X h_ σ H s)(h:pv X.K H a xs)(t:pv X.K H a u):xs=u:=by
 obtain⟨i,r,⟨o,n,e,_,_,d⟩,_⟩:=I.list h;obtain⟨b,f,⟨k,g,c,_,_,j⟩,_⟩:=I.list t;rw[e]at c;cases c;rw[d]at j
 injection j with d1 _
 have:i=b:=by simp_all
 subst this;exact r.inj f
def Inv.oQ(I:Inv X h_ σ H s)(h:yv X.K H a xs)(t:yv X.K H a u):xs=u:=by
 obtain⟨i,r,⟨o,e,_,n,d⟩,_⟩:=I.tuple h;obtain⟨b,f,⟨k,c,_,g,j⟩,_⟩:=I.tuple t;rw[e]at c;cases c;rw[d]at j
 injection j with d1 _
 have:i=b:=by simp_all
 subst this;exact r.inj f
end
noncomputable abbrev Cx.wz(X:Cx)(E:ag->ao->Prop):Cx:={ X with xe:=E }
abbrev Cx.VA(X:Cx):Cx:=X.wz λ_ _=>False
def Cx.Ok.wz{X:Cx}(ok:X.Ok)(E:ag->ao->Prop):(X.wz E).Ok:=
 ⟨ok.mod,ok.kind,ok.glob,ok.blt,ok.above,ok.inj,ok.has,ok.cab,ok.hd,ok.frames,ok.yP,ok.exf,ok.bs,ok.bsz,ok.noex,ok.exfs,ok.vy,ok.frf⟩
def Cx.Ok.ox{X:Cx}(ok:(X.wz E).Ok):X.Ok:=
 ⟨ok.mod,ok.kind,ok.glob,ok.blt,ok.above,ok.inj,ok.has,ok.cab,ok.hd,ok.frames,ok.yP,ok.exf,ok.bs,ok.bsz,ok.noex,ok.exfs,ok.vy,ok.frf⟩
section
variable{X:Cx}
def Inv.wz(I:Inv X h_ σ H s)(E:ag->ao->Prop):Inv (X.wz E) h_ σ H s:=⟨I.ok.wz E,I.os,I.bare,I.base,I.loc,I.cell,I.free,I.freeC,I.pin,I.hok,I.len⟩
def Inv.ox(I:Inv (X.wz E) h_ σ H s):Inv X h_ σ H s:=⟨I.ok.ox,I.os,I.bare,I.base,I.loc,I.cell,I.free,I.freeC,I.pin,I.hok,I.len⟩
def SP.ox{D:Ends}(h:SP (X.wz E) h_ D f c):SP X h_ D f c:=by
 cases f with
 |next=>obtain⟨a,b,I,q⟩:=h;exact⟨a,b,I.ox,q⟩
 |brk=>obtain⟨a,b,I,q⟩:=h;exact⟨a,b,I.ox,q⟩
 |cont=>obtain⟨a,b,I,q⟩:=h;exact⟨a,b,I.ox,q⟩
 |ret u=>obtain⟨v,a,b,I,r,q⟩:=h;exact⟨v,a,b,I.ox,r,q⟩
def B3.VA{st:O l9}(h:B3 X.VA st t):B3 X st t:=λh_ s σ H D I a=>
 c8 (h h_ s σ H D (I.wz _) a) (λ_ _ q=>q.ox) λ_ _ z=>ik z
end
section
variable{st:l9}{rest:O l9}{t u:TS}{te:TE}{pos:uo}
def V2:TS:=λD σ H=>D.nx σ H
def YD(t u:TS):TS:=λD σ H=>t { D with nx:=u D } σ H
def Ou:B3 X [] V2:=λ_ _ σ H _ I h=>PySem.wpAny_execs_nil ⟨σ,H,I,h⟩
def JX(h1:PS X st t)(h2:B3 X rest u):B3 X (st::rest) (YD t u):=by
 intro h_ s σ H D I h;refine wpAny_execs_cons (fT (h1 h_ s σ H _ I h) λf s1 q=>?_)
 cases f with
 |next=>
   obtain⟨a,b,c,q⟩:=q;exact h2 h_ s1 a b D c q
 |ret v=>exact q
 |brk=>exact q
 |cont=>exact q
def Inv.quiet(I:Inv X h_ σ H s):interactive X.env=J:=by simp[interactive,I.ok.kind]
def Qu(te:TE):TS:=λD σ H=>te σ H λ_ a=>D.nx σ a
def yY(f:PE X e te)(hs:f9 e L pos.line X.env=pure J):PS X (.Expr e pos) (Qu te):=by
 intro h_ s σ H D I h;exact wpAny_Expr_any (fT (f h_ s σ H _ I h) λv s1 ⟨x,a,b,d,c⟩=>⟨σ,a,b,c⟩) I.quiet hs
def YE(te:TE):TS:=λD σ H=>te σ H D.rt
def JY(f:PE X e te):PS X (.Return (Y e) pos) (YE te):=by
 intro h_ s σ H D I h;exact wpAny_Return_some (fT (f h_ s σ H _ I h) λv s1 ⟨x,a,b,c,d⟩=>⟨x,σ,a,b,c,d⟩)
def YI(c:TT)(t u:TS):TS:=λD σ H=>c σ H λb a=>if b=U then t D σ a else u D σ a
def Ws(o:PT X c y)(ha:B3 X a t)(hb:B3 X b u):PS X (.If c a b pos) (YI y t u):=by
 intro h_ s σ H D I h;refine wpAny_If (fT (o h_ s σ H _ I h) λd s1 j=>?_)
 obtain⟨e,f,g⟩:=j;cases d with
 |true=>exact ha h_ s1 σ e D f g
 |false=>exact hb h_ s1 σ e D f g
end
abbrev TG:=V->St->Hp->(St->Hp->Prop)->Prop
abbrev Rc:=O V->St->Hp->(St->Hp->Prop)->Prop
def PG(X:Cx)(target:br)(t:TG):Prop:=
 ∀(h_:O (aC×k8))(s:ao)(σ:St)(H:Hp)(v:V)(u:ag)(Q:St->Hp->Prop),Inv X h_ σ H s->RelV v u->t v σ H Q->
  aA (aB X.prog X.w) X.A (kl target X.env u) (λ_ c=>∃a b,Inv X h_ a b c/\Q a b) X.xe s
def VN(X:Cx)(B:O br)(t:Rc):Prop:=
 ∀(h_:O (aC×k8))(s:ao)(σ:St)(H:Hp)(vs:O V)(us:O ag)(Q:St->Hp->Prop),Inv X h_ σ H s->cH vs us->t vs σ H Q->
  aA (aB X.prog X.w) X.A (assignInOrder ((eH B X.env).map (·.2)) us) (λ_ c=>∃a b,Inv X h_ a b c/\Q a b) X.xe s
abbrev X3:=V->V->V->Hp->(Hp->Prop)->Prop
def Qa(X:Cx)(t:X3):Prop:=
 ∀(h_:O (aC×k8))(s:ao)(σ:St)(H:Hp)(o i v:V)(a b u:ag)(Q:Hp->Prop),Inv X h_ σ H s->RelV o a->RelV i b->RelV v u->t o i v H Q->
  aA (aB X.prog X.w) X.A (pb a b u) (λ_ d=>∃c,Inv X h_ σ c d/\Q c) X.xe s
section
variable{X:Cx}{pos:uo}
def kN(i:T):TG:=λv σ H Q=>Q (σ.set i (Y v)) H
def ER(B:X.N.Nodup)(hi:X.N[i]?=Y x)(b:Loc X.env.scope x)(hf:X.fn x=U\/X.env.scope.names.lookup x=Y .local):PG X (.Name x pos) (kN i):=by
 intro h_ s σ H v u Q I r h;exact lk (uF I B hi b r (λc a=>⟨_,H,a,h⟩) hf)
def HB:Rc:=λvs σ H Q=>vs=[]/\Q σ H
def xZ(t:TG)(u:Rc):Rc:=λvs σ H Q=>∃v r,vs=v::r/\t v σ H λa b=>u r a b Q
def EO:VN X [] HB:=by
 intro h_ s σ H vs us Q I r h;obtain⟨rfl,h⟩:=h;cases r;exact assignInOrder_nil ⟨σ,H,I,h⟩
theorem AM(h1:PG X e t)(h2:VN X es u)
  (hs:(eH (e::es) X.env).map (·.2)=kl e X.env::(eH es X.env).map (·.2):=by rfl):VN X (e::es) (xZ t u):=by
 intro h_ s σ H vs us Q I r h;obtain⟨v,g,rfl,h⟩:=h;cases r with
 |cons r b=>
   rw[hs];exact assignInOrder_cons (fT (h1 h_ s σ H _ _ _ I r h) λ_ s1 ⟨a,c,d,f⟩=>h2 h_ s1 a c _ _ Q d b f)
def Ls(K:aE)(n:T)(t:Rc):TG:=λv σ H Q=>∃a b,v=.ref a/\yv K H a b/\Z b=n/\t b σ H Q
def J8(y:X.calm=U)(h:VN X es t)
  (z:Z (eH es X.env)=n)(B:(eH es X.env).findIdx? (·.1)=L):PG X (.Tuple es k pos) (Ls X.K n t):=by
 intro h_ s σ H v u Q I r c;refine ac λ_ i=>?_;obtain⟨a,l,rfl,f,hl,c⟩:=c;cases r;obtain⟨m,d,p,j⟩:=I.tuple f;refine i ?_;refine assign_Tuple_tuple (I.ok.hd y) p (by simp[z,<-hl,d.length]) B λq g=>?_;exact h h_ _ σ H l _ Q (I.kept λb o e=>g b o (ba (hl9 e)) e) (by simpa using d) c
def Ux(to B:TE)(t:X3):TG:=λv σ H Q=>to σ H λo a=>B σ a λi c=>t o i v c λb=>Q σ b
def Ka(ho:PE X o to)(hi:PE X i F)(hs:Qa X t)
  (ha:∀v,kl (.Subscript o i pos) X.env v=(do
   let B <-holding [v] (eval o X.env);let C <-holding [v,B] (eval i X.env)
   standAt pos
   holding [v,B,C] (pb B C v)
   release [v,B,C] []):=by intro _;rfl):PG X (.Subscript o i pos) (Ux to F t):=by
 intro h_ s σ H v u Q I r h;rw[ha];refine wb9 (cx (fT (ho h_ s σ H _ I h) λB s1 z=>?_));obtain⟨x,a,b,c,d⟩:=z;refine wb9 (cx (fT (hi h_ s1 σ a _ b d) λC s2 D=>?_));obtain⟨y,m,e,f,g⟩:=D;exact wb9 (Gc (wb9 (cx (fT (hs h_ s2 σ m x y v B C u _ e c f r g) λ_ s3 ⟨j,k,l⟩=>wpAny_release ⟨σ,j,k,l⟩))))
def GL(b:TE)(g:TG):TS:=λD σ H=>b σ H λx a=>g x σ a D.nx
def Dc(f:PE X e o)(B:PG X tg g)(hs:hI [tg] e pos.line X.env=pure J)(t:hK [tg] e X.env=pure L)
  (h1:(eH [tg] X.env).map (·.2)=[kl tg X.env]):PS X (.Assign [tg] e pos) (GL o g):=by
 intro h_ s σ H D I h;refine wpAny_Assign_stores (fT (f h_ s σ H _ I h) λv s1 j=>?_) hs t;obtain⟨x,a,b,c,d⟩:=j;rw[h1];exact fT (B h_ s1 σ a x v _ b c d) λ_ s2 q=>q
def SG(B:X.N.Nodup)(hi:X.N[i]?=Y x)(o:Loc X.env.scope x)(t:PE X e u)(hs:f9 e (Y (.Name x pos')) pos.line X.env=pure J)(hf:X.fn x=U\/X.env.scope.names.lookup x=Y .local) :
  PS X (.Assign [.Name x pos'] e pos) (GL u (kN i)):=by
 intro h_ s σ H D I h;exact wpAny_Assign_Name (fT (t h_ s σ H _ I h) λv s1 ⟨y,a,b,c,d⟩=>uF b B hi o c (λs2 f=>⟨_,a,f,d⟩) hf) hs
end
section
end
structure It where
 go:T->Hp->Prop
 yld:T->Hp->V->Hp->Prop
 stop:T->Hp->Prop
def px(X:Cx)(h_:O (aC×k8))(H:Hp)(b:aC):Prop:=
 H b=L/\b≠X.env.locals/\b∉X.fs/\(b∈X.ex\/X.s₀.heap.objs.size<=b)/\(∀x c,X.env.cells.lookup x=Y c->c≠b)/\∀p∈X.pn++h_,p.1≠b
def Inv.tM(I:Inv X h_ σ H s)(hb:s.heap.objs.size<=b)(B:f b=L):px X h_ f b:=by
 refine⟨B,eN (bq I.lt hb),I.WN hb,.inr (ab I.sz hb),λx c e z=>?_,λp hp z=>(absurd (bq (hl9 (I.pin p hp).1) (by rwa[z])) (bJ _))⟩
 .obtain⟨v,q⟩:=I.cell x c e;exact absurd (bq q.lt (by rwa[z])) (bJ _)
structure Turn(P:cA)(w:cT)(K:aE)(tg:br)(J':It)(fp:O aC)(it:aC)(tn:T->cg->Prop):Prop where
 mem:it∈fp
 obj:∀i h,tn i h->∀b∈fp,∃o,h.get? b=Y o/\∀v,o.data≠.cell v
 keep:∀i h h',tn i h->(∀b∈fp,∀o,h.get? b=Y o->h'.get? b=Y o)->tn i h'
 item:∀(X:Cx),X.prog=P->X.w=w->X.K=K->X.calm=U->∀(i:T)(h_:O (aC×k8))(s:ao)(σ:St)(H:Hp)(E:ag->ao->Prop),Inv X h_ σ H s->(∀b∈fp,px X h_ H b)->tn i s.heap->J'.go i H->
  aA (aB P w) X.A (hL (.ref it)) (λr s1=>∃u,r=Y u/\
   aA (aB P w) X.A (hS tg (.ref it) u) (λ_ s2=>∃x H',Inv X h_ σ H' s2/\RelV x u/\J'.yld i H x H'/\tn (i+1) s2.heap/\∀b∈fp,H' b=L) E s1) E s
 done:∀(X:Cx),X.prog=P->X.w=w->X.K=K->X.calm=U->∀(i:T)(h_:O (aC×k8))(s:ao)(σ:St)(H:Hp)(E:ag->ao->Prop),Inv X h_ σ H s->(∀b∈fp,px X h_ H b)->tn i s.heap->J'.stop i H->
  aA (aB P w) X.A (hL (.ref it)) (λr s1=>r=L/\Inv X h_ σ H s1) E s
 self:∀(A:bZ)(i:T)(s:ao)(Q:ag->ao->Prop)(E:ag->ao->Prop),tn i s.heap->Q (.ref it) s->aA (aB P w) A (IJ (.ref it)) Q E s
abbrev TI:=St->Hp->(It->Hp->Prop)->Prop
def ZV(X:Cx)(h_:O (aC×k8))(σ:St)(tg:br)(R:It->Hp->Prop)(itv:ag)(s2:ao):Prop:=
 ∃(it:aC) (fp:O aC) (c:T->cg->Prop) (d:It) (a:Hp),itv=.ref it/\Inv X h_ σ a s2/\Turn X.prog X.w X.K tg d fp it c/\c 0 s2.heap/\(∀b∈fp,px X h_ a b)/\R d a
def PI(X:Cx)(tg iter:br)(b:TI):Prop:=
 ∀(h_:O (aC×k8))(s:ao)(σ:St)(H:Hp)(R:It->Hp->Prop),Inv X h_ σ H s->b σ H R->
  aA (aB X.prog X.w) X.A (eval iter X.env) (λv s1=>aA (aB X.prog X.w) X.A (IJ v) (ZV X h_ σ tg R) X.xe s1) X.xe s
theorem Bk{s:ao}(ho:s.heap.get? it=Y o)(b:o.cls=.type n)(hd:o.data=.fields vs)
  (c:["enumerate","zip","dict_itemiterator","dict_reverseitemiterator","odict_iterator","itertools.zip_longest","itertools.pairwise"].contains n=J)(B:Q () s):aA M A (hS tg (.ref it) u) Q E s:=by
 cases tg<;>first
  |exact wu9 B
  | (cases u<;>first
    |exact wu9 B
    | (refine wb9 (nS ho ?_)
       rw[b,hd];show aA M A (if(["enumerate","zip","dict_itemiterator","dict_reverseitemiterator","odict_iterator","itertools.zip_longest","itertools.pairwise"].contains n && vs[0]? == Y _)=U then _ else _) Q E s;rw[c4 (by grind)]
       exact wu9 B))
noncomputable def ZZ(K:aE)(a:aC):It:=
 ⟨λi H=>∃b x,pv K H a b/\b[i]?=Y x,λi H x c=>c=H/\∀b,pv K H a b->b[i]?=Y x,λi H=>∃b,pv K H a b/\Z b<=i⟩
noncomputable def ZY(K:aE)(a:aC):It:=
 ⟨λi H=>∃b x,yv K H a b/\b[i]?=Y x,λi H x c=>c=H/\∀b,yv K H a b->b[i]?=Y x,λi H=>∃b,yv K H a b/\Z b<=i⟩
noncomputable def X8(lo:dc)(n:T):It:=⟨λi _=>i<n,λi H x a=>a=H/\x=.int (lo+i),λi _=>n<=i⟩
def GF{K:aE}(a it:aC):Turn P w K tg (ZZ K a) [it] it (λi h=>h.IsListIter it a i) where
 mem:=by simp
 obj:=λi h st b hb=>by
  have e:b=it:=by simpa using hb
  subst e;obtain⟨o,e,c,d⟩:=st;exact⟨o,e,λv z=>by rw[d]at z;cases z⟩
 keep:=λi h Q st k=>st.at λo e=>k it (by simp) o e
 item:=by
  intro X l m n S i h_ s σ H E I hf st q;subst l m n;obtain⟨V,x,g,j⟩:=q;obtain⟨R,r,p,D⟩:=I.list g;obtain⟨u,F,G⟩:=r.get j;obtain⟨t,y,J',A,B,C⟩:=hf it (by simp);refine wpAny_pyNext_list_item st p.isList (x:=u) (by simpa using F) λQ f L'=>?_;have M:Inv X h_ σ H { s with heap:=Q }:=I.turned (t':=s.toks) (λb o hb e=>(L'.2 b hb).trans e) t y A B C;obtain⟨o,e,c,d⟩:=id f;exact⟨u,W,Bk (s:={ s with heap:=Q }) e c d iF ⟨x,H,M,G,⟨W,λys N=>by rw[I.qz N g];exact j⟩,f,λb hb=>(hf b hb).1⟩⟩
 done:=by
  intro X l m n S i h_ s σ H E I hf st q;subst l m n;obtain⟨V,g,j⟩:=q;obtain⟨R,r,p,D⟩:=I.list g;obtain⟨t,y,J',A,B,C⟩:=hf it (by simp);have hl:=r.length;exact wpAny_pyNext_list_end (I.ok.hd S) st p.isList (by simp;exact ab (af hl.symm) j) λQ O'=>⟨W,I.turned (t':=s.toks) (λb o hb e=>O' b o hb e) t y A B C⟩
 self:=λ_ _ _ _ _ st h=>wpAny_pyIter_listiter st h
def CG{K:aE}(a it:aC):Turn P w K tg (ZY K a) [it] it (λi h=>h.IsTupleIter it a i) where
 mem:=by simp
 obj:=λi h st b hb=>by
  have e:b=it:=by simpa using hb
  subst e;obtain⟨o,e,c,d⟩:=st;exact⟨o,e,λv z=>by rw[d]at z;cases z⟩
 keep:=λi h R st k=>st.at λo e=>k it (by simp) o e
 item:=by
  intro X l m n S i h_ s σ H E I hf st q;subst l m n;obtain⟨V,x,g,j⟩:=q;obtain⟨Q,r,p,D⟩:=I.tuple g;obtain⟨u,F,G⟩:=r.get j;obtain⟨t,y,J',A,B,C⟩:=hf it (by simp);refine wpAny_pyNext_tuple_item st (show s.heap.IsTuple a Q.toArray from p) (x:=u) (by simpa using F) λR f L'=>?_;have M:Inv X h_ σ H { s with heap:=R }:=I.turned (t':=s.toks) (λb o hb e=>(L'.2 b hb).trans e) t y A B C;obtain⟨o,e,c,d⟩:=id f;exact⟨u,W,Bk (s:={ s with heap:=R }) e c d iF ⟨x,H,M,G,⟨W,λys N=>by rw[I.oQ N g];exact j⟩,f,λb hb=>(hf b hb).1⟩⟩
 done:=by
  intro X l m n S i h_ s σ H E I hf st q;subst l m n;obtain⟨V,g,j⟩:=q;obtain⟨Q,r,p,D⟩:=I.tuple g;obtain⟨t,y,J',A,B,C⟩:=hf it (by simp);have hl:=r.length;exact wpAny_pyNext_tuple_end (I.ok.hd S) st (show s.heap.IsTuple a Q.toArray from p) (by simp;exact ab (af hl.symm) j) λR O'=>⟨W,I.turned (t':=s.toks) (λb o hb e=>O' b o hb e) t y A B C⟩
 self:=λ_ _ _ _ _ st h=>wpAny_pyIter_tupleiter st h
def CH{K:aE}(it:aC)(lo:dc)(n:T):Turn P w K tg (X8 lo n) [it] it (λi h=>IsRangeIter h it (lo+(i:T) * 1) ((n:dc) - (i:T)) 1) where
 mem:=by simp
 obj:=λi h st b hb=>by
  have e:b=it:=by simpa using hb
  subst e
  exact⟨_,st,λv z=>by
   have u:Data.fields _=Data.cell v:=z
   cases u⟩
 keep:=λi h D st k=>k it (by simp) _ st
 item:=by
  intro X c d f F i h_ s σ H E I hf st g;subst c d f;obtain⟨j,l,x,m,p,q⟩:=hf it (by simp);have C:=Walks.range (prog:=X.prog) (w:=X.w) (I.ok.hd F) it lo 1 n;refine C.item i s _ _ g st λv D r y a G=>?_;obtain⟨t,rfl⟩:=y;have A:Inv X h_ σ H { s with heap:=D,toks:=r }:=I.turned (λb o hb e=>G b o (by simpa using hb) e) j l m p q;refine⟨_,W,Bk (s:={ s with heap:=D,toks:=r }) (n:="range_iterator") a W rfl iF ⟨.int (lo+i),H,A,⟨t,?_⟩,⟨W,W⟩,a,λb hb=>(hf b hb).1⟩⟩;rw[Int.mul_one]
 done:=by
  intro X c d f F i h_ s σ H E I hf st g;subst c d f;obtain⟨j,l,x,m,p,q⟩:=hf it (by simp);exact PySem.wpAny_pyNext_range_end (I.ok.hd F) st (by have:n<=i:=g;omega) λD B=>⟨W,I.turned (t':=s.toks) (λb o hb e=>B b o hb e) j l m p q⟩
 self:=λ_ _ _ _ _ st h=>PySem.wpAny_pyIter_rangeiter st h
section
variable{X:Cx}
def Xm(K:aE)(tl:TE):TI:=λσ H R=>tl σ H λx b=>∃a,x=.ref a/\(∃c,pv K b a c)/\R (ZZ K a) b
def Zt(K:aE)(tl:TE):TI:=λσ H R=>tl σ H λx b=>∃a,x=.ref a/\(∃c,yv K b a c)/\R (ZY K a) b
def EN(hl:PE X l tl):PI X tg l (Xm X.K tl):=by
 intro h_ s σ H R I h;refine fT (hl h_ s σ H _ I h) λv s1 y=>?_;obtain⟨x,d,c,f,g⟩:=y;refine ac λ_ m=>?_;obtain⟨a,rfl,⟨r,i⟩,q⟩:=g;cases f;obtain⟨n,j,p,k⟩:=c.list i;refine m ?_;refine kr p.isList ?_;refine⟨_,_,_,_,d,W,c.kept λb o e=>hp9 _ e,GF a _,⟨_,ax _ W,W,W⟩,λb hb=>?_,q⟩;have e:b=s1.heap.objs.size:=by simpa using hb
 subst e;exact c.tM (aw _) (c.hok.fresh (aw _))
def J4(hl:PE X l tl):PI X tg l (Zt X.K tl):=by
 intro h_ s σ H R I h;refine fT (hl h_ s σ H _ I h) λv s1 y=>?_;obtain⟨x,d,c,f,g⟩:=y;refine ac λ_ m=>?_;obtain⟨a,rfl,⟨r,i⟩,q⟩:=g;cases f;obtain⟨n,j,p,k⟩:=c.tuple i;refine m ?_;refine kv (p) ?_;refine⟨_,_,_,_,d,W,c.kept λb o e=>hp9 _ e,CG a _,⟨_,ax _ W,W,W⟩,λb hb=>?_,q⟩;have e:b=s1.heap.objs.size:=by simpa using hb
 subst e;exact c.tM (aw _) (c.hok.fresh (aw _))
def AI{lo:dc}(I:Inv X h_ σ H s)(h1:-(2 ^ 62)<=lo)(h2:lo<2 ^ 62)(h3:-(2 ^ 62)<=hi)(B:hi<2 ^ 62)
  (q:R (X8 lo (hi - lo).toNat) H):aA (aB X.prog X.w) X.A (IJ (.ref s.heap.objs.size)) (ZV X h_ σ tg R) E { s with heap:=s.heap.push { cls:=.type "range",data:=.fields #[.int lo t,.int hi u,.int 1 v] },toks:=c }:=by
 refine wpAny_pyIter_range (PySem.IsRange.new ..) (small_one h1 h2 h3 B) ?_;have a:Inv X h_ σ H { s with heap:=s.heap.push { cls:=.type "range",data:=.fields #[.int lo t,.int hi u,.int 1 v] },toks:=c }:=I.kept λb o e=>hp9 _ e
 refine⟨(s.heap.push { cls:=.type _,data:=.fields _ }).objs.size,[(s.heap.push { cls:=.type _,data:=.fields _ }).objs.size],_,_,H,W,
  a.kept λb o e=>hp9 _ e,CH _ lo _,?_,λb hb=>?_,q⟩
 .have d:lo+((0:T)) * 1=lo:=by simp
  have f:(((hi - lo).toNat)) - ((0:T))=PySem.Builtin.Range.rangeSize lo hi 1:=by rw[rangeSize_one];split<;>omega
  rw[d,f];exact ax _ W
 .have e:b=(s.heap.push { cls:=.type "range",data:=.fields #[.int lo t,.int hi u,.int 1 v] }).objs.size:=by simpa using hb
  subst e;exact a.tM (aw _) (a.hok.fresh (aw _))
def Xl(B:TA):TI:=λσ H R=>B σ H λvs a=>∃j:dc,vs=[.int j]/\-(2 ^ 62)<=j/\j<2 ^ 62/\R (X8 0 j.toNat) a
def Xk(B:TA):TI:=λσ H R=>B σ H λvs a=>∃i j:dc,vs=[.int i,.int j]/\(-(2 ^ 62)<=i/\i<2 ^ 62/\-(2 ^ 62)<=j/\j<2 ^ 62)/\R (X8 i (j - i).toNat) a
def Hh(B:Gl X "range")(e:X.mg "range"=L)(ha:PA X [a] o)(hs:aL [a] X.env=[(J,eval a X.env)]):PI X tg (.Call (.Name "range" p) [a] [] pos) (Xl o):=by
 intro h_ s σ H R I h;refine pR (lD I B e boot_range (cD (fT (ha _ h_ s σ H _ I h) λus s1 l=>?_) hs W));obtain⟨vs,i,c,d,b⟩:=l;obtain⟨j,rfl,b,f,q⟩:=b;cases d with
 |cons r g=>
   cases g;obtain⟨t,rfl⟩:=r;exact call_range_1 (AI c (by simp) (by simp) b f (by simpa using q))
theorem Hg(o:Gl X "range")(u:X.mg "range"=L)(ha:PA X [a,b] y)(hs:aL [a,b] X.env=[(J,eval a X.env),(J,eval b X.env)])(B:aL [b] X.env=[(J,eval b X.env)]) :
  PI X tg (.Call (.Name "range" p) [a,b] [] pos) (Xk y):=by
 intro h_ s σ H R I h;refine pR (lD I o u boot_range (cD (fT (ha pos h_ s σ H _ I h) λus s1 ⟨vs,n,f,r1,c⟩=>?_) (by rw[hs,B]) (by rw[B];rfl)));obtain⟨i,j,e,⟨c,g,k,l⟩,q⟩:=c;subst e
 cases r1 with
 |cons r d=>
   cases d with
   |cons m d=>
     cases d;obtain⟨t,rfl⟩:=r;obtain⟨v,rfl⟩:=m;exact call_range_2 (AI f c g k l q)
def YJ(o:TI)(g:TG)(tb:TS):TS:=λD σ H=>o σ H λf c=>∃d:T->T->St->Hp->Prop,(∃m,d 0 m σ c)/\∀i m σ H,d i m σ H->
 (f.stop i H/\D.nx σ H)\/(f.go i H/\∃N:St->Hp->Prop,(∀a e,N a e->∃b,b<m/\d (i+1) b a e)/\∀x e,f.yld i H x e->g x σ e λh j=>tb { D with nx:=N,ct:=N,bk:=D.nx } h j)
noncomputable def mr(fp:O aC)(h:cg):O (aC×k8):=fp.filterMap λb=>(h.get? b).map λo=>(b,o)
def nv{h:cg}(hb:b∈fp)(e:h.get? b=Y o):(b,o)∈mr fp h:=qV.mpr ⟨b,hb,by rw[e];rfl⟩
def xI(hp:p∈mr fp h):p.1∈fp/\h.get? p.1=Y p.2:=by
 obtain⟨b,hb,e⟩:=qV.mp hp
 cases q:h.get? b with
 |none=>rw[q]at e;cases e
 |some o=>
   rw[q]at e;have a :=bb e;subst a;exact⟨hb,q⟩
def Inv.pinned(I:Inv X h_ σ H s)(hf:∀b∈fp,px X h_ H b)(ho:∀b∈fp,∃o,s.heap.get? b=Y o/\∀v,o.data≠.cell v):Inv X (h_++mr fp s.heap) σ H s:=
 I.qv λp hp=>(aR.mp hp).elim (λz=>I.pin p (aF _ z)) λz=>by
  refine ac λ_ h=>?_;obtain⟨hb,e⟩:=xI z;obtain⟨a,c,f,_⟩:=hf _ hb;obtain⟨o,g,d⟩:=ho _ hb
  refine h ?_;simp_all
def Inv.mL(I:Inv X (h_++pl) σ H s):Inv X h_ σ H s:=I.qv λp hp=>I.pin p (aF _ (bp _ hp))
theorem JZ{iter:br}{tb:TS}(hp:Ij (aB X.prog X.w) X.A X.env X.xe)(hc:X.calm=U)(hi:PI X tg iter wi)(c0:PG X tg g)(hb:B3 X body tb)
  (hs:∀x,er iter X.env x=pure x):PS X (.For tg iter body [] pos) (YJ wi g tb):=by
 intro h_ s σ H D I h;refine wpAny_For (fT (hi h_ s σ H _ I h) λv s1 h1=>fT h1 λitv s2 h2=>?_) hs;refine ac λ_ K=>?_;obtain⟨it,fp,tn,J',H2,rfl,S,T',E,O',e1,⟨m0,U'⟩,turn⟩:=h2;refine K ?_;have c:∀{H':Hp},(∀b∈fp,H' b=L)->∀b∈fp,px X h_ H' b:=λV b hb=>⟨V b hb,(O' b hb).2⟩
 refine codeAny_forLoop_any (λn s'=>∃i j H',Inv X h_ j H' s'/\tn i s'.heap/\(∀b∈fp,H' b=L)/\e1 i n j H') ?_ m0 ⟨0,σ,H2,S,E,λb hb=>(O' b hb).1,U'⟩;rintro n s3 ⟨i,k,C,P,y,z,e2⟩
 rcases turn i n k C e2 with⟨stop,qn⟩|⟨go,N,hN,step⟩
 .refine l8 hp (fT (T'.done X W rfl rfl hc i h_ s3 k C _ P (c z) y stop) λr s4 q0=>?_);obtain⟨F,I4⟩:=q0;subst F;exact PySem.wpAny_execs_nil ⟨k,C,I4,qn⟩
 .refine l8 hp (fT (T'.item X W rfl rfl hc i h_ s3 k C _ P (c z) y go) λr s4 z0=>?_);obtain⟨u,F,h4⟩:=z0;subst F;refine l8 hp (fT h4 λ_ Q z1=>?_);obtain⟨x,R,I5,r5,y5,t,G⟩:=z1;refine l8 hp (fT (c0 _ Q k R x u _ (I5.pinned (c G) (T'.obj _ _ t)) r5 (step x R y5)) λ_ s6 z7=>?_);obtain⟨L',H6,I6,q6⟩:=z7;refine l8 hp (fT (hb _ s6 L' H6 _ I6 q6) λf M q=>?_)
  have again:∀{a:St}{l:Hp},Inv X (h_++mr fp _) a l M->N a l->∃m,m<n/\∃i j H',Inv X h_ j H' M/\tn i _/\(∀b∈fp,H' b=L)/\e1 i m j H':=λ{a l}p B=>by
   obtain⟨m',hm,w7⟩:=hN a l B;refine⟨m',hm,_,a,l,p.mL,T'.keep _ _ _ t λb hb o e=>(p.pin _ (aF _ (aF _ (nv hb e)))).1,λb hb=>?_,w7⟩;obtain⟨o,e,d⟩:=T'.obj _ _ t b hb;exact(p.pin _ (aF _ (aF _ (nv hb e)))).2.1
  cases f with
  |next=>obtain⟨a,l,p,B⟩:=q;exact again p B
  |cont=>obtain⟨a,l,p,B⟩:=q;exact again p B
  |brk=>obtain⟨a,l,p,q⟩:=q;exact⟨a,l,p.mL,q⟩
  |ret v=>refine ac λ_ K=>?_;obtain⟨x7,a,l,p,r7,q⟩:=q;refine K ?_;exact⟨x7,a,l,p.mL,r7,q⟩
end
abbrev R2:=V->V->Hp->VK->Prop
def iA(X:Cx)(f:ag->ag->Af ag)(r:R2):Prop:=
 ∀(h_:O (aC×k8))(s:ao)(σ:St)(H:Hp)(x y:V)(v u:ag)(Q:VK),Inv X h_ σ H s->RelV x v->RelV y u->r x y H Q->
  aA (aB X.prog X.w) X.A (f v u) (EP X h_ σ Q) X.xe s
def ZT(X:Cx)(f:ag->Af ag)(r:V->Hp->VK->Prop):Prop:=
 ∀(h_:O (aC×k8))(s:ao)(σ:St)(H:Hp)(x:V)(v:ag)(Q:VK),Inv X h_ σ H s->RelV x v->r x H Q->
  aA (aB X.prog X.w) X.A (f v) (EP X h_ σ Q) X.xe s
def iB(X:Cx)(f:ag)(r:O V->Hp->VK->Prop):Prop:=
 ∀(h_:O (aC×k8))(s:ao)(σ:St)(H:Hp)(a:O V)(us:O ag)(Q:VK),Inv X h_ σ H s->cH a us->r a H Q->
  aA (aB X.prog X.w) X.A (call f us) (EP X h_ σ Q) X.xe s
def ZU(X:Cx)(r:V->Hp->(a7->Hp->Prop)->Prop):Prop:=
 ∀(h_:O (aC×k8))(s:ao)(σ:St)(H:Hp)(x:V)(v:ag)(Q:a7->Hp->Prop),Inv X h_ σ H s->RelV x v->r x H Q->
  aA (aB X.prog X.w) X.A (truthy v) (TP X h_ σ Q) X.xe s
def V0(r:R2)(B tb:TE):TE:=λσ H Q=>B σ H λx a=>tb σ a λy b=>r x y b Q
def tUn(r:V->Hp->VK->Prop)(B:TE):TE:=λσ H Q=>B σ H λx a=>r x a Q
def rI(C:dc->dc->Prop)(g:dc->dc->V):R2:=λx y H Q=>∃i j,x=.int i/\y=.int j/\C i j/\Q (g i j) H
def Iz(g:dc->dc->V):R2:=λx y H Q=>∃i j,x=.int i/\y=.int j/\Q (g i j) H
def rU(g:dc->V):V->Hp->VK->Prop:=λx H Q=>∃i,x=.int i/\Q (g i) H
section
variable{X:Cx}{tb:TE}
def Vc(ha:PE X a C)(hb:PE X b tb){h_:O (aC×k8)}{s:ao}{σ:St}{H:Hp}{R:V->V->Hp->Prop}(I:Inv X h_ σ H s)
  (h:C σ H λx z=>tb σ z λy o=>R x y o){Q:ag->ao->Prop}{f:ag->ag->Af ag}
  (hf:∀v u s2 x y o,Inv X h_ σ o s2->RelV x v->RelV y u->R x y o->aA (aB X.prog X.w) X.A (f v u) Q X.xe s2) :
  aA (aB X.prog X.w) X.A (eval a X.env) (λv t=>aA (aB X.prog X.w) X.A (eval b X.env) (λu B=>aA (aB X.prog X.w) X.A (f v u) Q X.xe B) X.xe t) X.xe s:=by
 refine fT (ha h_ s σ H _ I h) λv s1 l=>?_;obtain⟨x,z,c,d,e⟩:=l;exact fT (hb h_ s1 σ z _ c e) λu s2 ⟨y,o,g,i,j⟩=>hf v u s2 x y o g d i j
def WA(ho:iA X (ej op) r)(ha:PE X a f)(hb:PE X b tb):PE X (.BinOp a op b pos) (V0 r f tb):=by
 intro h_ s σ H Q I h;exact wpAny_BinOp (Vc ha hb I h λv u s2 x y g c d e q=>ho h_ s2 σ g x y v u Q c d e q)
def Wy(ho:ZT X (unaryOp op) r)(ha:PE X a f):PE X (.UnaryOp op a pos) (tUn r f):=by
 intro h_ s σ H Q I h;exact UnaryOp_ (fT (ha h_ s σ H _ I h) λv s1 ⟨x,b,c,d,e⟩=>ho h_ s1 σ b x v Q c d e)
def WK{f:ag->ag->Af ag}{C:dc->dc->Prop}{g:dc->dc->dc}
  (rule:∀(i j:dc)(t u:Ck)(s:ao)(Q:ag->ao->Prop)(E:ag->ao->Prop),C i j->Q (.int (g i j) s.toks) { s with toks:=s.toks+1 }->aA (aB X.prog X.w) X.A (f (.int i t) (.int j u)) Q E s) :
  iA X f (rI C λi j=>.int (g i j)):=by
 intro h_ s σ H x y v u Q I a b h;obtain⟨i,j,rfl,rfl,c,q⟩:=h;obtain⟨t,rfl⟩:=a;obtain⟨d,rfl⟩:=b;exact rule i j t d s _ _ c ⟨.int _,H,I.tok _,⟨_,W⟩,q⟩
def OQ{f:ag->ag->Af ag}{g:dc->dc->dc}
  (rule:∀(i j:dc)(t u:Ck)(s:ao)(Q:ag->ao->Prop)(E:ag->ao->Prop),Q (.int (g i j) s.toks) { s with toks:=s.toks+1 }->aA (aB X.prog X.w) X.A (f (.int i t) (.int j u)) Q E s) :
  iA X f (Iz λi j=>.int (g i j)):=by
 intro h_ s σ H x y v u Q I a b h;obtain⟨i,j,rfl,rfl,q⟩:=h;obtain⟨t,rfl⟩:=a;obtain⟨c,rfl⟩:=b;exact rule i j t c s _ _ ⟨.int _,H,I.tok _,⟨_,W⟩,q⟩
def OR{f:ag->ag->Af ag}{g:dc->dc->a7}
  (rule:∀(i j:dc)(t u:Ck)(s:ao)(Q:ag->ao->Prop)(E:ag->ao->Prop),Q (.bool (g i j)) s->aA (aB X.prog X.w) X.A (f (.int i t) (.int j u)) Q E s) :
  iA X f (Iz λi j=>.bl (g i j)):=by
 intro h_ s σ H x y v u Q I a b h;obtain⟨i,j,rfl,rfl,q⟩:=h;obtain⟨t,rfl⟩:=a;obtain⟨c,rfl⟩:=b;exact rule i j t c s _ _ ⟨.bl _,H,I,W,q⟩
def Qg(i j:dc):Prop:=0<j/\j<1073741824
def MC(i j:dc):Prop:=0<=j/\j<=1000000/\i.natAbs<2 ^ 64
def Ie(i j:dc):Prop:=(-(2 ^ 64)<i/\i<2 ^ 64)\/(-(2 ^ 64)<j/\j<2 ^ 64)
def Ie.ok(h:Ie i j):IntMulOk i j:=by
 rcases h with⟨h1,h2⟩|⟨h1,h2⟩
 .exact .of_left (intBits_le_64 h1 h2)
 .exact .of_right (intBits_le_64 h1 h2)
def CF(k:T):(0:dc)<=2 ^ k:=by
 exact Int.natCast_nonneg _
def Ts:iA X (ej .Add) (Iz λi j=>.int (i+j)):=OQ λ_ _ _ _ _ _ _ q=>add_int q
def S5:iA X (ej .Sub) (Iz λi j=>.int (i - j)):=OQ λ_ _ _ _ _ _ _ q=>sub_int q
def Ta:iA X (ej .Mult) (rI Ie λi j=>.int (i * j)):=WK λ_ _ _ _ _ _ _ a q=>mul_int q a.ok
def OM:iA X (ej .FloorDiv) (rI Qg λi j=>.int (i / j)):=WK λi j _ _ _ _ _ a q=>by
 have h1 :=a.1;have h2 :=a.2;exact floordiv_int (Int.ne_of_gt h1) (by rwa[yI i (tD h1)]) (.inl (PyProof.noPylong_small (by omega)))
def Tc:iA X (ej .Mod) (rI (λ_ j=>0<j) λi j=>.int (i % j)):=WK λi j _ _ _ _ _ a q=>by
 exact mod_int' (Int.ne_of_gt a) (by rwa[Int.fmod_eq_emod_of_nonneg i (tD a)])
def S7:iA X (ej .LShift) (rI MC λi j=>.int (i * 2 ^ j.toNat)):=WK λ_ _ _ _ _ _ _ a q=>lshift_int_small a.1 a.2.1 a.2.2 q
def S6:iA X (ej .RShift) (rI (λ_ j=>0<=j) λi j=>.int (i / 2 ^ j.toNat)):=WK λi j _ _ _ _ _ a q=>
 rshift_int a (by rwa[yI i (CF _)])
def Tr:iA X (ej .BitAnd) (Iz λi j=>.int (uu i j)):=OQ λ_ _ _ _ _ _ _ q=>and_int q
def WE:iA X (ej .BitOr) (Iz λi j=>.int (wm i j)):=OQ λ_ _ _ _ _ _ _ q=>or_int q
def unI{f:ag->Af ag}{g:dc->dc}
  (rule:∀(i:dc)(t:Ck)(s:ao)(Q:ag->ao->Prop)(E:ag->ao->Prop),Q (.int (g i) s.toks) { s with toks:=s.toks+1 }->aA (aB X.prog X.w) X.A (f (.int i t)) Q E s) :
  ZT X f (rU λi=>.int (g i)):=by
 intro h_ s σ H x v Q I a h;obtain⟨i,rfl,q⟩:=h;obtain⟨t,rfl⟩:=a;exact rule i t s _ _ ⟨.int _,H,I.tok _,⟨_,W⟩,q⟩
def Rr:ZT X (unaryOp .USub) (rU λi=>.int (-i)):=unI λ_ _ _ _ _ q=>neg_int q
end
section
variable{b:br}{ta tb tc:TE}
def DM(I:Inv X h_ σ H s)(q:Q (.bl k) H)(e:k=k'):EP X h_ σ Q (.bool k') s:=by
 subst e;exact⟨.bl k,H,I,W,q⟩
def WG:iA X (dj .Lt) (Iz λi j=>.bl (decide (i<j))):=OR λ_ _ _ _ _ _ _ q=>nK q
def WH:iA X (dj .LtE) (Iz λi j=>.bl (decide (i<=j))):=OR λ_ _ _ _ _ _ _ q=>le_int q
def WI:iA X (dj .Gt) (Iz λi j=>.bl (decide (j<i))):=OR λ_ _ _ _ _ _ _ q=>gt_int q
def WJ:iA X (dj .GtE) (Iz λi j=>.bl (decide (j<=i))):=OR λ_ _ _ _ _ _ _ q=>ge_int q
def Hj:iA X (dj .In) (λx y H Q=>∃i j,x=.str i/\y=.str j/\Q (.bl (!(iL j i 0 j.length 1).isEmpty)) H):=by
 intro h_ s σ H x y v u Q I a c h;obtain⟨i,j,rfl,rfl,q⟩:=h;obtain⟨t,rfl⟩:=a;obtain⟨d,rfl⟩:=c;exact in_str (DM I q W)
def Tg:iA X (dj .Is) (λx y H Q=>y=.non/\Q (.bl (decide (x=.non))) H):=by
 intro h_ s σ H x y v u Q I a c h;obtain⟨rfl,q⟩:=h;cases c;refine is_none_gen (DM I q ?_)
 cases x<;>first
  |(cases a;rfl)
  |(obtain⟨t,rfl⟩:=a;rfl)
def OH:iA X (dj .IsNot) (λx y H Q=>y=.non/\Q (.bl (!decide (x=.non))) H):=by
 intro h_ s σ H x y v u Q I a c h;obtain⟨rfl,q⟩:=h;cases c;refine isnot_none_gen (DM I q ?_)
 cases x<;>first
  |(cases a;rfl)
  |(obtain⟨t,rfl⟩:=a;rfl)
def OA(ho:iA X (dj op) r)(ha:PE X a ta)(hb:PE X b tb)(B:gv op b=J):PE X (.Compare a [op] [b] pos) (V0 r ta tb):=by
 intro h_ s σ H Q I h;exact wpAny_Compare1 (Vc ha hb I h λv u s2 x y f c d e q=>ho h_ s2 σ f x y v u Q c d e q) B
def Qt(t:TE):TT:=λσ H Q=>t σ H λx a=>∃k,x=.bl k/\Q k a
def Ot(ho:iA X (dj op) r)(ha:PE X a ta)(hb:PE X b tb)(B:gv op b=J):PT X (.Compare a [op] [b] pos) (Qt (V0 r ta tb)):=by
 intro h_ s σ H Q I h
 refine wpAny_isTrue_Compare1 (fT (ha h_ s σ H _ I h) λv s1 ⟨x,d,f,g,i⟩=>fT (hb h_ s1 σ d _ f i) λu s2 ⟨y,t,j,l,m⟩=>
  fT (ho h_ s2 σ t x y v u _ j g l m) λc s3 ⟨z,n,o,p,k,e,q⟩=>?_) B
 subst e;cases p;exact de ⟨n,o,q⟩
def CJ(r B:R2)(ta tb tc:TE):TE:=λσ H Q=>ta σ H λx c=>tb σ c λy e=>r x y e λz a=>∃k,z=.bl k/\
 (if k=U then tc σ a λd f=>B y d f Q else Q (.bl J) a)
theorem Kg(ho:iA X (dj op) r)(B:iA X (dj F) P)(ha:PE X a ta)(hb:PE X b tb)(R:PE X c tc)
  (S:mC [op,F] [b,c]=J):PE X (.Compare a [op,F] [b,c] pos) (CJ r P ta tb tc):=by
 intro h_ s σ H Q I h
 refine Compare_chain (fT (ha h_ s σ H _ I h) λv s1 ⟨x,j,l,r1,m⟩=>chain_link (fT (hb h_ s1 σ j _ l m) λu s2 ⟨y,D,n,r2,o⟩=>
  fT (ho h_ s2 σ D x y v u _ n r1 r2 o) λd s3 ⟨z,f,g,r3,k,e,i⟩=>?_)) S
 subst e;cases r3;refine de ?_
 cases k with
 |false=>exact ite_ff ⟨.bl J,f,g,W,i⟩
 |true=>exact ite_tt (chain_last (fT (R h_ s3 σ f _ g i) λp q ⟨t,E,w,A,C⟩=>B h_ q σ E y t u p Q w r2 A C))
theorem JW(ho:iA X (dj op) r)(B:iA X (dj P) R)(ha:PE X a ta)(hb:PE X b tb)(S:PE X c tc)
  (hm:mC [op,P] [b,c]=J):PT X (.Compare a [op,P] [b,c] pos) (Qt (CJ r R ta tb tc)):=by
 intro h_ s σ H Q I h
 refine isTrue_chain (fT (ha h_ s σ H _ I h) λv s1 ⟨x,j,l,r1,m⟩=>test_link (fT (hb h_ s1 σ j _ l m) λu s2 ⟨y,V,n,r2,o⟩=>
  fT (ho h_ s2 σ V x y v u _ n r1 r2 o) λd s3 ⟨z,f,g,r3,k,e,i⟩=>?_)) hm
 subst e;cases r3;refine de ?_
 cases k with
 |false=>
   obtain⟨k',p,q⟩:=i;cases p;exact ite_ff ⟨f,g,q⟩
 |true=>
   refine ite_tt (test_last (fT (S h_ s3 σ f _ g i) λt w ⟨A,H4,C,D,E⟩=>fT (B h_ w σ H4 y A u t _ C r2 D E) λd' M ⟨N,F,G,J',k2,K,L'⟩=>?_));subst K;cases J';exact de ⟨F,G,L'⟩
def Vk(K:aE)(x:V)(H:Hp)(k:a7):Prop:=
 match x with
 |.non=>k=J
 |.bl b=>k=b
 |.int i=>k=(i != 0)
 |.str y=>y.length<=aD/\k=((y.length:dc) != 0)
 |.byt y=>y.size<=aD/\k=((y.size:dc) != 0)
 |.ref p=>(∃a,pv K H p a/\k=!a.isEmpty)\/(∃a,yv K H p a/\k=!a.isEmpty)\/∃c,H p=Y (.dK c)/\k=!c.isEmpty
 |_=>False
def DE{κ:Type}{c:O (κ×V)}{vs:O (κ×ag)}(r:KV c vs):(!vs.isEmpty)=!c.isEmpty:=by
 cases r<;>rfl
def vo(r:cH xs c):(!c.toArray.isEmpty)=!xs.isEmpty:=by
 cases r<;>simp
def rX:(aD:T)<2 ^ 63:=iF
def Jf:ZU X (λx H Q=>∃k,Vk X.K x H k/\Q k H):=by
 intro h_ s σ H x v Q I c h;obtain⟨k,e,q⟩:=h;have u :=cY
 cases x with
 |non=>
   cases c;subst e;exact truthy_none ⟨H,I,q⟩
 |bl b=>
   cases c;subst e;exact de ⟨H,I,q⟩
 |int i=>
   obtain⟨t,rfl⟩:=c;subst e;exact PySem.P.truthy_int ⟨H,I,q⟩
 |str y=>
   obtain⟨t,rfl⟩:=c;obtain⟨f,rfl⟩:y.length<=aD/\k=((y.length:dc) != 0):=e;exact PySem.P.truthy_str (by omega) ⟨H,I.tok _,q⟩
 |byt y=>
   obtain⟨t,rfl⟩:=c;obtain⟨f,rfl⟩:y.size<=aD/\k=((y.size:dc) != 0):=e;exact PySem.W.truthy_bytes (ab f iF) ⟨H,I.tok _,q⟩
 |ref p=>
   cases c;have a :=e
   rcases a with⟨o,d,a⟩|⟨o,d,a⟩|⟨n,d,a⟩
   .subst a;obtain⟨l,r,pl,g⟩:=I.list d;have hlen:=r.length;exact wpAny_truthy_list pl.isList (by simp only[aZ];omega) ⟨H,I.tok _,by rwa[vo r]⟩
   .subst a;obtain⟨l,r,pl,g⟩:=I.tuple d;have hlen:=r.length;exact truthy_tuple pl (by simp only[aZ];omega) ⟨H,I.tok _,by rwa[vo r]⟩
   .subst a;obtain⟨g,j,vs,r,m⟩:n.length<=aD/\(p == et)=J/\∃vs,KV n vs/\s.heap.DictOf (cf _ _) p vs:=I.hok p _ d;have hlen :=pQ r;exact wpAny_truthy_dict j m (by omega) ⟨H,I.tok _,by rwa[DE r]⟩
 |_=>exact(e).elim
def JV(ha:PE X a ta)(t:∀whole,isTrue a X.env whole=(do let v <-whole;standAt a.pos;holding [v] (truthy v))) :
  PT X a (λσ H Q=>ta σ H λx o=>∃k,Vk X.K x o k/\Q k o):=by
 intro h_ s σ H Q I h;exact isTrue_plain (fT (ha h_ s σ H _ I h) λv s1 ⟨x,c,d,e,f⟩=>Jf h_ s1 σ c x v Q d e f) (t _)
def Dj:iA X (ej .Add) (λx y H Q=>∃i j,x=.str i/\y=.str j/\i.length+j.length<=aD/\Q (.str (i++j)) H):=by
 intro h_ s σ H x y v u Q I a c h;obtain⟨i,j,rfl,rfl,d,q⟩:=h;obtain⟨t,rfl⟩:=a;obtain⟨f,rfl⟩:=c;exact add_str (λf e=>⟨.str _,H,I.tok _,⟨_,W⟩,q⟩) d
def vals1(r:cH [x] us):∃u,us=[u]/\RelV x u:=by
 cases r with
 |cons a c=>cases c;exact⟨_,W,a⟩
def vals2(r:cH [x,y] us):∃u B,us=[u,B]/\RelV x u/\RelV y B:=by
 cases r with
 |cons a c=>
   cases c with
   |cons d e=>cases e;exact⟨_,_,W,a,d⟩
def HW:iB X (.type "int") (λxs H Q=>(∃i,xs=[.int i]/\Q (.int i) H)\/∃k,xs=[.bl k]/\Q (.int (if k then 1 else 0)) H):=by
 intro h_ s σ H xs us Q I r h
 rcases h with⟨i,rfl,q⟩|⟨k,rfl,q⟩
 .obtain⟨u,rfl,t,rfl⟩:=vals1 r;exact call_int_int ⟨.int i,H,I,⟨_,W⟩,q⟩
 .obtain⟨u,rfl,a⟩:=vals1 r;cases a;exact call_int_bool ⟨.int _,H,I.tok _,⟨_,W⟩,q⟩
def zH:iB X (.type "str") (λxs H Q=>∃i,xs=[.int i]/\i.natAbs.log2<1920/\Q (.str (toString i)) H):=by
 intro h_ s σ H xs us Q I r h;obtain⟨i,rfl,a,q⟩:=h;obtain⟨u,rfl,t,rfl⟩:=vals1 r;exact PySem.P.str_of_int a ⟨.str _,H,I.tok _,⟨_,W⟩,q⟩
end
structure abU(h:cg)(x dx C:aC)(mA:bw->a5 ag):Prop where
 obj:h.get? x=Y (Ii C dx)
 ns:h.Ns1 dx mA
 ne:dx≠x
section
variable{K:aE}
end
noncomputable def rH(f:bw)(v:V):O (bw×V)->O (bw×V)
 |[]=>[(f,v)]
 |(g,x)::r=>if g=f then(g,v)::r else(g,x)::rH f v r
def wN.some_of(r:wN (Y v) o):∃u,o=Y u/\RelV v u:=by
 cases o with
 |none=>exact(r).elim
 |some u=>exact⟨u,W,r⟩
section
end
structure Cls(K:aE)(C:aC):Prop where
 pg:PySem.W.plainGet K C Str.empty=U
 hd:PySem.W.hasDictIn K C=U
 po:PySem.W.plainOver K C=U
 sa:k7 K (.ref C) "__setattr__"=Y (Y (.builtin "object.__setattr__"))
structure Con(K:aE)(C:aC)(f:bw)(v:V)(u:ag):Prop where
 at_:k7 K (.ref C) f=Y (Y u)
 rel:RelV v u
 get:D8 K u "__get__"=Y L
 cp:PySem.W.copiedNames.contains f=J
structure abW(K:aE)(C:aC)(m:bw)(f:aC):Prop where
 at_:k7 K (.ref C) m=Y (Y (.ref f))
 fn:MZ K (.ref f)=U
 kp:fj K (.ref f)=U
section
end
section
end
section
variable{H:Hp}
inductive vR (K:aE) (H:Hp):V->ag->Prop where
 |non:vR K H .non (.type "NoneType")
 |bl (x:a7):vR K H (.bl x) (.type "bool")
 |int (i:dc):vR K H (.int i) (.type "int")
 |str (x:bw):vR K H (.str x) (.type "str")
 |flt (x:UInt64):vR K H (.flt x) (.type "float")
 |lst {a:aC} {xs:O V} (e:H a=Y (.lst xs)):vR K H (.ref a) (.type "list")
 |kH {a:aC} {o:k8} {xs:O V} (e:H a=Y (.kH o (.lst xs))):vR K H (.ref a) (.type "list")
 |tup {a:aC} {xs:O V} (e:H a=Y (.tup xs)):vR K H (.ref a) (.type "tuple")
 |dK {a:aC} {k_:O (Key×V)} (e:H a=Y (.dK k_)):vR K H (.ref a) (.type "dict")
 |dT {a:aC} {k_:O (O Key×V)} (e:H a=Y (.dT k_)):vR K H (.ref a) (.type "dict")
 | ins {a C dx:aC} {fs:O (bw×V)} (e:H a=Y (.ins C dx fs)) (cl:Cls K C) (ha:k7 K (.ref C) "__class__"=Y (Y (.builtin "object.__class__")))
   (hn:D8 K (.builtin "object.__class__") "__get__"=Y (Y (.builtin "getset_descriptor.__get__"))) (htk:PySem.W.takesIn K (.builtin "object.__class__")=Y U)
   (hm:PySem.W.mroIn K C (.type "object")=Y U):vR K H (.ref a) (.ref C)
end
structure mY(k:T)(A:bZ):Prop where
 hd:A.handled=L
 dp:A.depth+3 * k+5<recursionLimit
 un:A.units+16 * k+200<cO
def mY.deeper(r:mY (k+1) A)(env:Qn):mY k (A.deeper env):=
 ⟨r.hd,by refine (?_ : A.depth+1+3 * k+5<_);exact rT r.dp,by exact rT r.un⟩
def mY.depth(r:mY k A):A.depth<recursionLimit:=rT r.dp
def mY.units(r:mY k A):A.units+64<cO:=rT r.un
def V1:TA:=λ_ H Q=>Q [] H
def V3(B:TE)(tr:TA):TA:=λσ H Q=>B σ H λx a=>tr σ a λb c=>Q (x::b) c
section
variable{t:TA}
def Di:PA X [] V1:=λ_ _ _ _ H Q I h=>jB ⟨[],H,I,.nil,h⟩
def t6(ha:PE X e o)(B:PA X es t)(hs:aL (e::es) X.env=(J,eval e X.env)::aL es X.env:=by rfl):PA X (e::es) (V3 o t):=by
 intro pos h_ s σ H Q I h;rw[hs];exact Gp (fT (ha h_ s σ H _ I h) λu s1 ⟨x,a,b,c,d⟩=>fT (B _ h_ s1 σ a _ b d) λus s2 ⟨k,j,f,g,i⟩=>⟨_,j,f,.cons c g,i⟩)
def YC(t:TA):TE:=λσ H Q=>t σ H λb a=>Z b<=aD/\∀p,a p=L->Q (.ref p) (upd a p (.tup b))
def YH(t:TA):TE:=λσ H Q=>t σ H λb a=>Z b<=aD/\∀p,a p=L->Q (.ref p) (upd a p (.lst b))
def SQ{x1}(h:PA X es t):PE X (.Tuple es x1 pos) (YC t):=by
 intro h_ s σ H Q I c;refine wpAny_Tuple_spliced (fT (h _ h_ s σ H _ I c) λus s1 ⟨f,d,a,r,z,q⟩=>⟨by rwa[<-r.length],?_⟩);exact ⟨.ref _,upd d _ (.tup f),a.laid (λb u e=>hp9 _ e) (aw _) (⟨z,us,r,⟨_,ax _ W,W,_,W⟩⟩),W,q _ (a.hok.fresh (aw _))⟩
def SX(h:PA X es t):PE X (.List es pos) (YH t):=by
 intro h_ s σ H Q I c;refine wpAny_List_spliced (fT (h _ h_ s σ H _ I c) λus s1 ⟨f,d,a,r,z,q⟩=>⟨by rwa[<-r.length],?_⟩);exact ⟨.ref _,upd d _ (.lst f),a.laid (λb u e=>hp9 _ e) (aw _) ⟨z,us,0,r,ax _ W⟩,W,q _ (a.hok.fresh (aw _))⟩
end
abbrev Sp:=O V->Hp->VK->XK->Prop
abbrev VT:=O Qn->Hp->ao->XK->ag->ao->Prop
structure gZ(P:cA)(w:cT)(K:aE)(mg:bw->a5 ag)(base:cg)(A:bZ)(outer:O Qn)(s:ao)(H:Hp):Prop where
 frames:A.frames=Y outer
 mod:Mod K mg base
 bs:∀b o,base.get? b=Y o->s.heap.get? b=Y o/\H b=L
 bsz:base.objs.size<=s.heap.objs.size
 vy:s.heap.FunFrames base outer
 frf:∀b∈ID outer,H b=L
 hok:qQ P w H s.heap
 bare:n5 s.gens
def CE(outer:O Qn)(P:cA)(w:cT)(H:Hp)(s:ao)(Q:VK)(u:ag)(b:ao):Prop:=
 ∃v a,b.os=s.os/\n5 b.gens/\Un (ID outer) [] H a s.heap b.heap/\qQ P w a b.heap/\RelV v u/\Q v a
def CR(c:VT)(outer:O Qn)(P:cA)(w:cT)(H:Hp)(s:ao)(Q:VK)(E:XK)(r:Result)(b:ao):Prop:=
 match r with
 |.ok (.ret u)=>CE outer P w H s Q u b
 |.ok _=>False
 |.error e=>c outer H s E e b
structure nH(P:cA)(w:cT)(K:aE)(mg:bw->a5 ag)(base:cg)(CX:VT)(k:T)(f:aC)(fd:ig)(ps:O bw)(sp:Sp):Prop where
 len:∀vs H Q E,sp vs H Q E->Z vs=Z ps
 run:∀(A:bZ)(outer:O Qn)(s:ao)(H:Hp)(args:Args)(us:O ag)(vs:O V)(Q:VK)(E:XK),mY k A->gZ P w K mg base A outer s H->wo s fd args (ps.zip us)->cH vs us->sp vs H Q E->
  fC (aB P w) A (.call (.ref f) args) (CR CX outer P w H s Q E) s
def nH.imp{K:aE}{base:cg}{ps:O bw}(F:nH P w K mg base o k f fd ps sp)
  (h:∀vs H Q E,e vs H Q E->sp vs H Q E):nH P w K mg base o k f fd ps e:=
 ⟨λvs H Q E q=>F.len vs H Q E (h _ _ _ _ q),λA outer s H args us vs Q E a b hb c d=>F.run A outer s H args us vs Q E a b hb c (h _ _ _ _ d)⟩
section
def Inv.ZD(I:Inv X h_ σ H s):gZ X.prog X.w X.K X.mg X.base X.A X.stack s H:=
 ⟨I.ok.frames,I.ok.mod,I.bs,ab I.ok.bsz I.sz,I.stack,I.El,I.hok,I.bare⟩
def Inv.after(I:Inv X h_ σ H s)(h:CE X.stack X.prog X.w H s Q u c):EP X h_ σ Q u c:=by
 obtain⟨v,e,os,bare,un,hok,r,q⟩:=h;obtain⟨hh,g,d,t,a⟩:=c;obtain rfl:a=s.os:=os;exact⟨v,e,I.call un hok bare (λb z=>absurd z (by simp)),r,q⟩
end
def Qv(sp:Sp)(B:O V)(E:XK)(t:TA):TE:=λσ H Q=>t σ H λvs a=>sp (vs++B) a Q E
def Binds(K:aE)(b:ig)(ps:O bw)(ds:O ag):Prop:=
 ∀(s:ao)(us:O ag),K.In s.heap->Z (us++ds)=Z ps->wo s b ⟨us,[]⟩ (ps.zip (us++ds))
def Binds.all{K:aE}{ps:O bw}(h:∀us:O ag,Z us=Z ps->nT fd ⟨us,[]⟩=pure (ps.zip us)):Binds K fd ps []:=λs us _ hl=>by
 rw[aS]at hl ⊢;exact .of_eq (h us hl)
def zP(b:VT)(X:Cx)(E:XK):Prop:=∀(h_:O (aC×k8))(σ:St)(H:Hp)(s:ao)(e:ag)(a:ao),Inv X h_ σ H s->b X.stack H s E e a->X.xe e a
section
variable{X:Cx}{f C:aC}{ps:O bw}
theorem JJ(F:nH X.prog X.w X.K X.mg X.base o k f fd ps sp)(B:mY k X.A)(hb:Binds X.K fd ps ds)(hd:cH c ds)(t:zP o X E)
  (I:Inv X h_ σ H s)(r:cH vs us)(h:sp (vs++c) H Q E):aA (aB X.prog X.w) X.A (call (.ref f) us) (EP X h_ σ Q) X.xe s:=by
 have b :=r.append hd;refine wpAny_call (ku (F.run _ _ s H _ _ _ Q E B I.ZD (hb s us I.Dy (by rw[<-b.length];exact F.len _ _ _ _ h)) b h) λr d a=>?_)
 cases r with
 |error e=>exact t h_ σ H s e d I a
 |ok g=>
   cases g with
   |ret u=>exact I.after a
   |next=>exact ik a
   |brk=>exact ik a
   |cont=>exact ik a
def OB(F:nH X.prog X.w X.K X.mg X.base y k f fd ps sp)(c:mY k X.A)(o:Gl X x)(z:X.mg x=Y (.ref f))(P:fj X.K (.ref f)=U)(hb:Binds X.K fd ps ds)(hd:cH u ds)(R:zP y X E)
  (ha:PA X (e::es) t)(B:(x == ("__debug__":bw))=J)(S:aL (e::es) X.env=(J,eval e X.env)::aL es X.env)(O':(e4 pos (aL es X.env)).any (·.1)=J) :
  PE X (.Call (.Name x p) (e::es) [] pos) (Qv sp u E t):=by
 intro h_ s σ H Q I h;refine hJ (zo I o z ?_ B);exact PySem.W.callWith_K I.ok.mod.kin P (fT (ha _ h_ s σ H _ I h) λus s1 ⟨vs,b,a,r,q⟩=>⟨a.Dy,(JJ F c hb hd R a r q)⟩) S O'
def Kh(F:nH X.prog X.w X.K X.mg X.base o k f fd ps sp)(t:mY k X.A)(b:Gl X x)(c:X.mg x=Y (.ref f))(u:fj X.K (.ref f)=U)(hb:Binds X.K fd ps ds)(hd:cH e ds)(y:zP o X E)
  (B:(x == ("__debug__":bw))=J):PE X (.Call (.Name x p) [] [] pos) (Qv sp e E V1):=by
 intro h_ s σ H Q I h;exact hJ (zo I b c (PySem.W.callWith_K0 I.Dy u (JJ F t hb hd y I .nil h)) B)
structure Mk(K:aE)(C f:aC):Prop where
 makes:PySem.W.makesIn K C=U
 init:k7 K (.ref C) "__init__"=Y (Y (.ref f))
 fn:MZ K (.ref f)=U
 kp:fj K (.ref C)=U
end
section
variable{fd:ig}{ps ks:O bw}
structure ZW(K:aE)(fd:ig)(ps ks:O bw)(g:O ag->O ag->O ag)(gV:O V->O V->O V):Prop where
 to:∀(s:ao)(us ws:O ag),K.In s.heap->Z (g us ws)=Z ps->wo s fd ⟨us,ks.zip ws⟩ (ps.zip (g us ws))
 rel:∀{vs:O V}{us:O ag}{zs:O V}{ws:O ag},cH vs us->cH zs ws->cH (gV vs zs) (g us ws)
end
structure qR(N P:O bw)(sc:mD):Prop where
 kind:sc.kind=.function
 co:sc.isCoroutine=J
 gen:sc.isGenerator=J
 nd:N.Nodup
 pre:N.take (Z P)=P
 par:∀x∈P,sc.names.lookup x=Y .local\/sc.names.lookup x=Y .cell
 nofree:∀y∈sc.names,y.2≠.free
theorem ym{kindOf:bw->a5 kA}:∀{binds:O (bw×ag)}{m:bw->a5 ag},(∀v,(x,v)∉binds)->o3 kindOf binds m x=m x
 |[],_,_=>rfl
 |(n,v)::r,m,h=>by
   unfold o3;rw[ym λw a=>h w (kc _ a)];split
   .grind
   .rfl
theorem yo{kindOf:bw->a5 kA}:∀{binds:O (bw×ag)}{m:bw->a5 ag},(∀v,(x,v)∉binds)->o_ kindOf binds m x=m x
 |[],_,_=>rfl
 |(n,v)::r,m,h=>by
   unfold o_;rw[yo λw a=>h w (kc _ a)];split
   .rfl
   grind
theorem yn{kindOf:bw->a5 kA}:∀{P:O bw} {vs:O ag} {i:T} {m:bw->a5 ag},P.Nodup->P[i]?=Y x->vs[i]?=Y v->kindOf x=Y .local->
  o3 kindOf (P.zip vs) m x=Y v
 |[],_,_,_,_,h,_,_=>by simp at h
 |_::_,[],_,_,_,_,h,_=>by simp at h
 |p::P,w::vs,0,m,nd,h1,h2,b=>by
   simp at h1 h2;subst h1;subst h2;show o3 _ ((p,w)::P.zip vs) m p=_;unfold o3;rw[ym λv a=>(bE.mp nd).1 (jd a).1,a6 b];simp
 |p::P,w::vs,i+1,m,nd,h1,h2,b=>by
   show o3 _ ((p,w)::P.zip vs) m x=_;exact yn (bE.mp nd).2 (by simpa using h1) (by simpa using h2) b
theorem yp{kindOf:bw->a5 kA}:∀{P:O bw} {vs:O ag} {i:T} {m:bw->a5 ag},P.Nodup->P[i]?=Y x->vs[i]?=Y v->kindOf x≠Y .local->
  o_ kindOf (P.zip vs) m x=Y v
 |[],_,_,_,_,h,_,_=>by simp at h
 |_::_,[],_,_,_,_,h,_=>by simp at h
 |p::P,w::vs,0,m,nd,h1,h2,b=>by
   simp at h1 h2;subst h1;subst h2;show o_ _ ((p,w)::P.zip vs) m p=_;unfold o_;rw[yo λv a=>(bE.mp nd).1 (jd a).1,c4 b];simp
 |p::P,w::vs,i+1,m,nd,h1,h2,b=>by
   show o_ _ ((p,w)::P.zip vs) m x=_;exact yp (bE.mp nd).2 (by simpa using h1) (by simpa using h2) b
noncomputable def start(N:O bw)(vs:O V):St:=vs.map Y++eO (Z N - Z vs) L
noncomputable def BG(c:VT)(P:cA)(w:cT)(K:aE)(mg:bw->a5 ag)(base:cg)(N:O bw)(qual:bw)(scope:mD)(f:aC)(B:ag)(A:bZ)(outer:O Qn)(s:ao)(H:Hp)(E:XK):Cx where
 prog:=P
 w:=w
 K:=K
 mg:=mg
 base:=base
 A:=A.deeper (hO qual scope s.heap.objs.size f B)
 N:=N
 s₀:=s
 H₀:=H
 env:=hO qual scope s.heap.objs.size f B
 outer:=outer
 stack:=hO qual scope s.heap.objs.size f B::outer
 ex:=[]
 calm:=U
 fn:=λ_=>U
 pn:=[]
 xe:=λe d=>aA (aB P w) (A.deeper (hO qual scope s.heap.objs.size f B)) (leaving (hO qual scope s.heap.objs.size f B) e) (λ_ a=>c outer H s E e a) (λb a=>c outer H s E b a) d
def BM{sc:mD}(h:sc.names.lookup x=Y .cell):∃c,(cellsFrom n sc.names []).lookup x=Y c:=by
 exact mE.mp (yA _ n [] (.inl h))
def Hx{K:aE}{base:cg}{ps:O bw}{A:bZ}{s1:ao}{vs:O V}
  (S:qR N ps scope)(hd:A.handled=L)(B:gZ P w K mg base A outer s H)(hl:Z vs=Z ps)(r:cH vs us)
  (x:InCallC s s.heap.objs.size (o3 (hO qual scope s.heap.objs.size f cd).kindOf (ps.zip us) λ_=>L) (cellsFrom (s.heap.objs.size+1) scope.names []) (o_ (hO qual scope s.heap.objs.size f cd).kindOf (ps.zip us) λ_=>L) s1) :
  Inv (BG t P w K mg base N qual scope f cd A outer s H E) [] (start N vs) H s1:=by
 have j:Z ps<=Z N:=by have:=dy jo S.pre;rw[eF]at this;exact ab (af this.symm) (iP _ _)
 obtain⟨h1,o,rfl,l⟩:=x.done;have a:∀b:aC,b∉(BG t P w K mg base N qual scope f cd A outer s H E).ex:=λb z=>absurd (show b∈([])from z) (by simp)
 refine⟨⟨B.mod,S.kind,W,W,aw _,λy z c h1 h2=>?_,λy d=>?_,λy c _ h=>?_,λ_=>hd,Around.frames_deeper B.frames,.inr ⟨W,W⟩,λb z=>absurd z (a b),B.bs,B.bsz,λb _ _=>a b,λb z=>absurd z (a b),B.vy,B.frf⟩,
  rfl,B.bare,Un.kept l,⟨_,x.toInCall.ns,λi y v h1 h2 h3=>?_⟩,λy c h=>⟨_,x.cell y c h⟩,B.hok.fresh (aw _),λy c h=>?_,λp hp=>absurd (show p∈([])from hp) (by simp),B.hok.kept l,?_⟩
 .exact name_of_addr x.apart (fP h1) (fP h2)
 .rcases d with d|d
  .exact BM d
  .exact absurd rfl (S.nofree _ (fP d))
 .exact bx (x.above y c (fP h))
 .have hi:i<Z vs:=by
   unfold start at h2;by_cases hi:i<Z vs
   .exact hi
   .rw[aM (by simpa using hi)]at h2;rw[dM]at h2
    grind
  have ha:vs[i]?=Y v:=by
   unfold start at h2;rw[a9 (by simpa using hi),aV]at h2
   simp_all
  obtain⟨u,m,n⟩:=r.get ha
  have hp:ps[i]?=Y y:=by
   rw[<-S.pre,List.getElem?_take_of_lt (ab hi (af hl))];exact h1
  have g:ps.Nodup:=by rw[<-S.pre];exact S.nd.sublist (hV _ _)
  refine⟨u,n,?_⟩
  rcases S.par y (aX hp)with k|k
  .exact .inl ⟨k,yn g hp m k⟩
  .obtain⟨c,e⟩:=BM k;refine .inr ⟨.inl k,c,e,?_⟩;have q:=x.cell y c e;rw[yp g hp m (by show scope.names.lookup y≠_;rw[k];decide)]at q;exact q
 .exact B.hok.fresh (bx (x.above y c (fP h)))
 .unfold start;rw[aN,ah,kh];exact m7 (ab (af hl) j)
theorem Xr{K:aE}{base:cg}{kV ct:ag}
  {ps:O bw}(F:K.lookup f=Y ⟨oc,od,.func (qe name qual params body scope dV kV doc pm an cdv ct),osl⟩)(O':um K cdv qual=U)(S:qR N ps scope)
  (len:∀vs H Q E,sp vs H Q E->Z vs=Z ps)
  (B:∀(A:bZ)(outer:O Qn)(s:ao)(H:Hp)(vs:O V)(Q:VK)(E:XK),mY k (A.deeper (hO qual scope s.heap.objs.size f cdv))->sp vs H Q E->
   ∃t,B3 (BG CX P w K mg base N qual scope f cdv A outer s H E) body t/\t { nx:=λ_ R=>Q .non R,rt:=Q } (start N vs) H) :
  nH P w K mg base CX (k+1) f (qe name qual params body scope dV kV doc pm an cdv ct) ps sp:=by
 refine⟨len,λA outer s H args us vs Q E h d hb r g=>?_⟩;have hl:=len _ _ _ _ g;have l :=d.mod.kin.keeps λb o e=>(d.bs b o e).1;have i :=d.mod.nolimit.keeps λb o e=>(d.bs b o e).1
 have c:∀y∈ps.zip us,scope.names.lookup y.1=Y .local\/(scope.names.lookup y.1=Y .cell/\((cellsFrom (s.heap.objs.size+1) scope.names []).lookup y.1).isSome=U):=λm p=>by
  obtain⟨n,v⟩:=m
  rcases S.par n (jd p).1 with q|q
  .exact .inl q
  .exact .inr ⟨q,yA _ _ _ (.inl q)⟩
 refine codeAny_call_function h.depth (l _ _ F) W S.co S.gen W (PySem.W.codeRec_of l O') (hb _ _ _ _ ?_);refine wpAny_newFunctionEnv_cells S.kind c λenv z s1 x=>?_;subst z;refine⟨i.keeps x.toInCall.keep,codeAny_func ?_⟩;obtain⟨t,C,D⟩:=B A outer s H vs Q E (h.deeper _) g;have I:Inv (BG CX P w K mg base N qual scope f cdv A outer s H E) [] (start N vs) H s1:=Hx S h.hd d hl r x;refine c8 (C [] s1 (start N vs) H _ I D) (λfl X M=>?_) λe X M=>M
 have fin:∀{a:St}{R:Hp}{v:V}{u:ag},Inv (BG CX P w K mg base N qual scope f cdv A outer s H E) [] a R X->RelV v u->Q v R->CE outer P w H s Q u X:=
  λ{a R v u}G j q=>⟨v,R,G.os,G.bare,G.base,G.hok,j,q⟩
 cases fl with
 |ret u=>
   obtain⟨v,a,R,G,j,q⟩:=M;exact fin G j q
 |next=>
   obtain⟨a,R,G,q⟩:=M;exact fin (v:=V.non) G W q
 |brk=>
   obtain⟨_,_,_,q⟩:=M;exact ik q
 |cont=>
   obtain⟨_,_,_,q⟩:=M;exact ik q
section
variable{t:TA}{id T':eS}{r:O V->Hp->VK->Prop}
def YK(r:O V->Hp->VK->Prop)(t:TA):TE:=λσ H Q=>t σ H λvs a=>r vs a Q
def uZ(u:iB X (.builtin id) r)(f:Gl X x)(o:X.mg x=L)(y:ei x=Y (.builtin id))(ha:PA X (e::es) t)(z:x≠"__name__")(B:(x == ("__debug__":bw))=J)
  (C:aL (e::es) X.env=(J,eval e X.env)::aL es X.env)(F:(e4 pos (aL es X.env)).any (·.1)=J):PE X (.Call (.Name x p) (e::es) [] pos) (YK r t):=by
 intro h_ s σ H Q I h;exact hJ (lD I f o y (pA (fT (ha _ h_ s σ H _ I h) λus s1 ⟨vs,a,b,c,d⟩=>u h_ s1 σ a vs us Q b c d) C F) z B)
def Hi(u:iB X (.type T') r)(f:Gl X x)(o:X.mg x=L)(y:ei x=Y (.type T'))(ha:PA X (e::es) t)(z:x≠"__name__")(B:(x == ("__debug__":bw))=J)
  (C:aL (e::es) X.env=(J,eval e X.env)::aL es X.env)(F:(e4 pos (aL es X.env)).any (·.1)=J):PE X (.Call (.Name x p) (e::es) [] pos) (YK r t):=by
 intro h_ s σ H Q I h;exact hJ (lD I f o y (cD (fT (ha _ h_ s σ H _ I h) λus s1 ⟨vs,a,b,c,d⟩=>u h_ s1 σ a vs us Q b c d) C F) z B)
end
end L2
namespace HT
open PySem PyProof.Rows
section
open PySem.SeqAt
open PySem.AutoSeq1 (wpAny_loadPart')
open PySem.MeetsSeq PySem.MeetsSeq2 PySem.MeetsSeq3
end
section
variable{s:ao}
def PQ{vs ws:O ag}(o:Il s.heap t vs.toArray)(hb:Il s.heap b ws.toArray)(B:vs≠[])
  (h1:ws=[]->Q (.ref t) s)(h2:ws≠[]->Q (.ref s.heap.objs.size) { s with heap:=s.heap.push { cls:=.type "tuple",data:=.seq (vs++ws).toArray } })
  (hsz:Z vs+Z ws<=aD):aA (aB prog w) A (ej .Add (.ref t) (.ref b)) Q E s:=by
 refine ac λ_ k=>?_;obtain⟨⟨cls,h,data,sl⟩,ho,l,n,hd⟩:=id o;obtain⟨⟨i,c,data2,GQ⟩,a,f,j,g⟩:=id hb;subst l hd f g;refine k ?_;have e:vs.toArray++ws.toArray=(vs++ws).toArray:=by simp
 by_cases d:ws=[]
 .exact v7 ⟨_,ho,W⟩ ⟨_,a,W⟩ yz Gg nj mI (me _ _)
   (tuple_addW1 t b _ _ n j h c sl GQ (by simpa using B) (by simp[d])) ⟨ho,a,h1 d⟩
 .refine v7 ⟨_,ho,W⟩ ⟨_,a,W⟩ yz Gg nj mI (me _ _)
   (tuple_addW2 t b _ _ n j h c sl GQ (by simpa using B) (by simpa using d) (by exact hsz)) ⟨ho,a,?_⟩
  rw[e];exact h2 d
noncomputable def gC(n d:T):a5 dc->T
 |none=>d
 |some v=>if v<0 then(v+(n:dc)).toNat else min v.toNat n
def JC(n d:T):gC n d L=d:=rfl
def Yl(n d k:T):gC n d (Y (k:dc))=min k n:=by
 show(if(k)<0 then((k:dc)+(n)).toNat else min _ n)=min k n;simp
def JD(n d:T)(hd:d<=n)(o:a5 dc):gC n d o<=n:=by
 cases o with
 |none=>exact hd
 |some v=>
   show(if v<0 then(v+(n)).toNat else min _ n)<=n;by_cases a:v<0
   .rw[a6 a];omega
   .rw[c4 a];exact iP _ _
def FQ(v:dc)(n d:T):(if v<0 then max (v+(n:dc)) 0 else min v (n:dc))=((gC n d (Y v):T):dc):=by
 show(if v<0 then max _ 0 else min v _)=(((if v<0 then(v+(n)).toNat else min _ n):T))
 grind
def cl9(i:dc)(n:T):max 0 (min (if i<0 then i+(n:dc) else i) (n:dc))=if i<0 then max (i+(n:dc)) 0 else min i (n:dc):=by
 split
 .rw[Int.min_eq_left (by omega),Int.max_comm]
 .exact Int.max_eq_right (Int.le_min.mpr ⟨by omega,Int.ofNat_zero_le _⟩)
def D3(lo hi:a5 dc)(n:T):qT lo hi 1 (n:dc)=(((gC n 0 lo:T):dc),((gC n n hi:T):dc)):=by
 refine lT ?_ ?_
 .cases lo with
  |none=>rfl
  |some v=>exact FQ v n 0
 .cases hi with
  |none=>rfl
  |some v=>exact FQ v n n
def De(i j:T):gP (i:dc) (j:dc) 1=j - i:=by
 unfold gP;rw[a6 (by decide)];split
 .rw[Int.ediv_one];simp
 .omega
def uK(p:rl v o)(h:Q o s):aA (aB prog w) A (Builtin.Slice.slicePartIndex v) Q E s:=by
 cases p with
 |none=>exact slicePart_none h
 |int i t=>exact slicePart_int h
def mM{sl:aC}{B f:ag}{lo hi:a5 dc}{n:T}{Q:dc×dc×T->ao->Prop}(hs:s.heap.IsSliceOf sl B f .none)(pl:rl B lo)(e:rl f hi)
  (h:Q (((gC n 0 lo:T):dc),1,gC n n hi - gC n 0 lo) s):aA (aB prog w) A (Builtin.Slice.sliceApplied (.ref sl) (pure (n:dc))) Q E s:=by
 obtain⟨os,a,c,b⟩:=id hs;refine wb9 (wb9 (bI a b (x:=B) W (wb9 (bI a b (x:=f) W (wb9 (bI a b W (wu9 ?_)))))));refine wb9 (slicePart_none ?_);refine wb9 (uK pl (wb9 (uK e (wb9 (wu9 ?_)))));show aA _ _ (match qT lo hi 1 (n)with|(lo,hi)=>pure (lo,(1:dc),gP lo hi 1)) _ _ s;rw[D3 lo hi n];show aA _ _ (pure (((gC n 0 lo):dc),(1),gP _ _ 1)) _ _ s;rw[De];exact wu9 h
def J3(xs:eb ag)(i k:T):((aJ k).filterMap λ(m:T)=>xs[((i:dc)+(m:dc) * 1).toNat]?).toArray=((xs.toList.drop i).take k).toArray:=by
 have e:(λ(m:T)=>xs[((i:dc)+(m) * 1).toNat]?)=λm=>xs[i+m]? :=by
  funext m
  grind
 rw[e];have:=pick_run xs i k;have a:((λx=>xs[x]?) ∘ λx=>i+x)=λm=>xs[i+m]? :=rfl
 simp_all
theorem qE{sl:aC}{lo:a5 dc}(o:Il s.heap t items)(hs:s.heap.IsSliceOf sl u y .none)(pl:rl u lo)(B:rl y hi)
  (z:¬(gC items.size 0 lo=0/\gC items.size items.size hi=items.size))
  (h:Q (.ref s.heap.objs.size) { s with heap:=s.heap.push { cls:=.type "tuple",data:=.seq ((items.toList.drop (gC items.size 0 lo)).take (gC items.size items.size hi - gC items.size 0 lo)).toArray } })
  (hsz:items.size<=aD):aA (aB prog w) A (hQ (.ref t) (.ref sl)) Q E s:=by
 have a:sizeOk (.seq ((items.toList.drop (gC items.size 0 lo)).take (gC items.size items.size hi - gC items.size 0 lo)).toArray):=by
  show((items.toList.drop (gC _ 0 lo)).take (gC _ _ hi - gC _ 0 lo)).toArray.size<=aD;rw[aZ,eF,nM,be];omega
 obtain⟨os,b,c,f⟩:=id hs;unfold hQ
 try with_reducible refine cx ?_
 first|grind|skip
 refine wb9 (l5 o.typeIs iF ?_)
 refine wb9 (cC o.typeIs c5
  (bN c5 o.typeIs j4 ?_ (ky _ _)))
 show aA _ _ (ke _ >>= _) _ _ s;refine wb9 (tupleItemsOf_ o ?_);refine wb9 (g9 ⟨os,b,c⟩ ?_);refine wb9 (mM hs pl B ?_)
 have e:¬((((gC items.size 0 lo):dc) == 0 && (1:dc) == 1 && (gC items.size items.size hi - gC items.size 0 lo) == items.size)=U):=by
  simp_all
 show aA _ _ (if(((gC _ 0 lo):dc) == 0 && (1) == 1 && (gC _ _ hi - gC _ 0 lo) == items.size)=U then _ else _) _ _ s;rw[c4 e,J3]
 first
  |exact wb9 (eA (wu9 ⟨_,rfl,wu9 h⟩) a)
  |simp
  |simp
  |simp
end
end HT
namespace L2
open PySem PySem.Spec PyProof.Rows
abbrev TO:=St->Hp->(a5 dc->Hp->Prop)->Prop
def PO(X:Cx)(e:a5 br)(t:TO):Prop:=
 ∀(h_:O (aC×k8))(s:ao)(σ:St)(H:Hp)(Q:a5 dc->Hp->Prop),Inv X h_ σ H s->t σ H Q->
  aA (aB X.prog X.w) X.A (evalPart e X.env) (λu b=>∃o a,Inv X h_ σ a b/\rl u o/\Q o a) X.xe s
def Np:TO:=λ_ H Q=>Q L H
def VZ(t:TE):TO:=λσ H Q=>t σ H λx a=>∃i,x=.int i/\Q (Y i) a
section
variable{X:Cx}{te:TE}{lo hi:a5 br}{tl th:TO}
def Ox:PO X L Np:=by
 intro h_ s σ H Q I h;exact wu9 ⟨L,H,I,.none,h⟩
def Ov(h:PE X e te):PO X (Y e) (VZ te):=by
 intro h_ s σ H Q I a;refine fT (h h_ s σ H _ I a) λu s1 g=>?_;obtain⟨x,b,c,d,f⟩:=g;obtain⟨i,rfl,q⟩:=f;obtain⟨t,rfl⟩:=d;exact⟨_,b,c,.int i t,q⟩
def Yv(X:Cx)(r:V->a5 dc->a5 dc->Hp->VK->Prop):Prop:=
 ∀(h_:O (aC×k8))(s:ao)(σ:St)(H:Hp)(x:V)(v a b:ag)(lo hi:a5 dc)(sl:aC)(Q:VK),Inv X h_ σ H s->RelV x v->s.heap.IsSliceOf sl a b .none->rl a lo->rl b hi->r x lo hi H Q->
  ∃T' c,typeLookup (.type T') "__getitem__"=pure (Y (.builtin c))/\s.TypeIs v T'/\aA (aB X.prog X.w) X.A (hQ v (.ref sl)) (EP X h_ σ Q) X.xe s
def tSl(r:V->a5 dc->a5 dc->Hp->VK->Prop)(te:TE)(tl th:TO):TE:=λσ H Q=>te σ H λx a=>tl σ a λl c=>th σ c λu b=>r x l u b Q
def Kd(B:Yv X r)(t:PE X e te)(hl:PO X lo tl)(C:PO X hi th):PE X (.Subscript e (.Slice lo hi L P) pos) (tSl r te tl th):=by
 intro h_ s σ H Q I h;refine Subscript_ (fT (t h_ s σ H _ I h) λv s1 D=>?_);obtain⟨x,f,g,i,j⟩:=D;refine wpAny_Slice (fT (hl h_ s1 σ f _ g j) λa s2 ⟨l,E,k,pl,m⟩=>fT (C h_ s2 σ E _ k m) λc s3 F=>?_);obtain⟨u,d,n,o,p⟩:=F;refine wu9 ?_;obtain⟨T',A,w,G,y⟩:=B h_ { s3 with heap:=s3.heap.push { cls:=.type _,data:=.fields _ } } σ d x v a c l u _ Q (n.kept λb z q=>hp9 _ q) i (Heap.IsSliceOf.new ..) pl o p;exact PyProof.Rows.tail_any G w y (by with_unfolding_all rfl)
def DQ(xs:O V)(lo hi:a5 dc):O V:=(xs.drop (HT.gC xs.length 0 lo)).take (HT.gC xs.length xs.length hi - HT.gC xs.length 0 lo)
def tf(xs:O V)(lo hi:a5 dc):Z (DQ xs lo hi)<=Z xs:=by
 unfold DQ;rw[eF,nM];exact ab (iP _ _) (IU _ _)
def YU(K:aE):V->a5 dc->a5 dc->Hp->VK->Prop:=λx lo hi H Q=>∃a b,x=.ref a/\yv K H a b/\
 ¬(HT.gC b.length 0 lo=0/\HT.gC b.length b.length hi=Z b)/\∀p,H p=L->Q (.ref p) (upd H p (.tup (DQ b lo hi)))
def RR:Yv X (YU X.K):=by
 intro h_ s σ H x v i j lo hi sl Q I d p pl e h;refine ac λ_ l=>?_;obtain⟨a,n,rfl,f,g,q⟩:=h;cases d;obtain⟨m,r,o,c⟩:=I.tuple f;refine l ?_;have hlen:m.toArray.size=Z n:=by exact r.length.symm
 refine⟨_,_,c5.lookup,o.typeIs,?_⟩;refine HT.qE o p pl e (by rwa[hlen]) ?_ (by rwa[hlen]);rw[hlen];refine⟨.ref _,_,I.laid (λb k q=>hp9 _ q) (aw _) ?_,W,q _ (I.hok.fresh (aw _))⟩;exact⟨ab (tf n lo hi) c,_,(r.drop (HT.gC _ 0 lo)).take (HT.gC _ _ hi - HT.gC _ 0 lo),IS _ _⟩
def Wp(K:aE):R2:=λx y H Q=>∃a b d c,x=.ref a/\y=.ref b/\yv K H a d/\yv K H b c/\d≠[]/\Z d+Z c<=aD/\
 (c=[]->Q (.ref a) H)/\(c≠[]->∀p,H p=L->Q (.ref p) (upd H p (.tup (d++c))))
def cH.zf(r:cH xs us):us=[]↔xs=[]:=by
 cases r with
 |nil=>simp
 |cons _ _=>simp
def ON:iA X (ej .Add) (Wp X.K):=by
 intro h_ s σ H x y v u Q I e f h;refine ac λ_ p=>?_;obtain⟨a,b,t,A,rfl,rfl,ha,hb,g,i,j,k⟩:=h;cases e;cases f;obtain⟨r,d,l,_⟩:=I.tuple ha;obtain⟨n,c,m,_⟩:=I.tuple hb;refine p ?_;refine HT.PQ l m (λz=>g (d.zf.mp z)) (λz=>⟨.ref a,H,I,W,j (c.zf.mp z)⟩) (λz=>?_) (by rwa[<-d.length,<-c.length]);refine⟨.ref _,_,I.laid (λb o q=>hp9 _ q) (aw _) ?_,W,k (λw=>z (c.zf.mpr w)) _ (I.hok.fresh (aw _))⟩;exact⟨by simp_all,_,d.append c,IS _ _⟩
end
noncomputable def MQ(n:T)(i:dc):a5 T:=if 0<=i then(if i<n then Y i.toNat else L)else if -(n:dc)<=i then Y (i+n).toNat else L
def yt{b:Type}(xs:O b)(i:dc):a5 b:=(MQ xs.length i).bind λj=>xs[j]?
def zp(h:MQ n i=Y j):seqIndex? i n=Y j/\j<n/\-(n:dc)<=i/\i<n:=by
 unfold MQ at h;by_cases h0:0<=i
 .rw[a6 h0]at h;by_cases h1:i<n
  .rw[a6 h1]at h;have e :=bb h;exact⟨by rw[MW h0 h1,e],by omega,by omega,h1⟩
  simp_all
 .rw[c4 h0]at h;by_cases h1:-(n)<=i
  .rw[a6 h1]at h;have e :=bb h;exact⟨by rw[II (oj.mp h0) h1,e],by omega,h1,jT (oj.mp h0) (MO _)⟩
  simp_all
def zM (h:yt xs i=Y v):∃j,seqIndex? i (Z xs)=Y j/\xs[j]?=Y v/\j<Z xs/\-(xs.length:dc)<=i/\i<Z xs:=by
 unfold yt at h
 cases e:MQ _ i with
 |none=>rw[e]at h;cases h
 |some j=>
   rw[e]at h;obtain⟨h1,h2,h3,a⟩:=zp e;exact⟨j,h1,h,h2,h3,a⟩
def kT{b:Type}{xs:O b}{j:T}{v:b}(h:xs[j]?=Y v):yt xs (j:dc)=Y v:=by
 have a :=(aT.mp h).1
 have e:MQ xs.length (j)=Y j:=by
  unfold MQ
  simp_all
 unfold yt;rwa[e]
def zO(b:br):Prop:=∀o i,subscripted b J o i=operate [o,i] (hQ o i)
def VQ(X:Cx)(r:R2):Prop:=
 ∀(value slice:br)(h_:O (aC×k8))(s:ao)(σ:St)(H:Hp)(x y:V)(v u:ag)(Q:VK),Inv X h_ σ H s->RelV x v->RelV y u->r x y H Q->
  subscripted slice J v u=operate [v,u] (hQ v u)->aA (aB X.prog X.w) X.A (subscriptTail value slice v u) (EP X h_ σ Q) X.xe s
def Rf(X:Cx)(B:eS)(r:V->O V->Hp->VK->Prop):Prop:=
 ∀(h_:O (aC×k8))(s:ao)(σ:St)(H:Hp)(x:V)(a:O V)(v:ag)(us:O ag)(Q:VK),Inv X h_ σ H s->RelV x v->cH a us->r x a H Q->
  aA (aB X.prog X.w) X.A (call (.builtin B) (v::us)) (EP X h_ σ Q) X.xe s
section
variable{a:br}{tb:TE}
def WB(B:VQ X r)(ha:PE X a f)(hb:PE X b tb)(hs:zO b):PE X (.Subscript a b pos) (V0 r f tb):=by
 intro h_ s σ H Q I h;exact Subscript_ (Vc ha hb I h λv u s2 x y g c d e q=>B a b h_ s2 σ g x y v u Q c d e q (hs _ _))
def YY(K:aE):R2:=λx y H Q=>∃p b i v,x=.ref p/\y=.int i/\pv K H p b/\yt b i=Y v/\Q v H
def YW(K:aE):R2:=λx y H Q=>∃p b i v,x=.ref p/\y=.int i/\yv K H p b/\yt b i=Y v/\Q v H
def YX:R2:=λx y H Q=>∃z i c,x=.str z/\y=.int i/\z.length<=aD/\yt z.cps.toList i=Y c/\Q (.str ⟨#[c]⟩) H
def Pg:VQ X (YY X.K):=by
 intro value slice h_ s σ H x y v u Q I e f h o;refine ac λ_ a=>?_;obtain⟨p,C,i,z,rfl,rfl,g,B,q⟩:=h;cases e;obtain⟨t,rfl⟩:=f;obtain⟨n,r,pl,k⟩:=I.list g;obtain⟨j,h1,h2,h3,l,A⟩:=zM B;obtain⟨w,d,b⟩:=r.get h2;refine a ?_;have hl:=r.length;have m:=rX;by_cases h0:0<=i
 .have c:i.toNat=j:=by
   rw[MW h0 A]at h1
   simp_all
  exact item_listR pl.isList h0 (jT A (jT (oi.mpr k) iF)) (by rw[c];simpa using d) ⟨z,H,I,b,q⟩ o
 .have c:(i+(n.toArray.size)).toNat=j:=by
   rw[II (oj.mp h0) l]at h1
   simp_all
  exact IL pl.isList.typeIs slot_list_getitem.lookup
   (wpAny_getItem_list_neg pl.isList (oj.mp h0) (by simp_all) (by omega) (by rw[c];simpa using d) ⟨W,⟨z,H,I,b,q⟩⟩) o
def Ug:VQ X (YW X.K):=by
 intro value slice h_ s σ H x y v u Q I c d h m;refine ac λ_ a=>?_;obtain⟨p,B,i,z,rfl,rfl,e,n,q⟩:=h;cases c;obtain⟨t,rfl⟩:=d;obtain⟨o,r,pl,f⟩:=I.tuple e;obtain⟨j,h1,h2,h3,k,A⟩:=zM n;obtain⟨w,g,b⟩:=r.get h2;refine a ?_;have l:=rX;exact IL pl.typeIs slot_tuple_getitem.lookup
  (PyProof.Rows.getItem_tuple pl (by omega) (jT A (jT (oi.mpr f) iF)) (by rwa[aZ,<-r.length]) (by simpa using g) ⟨W,⟨z,H,I,b,q⟩⟩) m
def Uh:VQ X YX:=by
 intro value slice h_ s σ H x y v u Q I b d h k;refine ac λ_ a=>?_;obtain⟨z,i,c,rfl,rfl,f,l,q⟩:=h;obtain⟨t,rfl⟩:=b;obtain⟨n,rfl⟩:=d;obtain⟨j,h1,h2,h3,e,m⟩:=zM l;refine a ?_;have hl:z.cps.toList.length=z.length:=by simp[Str.length]
 rw[hl]at h1 e m;have g:=rX
 exact PyProof.Rows.tail_any (typeIs_str s z t) slot_str_getitem.lookup (getItem_str (by
  grind) (by rw[h1];simpa using h2) ⟨.str ⟨_⟩,H,I.tok _,⟨_,W⟩,q⟩) k
def Du(b:O ag)(n j:T)(u:ag):fB (·.setIfInBounds j u) { cls:=.type "list",data:=.seq b.toArray n }={ cls:=.type "list",data:=.seq (b.set j u).toArray n }:=by
 simp[fB]
def Inv.lst(I:Inv X h_ σ H s)(h:H p=Y (.lst xs)) :
  ∃(b:O ag) (n:T),cH xs b/\s.heap.get? p=Y { cls:=.type "list",data:=.seq b.toArray n }/\Z xs<=aD:=by
 obtain⟨z,b,n,r,e⟩:=I.hok p _ h;exact⟨_,n,r,e,z⟩
def Inv.TQ{c its':O ag}(I:Inv X h_ σ H s)(h:H p=Y (.lst xs))
  (ho:s.heap.get? p=Y { cls:=.type "list",data:=.seq c.toArray n })(hf:f { cls:=.type "list",data:=.seq c.toArray n }={ cls:=.type "list",data:=.seq its'.toArray o })(r:cH y its')(B:Z y<=aD)(t:T) :
  Inv X h_ σ (upd H p (.lst y)) { s with heap:=s.heap.update p f,toks:=t }:=by
 have e:(s.heap.update p f).get? p=Y { cls:=.type "list",data:=.seq its'.toArray o }:=by
  rw[g7 f ho (by rw[hf]<;>rfl),hf]
 refine I.write (x:=p) (e:=p) (by rw[h];trivial) (.inl rfl) (λb u hb q=>(jE _ _ (eW hb)).trans q) ⟨_,e⟩ ?_;exact⟨B,its',o,r,e⟩
def JQ:V->V->V->Hp->(Hp->Prop)->Prop:=λo i v H Q=>∃p b k j,o=.ref p/\i=.int k/\H p=Y (.lst b)/\MQ b.length k=Y j/\Q (upd H p (.lst (b.set j v)))
def set_list:Qa X JQ:=by
 intro h_ s σ H o i v l m u Q I c d e h;refine ac λ_ a=>?_;obtain⟨p,A,k,j,rfl,rfl,hp,f,q⟩:=h;cases c;obtain⟨t,rfl⟩:=d;obtain⟨x,n,r,ho,g⟩:=I.lst hp;obtain⟨h1,h2,h3,b⟩:=zp f;refine a ?_;have hl:=r.length;have w:=rX
 have z :=
  I.TQ hp ho (Du _ n j u) (r.set e j) (by simp_all) s.toks
 by_cases h0:0<=k
 .have y:k.toNat=j:=by
   rw[MW h0 b]at h1
   simp_all
  exact PySem.W.ki_setAt ho h0 (jT b (jT (oi.mpr g) iF)) (by simp_all) (by rw[y];exact⟨_,z,q⟩)
 .have y:(k+(x.toArray.size)).toNat=j:=by
   rw[II (oj.mp h0) h3]at h1
   simp_all
  exact PySem.W.ki_setBack ho (oj.mp h0) (by simp_all) (by omega) (by rw[y];exact⟨_,z,q⟩)
def yS(lo hi:a5 dc)(n:T):(gd lo hi L n).1=((HT.gC n 0 lo:T):dc)/\(gd lo hi L n).2.1=((HT.gC n n hi:T):dc)/\(gd lo hi L n).2.2=1:=by
 refine⟨?_,?_,W⟩
 .cases lo with
  |none=>simp[gd,HT.gC]
  |some i=>
    rw[<-HT.FQ];simp only[gd,Io,show(1:dc) > 0 by decide,e6];exact HT.cl9 i n
 .cases hi with
  |none=>simp[gd,HT.gC]
  |some i=>
    rw[<-HT.FQ];simp only[gd,Io,show(1:dc) > 0 by decide,e6];exact HT.cl9 i n
def wA(b:O ag)(lo hi:a5 dc):slicePick b.toArray lo hi L=((b.drop (HT.gC b.length 0 lo)).take (HT.gC b.length b.length hi - HT.gC b.length 0 lo)).toArray:=by
 obtain⟨h1,h2,h3⟩:=yS lo hi _;unfold slicePick;rw[h1,h2,h3];simp only[sliceRange_one,pick_run,aZ]<;>rfl
def YV(K:aE):V->a5 dc->a5 dc->Hp->VK->Prop:=λx c hi H Q=>∃a b,x=.ref a/\pv K H a b/\∀p,H p=L->Q (.ref p) (upd H p (.lst (DQ b c hi)))
def NN:Yv X (YV X.K):=by
 intro h_ s σ H x v g i l hi sl Q I c n pl d h;refine ac λ_ k=>?_;obtain⟨a,o,rfl,e,q⟩:=h;cases c;obtain⟨p,r,m,f⟩:=I.list e;refine k ?_;have hlen:=r.length;refine⟨_,_,slot_list_getitem.lookup,m.isList.typeIs,?_⟩;refine wpAny_getItem_list_slice m.isList n pl d .none (by simp) ?_ (by simp_all);rw[wA,<-hlen];refine⟨.ref _,_,I.laid (λb j q=>hp9 _ q) (aw _) ?_,W,q _ (I.hok.fresh (aw _))⟩;exact⟨ab (tf o l hi) f,_,0,(r.drop (HT.gC _ 0 l)).take (HT.gC _ _ hi - HT.gC _ 0 l),ax _ W⟩
def y8:iA X (dj .NotIn) (λx y H Q=>∃i j,x=.str i/\y=.str j/\Q (.bl (!(!(iL j i 0 j.length 1).isEmpty))) H):=by
 intro h_ s σ H x y v u Q I b c h;obtain⟨i,j,rfl,rfl,q⟩:=h;obtain⟨t,rfl⟩:=b;obtain⟨d,rfl⟩:=c;exact notIn_str ⟨.bl _,H,I,W,q⟩
def qN:iB X (.builtin "len") (λxs H Q=>∃p o,xs=[.ref p]/\(pv X.K H p o\/yv X.K H p o)/\Q (.int o.length) H):=by
 intro h_ s σ H xs us Q I r h;obtain⟨p,o,rfl,b,q⟩:=h;obtain⟨u,rfl,d⟩:=vals1 r;cases d;have f:=rX
 rcases b with b|b
 .obtain⟨g,c,pl,e⟩:=I.list b;have hlen:=c.length;exact Calls.call_len_list pl.isList (by simp only[aZ]<;>omega) ⟨.int _,H,I.tok _,⟨_,by rw[aZ,hlen]⟩,q⟩
 .obtain⟨g,c,pl,e⟩:=I.tuple b;have hlen:=c.length;exact PyProof.Rows.len_tuple pl (by simp only[aZ]<;>omega) ⟨.int _,H,I.tok _,⟨_,by rw[aZ,hlen]⟩,q⟩
def zJ:iB X (.builtin "len") (λxs H Q=>∃z,xs=[.str z]/\z.length<=aD/\Q (.int z.length) H):=by
 intro h_ s σ H xs us Q I r h;obtain⟨z,rfl,b,q⟩:=h;obtain⟨u,rfl,t,rfl⟩:=vals1 r;have c:=rX;exact len_str (by omega) ⟨.int _,H,I.tok _,⟨_,W⟩,q⟩
def qM:iB X (.type "list") (λxs H Q=>∃p t,xs=[.ref p]/\(pv X.K H p t\/yv X.K H p t)/\∀l,H l=L->Q (.ref l) (upd H l (.lst t))):=by
 intro h_ s σ H xs us Q I r h;obtain⟨p,t,rfl,f,q⟩:=h;obtain⟨u,rfl,j⟩:=vals1 r;cases j
 have fin:∀(k:O ag),cH t k->Z t<=aD->∀(m:cg) (c:T),(∀b v,s.heap.get? b=Y v->m.get? b=Y v)->
   m.get? s.heap.objs.size=Y { cls:=.type "list",dict:=L,data:=.seq k.toArray c,slots:=#[] }->EP X h_ σ Q (.ref s.heap.objs.size) { s with heap:=m }:=λk d g m c kp e=>
  ⟨.ref s.heap.objs.size,_,I.laid (t':=s.toks) kp (aw _) (show jO X.prog X.w _ m _ (.lst t)from⟨g,k,c,d,e⟩),W,q _ (I.hok.fresh (aw _))⟩
 rcases f with f|f
 .obtain⟨k,d,pl,g⟩:=I.list f;have hlen:=d.length;obtain⟨o,ho,i,n,hd⟩:=pl.isList;exact call_list_seq p (.inl rfl) ho i hd (λm c kp e=>fin k d g m c kp e) (by simp only[aZ]<;>exact Nat.le_trans (Nat.le_of_eq hlen.symm) g)
 .obtain⟨k,d,pl,g⟩:=I.tuple f;have hlen:=d.length;obtain⟨o,ho,i,n,hd⟩:=pl;exact call_list_seq p (.inr rfl) ho i hd (λm c kp e=>fin k d g m c kp e) (by simp only[aZ]<;>omega)
def pI:iB X (.type "tuple") (λxs H Q=>∃p t,xs=[.ref p]/\((pv X.K H p t/\∀l,H l=L->Q (.ref l) (upd H l (.tup t)))\/(yv X.K H p t/\Q (.ref p) H))):=by
 intro h_ s σ H xs us Q I r h;obtain⟨p,t,rfl,h⟩:=h;obtain⟨u,rfl,i⟩:=vals1 r;cases i
 rcases h with⟨c,q⟩|⟨c,q⟩
 .obtain⟨k,d,pl,f⟩:=I.list c;have hlen:=d.length;refine call_tuple_list pl.isList (λm kp=>?_) (by grind);have g:Inv X h_ σ H { s with heap:=m }:=I.kept kp
  have j:Inv X h_ σ (upd H _ (.tup t)) { s with heap:=m.push { cls:=.type _,data:=.seq _ } }:=
   g.laid (λb o e=>hp9 _ e) (aw _) (⟨f,_,d,IS _ _⟩)
  exact⟨.ref _,_,j,W,q _ (g.hok.fresh (aw _))⟩
 .obtain⟨k,d,pl,f⟩:=I.tuple c;exact call_tuple_same pl ⟨.ref p,H,I,W,q⟩
def Yh(K:aE)(T':eS)(x:V)(H:Hp):Prop:=match x with
 |.str _=>T'="str"
 |.int _=>T'="int"
 | .ref p=>(T'="list"/\∃c,pv K H p c)\/(T'="tuple"/\∃o,K.lookup p=Y o/\o.cls=.type "tuple"/\o.dict=L)\/
   (T'="dict"/\((∃b,H p=Y (.dK b))\/∃b,H p=Y (.dT b)))\/(T'="set"/\∃S n,H p=Y (.set S n))
 |_=>False
theorem Ja{T':eS}(I:Inv X h_ σ H s)(r:RelV x v)(ty:Yh X.K T' x H) :
  s.TypeIs v T'/\∀a,v=.ref a->∃ob,s.heap.get? a=Y ob/\ob.dict=L:=by
 cases x with
 |str z=>
   obtain⟨t,rfl⟩:=r;cases(show T'="str" from ty);exact⟨pO s z t,λ_ e=>nomatch e⟩
 |int i=>
   obtain⟨t,rfl⟩:=r;cases(show T'="int" from ty);exact⟨typeIs_int s i t,λ_ e=>nomatch e⟩
 |ref p=>
   cases r
   rcases ty with⟨rfl,k,f⟩|⟨rfl,o,b,g,hd⟩|⟨rfl,b⟩|⟨rfl,S,n,b⟩
   .obtain⟨h,_,pl,_⟩:=I.list f;refine⟨pl.isList.typeIs,λa e=>?_⟩;cases e;obtain⟨o,n,e,c,hd,_⟩:=pl;exact⟨o,e,hd⟩
   .refine⟨⟨o,I.Dy p o b,g⟩,λa e=>?_⟩;cases e;exact⟨o,I.Dy _ o b,hd⟩
   .have z:∃o,s.heap.get? p=Y o/\o.ExactDict:=by
     rcases b with⟨j,b⟩|⟨j,b⟩
     .obtain⟨_,_,_,_,o,_,_,e,ex,_⟩:=I.hok p _ b;exact⟨o,e,ex⟩
     .obtain⟨_,_,_,_,o,_,_,e,ex,_⟩:=I.hok p _ b;exact⟨o,e,ex⟩
    obtain⟨o,e,ex⟩:=z;refine⟨⟨o,e,ex.1⟩,λa d=>?_⟩;cases d;exact⟨o,e,ex.2.1⟩
   .obtain⟨o,_,_,_,e,ex,_⟩:=I.hok p _ b;refine⟨⟨o,e,ex.1⟩,λa d=>?_⟩;cases d;exact⟨o,e,ex.2.1⟩
 |_=>exact ik ty
def V4(K:aE)(T':eS)(r:V->O V->Hp->VK->Prop)(to:TE):TE:=λσ H Q=>to σ H λx b=>Yh K T' x b/\r x [] b Q
def YL(K:aE)(T':eS)(r:V->O V->Hp->VK->Prop)(to:TE)(t:TA):TE:=λσ H Q=>to σ H λx b=>Yh K T' x b/\t σ b λc d=>r x c d Q
variable{apos cpos:uo}{T' id:eS}
def S0(e:PlainAttrs T')(slot:Slot T' name id)(f:n3 (.builtin id)=pure (.type "method_descriptor"))(t:Rf X id r)(ho:PE X o to)
  (B:gw o name X.env (eval o X.env)=eval o X.env)(u:(apos.endLine == cpos.line)=U):PE X (.Call (.Attribute o name apos) [] [] cpos) (V4 X.K T' r to):=by
 intro h_ s σ H Q I h;refine wpAny_Call_method0_late B u (fT (ho h_ s σ H _ I h) λv s1 ⟨x,c,b,r1,ty,d⟩=>?_);obtain⟨h1,h2⟩:=Ja b r1 ty;exact⟨T',id,e,slot,f,h1,h2,Ah W (PySem.evalArgs_none (t h_ s1 σ c x [] v [] Q b r1 .nil d))⟩
def ET(C:PlainAttrs T')(slot:Slot T' name id)(z:n3 (.builtin id)=pure (.type "method_descriptor"))(F:Rf X id r)(ho:PE X o to)(ha:PA X (e::es) t)
  (P:gw o name X.env (eval o X.env)=eval o X.env)
  (u:((e4 cpos (aL (e::es) X.env)).all (λx=>!x.1) && (backToKw cpos (m_ [] X.env)).all (λx=>x.1.isSome)
   && decide (Z (e::es)+Z ([]:O wa)+(if([]:O wa).isEmpty then 0 else 1)<30))=U:=by rfl)
  (y:(apos.endLine == cpos.line)=U:=by rfl)(hs:aL (e::es) X.env=(J,eval e X.env)::aL es X.env:=by rfl)(B:(e4 cpos (aL es X.env)).any (·.1)=J:=by rfl) :
  PE X (.Call (.Attribute o name apos) (e::es) [] cpos) (YL X.K T' r to t):=by
 intro h_ s σ H Q I h;refine wpAny_Call_method_late P u y W (fT (ho h_ s σ H _ I h) λv s1 ⟨x,d,b,r1,ty,f⟩=>?_);obtain⟨h1,h2⟩:=Ja b r1 ty;refine⟨T',id,C,slot,z,h1,h2,?_⟩;have c:=ha cpos h_ s1 σ d _ b f;rw[hs]at c ⊢;refine Ah (by show(J || (e4 cpos (aL es X.env)).any (·.1))=J;rw[B]<;>rfl) (Calls.evalArgs_plain ?_);exact fT c λus s2 ⟨vs,j,g,r2,i⟩=>F h_ s2 σ j x vs v us Q g r1 r2 i
end
def MtM(X:Cx)(B:eS)(r:V->O V->Hp->VK->Prop):Prop:=
 ∀(h_:O (aC×k8))(s:ao)(σ:St)(H:Hp)(x:V)(a:O V)(v:ag)(us:O ag)(Q:VK),Inv X h_ σ H s->RelV x v->cH a us->r x a H Q->
  aA (aB X.prog X.w) X.A (call (.builtin B) (v::us)) (EP X h_ σ Q) X.xe s
theorem cH.one:∀{x:V}{us:O ag},cH [x] us->∃u,us=[u]/\RelV x u
 |_,_,.cons r .nil=>⟨_,W,r⟩
section
def Inv.W1{o its':O ag}(I:Inv X h_ σ H s)(B:H l=Y (.lst xs))
  (e:s.heap.get? l=Y { cls:=.type "list",data:=.seq o.toArray n })(hf:f o.toArray=its'.toArray)(y:cH t its')(c:Z t<=aD) :
  Inv X h_ σ (upd H l (.lst t)) { s with heap:=s.heap.update l (fB f),toks:=t' }:=by
 have q:=PySem.IsL.update e f;rw[hf]at q;refine I.write (x:=l) (e:=l) (by rw[B];exact trivial) (.inl rfl) (λb u hb a=>(jE s.heap (fB f) (eW hb)).trans a) ⟨_,q⟩ ?_;exact⟨c,its',_,y,q⟩
def Inv.W4(I:Inv X h_ σ H s)(B:cH c b)(e:Z c<=aD) :
  Inv X h_ σ (upd H s.heap.objs.size (.lst c)) { s with heap:=s.heap.push { cls:=.type "list",data:=.seq b.toArray },toks:=t' }:=
 I.laid (λ_ _ q=>hp9 _ q) (aw _) ⟨e,_,0,B,ax _ W⟩
def Inv.fresh(I:Inv X h_ σ H s):H s.heap.objs.size=L:=I.hok.fresh (aw _)
def Inv.WZ(I:Inv X h_ σ H s)(B:H l=Y (.lst xs)):Z xs<=aD/\∃(b:O ag) (n:T),cH xs b/\Z xs=Z b/\s.heap.get? l=Y { cls:=.type "list",data:=.seq b.toArray n }:=by
 obtain⟨z,b,n,r,e⟩:=I.hok l _ B;exact⟨z,_,n,r,r.length,e⟩
end
section
def EI:V->O V->Hp->VK->Prop:=λx vs H Q=>∃l a y,x=.ref l/\vs=[y]/\H l=Y (.lst a)/\Z a<aD/\Q .non (upd H l (.lst (a++[y])))
def Hq:MtM X "list.append" EI:=by
 intro h_ s σ H x vs v us Q I b c h;refine ac λ_ g=>?_;obtain⟨l,j,y,rfl,rfl,a,d,q⟩:=h;cases b;obtain⟨u,rfl,f⟩:=c.one;obtain⟨z,i,n,r,hl,e⟩:=I.WZ a;refine g ?_;refine PySem.call_meets wg ⟨_,e,W⟩ F.entry_list_append (F.args_list_append_2 _ _) (PySem.list_append l _ n u (by simp_all)) ⟨e,?_⟩;refine⟨.non,_,I.W1 a e (by simp) (r.append (.cons f .nil)) ?_,W,q⟩;rwa[aN]
end
section
end
section
end
end L2
namespace Att
open PySem PySem.W PySem.Calls PyProof.Rows
def tL:∀(ns:O dc)(vs:O ag),WellAll P h vs (ns.map WData.int)->lM vs ns:=by
 intro ns
 induction ns with
 |nil=>
   intro vs w;cases w;exact .nil
 |cons n ns c=>
   intro vs w
   cases w with
   |cons a b=>
     cases a;exact .cons _ _ (c _ b)
theorem GW{l:iV}(o:l.most=Y n)
  (B:l.row.toRowW.claim.pre args=U)(t:WellAll P h vals args) :
  ∃a vs ns,vals=[cQ a]/\args=[WData.list (ns.map WData.int)]/\h.get? a=Y { cls:=.type "list",data:=.seq vs.toArray }/\lM vs ns/\Z ns<=n:=by
 obtain⟨d,r,rfl,h1,h2⟩:=hasAllW_cons ((pre_splitW B).1);obtain rfl:=hasAllW_nil h2;obtain⟨g,rfl,h3⟩:=hasW_list h1;obtain⟨ns,rfl⟩:=items_int h3
 have hlen:Z ns<=n:=by
  have c:(WTm.not (.lt (.lit (.int (n))) (.len (.arg 0)))).holds [] { args:=[.list (ns.map .int)] }=U:=by
   have c:=(holds_andW ((pre_splitW B).2)).1;rwa[o]at c
  have i:=condW_of c (w_not (w_lt w_lit (w_len_list (w_arg W))))
  simp_all
 cases t with
 |cons e f=>
   cases f
   cases e with
   |list ho b=>exact⟨_,_,ns,W,W,ho,tL ns _ b,hlen⟩
def Hf(l:iV)(args:O WData):l.row.toRowW.claim.post args (.bool U) args=U:=
 postW_of
  (by first|rfl|decide|simp)
  (w_eq_bool (w_res W) w_lit) W
def BZ{l:iV}{d:DefRec}
  (R:l.most=Y n)(y:d.params.defaults=[])
  (call:∀(w:cT)(s₀ C:ao)(mg P:bw->a5 ag)(B:aC)(o:k8)(pm F doc:ag)(a:aC)(vs:O ag)(ns:O dc),
   Ground q loose [] S w s₀ mg P C.heap->YP w C.heap->
   C.heap.get? B=Y o->o.data=.func (docDef d.name d.params d.body d.scope pm F doc)->C.heap.CodeRec F d.name->mg d.name=Y (.ref B)->
   C.heap.get? a=Y { cls:=.type "list",data:=.seq vs.toArray }->lM vs ns->Z ns<=n->C.gens=#[]->
   fC (aB l.prog w) l_ (.call (.ref B) ⟨[.ref a],[]⟩) (λr I=>r=.ok (.ret (.bool U))/\OldK C.heap I.heap/\I.os=C.os/\n5 I.gens) C) :
  v9 q loose S YP l.row.toRowW d [] (λf vs=>Gh f vs):=by
 intro w s₀ C mg P G z B o pm F doc k kV ho hd e i g m args vals as b j p h s;refine ac λ_ x=>?_;obtain rfl:k=.none:=Dflts.none i y;obtain rfl:kV=.none:=Dflts.noKw i;obtain⟨a,vs,ns,rfl,rfl,c,hints,hlen⟩:=GW R b h;refine x ?_;refine enter_call (ku (call w _ _ mg P B o pm F _ a vs ns G z ho (fd_plain hd) e g c hints hlen m) λr I t=>?_);obtain⟨rfl,h2,h3,u⟩:=t;exact⟨.inl ⟨_,_,[],W,λ_=>W,.bool U,Hf l _,λ_=>⟨wY,λ_ v=>(nomatch v)⟩⟩,h2,h3,u⟩
section
variable{K:aE}
end
end Att
namespace L2
open PySem PySem.Spec PyProof.Rows
theorem xk:∀{vs:O ag}{ns:O dc},lM vs ns->cH (ns.map V.int) vs
 |_,_,.nil=>.nil
 |_,_,.cons n t h=>.cons ⟨t,W⟩ (xk h)
def Vn(H:Hp):Prop:=∀b,H b=L\/∃o a,H b=Y (.kH o (.lst a))
theorem K2{K:aE}{S:ao}{vs:O ag}
  (KX:K.In S.heap)(O':S.heap.Ns ek mg)(hb:S.heap.Ns nq mb)(I:∀x:bw,x≠"__name__"->mb x=ei x)(R:S.heap.NoLimit)(hg:S.gens=#[])
  (ha:S.heap.get? a=Y { cls:=.type "list",data:=.seq vs.toArray })(hi:lM vs ns)(hl:Z ns<=aD)(hr:mY k l_)
  (F:∀base:cg,K.In base->base.Ns ek mg->nH P w K mg base CX k fa fd [x] sp)(B:∀(s:ao)(u:ag),wo s fd ⟨[u],[]⟩ [(x,u)])
  (hsp:∀H:Hp,Vn H->pv K H a (ns.map V.int)->sp [.ref a] H (λv _=>v=.bl U) λ_ _ _=>False)
  (hCX:∀H e s',CX [] H S (λ_ _ _=>False) e s'->False) :
  fC (aB P w) l_ (.call (.ref fa) ⟨[.ref a],[]⟩) (λr s'=>r=.ok (.ret (.bool U))/\OldK S.heap s'.heap/\s'.os=S.os/\n5 s'.gens) S:=by
 have y:=xk hi;have core:∀H:Hp,Vn H->pv K H a (ns.map V.int)->qQ P w H S.heap->(∀b,H b≠L->b=a)->(H a≠L->K.lookup a=L)->
   fC (aB P w) l_ (.call (.ref fa) ⟨[.ref a],[]⟩) (λr s'=>r=.ok (.ret (.bool U))/\OldK S.heap s'.heap/\s'.os=S.os/\n5 s'.gens) S:=by
  intro H A D hok C E;have c:∀{b:aC}{o:k8},S.heap.get? b=Y o->H b=L->(Bj _ H).get? b=Y o:=λe n=>Lk e n
  have l:∀{b:aC}{o:k8}{G:eb _}{Q:T},S.heap.get? b=Y o->o.data=.dict G Q->H b=L:=λ{b o G Q}e d=>by
   cases q:H b with
   |none=>rfl
   |some u=>
     have p :=C b (by rw[q];simp);subst p;rw[ha]at e;cases e;cases d
  have f:∀{b:aC}{m:bw->a5 ag},S.heap.Ns b m->(Bj _ H).Ns b m:=λ{b m} ⟨o,G,Q,e,d,r⟩=>⟨o,G,Q,c e (l e d),d,r⟩
  have i :=λb o e=>c (KX b o e) (by
   cases q:H b with
   |none=>rfl
   |some u=>
     have p :=C b (by rw[q];simp);subst p
     rw[E (by rw[q];simp)]at e;cases e)
  refine ku ((F _ i (f O')).run _ [] _ H ⟨_,[]⟩ _ [.ref a] _ _ hr ⟨W,(⟨i,f O',⟨mb,f hb,I⟩,let ⟨mc,h1,h2⟩:=R;⟨mc,f h1,h2⟩⟩),λb o e=>OS e,af (Hy _ _),trivial,λb hb=>absurd (show b∈([])from hb) (by simp),hok,.of_eq hg⟩ (B _ _) (.cons rfl .nil) (hsp H A D)) λr s' h=>?_
  cases r with
  |error e=>exact(hCX H e s' h).elim
  |ok fl=>
    cases fl with
    |next=>exact ik h
    |brk=>exact ik h
    |cont=>exact ik h
    |ret u=>
      refine ac λ_ g=>?_;obtain⟨v,H',os,bare,un,j,J',rfl⟩:=h;obtain rfl:u=Value.bool U:=J';refine g ?_;refine⟨W,OldK.of_keep λb o e=>?_,os,bare⟩
      cases q:H b with
      |none=>exact un.keep b o e q (by intro z;exact absurd (show b∈([])from z) (by simp)) (by simp)
      |some u=>
        rcases A b with z|⟨M,xs,z⟩
        .rw[q]at z;cases z
        .have N:=un.frzs b M _ z;obtain⟨e1,_⟩:=hok b _ z;rw[e]at e1;cases e1;exact (j b _ N).1
 cases X:K.lookup a with
 |some o=>
   have e:=KX a o X;rw[ha]at e;refine ac λ_ g=>?_;cases e;refine g ?_;refine core _ (λ_=>.inl rfl) (.inr ⟨_,_,_,X,W,W,W,by rwa[aZ,hi.length],by simpa using y⟩) (λb u z=>by cases z) (λb z=>absurd rfl z) λz=>absurd rfl z
 |none=>
   refine core (λb=>if b=a then Y (.kH { cls:=.type "list",data:=.seq vs.toArray } (.lst (ns.map _)))else L) (λb=>?_) (.inl (.inr ⟨{ cls:=.type _,data:=.seq _ },a6 W⟩)) (λb u z=>?_) (λb z=>?_) λ_=>X
   .by_cases hb:b=a
    .exact .inr ⟨_,_,a6 hb⟩
    .exact .inl (c4 hb)
   .by_cases hb:b=a
    .have t:=(a6 hb).symm.trans z;cases t;subst hb;exact⟨ha,by simp_all,vs,_,y,ha⟩
    simp_all
   simp_all
noncomputable abbrev KOf{K:aE}{h:cg}(_:K.In h):aE:=K
def Ng{l:iV}{n k:T}{q:cA}{loose:O bw}{XP:(bw->a5 ag)->cg->Prop}{YP:cT->cg->Prop}{d:DefRec}{K:Params->aE}{CX:cT->VT}{sp:cT->Sp}{x:bw}
  (hn:l.most=Y n)(O':n<=aD)(C:d.params.defaults=[])(hr:mY k l_)
  (hY:∀(w:cT)(h:cg),YP w h->(K w.params).In h)
  (F:∀(w:cT)(mg:bw->a5 ag)(B:aC)(h:cg),(K w.params).In h->h.Ns ek mg->mg d.name=Y (.ref B)->
   ∃I:ig,(∀(s:ao)(u:ag),wo s I ⟨[u],[]⟩ [(x,u)])/\
    ∀base:cg,(K w.params).In base->base.Ns ek mg->nH l.prog w (K w.params) mg base (CX w) k B I [x] (sp w))
  (P:∀(w:cT)(H:Hp)(a:aC)(ns:O dc),Z ns<=n->Vn H->pv (K w.params) H a (ns.map V.int)->sp w [.ref a] H (λv _=>v=.bl U) λ_ _ _=>False)
  (R:∀(w:cT)(H:Hp)(s:ao)(e:ag)(S:ao),CX w [] H s (λ_ _ _=>False) e S->False) :
  v9 q loose XP YP l.row.toRowW d [] (λf vs=>Gh f vs):=by
 refine Att.BZ hn C λw s₀ D mg E B o pm z doc a vs ns G A ho hd m i c hints hlen p=>?_;have j:=hY w _ A;obtain⟨I,hb,r⟩:=F w mg B _ j G.T.g i;exact K2 j G.T.g G.T.b G.T.builtins G.T.nolimit p c hints (ab hlen O') hr r hb (λH t y=>P w H a ns hlen t y) λH e S=>R w H _ e S
end L2
namespace L2
open PySem PySem.Spec PyProof.Rows
noncomputable def zz(s:l9):Arguments:=match s with
 |.FunctionDef _ a _ _ _ _ _ _ _ _=>a
 |_=>{ posonlyargs:=[],args:=[],vararg:=L,kwonlyargs:=[],kw_defaults:=[],kwarg:=L,defaults:=[] }
noncomputable def o4(s:l9):O l9:=match s with
 |.FunctionDef _ _ b _ _ _ _ _ _ _=>b
 |_=>[]
noncomputable def dF(s:l9):mD:=match s with
 |.FunctionDef _ _ _ _ _ _ sc _ _ _=>sc
 |_=>{ kind:=.function,names:=[],isGenerator:=J,isCoroutine:=J }
abbrev Ic:VT:=λ_ _ _ _ _ _=>False
abbrev E0:XK:=λ_ _ _=>False
def QB:zP Ic X E0:=λ_ _ _ _ _ _ _ h=>h.elim
structure Yx(K:aE)(x qual:bw)(st:l9)(f:aC)(fd:ig):Prop where
 ex:∃(oc:ag) (od:a5 aC) (kV doc pm:ag) (an:a5 aC) (cdv ct:ag) (osl:eb (a5 ag)),
  fd=qe x qual (zz st) (o4 st) (dF st) .none kV doc pm an cdv ct/\K.lookup f=Y ⟨oc,od,.func fd,osl⟩/\um K cdv qual=U
 kp:fj K (.ref f)=U
section
variable{K:aE}{base:cg}
def Yx.ok{st:l9}{ps:O bw}(F:Yx K x qual st f fd)(S:qR N ps (dF st))(len:∀vs H Q E,sp vs H Q E->Z vs=Z ps)
  (B:∀(cdv:ag)(A:bZ)(outer:O Qn)(s:ao)(H:Hp)(vs:O V)(Q:VK)(E:XK),mY k (A.deeper (hO qual (dF st) s.heap.objs.size f cdv))->sp vs H Q E->
   ∃t,B3 (BG Ic P w K mg base N qual (dF st) f cdv A outer s H E).VA (o4 st) t/\t { nx:=λ_ e=>Q .non e,rt:=Q } (start N vs) H):nH P w K mg base Ic (k+1) f fd ps sp:=by
 obtain⟨oc,od,kV,doc,pm,an,cdv,ct,osl,rfl,c,a⟩:=F.ex;refine Xr c a S len λA outer s H vs Q E d b=>?_;obtain⟨t,h,q⟩:=B cdv A outer s H vs Q E d b;exact⟨t,h.VA,q⟩
end
section
end
def DC{A B:Prop}(h:B):if J=U then A else B:=by
 exact h
def DB{A B:Prop}(h:A):if U=U then A else B:=by
 exact h
def cc(H c:Hp):Prop:=∀b o,H b=Y o->c b=Y o
def cc.refl(H:Hp):cc H H:=λ_ _ h=>h
def cc.trans(a:cc H e)(b:cc e f):cc H f:=λc o h=>b c o (a c o h)
def cc.free(e:cc H b)(h:b l=Option.none):H l=Option.none:=by
 cases q:H l with
 |none=>rfl
 |some o=>
   rw[e l o q]at h;cases h
def cc.seq{K:aE}(e:cc H b)(h:pv K H a xs):pv K b a xs:=by
 rcases h with(h|⟨o,h⟩)|h
 .exact .inl (.inl (e _ _ h))
 .exact .inl (.inr ⟨o,e _ _ h⟩)
 .exact .inr h
section
variable{κ:Type}[eu κ]
noncomputable def ot(b:O (κ×V))(k:κ):a5 V:=(b.find? λa=>decide (a.1=k)).map (·.2)
noncomputable def putK(b:O (κ×V))(k:κ)(v:V):O (κ×V):=
 if(b.any λa=>decide (a.1=k))=U then b.map (λa=>if a.1=k then(a.1,v)else a)else b++[(k,v)]
def qk{p:κ×V}{r:O (κ×V)}{k:κ}(e:p.1=k):ot (p::r) k=Y p.2:=by simp[ot,e]
def oo{p:κ×V}{r:O (κ×V)}{k:κ}(e:¬p.1=k):ot (p::r) k=ot r k:=by simp[ot,e]
theorem Al(k:κ):∀b:O (κ×V),(b.any λB=>decide (B.1=k))=(ot b k).isSome
 |[]=>rfl
 |p::r=>by
   rw[kC];by_cases e:p.1=k
   .simp only[qk e,cb e,Bool.true_or,Option.isSome_some]
   .rw[oo e,dd e];exact Al k r
def sW(b:O (κ×V))(k:κ)(v:V):Z (putK b k v)<=Z b+1:=by
 unfold putK;split
 .simp
 simp
def wN.mS(r:wN o u):o.isSome=u.isSome:=by
 cases o with
 | none=>cases u with
   |none=>rfl
   |some _=>exact(r).elim
 | some _=>cases u with
   |none=>exact(r).elim
   |some _=>rfl
def KV.val(r:KV f vs)(k:κ):wN (ot f k) (ma vs k):=by
 induction r with
 |nil=>exact jh
 | @cons p q ps a h t d=>
   obtain⟨h1,h2⟩:=h;by_cases e:p.1=k
   .have c :=h1.symm.trans e;have b:ma (q::a) k=Y q.2:=by simp[ma,c]
    rwa[qk e,b]
   .have c:¬q.1=k:=λz=>e (h1.trans z);have b:ma (q::a) k=ma a k:=by simp[ma,c]
    rwa[oo e,b]
def KV.any(r:KV b vs)(k:κ):(b.any λB=>decide (B.1=k))=vs.any λB=>decide (B.1=k):=by
 induction r with
 |nil=>rfl
 |cons h t a=>simp_all
theorem KV.Su(r:KV c vs)(k:κ)(f:RelV y u) :
  KV (c.map λB=>if B.1=k then(B.1,y)else B) (vs.map λB=>if B.1=k then(B.1,u)else B):=by
 induction r with
 |nil=>exact .nil
 | @cons p q ps b h t a=>
   rw[ak];refine .cons ?_ a;by_cases e:p.1=k
   .simp_all
   simp_all
def KV.put(r:KV b vs)(k:κ)(B:RelV y u):KV (putK b k y) (stored vs k u):=by
 unfold putK stored;rw[r.any k];by_cases e:(vs.any λa=>decide (a.1=k))=U
 .rw[a6 e,a6 e];exact r.Su k B
 .rw[c4 e,c4 e];exact Paired.snoc r ⟨W,B⟩
def KV.length{b:O (κ×V)}{vs:O (κ×ag)}(r:KV b vs):Z b=Z vs:=pQ r
end
def sY(r:RelV (kV k) u):(cf P w).is k u=U:=by
 cases k with
 |inl i=>obtain⟨t,rfl⟩:=(r);exact AY P w i t
 |inr x=>obtain⟨t,rfl⟩:=(r);exact AX P w x t
theorem xS:∀{b:O Key}{us:O ag},cH (b.map kV) us->ItemsAre (cf P w) b us
 |[],_,r=>by cases r;exact .nil
 |k::b,_,r=>by
   cases r with
   |cons h t=>exact .cons (sY h) (xS t)
abbrev KT(H:Hp):O (O Key×V)->O (O Key×aC×ag)->Prop:=fS λp q=>p.1=q.1/\H q.2.1=Y (.tup (p.1.map kV))/\RelV p.2 q.2.2
def KT.val(r:KT H f xs)(k:O Key):wN (ot f k) ((hW xs k).map (·.2)):=by
 induction r with
 |nil=>exact jh
 | @cons p q ps a h t d=>
   obtain⟨h1,_,h2⟩:=h;by_cases e:p.1=k
   .have c :=h1.symm.trans e;have b:hW (q::a) k=Y q.2:=by simp[hW,c]
    rw[qk e,b];exact h2
   .have c:¬q.1=k:=λz=>e (h1.trans z);have b:hW (q::a) k=hW a k:=by simp[hW,c]
    rw[oo e,b];exact d
theorem KT.Su(r:KT H c xs)(k:O Key)(f:RelV y u) :
  KT H (c.map λB=>if B.1=k then(B.1,y)else B) (xs.map (putAt k u)):=by
 induction r with
 |nil=>exact .nil
 | @cons p q ps b h t a=>
   rw[ak];refine .cons ?_ a;obtain⟨h1,h2,h3⟩:=h;unfold putAt;by_cases e:p.1=k
   .rw[a6 e,a6 (h1.symm.trans e)];exact⟨h1,h2,f⟩
   .rw[c4 e,c4 (λz=>e (h1.trans z))];exact⟨h1,h2,h3⟩
def KT.put(r:KT H c xs)(k:O Key)(hb:H b=Y (.tup (k.map kV)))(B:RelV y u) :
  KT H (putK c k y) (storedH xs k b u):=by
 have e:(c.any λa=>decide (a.1=k))=(hW xs k).isSome:=by
  rw[Al,(r.val k).mS,qU]
 unfold putK storedH;rw[e];by_cases q:(hW xs k).isSome=U
 .rw[a6 q,a6 q];exact r.Su k B
 .rw[c4 q,c4 q];exact Paired.snoc r ⟨W,hb,B⟩
def KT.keeps(r:KT H e xs)(f:∀b c,H b=Y (.tup c)->o b=Y (.tup c)):KT o e xs:=
 Paired.TK r λ_ _ z=>⟨z.1,f _ _ z.2.1,z.2.2⟩
section
def Qy(ok:qQ P w H h)(e:Rd H a u):jO P w H h a u:=e.ok ok
def x9(ok:qQ P w H h)(e:Rd H a (.dK b)):Z b<=aD/\(a == et)=J/\∃vs,KV b vs/\h.DictOf (cf P w) a vs:=
 Qy ok e
def QU(ok:qQ P w H h)(e:H a=Y (.dK b)):Z b<=aD/\(a == et)=J/\∃vs,KV b vs/\h.DictOf (cf P w) a vs:=x9 ok (.inl e)
def vm{f:O Key}(ok:qQ P w H h)(e:H a=Y (.tup (f.map kV))):(j0 (cf P w)).is h f a:=by
 refine ac λ_ b=>?_;obtain⟨_,c,r,o,h1,h2,n,h3⟩:=(ok a _ e)
 refine b ?_;exact⟨o,c.toArray,n,h1,h2,h3,by simpa using xS r⟩
theorem BC(ok:qQ P w H h)(e:Rd H a (.dT u)):Z u<=aD/\(a == et)=J/\
  ∃xs,KT H u xs/\h.DictOfH (j0 (cf P w)) a xs:=by
 refine ac λ_ i=>?_;obtain⟨z,y,xs,r,o,j,k,h1,h2,h3,c,n⟩:=(Qy ok e)
 refine i ?_;refine⟨z,y,xs,r,o,j,k,h1,h2,h3,c,λx b=>?_,n⟩
 have all:∀{l:O (O Key×V)}{m:O (O Key×aC×ag)},KT H l m->∀x∈m,(j0 (cf P w)).is h x.1 x.2.1:=by
  intro l m q
  induction q with
  |nil=>simp
  | @cons p q ps f g t d=>
    intro x b
    rcases aq.mp b with e|b
    .exact vm ok (by simp_all)
    .exact d x b
 exact all r x b
def XB(ok:qQ P w H h)(e:H a=Y (.dT b)):Z b<=aD/\(a == et)=J/\
  ∃xs,KT H b xs/\h.DictOfH (j0 (cf P w)) a xs:=BC ok (.inl e)
end
def wO(H:Hp)(a:aC)(y:V)(r:a5 V):Prop:=
 (∃c k,Rd H a (.dK c)/\y=kV k/\r=ot c k)\/∃c k b,Rd H a (.dT c)/\y=.ref b/\H b=Y (.tup (k.map kV))/\r=ot c k
def Qf(H:Hp)(a:aC)(y v:V)(e:Hp):Prop:=
 (∃c k,H a=Y (.dK c)/\y=kV k/\Z c<aD/\e=upd H a (.dK (putK c k v)))\/
 ∃c k b,H a=Y (.dT c)/\y=.ref b/\H b=Y (.tup (k.map kV))/\Z c<aD/\e=upd H a (.dT (putK c k v))
def wO.k{H:Hp}{a:aC}{b:O (Key×V)}{k:Key}(e:H a=Y (.dK b)):wO H a (kV k) (ot b k):=.inl ⟨b,k,.inl e,W,W⟩
def Qf.k{H:Hp}{a:aC}{b:O (Key×V)}{k:Key}{v:V}(e:H a=Y (.dK b))(hl:Z b<aD):Qf H a (kV k) v (upd H a (.dK (putK b k v))):=.inl ⟨b,k,e,W,hl,W⟩
section
variable{A:bZ}
def Inv.big(I:Inv X h_ σ H s):et<s.heap.objs.size:=by
 exact dn iF ((I.mod.glob.keeps I.bk).lt)
def HJ(o:A.units+1<cO)(I:Inv X h_ σ H s)(g:wO H a y (Y v))(t:RelV y u)(h:∀B C,Inv X h_ σ H C->RelV v B->Q B C) :
  aA (aB X.prog X.w) A (hQ (.ref a) u) Q E s:=by
 rcases g with⟨q,k,e,d,l⟩|⟨q,k,b,e,d,m,l⟩
 .subst d;obtain⟨z,hd,vs,rel,f⟩:=x9 I.hok e;obtain⟨B,i,c⟩:=wN.some_of (by rw[l];exact rel.val k);exact wpAny_getItem_of (sY t) f.mapOf i (h B _ (I.tok _) c)
 .refine ac λ_ n=>?_;subst d;cases(t);obtain⟨z,hd,r,rel,f⟩:=BC I.hok e;obtain⟨B,i,c⟩:=wN.some_of (by rw[l];exact rel.val k);obtain⟨p,hp,j⟩:=dY i;refine n ?_;refine wpAny_getItem_heap (ng o) (vm I.hok m) f hp ?_;rw[j];exact h B _ (I.tok _) c
def ZF(C:A.units+1<cO)(I:Inv X h_ σ H s)(g:wO H a y o)(B:RelV y u)(h:∀t,Inv X h_ σ H t->Q (.bool o.isSome) t) :
  aA (aB X.prog X.w) A (dj .In u (.ref a)) Q E s:=by
 rcases g with⟨i,k,e,c,l⟩|⟨i,k,b,e,c,f,l⟩
 .subst c;obtain⟨z,hd,vs,rel,d⟩:=x9 I.hok e;refine wpAny_in_of (sY B) hd d.mapOf ?_;rw[<-(rel.val k).mS,<-l];exact h _ (I.tok _)
 .subst c;cases(B);obtain⟨z,hd,j,rel,d⟩:=BC I.hok e;refine Ge (ng C) (vm I.hok f) hd d ?_;have q:=(rel.val k).mS;rw[qU]at q;rw[<-q,<-l];exact h _ (I.tok _)
def PK(C:A.units+1<cO)(I:Inv X h_ σ H s)(g:wO H a y o)(B:RelV y u)(h:∀t,Inv X h_ σ H t->Q (.bool (!o.isSome)) t) :
  aA (aB X.prog X.w) A (dj .NotIn u (.ref a)) Q E s:=by
 rcases g with⟨i,k,e,c,l⟩|⟨i,k,b,e,c,f,l⟩
 .subst c;obtain⟨z,hd,vs,rel,d⟩:=x9 I.hok e;refine wpAny_notIn_of (sY B) hd d.mapOf ?_;rw[<-(rel.val k).mS,<-l];exact h _ (I.tok _)
 .subst c;cases(B);obtain⟨z,hd,j,rel,d⟩:=BC I.hok e;refine wpAny_notIn_heap (ng C) (vm I.hok f) hd d ?_;have q:=(rel.val k).mS;rw[qU]at q;rw[<-q,<-l];exact h _ (I.tok _)
def zB(I:Inv X h_ σ H s)(B:VO (H a))(hs:cJ a s.heap c)(f:∃q,c.get? a=Y q)(new:jO X.prog X.w (upd H a ob) c a ob) :
  Inv X h_ σ (upd H a ob) { s with heap:=c,toks:=t' }:=
 I.write (x:=a) (e:=a) B (.inl rfl) (λb q hb z=>(hs.2 b hb).trans z) f new
def UR{c:cg}{b:O (Key×V)}(z:Z b<=aD)(hd:(a == et)=J)(rel:KV b vs)(B:c.DictOf (cf P w) a vs) :
  jO P w e c a (.dK b):=⟨z,hd,vs,rel,B⟩
def HI(C:A.units+1<cO)(I:Inv X h_ σ H s)(g:Qf H a y v S)(B:RelV y u)(P:RelV v r)(h:∀R,Inv X h_ σ S R->Q () R) :
  aA (aB X.prog X.w) A (pb (.ref a) u r) Q E s:=by
 rcases g with⟨D,k,e,i,l,j⟩|⟨D,k,b,e,i,n,l,j⟩
 .subst i j;obtain⟨z,hd,vs,rel,m⟩:=QU I.hok e;have p:Z vs<=aD:=by rw[<-rel.length];exact z
  refine wpAny_setItem_pairs (sY B) m λG d F=>h _ ?_;exact zB I (by rw[e];exact jh) F (let ⟨q,_,_,f,_⟩:=d;⟨q,f⟩) (UR (ab (sW D k v) l) hd (rel.put k P) d)
 .subst i j;cases(B);obtain⟨z,hd,K,rel,m⟩:=XB I.hok e;have p:Z K<=aD:=by rw[<-pQ rel];exact z
  refine k6 (ng C) (vm I.hok n) m λG d F=>h _ ?_;refine ac λ_ x=>?_;obtain⟨q,M,N,f,h2,h3,t,_,V⟩:=d;refine x ?_;refine zB I (by rw[e];exact jh) F ⟨q,f⟩ ⟨(ab (sW D k v) l),hd,_,(rel.put k n P).keeps λc ys o=>?_,q,M,N,f,h2,h3,t,V⟩;rw[cL (WR o e (λz=>nomatch z))];exact o
end
section
def XC(I:Inv X h_ σ H s)(e:Rd H a (.dK f))(h:∀t c,Inv X h_ σ H c->Q (.int f.length t) c):aA (aB X.prog X.w) A (call (.builtin "len") [.ref a]) Q E s:=by
 obtain⟨z,hd,vs,rel,b⟩:=x9 I.hok e;refine call_len_dict hd b (by rw[<-rel.length];exact jq (oi.mpr z) iF) ?_;rw[<-rel.length];exact h _ _ (I.tok _)
end
def BD(I:Inv X h_ σ H s)(g:wO H a y o):s.TypeIs (.ref a) "dict":=by
 rcases g with⟨d,k,e,_,_⟩|⟨d,k,b,e,_,_,_⟩
 .obtain⟨_,_,vs,_,c⟩:=x9 I.hok e;exact c.typeIs
 .obtain⟨_,_,f,_,c⟩:=BC I.hok e;exact c.typeIs
section
end
def LZ(h:cg)(hb:et<h.objs.size):jO P w H (h.push { cls:=.type "dict",data:=.dict #[] }) h.objs.size (.dK []):=
 ⟨aY _,beq_eq_false_iff_ne.mpr (eW (ba hb)),[],.nil,Heap.DictOf.new h⟩
def Rt:TE:=λ_ H Q=>∀p,H p=L->Q (.ref p) (upd H p (.dK []))
section
def Kf:PE X (.Dict [] [] pos) Rt:=λh_ s σ H Q I h=>
 wpAny_Dict_empty ⟨.ref _,_,I.laid (λ_ _ q=>hp9 _ q) (aw _) (LZ _ I.big),W,h _ (I.hok.fresh (aw _))⟩
end
structure M1(X:Cx)(o:br)(m:bw)(apos:uo)(e:br)(cpos:uo):Prop where
 base:gw o m X.env (eval o X.env)=eval o X.env
 few:((e4 cpos (aL [e] X.env)).all (λx=>!x.1) && (backToKw cpos (m_ [] X.env)).all (λx=>x.1.isSome)
  && decide (Z ([e]:O br)+Z ([]:O wa)+(if([]:O wa).isEmpty then 0 else 1)<30))=U
 line:(apos.endLine == cpos.line)=U
 trees:e4 cpos (aL [e] X.env)=[(J,eval e X.env)]
structure M2(X:Cx)(o:br)(m:bw)(apos:uo)(e f:br)(cpos:uo):Prop where
 base:gw o m X.env (eval o X.env)=eval o X.env
 few:((e4 cpos (aL [e,f] X.env)).all (λx=>!x.1) && (backToKw cpos (m_ [] X.env)).all (λx=>x.1.isSome)
  && decide (Z ([e,f]:O br)+Z ([]:O wa)+(if([]:O wa).isEmpty then 0 else 1)<30))=U
 line:(apos.endLine == cpos.line)=U
 trees:e4 cpos (aL [e,f] X.env)=[(J,eval e X.env),(J,eval f X.env)]
section
end
section
end
section
end
section
end
end L2
namespace M
open PySem PySem.Spec PyProof.Rows L2
set_option genInjectivity true in
inductive Dat where
 |non|bl (b:a7)|int (i:dc)|str (x:bw)|tup (xs:O Dat)|lst (xs:O Dat)|dct (ks:O Key) (vs:O Dat)|dcn (ks:O (O NK))
 deriving Inhabited
abbrev Fg:=aE
def Tq(K:Fg)(F:Hp)(a:aC)(vs:O V):Prop:=F a=Y (.tup vs)\/∃(o:k8) (b:eb ag) (n:T),K.lookup a=Y o/\o.cls=.type "tuple"/\o.data=.seq b n/\b.size<=aD/\cH vs b.toList
def Tq.sq{K:Fg}(h:Tq K F a vs):yv K F a vs:=by
 rcases h with h|h
 .exact .inl (.inl h)
 .exact .inr h
def Tq.mono{K:Fg}(s:cc F b)(h:Tq K F a vs):Tq K b a vs:=by
 rcases h with h|h
 .exact .inl (s _ _ h)
 .exact .inr h
def MV(K:Fg)(F:Hp):O N2->O V->Prop
 |[],vs=>vs=[]
 |.inl k::a,vs=>∃r,vs=kV k::r/\MV K F a r
 |.inr q::a,vs=>∃b r,vs=.ref b::r/\Tq K F b (q.map kV)/\MV K F a r
def MU(K:Fg)(F:Hp):O NK->O V->Prop
 |[],vs=>vs=[]
 |.inl k::a,vs=>∃r,vs=kV k::r/\MU K F a r
 |.inr q::a,vs=>∃b r us,vs=.ref b::r/\Tq K F b us/\MV K F q us/\MU K F a r
def Ib(K:Fg)(F:Hp)(k:O NK)(a:aC):Prop:=∃vs,Tq K F a vs/\MU K F k vs
def D6(K:Fg)(F:Hp)(b:O (O NK))(xs:O (O NK×aC)):Prop:=xs.map (·.1)=b/\∀x∈xs,Ib K F x.1 x.2
theorem MV.imp{K:Fg}(f:∀b vs,Tq K F b vs->Tq K o b vs):∀{c:O N2}{vs:O V},MV K F c vs->MV K o c vs
 |[],_,h=>h
 |.inl k::c,_,h=>by obtain⟨r,e,h⟩:=h;exact⟨r,e,MV.imp f h⟩
 |.inr q::c,_,h=>by obtain⟨b,r,e,t,h⟩:=h;exact⟨b,r,e,f _ _ t,MV.imp f h⟩
theorem MU.imp{K:Fg}(f:∀b vs,Tq K F b vs->Tq K o b vs):∀{c:O NK}{vs:O V},MU K F c vs->MU K o c vs
 |[],_,h=>h
 |.inl k::c,_,h=>by obtain⟨r,e,h⟩:=h;exact⟨r,e,MU.imp f h⟩
 |.inr q::c,_,h=>by obtain⟨b,r,us,e,t,u,h⟩:=h;exact⟨b,r,us,e,f _ _ t,u.imp f,MU.imp f h⟩
def D6.imp{K:Fg}(f:∀b vs,Tq K F b vs->Tq K c b vs)(h:D6 K F e xs):D6 K c e xs:=
 ⟨h.1,λx a=>let ⟨vs,t,r⟩:=h.2 x a;⟨vs,f _ _ t,r.imp f⟩⟩
mutual
def Rep(K:Fg)(F:Hp):Dat->V->Prop
 |.non,v=>v=.non
 |.bl b,v=>v=.bl b
 |.int i,v=>v=.int i
 |.str x,v=>v=.str x
 |.tup c,v=>∃a vs,v=.ref a/\Tq K F a vs/\cB K F c vs
 |.lst c,v=>∃a vs,v=.ref a/\pv K F a vs/\cB K F c vs
 |.dct d c,v=>∃a e,v=.ref a/\F a=Y (.dK e)/\e.map (·.1)=d/\cB K F c (e.map (·.2))
 |.dcn d,v=>∃a f,v=.ref a/\F a=Y (.dN f)/\D6 K F d f
def cB(K:Fg)(F:Hp):O Dat->O V->Prop
 |[],vs=>vs=[]
 |d::a,vs=>∃v r,vs=v::r/\Rep K F d v/\cB K F a r
end
mutual
theorem Rep.mono{K:Fg}(s:cc F c):∀(d:Dat){v:V},Rep K F d v->Rep K c d v
 |.non,_,h=>h
 |.bl _,_,h=>h
 |.int _,_,h=>h
 |.str _,_,h=>h
 |.tup b,_,⟨a,vs,e,t,r⟩=>⟨a,vs,e,t.mono s,cB.mono s b r⟩
 |.lst b,_,⟨a,vs,e,t,r⟩=>⟨a,vs,e,s.seq t,cB.mono s b r⟩
 |.dct _ b,_,⟨a,f,e,t,k,r⟩=>⟨a,f,e,s _ _ t,k,cB.mono s b r⟩
 |.dcn _,_,⟨a,g,e,t,r⟩=>⟨a,g,e,s _ _ t,r.imp λ_ _ q=>q.mono s⟩
theorem cB.mono{K:Fg}(s:cc F b):∀(ds:O Dat){vs:O V},cB K F ds vs->cB K b ds vs
 |[],_,h=>h
 |d::ds,_,⟨v,r,e,h1,h2⟩=>⟨v,r,e,Rep.mono s d h1,cB.mono s ds h2⟩
end
theorem cB.length{K:Fg}:∀{ds:O Dat}{vs:O V},cB K F ds vs->Z vs=Z ds
 |[],_,h=>by rw[h];rfl
 |d::ds,_,a=>by obtain⟨v,r,e,_,h2⟩:=a;rw[e,bf,bf,cB.length h2]
theorem cB.get{K:Fg}:∀{ds:O Dat}{vs:O V}{i:T}{d:Dat},cB K F ds vs->ds[i]?=Y d->∃v,vs[i]?=Y v/\Rep K F d v
 |[],_,_,_,_,e=>by simp at e
 |d::ds,_,0,_,a,z=>by obtain⟨v,r,rfl,h1,_⟩:=a;simp at z;subst z;exact⟨v,W,h1⟩
 |d::ds,_,i+1,_,a,z=>by
   obtain⟨v,r,rfl,_,h2⟩:=a;obtain⟨w,b,c⟩:=cB.get h2 (by simpa using z);exact⟨w,by simpa using b,c⟩
theorem cB.append{K:Fg}:∀{ds es:O Dat}{vs us:O V},cB K F ds vs->cB K F es us->cB K F (ds++es) (vs++us)
 |[],_,_,_,h,b=>by rw[h];exact b
 |d::ds,_,_,_,a,b=>by obtain⟨v,r,e,h1,h2⟩:=a;subst e;exact⟨v,r++_,W,h1,cB.append h2 b⟩
def cB.one{K:Fg}(h:Rep K F d v):cB K F [d] [v]:=⟨v,[],W,h,W⟩
theorem cB.take{K:Fg}:∀(n:T){ds:O Dat}{vs:O V},cB K F ds vs->cB K F (ds.take n) (vs.take n)
 |0,_,_,_=>by simp[cB]
 |n+1,[],_,h=>by rw[h];exact rfl
 |n+1,d::ds,_,a=>by obtain⟨v,r,rfl,h1,h2⟩:=a;exact⟨v,_,W,h1,cB.take n h2⟩
theorem cB.drop{K:Fg}:∀(n:T){ds:O Dat}{vs:O V},cB K F ds vs->cB K F (ds.drop n) (vs.drop n)
 |0,_,_,h=>h
 |n+1,[],_,h=>by rw[h];exact rfl
 |n+1,d::ds,_,a=>by obtain⟨v,r,rfl,h1,h2⟩:=a;exact cB.drop n h2
mutual
noncomputable def im:Dat->a7
 |.lst _=>J
 |.dct _ _=>J
 |.dcn _=>J
 |.tup a=>kd a
 |_=>U
noncomputable def kd:O Dat->a7
 |[]=>U
 |d::a=>im d && kd a
end
structure Good(F H:Hp):Prop where
 sub:cc F H
 tup:∀a vs,H a=Y (.tup vs)->F a=Y (.tup vs)
structure Step(F H F' H':Hp):Prop where
 good:Good F' H'
 ff:cc F F'
 hh:cc H H'
 un:∀a o,H a=Y o->F a=L->F' a=L
def Step.refl(g:Good F H):Step F H F H:=⟨g,cc.refl _,cc.refl _,λ_ _ _ n=>n⟩
def Step.trans(a:Step F H F1 c)(b:Step F1 c e f):Step F H e f:=
 ⟨b.good,a.ff.trans b.ff,a.hh.trans b.hh,λx o h n=>b.un x o (a.hh x o h) (a.un x o h n)⟩
def cc.upd(hp:H p=L):cc H (upd H p o):=λb u e=>by rwa[cL (dS e hp)]
def Step.alloc(g:Good F H)(hp:H p=L):Step F H (upd F p o) (upd H p o):=by
 have c:F p=L:=by
  cases q:F p with
  |none=>rfl
  |some u=>rw[g.sub p u q]at hp;cases hp
 refine⟨⟨λb u e=>?_,λa vs e=>?_⟩,cc.upd c,cc.upd hp,λa u h n=>?_⟩
 .by_cases hb:b=p
  .subst hb;rwa[ck]at e ⊢
  .rw[cL hb]at e ⊢;exact g.sub b u e
 .by_cases hb:a=p
  .subst hb;rwa[ck]at e ⊢
  .rw[cL hb]at e ⊢;exact g.tup a vs e
 .rwa[cL (dS h hp)]
noncomputable def shr(F H F1:Hp):Hp:=λa=>match F a,H a with
 |none,Y _=>L
 |_,_=>F1 a
def RW(h:shr F H F1 a=Y o):F1 a=Y o:=by
 unfold shr at h
 cases q:F a with
 |none=>
   cases b:H a with
   |none=>simp_all
   |some u=>simp_all
 |some u=>rw[q]at h;exact h
def CT(h:F a≠L\/H a=L):shr F H F1 a=F1 a:=by
 unfold shr
 cases q:F a with
 |none=>
   simp_all
 |some u=>rfl
def Step.shrink(g:Good F H)(s:cc F c)(st:Step c H F1 f):Step F H (shr F H F1) f:=by
 refine⟨⟨λa o e=>st.good.sub a o (RW e),λa vs e=>?_⟩,λa o e=>?_,st.hh,λa o h n=>?_⟩
 .have b:=st.good.tup a vs e;rw[CT ?_]
  .exact b
  .cases q:H a with
   |none=>exact .inr rfl
   |some u=>
     have:=st.hh a u q;rw[e]at this;cases this;exact .inl (by rw[g.tup a vs q];simp)
 .rw[CT (.inl (by rw[e];simp))];exact st.ff a o (s a o e)
 .unfold shr;rw[n,h]
def Tq.shrink{K:Fg}(g:Good F H)(st:Step b H F1 c)(h:Tq K F1 a vs):Tq K (shr F H F1) a vs:=by
 rcases h with h|h
 .refine .inl ?_;rw[CT ?_]
  .exact h
  .cases q:H a with
   |none=>exact .inr rfl
   |some u=>
     have:=st.hh a u q;rw[st.good.sub a _ h]at this;cases this;exact .inl (by rw[g.tup a vs q];simp)
 .exact .inr h
mutual
theorem Rep.shrink{K:Fg}(g:Good F H)(st:Step c H F1 f):∀(d:Dat){v:V},im d=U->Rep K F1 d v->Rep K (shr F H F1) d v
 |.non,_,_,h=>h
 |.bl _,_,_,h=>h
 |.int _,_,_,h=>h
 |.str _,_,_,h=>h
 |.tup b,_,m,⟨a,vs,e,t,r⟩=>⟨a,vs,e,t.shrink g st,cB.shrink g st b m r⟩
 |.lst b,_,m,_=>nomatch m
 |.dct _ _,_,m,_=>nomatch m
 |.dcn _,_,m,_=>nomatch m
theorem cB.shrink{K:Fg}(g:Good F H)(st:Step c H F1 f):∀(ds:O Dat){vs:O V},kd ds=U->cB K F1 ds vs->cB K (shr F H F1) ds vs
 |[],_,_,h=>h
 |d::ds,_,m,b=>by
   obtain⟨v,r,e,h1,h2⟩:=b;have a:im d=U/\kd ds=U:=by simpa [kd]using m
   exact⟨v,r,e,Rep.shrink g st d a.1 h1,cB.shrink g st ds a.2 h2⟩
end
mutual
def nZ(K:Fg)(H:Hp):Dat->V->O aC->Prop
 |.non,v,S=>v=.non/\S=[]
 |.bl b,v,S=>v=.bl b/\S=[]
 |.int i,v,S=>v=.int i/\S=[]
 |.str x,v,S=>v=.str x/\S=[]
 |.tup d,v,S=>∃a vs,v=.ref a/\Tq K H a vs/\dh K H d vs S
 |.lst d,v,S=>∃a vs c,v=.ref a/\H a=Y (.lst vs)/\dh K H d vs c/\S=a::c
 |.dct e d,v,S=>∃a f c,v=.ref a/\H a=Y (.dK f)/\f.map (·.1)=e/\dh K H d (f.map (·.2)) c/\S=a::c
 |.dcn e,v,S=>∃a g,v=.ref a/\H a=Y (.dN g)/\D6 K H e g/\S=[a]
def dh(K:Fg)(H:Hp):O Dat->O V->O aC->Prop
 |[],vs,S=>vs=[]/\S=[]
 |d::c,vs,S=>∃v r a b,vs=v::r/\nZ K H d v a/\dh K H c r b/\S=a++b
end
mutual
theorem nZ.mono{K:Fg}(s:cc H f):∀(d:Dat){v:V}{S:O aC},nZ K H d v S->nZ K f d v S
 |.non,_,_,h=>h
 |.bl _,_,_,h=>h
 |.int _,_,_,h=>h
 |.str _,_,_,h=>h
 |.tup c,_,_,⟨a,vs,e,t,r⟩=>⟨a,vs,e,t.mono s,dh.mono s c r⟩
 |.lst c,_,_,⟨a,vs,b,e,t,r,q⟩=>⟨a,vs,b,e,s _ _ t,dh.mono s c r,q⟩
 |.dct _ c,_,_,⟨a,g,b,e,t,k,r,q⟩=>⟨a,g,b,e,s _ _ t,k,dh.mono s c r,q⟩
 |.dcn _,_,_,⟨a,i,e,t,r,q⟩=>⟨a,i,e,s _ _ t,r.imp λ_ _ z=>z.mono s,q⟩
theorem dh.mono{K:Fg}(s:cc H c):∀(ds:O Dat){vs:O V}{S:O aC},dh K H ds vs S->dh K c ds vs S
 |[],_,_,h=>h
 |d::ds,_,_,⟨v,r,a,b,e,h1,h2,q⟩=>⟨v,r,a,b,e,nZ.mono s d h1,dh.mono s ds h2,q⟩
end
def Qc:HO->Prop
 |.lst _=>True
 |.dK _=>True
 |.dN _=>True
 |_=>False
mutual
theorem nZ.Cg{K:Fg}:∀(d:Dat){v:V}{S:O aC},nZ K H d v S->∀a∈S,∃o,H a=Y o/\Qc o
 |.non,_,_,h=>by rw[h.2];intro a m;cases m
 |.bl _,_,_,h=>by rw[h.2];intro a m;cases m
 |.int _,_,_,h=>by rw[h.2];intro a m;cases m
 |.str _,_,_,h=>by rw[h.2];intro a m;cases m
 |.tup g,_,_,⟨a,vs,e,t,r⟩=>dh.Cg g r
 |.lst g,_,_,c=>by
   obtain⟨a,vs,f,e,t,r,q⟩:=c;subst q;intro b m
   rcases aq.mp m with rfl|m
   .exact⟨_,t,trivial⟩
   .exact dh.Cg g r b m
 |.dct _ g,_,_,c=>by
   obtain⟨a,i,f,e,t,k,r,q⟩:=c;subst q;intro b m
   rcases aq.mp m with rfl|m
   .exact⟨_,t,trivial⟩
   .exact dh.Cg g r b m
 |.dcn _,_,_,c=>by
   obtain⟨a,j,e,t,r,q⟩:=c;subst q;intro b m;rw[aG.mp m];exact⟨_,t,trivial⟩
theorem dh.Cg{K:Fg}:∀(ds:O Dat){vs:O V}{S:O aC},dh K H ds vs S->∀a∈S,∃o,H a=Y o/\Qc o
 |[],_,_,h=>by rw[h.2];intro a m;cases m
 |d::ds,_,_,c=>by
   obtain⟨v,r,f,g,e,h1,h2,q⟩:=c;subst q;intro b m
   rcases aR.mp m with m|m
   .exact nZ.Cg d h1 b m
   .exact dh.Cg ds h2 b m
end
noncomputable def fz(F H:Hp)(S:O aC):Hp:=λa=>if a∈S then H a else F a
def Bq(h:a∈S):fz F H S a=H a:=a6 h
def sk(h:a∉S):fz F H S a=F a:=c4 h
def UA(g:cc F H):cc (fz F H S) H:=λa o e=>by
 by_cases m:a∈S
 .rwa[Bq m]at e
 .rw[sk m]at e;exact g a o e
def sj(g:cc F H):cc F (fz F H S):=λa o e=>by
 by_cases m:a∈S
 .rw[Bq m];exact g a o e
 .rwa[sk m]
def zw(g:Good F H):Good (fz F H S) H:=⟨UA g.sub,λa vs e=>sj g.sub a _ (g.tup a vs e)⟩
mutual
theorem nZ.kH{K:Fg}(g:Good F H):∀(d:Dat){v:V}{S T':O aC},nZ K H d v S->(∀a∈S,a∈T')->Rep K (fz F H T') d v
 |.non,_,_,_,h,_=>h.1
 |.bl _,_,_,_,h,_=>h.1
 |.int _,_,_,_,h,_=>h.1
 |.str _,_,_,_,h,_=>h.1
 |.tup i,_,_,_,f,m=>by
   obtain⟨a,vs,e,t,r⟩:=f;refine⟨a,vs,e,?_,dh.kH g i r m⟩
   rcases t with t|t
   .exact .inl (sj g.sub _ _ (g.tup _ _ t))
   .exact .inr t
 |.lst i,_,_,_,f,m=>by
   obtain⟨a,vs,c,e,t,r,q⟩:=f;subst q;refine⟨a,vs,e,.inl (.inl ?_),dh.kH g i r λb hb=>m b (kc _ hb)⟩;rw[Bq (m a iT)];exact t
 |.dct _ i,_,_,_,f,m=>by
   obtain⟨a,j,c,e,t,k,r,q⟩:=f;subst q;refine⟨a,j,e,?_,k,dh.kH g i r λb hb=>m b (kc _ hb)⟩;rw[Bq (m a iT)];exact t
 |.dcn _,_,_,_,f,m=>by
   obtain⟨a,l,e,t,r,q⟩:=f;subst q;refine⟨a,l,e,?_,r.imp λb vs z=>?_⟩
   .rw[Bq (m a iT)];exact t
   .rcases z with z|z
    .exact .inl (sj g.sub _ _ (g.tup _ _ z))
    .exact .inr z
theorem dh.kH{K:Fg}(g:Good F H):∀(ds:O Dat){vs:O V}{S T':O aC},dh K H ds vs S->(∀a∈S,a∈T')->cB K (fz F H T') ds vs
 |[],_,_,_,h,_=>h.1
 |d::ds,_,_,_,b,m=>by
   obtain⟨v,r,c,f,e,h1,h2,q⟩:=b;subst q;exact⟨v,r,e,nZ.kH g d h1 λa ha=>m a (bp _ ha),dh.kH g ds h2 λa ha=>m a (aF _ ha)⟩
end
mutual
theorem nZ.ju{K:Fg}(g:cc F H):∀(d:Dat){v:V},im d=U->Rep K F d v->nZ K H d v []
 |.non,_,_,h=>⟨h,W⟩
 |.bl _,_,_,h=>⟨h,W⟩
 |.int _,_,_,h=>⟨h,W⟩
 |.str _,_,_,h=>⟨h,W⟩
 |.tup b,_,m,⟨a,vs,e,t,r⟩=>⟨a,vs,e,t.mono g,dh.ju g b m r⟩
 |.lst b,_,m,_=>nomatch m
 |.dct _ _,_,m,_=>nomatch m
 |.dcn _,_,m,_=>nomatch m
theorem dh.ju{K:Fg}(g:cc F H):∀(ds:O Dat){vs:O V},kd ds=U->cB K F ds vs->dh K H ds vs []
 |[],_,_,h=>⟨h,W⟩
 |d::ds,_,m,b=>by
   obtain⟨v,r,e,h1,h2⟩:=b;have a:im d=U/\kd ds=U:=by simpa [kd]using m
   exact⟨v,r,[],[],e,nZ.ju g d a.1 h1,dh.ju g ds a.2 h2,W⟩
end
mutual
theorem nZ.upd{K:Fg}(hp:∀vs,H p≠Y (.tup vs)):∀(d:Dat){v:V}{S:O aC},nZ K H d v S->p∉S->nZ K (upd H p o) d v S
 |.non,_,_,h,_=>h
 |.bl _,_,_,h,_=>h
 |.int _,_,_,h,_=>h
 |.str _,_,_,h,_=>h
 |.tup i,_,_,f,n=>by
   obtain⟨a,vs,e,t,r⟩:=f;refine⟨a,vs,e,?_,dh.upd hp i r n⟩
   rcases t with t|t
   .refine .inl ?_;rw[cL (λz=>hp vs (by rw[<-z];exact t))];exact t
   .exact .inr t
 |.lst i,_,_,f,n=>by
   obtain⟨a,vs,g,e,t,r,q⟩:=f;subst q;have c:a≠p:=λz=>n (z▸iT);exact⟨a,vs,g,e,(cL c).trans t,dh.upd hp i r (λm=>n (kc _ m)),W⟩
 |.dct _ i,_,_,f,n=>by
   obtain⟨a,j,g,e,t,k,r,q⟩:=f;subst q;have c:a≠p:=λz=>n (z▸iT);exact⟨a,j,g,e,(cL c).trans t,k,dh.upd hp i r (λm=>n (kc _ m)),W⟩
 |.dcn _,_,_,f,n=>by
   obtain⟨a,l,e,t,r,q⟩:=f;subst q;have c:a≠p:=λz=>n (z▸iT);refine⟨a,l,e,(cL c).trans t,r.imp λb vs z=>?_,W⟩
   rcases z with z|z
   .refine .inl ?_;rw[cL (λy=>hp vs (by rw[<-y];exact z))];exact z
   .exact .inr z
theorem dh.upd{K:Fg}(hp:∀vs,H p≠Y (.tup vs)):∀(ds:O Dat){vs:O V}{S:O aC},dh K H ds vs S->p∉S->dh K (upd H p o) ds vs S
 |[],_,_,h,_=>h
 |d::ds,_,_,a,n=>by
   obtain⟨v,r,b,c,e,h1,h2,q⟩:=a;subst q;exact⟨v,r,b,c,e,nZ.upd hp d h1 (λm=>n (bp _ m)),dh.upd hp ds h2 (λm=>n (aF _ m)),W⟩
end
theorem dh.length{K:Fg}:∀{ds:O Dat}{vs:O V}{S:O aC},dh K H ds vs S->Z vs=Z ds
 |[],_,_,h=>by rw[h.1];rfl
 |d::ds,_,_,a=>by obtain⟨v,r,b,c,e,_,h2,_⟩:=a;rw[e,bf,bf,dh.length h2]
theorem dh.append{K:Fg}:∀{ds es:O Dat}{vs us:O V}{S T':O aC},dh K H ds vs S->dh K H es us T'->dh K H (ds++es) (vs++us) (S++T')
 |[],_,_,_,_,_,h,f=>by rw[h.1,h.2];exact f
 |d::ds,_,_,_,_,_,a,f=>by obtain⟨v,r,b,c,e,h1,h2,q⟩:=a;subst e q;exact⟨v,r++_,b,c++_,W,h1,dh.append h2 f,by rw[aK]⟩
def dh.one{K:Fg}(h:nZ K H d v S):dh K H [d] [v] S:=⟨v,[],S,[],W,h,⟨W,W⟩,by simp⟩
abbrev St:=L2.St
abbrev gZ:=O (a5 Dat)
def mZ(K:Fg)(F:Hp)(σ:St)(ρ:gZ):Prop:=∀(i:T)d,ρ[i]?=Y (Y d)->∃v,σ[i]?=Y (Y v)/\Rep K F d v
def mZ.mono{K:Fg}(s:cc F b)(h:mZ K F σ ρ):mZ K b σ ρ:=λi d e=>let ⟨v,a,c⟩:=h i d e;⟨v,a,c.mono s⟩
def eZ(K:Fg)(H b:Hp)(d:Dat)(v:V):Prop:=∃S:O aC,S.Nodup/\(∀a∈S,H a=L)/\nZ K b d v S
def eX(K:Fg)(H b:Hp)(ds:O Dat)(vs:O V):Prop:=∃S:O aC,S.Nodup/\(∀a∈S,H a=L)/\dh K b ds vs S
def eZ.back{K:Fg}{F:Hp}(s:cc b H)(h:eZ K H c d v):eZ K b c d v:=by
 obtain⟨S,n,e,r⟩:=h;exact⟨S,n,λa m=>s.free (e a m),r⟩
def eX.back{K:Fg}{F:Hp}(s:cc b H)(h:eX K H c ds vs):eX K b c ds vs:=by
 obtain⟨S,n,e,r⟩:=h;exact⟨S,n,λa m=>s.free (e a m),r⟩
def eZ.ju{K:Fg}(g:Good F b)(m:im d=U)(r:Rep K F d v):eZ K H b d v:=⟨[],eP,(λa z=>by cases z),nZ.ju g.sub d m r⟩
def eX.ju{K:Fg}(g:Good F b)(m:kd ds=U)(r:cB K F ds vs):eX K H b ds vs:=⟨[],eP,(λa z=>by cases z),dh.ju g.sub ds m r⟩
def eX.cons{K:Fg}{H B t:Hp}{d:Dat}{ds:O Dat}{v:V}{vs:O V}(s:cc H B)(u:cc B t)(h:eZ K H B d v)(hs:eX K B t ds vs):eX K H t (d::ds) (v::vs):=by
 obtain⟨S,n,e,r⟩:=h;obtain⟨T',c,f,g⟩:=hs;refine⟨_,bV.mpr ⟨n,c,λa ha b hb z=>?_⟩,λa m=>?_,v,vs,S,T',W,r.mono u,g,W⟩
 .subst z;obtain⟨o,ho,_⟩:=r.Cg _ a ha
  grind
 .rcases aR.mp m with m|m
  .exact e a m
  .exact s.free (f a m)
def eX.snoc{K:Fg}(s:cc H t)(y:cc t u)(hs:eX K H t ds vs)(h:eZ K t u d v):eX K H u (ds++[d]) (vs++[v]):=by
 refine ac λ_ i=>?_;obtain⟨S,n,e,r⟩:=hs;obtain⟨T',c,f,g⟩:=h;refine i ?_;refine⟨_,bV.mpr ⟨n,c,λa ha b hb z=>?_⟩,λa m=>?_,(r.mono y).append (.one g)⟩
 .subst z;obtain⟨o,ho,_⟩:=r.Cg _ a ha
  grind
 .rcases aR.mp m with m|m
  .exact e a m
  .exact s.free (f a m)
def eX.mono{K:Fg}(s:cc b c)(h:eX K H b ds vs):eX K H c ds vs:=by
 obtain⟨S,n,e,r⟩:=h;exact⟨S,n,e,r.mono s⟩
def eX.nil{K:Fg}:eX K H b [] []:=⟨[],eP,(λa z=>by cases z),W,W⟩
def eZ.lst{K:Fg}(s:cc H b)(hp:b p=L)(h:eX K H b ds vs):eZ K H (L2.upd b p (.lst vs)) (.lst ds) (.ref p):=by
 obtain⟨S,n,e,r⟩:=h;refine⟨_,bE.mpr ⟨λm=>?_,n⟩,λa m=>?_,p,vs,S,W,ck,r.mono (cc.upd hp),W⟩
 .obtain⟨o,ho,_⟩:=r.Cg _ p m;rw[hp]at ho;cases ho
 .rcases aq.mp m with rfl|m
  .exact s.free hp
  .exact e a m
def eZ.tup{K:Fg}(hp:b p=L)(h:eX K H b ds vs):eZ K H (L2.upd b p (.tup vs)) (.tup ds) (.ref p):=by
 obtain⟨S,n,e,r⟩:=h;exact⟨S,n,e,p,vs,W,.inl ck,r.mono (cc.upd hp)⟩
def tE(K:Fg)(ρ:gZ)(d:Dat)(fr:a7):TE:=λσ H Q=>∃F,Good F H/\mZ K F σ ρ/\∀v b a,Step F H b a->Rep K b d v->(fr=U->eZ K H a d v)->Q v a
def tEs(K:Fg)(ρ:gZ)(ds:O Dat):TA:=λσ H Q=>∃F,Good F H/\mZ K F σ ρ/\∀vs a b,Step F H a b->cB K a ds vs->Q vs b
def tT(K:Fg)(ρ:gZ)(b:a7):TT:=λσ H Q=>∃F,Good F H/\mZ K F σ ρ/\∀c a,Step F H c a->Q b a
def tFs(K:Fg)(ρ:gZ)(ds:O Dat)(B:a7):TA:=λσ H Q=>∃F,Good F H/\mZ K F σ ρ/\∀vs b a,Step F H b a->cB K b ds vs->(B=U->eX K H a ds vs)->Q vs a
def rD(K:Fg)(c B:Dat)(d:Dat)(fr:a7):R2:=λx y H Q=>∃F,Good F H/\Rep K F c x/\Rep K F B y/\∀v b a,Step F H b a->Rep K b d v->(fr=U->eZ K H a d v)->Q v a
def rDs(K:Fg)(ds:O Dat)(d:Dat)(fr:a7):O V->Hp->VK->Prop:=λc H Q=>∃F,Good F H/\cB K F ds c/\∀v b a,Step F H b a->Rep K b d v->(fr=U->eZ K H a d v)->Q v a
section
def PE.imp(h:PE X e t)(f:∀σ H Q,t' σ H Q->t σ H Q):PE X e t':=λh_ s σ H Q I q=>h h_ s σ H Q I (f _ _ _ q)
def PT.imp(h:PT X e t)(f:∀σ H Q,t' σ H Q->t σ H Q):PT X e t':=λh_ s σ H Q I q=>h h_ s σ H Q I (f _ _ _ q)
def PA.imp(h:PA X e t)(f:∀σ H Q,t' σ H Q->t σ H Q):PA X e t':=λp h_ s σ H Q I q=>h p h_ s σ H Q I (f _ _ _ q)
def PS.imp(h:PS X e t)(f:∀D σ H,t' D σ H->t D σ H):PS X e t':=λh_ s σ H D I q=>h h_ s σ H D I (f _ _ _ q)
def B3.imp(h:B3 X e t)(f:∀D σ H,t' D σ H->t D σ H):B3 X e t':=λh_ s σ H D I q=>h h_ s σ H D I (f _ _ _ q)
def iA.imp(h:iA X f r)(g:∀x y H Q,c x y H Q->r x y H Q):iA X f c:=λh_ s σ H x y v u Q I a b q=>h h_ s σ H x y v u Q I a b (g _ _ _ _ q)
end
end M
namespace L2
open PySem PySem.Spec PyProof.Rows
def B2(xs:eb T):Prop:=xs.toList.Pairwise (·< ·)
def B2.get(h:B2 xs)(b:j<xs.size)(B:i<j):xs[i]'(Nat.lt_trans B b)<xs[j]:=by
 have:=(eB.mp h) i j (by simpa using(by omega:i<xs.size)) (by simpa using b) B;simpa using this
theorem DZ(hs:B2 xs):∀(fuel lo hi:T),lo<=hi->hi<=xs.size->hi - lo<=fuel->(∀i (h:i<xs.size),i<lo->xs[i]<j)->(∀i (h:i<xs.size),hi<=i->j<=xs[i])->
  kz xs j fuel lo hi<=xs.size/\(∀i(h:i<xs.size),i<kz xs j fuel lo hi->xs[i]<j)/\∀i(h:i<xs.size),kz xs j fuel lo hi<=i->j<=xs[i]
 |0,lo,hi,h1,h2,h3,c,g=>by
   have e:lo=hi:=bu (rT h1) (t9 (wt h1) h3);subst e;exact⟨h2,c,g⟩
 |fuel+1,lo,hi,h1,h2,h3,c,g=>by
   simp only[kz];by_cases hl:lo<hi
   .rw[a6 hl];have d:(lo+hi) / 2<xs.size:=t9 (a2 lo hi (rT hl)).2 h2
    have f:xs.getD ((lo+hi) / 2) j=xs[(lo+hi) / 2]:=by simp_all
    rw[f];by_cases b:xs[(lo+hi) / 2]<j
    .rw[a6 b];refine DZ hs _ _ hi (rT (a2 lo hi (rT hl)).2) h2 (Nat.sub_le_of_le_add (QI (am (bx hl)) h3 (a2 lo hi (rT hl)).1)) (λi h q=>?_) g;by_cases a:i=(lo+hi) / 2
     .subst a;exact b
     .exact dn (hs.get d (cj (rT q) a)) b
    .rw[c4 b];refine DZ hs _ lo _ (rT (a2 lo hi (rT hl)).1) (bx d) (Nat.sub_le_of_le_add (QI (a2 lo hi (rT hl)).2 (am (bx hl)) h3)) c (λi h q=>?_);by_cases a:(lo+hi) / 2=i
     .subst a;simp_all
     .exact bx (ab (kB b) (hs.get h ((cj q a))))
   .rw[c4 hl];have e :=bu h1 (iS hl);subst e;exact⟨h2,c,g⟩
def Mo(hs:B2 xs)(j:T):aH xs j<=xs.size/\(∀i(h:i<xs.size),i<aH xs j->xs[i]<j)/\∀i(h:i<xs.size),aH xs j<=i->j<=xs[i]:=
 DZ hs _ 0 _ (aY _) (aw _) (by simp) (λi _ q=>absurd q (Qp _)) (λi h q=>((bD h q)).elim)
def Mm(hs:B2 xs):aH xs 0=0:=by
 cases q:aH xs 0 with
 |zero=>rfl
 |succ n=>exact absurd ((Mo hs 0).2.1 0 (ab (bh (aY _) (af q.symm)) (Mo hs 0).1) (bh (aY _) (af q.symm))) (Qp _)
def Mn(hs:B2 xs)(hi:i<xs.size):aH xs (xs[i]+1)=i+1:=by
 obtain⟨h1,h2,h3⟩:=Mo hs (xs[i]+1)
 rcases m6 (aH xs _) (i+1)with h|h|h
 .exact(Ze (h3 i hi (cq h))).elim
 .exact h
 .exact(Zd (hs.get  (ab h h1) (aw _)) (h2 _ (ab h h1) h)).elim
def Od(hs:B2 xs)(B:xs[aH xs j]?≠Y j):B2 (cR xs (aH xs j) j):=by
 obtain⟨h1,h2,h3⟩:=Mo hs j;unfold B2;rw[eC];refine dI.mpr ⟨hs.sublist (hV _ _),cy.mpr ⟨λy h=>?_,hs.sublist (eR _ _)⟩,λx p y h=>?_⟩
 .obtain⟨k,a,rfl⟩:=cv.mp h;have d:aH xs j+k<xs.size:=by grind
  have i:xs[aH xs j+k]≠j:=by
   intro e
   cases k with
   |zero=>exact B (by rw[a8 _];simpa using e)
   |succ k=>
     exact bD (hs.get d ((dm (bP _ _)))) (ab (af e) (h3 _ (bh (bP _ _) d) (aw _)))
  simpa using (cj (rT (h3 _ d (bP _ _))) (eW i))
 .obtain⟨k,a,rfl⟩:=cv.mp p;rw[List.getElem_take];have f:k<aH xs j:=by simp at a;simp_all
  have n:xs.toList[k]'(by exact ab f h1)<j:=by simpa using (h2 k (ab f h1) f)
  rcases aq.mp h with rfl|h
  .exact n
  .obtain⟨m,o,rfl⟩:=cv.mp h;exact ab n (by simpa using (h3 (aH xs j+m) (by simp at o;exact t9 (ws h1) o) (bP _ _)))
structure pN(led:a7)(t:bG):Prop where
 d:t.dummies=#[]
 r:B2 t.place
 l:t.led=led
def Hb(n:T):B2 (Array.range n):=by
 unfold B2;rw[Array.toList_range];exact n6
def pN.fresh(led:a7):pN led (.fresh 0 0 led):=⟨W,by exact wY,W⟩
def pN.qp(h:pN led t)(n:T):pN led (t.standIn n):=⟨W,Hb n,h.l⟩
def pN.off(h:pN led t):pN led { t with plain:=J }:=⟨h.d,h.r,h.l⟩
def Ft(j:T):wQ #[] j=J:=by simp[wQ]
def uJ{t:bG}(hd:t.dummies=#[])(h:t.slot j=.empty):t.place[aH t.place j]?≠Y j:=by
 intro e;unfold lP at h
 simp_all
def lq{t:bG}(hd:t.dummies=#[])(h:t.slot j=.dummy):False:=by
 unfold lP at h;rw[hd,Ft]at h
 grind
def sA{t:bG}{p:bO}(h:p.dummy=L):(t.advance p).dummy=L:=by
 unfold dD;split
 .exact h
 .exact h
theorem uX{t:bG}(hd:t.dummies=#[]):∀(fuel:T) (p:bO) {j:T} {d:a5 T},p.dummy=L->bX t ha hh fuel p=Y (.empty j d)->
  d=L/\t.place[aH t.place j]?≠Y j
 |0,_,_,_,_,h=>by cases h
 |fuel+1,p,j,d,hp,h=>by
   simp only[bX]at h
   cases q:t.slot p.j with
   |empty=>
     rw[q]at h
     injection h with h
     injection h with h1 h2
     subst h1;subst h2;exact⟨hp,uJ hd q⟩
   |dummy=>exact(lq hd q).elim
   |live i=>
     rw[q]at h;dsimp only at h;split at h
     .grind
     .exact uX hd fuel _ (sA hp) h
set_option tactic.hygienic true
def Pr{t:bG}(hd:t.dummies=#[])(h:t.freeSlot hh=Y (j,b)):t.place[aH t.place j]?≠Y j:=by
 unfold SetTable.freeSlot at h;split at h
 .rename_i c d a;have:=uX hd _ _ (by rfl) a
  grind
 .cases h
def pN.put(h:pN led t)(B:t.place[aH t.place j]?≠Y j):pN led (t.put j).1:=by
 refine⟨?_,Od h.r B,h.l⟩;show(if wQ _ j then _ else t.dummies)=_;rw[h.d];rfl
def pN.or(h:pN led t)(n:T):pN led (t.orStandIn n):=by
 unfold SetTable.orStandIn;split
 .exact h
 .exact h.qp n
def pN.lay(h:pN led t)(es:eb (dc×ag))(hh:dc)(x:ag):pN led (layNew t es hh x).2.1:=by
 unfold layNew;split
 .rename_i j b a;exact(h.put (Pr h.d a)).or _
 .exact h.qp _
def pN.laid(h:lQ mask f m led pl hs=Y (t,o)):pN led t:=by
 unfold lQ at h;simp only[Option.bind_eq_bind,yH]at h;obtain⟨ow,h1,h⟩:=h
 injection h with h
 injection h with h2 h3
 subst h2;refine⟨W,?_,W⟩;show(wW _ _).toArray.toList.Pairwise _;rw[dX,Ai];refine oh ?_ n6
 simp_all
def pN.Wm(h:pN led t)(es:eb (dc×ag))(n:T):pN led (h9 t es n).2.1:=by
 unfold h9;split
 .rename_i b o a;dsimp only;split
  .unfold Gj at a;rw[h.l]at a;exact pN.laid a
  .exact h.qp _
 .exact h.qp _
set_option tactic.hygienic false
end L2
namespace L2
open PySem
noncomputable def tJ(mask:T):T->T->T->T×T
 |0,i,p=>(i,p)
 |n+1,i,p=>tJ mask n (f6 mask i p).1 (f6 mask i p).2
theorem ua(mask:T):∀(a b i p:T),tJ mask (a+b) i p=tJ mask b (tJ mask a i p).1 (tJ mask a i p).2
 |0,b,i,p=>by rw[jR];rfl
 |a+1,b,i,p=>by rw[(gD _ _ _)];exact ua mask a b _ _
theorem vk(mask:T):∀(n i p:T),(tJ mask n i p).2=p / 32 ^ n
 |0,i,p=>by simp[tJ]
 |n+1,i,p=>by
   rw[tJ,vk _ n,f6,Nat.div_div_eq_div_mul,Nat.pow_succ,Nat.mul_comm]
theorem KU(mask:T):∀(n i p:T),i<mask+1->(tJ mask n i p).1<mask+1
 |0,i,p,h=>h
 |n+1,i,p,h=>KU _ n _ _ (iD _ (by simp))
noncomputable def Ym(mask:T):T->T->O T
 |0,i=>[i]
 |n+1,i=>i::Ym mask n ((i * 5+1) % (mask+1))
theorem EV(mask:T):∀(n i j:T),j∈Ym mask n i->∃m,m<=n/\(tJ mask m i 0).1=j
 |0,i,j,h=>by
   simp[Ym]at h;exact⟨0,by simp,h.symm⟩
 |n+1,i,j,h=>by
   rcases aq.mp h with h|h
   .exact⟨0,aY _,h.symm⟩
   .obtain⟨m,a,e⟩:=EV _ n _ j h;refine⟨_,dm a,?_⟩;rw[tJ];simpa [f6]using e
def L4(mask:T):a7:=(aJ (mask+1)).all λj=>(Ym mask mask 0).any λx=>Nat.beq x j
def ZG:L4 7=U:=by decide +kernel
def XE:L4 31=U:=by decide +kernel
def UZ:L4 127=U:=by decide +kernel
def UY:L4 511=U:=by decide +kernel
def Y3:(tJ 7 8 0 0).1=0:=by decide +kernel
def Wx:(tJ 31 32 0 0).1=0:=by decide +kernel
def SN:(tJ 127 128 0 0).1=0:=by decide +kernel
def SM:(tJ 511 512 0 0).1=0:=by decide +kernel
def L3(h:mask=7\/mask=31\/mask=127\/mask=511):L4 mask=U/\(tJ mask (mask+1) 0 0).1=0:=by
 rcases h with rfl|rfl|rfl|rfl
 .exact⟨ZG,Y3⟩
 .exact⟨XE,Wx⟩
 .exact⟨UZ,SN⟩
 .exact⟨UY,SM⟩
def Gy(mask n i:T):(tJ mask n i 0).2=0:=by rw[vk,Nat.zero_div]
def vi(mask a b i:T):(tJ mask (a+b) i 0).1=(tJ mask b (tJ mask a i 0).1 0).1:=by rw[ua,Gy]
def QQ(h:mask=7\/mask=31\/mask=127\/mask=511)(B:j<mask+1):∃n,n<=mask/\(tJ mask n 0 0).1=j:=by
 obtain⟨x,a,e⟩:=fw.mp (aI.mp (L3 h).1 j (aO.mpr B));have e:=Nat.eq_of_beq_eq_true e;subst e;exact EV _ _ 0 x a
def Fh(h:mask=7\/mask=31\/mask=127\/mask=511)(hi:i<mask+1)(hp:p<2 ^ 64)(B:j<mask+1):∃n,n<=mask+13/\(tJ mask n i p).1=j:=by
 have c:(tJ mask 13 i p).2=0:=by
  rw[vk];exact Nat.div_eq_of_lt (ab hp iF)
 obtain⟨a,ha,f⟩:=QQ h (KU _ 13 i p hi);obtain⟨b,hb,g⟩:=QQ h B;by_cases e:a<=b
 .refine⟨13+(b - a),t9 (IU b a) hb,?_⟩;rwa[ua,c,<-f,<-vi,(m7 e)]
 .refine⟨13+(mask+1 - a+b),by omega,?_⟩;rwa[ua,c,<-f,<-vi,show a+(mask+1 - a+b)=(mask+1)+b by omega,vi,((L3 h).2)]
structure yw(t:bG)(p:bO):Prop where
 j:p.j=p.i
 m:p.more=dA t.mask p.i - p.i
 d:p.dummy=L
def uR(h:yw t p):p.more<=9:=by
 rw[h.m];unfold dA;split<;>simp
set_option tactic.hygienic true
theorem zr{t:bG}(hd:t.dummies=#[]):∀(k f:T) (p:bO),p.more=k->p.dummy=L->bX t ha hh (k+1+f) p=L->
  t.slot p.j≠.empty/\∃q:bO,bX t ha hh f q=L/\yw t q/\q.i=(f6 t.mask p.i p.perturb).1/\q.perturb=(f6 t.mask p.i p.perturb).2
 |0,f,p,d,hp,h=>by
   rw[(Nat.add_comm _ _),bX]at h
   cases c:t.slot p.j with
   |empty=>rw[c]at h;cases h
   |dummy=>exact(lq hd c).elim
   |live i=>
     rw[c]at h;dsimp only at h;split at h
     .cases h
     rename_i a;refine⟨by simp,_,h,?_,?_,?_⟩
     .unfold dD;rw[c4 (λz=>(bD z (af d)))];exact⟨W,W,hp⟩
     .unfold dD;rw[c4 (λz=>(bD z (af d)))]
     .unfold dD;rw[c4 (λz=>(bD z (af d)))]
 |k+1,f,p,d,hp,h=>by
   rw[(gD _ _ _),bX]at h
   cases c:t.slot p.j with
   |empty=>rw[c]at h;cases h
   |dummy=>exact(lq hd c).elim
   |live i=>
     rw[c]at h;dsimp only at h;split at h
     .cases h
     rename_i a;have e:t.advance p={ p with j:=p.j+1,more:=p.more - 1 }:=by unfold dD;simp_all
     rw[e]at h;obtain⟨_,q,h1,h2,h3,b⟩:=zr hd k f { p with j:=p.j+1,more:=p.more - 1 } (by grind) hp h;exact⟨by simp,q,h1,h2,h3,b⟩
theorem ue:∀(f g:T)(p:bO),bX t ha hh (f+g) p=L->bX t ha hh f p=L
 |0,g,p,h=>rfl
 |f+1,g,p,h=>by
   rw[show f+1+g=(f+g)+1 from(gD _ _ _),bX]at h;rw[bX]
   cases a:t.slot p.j with
   |empty=>rw[a]at h;cases h
   |dummy=>rw[a]at h;exact ue f g _ h
   |live i=>
     rw[a]at h;simp only at h ⊢;split
     .grind
     .rename_i q;rw[c4 q]at h;exact ue f g _ h
set_option tactic.hygienic false
theorem Bl{t:bG}(hd:t.dummies=#[]):∀(m:T)(p:bO),yw t p->bX t ha hh (10 * (m+1)) p=L->∀n≤m,t.slot (tJ t.mask n p.i p.perturb).1≠.empty
 |m,p,hp,h,0,_=>by
   have c:=uR hp;obtain⟨h1,_⟩:=zr hd p.more (10 * (m+1) - (p.more+1)) p W hp.d (by rw[show p.more+1+(10 * (m+1) - (p.more+1))=10 * (m+1) from (Nat.add_sub_of_le (Nat.succ_le_succ (Nat.le_add_left_of_le c)))];exact h);rw[hp.j]at h1;exact h1
 |0,p,hp,h,n+1,a=>(fun z => (Nat.not_le_of_lt a (Nat.zero_le _)))
 |m+1,p,hp,h,n+1,a=>by
   have c:=uR hp;obtain⟨_,q,h1,h2,h3,b⟩:=zr hd p.more (10 * (m+1+1) - (p.more+1)) p W hp.d (by rw[show p.more+1+(10 * (m+1+1) - (p.more+1))=10 * (m+1+1) from (Nat.le_antisymm (rT (ar (10 * (m + 1 + 1)) (p.more + 1) (rT c))) (rT (ay (10 * (m + 1 + 1)) (p.more + 1))))];exact h);have e:=ue (10 * (m+1)) (9 - p.more) q (by rw[show 10 * (m+1)+(9 - p.more)=10 * (m+1+1) - (p.more+1) from (Nat.le_antisymm (t9 (ay (10 * (m + 1 + 1)) (p.more + 1)) (ad c)) (t9 (ar (10 * (m + 1 + 1)) (p.more + 1) (rT c)) (am c)))];exact h1);have:=Bl hd m q h2 e n (Nat.le_of_succ_le_succ a);rw[h3,b]at this;exact this
def xt(t:bG)(h:dc):yw t (t.probeStart h):=⟨W,W,W⟩
structure vT(t:bG)(p:bO):Prop where
 m:p.more<=9
 i:p.i<t.mask+1
 q:p.perturb<2 ^ 64
 d:p.dummy=L
def xr(t:bG)(h:dc):vT t (t.probeStart h):=
 ⟨uR (xt t h),iD _ (by simp),by show dP h<_;unfold dP;omega,W⟩
def vT.ZR(h:vT t p):vT t (t.advance p):=by
 unfold dD;split
 .exact⟨by exact ab (IU _ _) h.m,h.i,h.q,h.d⟩
 .refine⟨?_,iD _ (by simp),(bh (Nat.div_le_self _ _) h.q),h.d⟩
  .show dA _ _ - _<=9;unfold dA;split<;>simp
theorem sS{t:bG}(o:t.mask=7\/t.mask=31\/t.mask=127\/t.mask=511)(hd:t.dummies=#[])(hp:vT t p)(B:j<t.mask+1)(u:t.slot j=.empty) :
  ∃m,t.probe ha hh p=Y m:=by
 cases q:t.probe ha hh p with
 |some m=>exact⟨m,W⟩
 |none=>
   exfalso;unfold SetTable.probe ji at q;have e:=hp.m;have f:=hp.q;obtain⟨_,r,h1,h2,h3,a⟩:=zr hd p.more (10 * (t.mask+15) - (p.more+1)) p W hp.d (by rw[show p.more+1+(10 * (t.mask+15) - (p.more+1))=10 * (t.mask+15) from (Nat.le_antisymm (rT (ar (10 * (t.mask + 15)) (p.more + 1) (rT e))) (rT (ay (10 * (t.mask + 15)) (p.more + 1))))];exact q);have g:=ue (10 * (t.mask+14)) (9 - p.more) r (by rw[show 10 * (t.mask+14)+(9 - p.more)=10 * (t.mask+15) - (p.more+1) from (Nat.le_antisymm (t9 (ay (10 * (t.mask + 15)) (p.more + 1)) (ad e)) (t9 (ar (10 * (t.mask + 15)) (p.more + 1) (rT e)) (am e)))];exact h1);obtain⟨n,b,c⟩:=Fh o (i:=r.i) (p:=r.perturb) (by rw[h3];exact iD _ (by simp)) (by rw[a];show p.perturb / 32<2 ^ 64;omega) B;have:=Bl hd (t.mask+13) r h2 g n b;rw[c]at this;exact this u
noncomputable def way(t:bG):T->bO->bO
 |0,p=>p
 |n+1,p=>way t n (t.advance p)
theorem kP(t:bG):∀(a b:T)(p:bO),way t (a+b) p=way t b (way t a p)
 |0,b,p=>by rw[jR];rfl
 |a+1,b,p=>by rw[show a+1+b=(a+b)+1 from(gD _ _ _)];exact kP t a b _
theorem IX:∀(n:T){p:bO},vT t p->vT t (way t n p)
 |0,p,h=>h
 |n+1,p,h=>IX n h.ZR
set_option tactic.hygienic true
theorem xF{t:bG}(hd:t.dummies=#[]):∀(fuel:T) (p:bO) {m:ME},p.dummy=L->bX t ha hh fuel p=Y m->
  ∃n,(∀k<n,∃i,t.slot (way t k p).j=.live i/\ha i≠hh)/\((m=.empty (way t n p).j L/\t.slot (way t n p).j=.empty)\/∃i,m=.candidate (way t n p).j i (way t (n+1) p)/\t.slot (way t n p).j=.live i/\ha i=hh)
 |0,p,m,_,h=>by cases h
 |fuel+1,p,m,hp,h=>by
   rw[bX]at h
   cases a:t.slot p.j with
   |empty=>
     rw[a]at h
     injection h with h
     exact⟨0,λk b=>((bD b (aY _))).elim,.inl ⟨by rw[<-h,hp];rfl,a⟩⟩
   |dummy=>exact(lq hd a).elim
   |live i=>
     rw[a]at h;dsimp only at h;split at h
     .rename_i e
      injection h with h
      exact⟨0,λk b=>((bD b (aY _))).elim,.inr ⟨i,h.symm,a,by simpa using e⟩⟩
     .rename_i e;obtain⟨n,h1,h2⟩:=xF hd fuel _ (sA hp) h;refine⟨n+1,λk b=>?_,h2⟩
      cases k with
      |zero=>exact⟨i,a,by simpa using e⟩
      |succ k=>exact h1 k (cq b)
def OT(hs:B2 xs)(h:j∈xs.toList):xs[aH xs j]?=Y j:=by
 obtain⟨i,hi,e⟩:=cv.mp h;have c:i<xs.size:=by simpa using hi
 obtain⟨h1,h2,h3⟩:=Mo hs j
 have hb:aH xs j<=i:=by
  rcases iR i (aH xs j)with hl|hl
  .have:=h2 i c hl;simp_all
  .exact hl
 have f:aH xs j=i:=by
  rcases iR _ i with hl|hl
  .exact((bD (hs.get c hl) (ab (af (by simpa using e)) (h3 _ (bh hb c) (aw _))))).elim
  .exact bu hb hl
 simp_all
def Aq{t:bG}(B:B2 t.place)(h:j∈t.place.toList):t.slot j=.live (aH t.place j):=by
 unfold lP;simp only[OT B h,f5,e6]
def Ko{t:bG}(hd:t.dummies=#[])(h:t.slot j≠.empty):j∈t.place.toList:=by
 unfold lP at h;dsimp only at h;split at h
 .rename_i e;exact cv.mpr ⟨_,by simpa using (bY.mp (by simpa using e)).1,by simpa using (bY.mp (by simpa using e)).2⟩
 .rw[hd,Ft]at h;simp at h
set_option tactic.hygienic false
def Pb{t:bG}(h:t.slot j=.live i):t.place[i]?=Y j:=by
 unfold lP at h;dsimp only at h;split at h
 .simp_all
 grind
def Mw{t t':bG}(h:t.mask=t'.mask)(p:bO):t.advance p=t'.advance p:=by
 unfold dD;rw[h]
theorem om{t t':bG}(h:t.mask=t'.mask):∀(n:T)(p:bO),way t n p=way t' n p
 |0,p=>rfl
 |n+1,p=>by rw[way,way,Mw h,om h n]
def uH{t t':bG}(h:t.mask=t'.mask)(x:dc):t.probeStart x=t'.probeStart x:=by
 unfold SetTable.probeStart;rw[h]
def mX(t:bG)(x:dc)(j:T):Prop:=∃n,(way t n (t.probeStart x)).j=j/\∀k<n,(way t k (t.probeStart x)).j∈t.place.toList
def mX.mono{t t':bG}(h:t.mask=t'.mask)(hs:∀j∈t.place.toList,j∈t'.place.toList)(y:mX t x j):mX t' x j:=by
 obtain⟨n,h1,h2⟩:=y;refine⟨n,?_,λk a=>?_⟩
 .rwa[<-uH h,<-om h]
 .rw[<-uH h,<-om h];exact hs _ (h2 k a)
def Fc{t:bG}:a∈(t.put j).1.place.toList↔a=j\/a∈t.place.toList:=by
 show a∈(cR _ _ j).toList↔_;rw[eC];have e:=bc (aH t.place j) t.place.toList;constructor
 .grind
 grind
def mX.new(h:∀k<n,(way t k (t.probeStart x)).j∈t.place.toList):mX (t.put (way t n (t.probeStart x)).j).1 x (way t n (t.probeStart x)).j:=by
 exact mX.mono (t:=t)  rfl (λj a=>Fc.mpr (.inr a)) ⟨n,W,h⟩
def Qd(t:bG)(p:bO):Prop:=p.j+p.more<=t.mask
def JI(h:i<mask+1):i+(dA mask i - i)<=mask:=by
 unfold dA;split<;>omega
def Qd.start(t:bG)(x:dc):Qd t (t.probeStart x):=JI (iD _ (by simp))
def Qd.ZR(h:Qd t p):Qd t (t.advance p):=by
 unfold Qd at h ⊢;unfold dD;split
 .grind
 .exact JI (iD _ (by simp))
theorem IY:∀(n:T){p:bO},Qd t p->Qd t (way t n p)
 |0,p,h=>h
 |n+1,p,h=>IY n h.ZR
def Cv(n:T)(x:dc):(way t n (t.probeStart x)).j<=t.mask:=by
 exact ab (bP _ _) (IY n (Qd.start t x))
def qj:∀(k:T)(p:bO),k<=p.more->way t k p={ p with j:=p.j+k,more:=p.more - k }
 |0,p,h=>rfl
 |k+1,p,h=>by
   rw[way];have e:t.advance p={ p with j:=p.j+1,more:=p.more - 1 }:=by unfold dD;rw[a6 (bh (aY _) h)]
   rw[e,qj k _ (by exact Nat.le_sub_of_add_le h)]
   grind
noncomputable abbrev Cf(ow:eb (a5 T))(j:T):a7:=(ow.getD j (Y 0)).isSome
set_option tactic.hygienic true
theorem Bs:∀(fuel:T) (p:bO) {j:T},yw t p->cZ t.mask ow fuel p.i p.perturb=Y j->
  ∃n,(way t n p).j=j/\(∀k<n,Cf ow (way t k p).j=U)/\ow.getD j (Y 0)=L
 |0,p,j,_,h=>by cases h
 |fuel+1,p,j,hp,h=>by
   have b:p.i<=dA t.mask p.i:=by unfold dA;split<;>simp
   have c:dA t.mask p.i+1 - p.i=p.more+1:=by rw[hp.m];exact Nat.sub_add_comm b
   rw[cZ,c]at h;split at h
   .rename_i k a
    injection h with h
    subst h;obtain⟨h1,h2,h3⟩:=List.find?_range_eq_some.mp a;have h2 :=aO.mp h2;refine⟨k,?_,λm w=>?_,by simpa using h1⟩
    .rw[qj k p (cq h2)];rw[hp.j]
    .rw[qj m p (cq (dn w h2))];have:=h3 m w;rw[hp.j];simpa [Cf,iC]using this
   .rename_i a;have a:=zX.mp a;have f:way t (p.more+1) p=t.advance (way t p.more p):=by rw[kP];rfl
    have g:=qj (t:=t) p.more p (aw _)
    have l:yw t (way t (p.more+1) p)/\(way t (p.more+1) p).i=(f6 t.mask p.i p.perturb).1/\(way t (p.more+1) p).perturb=(f6 t.mask p.i p.perturb).2:=by
     rw[f,g];unfold dD;rw[c4 (by simp)];exact⟨⟨W,W,hp.d⟩,W,W⟩
    obtain⟨o,q,r⟩:=l;dsimp only at h;rw[<-q,<-r]at h;obtain⟨n,s,u,v⟩:=Bs fuel _ o h;refine⟨p.more+1+n,by rw[kP];exact s,λk e=>?_,v⟩
    rcases iR k (p.more+1)with hl|hl
    .rw[qj k p (cq hl)];have:=a k hl;rw[hp.j];simpa [Cf,iC]using this
    .have:=u (k - (p.more+1)) (t9 (ws hl) e);rw[<-kP,(m7 hl)]at this;exact this
def MA(t:bG)(ow:eb (a5 T))(x:dc)(j:T):Prop:=∃n,(way t n (t.probeStart x)).j=j/\∀k<n,Cf ow (way t k (t.probeStart x)).j=U
structure Lay(t:bG)(hs:O dc)(ow:eb (a5 T))(c:T):Prop where
 sz:ow.size=t.mask+1
 st:∀j k:T,ow[j]?=Y (Y k)->k<c/\MA t ow (hs.getD k 0) j
 ex:∀k<c,∃j:T,ow[j]?=Y (Y k)
 un:∀j j' k:T,ow[j]?=Y (Y k)->ow[j']?=Y (Y k)->j=j'
def getD_none{ow:eb (a5 T)}(h:ow.getD j (Y 0)=L):ow[j]?=Y L:=by
 unfold Gw at h;split at h
 .simp_all
 .cases h
def Tu(h:Cf ow a=U):Cf (ow.setIfInBounds j (Y c)) a=U:=by
 unfold Cf Gw at h ⊢;by_cases ha:a<ow.size
 .rw[mi ha]at h;rw[mi (by simpa using ha)];by_cases e:j=a
  .subst e;simp
  simp_all
 .rw[dif_neg (by simpa using ha)];rfl
def MA.set(h:MA t ow x a):MA t (ow.setIfInBounds j (Y c)) x a:=
 let ⟨n,h1,h2⟩:=h
 ⟨n,h1,λk b=>Tu (h2 k b)⟩
def get_set{ow:eb (a5 T)}(B:j<ow.size):(ow.setIfInBounds j (Y c))[a]?=if j=a then Y (Y c)else ow[a]? :=by
 rw[Array.getElem?_setIfInBounds];split
 .simp
 .rfl
def Lay.step(y:Lay t hs ow c)(h:cZ t.mask ow (ji t.mask) (dP (hs.getD c 0) % (t.mask+1)) (dP (hs.getD c 0))=Y j):Lay t hs (ow.setIfInBounds j (Y c)) (c+1):=by
 obtain⟨n,h1,h2,h3⟩:=Bs _ (t.probeStart (hs.getD c 0)) (xt t _) h;have h3:=getD_none h3;have d :=(bY.mp h3).1;refine⟨by simpa using y.sz,λa k ha=>?_,λk g=>?_,λa f k ha b=>?_⟩
 .rw[get_set d]at ha;split at ha
  .rename_i e;subst e
   injection ha with ha
   injection ha with ha
   subst ha;exact⟨aw _,MA.set ⟨n,h1,h2⟩⟩
  .obtain⟨i,l⟩:=y.st a k ha;exact⟨fL i,l.set⟩
 .rcases iR k c with hl|hl
  .obtain⟨a,ha⟩:=y.ex k hl;refine⟨a,?_⟩;rw[get_set d,c4 (λe=>by grind)];exact ha
  .refine⟨j,?_⟩;rw[get_set d,a6 W,(bu (cq g) hl)]
 .rw[get_set d]at ha b;split at ha<;>split at b
  .grind
  .injection ha with ha
   injection ha with ha
   have:=(y.st f k b).1
   simp_all
  .injection b with b
   injection b with b
   have:=(y.st a k ha).1;exact((bD this (af b))).elim
  .exact y.un a f k ha b
theorem x6:∀(fuel i p:T),cZ mask ow fuel i p=L->∀n<fuel,Cf ow (tJ mask n i p).1=U
 |0,i,p,h,n,c=>((bD c (aY _))).elim
 |fuel+1,i,p,h,n,c=>by
   have b:i<=dA mask i:=by unfold dA;split<;>simp
   rw[cZ]at h;split at h
   .cases h
   .rename_i a;have a:=zX.mp a
    cases n with
    |zero=>
      have:=a 0 (by omega);show Cf ow i=U;simpa [Cf,iC]using this
    |succ n=>exact x6 fuel _ _ h n (cq c)
set_option tactic.hygienic false
def Pt(b:mask=7\/mask=31\/mask=127\/mask=511)(B:j<mask+1)(c:Cf ow j=J):∃a,cZ mask ow (ji mask) (dP x % (mask+1)) (dP x)=Y a:=by
 cases q:cZ mask ow (ji mask) (dP x % (mask+1)) (dP x)with
 |some a=>exact⟨a,W⟩
 |none=>
   exfalso;obtain⟨n,h1,h2⟩:=Fh b (p:=dP x) (iD _ (by simp)) (by unfold dP;omega) B;have:=x6 _ _ _ q n (by exact fL (dm h1));rw[h2,c]at this;cases this
def Ks{l:O T}(B:l.Nodup)(h:∀x∈l,x<c):Z l<=c:=by
 have hp:l.Perm ((aJ c).filter λx=>decide (x∈l)):=by
  rw[dW B (zY Gv fo)]
  simp_all
 rw[hp.length_eq];exact ab (g8 _ _) (by simp)
def EX{ow:eb (a5 T)}(B:j<ow.size)(h:Cf ow j=U):∃k,ow[j]?=Y (Y k):=by
 unfold Cf Gw at h;rw[mi B]at h;obtain⟨k,a⟩:=mE.mp h
 simp_all
def Lay.room(y:Lay t hs ow c)(B:c<t.mask+1):∃j,j<t.mask+1/\Cf ow j=J:=by
 rcases IV (∃j,j<t.mask+1/\Cf ow j=J)with h|h
 .exact h
 .exfalso
  have g:∀j,j<t.mask+1->∃k:T,ow[j]?=Y (Y k):=λj f=>EX (by rw[y.sz];exact f) (by
   cases q:Cf ow j with
   |true=>rfl
   |false=>exact absurd ⟨j,f,q⟩ h)
  have i:∀j,j<t.mask+1->ow[j]?=Y (Y ((ow.getD j L).getD 0)):=λj f=>by
   obtain⟨k,e⟩:=g j f
   simp_all
  have o:((aJ (t.mask+1)).map λj=>(ow.getD j L).getD 0).Nodup:=by
   refine w6 _ (R:=λa b=>a∈aJ (t.mask+1)/\b∈aJ (t.mask+1)/\a≠b) ?_ ?_
   .rintro a b ⟨ha,hb,d⟩ e;have l:=i a (aO.mp ha);have m:=i b (aO.mp hb);rw[e]at l;exact d (y.un _ _ _ l m)
   .exact fx (λha hb d=>⟨ha,hb,d⟩) fo
  have:=Ks o (λx n=>by
   obtain⟨j,f,rfl⟩:=aP.mp n
   exact(y.st j _ (i j (aO.mp f))).1)
  rw[ah,bM]at this;exact bD B this
noncomputable def Ff(mask:T)(B:a5 (eb (a5 T)×T))(h:dc):a5 (eb (a5 T)×T):=do
 let (owner,k) <-B;let j <-cZ mask owner (ji mask) (dP h % (mask+1)) (dP h)
 pure (owner.setIfInBounds j (Y k),k+1)
theorem A3{t:bG}(o:t.mask=7\/t.mask=31\/t.mask=127\/t.mask=511){hs:O dc}(hl:Z hs<=t.mask):∀(rest pre:O dc)(ow:eb (a5 T)),hs=pre++rest->Lay t hs ow pre.length->∃B,rest.foldl (Ff t.mask) (Y (ow,pre.length))=Y (B,hs.length)/\Lay t hs B hs.length
 |[],pre,ow,e,y=>⟨ow,by simp_all,by grind⟩
 |x::rest,pre,ow,e,y=>by
   have hlen:Z pre<Z hs:=by rw[e];simp
   obtain⟨g,h1,h2⟩:=y.room (fL (ab hlen hl));have c:hs.getD pre.length 0=x:=by rw[e];simp
   obtain⟨a,ha⟩:=Pt o h1 h2;have b:=y.step (by rw[c];exact ha);obtain⟨B,d,f⟩:=A3 o hl rest (pre++[x]) _ (by simp_all) (by rw[aN];exact b);refine⟨B,?_,f⟩;rw[M9]
   have:Ff t.mask (Y (ow,pre.length)) x=Y (ow.setIfInBounds a (Y pre.length),(pre++[x]).length):=by
    unfold Ff
    simp_all
   rw[this];exact d
def JO{n j k:T}(h:(uy n (L:a5 T))[j]?=Y (Y k)):False:=by
 rw[Array.getElem?_replicate]at h
 simp_all
def Lay.nil(t:bG)(hs:O dc):Lay t hs (uy (t.mask+1) L) 0:=
 ⟨by simp,λj k h=>(JO h).elim,λk a=>((bD a (aY _))).elim,λj b k h _=>(JO h).elim⟩
def Pc{t:bG}(B:t.mask=7\/t.mask=31\/t.mask=127\/t.mask=511){hs:eb dc}(hl:hs.size<=t.mask):∃ow,Cm t.mask hs=Y ow/\Lay t hs.toList ow hs.size:=by
 obtain⟨ow,h1,h2⟩:=A3 B (by simpa using hl) hs.toList [] _ W (Lay.nil t _);refine⟨ow,?_,by simpa using h2⟩;unfold Cm;rw[<-Array.foldl_toList]
 have e:(hs.toList.foldl (Ff t.mask) (Y (uy (t.mask+1) L,0))).map (·.1)=Y ow:=by
  simp_all
 exact e
def Pd{hs:eb dc}(B:mask=7\/mask=31\/mask=127\/mask=511)(hl:hs.size<=mask) :
  ∃t o,lQ mask f m led pl hs=Y (t,o)/\t.mask=mask/\t.led=led/\o.toList.Perm (aJ hs.size)/\t.place.size=o.size/\(∀j∈t.place.toList,j<=mask)/\∀(i:T)(h:i<o.size)(I:i<t.place.size),mX t (hs.toList.getD o[i] 0) t.place[i]:=by
 let d:bG:={ mask,place:=#[],dummies:=#[],finger:=f,led,moves:=m,plain:=pl }
 obtain⟨ow,h1,y⟩:=Pc (t:=d) B hl;have s :=y.sz;let live:=(aJ (mask+1)).filterMap λj=>(ow.getD j L).map (j,·)
 have c:∀j k,(j,k)∈live↔ow[j]?=Y _:=λj k=>by
  simp only[live,qV,aO,zW,wq];constructor
  .rintro⟨a,ha,b,hb,rfl,rfl⟩;rw[vX]at hb;rw[a8 (ab ha (af s.symm))]at hb ⊢;exact dy Y hb
  .intro h;exact⟨j,ab ((bY.mp h).1) (af s),k,by rw[vX,h];rfl,W,W⟩
 let t:bG:={ mask,place:=(live.map (·.1)).toArray,dummies:=#[],finger:=f,led,moves:=m,plain:=pl }
 refine⟨t,(live.map (·.2)).toArray,?_,W,W,?_,by simp[t],λj g=>?_,λi hi v=>?_⟩
 .unfold lQ;rw[h1];rfl
 .have l:(live.map (·.2)).Nodup:=by
   have hp:live.Pairwise λa b=>a.1≠b.1:=by
    refine Ai.mpr (oh ?_ n6);intro a b p x w z A;obtain⟨_,_,rfl⟩:=dY w;obtain⟨_,_,rfl⟩:=dY A;exact ba p
   refine dX.mpr (fx ?_ hp);intro a b ha hb q e;have u:=(c _ _).mp ha;rw[e]at u;exact q (y.un _ _ _ u ((c _ _).mp hb))
  rw[dW l fo];intro k;rw[aP,aO];constructor
  .rintro⟨a,ha,rfl⟩;exact(y.st _ _ ((c _ _).mp ha)).1
  .intro C;obtain⟨j,g⟩:=y.ex k C;exact⟨_,(c j k).mpr g,W⟩
 .obtain⟨a,ha,rfl⟩:=aP.mp g;exact cq (ab ((bY.mp ((c _ _).mp ha)).1) (af s))
 .have r:i<Z live:=by simpa using hi
  have F:(live.map (·.2)).toArray[i]=live[i].2:=by simp
  have G:t.place[i]=live[i].1:=by simp[t]
  rw[F,G];obtain⟨_,n,D,E⟩:=y.st _ _ ((c live[i].1 live[i].2).mp (bA r));refine⟨n,?_,λk C=>?_⟩
  .rwa[om (t:=t) (t':=d) W]
  .rw[om (t:=t) (t':=d) W];obtain⟨b,hb⟩:=EX (bh (Cv k _) (af s.symm)) (E k C);exact aP.mpr ⟨_,(c _ b).mpr hb,W⟩
theorem Bn{t:bG}(hd:t.dummies=#[])(B:∀i,ha i≠hh):∀(fuel:T)(p:bO){m:ME},p.dummy=L->bX t ha hh fuel p=Y m->∃n,n<fuel/\t.slot (way t n p).j=.empty/\∀k<n,t.slot (way t k p).j≠.empty
 |0,p,m,_,h=>by cases h
 |fuel+1,p,m,hp,h=>by
   rw[bX]at h
   cases a:t.slot p.j with
   |empty=>exact⟨0,by simp,a,λk b=>(fun z => (Nat.not_le_of_lt b (Nat.zero_le _)))⟩
   |dummy=>exact(lq hd a).elim
   |live i=>
     rw[a]at h;dsimp only at h;rw[c4 (by simpa using B i)]at h;obtain⟨n,h1,h2,h3⟩:=Bn hd B _ _ (sA hp) h;refine⟨_,dm h1,h2,λk b=>?_⟩
     cases k with
     |zero=>show t.slot p.j≠_;rw[a];simp
     |succ k=>exact h3 k (cq b)
def DL{t:bG}(B:t.mask=7\/t.mask=31\/t.mask=127\/t.mask=511)(hd:t.dummies=#[])(x:dc)(b:j<t.mask+1)(c:t.slot j=.empty) :
  ∃N,N<6000/\t.slot (way t N (t.probeStart x)).j=.empty/\∀k<N,t.slot (way t k (t.probeStart x)).j≠.empty:=by
 obtain⟨m,h⟩:=sS B hd (ha:=λ_=>x+1) (xr t x) b c;obtain⟨n,h1,h2,h3⟩:=Bn hd (λ_=>(λz=>(Na (Int.le_of_eq z) (Int.le_refl _)))) _ _ W h;refine⟨n,?_,h2,h3⟩;unfold ji at h1;omega
def CY{t:bG}(y:t.mask=7\/t.mask=31\/t.mask=127\/t.mask=511)(hd:t.dummies=#[])(h1:t.slot (way t N (t.probeStart x)).j=.empty)(h2:∀k<N,t.slot (way t k (t.probeStart x)).j≠.empty)(B:a<=N) :
  (t.probe ha x (way t a (t.probeStart x))=Y (.empty (way t N (t.probeStart x)).j L)/\∀k,a<=k->k<N->∃i,t.slot (way t k (t.probeStart x)).j=.live i/\ha i≠x)\/
  ∃b i,a<=b/\b<N/\t.probe ha x (way t a (t.probeStart x))=Y (.candidate (way t b (t.probeStart x)).j i (way t (b+1) (t.probeStart x)))/\t.slot (way t b (t.probeStart x)).j=.live i/\ha i=x/\∀k,a<=k->k<b->∃i,t.slot (way t k (t.probeStart x)).j=.live i/\ha i≠x:=by
 have g :=IX a (xr t x);obtain⟨m,h⟩:=sS y hd g (dm (Cv (t:=t) N x)) h1;obtain⟨c,u,l⟩:=xF hd _ _ g.d h
 have f:∀k,a<=k->k<a+c->∃i,t.slot (way t k _).j=.live i/\ha i≠x:=λk n q=>by
  have:=u (k - a) (t9 (ws n) q);rwa[<-kP,(m7 n)]at this
 have r:a+c<=N:=by
  rcases iR N (a+c)with hl|hl
  .obtain⟨i,e,_⟩:=f N B hl
   grind
  .exact hl
 rcases l with⟨l,o⟩|⟨i,l,o,v⟩
 .rw[<-kP]at l o
  have:a+c=N:=by
   rcases iR (a+c) N with hl|hl
   .simp_all
   .exact bu r hl
  refine .inl ⟨by rw[h,l,this],λk n q=>f k n (ab q (af this.symm))⟩
 .rw[<-kP]at o
  have s:a+c<N:=by
   grind
  refine .inr ⟨_,i,bP _ _,s,?_,o,v,f⟩;rw[h,l,<-kP,<-kP];rfl
end L2
namespace L2
open PySem PySem.Spec PyProof.Rows
structure jZ(led:a7)(h:cg)(S:aC)(es:eb (dc×ag))(ep:T)(t:bG):Prop where
 obj:h.get? S=Y { cls:=.type "set",dict:=L,data:=.set es ep t }
 fits:t.fits es.size=U
 ok:pN led t
def jZ.keep{b:cg}(y:jZ led h S es ep t)(k:∀o,h.get? S=Y o->b.get? S=Y o):jZ led b S es ep t:=⟨k _ y.obj,y.fits,y.ok⟩
noncomputable abbrev mR(w:cT):a7:=!w.params.followText "set-order"
def kj{t u:Type}{R:t->u->Prop}{l z:O t}(p:z.Perm l):∀{o:O u},fS R l o->∃B,fS R z B/\B.Perm o:=by
 induction p with
 |nil=>intro o h;cases h;exact⟨[],.nil,.nil⟩
 | cons x p g=>intro o h;cases h with
   |cons a b=>obtain⟨B,c,d⟩:=g b;exact⟨_,.cons a c,d.cons _⟩
 | swap x y l=>intro o h;cases h with
   | cons a b=>cases b with
     |cons c d=>exact⟨_,.cons c (.cons a d),.swap ..⟩
 |trans p q e f=>
   intro o h;obtain⟨j,a,b⟩:=f h;obtain⟨i,c,d⟩:=e a;exact⟨i,c,d.trans b⟩
theorem oB{c e:Type}{R:c->e->Prop}{x:c}{y:e}(h:R x y):∀{l:O c}{f:O e},fS R l f->fS R (l++[x]) (f++[y])
 |_,_,.nil=>.cons h .nil
 |_,_,.cons a b=>.cons a (oB h b)
theorem jV{c e:Type}{R:c->e->Prop}:∀{l:O c}{f:O e},fS R l f->Z l=Z f
 |_,_,.nil=>rfl
 |_,_,.cons a b=>by rw[bf,bf,jV b]
theorem lX{e f:Type}{R:e->f->Prop}{x:e}:∀{l:O e}{o:O f},fS R l o->x∈l->∃y∈o,R x y
 |_,_,.nil,h=>by cases h
 |_,_,.cons a b,h=>by
   rcases aq.mp h with rfl|h
   .exact⟨_,.head _,a⟩
   .obtain⟨y,c,d⟩:=lX b h;exact⟨y,.tail _ c,d⟩
theorem nr{f e:Type}{R:f->e->Prop}{y:e}:∀{l:O f}{o:O e},fS R l o->y∈o->∃x∈l,R x y
 |_,_,.nil,h=>by cases h
 |_,_,.cons a b,h=>by
   rcases aq.mp h with rfl|h
   .exact⟨_,.head _,a⟩
   .obtain⟨x,c,d⟩:=nr b h;exact⟨x,.tail _ c,d⟩
section
variable{prog:cA}{w:cT}{K:Type}[eu K]{knd:mG prog w K}{s:ao}
def qq{b:eb (dc×ag)}{t':bG}(y:jZ led s.heap S es ep t)(f:t'.fits b.size=U)(o:pN led t')(B:b.size<=aD)
  (k:∀c,cJ S s.heap c->jZ led c S b (ep+1) t'->Q () { s with heap:=c }):aA (aB prog w) A (storeSet S b t') Q E s:=by
 refine wpAny_storeSet_of y.obj W (k _ (nJ ..) ⟨?_,f,o⟩) B;exact (g7 (Obj.putSet _ t') y.obj (by rfl))
def Em{g:a7->Af oC}(P:∀(c:a7) (s1:ao) (R:oC->ao->Prop),R () s1->aA (aB prog w) A (g c) R E s1){B:eb (dc×ag)}{C:bG}{d:a7}{R:a5 a7->ao->Prop}
  (y:jZ led s.heap S es ep t)(f:C.fits B.size=U)(o:pN led C)(u:B.size<o9)
  (k:∀I F z t',cJ S s.heap I->jZ led I S F z t'->F.toList.Perm B.toList->R (Y U) { s with heap:=I }) :
  aA (aB prog w) A (do
      storeSet S B C
      if(!d && C.tooFull)=U then do
         g (h9 C B (dq B.size)).2.2
         storeSet S (h9 C B (dq B.size)).1 (h9 C B (dq B.size)).2.1
         pure (Y U)
       else pure (Y U)) R E s:=by
 refine wb9 (qq y f o (mu u) λh1 a b=>?_);split
 .have hp:=relayAll_perm C B (dq B.size);have sz:(h9 C B (dq B.size)).1.size=B.size:=by rw[<-be,hp.length_eq,be]
  exact wb9 (P _ _ _ (wb9 (qq b (relayAll_fits ..) (o.Wm ..) (by rw[sz];exact mu u) λh2 Ce e=>wu9 (k h2 _ _ _ (a.trans Ce) e hp))))
 .exact wu9 (k h1 _ _ _ a b (.refl _))
theorem RA(I:knd.is k x=U)(z:x.scannable=U)(y:jZ led s.heap S es ep t)(el:Qo knd es.toList)(room:es.size+1<o9)
  (P:∀b,(∃e∈es.toList,knd.is k e.2=U)->Q b s)
  (new:∀b F C B t',(¬ ∃e∈es.toList,knd.is k e.2=U)->cJ S s.heap F->jZ led F S C B t'->C.toList.Perm (es.toList++[(knd.hash k,x)])->Q b { s with heap:=F }) :
  aA (aB prog w) A (setAddHashed S x (knd.hash k)) Q E s:=by
 refine cx (wb9 (df y.obj W y.fits ?_));dsimp only;rw[byScan_of z (Nat.lt_of_succ_lt room) el];refine wb9 (wb9 (eQ (wb9 (wpAny_setScan_of I y.obj W y.fits el ?_))))
 cases q:List.findIdx? (λe=>knd.is k _) es.toList with
 |some j=>
   obtain⟨o,hp,_⟩:=List.findIdx?_eq_some_iff_getElem.mp q;exact wu9 (wu9 (P _ ⟨_,bA o,hp⟩))
 |none=>
   have p:¬ ∃e∈es.toList,knd.is k e.2=U:=by
    rintro⟨e,v,hp⟩;have:=List.findIdx?_eq_none_iff.mp q e v
    simp_all
   have m:∀(c:a7)(s1:ao)(R:oC->ao->Prop),R () s1->aA (aB prog w) A (match c with|true=>rule "set.scan.the-table-gave-way"|false=>pure ()) R E s1:=by
    intro c s1 R h;cases c
    .exact wu9 h
    .exact eQ h
   have f:=layNew_perm t es (knd.hash k) x;have g:=layNew_fits t es (knd.hash k) x;have i:=y.ok.lay es (knd.hash k) x;generalize layNew t es _ x=L' at f g i ⊢;obtain⟨l,r,d,u⟩:=L';rw[Iv]at f;have n:l.size=es.size+1:=by rw[<-be,f.length_eq,aN];rfl
   refine wb9 (m _ _ _ ?_);have fin:∀F C B t',cJ S _ F->jZ _ F S C B t'->C.toList.Perm _->Q U _:=λF C B t' a b c=>new _ F _ B t' p a b (c.trans f);split
   .refine wb9 ?_;rw[hashByValue_scannable 8 z];refine wu9 ?_;refine Em m y ?_ ?_ (bh (af n) room) λF C B t' a b c=>wu9 (fin F _ B t' a b c)
    .split
     .exact g
     .exact SetTable.fits_plain_off g
    .split
     .exact i
     .exact i.off
   .exact wb9 (wu9 (Em m y g i (bh (af n) room) λF C B t' a b c=>wu9 (fin F _ B t' a b c)))
end
def lJ{prog:cA}{w:cT}{K:Type}[eu K](knd:mG prog w K)(led:a7)(h:cg)(S:aC)(n:T)(M:K->Prop):Prop:=
 ∃b c t a,jZ led h S b c t/\Qo knd b.toList/\fS (λ(e:dc×ag)k=>knd.is k e.2=U) b.toList a/\a.Nodup/\Z a<=n/\∀q,q∈a↔M q
section
variable{prog:cA}{w:cT}{K:Type}[eu K]{knd:mG prog w K}{A:bZ}{G:eb Cp->eb Cp->Prop}{St:T->ao->Prop}
def lJ.keep{b:cg}(y:lJ knd led h S n M)(k:∀o,h.get? S=Y o->b.get? S=Y o):lJ knd led b S n M:=by
 obtain⟨c,d,t,e,a,r⟩:=y;exact⟨c,d,t,e,a.keep k,r⟩
def vh{val:T->K}{i:T}{q:K}:(∃j,j<i+1/\val j=q)↔(∃j,j<i/\val j=q)\/val i=q:=by
 constructor
 .rintro⟨j,h,e⟩;by_cases a:j=i
  .subst a;exact .inr e
  .exact .inl ⟨j,cj (cq h) a,e⟩
 .rintro(⟨j,h,e⟩|e)
  .exact⟨j,fL h,e⟩
  .exact⟨i,aw _,e⟩
theorem I0(c0:WalksS prog w A.in1 I fp wr G n P St)(S:aC)(O':S∉fp)(val:T->K)(e3:∀i v,P i v->knd.is (val i) v=U/\v.scannable=U)(hb:n+1<o9) :
  ∀(k i:T)(s:ao),n - i=k->i<=n->St i s->lJ knd led s.heap S i (λq=>∃j,j<i/\val j=q)->
   (∀s',Moved (S::wr) G s s'->lJ knd led s'.heap S n (λq=>∃j,j<n/\val j=q)->R (.ok (.ret .none)) s')->
   fC (aB prog w) A (.builtin "set.update.loop" ⟨[.ref S,.ref I],[]⟩) R s:=by
 have g :=λh=>O' (c0.sub _ h);have sub:∀b∈wr,b∈S::wr:=λb m=>kc _ m;intro k
 induction k with
 |zero=>
   intro i s hk hi d y C;obtain rfl:i=n:=bu (rT hi) (t9 (wt hi) (af hk));refine fi eE ?_;exact wb9 (c0.done s _ _ d λs' m=>wu9 (C s' (m.mono sub) (y.keep λo e=>m.heap S o g e)))
 |succ k T'=>
   intro i s hk hi d y C;refine fi eE ?_;refine wb9 (c0.item i s _ _ (t9 (ws hi) (af hk.symm)) d λv s' U' l m=>?_);refine ac fun OH kq => ?_; obtain⟨x,L'⟩:=e3 i v U';obtain⟨es,ep,t,ks,M,D,r,N,E,Q⟩:=y.keep λo e=>m.heap S o g e;refine kq ?_; refine wb9 (cx ?_);refine cx (wb9 (knd.pyHash x ?_));have len:=jV r;have has:(∃e∈es.toList,knd.is (val i) e.2=U)↔val i∈ks:=by
    constructor
    .rintro⟨e,e1,e2⟩;obtain⟨q,V,X⟩:=lX r e1;rw[knd.inj _ _ _ e2 X];exact V
    .intro q;obtain⟨e,e1,e2⟩:=nr r q;exact⟨e,e1,e2⟩
   have go:∀h',cJ S s'.heap h'->lJ knd led h' S (i+1) (λq=>∃j,j<i+1/\val j=q)->
     aA (aB prog w) A.in1 (again (.builtin "set.update.loop" ⟨[.ref S,.ref I],[]⟩)) (λfin c=>match fin with | .done f=>R (.ok f) c | .again c'=>c'.quiet=U/\fC (aB prog w) A c' R c) (λe c=>R (.error e) c) { s' with heap:=h',toks:=s'.toks+1 }:=by
    intro h' B F;refine wu9 ⟨lL gQ _,T' (i+1) _ (by omega) (t9 (ws hi) (af hk.symm)) (c0.frame _ s' _ _ l (vW _) λb hb o e=>?_) F λs2 m2 e7=>?_⟩
    .rw[B.2 b λz=>O' (z▸hb)];exact e
    .refine C s2 (Moved.trans c0.gtrans ((m.mono sub).then_heap (vW _) λb o hb e=>?_) m2) e7;rw[B.2 b λz=>hb (z▸iT)];exact e
   refine RA x L' M D (Zf (af len) hb E hi) (λb H=>?_) (λb h' es' J' t' H B F p=>?_)
   .refine go s'.heap (yB ..) ⟨es,ep,t,ks,M,D,r,N,fL E,λq=>?_⟩;show q∈ks↔∃j,j<i+1/\val j=q;rw[vh,show(∃j,j<i/\val j=q)↔q∈ks from(Q q).symm];refine⟨.inl,λz=>z.elim id λe=>?_⟩;rw[<-e];exact has.mp H
   .obtain⟨u,c1,c2⟩:=kj p (oB (R:=λ(e)k=>knd.is k e.2=U) x r);have nk :=λz=>H (has.mpr z);refine go h' B ⟨es',J',t',u,F,(D.push x L').perm p,c1,?_,?_,λq=>?_⟩
    .refine c2.nodup_iff.mpr (bV.mpr ⟨N,bE.mpr ⟨by simp,eP⟩,λa ha b hb=>?_⟩)
     grind
    .rw[c2.length_eq,aN];exact dm E
    .show q∈u↔∃j,j<i+1/\val j=q;rw[c2.mem_iff,aR,aG,vh,show(∃j,j<i/\val j=q)↔q∈ks from(Q q).symm];exact⟨λz=>z.imp id tV,λz=>z.imp id tV⟩
end
section
variable{z0:ao}
def L5{st:O ag}(B:qc P w z0.heap f p)(hs:∀v∈st,∃l b,v=.ref b/\qc P w z0.heap l b)(h:Q J z0):aA (aB P w) A (searchCouldBeSeen (.ref p) st) Q E z0:=by
 refine wb9 ?_;refine fH _ (λtl r d=>r.1=L/\d=z0/\∀v∈tl,∃l b,v=.ref b/\qc P w _ l b) _ ?_ ?_ _ _ ⟨W,W,hs⟩
 .rintro v tl r d ⟨ge,rfl,a⟩;obtain⟨l,b,rfl,e⟩:=a v iT;dsimp only;split
  .exact wu9 ⟨W,W,λu c=>a u (kc _ c)⟩
  .refine wb9 (t4 GC B ?_);refine wb9 (t4 GC e ?_);refine wb9 (zG GC B ?_);exact wb9 (zG GC e (wu9 ⟨W,W,λu c=>a u (kc _ c)⟩))
 .rintro⟨r1,r2⟩ d ⟨rfl,rfl,_⟩;exact wu9 h
end
def below_at(hs:B2 xs)(hi:i<xs.size):aH xs xs[i]=i:=by
 obtain⟨h1,h2,h3⟩:=Mo hs _
 rcases m6 (aH xs _) i with hl|hl|hl
 .exact((bD (hs.get hi hl) (h3 (aH xs _) (dn hl hi) (aw _)))).elim
 .exact hl
 .exact((bD (h2 i hi hl) (aw _))).elim
def NL{t:bG}(B:B2 t.place)(hi:i<t.place.size):t.slot t.place[i]=.live i:=by
 rw[Aq B (by simp),below_at B hi]
noncomputable abbrev Zw(es:eb (dc×ag))(i:T):dc:=(es[i]?.map (·.1)).getD 0
section
variable{P:cA}{w:cT}{A:bZ}{s:ao}{es:eb (dc×ag)}{t:bG}
structure X5(P:cA)(w:cT)(h:cg)(es:eb (dc×ag))(t:bG)(kf:T->O NK):Prop where
 mask:t.mask=7\/t.mask=31\/t.mask=127\/t.mask=511
 el:∀(i:T)(hi:i<es.size),∃b,es[i].2=.ref b/\qc P w h (kf i) b/\es[i].1=dH P w (kf i)
 std:∀(i:T)(hi:i<es.size)(hp:i<t.place.size),mX t es[i].1 t.place[i]
 le:∀j∈t.place.toList,j<=t.mask
theorem Az(c0:A.units+3<=cO)(y:jZ led s.heap S es ep t)(z:X5 P w s.heap es t kf)(O':qc P w s.heap ks p)
  (h1:t.slot (way t N (t.probeStart (dH P w ks))).j=.empty)(h2:∀k<N,t.slot (way t k (t.probeStart (dH P w ks))).j≠.empty)
  (B:∀i,i<es.size->kf i=ks->Q (.there L) s)(new:(∀i,i<es.size->kf i≠ks)->Q (.free (way t N (t.probeStart (dH P w ks))).j J) s) :
  ∀(fuel a:T)(qp:a5 bO),a<=N->N - a<fuel->qp.getD (t.probeStart (dH P w ks))=way t a (t.probeStart (dH P w ks))->(∀k<a,∀i,t.slot (way t k (t.probeStart (dH P w ks))).j=.live i->kf i≠ks)->
   aA (aB P w) A (j5 S (.ref p) (dH P w ks) U fuel qp) Q E s
 |0,a,qp,ha,hf,_,_=>((bD hf (aY _))).elim
 |fuel+1,a,qp,ha,hf,G,o=>by
   have hsz:t.place.size=es.size:=by
    have:=y.fits;simp only[lR,au,gq]at this;exact this.1
   have g:=z.mask
   have U':t.gaveWay=J:=by
    unfold SetTable.gaveWay
    rcases g with e|e|e|e<;>rw[e]<;>rfl
   have l:∀{j i:T},t.slot j=.live i->∃hi:i<es.size,Zw es i=es[i].1:=λ{j i}e=>by
    have hi:=(bY.mp (Pb e)).1;refine⟨ab hi (af hsz),?_⟩;unfold Zw;simp[a8 ((ab hi (af hsz)))]
   refine wb9 (df y.obj W y.fits ?_);dsimp only;rw[U'];simp only[ft,cV];rw[G]
   rcases CY g y.ok.d (ha:=Zw es) h1 h2 ha with⟨H,D⟩|⟨b,i,b1,b2,H,D,g3,V⟩
   .erw [H]
    refine wu9 (new λi hi e=>?_);obtain⟨n,R,T'⟩:=z.std i hi (ab hi (af hsz.symm));have hh:es[i].1=dH P w ks:=by obtain⟨_,_,_,q⟩:=z.el i hi;rw[q,e]
    rw[hh]at R T';have f:t.slot (way t n (t.probeStart (dH P w ks))).j=.live i:=by rw[R];exact NL y.ok.r (ab hi (af hsz.symm))
    have I:n<N:=by
     rcases m6 n N with hl|hl|hl
     .exact hl
     .simp_all
     .have:=T' N hl;rw[Aq y.ok.r this]at h1;cases h1
    rcases iR n a with hl|hl
    .exact o n hl i f e
    .obtain⟨h,e1,e2⟩:=D n hl I;rw[f]at e1
     injection e1 with e1
     subst e1;obtain⟨_,e3⟩:=l f
     simp_all
   .erw [H]
    dsimp only;obtain⟨hi,e3⟩:=l D;obtain⟨c,c1,c2,c3⟩:=z.el i hi
    have u:es[i]?=Y (es[i].1,.ref c):=by
     rw[a8 hi,<-c1]
    have next:aA (aB P w) A (do
      let Y (_,v):=es[i]? | unsupported "internal:set-entry"
      let equal <-holding [v] (eqBool v (.ref p));let (es',_,t') <-setState S
      if(U && equal)=U then return .there L
      let Y same:=t'.sameMemory t.moves t.mask|unsupported "set.changed-during-lookup:is-the-new-block-at-the-old-address"
      let still <-match(if same=U then t'.slot (way t b (t.probeStart (dH P w ks))).j else .empty)with
       | .live h=>match es'[h]? with
         |some (_,e7)=>do pure (if(<-isSame e7 v)=U then Y h else L)
         |none=>pure L
       |_=>pure L
      match still with
      |none=>rule "set.search.anew";j5 S (.ref p) (dH P w ks) U fuel L
      |some h=>if equal=U then return .there (Y h)else j5 S (.ref p) (dH P w ks) U fuel (Y (way t (b+1) (t.probeStart (dH P w ks))))) Q E s:=by
     rw[u];dsimp only;refine wb9 (cx (Xw c0 c2 O' ?_));refine wb9 (df y.obj W y.fits ?_);by_cases e:kf i=ks
     .rw[cb e];exact wu9 (B i hi e)
     .rw[dd e];have J':t.sameMemory t.moves t.mask=Y U:=by unfold SetTable.sameMemory;simp
      rw[J'];simp only[e6];rw[D];dsimp only;rw[u];refine wb9 (wpAny_isSame_ref_self (wb9 (wu9 ?_)));refine Az c0 y z O' h1 h2 B new _ _ _ (b2) (Zf (ws b2) (wt ha) hf b1) W λk hk h K L'=>?_
      rcases m6 k b with hl|hl|hl
      .rcases iR k a with m|m
       .exact o k m h K L'
       .obtain⟨i2,F,q2⟩:=V k m hl;rw[K]at F
        injection F with F
        subst F;obtain⟨M,q3⟩:=l K;obtain⟨_,_,_,q4⟩:=z.el h M
        simp_all
      .simp_all
      .exact bD hk hl
    split
    .refine wb9 (L5 O' (λv X=>?_) next)
     .obtain⟨x,C,rfl⟩:=aP.mp X;obtain⟨k,hk,rfl⟩:=Array.mem_iff_getElem.mp (Array.mem_filter.mp (Array.mem_toList_iff.mp C)).1;obtain⟨f3,d1,d2,_⟩:=z.el k hk;exact⟨_,f3,d1,d2⟩
    .exact next
end
section
variable{z0:ao}
def Xn(B:qc P w z0.heap c p)(h:∀b,Q b z0):aA (aB P w) A (hG 8 (.ref p)) Q E z0:=QM GC B h
end
section
variable{P:cA}{w:cT}{A:bZ}{s:ao}{es:eb (dc×ag)}{t:bG}
def _root_.L2.q9.keepsC(x:q9 I h c p)(go:h.get? d=Y o)(B:o.cls≠.type "tuple")(f:cJ d h u):q9 I u c p:=
 x.nW (XT go B λb o n e=>(f.2 b n).trans e)
structure D5(P:cA)(w:cT)(h:cg)(es:eb (dc×ag))(t:bG):Prop where
 mask:t.mask=7\/t.mask=31\/t.mask=127\/t.mask=511
 el:∀e∈es.toList,∃l b,e.2=.ref b/\qc P w h l b/\e.1=dH P w l
 std:∀q∈es.toList.zip t.place.toList,mX t q.1.1 q.2
 le:∀j∈t.place.toList,j<=t.mask
 nf:t.place.size * 5<t.mask * 3
def D5.toN(z:D5 P w h es t):∃c,X5 P w h es t c:=by
 refine⟨λi=>if hi:i<es.size then(z.el es[i] (by simp)).choose else [],z.mask,λi hi=>?_,λi hi hp=>?_,z.le⟩
 .obtain⟨b,h1,h2,h3⟩:=(z.el es[i] (by simp)).choose_spec;refine⟨b,h1,?_,?_⟩
  .rwa[mi hi]
  .rwa[mi hi]
 .refine z.std (es[i],t.place[i]) ?_;refine cv.mpr ⟨i,by simp;omega,by simp⟩
def rP{l b:O T}(c:l.Nodup)(B:b.Nodup)(h:∀x∈l,x∈b):Z l<=Z b:=by
 have hp:l.Perm (b.filter λx=>decide (x∈l)):=by
  rw[dW c (zY Gv B)]
  simp_all
 rw[hp.length_eq];exact g8 _ _
def UB(B:B2 t.place)(hf:t.place.size<t.mask+1)(hd:t.dummies=#[]):∃j,j<t.mask+1/\t.slot j=.empty:=by
 rcases IV (∃j,j<t.mask+1/\t.slot j=.empty)with h|h
 .exact h
 .exfalso;have:=rP fo (oh (λh=>(ba h)) B) λj(b)=>Ko hd λe=>h ⟨j,aO.mp b,e⟩;rw[bM]at this;exact bD hf this
def CZ(I:A.units+3<=cO)(y:jZ led s.heap S es ep t)(z:D5 P w s.heap es t)(C:qc P w s.heap F p)
  (B:(∃e∈es.toList,∃b,e.2=.ref b/\qc P w s.heap F b)->Q (.there L) s)
  (new:∀j,(¬ ∃e∈es.toList,∃b,e.2=.ref b/\qc P w s.heap F b)->t.slot j=.empty->j<=t.mask->mX (t.put j).1 (dH P w F) j->Q (.free j J) s) :
  aA (aB P w) A (setSearch S (.ref p) (dH P w F) U) Q E s:=by
 refine ac λ_ x=>?_;obtain⟨G,n⟩:=z.toN;have f:=z.nf;obtain⟨j,l,v⟩:=UB y.ok.r (by rcases z.mask with e|e|e|e<;>rw[e]at f ⊢<;>omega) y.ok.d;obtain⟨N,m,h1,h2⟩:=DL z.mask y.ok.d _ l v;refine x ?_;refine Az I y n C h1 h2 (λi hi e=>B ?_) (λg=>new _ ?_ h1 (Cv N _) (mX.new λk D=>Ko y.ok.d (h2 k D))) _ 0 L (aY _) (ab m iF) W λk D=>((bD D (aY _))).elim
 .obtain⟨b,a,h,_⟩:=n.el i hi;exact⟨_,by simp,b,a,e▸h⟩
 .rintro⟨e,v,b,a,h⟩;obtain⟨i,hi,rfl⟩:=cv.mp v;have c:i<es.size:=by simpa using hi
  obtain⟨u,o,q,_⟩:=n.el i c;rw[ph]at a;rw[o]at a;cases a;exact g i c (q.inj h)
end
section
variable{s:ao}
def Og(y:jZ led s.heap S es ep t)(B:e9 wanted<=aD)(hl:t.relaid (es.map (·.1)) wanted=Y (t',o))(hs:(o.filterMap (es[·]?)).size=es.size)
  (f:t'.fits (o.filterMap (es[·]?)).size=U)(ok:pN led t')(c:es.size<=aD)(k:∀b,cJ S s.heap b->jZ led b S (o.filterMap (es[·]?)) (ep+1) t'->Q () { s with heap:=b }) :
  aA (aB P w) A (setRelay S wanted) Q E s:=by
 refine wb9 (df y.obj W y.fits ?_);dsimp only;rw[c4 (λz=>(bD z B)),hl];refine wb9 ?_;change aA _ _ (if((o.filterMap _).size != es.size)=U then(unsupported _ >>= λ_=>pure (o.filterMap _,t'))else pure (o.filterMap _,t')) ..;rw[c4 (by simp[hs])];exact wu9 (qq y f ok (by rwa[hs]) k)
end
theorem filterMap_map{b c:Type}{f:b->a5 c}{g:b->c}:∀{l:O b},(∀k∈l,f k=Y (g k))->l.filterMap f=l.map g
 |[],_=>rfl
 |a::l,h=>by rw[qa,h a iT,ak,filterMap_map λk d=>h k (kc _ d)]
def He(es:eb (dc×ag)):(aJ es.size).map (λk=>(es[k]?).getD (0,.none))=es.toList:=by
 apply fu
 .simp
 simp_all
section
variable{es:eb (dc×ag)}
def AN{o:eb T}(hp:o.toList.Perm (aJ es.size)):(o.filterMap (es[·]?)).toList=o.toList.map (λk=>(es[k]?).getD (0,.none)):=by
 rw[Array.toList_filterMap];refine filterMap_map λk a=>?_;have :=aO.mp (hp.mem_iff.mp a)
 simp_all
def u6{o:eb T}(hp:o.toList.Perm (aJ es.size)):(o.filterMap (es[·]?)).toList.Perm es.toList:=by
 rw[AN hp];have:=hp.map (λk=>(es[k]?).getD (0,fZ));rwa[He]at this
def Oh{h:cg}(B:mask=7\/mask=31\/mask=127\/mask=511)(y:es.size<=mask)(t:es.size * 5<mask * 3)(el:∀e∈es.toList,∃l b,e.2=.ref b/\qc P w z l b/\e.1=dH P w l) :
  ∃t' o,lQ mask f m led pl (es.map (·.1))=Y (t',o)/\(o.filterMap (es[·]?)).size=es.size/\t'.fits (o.filterMap (es[·]?)).size=U/\pN led t'/\(o.filterMap (es[·]?)).toList.Perm es.toList/\D5 P w z (o.filterMap (es[·]?)) t':=by
 obtain⟨t',o,h1,h2,h3,a,u,k,n⟩:=Pd (hs:=es.map _) B (by simpa using y);have a:o.toList.Perm (aJ es.size):=by simpa using a
 have hp:=u6 a;have g:(o.filterMap (es[·]?)).size=es.size:=by rw[<-be,hp.length_eq,be]
 have p:o.size=es.size:=by rw[<-be,a.length_eq,bM]
 have ok:=pN.laid h1;refine⟨t',o,h1,g,?_,ok,hp,?_⟩
 .simp only[lR,pe,au,gq,ed,ok.d]
  simp_all
 .refine⟨by rwa[h2],λe v=>el e (hp.mem_iff.mp v),λq r=>?_,λj s=>by rw[h2];exact k j s,Zf (Nat.mul_le_mul_left 5 (af u)) t (Nat.mul_le_mul_left 5 (af p)) (Nat.mul_le_mul_left 3 (af h2.symm))⟩;obtain⟨i,hi,rfl⟩:=cv.mp r;rw[M7]at hi;have c:i<o.size:=by simp at hi;omega
  have x:o[i]<es.size:=aO.mp (a.mem_iff.mp (by simp))
  have A:(o.filterMap _).toList[i]'(by exact ab hi (oP _ _))=es[o[i]]:=by
   simp only[AN a,nN,ph,a8 x,fe]
  have C:=n i c (ab c (af u.symm))
  simp_all
end
def Fl{b:Type}(xs:eb b)(hp:p<=xs.size)(x:b):(cR xs p x).size=xs.size+1:=by
 rw[<-be,eC,aN,bf,eF,nM];exact bu (t9 (oP p _) (ad hp)) (t9 (am hp) (a0 p xs.size (rT hp)))
def Be{b:Type}(xs:eb b)(p:T)(x:b):(cR xs p x).toList.Perm (xs.toList++[x]):=by
 rw[eC];refine MI.trans ?_;rw[bc];exact dB (l₁:=[x])
def Pj{c e:Type}(xs:eb c)(b:eb e)(h:xs.size=b.size){p:T}(hp:p<=xs.size)(x:c)(y:e){q:c×e}(B:q∈(cR xs p x).toList.zip (cR b p y).toList):q=(x,y)\/q∈xs.toList.zip b.toList:=by
 rw[eC,eC,M6 (by simp;exact bu (t9 (oP p _) (a0 p b.size (t9 hp (af h)))) (t9 (oP p _) (a0 p xs.size (rT hp))))]at B
 have a:xs.toList.zip b.toList=(xs.toList.take p).zip (b.toList.take p)++(xs.toList.drop p).zip (b.toList.drop p):=by
  rw[<-M6 (by simp;exact bu (t9 (oP p xs.size) (a0 p b.size (t9 hp (af h)))) (t9 (oP p b.size) (a0 p xs.size (rT hp)))),bc,bc]
 rw[a]
 rcases aR.mp B with B|B
 .simp_all
 .rcases aq.mp B with B|B
  .exact .inl B
  .exact .inr (aR.mpr (.inr B))
section
def Aj{c:Prop}[ez c]{m o:Af a7}{k:a7->Af a7}{Q:a7->ao->Prop}(h:∀b,aA (aB P w) A (k b) Q E s)(e:∀{f:a7->ao->Prop},(∀b,f b s)->aA (aB P w) A m f E s)(B:∀{f:a7->ao->Prop},(∀b,f b s)->aA (aB P w) A o f E s) :
  aA (aB P w) A (if c then m >>= k else o >>= k) Q E s:=by
 split
 .exact wb9 (e h)
 .exact wb9 (B h)
def mX.plain(h:mX t x j):mX { t with plain:=b } x j:=
 mX.mono (t:=t)  rfl (λ_ h=>h) h
def Pn(B:mask=7\/mask=31\/mask=127\/mask=511)(h0:n * 5<mask * 3)(h1:(n+1) * 5>=mask * 3)(b:n<300):(e9 (dq (n+1)) - 1=31\/e9 (dq (n+1)) - 1=127\/e9 (dq (n+1)) - 1=511)/\n+1<=e9 (dq (n+1)) - 1/\(n+1) * 5<(e9 (dq (n+1)) - 1) * 3/\e9 (dq (n+1))<=512:=by
 rcases B with rfl|rfl|rfl|rfl
 .obtain rfl:n=4:=by omega
  decide +kernel
 .obtain rfl:n=18:=by omega
  decide +kernel
 .obtain rfl:n=76:=by omega
  decide +kernel
 .exact ⟨(.inl (Zd h1 (Nat.mul_le_mul_left 5 b)).elim),⟨(Zd h1 (Nat.mul_le_mul_left 5 b)).elim,⟨(Zd h1 (Nat.mul_le_mul_left 5 b)).elim,(Zd h1 (Nat.mul_le_mul_left 5 b)).elim⟩⟩⟩
end
section
variable{s:ao}{A:bZ}
set_option tactic.hygienic true in
def add_n(i_:A.units+3<=cO)(y:jZ led s.heap S es ep t)(z:D5 P w s.heap es t)(O':qc P w s.heap ks p)(room:es.size<300)
  (c0:∀b,(∃e∈es.toList,∃b,e.2=.ref b/\qc P w s.heap ks b)->Q b s)
  (new:∀b h' es' e1 t',(¬ ∃e∈es.toList,∃b,e.2=.ref b/\qc P w s.heap ks b)->cJ S s.heap h'->jZ led h' S es' e1 t'->D5 P w h' es' t'->es'.toList.Perm (es.toList++[(dH P w ks,.ref p)])->Q b { s with heap:=h' }) :
  aA (aB P w) A (setAddHashed S (.ref p) (dH P w ks)) Q E s:=by
 have hsz:t.place.size=es.size:=by
  have:=y.fits;simp only[lR,au,gq]at this;exact this.1
 refine cx ?_;refine wb9 (df y.obj W y.fits ?_);dsimp only;refine wb9 (CZ i_ y z O' (λh=>(wu9 (c0 _ h))) (λj F hs N R=>?_))
 .refine wb9 (df y.obj W y.fits ?_);refine Aj (λb=>?_) (λq=>Xn O' q) (λq=>wu9 (q _));have i :=(Mo y.ok.r j).1
  have n:({ cls:=.type "set",dict:=L,data:=.set es ep t }:k8).cls≠.type "tuple":=by
   simp
  generalize m:(if b=U then(t.put j).1 else { (t.put j).1 with plain:=J })=t1;have T':t1.place=cR t.place (aH t.place j) j:=by rw[<-m];split<;>rfl
  have L':t1.mask=t.mask:=by rw[<-m];split<;>rfl
  have G:pN led t1:=by
   have:=y.ok.put (uJ y.ok.d hs);rw[<-m];split
   .exact this
   .exact this.off
  have q4:∀x a,mX _ x a->mX t1 x a:=λx a h=>by
   rw[<-m];split
   .exact h
   .exact h.plain
  have C:t1.place.size=es.size+1:=by rw[T',Fl _ i,hsz]
  have g:(cR es (aH _ j) (dH P w ks,cQ p)).size=es.size+1:=Fl _ (ab i (af hsz)) _;have c:=Be es (aH t.place j) (dH P w ks,cQ p)
  have u:∀e,e∈(cR es (aH _ j) _).toList->e∈es.toList\/e=(dH P w ks,cQ p):=λe he=>by
   rcases aR.mp (c.mem_iff.mp he)with h|h
   .exact .inl h
   .exact .inr (aG.mp h)
  have H:=z.nf
  have v:t1.fits (cR es (aH t.place j) (dH P w ks,cQ p)).size=U:=by
   simp only[lR,pe,au,gq,ed,G.d];refine⟨bu (ab (af C) (af g.symm)) (ab (af g) (af C.symm)),?_⟩;show t1.place.size+0<=t1.mask;rw[L']
   rcases z.mask with e|e|e|e<;>rw[e]at H ⊢<;>omega
  have I:∀a∈t1.place.toList,a<=t1.mask:=λa ha=>by
   rw[T']at ha;rw[L']
   rcases aR.mp ((Be _ (aH _ j) j).mem_iff.mp ha)with h|h
   .exact z.le a h
   .rwa[aG.mp h]
  have k:∀q∈(cR es (aH _ j) (dH P w ks,cQ p)).toList.zip t1.place.toList,mX t1 q.1.1 q.2:=λq hq=>by
   rw[T']at hq
   rcases Pj es _ hsz.symm (ab i (af hsz)) _ _ hq with h|h
   .rw[h];exact q4 _ _ R
   .exact q4 _ _ (mX.mono (t:=t)  rfl (λa ha=>Fc.mpr (.inr ha)) (z.std q h))
  rw[show(t.put j).2=aH _ j from rfl];generalize cR es (aH _ j) _=es1 at g c u v k ⊢;refine wb9 (qq y v G (by rw[g];exact ab room iF) λh1 M U'=>?_)
  have B:∀h',cJ S _ h'->∀e∈es1.toList,∃l b,e.2=.ref b/\qc P w h' l b/\e.1=dH P w l:=λh' J' e he=>by
   rcases u e he with h|h
   .obtain⟨l,b,V,e2,X⟩:=z.el e h;exact⟨l,b,V,e2.keepsC y.obj n J',X⟩
   .rw[h];exact⟨ks,p,W,O'.keepsC y.obj n J',W⟩
  split
  .rename_i f
   have f:(es.size+1) * 5>=t.mask * 3:=by
    simp only[Qq,zZ,Ea,pe,G.d,ed]at f;have:(#[]:eb T).size=0:=rfl;exact Zf (Nat.mul_le_mul_left 3 (af L'.symm)) f (Nat.mul_le_mul_left 5 (af C)) (Nat.mul_le_mul_left 5 (af this))
   refine ac λ_ kq=>?_;obtain⟨m1,m2,m3,m4⟩:=Pn z.mask (by rwa[<-hsz]) f room;obtain⟨t',o,V,e2,X,r4,r5,K⟩:=Oh (h:=s.heap) (.inr m1) (ab (af g) m2) (t9 (Nat.mul_le_mul_left 5 (af g)) m3) (B h1 M)
   refine kq ?_;have hrl:t1.relaid (es1.map (·.1)) (dq (es.size+1))=Y (t',o):=by
    unfold Gj;rwa[G.l]
   refine wb9 (Og U' (by exact ab m4 iF) hrl e2 X r4 (by rw[g];exact ab room iF) λh2 Ce y2=>?_)
   have D:({ cls:=.type "set",dict:=L,data:=.set es1 (ep+1) t1 }:k8).cls≠.type "tuple":=by
    simp
   refine wu9 (new _ h2 _ _ _ F (M.trans Ce) y2 ⟨K.mask,λe he=>?_,K.std,K.le,K.nf⟩ (r5.trans c));obtain⟨l,b,s1,s2,s3⟩:=K.el e he;exact⟨l,b,s1,s2.keepsC U'.obj D Ce,s3⟩
  .rename_i f
   have f:(es.size+1) * 5<t.mask * 3:=by
    simp only[Qq,zZ,Ea,pe,G.d,ed]at f;exact QI (Nat.mul_le_mul_left 5 (af C.symm)) (kB f) (Nat.mul_le_mul_left 3 (af L'))
   exact wu9 (new _ h1 _ _ _ F M U' ⟨by rw[L'];exact z.mask,B h1 M,k,I,by rwa[L',C]⟩ c)
end
section
variable{prog:cA}{w:cT}{A:bZ}{s:ao}
abbrev qr(w:cT):k8:={ cls:=.type "set",dict:=L,data:=.set #[] 0 (.fresh 0 0 (mR w)) }
def Ew(a:ag)(k:Q (.ref s.heap.objs.size) { s with heap:=s.heap.push (qr w) }):fC (aB prog w) A (.call (.builtin "set.__new__") ⟨[.type "set",a],[]⟩) (wants Q E) s:=by
 refine rj PySem.F.plain_set_new PySem.F.entry_set_new (zR (PySem.F.newCall_set_1 a) ?_);have b:=sub_set_self;obtain⟨hp,g,d,c,os⟩:=s
 wp_walk
 refine yy ?_;exact wu9 (wb9 (wpAny_alloc (wu9 (wu9 k))))
theorem qO{T':eS}(u:TypeCalled T' z y)(ct:checkTypeCall T' ⟨args,[]⟩=pure ())(I:n7 table y=Y B)
  (o:fC (aB prog w) A.in1 (.call (.builtin z) ⟨.type T'::args,[]⟩) (wants Q1 E) s)
  (C:∀t s1,Q1 t s1->s1.TypeIs t T'/\fC (aB prog w) A.in1 (.call (.builtin y) ⟨t::args,[]⟩) (wants (λr s2=>r=.none/\Q t s2) E) s1) :
  aA (aB prog w) A (call (.type T') args) Q E s:=by
 obtain⟨c,tl,n⟩:=u.mro;have p:=u.made;have q:=u.sub;refine wpAny_call (codeAny_of_tree ?_);refine wu9 (uA (Code.quiet_builtin _ (by decide +kernel)) (fi PySem.F.entry_type_call ?_));have h:=u.notType;have e5:=u.canCreate
 repeat any_goals first|assumption|wp_step
 refine ku o λr s1 b=>?_
 cases r with
 |error e=>exact b
 |ok m=>
   cases m with
   |ret t=>
     obtain⟨i,f⟩:=C _ _ b;have j:=u.init.lookup;have k:=u.init.bind t
     repeat any_goals first|assumption|wp_step
     refine ku f λg s2 a=>?_
     cases g with
     |error e=>exact a
     |ok d=>
       cases d with
       |ret r=>
         obtain⟨rfl,l⟩:=a
         repeat any_goals first|assumption|wp_step
       |_=>exact a.elim
   |_=>exact b.elim
def yu{T':eS}(ty:s.TypeIs v T')(a:gg (.type T') (.type "set")=pure J)(b:gg (.type T') (.type "frozenset")=pure J)(k:Q J s):aA M A (M3 v) Q E s:=by
 exact wb9 (dv ty a (dv ty b k))
variable{K:Type}[eu K]{knd:mG prog w K}
def Ga(prog:cA)(w:cT)(h:cg)(v:ag)(n:T)(P:T->ag->Prop):Prop:=
 ∀(c:bZ)(d:ag->ao->Prop)(s1:ao)(e:ag->ao->Prop),h.objs.size<s1.heap.objs.size->(∀b o,h.get? b=Y o->s1.heap.get? b=Y o)->
  (∀(o:k8)(fp:O aC)(St:T->cg->Prop),(∀a,a.handled=L->Walks prog w a s1.heap.objs.size fp [s1.heap.objs.size] n P St)->(∀b∈fp,b=s1.heap.objs.size\/b<h.objs.size)->St 0 (s1.heap.push o)->
   e (.ref s1.heap.objs.size) { s1 with heap:=s1.heap.push o })->aA (aB prog w) c (IJ v) e d s1
def uM{T':eS}(hh:A.handled=L)(ty:∀s1:ao,(∀b o,s.heap.get? b=Y o->s1.heap.get? b=Y o)->s1.TypeIs v T')
  (a:gg (.type T') (.type "set")=pure J)(b:gg (.type T') (.type "frozenset")=pure J)(nd:(fY T' == fY "dict")=J)(B:Ga prog w s.heap v n P)
  (val:T->K)(C:∀i v,P i v->knd.is (val i) v=U/\v.scannable=U)(hb:n+1<o9)
  (k:∀u t,lJ knd (mR w) u s.heap.objs.size n (λq=>∃j,j<n/\val j=q)->(∀b o,s.heap.get? b=Y o->u.get? b=Y o)->Q (.ref s.heap.objs.size) { s with heap:=u,toks:=t }) :
  aA (aB prog w) A (call (.type "set") [v]) Q E s:=by
 refine qO (Q1:=λg s1=>g=.ref s.heap.objs.size/\s1={ s with heap:=s.heap.push (qr w) }) lg (yE v) jk (Ew v ⟨W,W⟩) ?_;rintro g s1 ⟨rfl,rfl⟩;have gS:(s.heap.push (qr w)).get? s.heap.objs.size=Y (qr w):=ax _ W;have h:pP { s with heap:=s.heap.push (qr w) } (.ref s.heap.objs.size) "set":=⟨_,gS,W⟩
 refine⟨h,rj lg.init.plain jk (check_set_init_1 h ?_)⟩;have x:∀b o,s.heap.get? b=Y o->(s.heap.push (qr w)).get? b=Y o:=λb o e=>hp9 _ e;unfold fD.«set.__init__» noKeywords;generalize p:og=U'
 wp_walk
 subst p;refine wb9 (yu (ty _ x) a b ?_);refine wb9 (g9 (ty _ x) ?_);rw[nd];have sz:(s.heap.push (qr w)).objs.size=s.heap.objs.size+1:=cm ..;refine wb9 (B _ _ _ _ (by simp) x λo fp St r c st=>?_);refine wb9 (rd ?_);refine I0 (led:=mR w) (r _ (by simp[hh])).toS s.heap.objs.size (λm=>?_) val C hb n 0 _ W (aY _) st ?_ ?_
 .rcases c _ m with q|q
  .have l :=q;rw[sz]at l;exact absurd l (ba (iQ _))
  .exact absurd q (bJ _)
 .refine⟨#[],0,_,[],⟨hp9 _ gS,by rfl,pN.fresh _⟩,λe D=>by simp at D,.nil,eP,aw _,λq=>?_⟩;simp
 .intro F m y;refine wu9 ?_;obtain⟨u,G,H,d,f⟩:=F;obtain rfl:G=s.gens:=m.gens;obtain rfl:H=s.drawn:=m.drawn;obtain rfl:f=s.os:=m.os;refine wu9 ⟨W,k u d y λb o e=>m.heap b o (λz=>?_) (hp9 _ (hp9 _ e))⟩;have lt:=hl9 e;simp only[aq,aQ,eg]at z
  rcases z with z|z
  .rw[z]at lt;exact absurd lt (bJ _)
  .rw[z,sz]at lt;exact absurd (tz lt) (bJ _)
end
section
variable{P:cA}{w:cT}
def _root_.L2.q9.mono{c:cg}(x:q9 I h f p)(k:∀b o,h.get? b=Y o->c.get? b=Y o):q9 I c f p:=x.nW λb o e _ _=>k b o e
def B5(P:cA)(w:cT)(led:a7)(h:cg)(S:aC)(b:T->O NK)(B:T->aC)(i:T):Prop:=
 ∃c d t a,jZ led h S c d t/\D5 P w h c t/\fS (λ(e:dc×ag)j=>e.2=.ref (B j)) c.toList a/\(a.map b).Nodup/\(∀j∈a,j<i)/\∀j,j<i->b j∈a.map b
variable{kf:T->O NK}{av:T->aC}
def B5.keep{u:cg}(y:B5 P w led h S kf av i)(k:∀o,h.get? S=Y o->u.get? S=Y o)(a:∀j,j<i->qc P w h (kf j) (av j))(b:∀j,j<i->qc P w u (kf j) (av j)):B5 P w led u S kf av i:=by
 refine ac λ_ r=>?_;obtain⟨z,A,t,B,n,c,f,p,d,q⟩:=y;refine r ?_;refine⟨z,A,t,B,n.keep k,⟨c.mask,λe s=>?_,c.std,c.le,c.nf⟩,f,p,d,q⟩;refine ac λ_ r=>?_;obtain⟨l,b0,v,C,x⟩:=c.el e s;obtain⟨j,g,m⟩:=lX f s;refine r ?_;rw[m]at v;cases v;rw[C.inj (a j (d j g))]at x;exact⟨_,_,m,b j (d j g),x⟩
variable{A:bZ}{G:eb Cp->eb Cp->Prop}{St:T->ao->Prop}
def Pl{h:cg}{es:eb (dc×ag)}{js:O T}{i m:T}(B:fS (λ(e:dc×ag) j=>e.2=.ref (av j)) es.toList js)(c:∀j∈js,j<i)(a:∀j,j<m->qc P w h (kf j) (av j))(hi:i<m) :
  (∃e∈es.toList,∃b,e.2=.ref b/\qc P w h (kf i) b)↔kf i∈js.map kf:=by
 constructor
 .rintro⟨e,l,b,k,n⟩;obtain⟨j,d,f⟩:=lX B l;rw[f]at k;cases k;rw[n.inj (a j (dn (c j d) hi))];exact bC d
 .intro q;obtain⟨j,d,e⟩:=aP.mp q;obtain⟨x,g,f⟩:=nr B d;exact⟨x,g,_,f,e▸a j (dn (c j d) hi)⟩
theorem GB(c0:WalksS P w A.in1 I fp wr G n Pv St)(S:aC)(e1:S∉fp)(hv:∀i v,Pv i v->v=.ref (av i))(h0:cg)(hk:∀j,j<n->qc P w h0 (kf j) (av j))(O':h0.get? S=L)(e2:∀b∈wr,h0.get? b=L)
  (hb:n<=300)(i_:A.in1.units+3<=cO) :
  ∀(k i:T)(s:ao),n - i=k->i<=n->St i s->(∀b o,h0.get? b=Y o->s.heap.get? b=Y o)->B5 P w led s.heap S kf av i->
   (∀s',Moved (S::wr) G s s'->B5 P w led s'.heap S kf av n->R (.ok (.ret .none)) s')->
   fC (aB P w) A (.builtin "set.update.loop" ⟨[.ref S,.ref I],[]⟩) R s:=by
 have x :=λh=>e1 (c0.sub _ h);have sub:∀b∈wr,b∈S::wr:=λb m=>kc _ m;have kin:∀(h:cg),(∀b o,h0.get? b=Y o->h.get? b=Y o)->∀j,j<n->qc P w h (kf j) (av j):=λh q j d=>(hk j d).mono q;intro k
 induction k with
 |zero=>
   intro i s g hi r B y K;obtain rfl:i=n:=bu (rT hi) (t9 (wt hi) (af g));refine fi eE ?_;refine wb9 (c0.done s _ _ r λs' m=>?_);exact wu9 (K s' (m.mono sub) (y.keep (λo e=>m.heap S o x e) (kin _ B) (kin _ (λb o e=>m.heap b o (λz=>by simp_all) (B b o e)))))
 |succ k ih=>
   intro i s g hi r B y K;refine fi eE ?_;rw[Around.under_plainId gQ];refine wb9 (c0.item i s _ _ (t9 (ws hi) (af g.symm)) r λv s' hP C m=>?_);have u :=λb o e=>m.heap b o (λz=>by rw[e2 b z]at e;cases e) (B b o e);refine ac fun MB kq => ?_; obtain rfl:=hv i v hP;have c:i<n:=t9 (ws hi) (af g.symm);obtain⟨es,ep,t,js,V,X,H,L',J',yf⟩:=y.keep (λo e=>m.heap S o x e) (λj d=>kin _ B j (ab d hi)) (λj d=>kin _ u j (ab d hi));refine kq ?_; refine wb9 (cx ?_);refine cx (wb9 (DI i_ (kin _ u i c) ?_));have len:=jV H;have M:Z js<=i:=by
    have:=rP ((dX.mp L').imp λh e=>h (dy kf e)) fo λj d=>aO.mpr (J' j d)
    simp_all
   have has:=Pl H J' (kin _ u) c
   have go:∀h' N,cJ S s'.heap h'->s'.toks<=N->B5 P w led h' S kf av (i+1)->
     aA (aB P w) A.in1 (again (.builtin "set.update.loop" ⟨[.ref S,.ref I],[]⟩)) (λfin l=>match fin with | .done f=>R (.ok f) l | .again c'=>c'.quiet=U/\fC (aB P w) A c' R l) (λe l=>R (.error e) l) { s' with heap:=h',toks:=N }:=by
    intro h' N D E Q;refine wu9 ⟨lL gQ _,ih _ _ (bu (QI (ws c) (wt (bx c)) (af g)) (QI (af g.symm) (ws (bx c)) (wt c))) (c) (c0.frame _ s' _ _ C E λb hb o e=>?_) (λb o e=>?_) Q λs2 m2 y2=>?_⟩
    .rw[D.2 b λz=>e1 (z▸hb)];exact e
    .rw[D.2 b λz=>by rw[z,O']at e;cases e];exact u b o e
    .refine K s2 (Moved.trans c0.gtrans ((m.mono sub).then_heap E λb o hb e=>?_) m2) y2;rw[D.2 b λz=>hb (z▸iT)];exact e
   refine add_n i_ V X (kin _ u i c) (Zf (af len) M c hb) (λb T'=>?_) (λb h' es' U' t' T' D Q z' p=>?_)
   .refine go _ _ (Heap.SameBut.refl ..) (bP _ _) ⟨es,ep,t,js,V,X,H,L',λj d=>ie (J' j d),λj d=>?_⟩;by_cases e:j=i
    .subst e;exact has.mp T'
    .exact yf j (cj (rT d) e)
   .obtain⟨F,c1,c2⟩:=kj p (oB (R:=λ(e)j=>e.2=.ref (av j)) W H);have c3:(F.map kf).Perm (js.map kf++[kf i]):=by
     have:=c2.map kf
     rwa [bK]at this
    refine go h' _ D (bP _ _) ⟨_,U',t',F,Q,z',c1,?_,λj d=>?_,λj d=>?_⟩
    .refine c3.nodup_iff.mpr (bV.mpr ⟨L',bE.mpr ⟨by simp,eP⟩,λa ha b hb=>?_⟩);rw[aG]at hb;subst hb;exact λz=>(λz=>T' (has.mpr z)) (z▸ha)
    .rcases aR.mp (c2.mem_iff.mp d)with h|h
     .exact ie (J' j h)
     .rw[aG.mp h];simp
    .rw[c3.mem_iff];by_cases e:j=i
     .grind
     .exact bp _ (yf j (cj (rT d) e))
end
section
variable{A:bZ}{s:ao}
def GU{T':eS}(hh:A.handled=L)(ty:∀s1:ao,(∀b o,s.heap.get? b=Y o->s1.heap.get? b=Y o)->s1.TypeIs v T')
  (a:gg (.type T') (.type "set")=pure J)(b:gg (.type T') (.type "frozenset")=pure J)(nd:(fY T' == fY "dict")=J)(B:Ga P w s.heap v n S)
  (O':∀i v,S i v->v=.ref (R i))(hk:∀j,j<n->qc P w s.heap (kf j) (R j))(hb:n<=300)(C:A.in1.in1.in1.units+3<=cO)
  (k:∀I F,B5 P w (mR w) I s.heap.objs.size kf R n->(∀b o,s.heap.get? b=Y o->I.get? b=Y o)->Q (.ref s.heap.objs.size) { s with heap:=I,toks:=F }) :
  aA (aB P w) A (call (.type "set") [v]) Q E s:=by
 refine qO (Q1:=λl s1=>l=.ref s.heap.objs.size/\s1={ s with heap:=s.heap.push (qr w) }) lg (yE v) jk (Ew v ⟨W,W⟩) ?_;rintro l s1 ⟨rfl,rfl⟩;have gS:(s.heap.push (qr w)).get? s.heap.objs.size=Y (qr w):=ax _ W;have p:pP { s with heap:=s.heap.push (qr w) } (.ref s.heap.objs.size) "set":=⟨_,gS,W⟩
 refine⟨p,rj lg.init.plain jk (check_set_init_1 p ?_)⟩;have D:∀b o,s.heap.get? b=Y o->(s.heap.push (qr w)).get? b=Y o:=λb o e=>hp9 _ e;unfold fD.«set.__init__» noKeywords;generalize t:og=U'
 wp_walk
 subst t;refine wb9 (yu (ty _ D) a b ?_);refine wb9 (g9 (ty _ D) ?_);rw[nd];have sz:(s.heap.push (qr w)).objs.size=s.heap.objs.size+1:=cm ..;refine wb9 (B _ _ _ _ (by simp) D λo fp St x d st=>?_);refine wb9 (rd ?_);refine GB (led:=mR w) (x _ (by simp[hh])).toS s.heap.objs.size (λm=>?_) O' s.heap hk (pz (aw _)) (λb hb=>?_) hb C n 0 _ W (aY _) st (λb o e=>hp9 _ (D b o e)) ?_ ?_
 .rcases d _ m with q|q
  .have r :=q;rw[sz]at r;exact absurd r (ba (iQ _))
  .exact absurd q (bJ _)
 .have f:b=(s.heap.push (qr w)).objs.size:=by simpa using hb
  rw[f,sz];exact pz (vW _)
 .refine⟨#[],0,_,[],⟨hp9 _ gS,by rfl,pN.fresh _⟩,⟨.inl rfl,λe G=>by simp at G,λq u=>by simp at u,λj c=>?_,by show 0 * 5<7 * 3;decide⟩,.nil,eP,λj c=>by simp at c,λj c=>((bD c (aY _))).elim⟩;simp[SetTable.fresh]at c
 .intro H m y;refine wu9 ?_;obtain⟨I,K,M,g,h⟩:=H;obtain rfl:K=s.gens:=m.gens;obtain rfl:M=s.drawn:=m.drawn;obtain rfl:h=s.os:=m.os;refine wu9 ⟨W,k I g y λb o e=>m.heap b o (λz=>?_) (hp9 _ (hp9 _ e))⟩;have lt:=hl9 e;simp only[aq,aQ,eg]at z
  rcases z with z|z
  .rw[z]at lt;exact absurd lt (bJ _)
  .rw[z,sz]at lt;exact absurd (tz lt) (bJ _)
end
end L2
local macro_rules | `(tactic| walk_at $s:str) => if s.getString.startsWith "u " then do let n := Lean.mkIdent (Lean.mkPrivateNameCore `PySem.Builtin.List.W1All (`PySem.Builtin ++ (s.getString.drop 2).toString.toName)); `(tactic| delta $n:ident) else Lean.Macro.throwUnsupported
namespace L2
open PySem PySem.W PySem.Spec PyProof.Rows
structure Lt(lt:T->T->a7):Prop where
 tr:∀i j k,lt i j=U->lt j k=U->lt i k=U
 co:∀i j,i≠j->lt i j=J->lt j i=U
 as:∀i j,lt i j=U->lt j i=J
noncomputable def zv:a7->iM->eb iM->T->T->T->gN bT Af (a5 T):=sortPriv% PySem.Builtin.gallop
noncomputable def ve:eb iM->eb iM->gN bT Af (eb iM):=sortPriv% PySem.Builtin.mergeLo
noncomputable def vf:eb iM->eb iM->gN bT Af (eb iM):=sortPriv% PySem.Builtin.mergeHi
section
variable{P:cA}{w:cT}{A:bZ}{E:ag->ao->Prop}{s:ao}{κ:pf}{it:T->iM}{lt:T->T->a7}{N:T}
def Wt(P:cA)(w:cT)(A:bZ)(E:ag->ao->Prop)(s:ao){b:Type}(m:gN bT Af b)(G:b->bT->Prop)(st:bT):Prop:=
 kasC (aB P w) A E m (λr a c=>G r a/\c=s) st s
variable{α β:Type}{G:β->bT->Prop}{st:bT}
def Wt.pure(h:G b st):Wt P w A E s (pure b) G st:=kasC_pure ⟨h,W⟩
def Wt.bind(h:Wt P w A E s m (λa B=>Wt P w A E s (f a) G B) st):Wt P w A E s (m >>= f) G st:=
 kasC_bind (c8 h (λ_ _ z=>by obtain⟨z,rfl⟩:=z;exact z) λ_ _ e=>e)
def Wt.mono(h:Wt P w A E s m c st)(f:∀b B,c b B->G b B):Wt P w A E s m G st:=
 c8 h (λ_ _ z=>⟨f _ _ z.1,z.2⟩) λ_ _ e=>e
def Wt.get{G:bT->bT->Prop}(h:G st st):Wt P w A E s (get:gN bT Af bT) G st:=kasC_get ⟨h,W⟩
def Wt.modify{G:PUnit->bT->Prop}(h:G ⟨⟩ (f st)):Wt P w A E s (modify f:gN bT Af PUnit) G st:=kasC_modify ⟨h,W⟩
def Wt.set{G:PUnit->bT->Prop}(h:G ⟨⟩ b):Wt P w A E s (MonadStateOf.set b:gN bT Af PUnit) G st:=by
 exact wu9 ⟨h,W⟩
def Wt.rule{G:oC->bT->Prop}(h:G () st):Wt P w A E s (liftM (rule n):gN bT Af oC) G st:=kasC_lift (eQ ⟨h,W⟩)
abbrev X4(G I:β->bT->Prop):j1 β->bT->Prop
 |.done b,st=>G b st
 |.yield b,st=>I b st
theorem Wt.loop{l:O T}{b:β}{f:T->β->gN bT Af (j1 β)}(I:T->β->bT->Prop)(h0:I 0 b st)
  (hb:∀j x b st,l[j]?=Y x->I j b st->Wt P w A E s (f x b) (X4 G (I (j+1))) st)(o:∀b st,I l.length b st->G b st):Wt P w A E s (forIn l b f) G st:=by
 have go:∀(r:O _)(j:T)(b:β)(st:bT),j+Z r=Z l->(∀k,r[k]?=l[j+k]?)->I j b st->Wt P w A E s (forIn r b f) G st:=by
  intro r
  induction r with
  |nil=>
    intro j b st a _ hi;exact kasC_nil ⟨o b st (by rwa[<-a]),W⟩
  |cons x r i=>
    intro j b st a g hi;refine kasC_cons (c8 (hb j x b st ((g 0).symm) hi) (λc m z=>?_) λ_ _ e=>e);obtain⟨c,d⟩:=c;obtain⟨z,rfl⟩:=z
    cases c with
    |done h=>exact⟨z,W⟩
    |yield h=>
      exact i _ h d (by exact bu (rT (af a)) (rT (af a.symm))) (λk=>by have:=g (k+1);grind) z
 simp_all
def Wt.range(I:T->β->bT->Prop)(h0:I 0 c st)
  (hb:∀j B st,j<b - a->I j B st->Wt P w A E s (f (a+j) B) (X4 G (I (j+1))) st)(o:∀B st,I (b - a) B st->G B st):Wt P w A E s (forIn [a:b] c f) G st:=
 kasC_range (Wt.loop I h0 (λj x B st d hi=>by
  have e:j<b - a:=by simpa using ((aT.mp d).1)
  rw[List.getElem?_range' e]at d;cases d
  simp_all) λB st hi=>o B st (by simp_all))
def tP(P:cA)(w:cT)(A:bZ)(s:ao)(κ:pf)(it:T->iM)(lt:T->T->a7)(N:T):Prop:=
 ∀i j,i<N->j<N->∀C:a7->ao->Prop,C (lt i j) s->aA (aB P w) A (keyLt' κ (it i).1 (it j).1) C (λ_ _=>False) s
def Wt.ask{G:a5 a7->bT->Prop}(h:tP P w A s κ it lt N)(b:kindOf st=κ)(hi:i<N)(B:j<N)(g:G (Y (lt i j)) st):Wt P w A E s (lt' (it i) (it j)) G st:=by
 rw[lt'_eq];refine kasC_bind (kasC_get ?_);refine kasC_bind (kasC_lift (jA ?_));rw[b];exact c8 (h i j hi B (λc a=>c=lt i j/\a=s) ⟨W,W⟩) (λc a ⟨d,e⟩=>by subst d e;exact kasC_pure ⟨g,W⟩) λ_ _ z=>z.elim
noncomputable abbrev Ar(it:T->iM)(l:O T):eb iM:=(l.map it).toArray
def Wt.elem{G:iM->bT->Prop}(h:l[i]?=Y x)(g:G (it x) st):Wt P w A E s (elem' (Ar it l) i) G st:=by
 rw[elem'_eq];have:(Ar it l)[i]?=Y (it x):=by simp[h]
 rw[this];exact .pure g
end
section
variable{st:bT}
abbrev VR:=a5 (a5 T)×T×T
def Fu{lo:T}(h1:lo<=k)(h2:k<=hi)(h3:hi<=n)
  (hf:∀x lo hi(o:j1 VR->bT->Prop),lo<=k->k<=hi->hi<=n->(lo>=hi->o (.done (L,lo,hi)) st)->(lo<hi->lo+(hi - lo) / 2<k->o (.yield (L,lo+(hi - lo) / 2+1,hi)) st)->
   (lo<hi->¬lo+(hi - lo) / 2<k->o (.yield (L,lo,lo+(hi - lo) / 2)) st)->Wt P w A E s (f x (L,lo,hi)) o st) :
  Wt P w A E s (forIn [0:n] ((L,lo,hi):VR) f) (λb B=>B=st/\∃lo,b=(L,lo,k)) st:=by
 refine Wt.range (λj b B=>B=st/\∃lo hi,b=(L,lo,hi)/\lo<=k/\k<=hi/\hi<=n/\hi - lo<=n - j) ⟨W,lo,hi,W,h1,h2,h3,Nat.le_trans (Nat.sub_le _ _) h3⟩ (λj b B m z=>?_) λb B z=>by obtain⟨e,lo,hi,a,c,d,g,h⟩:=z;exact⟨e,lo,by rw[a];congr;omega⟩
 obtain⟨e,lo,hi,a,c,d,g,h⟩:=z;subst e a;refine hf _ lo hi _ c d g (λq=>?_) (λi l=>?_) λi l=>?_
 .exact⟨W,lo,by congr;exact Nat.le_antisymm (Nat.le_trans q c) d⟩
 .exact⟨W,_,_,W,l,d,g,a4 (ar hi (lo + (hi - lo) / 2 + 1) (t9 l d)) (am (Nat.le_of_lt i)) h (ad (Nat.le_of_lt m)) (am m)⟩
 .exact⟨W,_,_,W,c,Nat.le_of_not_lt l,QI (ad (Nat.le_of_lt i)) (wd (hi - lo)) g,a4 (ar (lo + (hi - lo) / 2) lo (lw0)) (a3 lo hi (rT i)) h (ad (Nat.le_of_lt m)) (am m)⟩
theorem Hz{left:a7}{x:T}{l:O T}{base n hint k:T}{g:T->T}{G:a5 T->bT->Prop}(as:tP P w A s κ it lt N)(B:kindOf st=κ)(R:x<N)(hl:∀i,i<n->l[base+i]?=Y (g i)/\g i<N)
  (F:∀i,i<n->(if left=U then lt (g i) x else !(lt x (g i)))=decide (i<k))(I:k<=n)(hh:hint<n)(q:G (Y k) st):Wt P w A E s (zv left (it x) (Ar it l) base n hint) G st:=by
 have hb:∀i,i<n->∀{H:a5 a7->bT->Prop},H (Y (decide (i<k))) st->Wt P w A E s (do
   let y <-elem' (Ar it l) (base+i)
   if left=U then lt' y (it x)else do
    let b <-lt' (it x) y
    pure (b.map λz=>!z)) H st:=by
  intro i hi H r;obtain⟨f,v⟩:=hl i hi;have t:=F i hi;refine .bind (.elem f ?_)
  cases left with
  |true=>
    refine Wt.ask as B v R ?_;have t:lt (g i) x=decide (i<k):=t;rw[t];exact r
  |false=>
    refine .bind (Wt.ask as B R v (.pure ?_));have t:(!lt x (g i))=decide (i<k):=t;show H (Y (!lt x (g i))) st;rw[t];exact r
 unfold zv;walk_at "u gallop";refine .bind (hb hint hh ?_);by_cases c:hint<k
 .rw[cb c]
  refine .bind (Wt.mono (Wt.range (G:=λb a=>a=st/\∃lo of:T,b=((L,lo,of):VR)/\hint+lo<k/\lo<of/\(k<=hint+of\/n - hint<=of)) (λj b a=>a=st/\∃lo of:T,b=((L,lo,of):VR)/\hint+lo<k/\lo<of/\j+1<=of)
   ⟨W,0,1,W,by omega,by simp,by decide⟩ (λj b a C z=>?_) λb a z=>by obtain⟨e,lo,of,f,h,m,o⟩:=z;exact⟨e,lo,of,f,h,m,.inl (t9 I o)⟩) λb a z=>?_)
  .obtain⟨e,lo,of,f,h,m,o⟩:=z;subst e f;by_cases d:of>=n - hint
   .show Wt P w A E s (if of>=n - hint then _ else _) _ _;rw[a6 d];exact .pure ⟨W,lo,of,W,h,m,.inr d⟩
   .show Wt P w A E s (if of>=n - hint then _ else _) _ _;rw[c4 d];refine .bind (hb (hint+of) (t9 (ad (Nat.le_of_lt hh)) (Nat.lt_of_not_le d)) ?_);by_cases D:hint+of<k
    .rw[cb D];exact .pure ⟨W,of,2 * of+1,W,D,lw0,rT o⟩
    .rw[dd D];exact .pure ⟨W,lo,of,W,h,m,.inl (Nat.le_of_not_lt D)⟩
  .obtain⟨e,lo,of,f,h,m,o⟩:=z;subst e f;refine .bind (Wt.mono (Fu (k:=k) (n:=n) (lo:=hint+lo+1) (hi:=hint+min of (n - hint)) (h) (by omega) (t9 (ad (Nat.le_of_lt hh)) (Nat.min_le_right of (n - hint))) λy lo hi H h m o k1 k2 k3=>?_) λb a z=>by obtain⟨e,lo,f⟩:=z;subst e f;exact .pure q);show Wt P w A E s (if lo>=hi then _ else _) _ _;by_cases c:lo>=hi
   .rw[a6 c];exact .pure (k1 c)
   .rw[c4 c];refine .bind (hb (lo+(hi - lo) / 2) (QI (ad (Nat.le_of_lt (Nat.lt_of_not_le c))) (a3 lo hi (rT (Nat.lt_of_not_le c))) o) ?_);by_cases d:lo+(hi - lo) / 2<k
    .rw[cb d];exact .pure (k2 (Nat.lt_of_not_le c) d)
    .rw[dd d];exact .pure (k3 (by omega) d)
 .rw[dd c]
  refine .bind (Wt.mono (Wt.range (G:=λb a=>a=st/\∃lo of:T,b=((L,lo,of):VR)/\k<=hint - lo/\lo<=hint/\lo<of/\(hint - of<k/\of<=hint\/hint+1<=of)) (λj b a=>a=st/\∃lo of:T,b=((L,lo,of):VR)/\k<=hint - lo/\lo<=hint/\lo<of/\j+1<=of)
   ⟨W,0,1,W,Nat.le_of_not_lt c,Nat.zero_le _,by omega,by omega⟩ (λj b a C z=>?_) λb a z=>by obtain⟨e,lo,of,f,p,h,m,o⟩:=z;exact⟨e,lo,of,f,p,h,m,.inr (Nat.lt_trans hh o)⟩) λb a z=>?_)
  .obtain⟨e,lo,of,f,p,h,m,o⟩:=z;subst e f;by_cases d:of>=hint+1
   .show Wt P w A E s (if of>=hint+1 then _ else _) _ _;rw[a6 d];exact .pure ⟨W,lo,of,W,p,h,m,.inr d⟩
   .show Wt P w A E s (if of>=hint+1 then _ else _) _ _;rw[c4 d];refine .bind (hb (hint - of) (Nat.sub_lt_of_lt hh) ?_);by_cases D:hint - of<k
    .rw[cb D];exact .pure ⟨W,lo,of,W,p,h,m,.inl ⟨D,Nat.le_of_not_lt d⟩⟩
    .rw[dd D];exact .pure ⟨W,of,2 * of+1,W,Nat.le_of_not_lt D,by omega,by omega,by omega⟩
  .obtain⟨e,lo,of,f,p,h,m,o⟩:=z;subst e f;refine .bind (Wt.mono (Fu (k:=k) (n:=n) (lo:=hint+1 - min of (hint+1)) (hi:=hint - lo) (by omega) (by omega) (Nat.le_of_lt (Nat.sub_lt_of_lt hh)) λy lo hi H h m o k1 k2 k3=>?_) λb a z=>by obtain⟨e,lo,f⟩:=z;subst e f;exact .pure q);show Wt P w A E s (if lo>=hi then _ else _) _ _;by_cases c:lo>=hi
   .rw[a6 c];exact .pure (k1 c)
   .rw[c4 c];refine .bind (hb (lo+(hi - lo) / 2) (QI (ad (Nat.le_of_lt (Nat.lt_of_not_le c))) (a3 lo hi (rT (Nat.lt_of_not_le c))) o) ?_);by_cases d:lo+(hi - lo) / 2<k
    .rw[cb d];exact .pure (k2 (by omega) d)
    .rw[dd d];exact .pure (k3 (by omega) d)
end
noncomputable def Qw:T->gN bT Af oC:=sortPriv% PySem.Builtin.setMinGallop
section
variable{st:bT}{β:Type}{G:β->bT->Prop}
def Wt.NV{G:oC->bT->Prop}(h:G () (j9 (kindOf st) (p_ st) (j2 st) g (n_ st))):Wt P w A E s (Qw g) G st:=by
 unfold Qw;walk_at "u setMinGallop";exact .modify h
def Wt.wy(Q:(gN bT Af β->Prop)->Prop)(h1:Q λm=>Wt P w A E s m G st)(h2:(Q λm=>Wt P w A E s m G st)->Wt P w A E s m G st):Wt P w A E s m G st:=h2 h1
def Wt.Bb{c:Prop}[ez c](h:c)(x:Wt P w A E s m G st):Wt P w A E s (if c then m else b) G st:=by rwa[a6 h]
def Wt.sZ{c:Prop}[ez c](h:¬c)(x:Wt P w A E s b G st):Wt P w A E s (if c then m else b) G st:=by rwa[c4 h]
def Wt.ite{c:Prop}[ez c](x:c->Wt P w A E s m G st)(y:¬c->Wt P w A E s b G st):Wt P w A E s (if c then m else b) G st:=by
 by_cases h:c
 .exact .Bb h (x h)
 .exact .sZ h (y h)
end
abbrev ee(lt:T->T->a7)(l:O T):Prop:=l.Pairwise λx y=>lt x y=U
section
variable{lt:T->T->a7}{a b out:O T}{ia ib:T}
structure ML(lt:T->T->a7)(a b out:O T)(ia ib:T):Prop where
 so:ee lt out
 Mo:∀x∈out,∀y,y∈a.drop ia\/y∈b.drop ib->lt x y=U
 pm:(out++(a.drop ia++b.drop ib)).Perm (a++b)
def ML.swap(h:ML lt a b out ia ib):ML lt b a out ib ia:=
 ⟨h.so,λx c y d=>h.Mo x c y d.symm,((jy _ dB).trans h.pm).trans dB⟩
def ML.start:ML lt a b [] 0 0:=⟨.nil,λx c=>by simp at c,by simp⟩
def ML.pC(h:ML lt a b out ia ib)(B:ee lt b)(k:T)(o:∀y∈(b.drop ib).take k,∀x∈a.drop ia,lt y x=U):ML lt a b (out++(b.drop ib).take k) ia (ib+k):=by
 have e:b.drop ib=(b.drop ib).take k++b.drop (ib+k):=by rw[<-jL];exact(bc k _).symm
 have f:ee lt (b.drop ib):=B.sublist (eR _ _);rw[e]at f;refine⟨dI.mpr ⟨h.so,(dI.mp f).1,λx d y c=>h.Mo x d y (.inr (cu c))⟩,λx d y c=>?_,?_⟩
 .rcases aR.mp d with d|d
  .refine h.Mo x d y (c.imp id λc=>?_);rw[e];exact aF _ c
  .rcases c with c|c
   .exact o x d y c
   .exact (dI.mp f).2.2 x d y c
 .refine Ee ?_ h.pm
  conv=>rhs;rw[e]
  rw[aK];refine jy _ ?_;rw[<-aK,<-aK];exact List.Perm.append_right _ dB
def ML.xp(h:ML lt a b out ia ib)(sa:ee lt a)(k:T)(c:∀y∈(a.drop ia).take k,∀x∈b.drop ib,lt y x=U):ML lt a b (out++(a.drop ia).take k) (ia+k) ib:=
 (h.swap.pC sa k c).swap
def ML.fin(h:ML lt a b out ia ib)(sa:ee lt a)(hb:Z b<=ib):ee lt (out++a.drop ia++b.drop ib)/\(out++a.drop ia++b.drop ib).Perm (a++b):=by
 refine⟨?_,by rw[aK];exact h.pm⟩;rw[(jK hb),aS];exact dI.mpr ⟨h.so,sa.sublist (eR _ _),λx c y d=>h.Mo x c y (.inl d)⟩
def jw{l:O T}{i x:T}(h:l[i]?=Y x):l.drop i=x::l.drop (i+1):=by
 rw[mF (aT.mp h).1,(aT.mp h).2]
def take_one{l:O T}{i x:T}(h:l[i]?=Y x):(l.drop i).take 1=[x]:=by rw[jw h];rfl
def qG(o:Lt lt)(sl:ee lt l)(h:l[i]?=Y x)(c:lt y x=U):∀z∈l.drop i,lt y z=U:=λz d=>by
 rw[jw h]at d;have e:=sl.sublist (eR i _);rw[jw h]at e
 rcases aq.mp d with rfl|d
 .exact c
 .exact o.tr _ _ _ c ((cy.mp e).1 z d)
def ML.qH(h:ML lt a b out ia ib)(sa:ee lt a)(B:ee lt b)(e:∀y∈b.drop ib,∀x∈a.drop ia,lt y x=U):ee lt (out++b.drop ib++a.drop ia)/\(out++b.drop ib++a.drop ia).Perm (a++b):=by
 have q:=(h.pC B _ (λy c=>e y (cu c))).fin sa (wu _ _);rw[fh (by simp)]at q;rwa[(jK (wu _ _)),aS]at q
def l6:(Ar it l).push (it x)=Ar it (l++[x]):=by simp
def my:Ar it l++(Ar it b).extract i j=Ar it (l++(b.drop i).take (j - i)):=by
 simp
def bS:(Ar it l).size=Z l:=by simp
def gn{l:O T}:(l.drop i).take (Z l - i)=l.drop i:=fh (by simp)
def EU(o:Lt lt)(sl:ee lt l)(y:T):∃k,k<=Z l/\∀i x,l[i]?=Y x->lt x y=decide (i<k):=by
 induction l with
 |nil=>simp
 |cons a l e=>
   obtain⟨s1,s2⟩:=cy.mp sl;obtain⟨k,h1,h2⟩:=e s2
   cases c:lt a y with
   |true=>
     refine⟨k+1,by simpa using h1,λi x h=>?_⟩
     cases i with
     |zero=>cases h;rw[c];simp
     |succ i=>rw[h2 i x (by simpa using h)];simp
   |false=>
     refine⟨0,by simp,λi x h=>?_⟩
     cases i with
     |zero=>cases h;rw[c];simp
     |succ i=>
       cases d:lt x y with
       |false=>simp
       |true=>rw[o.tr _ _ _ (s1 x (aX (by simpa using h))) d]at c;cases c
section
theorem si(o:Lt lt)(as:tP P w A s κ it lt N){l:O T}{base:T}(t:base+n<=Z l)(sl:ee lt ((l.drop base).take n))(B:∀x∈(l.drop base).take n,x<N/\x≠y)(u:y<N) :
  ∃k,k<=n/\(∀z∈((l.drop base).take n).take k,lt z y=U)/\(∀z∈((l.drop base).take n).drop k,lt y z=U)/\
   ∀{E:ag->ao->Prop}(left:a7)(hint:T){G:a5 T->bT->Prop}{st:bT},kindOf st=κ->hint<n->G (Y k) st->Wt P w A E s (zv left (it y) (Ar it l) base n hint) G st:=by
 generalize r:(l.drop _).take n=L' at sl B;have d:Z L'=n:=by grind
 have f:∀i,i<n->L'[i]?=l[base+i]? :=λi hi=>by grind
 obtain⟨k,m,p⟩:=EU o sl y;refine⟨k,ab m (af d),λz h=>?_,λz h=>?_,λleft hint G st j hh q=>?_⟩
 .obtain⟨i,hi⟩:=fK h;rw[cU]at hi
  grind
 .obtain⟨i,hi⟩:=fK h;rw[qX]at hi;refine o.co _ _ (B z (aX hi)).2 ?_;rw[p _ z hi,dd (by simp)]
 .refine Hz (g:=λi=>L'.getD i 0) as j u (λi hi=>?_) (λi hi=>?_) (ab m (af d)) hh q
  .have e:=ae ((ab hi (af d.symm)));refine⟨by rw[<-f i hi];simp[e],?_⟩;simpa [e]using ((B _ (aX e)).1)
  .have e:=ae ((ab hi (af d.symm)));have v:L'.getD i 0=L'[i]:=by simp[e]
   rw[v]
   cases left with
   |true=>exact (p i _ e)
   |false=>
     rw[<-(p i _ e)]
     cases c:lt _ y with
     |true=>rw[o.as _ _ c];rfl
     |false=>rw[o.co _ _ ((B _ (aX e)).2) c];rfl
end
end
section
variable{it:T->iM}{lt:T->T->a7}
noncomputable abbrev En(st:bT)(g:T):bT:=j9 (kindOf st) (p_ st) (j2 st) g (n_ st)
def Res(it:T->iM)(lt:T->T->a7)(l:O T)(r:eb iM):Prop:=∃R,r=Ar it R/\ee lt R/\R.Perm l
structure X6(lt:T->T->a7)(a b out:O T)(ia ib m:T):Prop where
 ml:ML lt a b out ia ib
 ha:ia+1<Z a
 hb:ib<Z b
 m:m<=ia+ib
def Wt.rg{C y R u F:Type}{a b:T}{f:T->a5 R×u->gN bT Af (j1 (a5 R×u))}{k:a5 R×u->gN bT Af F}{G:F->bT->Prop}{Q:R->Prop}{t:C->bT}{I':O T->T->T->Prop}{z:O T->T->T->C->u}{out:O T}{ia ib:T}{r:C}(I:T->O T->T->T->Prop)(S:O T->T->T->y->u)(t':y->bT)(h0:I 0 out ia ib)(he:∀out ia ib,¬I (b - a) out ia ib)
  (e:∀r x B,Q r->Wt P w A E s (k (Y r,x)) G (t' B))(o:∀out ia ib r,I' out ia ib->Wt P w A E s (k (L,S out ia ib r)) G (t' r))
  (hb:∀j out ia ib r,j<b - a->I j out ia ib->Wt P w A E s (f (a+j) (L,z out ia ib r)) (X4 (λb st=>(∃r x B,b=(Y r,x)/\st=t' B/\Q r)\/∃out ia ib r,b=(L,S out ia ib r)/\st=t' r/\I' out ia ib) λb st=>∃out ia ib r,b=(L,z out ia ib r)/\st=t r/\I (j+1) out ia ib) (t r)) :
  Wt P w A E s (forIn [a:b] (L,z out ia ib r) f >>= k) G (t r):=
 .bind (Wt.mono (Wt.range (λj b st=>∃out ia ib r,b=(L,z out ia ib r)/\st=t r/\I j out ia ib) ⟨_,ia,ib,r,W,W,h0⟩ (λj b st c q=>by refine ac λ_ d=>?_;obtain⟨_,_,_,_,rfl,rfl,h⟩:=q;refine d ?_;exact hb _ _ _ _ _ c h) λb st q=>by simp_all) λb st q=>by
  rcases q with⟨_,_,_,rfl,rfl,h⟩|⟨_,_,_,_,rfl,rfl,h⟩
  .exact e _ _ _ h
  .exact o _ _ _ _ h)
theorem Dp{st:bT}{G:eb iM->bT->Prop}(o:Lt lt)(as:tP P w A s κ it lt N)(c0:kindOf st=κ)(na:∀x∈a,x<N)(nb:∀x∈b,x<N)(sa:ee lt a)(e1:ee lt b)(FN:∀x∈a,x∉b)
  (h0:0<Z a)(O':b[0]?=Y y0)(hf:∀x∈a,lt y0 x=U)(hl:∀y∈b,∀x∈a.drop (Z a - 1),lt y x=U)
  (q:∀r g,Res it lt (a++b) r->G r (En st g)):Wt P w A E s (ve (Ar it a) (Ar it b)) G st:=by
 have U':0<Z b:=(aT.mp O').1
 have v:∀{out:O T}{ia ib:T},ML lt a b out ia ib->Z b<=ib->Res it lt (a++b) (Ar it out++(Ar it a).extract ia (Ar it a).size++(Ar it b).extract ib (Ar it b).size):=λh hb=>by
  obtain⟨D,H⟩:=h.fin sa hb;exact⟨_,by rw[my,my,bS,bS,gn,gn],D,H⟩
 have I:∀{out:O T}{ia ib:T},ML lt a b out ia ib->Z a<=ia->Res it lt (a++b) (Ar it out++(Ar it a).extract ia (Ar it a).size++(Ar it b).extract ib (Ar it b).size):=λ{out ia ib}h ha=>by
  obtain⟨D,H⟩:=h.swap.fin e1 ha;have e:a.drop ia=[]:=jK ha;rw[e,aS]at D H;refine⟨out++b.drop ib,by rw[my,my,bS,bS,gn,gn,e,aS],D,H.trans dB⟩
 have qH:∀{out:O T}{ia ib:T},ML lt a b out ia ib->ia+1=Z a->Res it lt (a++b) (Ar it out++(Ar it b).extract ib (Ar it b).size++(Ar it a).extract ia (Ar it a).size):=λ{out ia ib}h ha=>by
  obtain⟨D,H⟩:=h.qH sa e1 λy hy x M=>hl y (dJ hy) x (by rw[show Z a - 1=ia from (Nat.le_antisymm (t9 (ad h0) (Nat.le_of_eq ha.symm)) (t9 (Nat.le_of_eq ha) (am h0)))];exact M);exact⟨_,by rw[my,my,bS,bS,gn,gn],D,H⟩
 have B:∀{ib:T},ib<Z b->∃y,b[ib]?=Y y/\y<N/\y∉a:=λ{ib}h=>⟨b[ib],ae h,nb _ (bA h),λz=>FN _ z (bA h)⟩
 have F:∀{ia:T},ia<Z a->∃x,a[ia]?=Y x/\x<N/\x∉b:=λ{ia}h=>⟨a[ia],ae h,na _ (bA h),λz=>FN _ (bA h) z⟩
 have V:∀{ia ib x y:T},a[ia]?=Y x->b[ib]?=Y y->x≠y:=λh1 h2 e=>FN _ (aX h1) (e▸aX h2)
 have tB:∀{out:O T}{ia ib x y:T},ML lt a b out ia ib->a[ia]?=Y x->b[ib]?=Y y->lt y x=U->ML lt a b (out++[y]) ia (ib+1):=λ{out ia ib x y}h h1 h2 c=>by
  have:=h.pC e1 1 (λz p=>by rw[take_one h2,aG]at p;subst p;exact qG o sa h1 c);rw[take_one h2]at this;exact this
 have tA:∀{out:O T}{ia ib x y:T},ML lt a b out ia ib->a[ia]?=Y x->b[ib]?=Y y->lt x y=U->ML lt a b (out++[x]) (ia+1) ib:=λ{out ia ib x y}h h1 h2 c=>by
  have:=h.xp sa 1 (λz p=>by rw[take_one h1,aG]at p;subst p;exact qG o e1 h2 c);rw[take_one h1]at this;exact this
 unfold ve;walk_at "u mergeLo";refine .bind (.rule (.bind (.elem O' ?_)))
 have m0:ML lt a b [y0] 0 1:=by
  have:=(ML.start (lt:=lt) (a:=a) (b:=b)).pC e1 1 (λz p x M=>by rw[take_one O',aG]at p;subst p;exact hf x M);rw[take_one O']at this;exact this
 refine .ite (λc=>.pure (q _ (i0 st) (v m0 (by have c:=beq_iff_eq.mp c;rw[bS]at c;exact af c.symm)))) λc1=>?_;refine .ite (λc=>.pure (q _ (i0 st) (qH m0 (by have c:=beq_iff_eq.mp c;rw[bS]at c;omega)))) λc2=>?_;refine .bind (.get ?_);have b1:1<Z b:=by have c:¬1=(Ar it b).size:=λe=>c1 (beq_iff_eq.mpr e);rw[bS]at c;exact cj U' c
 have b2:0+1<Z a:=by have c:¬0+1=(Ar it a).size:=λe=>c2 (beq_iff_eq.mpr e);rw[bS]at c;exact cj h0 c
 refine Wt.rg (Q:=Res it lt (a++b)) (I':=λ_ _ _=>False) (out:=[y0]) (ia:=0) (ib:=1) (r:=(_,i0 st)) (t:=λr:T×T=>En st r.2) (z:=λout ia ib r=>(Ar it out,ia,ib,r.1)) (λj out ia ib=>X6 lt a b out ia ib (j+1)) (λout ia ib r=>(Ar it out,ia,ib,r.1)) (λr:T×T=>En st r.2) ⟨m0,b2,b1,by decide⟩
  (λout ia ib f=>by have h1:=f.m;have h2:=f.ha;have h3:=f.hb;rw[bS,bS]at h1;exact Zc h3 h1 h2) (λr _ g e=>.pure (q r g.2 e)) (λ_ _ _ _ h=>h.elim) λj out ia ib r0 hj f=>?_
 refine Wt.rg (Q:=Res it lt (a++b)) (I':=λout ia ib=>X6 lt a b out ia ib (j+1+1)) (out:=out) (ia:=ia) (ib:=ib) (r:=(0,0)) (t:=λ_:T×T=>En st r0.2) (z:=λout ia ib r=>(Ar it out,ia,ib,r.1,r.2)) (λi out ia ib=>X6 lt a b out ia ib (j+1+i)) (λout ia ib r=>(Ar it out,ia,ib,r.1,r.2)) (λ_:T×T=>En st r0.2) f
  (λout ia ib f=>by have h1:=f.m;have h2:=f.ha;have h3:=f.hb;rw[bS,bS]at h1;exact Zc h3 h1 h2) (λr _ _ e=>.pure (.inl ⟨r,_,(0,r0.2),W,W,e⟩)) (λout ia ib r1 f=>?_) λi out ia ib r1 hi f=>?_
 rotate_left
 .obtain⟨y,C,e2,y3⟩:=B f.hb;obtain⟨x,x1,X,x3⟩:=F (show ia<(Z a) from bx f.ha);have hm:=f.m;refine .bind (.elem C (.bind (.elem x1 (.bind (Wt.ask as c0 e2 X ?_)))))
  cases c:lt y x with
  |true=>
    refine .bind (.elem C ?_);have m2:=tB f.ml x1 C c;rw[l6];refine .ite (λd=>.pure (.inl ⟨_,_,(0,0),W,W,v m2 (by have d:=beq_iff_eq.mp d;rw[bS]at d;exact af d.symm)⟩)) λd=>?_;have d:ib+1<Z b:=by have c:¬ib+1=(Ar it b).size:=λe=>d (beq_iff_eq.mpr e);rw[bS]at c;have:=f.hb;exact cj this c
    exact .ite (λ_=>.pure (.inr ⟨_,ia,ib+1,(_,_),W,W,m2,f.ha,d,rT hm⟩)) λ_=>.pure ⟨_,ia,ib+1,(_,_),W,W,m2,f.ha,d,dm hm⟩
  |false=>
    refine .bind (.elem x1 ?_);have m2:=tA f.ml x1 C (o.co _ _ (V x1 C).symm c);rw[l6];refine .ite (λd=>.pure (.inl ⟨_,_,(0,0),W,W,qH m2 (by have d:=beq_iff_eq.mp d;rw[bS]at d;omega)⟩)) λd=>?_;have d:ia+1+1<Z a:=by have c:¬ia+1+1=(Ar it a).size:=λe=>d (beq_iff_eq.mpr e);rw[bS]at c;have:=f.ha;exact cj this c
    exact .ite (λ_=>.pure (.inr ⟨_,ia+1,ib,(_,_),W,W,m2,d,f.hb,rT hm⟩)) λ_=>.pure ⟨_,ia+1,ib,(_,_),W,W,m2,d,f.hb,rT hm⟩
 refine .bind (.rule (Wt.rg (Q:=Res it lt (a++b)) (I':=λout ia ib=>X6 lt a b out ia ib (j+1+1)) (out:=out) (ia:=ia) (ib:=ib) (r:=(_,r1.1,r1.2,r0.2)) (t:=λr:T×T×T×T=>En st r.2.2.2) (z:=λout ia ib r=>(Ar it out,ia,ib,r.1,r.2.1,r.2.2.1)) (λi out ia ib=>X6 lt a b out ia ib (j+1+1+i)) (λout ia ib r=>(Ar it out,ia,ib,r.1,r.2.1,r.2.2.1)) (λr:T×T×T×T=>En st r.2.2.2) f
  (λout ia ib f=>by have h1:=f.m;have h2:=f.ha;have h3:=f.hb;rw[bS,bS]at h1;exact Zc h3 h1 h2) (λr _ g e=>.pure (.inl ⟨r,_,(0,g.2.2.2),W,W,e⟩)) (λout ia ib r f=>.bind (.NV (.pure ⟨out,ia,ib,(_,_),W,W,f⟩))) λi out ia ib r2 hi f=>?_))
 extract_lets s1 o1 s2 ia1 s3 ib1 s4 mg1 s5 J' K ib2 jp mg2
 subst s1 o1 s2 ia1 s3 ib1 s4 mg1 s5 J' K ib2 mg2;refine Wt.wy (λR=>∀mg,R (jp () mg)) ?_ λh=>?_
 rotate_left
 .exact .ite (λ_=>h _) λ_=>h _
 intro mg;have hm:=f.m;obtain⟨y,C,e2,y3⟩:=B f.hb;obtain⟨k,k1,k2,k3,k4⟩:=si o as (l:=a) (base:=ia) (n:=Z a - ia) (y:=y) (by have:=f.ha;exact rT (ar a.length ia (rT this))) (by rw[gn];exact sa.sublist (eR _ _)) (λx M=>by rw[gn]at M;have:=dJ M;exact⟨na x this,λe=>y3 (e▸this)⟩) e2;rw[gn]at k2 k3;rw[<-bS (it:=it) (l:=a)]at k4;refine .bind (.NV (.bind (.elem C (.bind (k4 J 0 c0 (by rw[bS];have:=f.ha;exact t9 this (ay a.length ia)) ?_)))));have mA:ML lt a b (out++(a.drop ia).take k) (ia+k) ib:=f.ml.xp sa k λz p=>qG o e1 C (k2 z p);rw[jL]at k3;dsimp -zeta -zetaHave only
 extract_lets +onlyGivenNames J' jp2
 subst J';refine Wt.wy (λR=>∀out ia,ML lt a b out ia ib->ia+1<Z a->(∀z∈a.drop ia,lt y z=U)->j+1+1+i<=ia+ib->R (jp2 () (Ar it out) ia)) ?_ λh=>?_
 rotate_left
 .refine .ite (λ_=>?_) λc=>?_
  .rw[my,show ia+k - ia=k from(jx _ _)];refine .ite (λd=>.pure (.inl ⟨_,_,(0,0,0,_),W,W,qH mA (by have d:=beq_iff_eq.mp d;rw[bS]at d;omega)⟩)) λd=>?_;refine .ite (λd=>.pure (.inl ⟨_,_,(0,0,0,_),W,W,I mA (by have d:=beq_iff_eq.mp d;rw[bS]at d;exact af d.symm)⟩)) λd'=>?_;have c1:¬ia+k+1=(Ar it a).size:=λe=>d (beq_iff_eq.mpr e);have c2:¬ia+k=(Ar it a).size:=λe=>d' (beq_iff_eq.mpr e);rw[bS]at c1 c2;exact h (out++(a.drop ia).take k) (ia+k) mA (by omega) k3 (rT hm)
  .obtain rfl:k=0:=bu (iS c) (aY _);rw[jF,aS,Nat.add_zero]at mA;exact h out ia mA f.ha k3 hm
 clear mA k2 k4;intro out ia mA T' k3 hm;obtain⟨x,x1,X,x3⟩:=F (show ia<(Z a) from(bx T'));have yx:lt y x=U:=k3 x (by rw[jw x1];exact iT);have m2:=tB mA x1 C yx;refine .bind (.elem C ?_);rw[l6];refine .ite (λd=>.pure (.inl ⟨_,_,(0,0,0,_),W,W,v m2 (by have d:=beq_iff_eq.mp d;rw[bS]at d;exact af d.symm)⟩)) λd=>?_;have d:ib+1<Z b:=by have c:¬ib+1=(Ar it b).size:=λe=>d (beq_iff_eq.mpr e);rw[bS]at c;have:=f.hb;exact cj this c
 obtain⟨k',l1,l2,l3,l4⟩:=si o as (l:=b) (base:=ib+1) (n:=Z b - (ib+1)) (y:=x) (rT (ad (Nat.le_of_lt d))) (by rw[gn];exact e1.sublist (eR _ _)) (λz p=>by rw[gn]at p;have:=dJ p;exact⟨nb z this,λe=>x3 (e▸this)⟩) X;rw[gn]at l2 l3;rw[<-bS (it:=it) (l:=b)]at l4;refine .bind (.elem x1 (.bind (l4 U 0 c0 (by rw[bS];exact t9 d (am (Nat.le_of_lt d))) ?_)));have S:ML lt a b (out++[y]++(b.drop (ib+1)).take k') ia (ib+1+k'):=m2.pC e1 k' λz p=>qG o sa x1 (l2 z p);rw[jL]at l3;dsimp -zeta -zetaHave only
 extract_lets +onlyGivenNames K ia2 jp3
 subst K ia2;refine Wt.wy (λR=>∀out ib',ML lt a b out ia ib'->ib'<Z b->(∀z∈b.drop ib',lt x z=U)->j+1+1+i+1<=ia+ib'->R (jp3 () (Ar it out) ib')) ?_ λh=>?_
 rotate_left
 .refine .ite (λ_=>?_) λc=>?_
  .rw[my,show ib+1+k' - (ib+1)=k' from(jx _ _)];refine .ite (λd=>.pure (.inl ⟨_,_,(0,0,0,_),W,W,v S (by have d:=beq_iff_eq.mp d;rw[bS]at d;exact af d.symm)⟩)) λd'=>?_;have c2:¬ib+1+k'=(Ar it b).size:=λe=>d' (beq_iff_eq.mpr e);rw[bS]at c2;exact h (out++[y]++(b.drop (ib+1)).take k') (ib+1+k') S (Nat.lt_of_le_of_ne (t9 (ad (Nat.le_of_lt d)) l1) c2) l3 (rT hm)
  .obtain rfl:k'=0:=bu (iS c) (aY _);rw[jF,aS,Nat.add_zero]at S;exact h (out++[y]) (ib+1) S d l3 (dm hm)
 intro out ib' S L' l3 hm;obtain⟨z,D,H,z3⟩:=B L';have m3:=tA S x1 D (l3 z (by rw[jw D];exact iT));refine .bind (.elem x1 ?_);rw[l6];refine .ite (λd=>.pure (.inl ⟨_,_,(0,0,0,_),W,W,qH m3 (by have d:=beq_iff_eq.mp d;rw[bS]at d;omega)⟩)) λd=>?_;have d:ia+1+1<Z a:=by have c:¬ia+1+1=(Ar it a).size:=λe=>d (beq_iff_eq.mpr e);rw[bS]at c;exact cj T' c
 exact .ite (λ_=>.pure (.inr ⟨_,ia+1,ib',(_,_,_,_),W,W,m3,d,L',rT hm⟩)) λ_=>.pure ⟨_,ia+1,ib',(_,_,_,_),W,W,m3,d,L',rT hm⟩
end
section
variable{lt:T->T->a7}{a b out:O T}{na nb:T}
noncomputable abbrev Uv(lt:T->T->a7):T->T->a7:=λx y=>lt y x
def ee.rev(h:ee lt a):ee (Uv lt) a.reverse:=kg.mpr h
structure MH(lt:T->T->a7)(a b out:O T)(na nb:T):Prop where
 ml:ML (Uv lt) a.reverse b.reverse out (Z a - na) (Z b - nb)
 la:na<=Z a
 lb:nb<=Z b
def MH.swap(h:MH lt a b out na nb):MH lt b a out nb na:=⟨h.ml.swap,h.lb,h.la⟩
def lr{l:O T}:l.reverse.drop (Z l - n)=(l.take n).reverse:=by rw[List.reverse_take]
def MH.pC(h:MH lt a b out na nb)(B:ee lt b){at_:T}(o:at_<=nb)(f:∀y∈(b.drop at_).take (nb - at_),∀x∈a.take na,lt x y=U):MH lt a b (out++((b.drop at_).take (nb - at_)).reverse) na at_:=by
 have hb:=h.lb
 have e:(b.reverse.drop (Z b - nb)).take (nb - at_)=((b.drop at_).take (nb - at_)).reverse:=by
  rw[lr,List.take_reverse,eF,gW hb,show nb - (nb - at_)=at_ by omega,wX]
 have:=h.ml.pC B.rev (nb - at_) (λy c x d=>by
  rw[e]at c;rw[lr]at d
  exact f y (MJ.mp c) x (MJ.mp d))
 rw[e,show Z b - nb+(nb - at_)=Z b - at_ from (Nat.le_antisymm (QI (ad hb) (ad o) (ay b.length at_)) (QI (ar b.length at_ (t9 o hb)) (am hb) (am o)))]at this;exact⟨this,h.la,ab o hb⟩
def MH.xp(h:MH lt a b out na nb)(sa:ee lt a){at_:T}(B:at_<=na)(c:∀y∈(a.drop at_).take (na - at_),∀x∈b.take nb,lt x y=U):MH lt a b (out++((a.drop at_).take (na - at_)).reverse) at_ nb:=
 (h.swap.pC sa B c).swap
def MH.fin(h:MH lt a b out na nb)(B:ee lt b)(f:na=0):ee lt (a.take na++b.take nb++out.reverse)/\(a.take na++b.take nb++out.reverse).Perm (a++b):=by
 obtain⟨c,d⟩:=h.ml.swap.fin B.rev (by simp_all)
 have e:(a.take na++b.take nb++out.reverse)=(out++b.reverse.drop (Z b - nb)++a.reverse.drop (Z a - na)).reverse:=by
  rw[lr,lr];simp
 rw[e];exact ⟨kg.mpr c,((fJ _).trans d).trans (((fJ b).append (fJ a)).trans dB)⟩
def MH.qH(h:MH lt a b out na nb)(sa:ee lt a)(B:ee lt b)(o:∀y∈a.take na,∀x∈b.take nb,lt x y=U):ee lt (b.take nb++a.take na++out.reverse)/\(b.take nb++a.take na++out.reverse).Perm (a++b):=by
 obtain⟨c,d⟩:=h.ml.swap.qH B.rev sa.rev (λy f x g=>by
  rw[lr]at f g
  simp_all)
 have e:(b.take nb++a.take na++out.reverse)=(out++a.reverse.drop (Z a - na)++b.reverse.drop (Z b - nb)).reverse:=by
  rw[lr,lr];simp
 rw[e];exact ⟨kg.mpr c,((fJ _).trans d).trans (((fJ b).append (fJ a)).trans dB)⟩
def kE{l:O T}{n x:T}(h:l[n]?=Y x):(l.drop n).take (n+1 - n)=[x]:=by rw[(jx _ _)];exact take_one h
set_option tactic.hygienic true in
def qC(o:Lt lt)(sl:ee lt l)(h:l[n]?=Y x)(c:lt x y=U):∀z∈l.take (n+1),lt z y=U:=λz f=>by
 obtain⟨i,hi⟩:=fK f;rw[cU]at hi;split at hi
 .rename_i d;by_cases e:i=n
  .grind
  .obtain⟨g,j⟩:=aT.mp hi;obtain⟨k,m⟩:=aT.mp h;have:=eB.mp sl i n g k (cj (rT d) e);rw[j,m]at this;exact o.tr _ _ _ this c
 .cases hi
def D2:(Ar it l).extract 0 i++(Ar it m).extract 0 j++(Ar it n).reverse=Ar it (l.take i++m.take j++n.reverse):=by
 simp[List.map_take]
def F6:Ar it l++((Ar it b).extract i j).reverse=Ar it (l++((b.drop i).take (j - i)).reverse):=by
 simp
structure MB(lt:T->T->a7)(a b out:O T)(na nb m:T):Prop where
 mh:MH lt a b out na nb
 ha:0<na
 hb:1<nb
 m:m+na+nb<=Z a+Z b
end
section
theorem Dq{st:bT}{G:eb iM->bT->Prop}(o:Lt lt)(as:tP P w A s κ it lt N)(c0:kindOf st=κ)(na:∀x∈a,x<N)(nb:∀x∈b,x<N)(sa:ee lt a)(O':ee lt b)(FN:∀x∈a,x∉b)
  (hb0:0<Z b)(hn:Z a=n+1)(e1:a[n]?=Y y0)(hf:∀x∈b,lt x y0=U)(hl:∀y∈a,∀x∈b.take 1,lt x y=U)
  (q:∀r g,Res it lt (a++b) r->G r (En st g)):Wt P w A E s (vf (Ar it a) (Ar it b)) G st:=by
 have v:∀{out:O T}{ia ib:T},MH lt a b out ia ib->ia=0->Res it lt (a++b) ((Ar it a).extract 0 ia++(Ar it b).extract 0 ib++(Ar it out).reverse):=λh p=>by
  obtain⟨D,J'⟩:=h.fin O' p;exact⟨_,D2,D,J'⟩
 have K:∀{out:O T}{ia ib:T},MH lt a b out ia ib->ib=0->Res it lt (a++b) ((Ar it a).extract 0 ia++(Ar it b).extract 0 ib++(Ar it out).reverse):=λ{out ia ib}h p=>by
  obtain⟨D,J'⟩:=h.swap.fin sa p;subst p;rw[jF,kU]at D J';exact⟨a.take ia++out.reverse,by rw[D2,jF,aS],D,J'.trans dB⟩
 have qH:∀{out:O T}{ia ib:T},MH lt a b out ia ib->ib=1->Res it lt (a++b) ((Ar it b).extract 0 ib++(Ar it a).extract 0 ia++(Ar it out).reverse):=λ{out ia ib}h p=>by
  subst p;obtain⟨D,J'⟩:=h.qH sa O' λy hy x U'=>hl y (cu hy) x U';exact⟨_,D2,D,J'⟩
 have B:∀{ib:T},ib<Z b->∃y,b[ib]?=Y y/\y<N/\y∉a:=λ{ib}h=>⟨b[ib],ae h,nb _ (bA h),λz=>FN _ z (bA h)⟩
 have F:∀{ia:T},ia<Z a->∃x,a[ia]?=Y x/\x<N/\x∉b:=λ{ia}h=>⟨a[ia],ae h,na _ (bA h),λz=>FN _ (bA h) z⟩
 have V:∀{ia ib x y:T},a[ia]?=Y x->b[ib]?=Y y->x≠y:=λh1 h2 e=>FN _ (aX h1) (e▸aX h2)
 have tB:∀{out:O T}{ia ib x y:T},MH lt a b out (ia+1) (ib+1)->a[ia]?=Y x->b[ib]?=Y y->lt x y=U->MH lt a b (out++[y]) (ia+1) ib:=λ{out ia ib x y}h h1 h2 c=>by
  have:=h.pC O' (at_:=ib) (by simp) (λz p=>by rw[kE h2,aG]at p;subst p;exact qC o sa h1 c);rw[kE h2]at this;exact this
 have tA:∀{out:O T}{ia ib x y:T},MH lt a b out (ia+1) (ib+1)->a[ia]?=Y x->b[ib]?=Y y->lt y x=U->MH lt a b (out++[x]) ia (ib+1):=λ{out ia ib x y}h h1 h2 c=>by
  have:=h.xp sa (at_:=ia) (by simp) (λz p=>by rw[kE h1,aG]at p;subst p;exact qC o O' h2 c);rw[kE h1]at this;exact this
 have m0:MH lt a b [y0] n b.length:=by
  have h:MH lt a b [] (n+1) b.length:=⟨by rw[hn,jS,jS];exact ML.start,af hn.symm,aw _⟩
  have:=h.xp sa (at_:=n) (by simp) (λz p x U'=>by rw[kE e1,aG]at p;subst p;exact hf x (cu U'));rw[kE e1]at this;exact this
 have hsz:(Ar it a).size - 1=n:=by rw[bS];exact Nat.le_antisymm (t9 (ar a.length 1 (rT (Nat.le_of_eq hn.symm))) (Nat.le_of_eq hn)) (t9 (Nat.le_of_eq hn.symm) (ay a.length 1))
 unfold vf;walk_at "u mergeHi";rw[hsz];refine .bind (.rule (.bind (.elem e1 ?_)));have L':MH lt a b [y0] n (Ar it b).size:=by rw[bS];exact m0
 refine .ite (λc=>.pure (q _ (i0 st) (v L' (beq_iff_eq.mp c)))) λc1=>?_;refine .ite (λc=>.pure (q _ (i0 st) (qH L' (beq_iff_eq.mp c)))) λc2=>?_;refine .bind (.get ?_);have b1:0<n:=by have c:¬n=0:=λe=>c1 (beq_iff_eq.mpr e);exact jl c
 have b2:1<(Ar it b).size:=by have c:¬(Ar it b).size=1:=λe=>c2 (beq_iff_eq.mpr e);rw[bS]at c ⊢;exact Nat.lt_of_le_of_ne (rT hb0) (Ne.symm c)
 refine Wt.rg (Q:=Res it lt (a++b)) (I':=λ_ _ _=>False) (out:=[y0]) (ia:=n) (ib:=(Ar it b).size) (r:=(_,i0 st)) (t:=λr:T×T=>En st r.2) (z:=λout ia ib r=>(ia,ib,Ar it out,r.1)) (λj out ia ib=>MB lt a b out ia ib (j+1)) (λout ia ib r=>(ia,ib,Ar it out,r.1)) (λr:T×T=>En st r.2) ⟨L',b1,b2,by rw[bS];exact rT (Nat.le_of_eq hn.symm)⟩
  (λout ia ib f=>by have h1:=f.m;have h2:=f.ha;have h3:=f.hb;rw[bS,bS]at h1;exact Ze h1) (λr _ g e=>.pure (q r g.2 e)) (λ_ _ _ _ h=>h.elim) λj out ia ib r0 hj f=>?_
 refine Wt.rg (Q:=Res it lt (a++b)) (I':=λout ia ib=>MB lt a b out ia ib (j+1+1)) (out:=out) (ia:=ia) (ib:=ib) (r:=(0,0)) (t:=λ_:T×T=>En st r0.2) (z:=λout ia ib r=>(ia,ib,Ar it out,r.1,r.2)) (λi out ia ib=>MB lt a b out ia ib (j+1+i)) (λout ia ib r=>(ia,ib,Ar it out,r.1,r.2)) (λ_:T×T=>En st r0.2) f
  (λout ia ib f=>by have h1:=f.m;have h2:=f.ha;have h3:=f.hb;rw[bS,bS]at h1;exact Ze h1) (λr _ _ e=>.pure (.inl ⟨r,_,(0,r0.2),W,W,e⟩)) (λout ia ib r1 f=>?_) λi out ia ib r1 hi f=>?_
 rotate_left
 .have hm:=f.m;have la:=f.mh.la;have lb:=f.mh.lb;obtain⟨ia,rfl⟩:∃k,ia=k+1:=⟨ia - 1,tV (rn f.ha)⟩
  obtain⟨ib,rfl⟩:∃k,ib=k+1:=⟨ib - 1,by have:=f.hb;exact Nat.le_antisymm (rT (am (Nat.le_of_lt this))) (rT (ad (Nat.le_of_lt this)))⟩
  obtain⟨y,C,e2,y3⟩:=B (show ib<(Z b) from lb);obtain⟨x,x1,X,x3⟩:=F (show ia<(Z a) from la);have hib:=f.hb;refine .bind (.elem C (.bind (.elem x1 (.bind (Wt.ask as c0 e2 X ?_)))))
  cases c:lt y x with
  |true=>
    refine .bind (.elem x1 ?_);have m2:=tA f.mh x1 C c;rw[l6];refine .ite (λd=>.pure (.inl ⟨_,_,(0,0),W,W,v m2 (beq_iff_eq.mp d)⟩)) λd=>?_;have d:0<ia:=by have c:¬ia=0:=λe=>d (beq_iff_eq.mpr e);exact jl c
    exact .ite (λ_=>.pure (.inr ⟨_,ia,ib+1,(_,_),W,W,m2,d,f.hb,rT hm⟩)) λ_=>.pure ⟨_,ia,ib+1,(_,_),W,W,m2,d,f.hb,rT hm⟩
  |false=>
    refine .bind (.elem C ?_);have m2:=tB f.mh x1 C (o.co _ _ (V x1 C).symm c);rw[l6];refine .ite (λd=>.pure (.inl ⟨_,_,(0,0),W,W,qH m2 (beq_iff_eq.mp d)⟩)) λd=>?_;have d:1<ib:=by have c:¬ib=1:=λe=>d (beq_iff_eq.mpr e);exact Nat.lt_of_le_of_ne (rT hib) (Ne.symm c)
    exact .ite (λ_=>.pure (.inr ⟨_,ia+1,ib,(_,_),W,W,m2,f.ha,d,rT hm⟩)) λ_=>.pure ⟨_,ia+1,ib,(_,_),W,W,m2,f.ha,d,rT hm⟩
 refine .bind (.rule (Wt.rg (Q:=Res it lt (a++b)) (I':=λout ia ib=>MB lt a b out ia ib (j+1+1)) (out:=out) (ia:=ia) (ib:=ib) (r:=(_,r1.1,r1.2,r0.2)) (t:=λr:T×T×T×T=>En st r.2.2.2) (z:=λout ia ib r=>(ia,ib,Ar it out,r.1,r.2.1,r.2.2.1)) (λi out ia ib=>MB lt a b out ia ib (j+1+1+i)) (λout ia ib r=>(ia,ib,Ar it out,r.1,r.2.1,r.2.2.1)) (λr:T×T×T×T=>En st r.2.2.2) f
  (λout ia ib f=>by have h1:=f.m;have h2:=f.ha;have h3:=f.hb;rw[bS,bS]at h1;exact Ze h1) (λr _ g e=>.pure (.inl ⟨r,_,(0,g.2.2.2),W,W,e⟩)) (λout ia ib r f=>.bind (.NV (.pure ⟨out,ia,ib,(_,_),W,W,f⟩))) λi out ia ib r2 hi f=>?_))
 extract_lets s1 o1 s2 ia1 s3 ib1 s4 mg1 s5 M S ib2 jp mg2
 subst s1 o1 s2 ia1 s3 ib1 s4 mg1 s5 M S ib2 mg2;refine Wt.wy (λR=>∀mg,R (jp () mg)) ?_ λh=>?_
 rotate_left
 .exact .ite (λ_=>h _) λ_=>h _
 intro mg;have hm:=f.m;have la:=f.mh.la;have lb:=f.mh.lb;have T':=f.ha;obtain⟨ib,rfl⟩:∃k,ib=k+1:=⟨ib - 1,by have:=f.hb;exact Nat.le_antisymm (rT (am (Nat.le_of_lt this))) (rT (ad (Nat.le_of_lt this)))⟩
 have hib:=f.hb;obtain⟨y,C,e2,y3⟩:=B (show ib<(Z b) from lb);obtain⟨k,k1,k2,k3,k4⟩:=si o as (l:=a) (base:=0) (n:=ia) (y:=y) (kO la (aY _)) (by rw[fA];exact sa.sublist (hV _ _)) (λx U'=>by rw[fA]at U';have:=cu U';exact⟨na x this,λe=>y3 (e▸this)⟩) e2;rw[fA]at k2 k3;rw[wX]at k3;rw[jG,gW k1]at k2;refine .bind (.NV (.bind (.elem C (.bind (k4 J (ia - 1) c0 (kO T' (aw _)) ?_)))));have mA:MH lt a b (out++((a.drop k).take (ia - k)).reverse) k (ib+1):=f.mh.xp sa k1 λz p=>qC o O' C (k3 z p);dsimp -zeta -zetaHave only
 extract_lets +onlyGivenNames ka M jp2
 subst M ka;refine Wt.wy (λR=>∀out ia,MH lt a b out ia (ib+1)->0<ia->(∀z∈a.take ia,lt z y=U)->j+1+1+i+ia+(ib+1)<=Z a+Z b->R (jp2 () ia (Ar it out))) ?_ λh=>?_
 rotate_left
 .refine .ite (λ_=>?_) λc=>?_
  .rw[F6];refine .ite (λd=>.pure (.inl ⟨_,_,(0,0,0,_),W,W,v mA (beq_iff_eq.mp d)⟩)) λd=>?_;have c1:¬k=0:=λe=>d (beq_iff_eq.mpr e);exact h (out++((a.drop k).take (ia - k)).reverse) k mA (jl c1) k2 (t9 hm k1)
  .obtain rfl:k=ia:=by have c:¬ia - k > 0:=c;exact Nat.le_antisymm (rT k1) (t9 (am k1) (Nat.lt_of_not_le c))
   rw[jS,jF,MG,aS]at mA;exact h out k mA f.ha k2 hm
 clear mA k3 k4;intro out ia mA T' k2 hm;have la:=mA.la;obtain⟨ia,rfl⟩:∃k,ia=k+1:=⟨ia - 1,tV (rn T')⟩
 obtain⟨x,x1,X,x3⟩:=F (show ia<(Z a) from la);have xy:lt x y=U:=k2 x (aX (i:=ia) (by rw[cU,a6 (iQ _)];exact x1));have m2:=tB mA x1 C xy;refine .bind (.elem C ?_);rw[l6];refine .ite (λd=>.pure (.inl ⟨_,_,(0,0,0,_),W,W,qH m2 (beq_iff_eq.mp d)⟩)) λd=>?_;have d:1<ib:=by have c:¬ib=1:=λe=>d (beq_iff_eq.mpr e);exact Nat.lt_of_le_of_ne (rT hib) (Ne.symm c)
 obtain⟨k',l1,l2,l3,l4⟩:=si o as (l:=b) (base:=0) (n:=ib) (y:=x) (rT lb) (by rw[fA];exact O'.sublist (hV _ _)) (λz p=>by rw[fA]at p;have:=cu p;exact⟨nb z this,λe=>x3 (e▸this)⟩) X;rw[fA]at l2 l3;rw[wX]at l3;rw[jG,gW l1]at l2;refine .bind (.elem x1 (.bind (l4 U (ib - 1) c0 (rT (ad (Nat.le_of_lt d))) ?_)));have H:MH lt a b (out++[y]++((b.drop k').take (ib - k')).reverse) (ia+1) k':=m2.pC O' l1 λz p=>qC o sa x1 (l3 z p);dsimp -zeta -zetaHave only
 extract_lets +onlyGivenNames kb S ia2 jp3
 subst S ia2 kb;refine Wt.wy (λR=>∀out ib',MH lt a b out (ia+1) ib'->1<ib'->(∀z∈b.take ib',lt z x=U)->j+1+1+i+1+(ia+1)+ib'<=Z a+Z b->R (jp3 () ib' (Ar it out))) ?_ λh=>?_
 rotate_left
 .refine .ite (λ_=>?_) λc=>?_
  .rw[F6];refine .ite (λd=>.pure (.inl ⟨_,_,(0,0,0,_),W,W,qH H (beq_iff_eq.mp d)⟩)) λd=>?_;refine .ite (λd=>.pure (.inl ⟨_,_,(0,0,0,_),W,W,K H (beq_iff_eq.mp d)⟩)) λd'=>?_;have c1:¬k'=1:=λe=>d (beq_iff_eq.mpr e);have c2:¬k'=0:=λe=>d' (beq_iff_eq.mpr e);exact h (out++[y]++((b.drop k').take (ib - k')).reverse) k' H (Nat.lt_of_le_of_ne (rT (Nat.pos_of_ne_zero c2)) (Ne.symm c1)) l2 (t9 hm l1)
  .obtain rfl:k'=ib:=by have c:¬ib - k' > 0:=c;exact Nat.le_antisymm (rT l1) (t9 (am l1) (Nat.lt_of_not_le c))
   rw[jS,jF,MG,aS]at H;exact h (out++[y]) k' H d l2 (rT hm)
 intro out ib' H I l2 hm;have lb:=H.lb;obtain⟨ib',rfl⟩:∃k,ib'=k+1:=⟨ib' - 1,Nat.le_antisymm (rT (am (Nat.le_of_lt I))) (rT (ad (Nat.le_of_lt I)))⟩
 obtain⟨z,D,J',z3⟩:=B (show ib'<(Z b) from lb);have m3:=tA H x1 D (l2 z (aX (i:=ib') (by rw[cU,a6 (iQ _)];exact D)));refine .bind (.elem x1 ?_);rw[l6];refine .ite (λd=>.pure (.inl ⟨_,_,(0,0,0,_),W,W,v m3 (beq_iff_eq.mp d)⟩)) λd=>?_;have d:0<ia:=by have c:¬ia=0:=λe=>d (beq_iff_eq.mpr e);exact jl c
 exact .ite (λ_=>.pure (.inr ⟨_,ia,ib'+1,(_,_,_,_),W,W,m3,d,I,rT hm⟩)) λ_=>.pure ⟨_,ia,ib'+1,(_,_,_,_),W,W,m3,d,I,rT hm⟩
end
abbrev pD(κ:pf)(it:T->iM)(l:O T)(B:O (T×T×T))(g:T):bT:=j9 κ (Ar it l) B.toArray g L
section
theorem AK:∀(R B u v:O T)(c n:T),Z B=Z R->c+n=Z u->((R.map it).zipIdx n).foldl (λ(a:eb iM)(x:iM×T)=>a.setIfInBounds (c+x.2) x.1) (Ar it (u++B++v))=Ar it (u++R++v)
 |[],[],u,v,c,n,_,_=>rfl
 |r::R,p::B,u,v,c,n,hl,b=>by
   rw[ak,fm,M9]
   have e:(Ar it (u++(p::B)++v)).setIfInBounds (c+n) (it r)=Ar it ((u++[r])++B++v):=by
    simp_all
   rw[e,AK R B _ v c _ (by simpa using hl) (by simp;grind)];simp
def mO(ha:ee lt a)(hb:ee lt b)(h:∀x∈a,∀y∈b,lt x y=U):ee lt (a++b):=dI.mpr ⟨ha,hb,h⟩
def Dr{G:a7->bT->Prop}(o:Lt lt)(as:tP P w A s κ it lt N)(sB:ee lt B)(c0:ee lt C)(nB:0<Z B)(nC:0<Z C)(lB:∀x∈B,x<N)(lC:∀x∈C,x<N)(FN:∀x∈B,x∉C)
  (q:∀M g,ee lt M->M.Perm (B++C)->G U (pD κ it (pre++M++post) (O'++(pre.length,Z B+Z C,pw)::e7) g)) :
  Wt P w A E s (mergeAt' O'.length) G (pD κ it (pre++(B++C)++post) (O'++(pre.length,B.length,pw)::(Z pre+Z B,C.length,pw')::e7) g):=by
 generalize D:pre++(B++C)++post=L';have J':∃y,C[0]?=Y y:=⟨C[0],ae nC⟩
 obtain⟨y,J'⟩:=J';have H:∃x,B[Z B - 1]?=Y x:=⟨_,ae (Nat.add_le_of_le_sub nB (Nat.le_refl _))⟩
 obtain⟨x,H⟩:=H;have yC:=aX J';have xB:=aX H;have I:(L'.drop pre.length).take (Z B)=B:=by rw[<-D,aK,jJ,aK,wV]
 have GQ:(L'.drop (Z pre+Z B)).take (Z C)=C:=by
  rw[<-D,<-jL,aK,jJ,aK,jJ,wV]
 have lenL:Z pre+Z B+Z C<=Z L':=by rw[<-D];simp;exact lw0
 have gy:L'[Z pre+Z B]?=Y y:=by
  rw[<-D,aK,aM (Nat.le_add_right _ _),aK,aM (by simp),a9 (by omega)];rw[show Z pre+Z B - Z pre - Z B=0 from (Nat.sub_eq_zero_of_le (Nat.le_of_eq (Nat.add_sub_cancel_left _ _)))];exact J'
 have gx:L'[Z pre+Z B - 1]?=Y x:=by
  rw[<-D,aK,aM (Nat.le_sub_of_add_le (Nat.add_le_add_left nB _)),aK,a9 (by omega)];rw[show Z pre+Z B - 1 - Z pre=Z B - 1 by omega];exact H
 obtain⟨k,k1,k2,k3,k4⟩:=si o as (l:=L') (base:=pre.length) (n:=B.length) (y:=y) (Nat.le_trans (Nat.le_add_right _ _) lenL) (by rw[I];exact sB) (λz d=>by rw[I]at d;exact⟨lB z d,λe=>FN z d (e▸yC)⟩) (lC y yC);obtain⟨m,m1,m2,m3,m4⟩:=si o as (l:=L') (base:=Z pre+Z B) (n:=C.length) (y:=x) (by omega) (by rw[GQ];exact c0) (λz d=>by rw[GQ]at d;exact⟨lC z d,λe=>FN x xB (e▸d)⟩) (lB x xB);rw[I]at k2 k3;rw[GQ]at m2 m3
 have t:∀z∈C,z=y\/lt y z=U:=λz d=>by
  have e:=jw J';rw[fA]at e;rw[e]at d c0
  rcases aq.mp d with h|h
  .exact .inl h
  .exact .inr ((cy.mp c0).1 z h)
 have K:∀z∈B,z=x\/lt z x=U:=λz d=>by
  obtain⟨i,hi⟩:=fK d;obtain⟨O',e7⟩:=aT.mp hi;obtain⟨q1,q2⟩:=aT.mp H;by_cases e:i=Z B - 1
  .subst e;rw[H]at hi;cases hi;exact .inl rfl
  .have:=eB.mp sB i (Z B - 1) O' q1 (Nat.lt_of_le_of_ne (t9 O' (am nB)) e);rw[e7,q2]at this;exact .inr this
 have low:∀u,(∀z∈C,z=y\/lt y z=U)->lt u y=U->∀z∈C,lt u z=U:=λu _ h z d=>by
  rcases t z d with rfl|h'
  .exact h
  .exact o.tr _ _ _ h h'
 have high:∀u,lt x u=U->∀z∈B,lt z u=U:=λu h z d=>by
  rcases K z d with rfl|h'
  .exact h
  .exact o.tr _ _ _ h' h
 unfold mergeAt';walk_at "u mergeAt";refine .bind (.get ?_)
 have e1:(j2 (pD κ it L' (O'++(pre.length,B.length,pw)::(Z pre+Z B,C.length,pw')::e7) g))[O'.length]?=Y (pre.length,B.length,pw):=by
  show((O'++(pre.length,B.length,pw)::(Z pre+Z B,C.length,pw')::e7).toArray)[O'.length]?=_;rw[ki,aM (aw _),jS];rfl
 have e2:(j2 (pD κ it L' (O'++(pre.length,B.length,pw)::(Z pre+Z B,C.length,pw')::e7) g))[Z O'+1]?=Y (Z pre+Z B,C.length,pw'):=by
  show((O'++(pre.length,B.length,pw)::(Z pre+Z B,C.length,pw')::e7).toArray)[Z O'+1]?=_;rw[ki,aM (by simp),show Z O'+1 - Z O'=1 from (Nat.add_sub_cancel_left _ _)];rfl
 rw[e1,e2]
 have e3:((j2 (pD κ it L' (O'++(pre.length,B.length,pw)::(Z pre+Z B,C.length,pw')::e7) g)).setIfInBounds O'.length (pre.length,Z B+Z C,pw)).eraseIdxIfInBounds (Z O'+1)=(O'++(pre.length,Z B+Z C,pw)::e7).toArray:=by
  show(((O'++(pre.length,B.length,pw)::(Z pre+Z B,C.length,pw')::e7).toArray).setIfInBounds O'.length (pre.length,Z B+Z C,pw)).eraseIdxIfInBounds (Z O'+1)=_;rw[List.setIfInBounds_toArray,List.set_append_right (h:=aw _),jS,List.set_cons_zero];unfold Array.eraseIdxIfInBounds;rw[mi (by simp)];rw[List.eraseIdx_toArray,List.eraseIdx_append_of_length_le (by omega),show Z O'+1 - Z O'=1 from (Nat.add_sub_cancel_left _ _)];rfl
 refine .bind (.set ?_);rw[e3];refine .bind (.elem gy (.bind (k4 J 0 W nB ?_)));refine .ite (λc=>?_) λc=>?_
 .have c:Z B - k=0:=beq_iff_eq.mp c;refine .pure ?_;rw[<-D];refine q (B++C) g (mO sB c0 λu f=>low u t (k2 u ?_)) (.refl _);rw[fh (t9 (am k1) (Nat.le_of_eq c))];exact f
 have c:¬Z B - k=0:=λe=>c (beq_iff_eq.mpr e);refine .bind (.elem (x:=x) (by rw[show Z pre+k+(Z B - k) - 1=Z pre+Z B - 1 from (Nat.le_antisymm (QI (ar (Z pre + k + (Z B - k)) 1 (rT (Nat.pos_of_ne_zero c))) (ay (Z pre + Z B) 1) (ad k1)) (QI (ar (Z pre + Z B) 1 (rT nB)) (ay (Z pre + k + (Z B - k)) 1) (am k1)))];exact gx) (.bind (m4 U (Z C - 1) W (Nat.add_le_of_le_sub nC (Nat.le_refl _)) ?_)));refine .ite (λc=>?_) λc'=>?_
 .have c:m=0:=beq_iff_eq.mp c;subst c;refine .pure ?_;rw[<-D];exact q (B++C) g (mO sB c0 λu f z d=>high z (m3 z d) u f) (.refl _)
 have c':0<m:=by have:¬m=0:=λe=>c' (beq_iff_eq.mpr e);exact Nat.pos_of_ne_zero this
 have ex:(Ar it L').extract (Z pre+k) (Z pre+Z B)=Ar it (B.drop k):=by
  have:(L'.drop (Z pre+k)).take (Z pre+Z B - (Z pre+k))=B.drop k:=by
   rw[<-D,<-jL,aK,jJ,aK,List.drop_append_of_le_length k1,show Z pre+Z B - (Z pre+k)=(Z (B.drop k)) by simp;omega,wV]
  have h:=my (it:=it) (l:=[]) (b:=L') (i:=Z pre+k) (j:=Z pre+Z B);rw[this]at h;simpa using h
 have ey:(Ar it L').extract (Z pre+Z B) (Z pre+Z B+m)=Ar it (C.take m):=by
  have:(L'.drop (Z pre+Z B)).take (Z pre+Z B+m - (Z pre+Z B))=C.take m:=by
   rw[<-D,<-jL,aK,jJ,aK,jJ,show Z pre+Z B+m - (Z pre+Z B)=m from (Nat.add_sub_cancel_left _ _),uv m1]
  have h:=my (it:=it) (l:=[]) (b:=L') (i:=Z pre+Z B) (j:=Z pre+Z B+m);rw[this]at h;simpa using h
 have Q:ee lt (B.drop k):=sB.sublist (eR _ _);have S:ee lt (C.take m):=c0.sublist (hV _ _)
 have fin:∀r g',Res it lt (B.drop k++C.take m) r->G U (j9 κ (r.toList.zipIdx.foldl (λ(a:eb iM)(x:iM×T)=>a.setIfInBounds (Z pre+k+x.2) x.1) (Ar it L')) (O'++(pre.length,Z B+Z C,pw)::e7).toArray g' L):=by
  rintro r g' ⟨R,rfl,sR,X⟩
  have hLs:L'=(pre++B.take k)++(B.drop k++C.take m)++(C.drop m++post):=by
   rw[<-D]
   conv=>lhs;rw[<-bc k B,<-bc m C]
   simp only[aK]
  have hb:=AK (it:=it) R (B.drop k++C.take m) (pre++B.take k) (C.drop m++post) (Z pre+k) 0 X.length_eq.symm (by simp;exact Eq.symm (Nat.min_eq_left k1));rw[show(Ar it R).toList=R.map it by simp,hLs,hb];have:=q (B.take k++R++C.drop m) g' ?_ ?_
  .simpa only[aK]using this
  .refine mO (mO (sB.sublist (hV _ _)) sR λu f z d=>?_) (c0.sublist (eR _ _)) λu f z d=>?_
   .rcases aR.mp (X.mem_iff.mp d)with h|h
    .have:=sB;rw[<-bc k B]at this;exact(dI.mp this).2.2 u f z h
    .exact low u t (k2 u f) z (cu h)
   .have T':=m3 z d
    rcases aR.mp f with h|h
    .exact high z T' u (cu h)
    .rcases aR.mp (X.mem_iff.mp h)with h|h
     .exact high z T' u (dJ h)
     .have:=c0;rw[<-bc m C]at this;exact(dI.mp this).2.2 u h z d
  .conv=>rhs;rw[<-bc k B,<-bc m C]
   have:=(X.append_left (B.take k)).append_right (C.drop m);simpa only[aK]using this
 have U':∀x∈B.drop k,x<N:=λz h=>lB z (dJ h);have V:∀x∈C.take m,x<N:=λz h=>lC z (cu h);have F:∀x∈B.drop k,x∉C.take m:=λz h h'=>FN z (dJ h) (cu h');have hlB:Z (B.drop k)=Z B - k:=by simp
 have hlC:Z (C.take m)=m:=by simp;exact Nat.min_eq_left m1
 have v:(B.drop k)[Z B - k - 1]?=Y x:=by rw[qX,show k+(Z B - k - 1)=Z B - 1 from (Nat.le_antisymm (QI (ad k1) (ad (Nat.pos_of_ne_zero c)) (am nB)) (QI (ad nB) (am k1) (am (Nat.pos_of_ne_zero c))))];exact H
 have p:(C.take m)[0]?=Y y:=by rw[cU,a6 c'];exact J'
 dsimp -zeta -zetaHave only
 extract_lets +onlyGivenNames lx ly jp
 subst lx ly
 have h:∀r g',Res it lt (B.drop k++C.take m) r->Wt P w A E s (jp r) G (j9 κ (Ar it L') (O'++(pre.length,Z B+Z C,pw)::e7).toArray g' L):=by
  intro r g' f3;refine .bind (.modify (.bind (.get (.pure ?_))));exact fin r g' f3
 refine .ite (λ_=>?_) λ_=>?_
 .refine .bind ?_;show Wt P w A E s (ve ((Ar it L').extract (Z pre+k) (Z pre+Z B)) ((Ar it L').extract (Z pre+Z B) (Z pre+Z B+m))) _ _;rw[ex,ey];refine Dp o as rfl U' V Q S F (Nat.le_trans (Nat.pos_of_ne_zero c) (Nat.le_of_eq hlB.symm)) p k3 (λz d u f=>?_) λr g' f3=>h r g' f3;rw[hlB,jw v]at f;have:(B.drop k).drop (Z B - k - 1+1)=[]:=jK (t9 (Nat.le_of_eq hlB) (am (Nat.pos_of_ne_zero c)));rw[this,aG]at f;subst f;exact m2 z d
 .refine .bind ?_;show Wt P w A E s (vf ((Ar it L').extract (Z pre+k) (Z pre+Z B)) ((Ar it L').extract (Z pre+Z B) (Z pre+Z B+m))) _ _;rw[ex,ey];refine Dq (n:=Z B - k - 1) o as rfl U' V Q S F (Nat.le_trans c' (Nat.le_of_eq hlC.symm)) (Nat.le_antisymm (t9 (Nat.le_of_eq hlB) (am (Nat.pos_of_ne_zero c))) (t9 (ad (Nat.pos_of_ne_zero c)) (Nat.le_of_eq hlB.symm))) v m2 (λz d u f=>?_) λr g' f3=>h r g' f3;have e:=take_one p;rw[fA]at e;rw[e,aG]at f;subst f;exact k3 z d
end
section
def Wt.WY{G:a5 a7->bT->Prop}(as:tP P w A s κ it lt N)(B:l[i]?=Y x)(c:l[j]?=Y y)(nx:x<N)(b:y<N)(h:G (Y (lt x y)) (pD κ it l e g)):Wt P w A E s (ltAt' i j) G (pD κ it l e g):=by
 exact .bind (.get (.bind (.elem B (.bind (.elem c (Wt.ask as rfl nx b h))))))
set_option tactic.hygienic true
def AZ(pre X b:O T):mirror (Ar it (pre++X++b)) pre.length (Z pre+Z X) ((Z pre+Z X - Z pre) / 2)=Ar it (pre++X.reverse++b):=by
 apply Gx;intro k;rw[getElem?_mirror_all (by simp)];simp only[ki,aV];split
 .rename_i h;rw[aK,aK,aM (by omega),a9 (by omega),aM (h.1),a9 (by simp;exact t9 (ws h.1) h.2),List.getElem?_reverse (t9 (ws h.1) h.2)]
  congr 2;omega
 grind
def BW(p V b:O T)(x:T):bubble (Ar it (p++(V++x::b))) (p.length+V.length) V.length=Ar it (p++(x::V++b)):=by
 apply Gx;intro k;rw[getElem?_bubble (by rw[bS];simp) _ (Nat.le_add_left _ _)];simp only[ki,aV];by_cases c:k<p.length
 .rw[c4 (fun z => (Zc c (ay (p.length + V.length) V.length) (Nat.le_of_eq z.symm))),c4 (fun z => (Zc z.1 c (ay (p.length + V.length) V.length))),a9 c,a9 c]
 .obtain⟨m,rfl⟩:∃m,k=p.length+m:=⟨k - p.length,Eq.symm (Nat.add_sub_of_le (Nat.le_of_not_lt c))⟩
  clear c;have ap:∀(a:O T)(i:T),(p++a)[p.length+i]?=a[i]? :=λa i=>by rw[aM (bP _ _),jx]
  rw[ap (V++x::b) m,ap,ap];split
  .rename_i h;obtain rfl:m=0:=Nat.le_antisymm (t9 (Nat.le_of_eq h) (ar (p.length + V.length) V.length (lw0))) (lw0)
   rw[aM (aw _),jS];rfl
  cases m with
  |zero=>rename_i h;exact absurd (by simp) h
  |succ m=>
    split
    .rename_i h e;have d:m<V.length:=Nat.le_of_add_le_add_left e.2
     clear h e;rw[show p.length+(m+1) - 1=p.length+m from rfl,ap,a9 d,eG,dO,a9 d]
    .rename_i h e;have d:V.length<=m:=by omega
     clear h e;rw[aM (fL d),eG,dO,aM d,Nat.succ_sub d,dO]
set_option tactic.hygienic false
def rE(o:Lt lt){l:O T}(h:ee lt (l.take (n+1)))(e:l[n]?=Y u)(B:l[n+1]?=Y v)(c:lt u v=U):ee lt (l.take (n+1+1)):=by
 rw[List.take_succ,B];refine mO h (nL _ _) λz b y a=>?_;have a:y=v:=by simpa using a
 subst a;have:=qC o h (n:=n) (by grind) c z;rw[jG,Nat.min_self]at this;exact this b
abbrev ASt:=a5 (a5 T)×T
def ED{rest:O T}{st:bT}(o:Lt lt)(nd:rest.Nodup)(ha:1<=a)(hb:a<=Z rest)(h:ee lt (rest.take a))
  (hf:∀x n u v(y:j1 ASt->bT->Prop),rest[n]?=Y u->rest[n+1]?=Y v->(lt v u=U->y (.done (L,n+1)) st)->(lt v u=J->y (.yield (L,n+1+1)) st)->Wt P w A E s (f x (L,n+1)) y st) :
  Wt P w A E s (forIn [a:rest.length] ((L,a):ASt) f) (λb B=>B=st/\∃n,b=(L,n)/\a<=n/\n<=Z rest/\ee lt (rest.take n)/\∀k u v,n=k+1->rest[k]?=Y u->rest[k+1]?=Y v->lt v u=U) st:=by
 refine Wt.range (λj b B=>B=st/\b=(L,a+j)/\ee lt (rest.take (a+j))) ⟨W,W,h⟩ (λj b B r z=>?_) λb B z=>⟨z.1,_,z.2.1,Nat.le_add_right _ _,Nat.le_of_eq (Nat.add_sub_of_le hb),z.2.2,λk u v p _ d=>by have:=(aT.mp d).1;exact (Zc this (am hb) (Nat.le_of_eq p)).elim⟩
 obtain⟨e,q,m⟩:=z;subst e q;obtain⟨n,t⟩:∃n,a+j=n+1:=⟨a+j - 1,Nat.le_antisymm (rT (ay (a + j) 1)) (rT (ar (a + j) 1 (rT ha)))⟩
 rw[t]at m ⊢;have l:=ae (show n<(Z rest) from (QI (Nat.le_of_eq t.symm) (ad hb) r));have d:=ae (show n+1<(Z rest) from (QI (Nat.le_of_eq t.symm) r (ad hb)))
 refine hf _ n _ _ _ l d (λc=>⟨W,n+1,W,Nat.le_trans (Nat.le_add_right _ _) (Nat.le_of_eq t),QI (Nat.le_of_eq t.symm) (ad hb) r,m,λk u v p g i=>by
  obtain rfl:n=k:=Nat.add_right_cancel p
  rw[l]at g;rw[d]at i;cases g;cases i;exact c⟩) λc=>⟨W,by rw[show a+(j+1)=n+1+1 from (Nat.le_antisymm (Nat.succ_le_succ (Nat.le_of_eq t)) (Nat.succ_le_succ (Nat.le_of_eq t.symm)))],?_⟩
 rw[show a+(j+1)=n+1+1 by omega];refine rE o m l d (o.co _ _ (λe=>?_) c);have:=(jH (show n+1<(Z rest) by omega) nd).mp (d.trans (by rw[e];exact l.symm));exact Nat.not_le_of_lt (Nat.le_of_eq this) (Nat.le_refl _)
def t5{rest:O T}:(pre++rest)[Z pre+n]?=rest[n]? :=by rw[aM (bP _ _)];simp
theorem BH{rest:O T}{G:a5 T->bT->Prop}(o:Lt lt)(as:tP P w A s κ it lt N)(hn:0<Z rest)(nl:∀x∈rest,x<N)(nd:rest.Nodup)
  (q:∀n rest',1<=n->n<=Z rest->rest'.Perm rest->ee lt (rest'.take n)->G (Y n) (pD κ it (pre++rest') pd g)):Wt P w A E s (countRun' pre.length rest.length) G (pD κ it (pre++rest) pd g):=by
 have ask:∀{rest':O T}{i j x y:T}{V:a5 a7->bT->Prop},rest'.Perm rest->rest'[i]?=Y x->rest'[j]?=Y y->V (Y (lt x y)) (pD κ it (pre++rest') pd g)->Wt P w A E s (ltAt' (Z pre+i) (Z pre+j)) V (pD κ it (pre++rest') pd g):=λhp I X h=>
  Wt.WY as (t5.trans I) (t5.trans X) (nl _ (hp.mem_iff.mp (aX I))) (nl _ (hp.mem_iff.mp (aX X))) h
 unfold countRun';walk_at "u countRun"
 refine .bind (Wt.mono (ED o nd (aw 1) hn (by
  cases rest with
  |nil=>exact .nil
  |cons z r=>exact nL _ _) λx n u v V f l k1 k2=>?_) λb d z=>?_)
 .refine .bind (ask (.refl _) l f ?_)
  cases c:lt v u with
  |true=>exact .pure (k1 c)
  |false=>exact .pure (k2 c)
 obtain⟨e,n,B,h1,h2,C,hs⟩:=z;subst e B;refine .ite (λc=>.pure (q n rest h1 h2 (.refl _) C)) λc=>?_;have c:n<Z rest:=by have :=λe=>c (beq_iff_eq.mpr e);exact cj h2 this
 extract_lets +onlyGivenNames T' U' K
 refine Wt.wy (λR=>n=1->R (K ())) ?_ λh=>?_
 rotate_left
 .refine .ite (λc1=>?_) λc1=>h (by exact bu (iS c1) h1);obtain⟨k,rfl⟩:∃k,n=k+1:=⟨n - 1,tV (rn h1)⟩
  have f:=ae (show 0<(Z rest) by omega);have l:=ae (h2);refine .bind (ask (i:=0) (.refl _) f l ?_)
  have:lt rest[0] rest[k]=U:=by
   have:=eB.mp C 0 k (by simp;exact rT (a0 (k + 1) rest.length (rT c))) (by simp;exact rT (a0 (k + 1) rest.length (rT c))) (cq c1);simpa using this
  rw[this];exact .pure (q (k+1) rest h1 h2 (.refl _) C)
 rintro rfl;have l:=ae (by omega);have f:=ae (show 0<(Z rest) by omega);have L':=hs 0 _ _ W f l;have o':Lt (Uv lt):=⟨λi j k a b=>o.tr _ _ _ b a,λi j a b=>o.co _ _ (eW a) b,λi j a=>o.as _ _ a⟩
 have M:ee (Uv lt) (rest.take 2):=by
  refine rE o' ?_ f l L'
  cases rest with
  |nil=>exact .nil
  |cons z r=>exact nL _ _
 refine .bind (.rule (.bind (Wt.mono (Wt.range (G:=λ(b)d=>d=pD κ it (pre++rest) pd g/\∃m,b=(L,m,0)/\2<=m/\m<=Z rest/\ee (Uv lt) (rest.take m))
  (λj b d=>d=pD κ it (pre++rest) pd g/\b=(L,j+2,0)/\ee (Uv lt) (rest.take (j+2))) ⟨W,W,M⟩ (λj b d D z=>?_) λb d z=>⟨z.1,_,z.2.1,by simp,kO c (aw _),z.2.2⟩) λb d z=>?_)))
 .obtain⟨e,B,hd⟩:=z;subst e B;have f:=ae (show j+1<(Z rest) from(bx (pT D)));have l:=ae (show j+2<(Z rest) from(pT D));refine .bind (ask (.refl _) l f ?_)
  cases c:lt rest[j+2] rest[j+1]with
  |true=>
    refine .pure ⟨W,W,?_⟩;have F:ee (Uv lt) (rest.take (j+1+1)):=hd;have:=rE o' F f (l) c;exact this
  |false=>
    have H:rest[j+2]≠rest[j+1]:=λe=>by
     have:=(jH (by omega) nd).mp (l.trans (by rw[e];exact f.symm))
     simp_all
    refine .bind (ask (.refl _) f l ?_);rw[o.co _ _ H c];exact .pure ⟨W,j+2,W,wu _ _,bx (pT D),hd⟩
 obtain⟨e,m,B,m1,m2,hd⟩:=z;subst e B;have hlen:Z (rest.take m)=m:=by simp_all
 have p:((rest.take m).reverse++rest.drop m).Perm rest:=by
  conv=>rhs;rw[<-bc m rest]
  exact(fJ _).append_right _
 refine .bind ?_;show Wt P w A E s (reverseSlice' pre.length (Z pre+m)) _ _;rw[reverseSlice'_eq];refine .modify ?_
 have O':mirror (Ar it (pre++rest)) pre.length (Z pre+m) ((Z pre+m - Z pre) / 2)=Ar it (pre++((rest.take m).reverse++rest.drop m)):=by
  have:=AZ (it:=it) pre (rest.take m) (rest.drop m)
  simp_all
 rw[O'];have t :=p.length_eq;generalize Q:(rest.take m).reverse++rest.drop m=rest' at p t;have S:rest'.take m=(rest.take m).reverse:=by grind
 rw[<-t];refine .bind (Wt.mono (ED o (p.nodup_iff.mpr nd) ((bx m1)) (ab m2 (af t.symm)) (by rw[S];exact kg.mpr hd) λx n u v V f l k1 k2=>?_) λb d z=>?_)
 .refine .bind (ask p l f ?_)
  cases c:lt v u with
  |true=>exact .pure (k1 c)
  |false=>exact .pure (k2 c)
 .obtain⟨e,n,B,h1,h2,C,_⟩:=z;subst e B;exact .pure (q n rest' (bx (ab m1 h1)) (ab h2 (af t)) p C)
end
section
set_option tactic.hygienic true in
def wI{rest:O T}{G:a7->bT->Prop}(o:Lt lt)(as:tP P w A s κ it lt N)(h1:1<=ok)(h2:ok<=n)(hn:n<=Z rest)(nl:∀x∈rest,x<N)(nd:rest.Nodup)(c0:ee lt (rest.take ok))
  (q:∀rest',rest'.Perm rest->ee lt (rest'.take n)->G U (pD κ it (pre++rest') pd g)):Wt P w A E s (binarySort' pre.length n ok) G (pD κ it (pre++rest) pd g):=by
 unfold binarySort';walk_at "u binarySort";rw[Nat.max_eq_left h1]
 refine .bind (Wt.mono (Wt.range (G:=λ(b:a5 a7×oC)a=>b=(L,())/\∃rest',a=pD κ it (pre++rest') pd g/\rest'.Perm rest/\ee lt (rest'.take n))
  (λj b a=>b=(L,())/\∃rest',a=pD κ it (pre++rest') pd g/\rest'.Perm rest/\ee lt (rest'.take (ok+j))) ⟨W,rest,W,.refl _,c0⟩ (λj b a V z=>?_) λb a z=>by obtain⟨f,rest',e,hp,p⟩:=z;exact⟨f,rest',e,hp,by rw[show n=ok+(n - ok) by omega];exact p⟩) λb a z=>by obtain⟨f,rest',e,hp,p⟩:=z;subst e f;exact .pure (q rest' hp p))
 obtain⟨f,rest',e,hp,p⟩:=z;subst e f;have hl:=hp.length_eq;generalize e1:ok+j=k at p;have I:k<Z rest':=by omega
 have B:=ae I;generalize rest'[k]=x at B;have mem:∀{i z:T},rest'[i]?=Y z->z<N:=λh=>nl _ (hp.mem_iff.mp (aX h));obtain⟨t,C,M⟩:=EU o p x;have C:t<=k:=by simp at C;omega
 have less:∀m,m<k->∃z,rest'[m]?=Y z/\lt x z=decide (¬m<t):=λm hm=>by
  have v:=ae (show m<(Z rest') by omega);refine⟨_,v,?_⟩;have e:=M m _ (by rw[cU,a6 hm];exact v)
  have J':rest'[m]≠x:=λe=>by
   have:=(jH (show m<(Z rest') by omega) (hp.nodup_iff.mpr nd)).mp (v.trans (by rw[e];exact B.symm));omega
  by_cases c:m<t
  .rw[cb c]at e;rw[dd (by omega)];exact o.as _ _ e
  .rw[dd c]at e;rw[cb c];exact o.co _ _ J' e
 refine .bind (Wt.mono (Wt.range (G:=λ(b:a5 a7×T×T)a=>a=pD κ it (pre++rest') pd g/\∃r,b=(L,t,r))
  (λi b a=>a=pD κ it (pre++rest') pd g/\∃l r,b=(L,l,r)/\l<=t/\t<=r/\r<=k/\r - l<=k - i) ⟨W,0,k,W,by omega,C,by omega,by omega⟩ (λi b a hi z=>?_) λb a z=>by obtain⟨e,l,r,f,O',Q,R,S⟩:=z;exact⟨e,r,by rw[f];congr;omega⟩) λb a z=>?_)
 .obtain⟨e,l,r,f,O',Q,R,S⟩:=z;subst e f;refine .ite (λc=>.pure ⟨W,r,by have c:l>=r:=c;rw[show t=l by omega]⟩) λc=>?_;have c:¬l>=r:=c;obtain⟨z,D,K⟩:=less ((l+r) / 2) (by omega);refine .bind (Wt.WY as (x:=x) (y:=z) (t5.trans B) (t5.trans D) (mem B) (mem D) ?_);rw[K];by_cases d:(l+r) / 2<t
  .rw[dd (by omega)];exact .pure ⟨W,(l+r) / 2+1,r,W,by omega,Q,R,by omega⟩
  .rw[cb d];exact .pure ⟨W,l,(l+r) / 2,W,O',by omega,by omega,by omega⟩
 obtain⟨e,r,f⟩:=z;subst e f;refine .bind ?_;show Wt P w A E s (moveDown' (Z pre+k) (Z pre+t)) _ _;rw[moveDown'_eq];refine .modify (.pure ⟨W,rest'.take t++(x::(rest'.take k).drop t++rest'.drop (k+1)),?_,?_,?_⟩)
 .have hb:=BW (it:=it) (pre++rest'.take t) ((rest'.take k).drop t) (rest'.drop (k+1)) x
  have f:rest'.take t++(rest'.take k).drop t=rest'.take k:=by
   conv=>rhs;rw[<-bc t (rest'.take k)]
   rw[jG,gW C]
  have F:rest'=rest'.take k++x::rest'.drop (k+1):=by rw[<-jw B,bc]
  have T':pre++rest'.take t++((rest'.take k).drop t++x::rest'.drop (k+1))=pre++rest':=by
   rw[aK,<-aK (rest'.take t),f,<-F]
  have U':Z (pre++rest'.take t)+Z ((rest'.take k).drop t)=Z pre+k:=by simp;omega
  have e5:Z ((rest'.take k).drop t)=Z pre+k - (Z pre+t):=by simp;omega
  rw[T',U',e5,aK]at hb;show j9 κ (bubble (Ar it (pre++rest')) (Z pre+k) (Z pre+k - (Z pre+t))) pd.toArray g L=_;rw[hb]
 .refine Ee ?_ hp
  have F:rest'=rest'.take t++((rest'.take k).drop t++x::rest'.drop (k+1)):=by
   rw[<-aK]
   have f:rest'.take t++(rest'.take k).drop t=rest'.take k:=by
    conv=>rhs;rw[<-bc t (rest'.take k)]
    rw[jG,gW C]
   rw[f,<-jw B,bc]
  conv=>rhs;rw[F]
  exact jy _ MI.symm
 .have f:rest'.take t++(rest'.take k).drop t=rest'.take k:=by
   conv=>rhs;rw[<-bc t (rest'.take k)]
   rw[jG,gW C]
  have F:(rest'.take t++(x::(rest'.take k).drop t++rest'.drop (k+1))).take (ok+(j+1))=rest'.take t++(x::(rest'.take k).drop t):=by
   rw[<-aK,uv (by simp;omega),fh (by simp;omega)]
  rw[F];have H:=p;rw[<-f]at H;obtain⟨s1,s2,s3⟩:=dI.mp H
  have lo:∀z∈rest'.take t,lt z x=U:=λz v=>by
   obtain⟨i,hi⟩:=fK v;rw[cU]at hi;split at hi
   .rename_i c;rw[M i z (by rw[cU,a6 (by omega)];exact hi),cb c]
   .cases hi
  have hi:∀z∈(rest'.take k).drop t,lt x z=U:=λz v=>by
   obtain⟨i,hi⟩:=fK v;rw[qX,cU]at hi;split at hi
   .rename_i c;obtain⟨X,D,K⟩:=less (t+i) c;rw[hi]at D;cases D;rw[K,cb (by omega)]
   .cases hi
  refine mO s1 (cy.mpr ⟨hi,s2⟩) λz v y L'=>?_
  rcases aq.mp L' with rfl|L'
  .exact lo z v
  .exact s3 z v y L'
end
inductive lK (lt:T->T->a7):T->O (T×T×T)->O (O T)->Prop
 |nil {o:T}:lK lt o [] []
 |cons {o pw:T} {R:O T} {ps:O (T×T×T)} {Rs:O (O T)}:0<Z R->ee lt R->lK lt (o+Z R) ps Rs->lK lt o ((o,R.length,pw)::ps) (R::Rs)
section
theorem lK.split(h:lK lt o F Rs):∀{i:T},i+1<Z F->∃t pw u z y B C R2,F=t++(o+Z (y.flatten:O T),B.length,pw)::(o+Z y.flatten+Z B,C.length,u)::z/\Rs=y++B::C::R2/\Z t=i/\
  0<Z B/\0<Z C/\ee lt B/\ee lt C/\∀M:O T,Z M=Z B+Z C->ee lt M->lK lt o (t++(o+Z y.flatten,Z B+Z C,pw)::z) (y++M::R2):=by
 induction h with
 |nil=>intro i hi;simp at hi
 | @cons o pw R ps Rs h1 h2 h3 c=>
   intro i hi
   cases i with
   |zero=>
     cases h3 with
     |nil=>simp at hi
     | @cons _ u C ps Rs d f g=>
       refine⟨[],pw,u,ps,[],R,C,Rs,W,W,W,h1,d,h2,f,λM a b=>?_⟩;have:=lK.cons (pw:=pw) (ab (Nat.lt_add_right _ h1) (af a.symm)) b (by rwa[a,<-kL])
       simp_all
   |succ i=>
     refine ac λ_ l=>?_;obtain⟨t,j,k,z,y,B,C,R2,m,n,p,b1,b2,b3,b4,b5⟩:=c (by simpa using hi);refine l ?_;have e:o+(R::y).flatten.length=o+Z R+Z y.flatten:=by simp;exact tV (kL ..)
     refine⟨(o,R.length,pw)::t,j,k,z,_,B,C,R2,by rw[e,m];rfl,by rw[n];rfl,by simp[p],b1,b2,b3,b4,λM a b=>?_⟩;rw[e];exact .cons h1 h2 (b5 M a b)
def lK.push{R:O T}(h:lK lt o f Rs)(h1:0<Z R)(h2:ee lt R):lK lt o (f++[(o+Z Rs.flatten,R.length,x)]) (Rs++[R]):=by
 induction h with
 |nil=>exact .cons h1 h2 .nil
 | @cons o g a ps Rs b c e d=>
   refine .cons b c ?_;rwa[show o+(a::Rs).flatten.length=o+Z a+(Z Rs.flatten) by simp;exact tV (kL ..)]
def lK.mod(hf:∀a b c,∃d,f (a,b,c)=(a,b,d))(h:lK lt o t Rs):∀k,lK lt o (t.modify k f) Rs:=by
 induction h with
 |nil=>intro k;simp;exact .nil
 | @cons o g l ps Rs i j m n=>
   intro k
   cases k with
   |zero=>
     obtain⟨d,e⟩:=hf o _ g;rw[List.modify_zero_cons,e];exact .cons i j m
   |succ k=>exact .cons i j (n k)
def lK.len(h:lK lt o e Rs):Z e<=Z Rs.flatten:=by
 induction h with
 |nil=>exact aw _
 |cons b c d a=>simp at a ⊢;exact t9 a b
end
section
variable{κ:pf}{it:T->iM}{lt:T->T->a7}
def vd{Rs:O (O T)}{rest:O T}{G:a7->bT->Prop}(o:Lt lt)(as:tP P w A s κ it lt N)(F:∀x∈l,x<N)(nd:l.Nodup)(hl:l=Rs.flatten++rest)(hp:lK lt 0 y Rs)(hi:i+1<Z y)
  (q:∀z t g' u,z=u.flatten++rest->lK lt 0 t u->z.Perm l->Z u.flatten=Z Rs.flatten->Z t+1=Z y->G U (pD κ it z t g')):Wt P w A E s (mergeAt' i) G (pD κ it l y g):=by
 refine ac λ_ r=>?_;obtain⟨n,I,e,p,c,B,C,R2,v,D,H,b1,b2,b3,b4,b5⟩:=hp.split hi;refine r ?_;rw[jR]at v b5;have el:l=c.flatten++(B++C)++(R2.flatten++rest):=by rw[hl,D];simp
 have f:∀x∈B,x∈l:=λx a=>by rw[el];simp[a]
 have h:∀x∈C,x∈l:=λx a=>by rw[el];simp[a]
 have FN :=λx j k=>by
  rw[el]at nd;exact(bV.mp ((bV.mp (bV.mp nd).1).2.1)).2.2 x j x k W
 subst H;rw[v,el];refine Dr o as b3 b4 b1 b2 (λx a=>F x (f x a)) (λx a=>F x (h x a)) FN λM g' m d=>?_;have b:Z M=Z B+Z C:=by rw[d.length_eq];simp
 refine q _ _ g' _ (by simp) (b5 M b m) ?_ (by rw[D];simp;exact bu (rT (af b)) (rT (af b.symm))) (by rw[v];simp;rfl);rw[el];exact(d.append_left _).append_right _
abbrev Vr(κ:pf)(it:T->iM)(lt:T->T->a7)(l0:O T)(n:T)(b:a5 oC×T)(B:bT):Prop:=∃l a g Rs,b=(L,n)/\B=pD κ it l a g/\l=(Rs:O (O T)).flatten/\lK lt 0 a Rs/\l.Perm l0
abbrev Vq(κ:pf)(it:T->iM)(lt:T->T->a7)(l0:O T)(j:T)(b:a5 oC×T)(B:bT):Prop:=∃l a g Rs rest,b=(L,(Rs.flatten:O T).length)/\B=pD κ it l a g/\l=Rs.flatten++rest/\lK lt 0 a Rs/\l.Perm l0/\(rest=[]\/j<=Z Rs.flatten)
def ite_le{c:Prop}[ez c]:(if c then a - 1 else a)<=a:=by split<;>simp
def Ap{G:oC->bT->Prop}(o:Lt lt)(as:tP P w A s κ it lt N)(O':∀x∈l0,x<N)(c0:l0.Nodup)(q:∀l B g,l.Perm l0->ee lt l->G () (pD κ it l B g)):Wt P w A E s sortRuns' G (pD κ it l0 [] g0):=by
 have L':∀{l:O T},l.Perm l0->∀x∈l,x<N:=λh x H=>O' x (h.mem_iff.mp H);have nd:∀{l:O T},l.Perm l0->l.Nodup:=λh=>h.nodup_iff.mpr c0;unfold sortRuns';walk_at "u sortRuns";refine .bind (.get ?_);have hsz:(p_ (pD κ it l0 [] g0)).size=Z l0:=bS;rw[hsz];generalize M:Z l0=n
 refine .bind (Wt.mono (Wt.range (G:=Vr κ it lt l0 n) (Vq κ it lt l0) ⟨l0,[],g0,[],l0,W,W,W,.nil,.refl _,.inr (aw _)⟩
  (λj b f e3 z=>?_) λb f z=>?_) λb f z=>?_)
 rotate_left
 .refine ac λ_ kq=>?_;obtain⟨l,B,g,Rs,rest,e1,e2,hl,hp,e,v⟩:=z;have h1:=e.length_eq
  have Q:rest=[]:=by
   rcases v with h|h
   .exact h
   .rw[hl,aN]at h1;exact jm.mp (bu (QI (af h1) (af M) h) (lw0))
  subst Q;refine kq ?_;rw[aS]at hl;refine⟨l,B,g,Rs,?_,e2,hl,hp,e⟩
  simp_all
 .refine ac λ_ kq=>?_;obtain⟨l,B,g,Rs,e1,e2,hl,hp,e⟩:=z;subst e1 e2
  refine kq ?_;refine .bind (Wt.mono (Wt.range (G:=λ(b)f=>∃l B g Rs,b=(L,())/\f=pD κ it l B g/\l=(Rs).flatten/\lK lt 0 B Rs/\l.Perm l0/\Z B<=1)
   (λj b f=>∃l B g Rs,b=(L,())/\f=pD κ it l B g/\l=(Rs).flatten/\lK lt 0 B Rs/\l.Perm l0/\(Z B<=1\/Z B+j<=n)) ⟨l,B,g,Rs,W,W,hl,hp,e,.inr (by have:=hp.len;rw[<-hl,e.length_eq]at this;simp_all)⟩
   (λj b f e3 z=>?_) λb f z=>by refine ac λ_ kq=>?_;obtain⟨l,B,g,Rs,e1,e2,hl,hp,e,v⟩:=z;refine kq ?_;exact⟨l,B,g,Rs,e1,e2,hl,hp,e,by omega⟩) λb f z=>?_)
  .refine ac λ_ kq=>?_;obtain⟨l,B,g,Rs,e1,e2,hl,hp,e,v⟩:=z;subst e1 e2;refine kq ?_;refine .bind (.get ?_);refine .ite (λc=>.pure ⟨l,B,g,Rs,W,W,hl,hp,e,by exact c⟩) λc=>?_;have c:¬Z B<=1:=by exact c
   refine .bind (vd o as (L' e) (nd e) (by rw[aS];exact hl) hp (bh (dm (ite_le (a:=Z B - 2))) (rT (ws (kB c)))) λl' pd' g' Rs' X R S e7 k5=>?_)
   .refine .sZ (by simp) (.pure ⟨l',pd',g',Rs',W,W,by simp_all,R,S.trans e,.inr (by omega)⟩)
  .obtain⟨l,B,g,Rs,e1,e2,hl,hp,e,v⟩:=z;subst e1 e2;refine .pure (q l B g e ?_);rw[hl]
   cases hp with
   |nil=>exact .nil
   |cons h1 h2 h3=>
     cases h3 with
     |nil=>simpa using h2
     |cons _ _ _=>simp at v
 obtain⟨l,B,g,Rs,rest,e1,e2,hl,hp,e,v⟩:=z;subst e1 e2;have hlen:=e.length_eq;have k:Z Rs.flatten+Z rest=n:=by simp_all
 refine .ite (λc=>?_) λc=>?_
 .have Q :=jm.mp (bu (Nat.le_of_add_le_add_left (ab (af k) c)) (aY _));subst Q;rw[aS]at hl;refine .pure ⟨l,B,g,Rs,?_,W,hl,hp,e⟩;rw[<-hl,hlen,M]
 have I :=λx H=>L' e x (by rw[hl];exact aF _ H);have J' :=(bV.mp (hl▸nd e)).2.1;refine .bind ?_;rw[show n - Z Rs.flatten=(Z rest) from(bu (t9 (ws (bx (kB c))) (af k.symm)) (t9 (af k) (wt (bx (kB c))))),hl];refine BH o as (t9 (kB c) (af k.symm)) I J' λm d m1 m2 y K=>?_;have C:=y.length_eq;dsimp -zeta -zetaHave only
 extract_lets +onlyGivenNames n1 jp
 suffices h:∀m d g,1<=m->m<=Z rest->(d).Perm rest->ee lt (d.take m)->Wt P w A E s (jp () m) (X4 (Vr κ it lt l0 n) (Vq κ it lt l0 (j+1))) (pD κ it (Rs.flatten++d) B g) by
  refine .ite (λc1=>?_) λ_=>h m d g m1 m2 y K;refine .bind (.rule (.bind (wI o as m1 ?_ (ab (oP _ _) (af C.symm)) (λx H=>I x (y.mem_iff.mp H)) (y.nodup_iff.mpr J') K λF p2 r2=>?_)))
  .omega
  .exact .sZ (by simp) (h _ F g (by omega) (oP _ _) (p2.trans y) r2)
 intro m d g m1 m2 y K;have C:=y.length_eq;refine .bind (.get ?_)
 extract_lets +onlyGivenNames lo T'
 subst lo
 have h:∀l B g(Rs':O (O T)),l=Rs'.flatten++d->lK lt 0 B Rs'->l.Perm l0->Z Rs'.flatten=Z Rs.flatten->Wt P w A E s (T' ()) (X4 (Vr κ it lt l0 n) (Vq κ it lt l0 (j+1))) (pD κ it l B g):=by
  intro l B g Rs' p r i t;refine .bind (.modify (.pure ⟨l,B++[(Rs.flatten.length,m,0)],g,Rs'++[d.take m],d.drop m,?_,?_,?_,?_,i,?_⟩))
  .simp_all
  .rw[List.push_toArray]
  .rw[p];simp
  .have:=r.push (x:=0) (by simp;exact t9 m1 (a0 m d.length (t9 m2 (af C.symm)))) K
   grind
  .refine .inr ?_
   grind
 have D :=(y.append_left _).trans (hl▸e)
 cases hb:B.toArray.back? with
 |none=>exact h _ _ _ Rs W hp D W
 |some z=>
   obtain⟨s1,n1,z3⟩:=z
   refine .bind (Wt.mono (Wt.range
    (λj b f=>∃l B g Rs',b=(L,())/\f=pD κ it l B g/\l=(Rs').flatten++d/\lK lt 0 B Rs'/\l.Perm l0/\Z Rs'.flatten=Z Rs.flatten) ⟨_,B,g,Rs,W,W,W,hp,D,W⟩
    (λj b f e3 z=>?_) λb f h=>h) λb f z=>?_)
   .refine ac λ_ kq=>?_;obtain⟨l,B,g,Rs',e1,e2,p,r,i,t⟩:=z;subst e1 e2;refine kq ?_;refine .bind (.get ?_);dsimp only;rw[aZ];by_cases c2:B.length > 1
    .rw[a6 c2]
     have hz:B.toArray[Z B - 2]?=Y B[Z B - 2]:=by
      simp
     rw[hz];generalize B[Z B - 2]=z;obtain⟨za,zb,zc⟩:=z;refine .ite (λ_=>.pure ⟨l,B,g,_,W,W,p,r,i,t⟩) λ_=>?_;refine .bind (vd o as (L' i) (nd i) p r (rT (ws c2)) λl2 U' g2 V X R S e7 k5=>?_);exact .sZ (by simp) (.pure ⟨l2,U',g2,V,W,W,X,R,S.trans i,e7.trans t⟩)
    .rw[c4 c2];exact .pure ⟨l,B,g,_,W,W,p,r,i,t⟩
   .refine ac λ_ kq=>?_;obtain⟨l,B,g,Rs',e1,e2,p,r,i,t⟩:=z;subst e1 e2;refine kq ?_;refine .bind (.modify ?_);rw[List.modify_toArray];exact h l _ g _ p (r.mod (λa b c=>⟨_,W⟩) _) i t
end
section
variable{lt:T->T->a7}{n:T}
structure Qb(lt:T->T->a7)(n:T):Prop where
 tr:∀i j k,i<n->j<n->k<n->lt i j=U->lt j k=U->lt i k=U
 co:∀i j,i<n->j<n->i≠j->lt i j=J->lt j i=U
 as:∀i j,i<n->j<n->lt i j=U->lt j i=J
noncomputable abbrev pg(p:eb T)(k:T):T:=p.getD k 0
structure Pm(p:eb T)(n:T):Prop where
 sz:p.size=n
 lt:∀k,k<n->pg p k<n
 inj:∀i j,i<n->j<n->pg p i=pg p j->i=j
 pm:p.toList.Perm (aJ n)
def Kc{p:eb T}(h:k<p.size):p[k]?=Y (pg p k):=by
 simp_all
def Ww(h:p[k]?=Y x):pg p k=x:=by
 simp_all
def Pm.of{p:eb T}(h:p.toList.Perm (aJ n)):Pm p n:=by
 have sz:p.size=n:=by rw[<-be,h.length_eq,bM]
 refine⟨sz,λk d=>?_,λi j hi c e=>?_,h⟩
 .have:pg p k∈p.toList:=by
   simp_all
  exact aO.mp (h.mem_iff.mp this)
 .have a:=Kc (ab hi (af sz.symm));have b:=Kc (ab c (af sz.symm));rw[<-gX]at a b;rw[e]at a;exact(jH (by simp_all) (h.nodup_iff.mpr fo)).mp (a.trans b.symm)
def Up(lt:T->T->a7)(p:eb T)(m:T):Prop:=∀i j,i<j->j<m->lt (pg p i) (pg p j)=U
noncomputable def TN(lt:T->T->a7)(n i j:T):a7:=if i<n then(if j<n then lt i j else U)else if j<n then J else decide (i<j)
def KR(hi:i<n)(B:j<n):TN lt n i j=lt i j:=by unfold TN;simp_all
def TM(o:Qb lt n):Lt (TN lt n):=by
 refine⟨λi j k a b=>?_,λi j ne a=>?_,λi j a=>?_⟩
 .unfold TN at a b ⊢;by_cases hi:i<n<;>by_cases c:j<n<;>by_cases d:k<n<;>simp only[hi,c,d,e6,ft,cV,ed]at a b ⊢
  .exact o.tr i j k hi c d a b
  .exact dn a b
 .unfold TN at a ⊢;by_cases hi:i<n<;>by_cases c:j<n<;>simp only[hi,c,e6,ft,Bool.true_eq_false,e0,ed]at a ⊢
  .exact o.co i j hi c ne a
  .omega
 .unfold TN at a ⊢;by_cases hi:i<n<;>by_cases c:j<n<;>simp only[hi,c,e6,ft,cV,e0,ed]at a ⊢
  .exact o.as i j hi c a
  .exact λz=>(bD z (bx a))
end
section
def Jv{vs:O ag}(o:Qb lt vs.length)(u:∀i j,i<Z vs->j<Z vs->∀C:a7->ao->Prop,C (lt i j) s->aA (aB P w) A (keyLt' κ (vs.getD i .none) (vs.getD j .none)) C (λ_ _=>False) s) :
  aA (aB P w) A ((sortRuns').run (j9 κ (vs.toArray.zip vs.toArray) #[] 7 L)) (λr t=>t=s/\∃p:eb T,Pm p (Z vs)/\Up lt p (Z vs)/\p_ r.2=p.map (MY (vs.toArray.zip vs.toArray))/\n_ r.2=L) E s:=by
 have as:tP P w A s κ (MY (vs.toArray.zip _)) (TN lt _) _:=λi j hi b C f=>by
  rw[KR hi b]at f;have e:=kas_item_eq vs;unfold pairsOf at e;rw[e i,e j];exact u i j hi b C f
 have d:j9 κ (vs.toArray.zip vs.toArray) #[] 7 L=pD κ (MY (vs.toArray.zip vs.toArray)) (aJ vs.length) [] 7:=by
  have e:=kas_range (vs.toArray.zip vs.toArray)
  grind
 rw[d]
 have run:=Ap (E:=E) (g0:=7) (G:=λ_ c=>∃p:eb _,Pm p _/\Up lt p (Z vs)/\p_ c=p.map (MY (vs.toArray.zip _))/\n_ c=L)
  (TM o) as (λx h=>aO.mp h) fo λl m g hp k=>by
   have pm:Pm l.toArray _:=.of hp;refine⟨_,pm,λi j a b=>?_,by rw[List.map_toArray],W⟩;have hl:Z l=Z vs:=by simpa using hp.length_eq
   have n:pg l.toArray i=l[i]:=by simp[pg,show i<(Z l) by omega]
   have q:pg l.toArray j=l[j]:=by simp_all
   rw[n,q,<-KR (lt:=lt) (n▸pm.lt i (dn a b)) (q▸pm.lt j (by omega))];exact (eB.mp k i j (ab (dn a b) (af hl.symm)) (ab b (af hl.symm)) a)
 exact c8 run (λr t z=>⟨z.2,z.1⟩) λ_ _ e=>e
end
noncomputable def qB{b:Type}[eu b](f:b->b->a7):O b->O b->a7
 |[],[]=>J
 |[],_::_=>U
 |_::_,[]=>J
 |x::a,y::c=>if x=y then qB f a c else f x y
structure LO{α:Type}(f:α->α->a7):Prop where
 tr:∀a b c,f a b=U->f b c=U->f a c=U
 co:∀a b,a≠b->f a b=J->f b a=U
 ir:∀a,f a a=J
def LO.as (h:LO f)(x:f a b=U):f b a=J:=by
 cases q:f b a with
 |false=>rfl
 |true=>have:=h.tr _ _ _ x q;rw[h.ir]at this;cases this
def LO.int:LO (λi j:dc=>decide (i<j)):=
 ⟨λa b c x y=>by simp only[ed]at *;exact Int.le_of_lt (jq x y),λa b n x=>by grind,λa=>by simp⟩
section
variable{α:Type}[eu α]{f:α->α->a7}
def lA{x y:α}{xs b:O α}:qB f (x::xs) (y::b)=if x=y then qB f xs b else f x y:=rfl
def LO.lex(h:LO f):LO (qB f):=by
 refine⟨λa=>?_,λa=>?_,λa=>?_⟩
 .induction a with
  |nil=>
    intro b c x y
    cases b with
    |nil=>cases x
    | cons _ _=>cases c with
      |nil=>cases y
      |cons _ _=>rfl
  |cons p a d=>
    intro b c x y
    cases b with
    |nil=>cases x
    |cons q b=>
      cases c with
      |nil=>cases y
      |cons r c=>
        rw[lA]at x y ⊢;by_cases g:p=q
        .subst g
         grind
        .rw[c4 g]at x;by_cases i:q=r
         .simp_all
         .rw[c4 i]at y;have z:=h.tr _ _ _ x y;rwa[c4 λe=>by rw[<-e]at z;rw[h.ir]at z;cases z]
 .induction a with
  |nil=>
    intro b n x
    cases b with
    |nil=>exact absurd rfl n
    |cons _ _=>cases x
  |cons p a d=>
    intro b n x
    cases b with
    |nil=>rfl
    |cons q b=>
      rw[lA]at x ⊢;by_cases e:p=q
      .grind
      .rw[c4 e]at x;rw[c4 λz=>e z.symm];exact h.co _ _ e x
 .induction a with
  |nil=>rfl
  |cons p a d=>rwa[lA,a6 W]
end
abbrev KS:O dc->O dc->a7:=qB λi j=>decide (i<j)
abbrev WX:O (O dc)->O (O dc)->a7:=qB KS
abbrev tH:O (O (O dc))->O (O (O dc))->a7:=qB WX
def O7:LO KS:=LO.int.lex
def nA:LO tH:=LO.int.lex.lex.lex
def O8:KS [i] [j]=decide (i<j):=by
 show(if i=j then J else decide _)=decide _;by_cases e:i=j
 .rw[e];simp
 .rw[c4 e]
theorem zj:∀l f:O T,KS (l.map eJ) (f.map eJ)=decide (l<f)
 |[],[]=>by simp[KS,qB]
 |[],_::_=>by simp[KS,qB]
 |_::_,[]=>by simp[KS,qB]
 |a::l,b::f=>by
   have c:=zj l f;show(if eJ a=eJ b then KS _ (f.map eJ)else decide _)=_;by_cases e:a=b
   .simp_all
   .rw[c4 λz=>e (Iu z)];refine decide_eq_decide.mpr ?_;rw[List.cons_lt_cons_iff]
    simp_all
noncomputable def cK:Key->O dc
 |.inl i=>[i]
 |.inr x=>x.cps.toList.map eJ
noncomputable def iK:Key->dc
 |.inl i=>i
 |.inr _=>0
noncomputable def sK:Key->a7
 |.inl _=>U
 |.inr _=>J
def c2:N2->O dc
 |.inl k=>cK k
 |.inr a=>a.map iK
def s2:N2->T
 |.inl (.inl _)=>0
 |.inl (.inr _)=>1
 |.inr a=>if a.all sK=U then 2 else 3
def sI:N2->a7
 |.inl k=>sK k
 |.inr _=>J
def VD:N2->dc
 |.inl k=>iK k
 |.inr _=>0
def cN:NK->O (O dc)
 |.inl k=>[cK k]
 |.inr a=>if a.all sI=U then [a.map VD]else a.map c2
def sN:NK->O T
 |.inl (.inl _)=>[0]
 |.inl (.inr _)=>[1]
 |.inr a=>if a.all sI=U then [2]else 3::a.map s2
noncomputable def zd:O T->a7
 |3::l=>l.all λn=>decide (n<3)
 |_=>U
theorem Lg:∀{x y:O Key},x.all sK=U->y.all sK=U->x.map iK=y.map iK->x=y
 |[],[],_,_,_=>rfl
 |[],_::_,_,_,h=>by cases h
 |_::_,[],_,_,h=>by cases h
 |.inl i::x,.inl j::y,a,b,h=>by
   simp only[ak,cM,iK]at h;simp only[dC,au]at a b;rw[h.1,Lg a.2 b.2 h.2]
 |.inr _::_,_::_,a,_,_=>by simp[sK]at a
 |_::_,.inr _::_,_,b,_=>by simp[sK]at b
def Mh(hs:sK x=sK y)(h:cK x=cK y):x=y:=by
 cases x with
 |inl i=>
   cases y with
   |inl j=>simp only[cK,cM,oa]at h;rw[h]
   |inr b=>cases hs
 |inr a=>
   cases y with
   |inl j=>cases hs
   |inr b=>
     have:=(Iq (λ_ _ z=>Iu z)).mp h;cases a;simp_all
def Ml(hs:s2 x=s2 y)(h3:s2 x<3)(h:c2 x=c2 y):x=y:=by
 cases x with
 |inl a=>
   cases y with
   |inl b=>rw[Mh (by cases a<;>cases b<;>first|rfl|cases hs) h]
   |inr d=>cases a<;>(simp only[s2]at hs;grind)
 |inr d=>
   cases y with
   |inl b=>cases b<;>(simp only[s2]at hs;grind)
   |inr c=>
     simp only[s2]at hs h3;by_cases c1:d.all sK=U
     .by_cases c2:c.all sK=U
      .rw[Lg c1 c2 h]
      grind
     simp_all
theorem Lh:∀{x y:O N2},x.all sI=U->y.all sI=U->x.map VD=y.map VD->x=y
 |[],[],_,_,_=>rfl
 |[],_::_,_,_,h=>by cases h
 |_::_,[],_,_,h=>by cases h
 |.inl (.inl i)::x,.inl (.inl j)::y,a,b,h=>by
   simp only[ak,cM,VD,iK]at h;simp only[dC,au]at a b;rw[h.1,Lh a.2 b.2 h.2]
 |.inl (.inr _)::_,_::_,a,_,_=>by simp[sI,sK]at a
 |.inr _::_,_::_,a,_,_=>by simp[sI]at a
 |_::_,.inl (.inr _)::_,_,b,_=>by simp[sI,sK]at b
 |_::_,.inr _::_,_,b,_=>by simp[sI]at b
theorem FW:∀{x y:O N2},x.map s2=y.map s2->(∀n∈x.map s2,n<3)->x.map c2=y.map c2->x=y
 |[],[],_,_,_=>rfl
 |[],_::_,h,_,_=>by cases h
 |_::_,[],h,_,_=>by cases h
 |a::x,b::y,h,h3,e=>by
   simp only[ak,cM]at h e;rw[Ml h.1 (h3 _ (by simp)) e.1,FW h.2 (λn c=>h3 n (by exact kc _ c)) e.2]
def Kn(h:zd (3::l)=U):∀n∈l,n<3:=λn a=>by
 simpa using (aI.mp (h) n a)
theorem uQ(hs:sN x=sN y)(h3:zd (sN x)=U):(∃a b,x=.inl a/\y=.inl b/\sK a=sK b)\/(∃a b,x=.inr a/\y=.inr b/\a.all sI=U/\b.all sI=U)\/
  ∃a b,x=.inr a/\y=.inr b/\¬a.all sI=U/\¬b.all sI=U/\a.map s2=b.map s2/\∀n∈a.map s2,n<3:=by
 cases x with
 |inl a=>
   cases y with
   |inl b=>exact .inl ⟨a,b,W,W,by cases a<;>cases b<;>first|rfl|(simp[sN]at hs)⟩
   |inr e=>exfalso;cases a<;>(simp only[sN]at hs;split at hs<;>simp at hs)
 |inr a=>
   cases y with
   |inl b=>exfalso;cases b<;>(simp only[sN]at hs;split at hs<;>simp at hs)
   |inr b=>
     simp only[sN]at hs h3;by_cases d:a.all sI=U
     .by_cases c:b.all sI=U
      .exact .inr (.inl ⟨a,b,W,W,d,c⟩)
      simp_all
     .rw[c4 d]at hs h3;by_cases c:b.all sI=U
      .simp_all
      .rw[c4 c]at hs;exact .inr (.inr ⟨a,b,W,W,d,c,(fX hs).2,Kn h3⟩)
def Mf(hs:sN x=sN y)(h3:zd (sN x)=U)(h:cN x=cN y):x=y:=by
 rcases uQ hs h3 with⟨a,b,rfl,rfl,q⟩|⟨a,b,rfl,rfl,c,d⟩|⟨a,b,rfl,rfl,c,d,e,f⟩
 .rw[Mh q (fX h).1]
 .simp only[cN]at h;rw[a6 c,a6 d]at h;rw[Lh c d (fX h).1]
 .simp only[cN]at h;rw[c4 c,c4 d]at h;rw[FW e f h]
section
variable{A:bZ}{z0:ao}
theorem KP{I:Ik P w}{α:Type}[eu α]{f:α->α->a7}{c:I.κ->α}{R:I.κ->I.κ->Prop}{x y:O I.κ}{p b:aC}{G:Fin->ao->Prop}(c0:A.units+I.d<=cO)(ex:q9 I z0.heap x p)(O':q9 I z0.heap y b)
  (e1:∀q∈x.zip y,R q.1 q.2)(ci:∀a b,R a b->c a=c b->a=b)
  (lt:∀(E:ag->ao->Prop)(a b:I.κ)(u v:ag)(Q:ag->ao->Prop),R a b->I.is z0.heap a u->I.is z0.heap b v->Q (.bool (f (c a) (c b))) z0->aA (aB P w) A (dj .Lt u v) Q E z0)
  (h:G (.done (.ret (.bool (qB f (x.map c) (y.map c))))) z0):aA (aB P w) A (fD.«tuple.__lt__» ⟨[.ref p,.ref b],[]⟩) G E z0:=by
 have s:=O'.typeIs;refine ac λ_ X=>?_;obtain⟨S,xs,na,t,_,z,B⟩:=ex;obtain⟨T',ys,nb,C,_,D,F⟩:=O';refine X ?_;show aA _ _ (isInstance _ (.type _) >>= _) _ _ z0;refine wb9 (dv s qd ?_);refine wb9 (jQ t z ?_);refine wb9 (jQ C D ?_);refine wb9 ?_
 refine fH _
  (λtl r o=>r.1=L/\o=z0/\∃x' j g i,tl=List.zip g i/\qZ I _ x' g/\qZ I _ j i/\(∀q∈x'.zip j,R q.1 q.2)/\
   qB f (x'.map c) (j.map c)=qB f _ _/\decide (Z g<Z i)=decide (xs.size<ys.size))
  _ ?_ ?_ _ _ ⟨W,W,x,y,_,_,W,B,F,e1,W,by simp⟩
 .rintro⟨u,v⟩ tl r o ⟨ge,rfl,x',j,g,i,gz,hx',hy',hr,gdec,glen⟩
  cases hx' with
  |nil=>simp at gz
  | @cons L' U' H k h1 l=>
    cases hy' with
    |nil=>simp at gz
    | @cons M V J' m h2 n=>
      simp only[wq,cM,Ip]at gz;obtain⟨⟨rfl,rfl⟩,rfl⟩:=gz;rw[ak,ak,lA]at gdec;refine wb9 (I.eqb c0 h1 h2 (λK=>?_) λK=>?_)
      .refine wu9 ⟨W,W,H,J',k,m,W,l,n,λq N=>hr q (kc _ N),?_,by simpa using glen⟩
       simp_all
      .rw[c4 λe=>K (ci _ _ (hr _ iT) e)]at gdec;rw[<-gdec]at h;exact wb9 (eQ (wb9 (lt _ L' M _ _ _ (hr _ iT) h1 h2 (wb9 (wu9 (wu9 (wu9 h)))))))
 .rintro⟨r1,r2⟩ o ⟨rfl,rfl,x',j,g,i,gz,hx',hy',hr,gdec,glen⟩;refine wu9 ?_;show G (.done (.ret (.bool (decide _)))) o;rw[<-gdec,]at h;rw[<-glen]
  cases hx' with
  |nil=>
    cases hy' with
    |nil=>exact h
    |cons _ _=>exact h
  |cons _ _=>
    cases hy' with
    |nil=>exact h
    |cons _ _=>simp at gz
def zi{I:Ik P w}{z:Type}[eu z]{f:z->z->a7}{c:I.κ->z}{R:I.κ->I.κ->Prop}{x y:O I.κ}{p b:aC}{Q:ag->ao->Prop}(B:A.units+(I.d+1)<=cO)(ex:q9 I z0.heap x p)(C:q9 I z0.heap y b)
  (o:∀q∈x.zip y,R q.1 q.2)(S:∀a b,R a b->c a=c b->a=b)
  (lt:∀(t:bZ)(E:ag->ao->Prop)(a b:I.κ)(u v:ag)(Q:ag->ao->Prop),t.units=A.units+1->R a b->I.is z0.heap a u->I.is z0.heap b v->Q (.bool (f (c a) (c b))) z0->aA (aB P w) t (dj .Lt u v) Q E z0)
  (h:Q (.bool (qB f (x.map c) (y.map c))) z0):aA (aB P w) A (dj .Lt (.ref p) (.ref b)) Q E z0:=by
 show aA _ _ (richCompare .Lt _ _) ..
 exact B8 ex.typeIs C.typeIs zS
  (bN zS ex.typeIs PySem.F.entry_tuple_lt (KP (by exact rT B) ex C o S (λE a b u v Q=>lt _ E a b u v Q W) ⟨_,W,(λe=>nomatch e),h⟩) (PySem.F.args_tuple_lt_2 _ _)) (bh (bP _ _) B)
def t8(h:(cf P w).is k v=U)(hs:sK k=U):∃t,v=.int (iK k) t:=by
 cases k with
 |inl i=>
   rcases cF (k:=.inl i) h with⟨a,t,e,rfl⟩|⟨x,t,e,_⟩
   .cases e;exact⟨t,W⟩
   .cases e
 |inr x=>cases hs
def KO(hs:sK a=sK b)(ex:(cf P w).is a u=U)(B:(cf P w).is b v=U)(h:Q (.bool (KS (cK a) (cK b))) z0):aA (aB P w) A (dj .Lt u v) Q E z0:=by
 cases a with
 |inl i=>
   cases b with
   |inr _=>cases hs
   |inl j=>
     obtain⟨d,rfl⟩:=t8 ex W;obtain⟨f,rfl⟩:=t8 B W;refine nK ?_;rwa[show cK _=[i]from rfl,show cK _=[j]from rfl,O8]at h
 |inr a=>
   cases b with
   |inl _=>cases hs
   |inr c=>
     rcases cF (k:=.inr a) ex with⟨g,t,e,_⟩|⟨o,d,m,rfl⟩
     .cases e
     .rcases cF (k:=.inr c) B with⟨g,t,e,_⟩|⟨l,f,n,rfl⟩
      .cases e
      .cases m;cases n;refine PyProof.Rows.lt_str ?_;rwa[show cK _=a.cps.toList.map eJ from rfl,show cK _=c.cps.toList.map eJ from rfl,(zj _ _)]at h
def Fe(ha:sK a=U)(hb:sK b=U)(ex:(cf P w).is a u=U)(B:(cf P w).is b v=U)(h:Q (.bool (decide (iK a<iK b))) z0):aA (aB P w) A (dj .Lt u v) Q E z0:=by
 obtain⟨c,rfl⟩:=t8 ex ha;obtain⟨d,rfl⟩:=t8 B hb;exact nK h
def F7{b:Type}{p:b->a7}{x y:O b}(B:x.all p=U)(c:y.all p=U):∀q∈x.zip y,p q.1=U/\p q.2=U:=λq a=>
 ⟨aI.mp B _ (jd a).1,aI.mp c _ (jd a).2⟩
theorem KQ{x y:N2}{u v:ag}{Q:ag->ao->Prop}(o:A.units+1<=cO)(ex:(i2 P w).is z0.heap x u)(B:(i2 P w).is z0.heap y v)(hs:s2 x=s2 y)(h3:s2 x<3)(h:Q (.bool (KS (c2 x) (c2 y))) z0) :
  aA (aB P w) A (dj .Lt u v) Q E z0:=by
 cases x with
 |inl a=>
   cases y with
   |inl b=>exact KO (by cases a<;>cases b<;>first|rfl|cases hs) ex B h
   |inr m=>cases a<;>(simp only[s2]at hs;split at hs<;>cases hs)
 |inr m=>
   cases y with
   |inl b=>cases b<;>(simp only[s2]at hs;split at hs<;>cases hs)
   |inr d=>
     obtain⟨p,rfl,q⟩:=ex;obtain⟨b,rfl,f⟩:=B;simp only[s2]at hs h3;by_cases c1:m.all sK=U
     .by_cases c2:d.all sK=U
      .exact zi (R:=λa b=>sK a=U/\sK b=U) o q f (F7 c1 c2) (λa b c e=>by
         match a,b,c,e with
         |.inl i,.inl j,_,e=>exact dy _ e) (λk l a b u v Q _ c n r g=>Fe c.1 c.2 n r g) h
      simp_all
     simp_all
def zk:WX [a] [b]=KS a b:=by
 rw[WX,lA];by_cases e:a=b
 .rw[a6 e,e,O7.ir];rfl
 .rw[c4 e]
theorem Fd{e o:Type}{f:e->o}:∀{x y:O e},x.map f=y.map f->∀q∈x.zip y,f q.1=f q.2
 |[],_,_,_,h=>by simp at h
 |_::_,[],_,_,h=>by simp at h
 |a::x,b::y,h,q,c=>by
   obtain⟨h1,h2⟩:=fX h
   rcases aq.mp c with rfl|c
   .exact h1
   .exact Fd h2 q c
def O6(C:A.units+2<=cO)(ex:Y9 P w z0.heap x u)(B:Y9 P w z0.heap y v)(hs:sN x=sN y)(h3:zd (sN x)=U)(h:Q (.bool (WX (cN x) (cN y))) z0) :
  aA (aB P w) A (dj .Lt u v) Q E z0:=by
 rcases uQ hs h3 with⟨a,b,rfl,rfl,q⟩|⟨a,b,rfl,rfl,f,g⟩|⟨a,b,rfl,rfl,f,g,l,m⟩
 .simp only[cN]at h;rw[zk]at h;exact KO q ex B h
 .simp only[cN]at h;rw[a6 f,a6 g,zk]at h;obtain⟨p,rfl,r⟩:=ex;obtain⟨b,rfl,k⟩:=B;refine zi (R:=λa b=>sI a=U/\sI b=U) C r k (F7 f g) (λa b c e=>?_) (λn o a b u v Q _ c t z d=>?_) h
  .rcases a with(i|_)|_<;>rcases b with(j|_)|_<;>first|exact dy _ (dy _ e)|simp[sI,sK]at c
  .rcases a with a|_<;>rcases b with b|_<;>first|cases c.1;done|cases c.2;done|exact Fe c.1 c.2 t z d
 .simp only[cN]at h;rw[c4 f,c4 g]at h;obtain⟨p,rfl,r⟩:=ex;obtain⟨b,rfl,k⟩:=B;refine zi (R:=λa b=>s2 a=s2 b/\s2 a<3) C r k (λq d=>⟨Fd l q d,m _ (bC (jd d).1)⟩) (λa b c e=>Ml c.1 c.2 e) (λn o a b u v Q s c t z d=>?_) h;exact KQ (by rw[s];omega) t z c.1 c.2 d
end
end L2
namespace L2
open PySem PySem.Spec PyProof.Rows
def BB:n7 table "set.__iter__"=Y fD.«frozenset.__iter__» :=PySem.entryFor_alias (id':="frozenset.__iter__") (by kernel_rfl) W (by decide +kernel) (by kernel_rfl)
def pH:n7 table "set_iterator.__next__"=Y fD.«set_iterator.__next__» :=entryFor_of_tree (by kernel_rfl)
def eY:Slot "set_iterator" "__next__" "set_iterator.__next__":=.of (owner:="set_iterator") (n:="__next__") (by kernel_rfl) (by decide +kernel) (by decide +kernel) (by decide +kernel) (.inl (by decide +kernel)) (by kernel_rfl)
def WD:Manifest.owners.lookup (String.ofList ['r','o','t','a','r','e','t','i','_','t','e','s'].reverse)=Y Manifest.sig_set_iterator:=by kernel_rfl
def pK(a:ag):argsOk "set_iterator.__next__" ⟨[a],[]⟩:=by
 kernel_rfl
theorem p4{b:Type}:∀{xs:O b}{i:T}(h:i<Z xs),(xs[i]::xs.eraseIdx i).Perm xs
 |x::r,0,_=>by simp
 |x::r,i+1,h=>by
   have:=p4 (by simpa using h);exact(List.Perm.swap _ _ _).trans (this.cons x)
theorem EM{b:Type}(nx:T->T):∀(fuel k:T)(left:O b)(out:eb b),Z left<=fuel->(v5 nx fuel k left out).toList.Perm (out.toList++left)
 |0,k,left,out,h=>by
   obtain rfl:left=[]:=jm.mp (bu h (aY _));simp only[v5,aS];exact .refl _
 |fuel+1,k,left,out,h=>by
   simp only[v5]
   cases q:left[nx k % Z left]? with
   |none=>
     have:left=[]:=by
      cases left with
      |nil=>rfl
      |cons x r=>
        rw[ae (iD _ (by simp))]at q;cases q
     subst this;simp
   |some x=>
     obtain⟨a,e⟩:=aT.mp q;refine (EM nx _ _ (left.eraseIdx _) _ (by grind)).trans ?_;rw[Iv,aK];refine jy _ ?_;rw[<-e];exact p4 a
def rJ{b:Type}(nx:T->T)(xs:eb b):(hB nx xs).toList.Perm xs.toList:=by
 simpa [hB]using (EM nx _ 0 _ #[] (by simp))
section
def HP(B:n≠0)(k:∀i d,i<n->Q i { s with drawn:=d }):aA (aB prog w) A (choose src n) Q E s:=λa p _=>by
 exact⟨B,k _ _ (iD _ (jl B))⟩
def FL{c:Type}:∀(n:T)(xs:O c)(s:ao){Q:O c->ao->Prop},Z xs<=n->(∀b d,b.Perm xs->Q b { s with drawn:=d })->aA (aB prog w) A (drawOrder n xs) Q E s
 |0,xs,s,Q,h,k=>by
   obtain rfl:xs=[]:=jm.mp (bu h (aY _));exact wu9 (k [] _ (.refl _))
 |n+1,[],s,Q,h,k=>wu9 (k [] _ (.refl _))
 |n+1,x::r,s,Q,h,k=>by
   refine wb9 (HP (by simp) λi d a=>?_);rw[ae a];exact wb9 (FL n _ _ (by grind) λb d pm=>wu9 (k _ d ((pm.cons _).trans (p4 a))))
end
inductive Mode where
 |tx|dr (T':aC) (ps:O T)|pl
noncomputable def slotAt(t:bG):T->T
 |0=>0
 |i+1=>t.place.getD i 0+1
def Mode.first(t:bG)(i:T):Mode->ag
 |.tx=>en 0
 |.dr T' _=>.ref T'
 |.pl=>en (slotAt t i)
def Mode.Ok(w:cT)(es:eb (dc×ag))(t:bG)(h:cg)(I:aC):Mode->Prop
 |.tx=>w.params.followText "set-order"=U
 |.dr T' ps=>T'≠I/\ps.Perm (aJ es.size)/\h.get? T'=Y { cls:=.type "tuple",data:=.seq (ps.map λ(p:T)=>en p).toArray }
 |.pl=>w.params.followText "set-order"=J/\(!t.plain && decide (es.size > 1))=J
noncomputable def Mode.ord(w:cT)(S:aC)(es:eb (dc×ag))(ep:T):Mode->O ag
 |.tx=>(hB (w.params.setOrder S ep) es).toList.map (·.2)
 |.dr _ ps=>ps.map λp=>(es[p]?.map (·.2)).getD .none
 |.pl=>es.toList.map (·.2)
theorem Mode.u6:∀{m:Mode},m.Ok w es t h I->(m.ord w S es ep).Perm (es.toList.map (·.2))
 |.tx,_=>(rJ _ _).map _
 |.dr T' ps,h=>by
   refine(h.2.1.map _).trans ?_;rw[show(aJ es.size).map (λp=>(es[p]?.map (·.2)).getD fZ)=es.toList.map (·.2)from ?_];apply fu (by simp);intro n h1 h2;simp at h1 h2;simp[h1]
 |.pl,_=>.refl _
structure B1(w:cT)(h:cg)(I S:aC)(es:eb (dc×ag))(ep:T)(t:bG)(m:Mode)(i:T):Prop where
 it:h.get? I=Y { cls:=.type "set_iterator",data:=.fields #[m.first t i,en i,.ref S,en es.size,en ep] }
 st:jZ (mR w) h S es ep t
 md:m.Ok w es t h I
 ne:S≠I
section
variable{w:cT}{s:ao}{m:Mode}
def Mode.Ok.keep{c:cg}(y:m.Ok w es t h I)(k:∀b o,b≠I->h.get? b=Y o->c.get? b=Y o):m.Ok w es t c I:=by
 cases m with
 |dr T' ps=>exact⟨y.1,y.2.1,k _ _ y.1 y.2.2⟩
 |_=>exact y
def o7(k:Q (w.params.followText "set-order") s):aA (aB prog w) A setsByText Q E s:=by
 exact wb9 (yy (wu9 k))
def Nf(y:jZ (mR w) s.heap S es ep t)(h:w.params.followText "set-order"=U)(k:Q (hB (w.params.setOrder S ep) es) s):aA (aB prog w) A (setWalk S) Q E s:=by
 refine wb9 (df y.obj W y.fits ?_);refine wb9 (o7 ?_);rw[h];exact wb9 (yy (wu9 k))
def uY(y:jZ (mR w) s.heap S es ep t):t.place.size=es.size:=by
 have:=y.fits;simp only[lR,au,gq]at this;exact this.1
theorem E4(y:jZ (mR w) s.heap S es ep t)(h:w.params.followText "set-order"=J)(hd:(!t.plain && decide (es.size > 1))=J)(hi:i<=es.size)
  (k:Q (match es[i]? with|some x=>Y (x.2,slotAt t (i+1))|none=>L) s):aA (aB prog w) A (nh S (slotAt t i) g e) Q E s:=by
 refine wb9 (df y.obj W y.fits ?_);refine wb9 (o7 ?_);rw[h];show aA (aB _ w) A (if(!t.plain && decide _)=U then _ else _) Q E s;rw[hd];show aA (aB _ w) A ((if(!t.led && !es.isEmpty)=U then _ else pure ()) >>= _) Q E s;rw[y.ok.l,mR,h];refine wb9 (wu9 (wu9 ?_))
 have hb:aH t.place (slotAt t i)=i:=by
  cases i with
  |zero=>exact Mm y.ok.r
  |succ j=>
    have c:j<t.place.size:=by rwa[uY y]
    show aH _ (t.place.getD j 0+1)=j+1;rw[show t.place.getD j 0=t.place[j] by simp_all];exact Mn y.ok.r c
 rw[hb]
 cases q:es[i]? with
 |none=>rwa[q]at k
 |some x=>
   rw[q]at k
   have b:i<es.size:=by
    rcases bY.mp q with⟨a,_⟩;exact a
   have hp:t.place[i]?=Y (t.place[i]'(by rwa[uY y])):=a8 _;rw[hp];simp only[slotAt]at k
   simp_all
def E3{sl:T}(y:jZ (mR w) s.heap S es ep t)(h:w.params.followText "set-order"=U)(k:Q (((hB (w.params.setOrder S ep) es)[i]?).map λe=>(e.2,sl)) s):aA (aB prog w) A (nh S sl i ep) Q E s:=by
 refine wb9 (df y.obj W y.fits ?_);refine wb9 (o7 ?_);rw[h];simp only[fb,cV,ft];exact wb9 (Nf y h (wu9 k))
def OX(y:jZ (mR w) s.heap S es ep t)(B:es[p]?=Y x)(k:Q x.2 s):aA (aB prog w) A (setNextDrawn S p ep) Q E s:=by
 refine wb9 (df y.obj W y.fits ?_);simp only[fb,cV,ft];rw[B];exact wu9 k
def K7{c:ag}(y:B1 w s.heap I S es ep t m i)(k:∀u,B1 w u I S es ep t m (i+1)->cJ I s.heap u->Q (.done (.ret r)) { s with heap:=u })(hf:a=m.first t (i+1))(hb:b=en ((i:dc)+1)) :
  aA (aB prog w) A (do hD (.ref I) 0 a;hD (.ref I) 1 b;ret r) Q E s:=by
 subst hf;subst hb;refine wb9 (aW y.it (by simp) λh1 d s1=>wb9 (aW d (by simp) λh2 f s2=>wu9 ?_));have kp:∀b o,b≠I->s.heap.get? b=Y o->h2.get? b=Y o:=λb o n e=>s2.extBut _ _ n (s1.extBut _ _ n e);refine k h2 ⟨?_,y.st.keep λo e=>kp _ _ y.ne e,y.md.keep kp,y.ne⟩ (s1.trans s2);rw[f];simp
end
section
variable{A:bZ}{s:ao}
theorem Et(y:B1 w s.heap I S es ep t m i)
  (k:aA (aB prog w) A (if let .int slot _:=m.first t i then do
    match <-nh S slot.toNat (i:dc).toNat (ep:dc).toNat with
    |some (x,next)=>do hD (.ref I) 0 (en next);hD (.ref I) 1 (en ((i:dc)+1));ret x
    |none=>do hD (.ref I) 2 .none;raiseNew (<-newExc (.type "StopIteration") [])
   else do
    let Y places <-seqItems? (m.first t i)|unsupported "internal:set_iterator"
    match places[(i:dc).toNat]? with
    |some (.int place _)=>do let x <-setNextDrawn S place.toNat (ep:dc).toNat;hD (.ref I) 1 (en ((i:dc)+1));ret x
    |some _=>unsupported "internal:set_iterator"
    |none=>do hD (.ref I) 0 (en 0);hD (.ref I) 2 .none;raiseNew (<-newExc (.type "StopIteration") [])) Q E s) :
  aA (aB prog w) A (fD.«set_iterator.__next__» ⟨[.ref I],[]⟩) Q E s:=by
 show aA (aB _ w) A (fieldsOf _ >>= _) Q E s;refine wb9 (wpAny_fieldsOf y.it W ?_);refine wb9 (Qj y.st.obj W y.st.fits ?_);simp only[fb,cV,ft];exact k
def yO{f:Type}{Q:f->ao->Prop}(B:A.handled=L)(k:∀c e,(∀b o,s.heap.get? b=Y o->c.get? b=Y o)->(∃o,c.get? e=Y o/\o.cls=.type "StopIteration")->E (.ref e) { s with heap:=c }) :
  aA (aB prog w) A (do raiseNew (<-newExc (.type "StopIteration") []):Af f) Q E s:=by
 refine wb9 ?_;refine wb9 (eA (wb9 (zR (by first|rfl|(rfl)) (eA ?_ (by size_fits)))) (by size_fits));refine wb9 (wpAny_handled ?_);rw[B];exact wb9 (wu9 (wpAny_throw (k _ _ (λb o e=>hp9 _ (hp9 _ e)) ⟨_,ax _ W,W⟩)))
def NJ{Q:ag->ao->Prop}(y:B1 w s.heap I S es ep t m i)(hi:i<es.size)(k:∀z v,(m.ord w S es ep)[i]?=Y v->B1 w z I S es ep t m (i+1)->cJ I s.heap z->Q v { s with heap:=z }) :
  aA (aB prog w) A (fD.«set_iterator.__next__» ⟨[.ref I],[]⟩) (λf B=>∃v,f=.done (.ret v)/\Q v B) E s:=by
 refine Et y ?_
 cases m with
 |tx=>
   refine (?_ : aA (aB _ w) A (nh S 0 i ep >>= _) _ E s);refine wb9 (E3 y.st y.md ?_)
   have j:(hB (w.params.setOrder S ep) es).size=es.size:=by
    simpa using ((rJ _ es).length_eq)
   rw[a8 (by rwa[j])];refine K7 (c:=.none) y (λz d g=>⟨_,W,k z _ ?_ d g⟩) W rfl;simp only[Mode.ord,aV,gX]
   simp_all
 |dr T' ps=>
   obtain⟨u,h,l⟩:=id y.md;refine wb9 (bF l W ?_);have hl:Z ps=es.size:=by rw[h.length_eq,bM]
   have a:i<Z ps:=ab hi (af hl.symm);have hp :=aO.mp (h.mem_iff.mp (bA a));have q:((ps.map λ(p:T)=>en p).toArray)[(i:dc).toNat]?=Y (en (ps[i])):=by simp[a]
   dsimp only;rw[q];refine wb9 (OX y.st (a8 hp) ?_);refine wb9 (aW y.it (by simp) λh1 r s1=>wu9 ⟨_,W,k h1 _ ?_ ⟨?_,y.st.keep λo e=>s1.extBut _ _ y.ne e,y.md.keep λb o n e=>s1.extBut _ _ n e,y.ne⟩ s1⟩)
   .simp only[Mode.ord,aV]
    simp_all
   .rw[r];simp[Mode.first,en]
 |pl=>
   refine wb9 (E4 y.st y.md.1 y.md.2 (bx hi) ?_);rw[a8 hi];refine K7 (c:=.none) y (λz d g=>⟨_,W,k z _ ?_ d g⟩) W rfl;simp[Mode.ord,hi]
def RQ(B:A.handled=L)(y:B1 w s.heap I S es ep t m es.size)(k:∀f e,(∀b o,b≠I->s.heap.get? b=Y o->f.get? b=Y o)->(∃o,f.get? e=Y o/\o.cls=.type "StopIteration")->E (.ref e) { s with heap:=f }) :
  aA (aB prog w) A (fD.«set_iterator.__next__» ⟨[.ref I],[]⟩) Q E s:=by
 refine Et y ?_
 cases m with
 |tx=>
   refine (?_ : aA (aB _ w) A (nh S 0 es.size ep >>= _) _ E s);refine wb9 (E3 y.st y.md ?_)
   have c:(hB (w.params.setOrder S ep) es).size=es.size:=by
    simpa using ((rJ _ es).length_eq)
   rw[gh (af c)];exact wb9 (aW y.it (by simp) λh1 a s1=>yO B λf e kp d=>k f e (λb o n q=>kp _ _ (s1.extBut _ _ n q)) d)
 |dr T' ps=>
   refine wb9 (bF (id y.md).2.2 W ?_);have hl:Z ps=es.size:=by rw[(id y.md).2.1.length_eq,bM]
   dsimp only;rw[gh (by simp[hl])];exact wb9 (aW y.it (by simp) λh1 a s1=>wb9 (aW a (by simp) λh2 h s2=>yO B λf e kp d=>k f e (λb o n q=>kp _ _ (s2.extBut _ _ n (s1.extBut _ _ n q))) d))
 |pl=>
   refine wb9 (E4 y.st y.md.1 y.md.2 (aw _) ?_);rw[gh (aw _)];exact wb9 (aW y.it (by simp) λh1 a s1=>yO B λf e kp d=>k f e (λb o n q=>kp _ _ (s1.extBut _ _ n q)) d)
def B1.ty(y:B1 w s.heap I S es ep t m i):s.TypeIs (.ref I) "set_iterator":=⟨_,y.it,W⟩
def NG(y:B1 w s.heap I S es ep t m i)(hi:i<es.size)(k:∀e v,(m.ord w S es ep)[i]?=Y v->B1 w e I S es ep t m (i+1)->cJ I s.heap e->Q (Y v) { s with heap:=e }) :
  aA (aB prog w) A (hL (.ref I)) Q E s:=by
 exact wb9 (jA (cC y.ty eY (bN eY y.ty pH (NJ y hi λe v a b c=>wu9 (k e v a b c)) (pK _))))
def RN(B:A.handled=L)(y:B1 w s.heap I S es ep t m es.size)(k:∀c,(∀b o,b≠I->s.heap.get? b=Y o->c.get? b=Y o)->Q L { s with heap:=c }) :
  aA (aB prog w) A (hL (.ref I)) Q E s:=by
 refine wb9 (jA (cC y.ty eY (bN eY y.ty pH (RQ B y λc e kp a=>?_) (pK _))));obtain⟨o,ho,d⟩:=a;exact wb9 (dv ⟨o,ho,d⟩ rh (wu9 (k _ kp)))
end
def wG:n7 table "set_iterator.__iter__"=Y fD.«dict_keyiterator.__iter__» :=PySem.entryFor_alias (id':="dict_keyiterator.__iter__") (by kernel_rfl) W (by decide +kernel) (by kernel_rfl)
def pE:Slot "set_iterator" "__iter__" "set_iterator.__iter__":=.of (owner:="set_iterator") (n:="__iter__") (by kernel_rfl) (by decide +kernel) (by decide +kernel) (by decide +kernel) (.inl (by decide +kernel)) (by kernel_rfl)
def wM(a:ag):argsOk "set_iterator.__iter__" ⟨[a],[]⟩:=by
 kernel_rfl
noncomputable def Mode.fp:Mode->O aC
 |.dr T' _=>[T']
 |_=>[]
section
variable{A:bZ}{s:ao}{es:eb (dc×ag)}{m:Mode}
def B1.frame{c:cg}(y:B1 w h I S es ep t m i)(k:∀b∈I::S::m.fp,∀o,h.get? b=Y o->c.get? b=Y o):B1 w c I S es ep t m i:=by
 refine⟨k I (.head _) _ y.it,y.st.keep λo e=>k S (.tail _ (.head _)) o e,?_,y.ne⟩
 cases m with
 |dr T' ps=>exact⟨y.md.1,y.md.2.1,k T' (.tail _ (.tail _ (.head _))) _ y.md.2.2⟩
 |tx=>exact y.md
 |pl=>exact y.md
def Av(hh:A.handled=L):Walks prog w A I (I::S::m.fp) [I] es.size (λi v=>(m.ord w S es ep)[i]?=Y v) (λi h=>B1 w h I S es ep t m i) where
 sub:=λb hb=>by rw[aG.mp hb];exact .head _
 frame:=λi h d st k=>st.frame k
 item:=λi s Q E hi st k=>NG st hi λd v a b c=>k v d s.toks a b λb o hb e=>c.extBut _ _ (λz=>hb (z▸aG.mpr W)) e
 done:=λs Q E st k=>RN hh st λd kp=>k d s.toks λb o hb e=>kp b o (λz=>hb (z▸aG.mpr W)) e
 self:=λi s Q E st k=>by
  refine PySem.wpAny_pyIter_slot st.ty pE (bN pE st.ty wG ?_ (wM _));show aA _ _ (ret (.ref I)) _ _ s;exact wu9 ⟨_,W,"set_iterator",_,st.ty,eY.lookup,k⟩
theorem C8(y:jZ (mR w) s.heap S es ep t)(B:es.size<=aD)
  (k:∀(h1:cg)d I m,s.heap.objs.size<=I->(∀b∈m.fp,s.heap.objs.size<=b)->(∀b o,s.heap.get? b=Y o->h1.get? b=Y o)->B1 w h1 I S es ep t m 0->Q (.ref I) { s with heap:=h1,drawn:=d }) :
  aA (aB prog w) A (IJ (.ref S)) Q E s:=by
 refine PySem.wpAny_pyIter_slot ⟨_,y.obj,W⟩ zT (bN zT ⟨_,y.obj,W⟩ BB ?_ (PySem.F.args_set_iter_1 _));refine (?_ : aA (aB _ w) _ (M0 S >>= _) _ _ s);refine wb9 (wb9 (Qj y.obj W y.fits (wu9 ?_)))
 have dr:∀{c:bZ}{g:ag->ao->Prop}{i:a7->ao->Prop},i (!w.params.followText "set-order" && (!t.plain && decide (es.size > 1))) s->aA (aB prog w) c (setDrawn S) i g s:=by
  intro c g i h;exact wb9 (df y.obj W y.fits (wb9 (o7 (wu9 h))))
 have one:∀{c:bZ} {g:ag->ao->Prop} {i:Fin->ao->Prop} {m:Mode} (s1:ao) (f:ag),f=m.first t 0->m.Ok w es t s1.heap s1.heap.objs.size->s.heap.objs.size<=s1.heap.objs.size->(∀b o,s.heap.get? b=Y o->s1.heap.get? b=Y o)->
   (∀h1,h1=s1.heap.push { cls:=.type "set_iterator",data:=.fields #[m.first t 0,en (0),.ref S,en es.size,en ep] }->B1 w h1 s1.heap.objs.size S es ep t m 0->i (.done (.ret (.ref s1.heap.objs.size))) { s1 with heap:=h1 })->
   aA (aB prog w) c (do ret (<-newFields "set_iterator" [f,en 0,.ref S,en es.size,en (<-setEpoch S)])) i g s1:=by
  intro c g i m s1 f hf ok le ex h;have a:=y.keep λo e=>ex _ _ e;refine wb9 (wpAny_setEpoch_of a.obj W a.fits ?_);refine wb9 ?_;refine eA ?_ (by size_fits);subst hf;exact wu9 (h _ W ⟨ax _ W,a.keep λo e=>hp9 _ e,ok.keep λb o n e=>hp9 _ e,ba (bq (hl9 y.obj) le)⟩)
 refine wb9 (dr ?_)
 cases hb:w.params.followText _ with
 |true=>
   refine wb9 (wu9 ?_);refine one (m:=.tx) s _ W hb (aw _) (λb o e=>e) λh1 j a=>⟨_,W,_,_,a.ty ,eY.lookup,?_⟩
   subst j;exact k _ _ _ _ (aw _) (λb h=>by cases h) (λb o e=>hp9 _ e) a
 |false=>
   cases hd:(!t.plain && decide (es.size > 1))with
   |false=>
     refine wb9 (wu9 ?_);refine one (m:=.pl) s _ W ⟨hb,hd⟩ (aw _) (λb o e=>e) λh1 j a=>⟨_,W,_,_,a.ty ,eY.lookup,?_⟩
     subst j;exact k _ _ _ _ (aw _) (λb h=>by cases h) (λb o e=>hp9 _ e) a
   |true=>
     refine wb9 (FL _ (aJ _) s (by simp) λps d pm=>?_);have hl:Z ps=es.size:=by rw[pm.length_eq,bM]
     refine wb9 (nc ?_ (by simp_all));refine one (m:=.dr _ ps) _ _ W ⟨?_,pm,(ax _ W)⟩ ?_ (λb o e=>hp9 _ e) ?_
     .simp
     .simp
     .intro h1 j a;refine⟨_,W,_,_,a.ty ,eY.lookup,?_⟩;subst j;refine k _ d _ _ ?_ ?_ (λb o e=>hp9 _ (hp9 _ e)) a
      .simp
      .intro b hb;rw[aG.mp hb];exact aw _
end
section
variable{A:bZ}{s:ao}
def RM:splitId "set.__len__"=Y ("set","__len__"):=by decide +kernel
def RL:splitId "str.__len__"=Y ("str","__len__"):=by decide +kernel
def Rw:gg (.type "str") (.type "str")=pure U:=by kernel_rfl
def Lj(ty:s.TypeIs v "set")(k:Q J s):aA M A (qg v) Q E s:=by
 refine wb9 (jD ty PySem.F.slot_set_len.lookup ?_);refine wb9 (dv ty sub_set_self ?_);exact wb9 (g9 ty (wu9 k))
def Li(ty:s.TypeIs v "str")(k:Q J s):aA M A (qg v) Q E s:=by
 refine wb9 (jD ty PySem.F.slot_str_len.lookup ?_);refine wb9 (dv ty Rw ?_);exact wb9 (g9 ty (wu9 k))
def DA{ord:O ag}(h:ItemsOf (λi v=>ord[i]?=Y v) acc ord.length):acc.toList=ord:=by
 obtain⟨h1,h2⟩:=h;apply sL;intro i;by_cases hi:i<acc.size
 .have:=h2 i _ (a8 hi)
  simp_all
 simp_all
def oK(hh:A.handled=L)(y:jZ (mR w) s.heap S es ep t)(R:es.size<=aD)
  (k:∀h1 d P vs,(∀b o,s.heap.get? b=Y o->h1.get? b=Y o)->s.heap.objs.size<=h1.objs.size->vs.Perm (es.toList.map (·.2))->Q vs { s with heap:=h1,drawn:=d,toks:=P }):aA (aB prog w) A (pj (.ref S)) Q E s:=by
 unfold pj;refine wb9 (rd (fi tS ?_));rw[oO PySem.F.plain_proto_collect];show aA _ A.in1 (newList [] >>= λl=>again (.builtin "list.__iadd__" ⟨[l,.ref S],[]⟩)) _ _ s;refine wb9 (eA ?_);refine wu9 (uA (lL mH _) (fi wU ?_));rw[oO mH];have lt:=hl9 y.obj;generalize g:s.heap.objs.size=L';generalize i:({ cls:=.type "list",data:=.seq ([]:O ag).toArray }:k8)=lo;have C:jZ (mR w) (s.heap.push lo) S es ep t:=y.keep λo e=>hp9 _ e;have gL:(s.heap.push lo).get? L'=Y { cls:=.type "list",data:=.seq (#[]:eb ag) }:=by rw[<-g];exact(ax _ (by rw[<-i];rfl)).trans (by rw[<-i])
 have j:(s.heap.push lo).objs.size=L'+1:=by rw[cm,g]
 have ne:L'≠S:=by rw[<-g];exact eN lt
 have ty:pP { s with heap:=s.heap.push lo } (.ref S) "set":=⟨_,C.obj,W⟩
 show aA _ A.in1 (j8 (.ref L') (.ref S) (.ref L')) _ _ { s with heap:=s.heap.push lo };unfold j8;refine wb9 (g9 ty ?_);have b1:sD (.ref L') (.ref S)=J:=by simp[sD,ne]
 have b2:(fY "set" == fY "list")=J:=by decide
 have b3:(fY "set" == fY "tuple")=J:=by decide
 simp only[b1,b2,b3,Bool.or_false,cV,ft];refine wb9 (C8 C R λh1 d I m H N ex it=>?_);have u:pP { s with heap:=h1,drawn:=d } (.ref S) "set":=⟨_,it.st.obj,W⟩
 refine wb9 (cx (Lj u ?_));rw[a6 (by decide +kernel)];refine wb9 (eQ ?_);have D:=ex _ _ gL;refine wb9 ?_;show aA _ A.in1 (updateSeq L' (·.push .none) >>= λ_=>updateSeq L' (·.pop)) _ _ _;refine wb9 (wpAny_updateSeq D W ?_);have G:=g7 (fB (·.push fZ)) D W;refine wpAny_updateSeq G W ?_;have V:=g7 (fB (·.pop)) G W
 have p:∀b o,b≠L'->h1.get? b=Y o->((h1.update L' (fB (·.push fZ))).update L' (fB (·.pop))).get? b=Y o:=
  λb o n e=>(jE _ _ (eW n)).trans ((jE _ _ (eW n)).trans e)
 have h:L'<I:=by have:(s.heap.push lo).objs.size<=I:=H;rw[j]at this;exact this
 have nf:L'∉I::S::m.fp:=by
  intro z
  rcases aq.mp z with z|z
  .rw[z]at h;exact absurd h (bJ _)
  .rcases aq.mp z with z|z
   .exact ne z
   .have:=N _ z;have a:(s.heap.push lo).objs.size<=L':=this;rw[j]at a;exact absurd a (Nat.not_succ_le_self _)
 have K:=(Av (prog:=prog) (w:=w) (A:=A.in1) (I:=I) (S:=S) (es:=es) (ep:=ep) (t:=t) (m:=m) (by simp[hh])).toS;refine wu9 (uA (lL vV _) (MX K R _ nf _ es.size 0 _ _ _ W (aY _) (it.frame λb hb o e=>p b o (λz=>nf (z▸hb)) e) V (Qm _) λM v c r gS f=>?_));show aA _ A (load L' >>= _) _ _ M;refine wb9 (nS gS ?_);have hp:=Mode.u6 (S:=S) (ep:=ep) it.md;have hl:Z (m.ord w S es ep)=es.size:=by rw[hp.length_eq,ah,be]
 rw[<-hl]at f;have e:=DA f;show aA _ A (pure v.toList) _ _ M;rw[e];obtain⟨X,g',d',x,B⟩:=M;obtain rfl:g'=s.gens:=r.gens;obtain rfl:d'=d:=r.drawn;obtain rfl:B=s.os:=r.os;refine wu9 (k X _ x _ (λb o q=>r.heap b o (λz=>?_) (p b o (λz=>?_) (ex _ _ (hp9 _ q)))) (by rw[g];exact bx (hl9 gS)) hp)
 .have lb:=hl9 q
  rcases aq.mp z with z|z
  .rw[z,<-g]at lb;exact absurd lb (bJ _)
  .rw[aG.mp z,g]at lb;exact absurd (dn lb h) (bJ _)
 .have lb:=hl9 q;rw[z,<-g]at lb;exact absurd lb (bJ _)
def BJ{x:bw}(hh:A.handled=L)(u:x.cps.size<=aD)
  (k:∀h1 t B,(∀b o,s.heap.get? b=Y o->h1.get? b=Y o)->s.heap.objs.size<=h1.objs.size->ItemsOf (SignAt x) B x.cps.size->Q B.toList { s with heap:=h1,toks:=t }):aA (aB prog w) A (pj (.str x tx)) Q E s:=by
 refine wb9 (rd (fi tS ?_));refine wb9 (eA ?_);refine wu9 (uA (lL mH _) (fi wU ?_));generalize f:s.heap.objs.size=L';generalize a:({ cls:=.type "list",data:=.seq ([]).toArray }:k8)=lo;have gL:(s.heap.push lo).get? L'=Y { cls:=.type "list",data:=.seq (#[]) }:=by rw[<-f];exact(ax _ (by rw[<-a];rfl)).trans (by rw[<-a])
 have g:(s.heap.push lo).objs.size=L'+1:=by rw[cm,f]
 have ty:∀s1:ao,s1.TypeIs (.str x tx) "str":=λs1=>W;refine (?_ : aA _ A.in1 (j8 (.ref L') (.str x tx) (.ref L')) _ _ { s with heap:=s.heap.push lo });refine wb9 (g9 (ty _) ?_);refine wb9 (wpAny_pyIter_str λo St j st=>?_);refine wb9 (cx (Li (ty _) ?_));have nf:L'∉[(s.heap.push lo).objs.size]:=by
  rw[g];simp
 refine wu9 (uA (lL vV _) (MX (j A.in1 (by simp[hh])).toS u _ nf _ x.cps.size 0 _ _ _ W (aY _) st (hp9 _ gL) (Qm _) λl B c e gS d=>?_));refine wb9 (nS gS ?_);obtain⟨m,n,p,h,i⟩:=l;obtain rfl:n=s.gens:=e.gens;obtain rfl:p=s.drawn:=e.drawn;obtain rfl:i=s.os:=e.os;refine wu9 (k m h _ (λb o q=>e.heap b o (λz=>?_) (hp9 _ (hp9 _ q))) (by rw[f];exact bx (hl9 gS)) d);have lb:=hl9 q
 grind
end
section
variable{prog:cA}{w:cT}{A:bZ}{s:ao}
def vU(prog:cA)(w:cT)(A:bZ)(s:ao)(v:ag)(t:O ag->Prop):Prop:=
 ∀(a:bZ)(c:ag->ao->Prop)(f:O ag->ao->Prop),a.handled=A.handled->(∀vs h1 d e,(∀b o,s.heap.get? b=Y o->h1.get? b=Y o)->s.heap.objs.size<=h1.objs.size->t vs->f vs { s with heap:=h1,drawn:=d,toks:=e })->
  aA (aB prog w) a (pj v) f c s
def Ju{is:O dc}(z:Z is<64)(t:vU prog w A s v (λvs=>∃u,lM vs u/\u.Perm is))
  (k:∀y d B l(out:O ag)u e,(∀b o,s.heap.get? b=Y o->y.get? b=Y o)->s.heap.objs.size<=l->y.get? l=Y (fy "list" out.toArray e)->lM out u->u.Perm is->u.Pairwise (·<=·)->Q (.ref l) { s with heap:=y,drawn:=d,toks:=B }) :
  aA (aB prog w) A (call (.builtin "sorted") [v]) Q E s:=by
 refine mf M5 IM IP (IQ _) ?_;unfold fD.«sorted»;refine wb9 (m:=checkCount "sorted" 1 1 _) (wu9 ?_);refine wb9 (t _ _ _ (by rfl) λvs h1 d B ex sz ⟨f,c,i2⟩=>?_);have hl:Z vs<64:=by rw[IT c,i2.length_eq];exact z
 refine wb9 (tQ ?_ (by rw[cY];exact Nat.le_of_lt (Nat.le_trans hl (by decide))));have a:(h1.push (fy "list" vs.toArray 0)).get? h1.objs.size=Y (fy "list" vs.toArray 0):=ax _ W;refine wb9 (cx (bN i1 ⟨_,a,W⟩ hU (list_sort_tree (s:={ s with heap:=h1.push (fy "list" vs.toArray 0),drawn:=d,toks:=B }) a c hl λout u g h i=>⟨_,W,?_⟩) (Ct _)));obtain⟨e,j⟩:=Gr (out:=out) a;refine wu9 ⟨_,W,k _ d B _ out.toList u e (λb o q=>?_) ?_ (by simpa using j) g (h.trans i2) i⟩
 .have lb:=hl9 (ex b o q);exact(Cr (ba lb) (by rw[Cs];exact ie lb)).trans (hp9 _ (ex b o q))
 .exact sz
def Jt{B:O bw}(F:Z B<64)(C:vU prog w A s v (λvs=>∃u,mJ vs u/\u.Perm B))
  (k:∀z d t l(out:O ag)u e,(∀b o,s.heap.get? b=Y o->z.get? b=Y o)->s.heap.objs.size<=l->z.get? l=Y (fy "list" out.toArray e)->mJ out u->u.Perm B->sortedS u=U->Q (.ref l) { s with heap:=z,drawn:=d,toks:=t }) :
  aA (aB prog w) A (call (.builtin "sorted") [v]) Q E s:=by
 refine mf kind_sorted plain_sorted entry_sorted (args_sorted1 _) ?_;refine wb9 (wu9 ?_);refine wb9 (C _ _ _ (by rfl) λvs h1 d t ex sz y=>?_);obtain⟨c,a,i2⟩:=y;have hl:Z vs<64:=by rwa[show Z vs=(Z c) by rw[<-a.strs,ah],i2.length_eq]
 refine wb9 (tQ ?_ (by exact bx (ab hl iF)));refine wb9 (cx (bN i1 ⟨_,(ax _ W),W⟩ hU (list_sort_treeK strKind_oneLt (ax _ W) a.keysOf (λh i r e=>keyKind_strs (by rwa[<-e])) hl λg hp p=>⟨_,W,?_⟩) (args_list_sort _)));refine ac λ_ f=>?_;obtain⟨u,j,m,n⟩:=sorted_out_str a hp p;obtain⟨e,x⟩:=sortedHeap_at (ax _ W);refine f ?_;refine wu9 ⟨_,W,k _ d t _ ((p_ g).map _).toList _ e (λb o q=>?_) sz (by exact x) j (m.trans i2) n⟩
 .have lb:=hl9 (ex b o q);exact(sortedHeap_old (ba lb) (by rw[size_push'];exact ie lb)).trans (hp9 _ (ex b o q))
end
end L2
namespace L2
open PySem PySem.W PySem.Spec PyProof.Rows
section
variable{A:bZ}{s:ao}
def _root_.L2.qZ.first(x:qZ I h c vs):(c=[]/\vs=[])\/∃k v B e,c=k::B/\vs=v::e/\I.is h k v/\qZ I h B e:=by
 cases x with
 |nil=>exact .inl ⟨W,W⟩
 |cons a b=>exact .inr ⟨_,_,_,_,W,W,a,b⟩
theorem Hu(I:A.units+2<=cO)(y:qZ (i3 P w) s.heap C xs):∀{B:O (i3 P w).κ} {F:O ag} (i:T),qZ (i3 P w) s.heap B F->C.map sN=B.map sN->(∀k∈C,zd (sN k)=U)->
  (b=U->i=0->∀k,C.head? = Y k->sN k=[1])->Q (if C=B then fin else tH (C.map cN) (B.map cN)) s->KatLex P w A b fin Q (xs.zip F) i s:=by
 induction y with
 |nil=>
   intro B F i f x _ _ h
   cases f with
   |nil=>exact kat_nil (by simpa using h)
   |cons _ _=>cases x
 | @cons k1 u C xs h1 y n=>
   intro B F i f x h3 h0 h
   cases f with
   |nil=>cases x
   | @cons k2 v B F h2 f=>
     simp only[ak,cM]at x;refine kat_cons ((i3 P w).eqb I h1 h2 (λe=>?_) λe=>?_)
     .subst e;refine kat_yes (n (i+1) f x.2 (λk o=>h3 k (kc _ o)) (λ_ z=>((bD (af z) (aY _))).elim) ?_);by_cases d:C=B
      .simp_all
      .rw[c4 d];rw[c4 λz=>d (fX z).2,ak,ak]at h;rw[show tH (cN k1::C.map cN) (cN k1::B.map cN)=tH (C.map cN) (B.map cN) by rw[tH,lA,a6 W]]at h;exact h
     .have l :=λz=>e (Mf x.1 (h3 _ iT) z);rw[c4 λz=>e (fX z).1,ak,ak]at h;rw[show tH (cN k1::C.map cN) (cN k2::B.map cN)=WX (cN k1) (cN k2) by rw[tH,lA,c4 l]]at h;refine kat_no ?_;by_cases j:(b && i == 0)=U
      .rw[j];simp only[au,gq]at j;have g:=h0 j.1 j.2 k1 W
       rcases uQ x.1 (h3 _ iT)with⟨a,c,rfl,rfl,q⟩|⟨a,c,rfl,rfl,q1,q2⟩|⟨a,c,rfl,rfl,q1,q2,q3,q4⟩
       .cases a with
        |inl _=>simp[sN]at g
        |inr a=>
          cases c with
          |inl _=>cases q
          |inr c=>
            rcases cF (k:=.inr a) h1 with⟨_,_,m,_⟩|⟨D,p,m,rfl⟩
            .cases m
            .rcases cF (k:=.inr c) h2 with⟨_,_,d,_⟩|⟨r,t,d,rfl⟩
             .cases d
             .cases m;cases d;refine oneLt_str ?_;have:=zj a.cps.toList c.cps.toList;simp only[cN]at h;rw[zk,show cK (.inr a)=a.cps.toList.map eJ from rfl,show cK (.inr c)=c.cps.toList.map eJ from rfl,this]at h;exact h
       .simp only[sN]at g;simp_all
       .simp only[sN]at g;simp_all
      .rw[IW.mpr j];refine kat_one _ _ (O6 I h1 h2 x.1 (h3 _ iT) ?_);exact h
def Zg(B:A.units+2<=cO)(ex:qc P w s.heap x p)(o:qc P w s.heap y c)(hs:x.map sN=y.map sN)(h3:∀k∈x,zd (sN k)=U)(h1:b=U->∀k,x.head? = Y k->sN k=[1])
  (h:Q (tH (x.map cN) (y.map cN)) s):aA (aB P w) A (keyLt' (pM b) (.ref p) (.ref c)) Q E s:=by
 refine ac λ_ n=>?_;obtain⟨l,q,t,f,_,g,a⟩:=ex;obtain⟨m,r,u,i,_,j,d⟩:=o;refine n ?_;refine kat_lt f g i j (Hu B a 0 d hs h3 (λz _=>h1 z) ?_)
 have hl:q.size=r.size:=by
  have e:=dy jo hs;simp only[ah]at e;rw[<-be,<-be,a.length,d.length,e]
 by_cases e:x=y
 .rw[a6 e,hl];rw[e,nA.ir]at h;simpa using h
 simp_all
noncomputable def QL(B:O (O T)):a5 a7:=match B.head? with
 |some [1]=>Y U
 |some [2]=>Y J
 |some (3::_)=>Y J
 |_=>L
def LC(q:Y9 P w s.heap k v)(hb:QL (sN k::t)=Y b):∃T':ag,(T'=if b=U then .type "str" else .type "tuple")/\∀M,Looks M s.heap (n3 v) T':=by
 cases k with
 |inl k=>
   cases k with
   |inl i=>simp[QL,sN]at hb
   |inr a=>
     have e:b=U:=by simpa [QL,sN]using hb.symm
     subst e
     rcases cF (k:=.inr a) q with⟨_,_,z,_⟩|⟨j,f,_,rfl⟩
     .cases z
     .exact⟨_,W,λM=>Looks.of_pure W⟩
 |inr g=>
   have e:b=J:=by
    simp only[QL,sN,M8]at hb;by_cases c:g.all sI=U
    .simp_all
    simp_all
   subst e;obtain⟨p,rfl,o,h,n,go,d,_⟩:=q;exact ⟨_,W,λM=>d▸(Looks.ld go).andThen .now⟩
theorem T6{js:O T}{F:T->O NK}{C:T->aC}{y:O (O T)}{b:a7}{Q:pf->ao->Prop}(I:∀j∈js,qc P w s.heap (F j) (C j))(h1:∀j∈js,(F j).map sN=y)(hb:QL y=Y b)(B:0<Z js)(h:Q (pM b) s) :
  aA (aB P w) A (keyKind' (js.map λj=>cQ (C j)).toArray) Q E s:=by
 have fs:∃fs,KatTups s.heap (js.map λj=>cQ (C j)) fs/\Z fs=Z js/\∀v∈fs,Looks (aB P w) s.heap (n3 v) (if b=U then .type "str" else .type "tuple"):=by
  clear h B
  induction js with
  |nil=>exact⟨[],KatTups.nil,W,λv a=>by cases a⟩
  |cons j js k=>
    obtain⟨fs,d,e,f⟩:=k (λj g=>I j (kc _ g)) (λj g=>h1 j (kc _ g));obtain⟨o,D,n,G,H,K,l⟩:=I j iT;have c:=h1 j iT
    rcases l.first with⟨z,_⟩|⟨u,i,m,p,z,hl,q,x⟩
    .rw[z]at c;rw[<-c]at hb;cases hb
    .rw[z]at c;rw[<-c]at hb;obtain⟨T',r,t⟩:=LC q hb;refine⟨_,KatTups.cons G H K (by rw[<-gX,hl];rfl) d,by simp[e],λv a=>?_⟩
     rcases aq.mp a with rfl|a
     .rw[<-r];exact t _
     .exact f v a
 obtain⟨fs,d,e,f⟩:=fs;refine kat_kind d (ab B (af e.symm)) f (by cases b<;>decide) ?_
 cases b with
 |true=>exact h
 |false=>exact h
end
section
variable{s:ao}
def GP{vs:O ag}(h:Z vs<2):((vs.toArray.zip vs.toArray).map λx=>x.2)=((aJ vs.length).toArray.toList.map λi=>vs.getD i fZ).toArray:=by
 rcases vs with _|⟨a,_|_⟩
 .simp
 .simp[List.range_succ]
 .exact absurd h (Nat.not_lt.mpr (Nat.le_add_left 2 _))
def Jx(h:n<2):Pm (aJ n).toArray n:=by
 have a:∀k,k<n->pg (aJ n).toArray k=k:=λk c=>Ww (by simp[c]);exact⟨by simp,λk c=>by rwa[a k c],λi j hi b e=>(bu (t9 hi h) (t9 b h)),by simp⟩
def Dx{vs:O ag}(ho:s.heap.get? a=Y (fy "list" vs.toArray n))(B:Z vs<=300)(o:Qb lt vs.length)
  (z:2<=Z vs->∀(y:cg)(t:ag->ao->Prop)(Q:pf->ao->Prop),(∀b o,b≠a->s.heap.get? b=Y o->y.get? b=Y o)->Q (pM b) { s with heap:=y }->aA (aB P w) A (keyKind' vs.toArray) Q t { s with heap:=y })
  (u:∀(y:cg)(t:ag->ao->Prop)(Q:a7->ao->Prop)i j,i<Z vs->j<Z vs->(∀b o,b≠a->s.heap.get? b=Y o->y.get? b=Y o)->Q (lt i j) { s with heap:=y }->
   aA (aB P w) A (keyLt' (pM b) (vs.getD i .none) (vs.getD j .none)) Q t { s with heap:=y })
  (h:∀p:eb T,Pm p vs.length->Up lt p vs.length->R (.done (.ret .none)) { s with heap:=oe s.heap a vs (p.toList.map λi=>vs.getD i .none).toArray }) :
  aA (aB P w) A (fD.«list.sort» ⟨[.ref a],[]⟩) R E s:=by
 rw[list_sort_plain];refine wb9 (listItems_at ho W (wb9 (Gs ho W ?_ (by exact ab B iF) (aY _))));obtain⟨r,k⟩:∃r,(s.heap.update a _).get? a=Y (fy _ _ r):=⟨_,get?_update_seq ho _⟩
 refine wb9 (M4 k W (wb9 (nc ?_ (by exact ab B (by decide)))));refine wb9 (tQ ?_ (aY _));refine cx ?_;have g:(((s.heap.update a (fB _)).push (fy "tuple" vs.toArray 0)).push (fy "list" #[] 0)).get? a=Y (fy _ _ r):=hp9 _ (hp9 _ k)
 have kp:∀b o,b≠a->s.heap.get? b=Y o->(((s.heap.update a (fB λ_=>(#[]))).push (fy "tuple" vs.toArray 0)).push (fy "list" #[] 0)).get? b=Y o:=λb o D e=>
  hp9 _ (hp9 _ ((Heap.get?_update_ne _ _ _ _ D).trans e))
 generalize l:((s.heap.update a (fB _)).push (fy _ _ 0)).push (fy _ _ 0)=h6 at g kp ⊢;by_cases c:vs.toArray.size<2
 .rw[a6 c,a6 c];refine wb9 (wu9 ?_);refine wb9 (wu9 ?_);have hl:Z vs<2:=by exact c
  have hh:=h (aJ _).toArray (Jx hl) (λi j h1 h2=>(Zc h2 hl h1).elim);refine wb9 (M4 g W (wb9 (Gs g W ?_ (aY _) (by show((vs.toArray.zip _).map _).size<=_;simp;exact ab B iF))));simp only[fb,cV,ft];unfold oe at hh;rw[l]at hh;rw[<-(GP hl)]at hh;exact wu9 hh
 rw[c4 c,c4 c];refine wb9 (z (by simp_all) h6 _ _ kp ?_);refine wb9 (c8 (Jv (E:=E) o λi j hi m C q=>u h6 _ C i j hi m kp q) ?_ λ_ _ e=>e);rintro⟨⟨⟩,F⟩ H ⟨rfl,p,x,G,f,hf⟩;have d:=kat_snds W f;have v:Z (p.toList.map λi=>vs.getD i fZ)=Z vs:=by rw[ah,be,x.sz]
 refine wb9 (M4 g W (wb9 (Gs g W ?_ (aY _) (by rw[d];show(p.toList.map _).length<=_;rw[v];exact ab B iF))));rw[hf];simp only[fb,cV,ft];have:=h p x G;unfold oe at this;rw[l]at this;rw[d];exact wu9 this
end
section
variable{P:cA}{w:cT}{A:bZ}{E:ag->ao->Prop}{s:ao}{kf:T->O NK}{av:T->aC}{n:T}
def Dh{js:O T}:∀{vs:O ag},fS (λv j=>v=cQ (av j)) vs js->vs=js.map λj=>cQ (av j):=by
 induction js with
 |nil=>intro vs h;cases h;rfl
 | cons j js c=>intro vs h;cases h with
   |cons a b=>rw[a,c b];rfl
def Dg{js:O T}:∀{es:O (dc×ag)},fS (λ(e:dc×ag)j=>e.2=cQ (av j)) es js->fS (λv j=>v=cQ (av j)) (es.map (·.2)) js:=by
 induction js with
 |nil=>intro es h;cases h;exact .nil
 | cons j js c=>intro es h;cases h with
   |cons a b=>exact .cons a (c b)
structure Sel(kf:T->O NK)(n:T)(js:O T):Prop where
 nd:(js.map kf).Nodup
 lt:∀j∈js,j<n
 all:∀j,j<n->kf j∈js.map kf
def Sel.perm{B:O T}(h:Sel kf n js)(p:B.Perm js):Sel kf n B:=
 ⟨(p.map kf).nodup_iff.mpr h.nd,λj a=>h.lt j (p.mem_iff.mp a),λj a=>(p.map kf).mem_iff.mpr (h.all j a)⟩
def Sel.len(h:Sel kf n js):Z js<=n:=by
 have:=rP ((dX.mp h.nd).imp λx e=>x (dy kf e)) fo λj b=>aO.mpr (h.lt j b)
 simp_all
def HM(hh:A.handled=L)(y:B5 P w (mR w) s.heap S kf av n)(B:n<=300) :
  vU P w A s (.ref S) (λvs=>∃js,vs=js.map (λj=>cQ (av j))/\Sel kf n js):=by
 refine ac λ_ r=>?_;obtain⟨u,v,t,js,c,o,b,f,g,h⟩:=y;refine r ?_;have sl:Sel kf n js:=⟨f,g,h⟩
 intro p q x e k;refine oK (e.trans hh) c (by rw[cY];exact QI (af (jV b)) sl.len B) λh1 d i vs ex sz pm=>k vs h1 d i ex sz ?_;obtain⟨a,l,m⟩:=kj pm (Dg b);exact⟨a,Dh l,sl.perm m⟩
abbrev codeN(k:O NK):O (O (O dc)):=k.map cN
theorem code_inj:∀{x y:O NK},x.map sN=y.map sN->(∀k∈x,zd (sN k)=U)->codeN x=codeN y->x=y
 |[],[],_,_,_=>rfl
 |[],_::_,h,_,_=>by cases h
 |_::_,[],h,_,_=>by cases h
 |a::x,b::y,h,h3,e=>by
   simp only[ak,cM]at h e;rw[Mf h.1 (h3 _ iT) e.1,code_inj h.2 (λk c=>h3 k (kc _ c)) e.2]
set_option tactic.hygienic true in
theorem sorted_N{v:ag}{O':O (O T)}{b:a7}{Q:ag->ao->Prop}(c0:A.in1.in1.units+2<=cO)(hk:∀j,j<n->qc P w s.heap (kf j) (av j))(hsh:∀j,j<n->(kf j).map sN=O')(h3:∀x∈O',zd x=U)(h1:QL O'=Y b)
  (hc:vU P w A s v (λvs=>∃js,vs=js.map (λj=>cQ (av j))/\Sel kf n js/\Z js<=300))
  (k:∀h' d e3 l js e,(∀b o,s.heap.get? b=Y o->h'.get? b=Y o)->s.heap.objs.size<=l->h'.get? l=Y (fy "list" (js.map λj=>cQ (av j)).toArray e)->Sel kf n js->
   (js.map λj=>codeN (kf j)).Pairwise (λa b=>tH a b=U)->Q (.ref l) { s with heap:=h',drawn:=d,toks:=e3 }) :
  aA (aB P w) A (call (.builtin "sorted") [v]) Q E s:=by
 have t:∀j,j<n->∀k∈kf j,zd _=U:=λj c k hk=>h3 _ (by rw[<-hsh j c];exact bC hk)
 have F:b=U->∀j,j<n->∀k,(kf j).head? = Y k->sN k=[1]:=λhb j c k hk=>by
  have:=hsh j c
  cases q:kf j with
  |nil=>rw[q]at hk;cases hk
  |cons x r=>
    rw[q]at this hk;cases hk;rw[<-this,hb]at h1;simp only[QL,M8]at h1;split at h1
    .rename_i z;exact bb z
    .cases h1
    .cases h1
    .cases h1
 refine mf kind_sorted plain_sorted entry_sorted (args_sorted1 _) ?_;refine wb9 (wu9 ?_);refine wb9 (hc _ _ _ (by rfl) λvs g d e3 ex sz M=>?_);obtain⟨js,u,sl,B⟩:=M;have hl:Z vs=Z js:=by simp_all
 refine wb9 (tQ ?_ (by exact ab (af hl) (ab B iF)));have at_:∀i,i<Z vs->vs.getD i fZ=.ref (av (js.getD i 0))/\js.getD i 0<n:=λi hi=>by
  have f:i<Z js:=ab hi (af hl);constructor
  .rw[u];simp[f]
  .rw[show js.getD i 0=js[i] by simp[f]];exact sl.lt _ (bA f)
 have h:∀h',(∀b o,b≠g.objs.size->(g.push (fy "list" vs.toArray 0)).get? b=Y o->h'.get? b=Y o)->∀j,j<n->qc P w h' _ _:=λh' q j c=>
  (hk j c).mono λb o e=>by
   have G:=ex b o e;exact q b o (ba (hl9 G)) (hp9 _ G)
 have C :=λi j hi c e=>by
  have a:=at_ i hi
  have f:i<Z js:=ab hi (af hl);have m:j<Z js:=ab c (af hl);have G:(js.map kf)[i]?=Y (kf (js.getD i 0)):=by simp[f]
  have X:(js.map kf)[j]?=Y (kf (js.getD j 0)):=by simp[m]
  rw[(code_inj ((hsh _ a.2).trans (hsh _ (at_ j c).2).symm) (t _ a.2) e)]at G;exact(jH (by simp_all) sl.nd).mp (G.trans X.symm)
 have N:Qb (λi j=>tH (codeN (kf (js.getD i 0))) (codeN (kf _))) _:=
  ⟨λi j k _ _ _ x y=>nA.tr _ _ _ x y,λi j hi c ne x=>nA.co _ _ (λz=>ne (C i j hi c z)) x,λi j _ _ x=>nA.as x⟩
 refine wb9 (cx (bN i1 ⟨_,(ax _ W),W⟩ hU (Dx (b:=b) (ax _ W) (ab (af hl) B) N (λh2 h' R Q' q H=>?_) (λh' R Q' i j hi c q H=>?_) λp I S=>⟨_,W,?_⟩) (args_list_sort _)))
 .rw[u];exact T6 (λj c=>h h' q j (sl.lt j c)) (λj c=>hsh j (sl.lt j c)) h1 (bx (ab h2 (af hl))) H
 .obtain⟨T',D⟩:=at_ i hi
  obtain⟨b1,b2⟩:=at_ j c
  rw[T',b1];exact Zg c0 (h h' q _ D) (h h' q _ b2) ((hsh _ D).trans (hsh _ b2).symm) (t _ D) (λz=>F z _ D) H
 .obtain⟨e,he⟩:=sortedHeap_at (out:=(p.toList.map _).toArray) (ax _ W)
  have V:(p.toList.map λi=>vs.getD i fZ)=(p.toList.map λi=>js.getD i 0).map λj=>cQ (av j):=by
   rw[bo];exact du λi hi=>(at_ i ((aO.mp (I.pm.mem_iff.mp hi)))).1
  rw[V]at he
  have U':(p.toList.map λi=>js.getD i 0).Perm js:=by
   refine (I.pm.map _).trans ?_;rw[hl];refine List.Perm.of_eq ?_;apply sL;intro i;by_cases hi:i<Z js
   .simp[hi]
   .simp[hi]
  refine wu9 ⟨_,W,k _ d e3 _ (p.toList.map _) e (λb o q=>?_) sz ?_ (sl.perm U') ?_⟩
  .have lb:=hl9 (ex b o q);exact(sortedHeap_old (ba lb) (by rw[size_push'];exact ie lb)).trans (hp9 _ (ex b o q))
  .rwa[V]
  .rw[bo,dX,eB];intro i j hi c J';have:=S i j J' (by rwa[be,I.sz]at c)
   have G:∀x(K:x<Z p.toList),p.toList[x]=pg p x:=λx K=>by
    have:=Kc (by simpa using K);rw[<-gX,ae K]at this;exact bb this
   rwa[G i hi,G j c]
end
end L2
namespace M
open PySem PySem.Spec PyProof.Rows L2
inductive Vu|add|sub|mul|fdiv|mod|shr|shl|band|bor|pow|mn|mx
inductive VS|eq|ne|lt|le|gt|ge|isin|nin|isn|nisn
inductive Ty|int|bool|str|tuple|list
inductive Ya|len|list|tuple|all|any|isi (t:Ty)|listrev|int|str|min|max|sorted|sset|abs|sum
inductive Yw|join|split|upper|lower|find|index|count|get|startswith|isalpha|tindex
inductive VP|app|ext|ins|pop|clr|seti|dput
mutual
noncomputable def mw:Dat->Dat->a7
 | .non,c=>match c with
   |.non=>U
   |_=>J
 | .bl a,c=>match c with
   |.bl b=>a == b
   |.int j=>(if a then 1 else 0) == j
   |_=>J
 | .int i,c=>match c with
   |.bl b=>i == (if b then 1 else 0)
   |.int j=>i == j
   |_=>J
 | .str x,c=>match c with
   |.str y=>x == y
   |_=>J
 | .tup d,c=>match c with
   |.tup e=>oH d e
   |_=>J
 | .lst d,c=>match c with
   |.lst e=>oH d e
   |_=>J
 |_,_=>J
noncomputable def oH:O Dat->O Dat->a7
 |[],[]=>U
 |x::a,y::b=>mw x y && oH a b
 |_,_=>J
end
mutual
noncomputable def fU:T->Dat->a7
 |_,.dct _ _=>J
 |_,.dcn _=>J
 |0,.tup _=>J
 |0,.lst _=>J
 |n+1,.tup a=>dE n a
 |n+1,.lst a=>dE n a
 |_,_=>U
noncomputable def dE:T->O Dat->a7
 |_,[]=>U
 |n,x::a=>fU n x && dE n a
end
noncomputable def i5:Dat->a5 a7
 |.non=>Y J
 |.bl b=>Y b
 |.int i=>Y (i != 0)
 |.str x=>if x.length<=aD then Y ((x.length:dc) != 0)else L
 |.tup a=>Y (!a.isEmpty)
 |.lst a=>Y (!a.isEmpty)
 |.dct c _=>Y (!c.isEmpty)
 |.dcn _=>L
noncomputable instance (i j:dc):ez (Ie i j):=by unfold Ie;infer_instance
noncomputable instance (i j:dc):ez (Qg i j):=by unfold Qg;infer_instance
noncomputable instance (i j:dc):ez (MC i j):=by unfold MC;infer_instance
noncomputable instance (x:bw) (j:dc):ez (Co x j):=by unfold Co;infer_instance
abbrev g_:=a5 (Dat×a7)
noncomputable def zK(f:dc->dc->g_):Dat->Dat->g_
 |.int i,.int j=>f i j
 |_,_=>L
def D1:Dat->Dat->g_
 | .int i,a=>match a with
   |.int j=>Y (.int (i+j),J)
   |_=>L
 | .str x,a=>match a with
   |.str y=>if x.length+y.length<=aD then Y (.str (x++y),J)else L
   |_=>L
 | .lst b,a=>match a with
   |.lst c=>if b.length+c.length<=aD then Y (.lst (b++c),kd (b++c))else L
   |_=>L
 | .tup b,a=>match a with
   |.tup c=>if b.length+c.length<=aD then Y (.tup (b++c),J)else L
   |_=>L
 |_,_=>L
noncomputable def D0:Dat->Dat->g_
 | .int i,a=>match a with
   |.int j=>if Ie i j then Y (.int (i * j),J)else L
   |_=>L
 | .str x,a=>match a with
   |.int j=>if Co x j then Y (.str (PySem.Txt.mul x j),J)else L
   |_=>L
 |_,_=>L
def fF:Vu->Dat->Dat->g_
 |.add,a,b=>D1 a b
 |.sub,a,b=>zK (λi j=>Y (.int (i - j),J)) a b
 |.mul,a,b=>D0 a b
 |.mn,a,b=>zK (λi j=>Y (.int (if j<i then j else i),J)) a b
 |.mx,a,b=>zK (λi j=>Y (.int (if i<j then j else i),J)) a b
 |.fdiv,a,b=>zK (λi j=>if Qg i j then Y (.int (i / j),J)else L) a b
 |.mod,a,b=>zK (λi j=>if 0<j then Y (.int (i % j),J)else L) a b
 |.shr,a,b=>zK (λi j=>if 0<=j then Y (.int (i / 2 ^ j.toNat),J)else L) a b
 |.shl,a,b=>zK (λi j=>if MC i j then Y (.int (i * 2 ^ j.toNat),J)else L) a b
 |.band,a,b=>zK (λi j=>Y (.int (uu i j),J)) a b
 |.bor,a,b=>zK (λi j=>Y (.int (wm i j),J)) a b
 |.pow,a,b=>zK (λi j=>if MC i j then Y (.int (i ^ j.toNat),J)else L) a b
noncomputable def tK:Dat->a5 Key
 |.int i=>Y (.inl i)
 |.str x=>Y (.inr x)
 |_=>L
instance aaa (k:O NK) (ks:O (O NK)):ez (k∈ks):=@List.instDecidableMemOfLawfulBEq _ instBEqOfDecidableEq inferInstance k ks
def A5:O Dat->a5 (O Key)
 |[]=>Y []
 |d::a=>(tK d).bind λk=>(A5 a).map λr=>k::r
def Za:Dat->a5 N2
 |.int i=>Y (.inl (.inl i))
 |.str x=>Y (.inl (.inr x))
 |.tup a=>(A5 a).map .inr
 |_=>L
def QH:O Dat->a5 (O N2)
 |[]=>Y []
 |d::a=>(Za d).bind λk=>(QH a).map λr=>k::r
def Yn:Dat->a5 NK
 |.int i=>Y (.inl (.inl i))
 |.str x=>Y (.inl (.inr x))
 |.tup a=>(QH a).map .inr
 |_=>L
def TC:O Dat->a5 (O NK)
 |[]=>Y []
 |d::a=>(Yn d).bind λk=>(TC a).map λr=>k::r
def vb:Dat->a5 (O NK)
 |.tup a=>TC a
 |_=>L
def oF:O Dat->a5 (O (O NK))
 |[]=>Y []
 |d::a=>(vb d).bind λk=>(oF a).map λr=>k::r
noncomputable def QC:O Key->a7
 |[]=>U
 |k::a=>!(a.any λj=>decide (j=k)) && QC a
noncomputable def km(k:Key):O Key->O Dat->a5 Dat
 |j::a,v::vs=>if j=k then Y v else km k a vs
 |_,_=>L
noncomputable def Km(k:Key):O Key->a7
 |[]=>U
 |j::a=>if j=k then !(a.any λi=>decide (i=k))else Km k a
noncomputable def putD(k:Key)(d:Dat):O Key->O Dat->O Key×O Dat
 |j::a,v::vs=>if j=k then(j::a,d::vs)else((j::(putD k d a vs).1),(v::(putD k d a vs).2))
 |_,_=>([k],[d])
noncomputable def MS(f:dc->dc->a7):Dat->Dat->a5 a7
 |.int i,.int j=>Y (f i j)
 |_,_=>L
def XO(a:Dat):Dat->a5 a7
 | .str y=>match a with
   |.str x=>Y (!(iL y x 0 y.length 1).isEmpty)
   |_=>L
 |.lst b=>if fU 20 a && dE 20 b then Y (b.any λy=>mw y a)else L
 |.tup b=>if fU 20 a && dE 20 b then Y (b.any λy=>mw y a)else L
 | .dct c vs=>match tK a with
   |some k=>Y (km k c vs).isSome
   |none=>if c.isEmpty=U then(vb a).map λ_=>J else L
 |.dcn c=>(vb a).map λk=>decide (k∈c)
 |_=>L
def Me(a:Dat):Dat->a5 a7
 | .str y=>match a with
   |.str x=>Y (!(!(iL y x 0 y.length 1).isEmpty))
   |_=>L
 |.lst b=>if fU 20 a && dE 20 b then Y (!(b.any λy=>mw y a))else L
 |.tup b=>if fU 20 a && dE 20 b then Y (!(b.any λy=>mw y a))else L
 |.dct c vs=>(tK a).map λk=>!(km k c vs).isSome
 |_=>L
noncomputable def U6(b:a7)(a:Dat):Dat->a5 a7
 |.non=>Y (match a with | .non=>b|_=>!b)
 | .bl c=>match a with
   |.bl x=>Y ((x == c) == b)
   |_=>L
 |_=>L
def ef:VS->Dat->Dat->a5 a7
 |.eq,a,b=>if fU 20 a && fU 20 b then Y (mw a b)else L
 |.ne,a,b=>if fU 20 a && fU 20 b then Y (!mw a b)else L
 |.lt,a,b=>MS (λi j=>decide (i<j)) a b
 |.le,a,b=>MS (λi j=>decide (i<=j)) a b
 |.gt,a,b=>MS (λi j=>decide (j<i)) a b
 |.ge,a,b=>MS (λi j=>decide (j<=i)) a b
 |.isin,a,b=>XO a b
 |.nin,a,b=>Me a b
 |.isn,a,b=>U6 U a b
 |.nisn,a,b=>U6 J a b
def Dz:Dat->Dat->a5 Dat
 | .lst b,a=>match a with
   |.int i=>yt b i
   |_=>L
 | .tup b,a=>match a with
   |.int i=>yt b i
   |_=>L
 | .str z,a=>match a with
   |.int i=>if z.length<=aD then(yt z.cps.toList i).map λc=>.str ⟨#[c]⟩else L
   |_=>L
 |.dct d vs,k=>(tK k).bind λk=>km k d vs
 |_,_=>L
noncomputable def Ki(r:g_):a5 (a5 dc):=r.bind λx=>match x.1 with
 |.int i=>Y (Y i)
 |_=>L
def cutD{b:Type}(xs:O b)(lo hi:a5 dc):O b:=(xs.drop (HT.gC xs.length 0 lo)).take (HT.gC xs.length xs.length hi - HT.gC xs.length 0 lo)
def Iy:Dat->a5 dc->a5 dc->g_
 |.str x,a,hi=>if x.length<=aD then Y (.str (eM x a hi),J)else L
 |.lst b,a,hi=>Y (.lst (cutD b a hi),kd (cutD b a hi))
 |.tup b,a,hi=>Y (.tup (cutD b a hi),J)
 |_,_,_=>L
noncomputable def K8:Ty->Dat->a7
 |.int,.int _=>U
 |.int,.bl _=>U
 |.bool,.bl _=>U
 |.str,.str _=>U
 |.tuple,.tup _=>U
 |.list,.lst _=>U
 |_,_=>J
noncomputable def nE:O Dat->a5 (O a7)
 |[]=>Y []
 |.bl b::a=>(nE a).map λr=>b::r
 |_::_=>L
noncomputable def jM:O Dat->a5 (O bw)
 |[]=>Y []
 |.str x::a=>(jM a).map λr=>x::r
 |_::_=>L
noncomputable def lY:O Dat->a5 (O dc)
 |[]=>Y []
 |.int x::a=>(lY a).map λr=>x::r
 |_::_=>L
noncomputable def vp{b:Type}(lt:b->b->a7)(x:b):O b->O b
 |[]=>[x]
 |y::a=>if lt x y=U then x::y::a else if lt y x=U then y::vp lt x a else y::a
def dz{b:Type}(lt:b->b->a7):O b->O b
 |[]=>[]
 |x::a=>vp lt x (dz lt a)
noncomputable def wD{b:Type}(lt:b->b->a7)(x:b):O b->O b
 |[]=>[x]
 |y::a=>if lt y x=U then y::wD lt x a else x::y::a
def i8{b:Type}(lt:b->b->a7):O b->O b
 |[]=>[]
 |x::a=>wD lt x (i8 lt a)
noncomputable def ltI(i j:dc):a7:=decide (i<j)
noncomputable def pq(x y:bw):a7:=decide (x.cps.toList<y.cps.toList)
noncomputable def dG(x:bw):O bw:=x.cps.toList.map λc=>⟨#[c]⟩
noncomputable def PH:T->O dc->Dat
 |0,l=>.int (l.headD 0)
 |1,l=>.str ⟨(l.map ux).toArray⟩
 |_,l=>.tup (l.map .int)
def UW:O T->O (O dc)->Dat
 |[],_=>.non
 |n::a,c=>if n=3 then .tup (sE PH a c)else PH n (c.headD [])
def wH(B:O (O T))(c:O (O (O dc))):Dat:=.tup (sE UW B c)
def CU(b:O (O NK)):O (O T):=(b.headD []).map sN
def Dl(b:O (O NK)):Prop:=(QL (CU b)).isSome=U/\(CU b).all zd=U/\(b.all λk=>decide (k.map sN=CU b))=U/\Z (dz tH (b.map codeN))<=300
instance (kk:O (O NK)):ez (Dl kk):=inferInstanceAs (ez (_/\_))
def oy(b:O (O NK)):g_:=
 if Z b<=300/\Dl b then Y (.lst ((dz tH (b.map codeN)).map (wH (CU b))),U)else L
def Jw(b:O (O NK)):g_:=
 if Z b<64/\Dl b/\b.Nodup then Y (.lst ((dz tH (b.map codeN)).map (wH (CU b))),U)else L
def sP(B:O bw):g_:=if Z B<4000/\Z (dz pq B)<64 then Y (.lst ((dz pq B).map .str),U)else L
def Eo(is:O dc):g_:=if Z is<4000/\Z (dz ltI is)<64 then Y (.lst ((dz ltI is).map .int),U)else L
def xu(B:O bw):g_:=if Z B<64 then Y (.lst ((i8 pq B).map .str),U)else L
def sortI(is:O dc):g_:=if Z is<64 then Y (.lst ((i8 ltI is).map .int),U)else L
noncomputable def mxI:dc->O dc->dc
 |i,[]=>i
 |i,j::r=>mxI (if i<j then j else i) r
noncomputable def b1(f:Dat->g_):O Dat->g_
 |[d]=>f d
 |_=>L
noncomputable def vQ:Dat->g_
 |.lst a=>Y (.int a.length,J)
 |.tup a=>Y (.int a.length,J)
 |.str x=>if x.length<=aD then Y (.int x.length,J)else L
 |.dct b _=>Y (.int b.length,J)
 |_=>L
def pJ:Dat->g_
 |.lst a=>Y (.lst a,kd a)
 |.tup a=>Y (.lst a,kd a)
 |_=>L
def wK:Dat->g_
 |.lst a=>Y (.lst a.reverse,kd a.reverse)
 |.tup a=>if a.length<=1000000 then Y (.lst a.reverse,kd a.reverse)else L
 |.str x=>if x.length<=1000000 then Y (.lst ((dG x).reverse.map .str),U)else L
 |_=>L
noncomputable def wJ:Dat->g_
 |.lst a=>Y (.tup a,J)
 |.tup a=>Y (.tup a,J)
 |_=>L
noncomputable def bL(f:O Dat->g_):Dat->g_
 |.lst a=>f a
 |_=>L
noncomputable def Mp(f:O Dat->g_)(g:bw->g_):Dat->g_
 |.lst a=>f a
 |.str x=>g x
 |_=>L
noncomputable def wL:Dat->g_
 |.int i=>Y (.int i,J)
 |.bl b=>Y (.int (if b then 1 else 0),J)
 |.str x=>if x.length<=640 then(PySem.intText? x).map λi=>(.int i,J)else L
 |_=>L
noncomputable def vP:Dat->g_
 |.int i=>if i.natAbs.log2<1920 then Y (.str (toString i),J)else L
 |_=>L
def e8:Ya->O Dat->g_
 |.len,l=>b1 vQ l
 |.list,l=>b1 pJ l
 |.listrev,l=>b1 wK l
 |.tuple,l=>b1 wJ l
 |.all,l=>b1 (bL λc=>(nE c).map λbs=>(.bl (bs.all id),J)) l
 |.any,l=>b1 (bL λc=>(nE c).map λbs=>(.bl (bs.any id),J)) l
 |.isi t,l=>b1 (λd=>Y (.bl (K8 t d),J)) l
 | .sset,l=>b1 (Mp (λb=>match lY b,jM b with
   |some is,_=>Eo is
   |none,Y a=>sP a
   |none,L=>(oF b).bind oy) λx=>sP (dG x)) l
 | .sorted,l=>b1 (Mp (λb=>match lY b,jM b with
   |some is,_=>sortI is
   |none,Y a=>xu a
   |none,L=>(oF b).bind Jw) λx=>xu (dG x)) l
 |.int,l=>b1 wL l
 |.sum,l=>b1 (bL λb=>(lY b).map λis=>(.int is.sum,J)) l
 | .max,l=>b1 (bL λb=>(lY b).bind λis=>match is with
   |[]=>L
   |i::r=>Y (.int (mxI i r),J)) l
 |.str,l=>b1 vP l
 |.min,_=>L
 |.abs,_=>L
noncomputable def i6:Dat->a5 (O Dat)
 |.lst a=>Y a
 |.tup a=>Y a
 |.str x=>Y (x.cps.toList.map λc=>Dat.str ⟨#[c]⟩)
 |_=>L
noncomputable def NZ:Dat->a5 (O Dat)
 |.lst a=>Y a
 |.tup a=>Y a
 |.str x=>Y (x.cps.toList.map λc=>Dat.str ⟨#[c]⟩)
 |_=>L
noncomputable def JL:O Dat->a5 (O Dat)
 |[.int j]=>if j<=1000000/\-1000000<=j then Y ((aJ j.toNat).map λk:T=>Dat.int k)else L
 |[.int i,.int j]=>if -1000000<=i/\i<=1000000/\-1000000<=j/\j<=1000000 then Y ((aJ (j - i).toNat).map λk:T=>Dat.int (i+k))else L
 |[.int i,.int j,.int c]=>if c=-1/\-1000000<=i/\i<=1000000/\-1000000<=j/\j<=1000000 then Y ((aJ (i - j).toNat).map λk:T=>Dat.int (i - k))else L
 |_=>L
noncomputable def lp:O Dat->O Dat->O Dat
 |x::a,y::b=>.tup [x,y]::lp a b
 |_,_=>[]
noncomputable def nY:T->O Dat->O Dat
 |_,[]=>[]
 |k,x::a=>.tup [.int k,x]::nY (k+1) a
def pY(f:Dat->a5 g_):O Dat->a5 (O Dat×a7)
 |[]=>Y ([],U)
 | d::a=>(f d).bind λo=>(pY f a).map λr=>match o with
   |some y=>(y.1::r.1,(y.2 || im y.1) && r.2)
   |none=>r
noncomputable def yV:T->O Dat->gZ->gZ
 |_,[],a=>a
 |k,d::b,a=>yV (k+1) b (a.set k (Y d))
def FX(b:T)(one:a7)(d:Dat)(ρ:gZ):a5 gZ:=match one with
 |true=>Y (ρ.set 0 (Y d))
 | false=>match d with
   |.tup a=>if Z a=b then Y (yV 0 a ρ)else L
   |_=>L
noncomputable def ja(b:T)(caps:O T)(ρ:gZ):gZ:=eO b L++caps.map λj=>(ρ[j]?).join
def findD(d:Dat):O Dat->T->a5 T
 |[],_=>L
 |x::a,k=>if mw x d=U then Y k else findD d a (k+1)
noncomputable def VB(f:bw->g_):Dat->O Dat->g_
 | .str x,a=>match a with
   |[]=>f x
   |_=>L
 |_,_=>L
noncomputable def WW(f:bw->bw->g_):Dat->O Dat->g_
 | .str x,a=>match a with
   |[.str y]=>f x y
   |_=>L
 |_,_=>L
noncomputable def Yo(f:bw->O Dat->g_):Dat->O Dat->g_
 | .str x,a=>match a with
   |[.lst b]=>f x b
   |_=>L
 |_,_=>L
noncomputable def mSw:Dat->O Dat->g_
 |.str x,[.str y,.int i]=>Y (.bl (PySem.Txt.startswith3 x y i),J)
 |_,_=>L
def O5:Dat->O Dat->g_
 | .tup b,a=>match a with
   |[d]=>if fU 20 d && dE 20 b then(findD d b 0).map λk=>(.int k,J)else L
   |_=>L
 |_,_=>L
def Zb:Dat->O Dat->g_
 |.lst a,[.str y]=>(jM a).bind λb=>(b.findIdx? (·== y)).map λj=>(.int (j:T),J)
 |_,_=>L
def TL:Dat->O Dat->g_
 |.dct a vs,[k,d]=>(tK k).map λk=>((km k a vs).getD d,J)
 |_,_=>L
def fV:Yw->Dat->O Dat->g_
 |.join,a,l=>Yo (λx c=>(jM c).bind λb=>if(b.map (·.length)).sum+b.length * x.length<=1000000 then Y (.str (eD x b),J)else L) a l
 |.split,a,l=>WW (λx y=>if 0<y.length/\x.length<=1000000 then Y (.lst ((eL x y).map Dat.str),U)else L) a l
 |.upper,a,l=>VB (λx=>if x.length<=1000000 then Y (.str (rk x),J)else L) a l
 |.lower,a,l=>VB (λx=>if x.length<=1000000 then Y (.str (PySem.Txt.lower x),J)else L) a l
 |.find,a,l=>WW (λx y=>Y (.int (PySem.Txt.find x y),J)) a l
 |.index,a,l=>Zb a l
 |.count,a,l=>WW (λx y=>Y (.int (PySem.Txt.count x y),J)) a l
 |.startswith,a,l=>mSw a l
 |.tindex,a,l=>O5 a l
 |.isalpha,a,l=>VB (λx=>Y (.bl (PySem.Txt.isalpha x),J)) a l
 |.get,a,l=>TL a l
def insI{b:Type}(x:b)(i:dc)(xs:O b):O b:=xs.take (HT.gC xs.length 0 (Y i))++x::xs.drop (HT.gC xs.length 0 (Y i))
def NX{b:Type}(x:b)(i:dc)(xs:O b):a5 (O b):=(MQ xs.length i).map λk=>xs.set k x
noncomputable def CD:Dat->O Dat->a5 Dat
 |.lst a,[d]=>if Z a<aD then Y (.lst (a++[d]))else L
 |_,_=>L
noncomputable def CC:Dat->O Dat->a5 Dat
 | .lst b,l=>match l with
   |[.lst a]=>if Z b+Z a<=aD then Y (.lst (b++a))else L
   |[.tup a]=>if Z b+Z a<=aD then Y (.lst (b++a))else L
   |_=>L
 |_,_=>L
def CB:Dat->O Dat->a5 Dat
 | .lst a,l=>match l with
   |[.int i,d]=>if Z a<aD/\-1000000<=i/\i<=1000000 then Y (.lst (insI d i a))else L
   |_=>L
 |_,_=>L
def Cz:Dat->O Dat->a5 Dat
 | .lst b,l=>match l with
   |[d,.int i]=>if -1000000<=i/\i<=1000000 then(NX d i b).map .lst else L
   |_=>L
 | .dct a vs,l=>match l with
   |[d,k]=>(tK k).bind λk=>if Z a<aD/\Km k a=U then Y (.dct (putD k d a vs).1 (putD k d a vs).2)else L
   |_=>L
 |_,_=>L
def CA:Dat->O Dat->a5 Dat
 | .dct a _,l=>match l with
   |[.bl U,k]=>if a.isEmpty=U then(vb k).map λk=>.dcn [k]else L
   |_=>L
 | .dcn a,l=>match l with
   |[.bl U,k]=>(vb k).bind λk=>if Z a<aD/\k∉a then Y (.dcn (a++[k]))else L
   |_=>L
 |_,_=>L
def mQ:VP->Dat->O Dat->a5 Dat
 |.app,a,l=>CD a l
 |.ext,a,l=>CC a l
 |.ins,a,l=>CB a l
 |.seti,a,l=>Cz a l
 |.dput,a,l=>CA a l
 |_,_,_=>L
abbrev Fs:=T->O Dat->g_
structure Ex where
 fv:O T
 ev:Fs->gZ->g_
noncomputable def bR(C:Fs)(e:Ex)(ρ:gZ):g_:=e.ev C ρ
def lH(C:Fs):O Ex->gZ->a5 (O Dat)
 |[],_=>Y []
 |e::b,a=>(bR C e a).bind λx=>(lH C b a).map λr=>x.1::r
def qJ(C:Fs):O Ex->gZ->a5 (O Dat×a7)
 |[],_=>Y ([],U)
 |e::b,a=>(bR C e a).bind λx=>(qJ C b a).map λr=>(x.1::r.1,(x.2 || im x.1) && r.2)
def vG(C:Fs):O Ex->gZ->a5 a7
 |[],_=>Y U
 |e::b,a=>(bR C e a).bind λx=>(i5 x.1).bind λz=>if z=U then vG C b a else Y J
noncomputable def LA(es:O Ex):O T:=es.flatMap (·.fv)
inductive Iw where
 |itv (a:Ex)|rng (es:O Ex)|zip (es:O Ex)|enu (a:Ex)|rev (a:Ex)
noncomputable def YT:Dat->a5 (O Dat)
 |.tup a=>Y a.reverse
 |_=>L
def fvI:Iw->O T
 |.itv a=>a.fv
 |.rng _=>[]
 |.zip b=>LA b
 |.enu a=>a.fv
 |.rev a=>a.fv
def Eg(ds:O Dat):a5 (O Dat):=match ds with
 |[.lst b,.lst a]=>Y (lp b a)
 |[.tup b,.tup a]=>Y (lp b a)
 |[.lst b,.tup a]=>Y (lp b a)
 |[.tup b,.lst a]=>Y (lp b a)
 |[.str x,.tup a]=>Y (lp ((dG x).map .str) a)
 |_=>L
def ug(C:Fs)(it:Iw)(ρ:gZ):a5 (O Dat):=match it with
 |.itv a=>(bR C a ρ).bind λx=>i6 x.1
 |.rng b=>(lH C b ρ).bind JL
 |.zip b=>(lH C b ρ).bind Eg
 |.enu a=>(bR C a ρ).bind λx=>(NZ x.1).map λc=>nY 0 c
 |.rev a=>(bR C a ρ).bind λx=>YT x.1
def XX(C:Fs)(ρ:gZ):a5 Ex->a5 (a5 dc)
 |none=>Y L
 |some e=>Ki (bR C e ρ)
noncomputable def Y6:Dat->g_
 |.int i=>Y (.int (-i),J)
 |_=>L
noncomputable def ZQ(k:g_):Dat->g_
 |.bl b=>if b=U then k else Y (.bl J,J)
 |_=>L
noncomputable def orD(k:g_):Dat->g_
 |.bl b=>if b=U then Y (.bl U,J)else k
 |_=>L
def oJ(C:Fs)(c:T)(one:a7)(ρ0:gZ)(ifs:O Ex)(elt:Ex)(d:Dat):a5 g_:=
 (FX c one d ρ0).bind λa=>(vG C ifs a).bind λb=>if b=U then(bR C elt a).map Y else Y L
namespace Ex
noncomputable def con(d:Dat):Ex:=⟨[],λ_ _=>Y (d,J)⟩
abbrev e_(i:dc):Ex:=con (.int i)
abbrev f_(x:bw):Ex:=con (.str x)
noncomputable def v(i:T):Ex:=⟨[i],λ_ a=>((a[i]?).join).map λd=>(d,J)⟩
def bin(o:Vu)(a b:Ex):Ex:=⟨a.fv++b.fv,λC c=>(bR C a c).bind λx=>(bR C b c).bind λy=>fF o x.1 y.1⟩
def neg(a:Ex):Ex:=⟨[],λC b=>(bR C a b).bind λx=>Y6 x.1⟩
def cmp(o:VS)(a b:Ex):Ex:=⟨[],λC c=>(bR C a c).bind λx=>(bR C b c).bind λy=>(ef o x.1 y.1).map λr=>(.bl r,J)⟩
def MR(o e:VS)(a b c:Ex):Ex:=⟨[],λC d=>(bR C a d).bind λx=>(bR C b d).bind λy=>(ef o x.1 y.1).bind λr=>
 if r=U then(bR C c d).bind λz=>(ef e y.1 z.1).map λr=>(.bl r,J)else Y (.bl J,J)⟩
def and(a b:Ex):Ex:=⟨a.fv++b.fv,λC c=>(bR C a c).bind λx=>ZQ (bR C b c) x.1⟩
def or(a b:Ex):Ex:=⟨a.fv++b.fv,λC c=>(bR C a c).bind λx=>orD (bR C b c) x.1⟩
def not(a:Ex):Ex:=⟨[],λC c=>(bR C a c).bind λx=>(i5 x.1).map λb=>(.bl (!b),J)⟩
def ite(c a b:Ex):Ex:=⟨c.fv++a.fv++b.fv,λC d=>(bR C c d).bind λx=>(i5 x.1).bind λz=>if z=U then bR C a d else bR C b d⟩
def tup(es:O Ex):Ex:=⟨LA es,λC a=>(qJ C es a).bind λx=>if Z x.1<=1000000 then Y (.tup x.1,x.2)else L⟩
def lst(es:O Ex):Ex:=⟨LA es,λC a=>(qJ C es a).bind λx=>if Z x.1<=1000000 then Y (.lst x.1,x.2)else L⟩
def ix(a b:Ex):Ex:=⟨a.fv++b.fv,λC c=>(bR C a c).bind λx=>(bR C b c).bind λy=>(Dz x.1 y.1).map λd=>(d,J)⟩
noncomputable def Z9(o:a5 Ex):O T:=match o with
 |none=>[]
 |some e=>e.fv
def sl(a:Ex)(lo hi:a5 Ex):Ex:=⟨a.fv++Z9 lo++Z9 hi,λC b=>(bR C a b).bind λx=>(XX C b lo).bind λl=>(XX C b hi).bind λh=>Iy x.1 l h⟩
def call(f:T)(es:O Ex):Ex:=⟨LA es,λC a=>(lH C es a).bind λb=>C f b⟩
def blt(b:Ya)(es:O Ex):Ex:=⟨LA es,λC a=>(lH C es a).bind λc=>e8 b c⟩
def gG(m:Yw)(o:Ex)(es:O Ex):Ex:=⟨o.fv++LA es,λC a=>(bR C o a).bind λx=>(lH C es a).bind λb=>fV m x.1 b⟩
noncomputable def LY:Ex:=⟨[],λ_ _=>Y (.dct [] [],U)⟩
def FN(b:O Key)(es:O Ex):Ex:=⟨LA es,λC c=>(lH C es c).bind λa=>if Z b=Z a/\QC b=U/\Z b<=15 then Y (.dct b a,J)else L⟩
def comp(b:T)(one:a7)(caps:O T)(it:Iw)(ifs:O Ex)(elt:Ex):Ex:=⟨caps++fvI it,λC a=>(ug C it a).bind λitems=>if Z items<=1000000 then
 (pY (oJ C b one (ja b caps a) ifs elt) items).map λc=>(.lst c.1,c.2)else L⟩
end Ex
abbrev eh:=O g_
set_option genInjectivity true in
inductive Out where
 |nx (ρ:eh)|rt (d:Dat) (fr:a7)|bk (ρ:eh)|ct (ρ:eh)
noncomputable def xg(ρ:eh):gZ:=ρ.map λo=>match o with
 |some (d,J)=>Y d
 |_=>L
noncomputable def full(ρ:eh):gZ:=ρ.map λo=>o.map (·.1)
noncomputable def sr(ρ:eh):eh:=ρ.map λo=>o.map λs=>(s.1,J)
def Cy(ρ:eh):xg (sr ρ)=full ρ:=by
 unfold xg sr full;rw[bo];exact du λo _=>by cases o<;>rfl
noncomputable def kH(is:O T)(ρ:eh):eh:=is.foldl (λρ i=>ρ.modify i λo=>o.map λs=>(s.1,J)) ρ
def HF(C:Fs)(e:Ex)(ρ:eh):a5 (Dat×a7×eh):=(bR C e (full ρ)).bind λx=>if(im x.1 || x.2)=U then Y (x.1,x.2,ρ)
 else(bR C e (xg (kH e.fv ρ))).map λy=>(y.1,y.2,kH e.fv ρ)
def BA(C:Fs)(it:Iw)(ρ:eh):a5 (O Dat×eh):=match it with
 |.itv a=>(HF C a ρ).bind λx=>(i6 x.1).map λb=>(b,x.2.2)
 |.rng c=>(ug C (.rng c) (full ρ)).map λb=>(b,ρ)
 |.zip c=>(ug C (.zip c) (xg (kH (LA c) ρ))).map λb=>(b,kH (LA c) ρ)
 |.enu a=>(ug C (.enu a) (xg (kH a.fv ρ))).map λb=>(b,kH a.fv ρ)
 |.rev a=>(ug C (.rev a) (xg (kH a.fv ρ))).map λb=>(b,kH a.fv ρ)
noncomputable def oU:O T->O Dat->eh->eh
 |i::is,d::b,a=>oU is b (a.set i (Y (d,J)))
 |_,_,a=>a
def gr(one:a7)(B:O T)(d:Dat)(ρ:eh):a5 eh:=match one with
 | true=>match B with
   |[i]=>Y (ρ.set i (Y (d,J)))
   |_=>L
 | false=>match d with
   |.tup a=>if Z a=(Z B) then Y (oU B a ρ)else L
   |_=>L
noncomputable def VV(k:eh->a5 Out):Out->a5 Out
 |.nx a=>k a
 |.ct a=>k a
 |.bk a=>Y (.nx a)
 |.rt d fr=>Y (.rt d fr)
def iw(B:Dat->eh->a5 eh)(body:eh->a5 Out):O Dat->eh->a5 Out
 |[],a=>Y (.nx a)
 |d::c,a=>(B d a).bind λb=>(body b).bind (VV (iw B body c))
structure Sx where
 ex:Fs->eh->a5 Out
noncomputable def td(C:Fs)(s:Sx)(ρ:eh):a5 Out:=s.ex C ρ
noncomputable def Wg(k:eh->a5 Out):Out->a5 Out
 |.nx a=>k a
 |o=>Y o
def gJ(C:Fs):O Sx->eh->a5 Out
 |[],b=>Y (.nx b)
 |s::a,b=>(td C s b).bind (Wg (gJ C a))
def YA(B:O T)(ρ:eh):Dat->a5 Out
 |.tup a=>if Z a=(Z B) then Y (.nx (oU B a ρ))else L
 |_=>L
def WT(B:VP)(i:T)(ρ:eh)(ds:O Dat):g_->a5 Out
 |some (d,U)=>(mQ B d ds).map λa=>.nx (ρ.set i (Y (a,U)))
 |_=>L
namespace Sx
def set(i:T)(e:Ex):Sx:={ ex:=λC a=>(HF C e a).map λx=>.nx (x.2.2.set i (Y (x.1,x.2.1 && !im x.1))) }
def Yg(B:O T)(e:Ex):Sx:={ ex:=λC a=>(HF C e a).bind λx=>YA B x.2.2 x.1 }
def exp(e:Ex):Sx:={ ex:=λC a=>(bR C e (full a)).map λ_=>.nx a }
def ret(e:Ex):Sx:={ ex:=λC a=>(bR C e (full a)).map λx=>.rt x.1 x.2 }
noncomputable def uV(i:T):Sx:={ ex:=λ_ a=>((a[i]?).join).map λx=>.rt x.1 x.2 }
noncomputable def yP:Sx:={ ex:=λ_ _=>L }
noncomputable def brk:Sx:={ ex:=λ_ a=>Y (.bk a) }
def ifs(c:Ex)(a b:O Sx):Sx:={ ex:=λC d=>(bR C c (full d)).bind λx=>(i5 x.1).bind λz=>if z=U then gJ C a d else gJ C b d }
def loop(one:a7)(B:O T)(it:Iw)(body:O Sx):Sx:={ ex:=λC a=>(BA C it a).bind λx=>iw (gr one B) (gJ C body) x.1 x.2 }
def «mut» (B:VP)(i:T)(es:O Ex):Sx:={ ex:=λC a=>(qJ C es (full a)).bind λx=>if x.2=U then WT B i a x.1 (a[i]?).join else L }
end Sx
noncomputable def ZE:Out->g_
 |.nx _=>Y (.non,J)
 |.rt d fr=>Y (d,fr)
 |_=>L
def LG(C:Fs)(np nl:T)(body:O Sx)(ds:O Dat):g_:=
 if Z ds=np then(gJ C body (ds.map (λd=>Y (d,J))++eO (nl - np) L)).bind ZE else L
def gE(K:Fg)(C:Fs)(x:Ex):TE:=λσ H Q=>∃a d fr,bR C x a=Y (d,fr)/\tE K a d fr σ H Q
def gA(K:Fg)(C:Fs)(xs:O Ex):TA:=λσ H Q=>∃a b,lH C xs a=Y b/\tEs K a b σ H Q
def gF(K:Fg)(C:Fs)(xs:O Ex):TA:=λσ H Q=>∃b c a,qJ C xs b=Y (c,a)/\tFs K b c a σ H Q
def gT(K:Fg)(C:Fs)(x:Ex):TT:=λσ H Q=>∃a d fr b,bR C x a=Y (d,fr)/\i5 d=Y b/\tT K a b σ H Q
abbrev SE(X:Cx)(C:Fs)(e:br)(x:Ex):Prop:=PE X e (gE X.K C x)
abbrev SA(X:Cx)(C:Fs)(es:O br)(xs:O Ex):Prop:=PA X es (gA X.K C xs)
abbrev SF(X:Cx)(C:Fs)(es:O br)(xs:O Ex):Prop:=PA X es (gF X.K C xs)
abbrev ST(X:Cx)(C:Fs)(e:br)(x:Ex):Prop:=PT X e (gT X.K C x)
def gB(K:Fg)(f:Dat->Dat->g_):R2:=λx y H Q=>∃b a d fr,f b a=Y (d,fr)/\rD K b a d fr x y H Q
def gL(K:Fg)(f:O Dat->g_):O V->Hp->VK->Prop:=λb H Q=>∃a d fr,f a=Y (d,fr)/\rDs K a d fr b H Q
section
variable{X:Cx}{C:Fs}{e:br}
def bB{K:Fg}:(J=U->eZ K H b d v):=λh=>nomatch h
theorem R6(i:T)(o:X.N[i]?=Y x)(c:Q9 X.env.scope x)(hd:(x == ("__debug__":bw))=J)
  (B:(x == ("__classdict__":bw))=J):SE X C (.Name x pos) (.v i):=
 PE.imp (y7 o c hd B) λσ H Q b=>by
  obtain⟨f,d,fr,h,F,g,R,k⟩:=b;obtain⟨l,h1,h2⟩:=dY h;cases h2
  have a:f[i]?=Y (Y d):=by
   cases q:f[i]? with
   |none=>rw[q]at h1;cases h1
   |some z=>simp_all
  obtain⟨v,j,r⟩:=R i d a;exact⟨v,j,k v F H (Step.refl g) r bB⟩
def uN(h:PE X e (tC v))(hd:∀F,Rep X.K F d v):SE X C e (.con d):=
 PE.imp h λσ H Q a=>by
  obtain⟨b,c,fr,h,F,g,R,k⟩:=a;cases h;exact k v F H (Step.refl g) (hd _) bB
def Sf{j}:SE X C (.Constant (.int i) j pos) (.con (.int i)):=uN SY λ_=>W
def Wl{b:a7}{j}:SE X C (.Constant (.bool b) j pos) (.con (.bl b)):=uN WC λ_=>W
def R9{j}:SE X C (.Constant .none j pos) (.con .non):=uN SV λ_=>W
def R8{j}:SE X C (.Constant (.str x) j pos) (.con (.str x)):=uN SR λ_=>W
def N4(c:Gl X x)(b:X.mg x=Y u)(r:RelV v u)(B:∀F,Rep X.K F d v)(hd:(x == ("__debug__":bw))=J):SE X C (.Name x pos) (.con d):=uN (ES c b r hd) B
def BX{b c t:Type}{o:a5 b}{u:a5 c}{f:b->c->a5 t}{z:t}(h:(o.bind λx=>u.bind λy=>f x y)=Y z):∃x y,o=Y x/\u=Y y/\f x y=Y z:=by
 obtain⟨x,h1,h⟩:=c9 h;obtain⟨y,h2,h⟩:=c9 h;exact⟨x,y,h1,h2,h⟩
def yL(B:∀ρ d fr,bR C x ρ=Y (d,fr)->∃p q,bR C I ρ=Y p/\bR C P ρ=Y q/\f p.1 q.1=Y (d,fr)) :
  ∀σ H Q,gE X.K C x σ H Q->V0 (gB X.K f) (gE X.K C I) (gE X.K C P) σ H Q:=λσ H Q j=>by
 refine ac λ_ e=>?_;obtain⟨ρ,d,fr,h,F,g,R,k⟩:=j;obtain⟨⟨E,l⟩,⟨i,m⟩,h1,h2,h3⟩:=B ρ d fr h;refine e ?_;exact ⟨ρ,E,l,h1,F,g,R,λv G D a n _=>⟨ρ,i,m,h2,G,a.good,R.mono a.ff,λw o M b r _=>⟨E,i,d,fr,h3,o,b.good,n.mono b.ff,r,λu s t c y A=>k u s t ((a.trans b).trans c) y λz=>(A z).back (F:=F) (a.hh.trans b.hh)⟩⟩⟩
def Si(ho:iA X (ej op) (gB X.K (fF o)))(ha:SE X C a c)(hb:SE X C b f):SE X C (.BinOp a op b pos) (.bin o c f):=
 PE.imp (WA ho ha hb) (yL λg d fr h=>BX h)
def mW(o:VS)(x y:Dat):g_:=(ef o x y).map λr=>(.bl r,J)
def Sh(ho:iA X (dj op) (gB X.K (mW o)))(ha:SE X C a c)(hb:SE X C b f)(B:gv op b=J):SE X C (.Compare a [op] [b] pos) (.cmp o c f):=
 PE.imp (OA ho ha hb B) (yL λg d fr h=>BX h)
def Ry(ho:iA X (dj op) (gB X.K (mW o)))(ha:SE X C a t)(hb:SE X C b u)(B:gv op b=J):ST X C (.Compare a [op] [b] pos) (.cmp o t u):=
 PT.imp (Ot ho ha hb B) λσ H Q c=>by
  refine ac λ_ e=>?_;obtain⟨l,d,fr,b,h,hb,F,g,R,k⟩:=c;refine e ?_;refine yL (x:=.cmp o t u) (f:=mW o) (λl d fr h=>BX h) σ H _ ⟨l,d,fr,h,F,g,R,λv m i st r _=>?_⟩;refine ac λ_ e=>?_;obtain⟨p,q,_,_,h3⟩:=BX h;obtain⟨z,_,j⟩:=dY h3;cases j;cases hb;refine e ?_;exact⟨_,r,k m i st⟩
def Wk(B:VQ X (gB X.K λx y=>(Dz x y).map λd=>(d,J)))(ha:SE X C a c)(hb:SE X C b f)(hs:zO b):SE X C (.Subscript a b pos) (.ix c f):=
 PE.imp (WB B ha hb hs) (yL λg d fr h=>BX h)
def Sa(ha:SE X C a o):SE X C (.UnaryOp .USub a pos) (.neg o):=
 PE.imp (Wy Rr ha) λσ H Q c=>by
  refine ac λ_ e=>?_;obtain⟨n,d,fr,h,F,g,R,k⟩:=c;obtain⟨⟨m,f⟩,h1,h⟩:=c9 h;refine e ?_;refine⟨n,m,f,h1,F,g,R,λv p j b l _=>?_⟩
  cases m with
  |int i=>cases h;exact⟨i,l,k _ p j b W bB⟩
  |_=>cases h
set_option tactic.hygienic true in
theorem Eh{K:Fg}{F H:Hp}{d:Dat}{v:V}{b:a7}(g:Good F H)(r:Rep K F d v)(h:i5 d=Y b):Vk K v H b:=by
 cases d with
 |non=>rw[show v=.non from r];cases h;exact rfl
 |bl c=>rw[show v=.bl c from r];cases h;exact rfl
 |int i=>rw[show v=.int i from r];cases h;exact rfl
 |str x=>
   rw[show v=.str x from r];simp only[i5]at h;split at h
   .rename_i a;cases h;exact⟨a,W⟩
   .cases h
 |tup f=>
   obtain⟨p,vs,rfl,t,r⟩:=r;cases h
   have e:(!f.isEmpty)=!vs.isEmpty:=by
    have:=r.length
    cases f<;>cases vs<;>first|rfl|cases this
   rw[e];exact .inr (.inl ⟨vs,(t.mono g.sub).sq,W⟩)
 |lst f=>
   obtain⟨p,vs,rfl,t,r⟩:=r;cases h
   have e:(!f.isEmpty)=!vs.isEmpty:=by
    have:=r.length
    cases f<;>cases vs<;>first|rfl|cases this
   rw[e];exact .inl ⟨vs,g.sub.seq t,W⟩
 |dcn _=>cases h
 |dct k f=>
   obtain⟨p,j,rfl,t,l,r⟩:=r;cases h
   have e:(!k.isEmpty)=!j.isEmpty:=by
    rw[<-l];cases j<;>rfl
   rw[e];exact .inr (.inr ⟨j,g.sub _ _ t,W⟩)
def mo(h:SE X C e o)(t:∀whole,isTrue e X.env whole=(do let v <-whole;standAt e.pos;holding [v] (truthy v)):=by intro _;rfl):ST X C e o:=
 PT.imp (JV h t) λσ H Q z=>by obtain⟨i,d,fr,b,h,hb,F,g,R,k⟩:=z;exact⟨i,d,fr,h,F,g,R,λv j c a f _=>⟨b,Eh a.good f hb,k j c a⟩⟩
abbrev SW(X:Cx)(C:Fs)(e:br)(x:Ex):Prop:=PW X e (gT X.K C x)
def Nq(ha:ST X C a b):SW X C (.BoolOp .And [a] pos) b:=Om ha
def Ru(ha:ST X C a b):SW X C (.BoolOp .Or [a] pos) b:=Sy ha
def PW.imp(h:PW X e t)(f:∀σ H Q,t' σ H Q->t σ H Q):PW X e t':=λa h_ s σ H Q I q=>h a h_ s σ H Q I (f _ _ _ q)
def Rv{rest:O br}(ha:ST X C a t)(hb:SW X C (.BoolOp .And (b::rest) pos) u):SW X C (.BoolOp .And (a::b::rest) pos) (.and t u):=
 PW.imp (Sz ha hb) λσ H Q n=>by
  refine ac λ_ e=>?_;obtain⟨p,d,fr,z,h,j,F,g,R,k⟩:=n;obtain⟨⟨r,l⟩,h1,h⟩:=c9 h
  refine e ?_;cases r with
  |bl c=>
    cases c with
    |true=>exact⟨p,_,l,U,h1,W,F,g,R,λq m f=>by
      exact DB ⟨p,d,fr,z,h,j,q,f.good,R.mono f.ff,λo s i=>k o s (f.trans i)⟩⟩
    |false=>
      cases h;cases j
      exact⟨p,_,l,J,h1,W,F,g,R,λq m f=>by
       exact DC (k q m f)⟩
  |_=>cases h
def V6{rest:O br}(ha:ST X C a t)(hb:SW X C (.BoolOp .Or (b::rest) pos) u):SW X C (.BoolOp .Or (a::b::rest) pos) (.or t u):=
 PW.imp (Wq ha hb) λσ H Q n=>by
  refine ac λ_ e=>?_;obtain⟨p,d,fr,z,h,j,F,g,R,k⟩:=n;obtain⟨⟨r,l⟩,h1,h⟩:=c9 h
  refine e ?_;cases r with
  |bl c=>
    cases c with
    |false=>exact⟨p,_,l,J,h1,W,F,g,R,λq m f=>by
      exact DC ⟨p,d,fr,z,h,j,q,f.good,R.mono f.ff,λo s i=>k o s (f.trans i)⟩⟩
    |true=>
      cases h;cases j
      exact⟨p,_,l,U,h1,W,F,g,R,λq m f=>by
       exact DB (k q m f)⟩
  |_=>cases h
def Rx(ha:ST X C a o):ST X C (.UnaryOp .Not a pos) (.not o):=
 PT.imp (SD ha) λσ H Q b=>by
  refine ac λ_ e=>?_;obtain⟨j,d,fr,z,h,c,F,g,R,k⟩:=b;obtain⟨⟨l,f⟩,h1,h⟩:=c9 h;obtain⟨i,hb,h⟩:=dY h;cases h;cases c;refine e ?_;exact⟨j,l,f,i,h1,hb,F,g,R,k⟩
def Ez{op}(ha:SE X C a b):SE X C (.BoolOp op [a] pos) b:=SU ha
def Sj{rest:O br}(ha:SE X C a t)(hb:SE X C (.BoolOp .And (b::rest) pos) u):SE X C (.BoolOp .And (a::b::rest) pos) (.and t u):=
 PE.imp (S4 ha hb) λσ H Q j=>by
  refine ac λ_ e=>?_;obtain⟨r,d,fr,h,F,g,R,k⟩:=j;obtain⟨⟨w,l⟩,h1,h⟩:=c9 h
  refine e ?_;cases w with
  |bl c=>
    refine⟨r,_,l,h1,F,g,R,λv s m f n _=>⟨c,n,?_⟩⟩
    cases c with
    |true=>
      exact DB ⟨r,d,fr,h,s,f.good,R.mono f.ff,λv o x i p q=>k v o x (f.trans i) p λz=>(q z).back (F:=F) f.hh⟩
    |false=>
      cases h;exact DC (k _ s m f W bB)
  |_=>cases h
def Wi{rest:O br}(ha:SE X C a t)(hb:SE X C (.BoolOp .Or (b::rest) pos) u):SE X C (.BoolOp .Or (a::b::rest) pos) (.or t u):=
 PE.imp (Wz ha hb) λσ H Q j=>by
  refine ac λ_ e=>?_;obtain⟨r,d,fr,h,F,g,R,k⟩:=j;obtain⟨⟨w,l⟩,h1,h⟩:=c9 h
  refine e ?_;cases w with
  |bl c=>
    refine⟨r,_,l,h1,F,g,R,λv s m f n _=>⟨c,n,?_⟩⟩
    cases c with
    |false=>
      exact DC ⟨r,d,fr,h,s,f.good,R.mono f.ff,λv o x i p q=>k v o x (f.trans i) p λz=>(q z).back (F:=F) f.hh⟩
    |true=>
      cases h;exact DB (k _ s m f W bB)
  |_=>cases h
def Sd(u:ST X C t y)(ha:SE X C a B)(hb:SE X C b I):SE X C (.IfExp t a b pos) (.ite y B I):=
 PE.imp (Ke u ha hb) λσ H Q m=>by
  refine ac λ_ e=>?_;obtain⟨q,d,fr,h,F,g,R,k⟩:=m;obtain⟨⟨w,n⟩,h1,h⟩:=c9 h;obtain⟨z,o,h⟩:=c9 h;refine e ?_;refine⟨q,w,n,z,h1,o,F,g,R,λs p c=>?_⟩
  cases z with
  |true=>
    exact DB ⟨q,d,fr,h,s,c.good,R.mono c.ff,λv i r f j l=>k v i r (c.trans f) j λz=>(l z).back (F:=F) c.hh⟩
  |false=>
    exact DC ⟨q,d,fr,h,s,c.good,R.mono c.ff,λv i r f j l=>k v i r (c.trans f) j λz=>(l z).back (F:=F) c.hh⟩
def rC:SA X C [] []:=PA.imp Di λσ H Q a=>by
 obtain⟨b,c,h,F,g,R,k⟩:=a;cases h;exact k [] F H (Step.refl g) W
def lW(ha:SE X C e B)(o:SA X C es xs)(hs:aL (e::es) X.env=(J,eval e X.env)::aL es X.env):SA X C (e::es) (B::xs):=
 PA.imp (t6 ha o hs) λσ H Q c=>by
  refine ac λ_ m=>?_;obtain⟨n,s,h,F,g,R,k⟩:=c;obtain⟨⟨d,fr⟩,h1,h⟩:=c9 h;obtain⟨r,h2,h⟩:=dY h;cases h;refine m ?_;exact⟨n,d,fr,h1,F,g,R,λv p l a f _=>⟨n,r,h2,p,a.good,R.mono a.ff,λvs i q b j=>k _ i q (a.trans b) ⟨v,vs,W,f.mono b.ff,j⟩⟩⟩
def qA(h:n<=1000000):n<=aD:=by exact ab h iF
def R0:SF X C [] []:=PA.imp Di λσ H Q b=>by
 obtain⟨c,d,f,h,F,g,R,k⟩:=b;cases h;exact k [] F H (Step.refl g) W λ_=>⟨[],eP,(λa z=>by cases z),W,W⟩
def NU(ha:SE X C e B)(t:SF X C es xs)(hs:aL (e::es) X.env=(J,eval e X.env)::aL es X.env):SF X C (e::es) (B::xs):=
 PA.imp (t6 ha t hs) λσ H Q i=>by
  refine ac λ_ q=>?_;obtain⟨s,x,y,h,F,g,R,k⟩:=i;obtain⟨⟨d,fr⟩,h1,h⟩:=c9 h;obtain⟨⟨r,j⟩,h2,h⟩:=dY h;cases h;refine q ?_;refine⟨s,d,fr,h1,F,g,R,λv u p a f l=>⟨s,r,j,h2,u,a.good,R.mono a.ff,λvs m w b n o=>k _ m w (a.trans b) ⟨v,vs,W,f.mono b.ff,n⟩ λz=>?_⟩⟩;simp only[au,jf]at z;refine eX.cons a.hh b.hh ?_ (o z.2)
  rcases z.1 with c|c
  .exact l c
  .exact .ju a.good c f
set_option tactic.hygienic true
def R7{x1}(h:SF X C es xs):SE X C (.Tuple es x1 pos) (.tup xs):=
 PE.imp (SQ h) λσ H Q c=>by
  refine ac λ_ e=>?_;obtain⟨l,d,fr,h,F,g,R,k⟩:=c;obtain⟨⟨m,n⟩,h1,h⟩:=c9 h;refine e ?_;dsimp only at h;split at h
  .rename_i f;cases h;exact ⟨l,m,_,h1,F,g,R,λvs o j a b i=>⟨by rw[b.length];exact qA f,λp hp=>k _ _ _ (a.trans (Step.alloc a.good hp)) ⟨p,vs,W,.inl ck,b.mono (cc.upd (a.good.sub.free hp))⟩ λz=>.tup hp (i z)⟩⟩
  .cases h
def Sb(h:SF X C es xs):SE X C (.List es pos) (.lst xs):=
 PE.imp (SX h) λσ H Q c=>by
  refine ac λ_ e=>?_;obtain⟨j,d,fr,h,F,g,R,k⟩:=c;obtain⟨⟨m,n⟩,h1,h⟩:=c9 h;refine e ?_;dsimp only at h;split at h
  .rename_i f;cases h;refine⟨j,m,_,h1,F,g,R,λvs q l a b i=>⟨by rw[b.length];exact qA f,λp hp=>?_⟩⟩;exact k _ _ _ (a.trans (Step.alloc a.good hp)) ⟨p,vs,W,.inl (.inl ck),(b.mono (cc.upd (o:=.lst vs) (a.good.sub.free hp)))⟩ λz=>.lst a.hh hp (i z)
  .cases h
set_option tactic.hygienic false
def RO(K:Fg)(n:T)(f:O Dat->g_):Sp:=λvs H Q _=>Z vs=n/\gL K f vs H Q
def qP(B:∀ρ d fr,bR C x ρ=Y (d,fr)->∃ds,lH C xs ρ=Y ds/\f ds=Y (d,fr)) :
  ∀σ H Q,gE X.K C x σ H Q->YK (gL X.K f) (gA X.K C xs) σ H Q:=λσ H Q c=>by
 refine ac λ_ e=>?_;obtain⟨ρ,d,fr,h,F,g,R,k⟩:=c;obtain⟨ds,h1,h2⟩:=B ρ d fr h;refine e ?_;refine⟨ρ,ds,h1,F,g,R,λvs o n a i=>⟨ds,d,fr,h2,o,a.good,i,λv j p b l m=>k v j p (a.trans b) l λz=>(m z).back (F:=F) a.hh⟩⟩
theorem mV:∀{xs:O Ex}{ρ:gZ}{ds:O Dat},lH C xs ρ=Y ds->Z ds=Z xs
 |[],ρ,ds,h=>by cases h;rfl
 |x::xs,ρ,ds,h=>by
   obtain⟨d,_,h⟩:=c9 h;obtain⟨r,h2,h⟩:=dY h;cases h;rw[bf,bf,mV h2]
def N7{ps:O bw}(j n:T)(G:nH X.prog X.w X.K X.mg X.base Ic k f fd ps (RO X.K n (C j)))(c:mY k X.A)(t:Gl X x)(u:X.mg x=Y (.ref f))(y:fj X.K (.ref f)=U)(hb:Binds X.K fd ps [])
  (ha:SA X C (e::es) (B::xs))(z:Z (B::xs)=n)(I:(x == ("__debug__":bw))=J)(P:aL (e::es) X.env=(J,eval e X.env)::aL es X.env)(o:(e4 pos (aL es X.env)).any (·.1)=J) :
  SE X C (.Call (.Name x p) (e::es) [] pos) (.call j (B::xs)):=
 PE.imp (OB G c t u y hb .nil QB ha I P o) λσ H Q h=>by
  have l:=qP (x:=.call j (B::xs)) (λi d fr h=>c9 h) σ H Q h;obtain⟨i,m,h1,F,g,R,k⟩:=l;refine⟨i,m,h1,F,g,R,λvs q b a r1=>?_⟩;show RO X.K n (C j) (vs++[]) b Q E0;rw[aS];exact⟨by rw[r1.length,mV h1,z],k vs q b a r1⟩
def tZ{b:eS}(f:iB X (.builtin b) (gL X.K (e8 o)))(c:Gl X x)(t:X.mg x=L)(u:ei x=Y (.builtin b))(ha:SA X C (e::es) xs)(y:x≠"__name__")(B:(x == ("__debug__":bw))=J)
  (z:aL (e::es) X.env=(J,eval e X.env)::aL es X.env)(F:(e4 pos (aL es X.env)).any (·.1)=J):SE X C (.Call (.Name x p) (e::es) [] pos) (.blt o xs):=
 PE.imp (uZ f c t u ha y B z F) (qP λa d fr h=>c9 h)
def tY{T':eS}(f:iB X (.type T') (gL X.K (e8 o)))(b:Gl X x)(c:X.mg x=L)(t:ei x=Y (.type T'))(ha:SA X C (e::es) xs)(u:x≠"__name__")(B:(x == ("__debug__":bw))=J)
  (y:aL (e::es) X.env=(J,eval e X.env)::aL es X.env)(z:(e4 pos (aL es X.env)).any (·.1)=J):SE X C (.Call (.Name x p) (e::es) [] pos) (.blt o xs):=
 PE.imp (Hi f b c t ha u B y z) (qP λa d fr h=>c9 h)
end
section
variable{a b:br}{xs:O Ex}{s:ao}
theorem mN:∀{n:T}{ds:O Dat}{j:T}{d:Dat},dE n ds=U->ds[j]?=Y d->fU n d=U
 |_,[],_,_,_,e=>by simp at e
 |n,x::xs,0,d,h,e=>by
   simp only[dE,au]at h;simp at e;subst e;exact h.1
 |n,x::xs,j+1,d,h,e=>by
   simp only[dE,au]at h;exact mN h.2 (by simpa using e)
theorem p5:∀xs c:O Dat,oH xs c=((aJ (min xs.length c.length)).all (λj=>mw (xs.getD j .non) (c.getD j .non)) && Z xs == Z c)
 |[],[]=>by simp[oH]
 |[],y::c=>by simp[oH]
 |x::xs,[]=>by simp[oH]
 |x::xs,y::c=>by
   have h:=p5 xs c;simp only[oH,bf,Nat.succ_min_succ,Nat.succ_eq_add_one];rw[h,List.range_succ_eq_map,dC];simp[Function.comp_def,Qr]
def _root_.L2.Inv.lstR{a:aC}{vs:O V}(I:Inv X h_ σ H s)(g:Good F H)(h:pv X.K F a vs):∃c:O ag,cH vs c/\PlainL s.heap a c.toArray/\Z vs<=aD:=I.list (g.sub.seq h)
def _root_.L2.Inv.tupR{a:aC}{vs:O V}(I:Inv X h_ σ H s)(g:Good F H)(h:Tq X.K F a vs):∃c:O ag,cH vs c/\Il s.heap a c.toArray/\Z vs<=aD:=I.tuple (h.mono g.sub).sq
def _root_.L2.Inv.noLT{a:aC}{vs ws:O V}(I:Inv X h_ σ H s)(g:Good F H)(h:pv X.K F a vs)(t:Tq X.K F a ws):False:=by
 obtain⟨j,_,⟨o,n,e,c,_⟩,_⟩:=I.lstR g h;obtain⟨d,_,⟨k,f,i,_⟩,_⟩:=I.tupR g t
 grind
mutual
noncomputable def xJ:Dat->a7
 |.dct _ _=>J
 |.dcn _=>J
 |.tup xs=>lz xs
 |.lst xs=>lz xs
 |_=>U
noncomputable def lz:O Dat->a7
 |[]=>U
 |x::xs=>xJ x && lz xs
end
mutual
theorem va:∀(n:T)(d:Dat),fU n d=U->xJ d=U
 |n,.non,_=>rfl
 |n,.bl _,_=>rfl
 |n,.int _,_=>rfl
 |n,.str _,_=>rfl
 |0,.tup _,h=>by simp[fU]at h
 |0,.lst _,h=>by simp[fU]at h
 |n+1,.tup xs,h=>rQ n xs (by simpa [fU]using h)
 |n+1,.lst xs,h=>rQ n xs (by simpa [fU]using h)
 |n,.dct _ _,h=>by cases n<;>simp[fU]at h
 |n,.dcn _,h=>by cases n<;>simp[fU]at h
theorem rQ:∀(n:T)(ds:O Dat),dE n ds=U->lz ds=U
 |n,[],_=>rfl
 |n,d::ds,h=>by
   have c:fU n d=U/\dE n ds=U:=by cases n<;>simpa [dE]using h
   simp only[lz,va n d c.1,rQ n ds c.2,m8]
end
mutual
theorem AE(I:Inv X h_ σ H s)(g:Good F H):∀(o B:Dat){x:V},xJ o=U->xJ B=U->Rep X.K F o x->Rep X.K F B x->mw o B=U
 |.non,B,x,l,k,f,d=>by
   rw[f]at d
   cases B with
   |non=>rfl
   |tup _=>obtain⟨_,_,z,_⟩:=d;cases z
   |lst _=>obtain⟨_,_,z,_⟩:=d;cases z
   |dct _ _=>exact nomatch k
   |dcn _=>exact nomatch k
   |_=>cases d
 |.bl b,B,x,l,k,f,d=>by
   rw[f]at d
   cases B with
   |bl c=>cases d;simp[mw]
   |tup _=>obtain⟨_,_,z,_⟩:=d;cases z
   |lst _=>obtain⟨_,_,z,_⟩:=d;cases z
   |dct _ _=>exact nomatch k
   |dcn _=>exact nomatch k
   |_=>cases d
 |.int i,B,x,l,k,f,d=>by
   rw[f]at d
   cases B with
   |int c=>cases d;simp[mw]
   |tup _=>obtain⟨_,_,z,_⟩:=d;cases z
   |lst _=>obtain⟨_,_,z,_⟩:=d;cases z
   |dct _ _=>exact nomatch k
   |dcn _=>exact nomatch k
   |_=>cases d
 |.str i,B,x,l,k,f,d=>by
   rw[f]at d
   cases B with
   |str c=>cases d;simp[mw]
   |tup _=>obtain⟨_,_,z,_⟩:=d;cases z
   |lst _=>obtain⟨_,_,z,_⟩:=d;cases z
   |dct _ _=>exact nomatch k
   |dcn _=>exact nomatch k
   |_=>cases d
 |.dct _ _,_,_,l,_,_,_=>nomatch l
 |.dcn _,_,_,l,_,_,_=>nomatch l
 |.tup u,B,x,l,k,v,d=>by
   obtain⟨p,vs,e,t,r⟩:=v;subst e
   cases B with
   |tup n=>
     obtain⟨q,us,h,m,j⟩:=d;cases h;have ev :=I.oQ (t.mono g.sub).sq (m.mono g.sub).sq;subst ev;exact rG I g u n l k r j
   |lst n=>
     obtain⟨q,us,h,m,j⟩:=d;cases h;exact(I.noLT g m t).elim
   |dct _ _=>exact nomatch k
   |dcn _=>exact nomatch k
   |_=>cases d
 |.lst u,B,x,l,k,v,d=>by
   obtain⟨p,vs,e,t,r⟩:=v;subst e
   cases B with
   |lst n=>
     obtain⟨q,us,h,m,j⟩:=d;cases h;have ev :=I.qz (g.sub.seq t) (g.sub.seq m);subst ev;exact rG I g u n l k r j
   |tup n=>
     obtain⟨q,us,h,m,j⟩:=d;cases h;exact(I.noLT g t m).elim
   |dct _ _=>exact nomatch k
   |dcn _=>exact nomatch k
   |_=>cases d
theorem rG(I:Inv X h_ σ H s)(g:Good F H):∀(ds es:O Dat){vs:O V},lz ds=U->lz es=U->cB X.K F ds vs->cB X.K F es vs->oH ds es=U
 |[],es,vs,p,q,h,o=>by
   rw[show vs=[]from h]at o
   cases es with
   |nil=>rfl
   |cons _ _=>obtain⟨_,_,z,_⟩:=o;cases z
 |d::ds,es,vs,p,q,t,o=>by
   obtain⟨v,r,e,h1,h2⟩:=t;subst e
   cases es with
   |nil=>exact nomatch (show v::r=[]from o)
   |cons f fs=>
     obtain⟨m,n,l,j,k⟩:=o;cases l;simp only[oH,au];have c:xJ d=U/\lz ds=U:=by simpa [lz]using p
     have i:xJ f=U/\lz fs=U:=by simpa [lz]using q
     exact⟨AE I g d f c.1 i.1 h1 j,rG I g ds fs c.2 i.2 h2 k⟩
end
def yJ(r:cH vs f)(h:j<f.toArray.size):∃v,vs[j]?=Y v/\RelV v f.toArray[j]:=by
 have hl:=r.length;have c:j<Z vs:=by simp_all
 obtain⟨u,e,d⟩:=r.get (ae c);refine⟨_,ae c,?_⟩
 have:f.toArray[j]=u:=by
  have g:j<Z f:=by simpa using h
  simp_all
 rwa[this]
def TB(h:fU n (.dcn c)=U):False:=by
 cases n<;>simp[fU]at h
def Tx(h:fU n (.dct c vs)=U):False:=by
 cases n<;>simp[fU]at h
inductive Vw (s:ao):Dat->ag->Prop
 |non:Vw s .non .none
 |bl (b:a7):Vw s (.bl b) (.bool b)
 |int (i:dc) (t:Ck):Vw s (.int i) (.int i t)
 |str (x:bw) (t:Ck):Vw s (.str x) (.str x t)
 |tup {ds:O Dat} {p:aC} {its:eb ag}:s.heap.IsTuple p its->Vw s (.tup ds) (.ref p)
 |lst {ds:O Dat} {p:aC} {its:eb ag}:s.heap.IsList p its->Vw s (.lst ds) (.ref p)
def vw(I:Inv X h_ σ H s)(g:Good F H)(sa:fU n f=U)(B:Rep X.K F f x)(e:RelV x u):Vw s f u:=by
 cases f with
 |non=>cases B;rw[show u=.none from e];exact .non
 |bl b=>cases B;rw[show u=.bool b from e];exact .bl b
 |int i=>cases B;obtain⟨t,rfl⟩:=e;exact .int i t
 |str z=>cases B;obtain⟨t,rfl⟩:=e;exact .str z t
 |tup h=>
   obtain⟨p,vs,rfl,t,r⟩:=B;obtain⟨d,c,pl,_⟩:=I.tupR g t;rw[show u=.ref p from e];exact .tup pl
 |lst h=>
   obtain⟨p,vs,rfl,t,r⟩:=B;obtain⟨d,c,pl,_⟩:=I.lstR g t;rw[show u=.ref p from e];exact .lst pl.isList
 |dct _ _=>exact(Tx sa).elim
 |dcn _=>exact(TB sa).elim
noncomputable def isT:Dat->a7
 |.tup _=>U
 |_=>J
noncomputable def Xc:Dat->a7
 |.lst _=>U
 |_=>J
def Mv(a b:Dat):a7:=match a with
 |.tup _=>isT b
 |.lst _=>Xc b
 |_=>J
def Z1(A:bZ)(s:ao)(u w:ag)(b:a7):Prop:=qf A s u w b/\Gk A s u w b/\Ae A s u w (!b)
def LN{A:bZ}(B:A.units<cO)(a:Vw s c u)(b:Vw s db w)(h:Mv c db=J):Z1 A s u w (mw c db):=by
 cases a with
 |non=>
   cases b with
   |non=>exact⟨.same _,.none_none,.none_none⟩
   |bl _=>exact⟨.none_bool _,.none_bool _,.none_bool _⟩
   |int _ _=>exact⟨.none_int _ _,.none_int _ _,.none_int _ _⟩
   |str _ _=>exact⟨.none_str _ _,.none_str _ _,.none_str _ _⟩
   |tup q=>exact⟨.none_tuple q B,.none_tuple q B,.none_tuple q B⟩
   |lst q=>exact⟨.none_list q B,.none_list q B,.none_list q B⟩
 |bl _=>
   cases b with
   |non=>exact⟨.bool_none _,.bool_none _,.bool_none _⟩
   |bl _=>exact⟨.bool_bool _ _,.bool_bool _ _,.bool_bool _ _⟩
   |int _ _=>exact⟨.bool_int _ _ _,.bool_int _ _ _,.bool_int _ _ _⟩
   |str _ _=>exact⟨.bool_str _ _ _,.bool_str _ _ _,.bool_str _ _ _⟩
   |tup q=>exact⟨.bool_tuple _ q B,.bool_tuple _ q B,.bool_tuple _ q B⟩
   |lst q=>exact⟨.bool_list _ q B,.bool_list _ q B,.bool_list _ q B⟩
 |int _ _=>
   cases b with
   |non=>exact⟨.int_none _ _,.int_none _ _,.int_none _ _⟩
   |bl _=>exact⟨.int_bool _ _ _,.int_bool _ _ _,.int_bool _ _ _⟩
   |int _ _=>exact⟨.int_int _ _ _ _,.int_int _ _ _ _,.int_int _ _ _ _⟩
   |str _ _=>exact⟨.int_str _ _ _ _,.int_str _ _ _ _,.int_str _ _ _ _⟩
   |tup q=>exact⟨.int_tuple _ _ q B,.int_tuple _ _ q B,.int_tuple _ _ q B⟩
   |lst q=>exact⟨.int_list _ _ q B,.int_list _ _ q B,.int_list _ _ q B⟩
 |str _ _=>
   cases b with
   |non=>exact⟨.str_none _ _,.str_none _ _,.str_none _ _⟩
   |bl _=>exact⟨.str_bool _ _ _,.str_bool _ _ _,.str_bool _ _ _⟩
   |int _ _=>exact⟨.str_int _ _ _ _,.str_int _ _ _ _,.str_int _ _ _ _⟩
   |str _ _=>exact⟨.str_str _ _ _ _,.str_str _ _ _ _,.str_str _ _ _ _⟩
   |tup q=>exact⟨.str_tuple _ _ q B,.str_tuple _ _ q B,.str_tuple _ _ q B⟩
   |lst q=>exact⟨.str_list _ _ q B,.str_list _ _ q B,.str_list _ _ q B⟩
 |tup p=>
   cases b with
   |non=>exact⟨.tuple_none p B,.tuple_none p B,.tuple_none p B⟩
   |bl _=>exact⟨.tuple_bool _ p B,.tuple_bool _ p B,.tuple_bool _ p B⟩
   |int _ _=>exact⟨.tuple_int _ _ p B,.tuple_int _ _ p B,.tuple_int _ _ p B⟩
   |str _ _=>exact⟨.tuple_str _ _ p B,.tuple_str _ _ p B,.tuple_str _ _ p B⟩
   |tup q=>cases h
   |lst q=>exact⟨.tuple_list p q B,.tuple_list p q B,.tuple_list p q B⟩
 |lst p=>
   cases b with
   |non=>exact⟨.list_none p B,.list_none p B,.list_none p B⟩
   |bl _=>exact⟨.list_bool _ p B,.list_bool _ p B,.list_bool _ p B⟩
   |int _ _=>exact⟨.list_int _ _ p B,.list_int _ _ p B,.list_int _ _ p B⟩
   |str _ _=>exact⟨.list_str _ _ p B,.list_str _ _ p B,.list_str _ _ p B⟩
   |tup q=>exact⟨.list_tuple p q B,.list_tuple p q B,.list_tuple p q B⟩
   |lst q=>cases h
theorem qK(I:Inv X h_ σ H s)(g:Good F H):∀(n:T) (A:bZ) (da B:Dat) {x y:V} {u w:ag},A.units+n<cO->fU n da=U->fU n B=U->Rep X.K F da x->Rep X.K F B y->RelV x u->RelV y w->
  Z1 A s u w (mw da B):=by
 intro n
 induction n with
 |zero=>
   intro A da B x y u w E sa i k l C D;exact LN E (vw I g sa k C) (vw I g i l D) (by cases da<;>first|rfl|(cases sa;done))
 |succ n S=>
   intro A da B x y u w E sa i k l C D;have c :=bh (bP _ _) E;by_cases hk:Mv da B=J
   .exact LN c (vw I g sa k C) (vw I g i l D) hk
   have items:∀{ds es:O _} {vs us:O V} {its f:O ag},dE n ds=U->dE n es=U->cB X.K F ds vs->cB X.K F es us->cH vs its->cH us f->
     (∀j(h1:j<its.toArray.size)(h2:j<f.toArray.size),qf A.in1 s its.toArray[j] f.toArray[j] (mw (ds.getD j .non) (es.getD j .non)))/\its.toArray.size=Z ds/\f.toArray.size=Z es:=by
    intro ds es vs us its f s1 s2 J' L' m o;refine⟨λj h1 h2=>?_,by rw[aZ,<-m.length,J'.length],by rw[aZ,<-o.length,L'.length]⟩;refine ac λ_ a=>?_;obtain⟨v,e1,T'⟩:=yJ m h1;obtain⟨v',e2,U'⟩:=yJ o h2;have M:j<Z ds:=by have:=J'.length;have:=(aT.mp e1).1;omega
    have N:j<Z es:=by have:=L'.length;have:=(aT.mp e2).1;omega
    obtain⟨z1,P,G⟩:=J'.get (ae M);obtain⟨z2,Q,c0⟩:=L'.get (ae N);refine a ?_;rw[e1]at P;cases P;rw[e2]at Q;cases Q;have e7:ds.getD j .non=ds[j]:=by simp[List.getD,M]
    have g2:es.getD j .non=es[j]:=by simp[List.getD,N]
    rw[e7,g2];exact(S _ _ _ (by grind) (mN s1 (ae M)) (mN s2 (ae N)) G c0 T' U').1
   have both:∀{p q:aC},x=.ref p->y=.ref q->Gk A s (.ref p) (.ref q) (mw da B)->Ae A s (.ref p) (.ref q) (!mw da B)->Z1 A s u w (mw da B):=by
    intro p q e1 e2 h h';subst e1 e2;obtain rfl:u=.ref p:=C;obtain rfl:w=.ref q:=D;refine⟨?_,h,h'⟩;by_cases z:p=q
    .subst z;rw[AE I g da B (va _ _ sa) (va _ _ i) k l];exact .same _
    .exact .of_refs z h
   cases da with
   |tup ds=>
     cases B with
     |tup es=>
       obtain⟨p,vs,rfl,t,r⟩:=id k;obtain⟨its,m,pl,_⟩:=I.tupR g t;obtain⟨q,us,rfl,t',O'⟩:=id l;obtain⟨f,o,d,_⟩:=I.tupR g t';obtain⟨hi,e1,e2⟩:=items sa i r O' m o;have h1:=SeqAt.RcAt.tuples pl d c hi;have h2:=SeqAt.RcNeAt.tuples pl d c hi;rw[e1,e2,<-p5]at h1 h2;exact both W rfl h1 h2
     |_=>exact absurd rfl hk
   |lst ds=>
     cases B with
     |lst es=>
       obtain⟨p,vs,rfl,t,r⟩:=id k;obtain⟨its,m,pl,_⟩:=I.lstR g t;obtain⟨q,us,rfl,t',O'⟩:=id l;obtain⟨f,o,d,_⟩:=I.lstR g t';obtain⟨hi,e1,e2⟩:=items sa i r O' m o;have e:=p5 ds es;by_cases hsz:its.toArray.size=f.toArray.size
       .have h1:=SeqAt.RcAt.lists pl.isList d.isList hsz c hi;have h2:=SeqAt.RcNeAt.lists pl.isList d.isList hsz c hi;have e3:(Z ds == Z es)=U:=by simp_all
        rw[e3,kD,<-e1,<-e2,<-hsz,Nat.min_self]at e;rw[<-e]at h1 h2;exact both W rfl h1 h2
       .have R:(its.toArray.size != f.toArray.size)=U:=by simpa using hsz
        have h1:=SeqAt.RcAt.lists_lengths pl.isList d.isList R c;have e3:(Z ds == Z es)=J:=by grind
        rw[e3,Bool.and_false]at e;refine both W rfl ?_ ?_
        .show Gk _ _ _ _ (oH ds es);rwa[e]
        .show Ae _ _ _ _ (!oH ds es);rw[e];exact (SeqAt.RcNeAt.lists_lengths pl.isList d.isList R c)
     |_=>exact absurd rfl hk
   |_=>exact absurd rfl hk
end
section
variable{X:Cx}
def Es (h:Y (a,b)=Y (c,e)):a=c/\b=e:=by simp_all
def Kl:iA X (ej .Add) (λx y H Q=>∃a b z,x=.ref a/\y=.ref b/\yv X.K H a []/\yv X.K H b z/\Q (.ref b) H):=by
 intro h_ s σ H x y v u Q I i j h;refine ac λ_ w=>?_;obtain⟨a,b,z,rfl,rfl,ha,hb,q⟩:=h;cases i;cases j;obtain⟨A,k,l,_⟩:=I.tuple ha;obtain⟨m,t,o,_⟩:=I.tuple hb;cases k;obtain⟨⟨cls,p,data,sl⟩,ho,B,n,hd⟩:=id l;obtain⟨⟨g,d,data2,GQ⟩,c,e,r,f⟩:=id o;subst B hd e f;refine w ?_;exact v7 ⟨_,ho,W⟩ ⟨_,c,W⟩ yz Gg nj mI (me _ _) (tuple_addW0 a b _ _ n r p d sl GQ W) ⟨ho,c,.ref b,H,I,W,q⟩
set_option tactic.hygienic true
def OP:iA X (ej .Add) (gB X.K (fF .add)):=by
 intro h_ s σ H x y v u Q I c f h;refine ac λ_ E=>?_;obtain⟨da,N,d,fr,h,F,g,j,m,k⟩:=h;refine E ?_;cases da<;>cases N<;>simp only[fF,D1,reduceCtorEq]at h
 .obtain⟨rfl,rfl⟩:=Es h;exact Ts h_ s σ H _ _ v u Q I c f ⟨_,_,j,m,k _ F H (Step.refl g) W bB⟩
 .split at h
  .rename_i b;obtain⟨rfl,rfl⟩:=Es h;exact Dj h_ s σ H _ _ v u Q I c f ⟨_,_,j,m,b,k _ F H (Step.refl g) W bB⟩
  .cases h
 .split at h
  .rename_i xs ys b;refine ac λ_ E=>?_;obtain⟨rfl,rfl⟩:=Es h;obtain⟨p,vs,rfl,t,r⟩:=j;obtain⟨q,us,rfl,S,a⟩:=m;refine E ?_;by_cases G:vs=[]
   .subst G;have e :=uw r.length.symm;subst e;exact Kl h_ s σ H _ _ v u Q I c f ⟨p,q,us,W,W,(t.mono g.sub).sq,(S.mono g.sub).sq,k _ F H (Step.refl g) ⟨q,us,W,S,a⟩ bB⟩
   refine ON h_ s σ H _ _ v u Q I c f ⟨p,q,vs,us,W,W,(t.mono g.sub).sq,(S.mono g.sub).sq,G,?_,?_,?_⟩
   .rwa[r.length,a.length]
   .intro z;subst z;have e :=uw a.length.symm;refine k _ F H (Step.refl g) ⟨p,vs,W,t,?_⟩ bB
    simp_all
   .intro _ l hl;exact k _ _ _ (Step.alloc g hl) ⟨l,_,W,.inl ck,(r.append a).mono (cc.upd (g.sub.free hl))⟩ bB
  .cases h
 .split at h
  .rename_i xs ys b;refine ac λ_ E=>?_;obtain⟨rfl,rfl⟩:=Es h;obtain⟨p,vs,rfl,t,r⟩:=j;obtain⟨q,us,rfl,S,a⟩:=m;obtain⟨V,J',pl,_⟩:=I.lstR g t;obtain⟨w,L',A,_⟩:=I.lstR g S;obtain rfl:v=.ref p:=c;obtain rfl:u=.ref q:=f;obtain⟨⟨cls,O',data,sl⟩,ho,hc,n,hd⟩:=pl.isList;obtain⟨⟨M,B,data2,GQ⟩,i,C,P,D⟩:=A.isList;subst hc hd C D;refine E ?_;refine v7 ⟨_,ho,W⟩ ⟨_,i,W⟩ noFill_list_add seq_list_add PySem.F.slot_list_add PySem.F.entry_list_add (PySem.F.args_list_add_2 _ _) (list_addW p q _ _ n P O' B sl GQ (by rwa[aZ,aZ,<-J'.length,<-L'.length,r.length,a.length])) ⟨ho,i,?_⟩;have R:V.toArray++w.toArray=(V++w).toArray:=by simp
   rw[R];exact⟨.ref _,_,I.W4 (J'.append L') (by rwa[aN,r.length,a.length]),W,k _ _ _ (Step.alloc g I.fresh) ⟨_,_,W,.inl (.inl ck),((r.append a).mono (cc.upd (o:=.lst _) (g.sub.free I.fresh)))⟩ λz=>.lst (cc.refl _) I.fresh (.ju g z (r.append a))⟩
  .cases h
def EW{u:Operator}{o:Vu}{e:dc->dc->Prop}{f:dc->dc->dc}(h:iA X (ej u) (rI e λi j=>.int (f i j)))
  (hb:∀t B d fr,fF o t B=Y (d,fr)->∃i j,t=.int i/\B=.int j/\e i j/\d=.int (f i j)/\fr=J):iA X (ej u) (gB X.K (fF o)):=
 iA.imp h λx y H Q l=>by
  obtain⟨t,B,d,fr,h,F,g,a,b,k⟩:=l;obtain⟨i,j,rfl,rfl,c,rfl,rfl⟩:=hb t B d fr h;exact⟨i,j,a,b,c,k _ F H (Step.refl g) W bB⟩
def Dk{e:Operator}{o:Vu}{f:dc->dc->dc}(h:iA X (ej e) (Iz λi j=>.int (f i j)))
  (hb:∀c B d fr,fF o c B=Y (d,fr)->∃i j,c=.int i/\B=.int j/\d=.int (f i j)/\fr=J):iA X (ej e) (gB X.K (fF o)):=
 iA.imp h λx y H Q l=>by
  obtain⟨c,B,d,fr,h,F,g,a,b,k⟩:=l;obtain⟨i,j,rfl,rfl,rfl,rfl⟩:=hb c B d fr h;exact⟨i,j,a,b,k _ F H (Step.refl g) W bB⟩
def gc9{f:dc->dc->a7}(h:MS f a b=Y r):∃i j,a=.int i/\b=.int j/\r=f i j:=by
 cases a with
 |int i=>
   cases b with
   |int j=>cases h;exact⟨i,j,W,W,W⟩
   |_=>cases h
 |_=>cases h
def gu9{f:dc->dc->g_}(h:zK f a b=Y r):∃i j,a=.int i/\b=.int j/\f i j=Y r:=by
 cases a with
 |int i=>
   cases b with
   |int j=>exact⟨i,j,W,W,h⟩
   |_=>cases h
 |_=>cases h
def OE:iA X (ej .Sub) (gB X.K (fF .sub)):=Dk S5 λb a d fr h=>by
 obtain⟨i,j,rfl,rfl,h⟩:=gu9 h;simp_all
def OO:iA X (ej .BitAnd) (gB X.K (fF .band)):=Dk Tr λb a d fr h=>by
 obtain⟨i,j,rfl,rfl,h⟩:=gu9 h;simp_all
def S8:iA X (ej .BitOr) (gB X.K (fF .bor)):=Dk WE λb a d fr h=>by
 cases b<;>cases a<;>simp only[fF,zK,D1,D0,reduceCtorEq]at h
 grind
def OJ:iA X (ej .Mult) (gB X.K (fF .mul)):=by
 intro h_ s σ H x y v u Q I a b h;obtain⟨n,i,d,fr,h,F,g,e,f,k⟩:=h;cases n<;>cases i<;>simp only[fF,D0,reduceCtorEq]at h
 .split at h
  .rename_i c;cases h;exact Ta h_ s σ H _ _ v u Q I a b ⟨_,_,e,f,c,k _ F H (Step.refl g) W bB⟩
  .cases h
 .split at h
  .rename_i z j c;cases h;rw[e]at a;rw[f]at b;obtain⟨t,rfl⟩:=a;obtain⟨o,rfl⟩:=b;exact PySem.SB.mul c λl m=>⟨.str _,H,I.tok m,⟨l,W⟩,k _ F H (Step.refl g) W bB⟩
  .cases h
def Kk:iA X (ej .FloorDiv) (gB X.K (fF .fdiv)):=EW OM λb a d fr h=>by
 obtain⟨i,j,rfl,rfl,h⟩:=gu9 h;simp_all
def OK:iA X (ej .Mod) (gB X.K (fF .mod)):=EW Tc λb a d fr h=>by
 obtain⟨i,j,rfl,rfl,h⟩:=gu9 h;simp_all
def OF:iA X (ej .RShift) (gB X.K (fF .shr)):=EW S6 λb a d fr h=>by
 obtain⟨i,j,rfl,rfl,h⟩:=gu9 h;simp_all
def OG:iA X (ej .LShift) (gB X.K (fF .shl)):=EW S7 λc a d fr h=>by
 cases c<;>cases a<;>simp only[fF,zK,D1,D0,reduceCtorEq]at h
 split at h
 .rename_i b;cases h;exact⟨_,_,W,W,b,W,W⟩
 .cases h
def jX(h:mW o c db=Y (d,fr)):∃b,ef o c db=Y b/\d=.bl b/\fr=J:=by
 obtain⟨b,h1,h2⟩:=dY h
 grind
def zF{u:CmpOp}{o:VS}{f:dc->dc->a7}(h:iA X (dj u) (Iz λi j=>.bl (f i j)))(hb:∀t B b,ef o t B=Y b->∃i j,t=.int i/\B=.int j/\b=f i j):iA X (dj u) (gB X.K (mW o)):=
 iA.imp h λx y H Q a=>by
  refine ac λ_ l=>?_;obtain⟨t,B,d,fr,h,F,g,c,e,k⟩:=a;obtain⟨b,hd,rfl,rfl⟩:=jX h;obtain⟨i,j,rfl,rfl,rfl⟩:=hb t B b hd;refine l ?_;exact⟨i,j,c,e,k _ F H (Step.refl g) W bB⟩
def Te:iA X (dj .Lt) (gB X.K (mW .lt)):=zF WG λ_ _ _=>gc9
def Tf:iA X (dj .LtE) (gB X.K (mW .le)):=zF WH λc a b h=>by
 cases c<;>cases a<;>simp only[ef,MS,XO,Me,U6,reduceCtorEq]at h
 cases h;exact⟨_,_,W,W,W⟩
def Tn:iA X (dj .Gt) (gB X.K (mW .gt)):=zF WI λ_ _ _=>gc9
def To:iA X (dj .GtE) (gB X.K (mW .ge)):=zF WJ λc a b h=>by
 cases c<;>cases a<;>simp only[ef,MS,XO,Me,U6,reduceCtorEq]at h
 cases h;exact⟨_,_,W,W,W⟩
def Tp(B:X.A.units+20<cO):iA X (dj .Eq) (gB X.K (mW .eq)):=λh_ s σ H x y v u Q I c e a=>by
 refine ac λ_ l=>?_;obtain⟨n,f,d,fr,h,F,g,i,j,k⟩:=a;obtain⟨b,hd,rfl,rfl⟩:=jX h;refine l ?_;simp only[ef]at hd;split at hd
 .rename_i m;cases hd;simp only[au]at m;exact(qK I g 20 _ n f B m.1 m.2 i j c e).2.1 _ _ _ _ ⟨.bl _,H,I,W,k _ F H (Step.refl g) W bB⟩
 .cases hd
set_option tactic.hygienic false
end
structure Ow(K:Fg)(H₀ F H:Hp)(σ:St)(ρ:eh)(Ss:T->O aC):Prop where
 own:∀(i:T)d,ρ[i]?=Y (Y (d,U))->∃v,σ[i]?=Y (Y v)/\nZ K H d v (Ss i)/\(Ss i).Nodup/\∀a∈Ss i,F a=L/\H₀ a=L
 sep:∀(i j:T)d d',i≠j->ρ[i]?=Y (Y (d,U))->ρ[j]?=Y (Y (d',U))->∀a∈Ss i,a∉Ss j
structure Rl(K:Fg)(Fz H₀ F H:Hp)(σ:St)(ρ:eh):Prop where
 step:Step Fz H₀ F H
 len:Z σ=Z ρ
 val:∀(i:T)d,ρ[i]?=Y (Y (d,J))->∃v,σ[i]?=Y (Y v)/\Rep K F d v
 ow:∃Ss,Ow K H₀ F H σ ρ Ss
section
variable{K:Fg}{F:Hp}{σ:St}{ρ:eh}
def Nh{i:T}{d:Dat}(h:(xg ρ)[i]?=Y (Y d)):ρ[i]?=Y (Y (d,J)):=by
 unfold xg at h;rw[aV]at h
 cases q:ρ[i]? with
 |none=>rw[q]at h;cases h
 |some o=>
   rw[q]at h;cases o with
   |none=>cases (bb h)
   |some z=>
     obtain⟨a,b⟩:=z
     cases b with
     |true=>cases (bb h)
     |false=>cases (bb h);rfl
def Rl.xg(R:Rl K b H₀ F H σ ρ):mZ K F σ (xg ρ):=λi d e=>R.val i d (Nh e)
def Ow.moved(t:Ow K H₀ F H σ ρ u)(st:Step F H y z):Ow K H₀ y z σ ρ u where
 own:=λi d e=>by
  obtain⟨v,f,b,g,c⟩:=t.own i d e;refine⟨v,f,b.mono st.hh,g,λa m=>⟨?_,(c a m).2⟩⟩;obtain⟨o,ho,_⟩:=b.Cg _ a m;exact st.un a o ho (c a m).1
 sep:=t.sep
def Rl.moved(R:Rl K b H₀ F H σ ρ)(st:Step F H c f):Rl K b H₀ c f σ ρ where
 step:=R.step.trans st
 len:=R.len
 val:=λi d e=>let ⟨v,a,g⟩:=R.val i d e;⟨v,a,g.mono st.ff⟩
 ow:=let ⟨h,j⟩:=R.ow;⟨h,j.moved st⟩
def E9(i j:T)(f:g_->g_):(ρ.modify i f)[j]?=if i=j then(ρ[j]?).map f else ρ[j]? :=by
 by_cases h:i=j
 .simp_all
 simp_all
def i9(q:(ρ.modify i λo=>o.map λs=>(s.1,J))[j]?=Y (Y (d,b))):(i=j/\b=J/\∃B,ρ[j]?=Y (Y (d,B)))\/(i≠j/\ρ[j]?=Y (Y (d,b))):=by
 rw[E9]at q;by_cases h:i=j
 .rw[a6 h]at q;refine .inl ⟨h,?_⟩
  cases z:ρ[j]? with
  |none=>rw[z]at q;cases q
  |some o=>
    rw[z]at q
    cases o with
    |none=>cases q
    |some s=>grind
 .rw[c4 h]at q;exact .inr ⟨h,q⟩
def Rl.Pq(R:Rl K S H₀ F H σ ρ)(i:T):∃P,cc F P/\Rl K S H₀ P H σ (ρ.modify i λo=>o.map λs=>(s.1,J)):=by
 obtain⟨I,G⟩:=R.ow;by_cases ho:∃d,ρ[i]?=Y (Y (d,U))
 .obtain⟨d,ho⟩:=ho;obtain⟨v,y,A,D,B⟩:=G.own i d ho;have g:cc F (fz F H (I i)):=sj R.step.good.sub;refine⟨fz F H (I i),g,⟨⟨zw R.step.good,R.step.ff.trans g,R.step.hh,λa o q n=>?_⟩,?_,λj E q=>?_,I,λj E q=>?_,λj k d1 d2 c h l=>?_⟩⟩
  .rw[sk λm=>?_]
   .exact R.step.un a o q n
   .rw[(B a m).2]at q;cases q
  .rw[Ir];exact R.len
  .rcases i9 q with⟨rfl,_,u,b⟩|⟨_,b⟩
   .rw[ho]at b;cases b;exact⟨v,y,A.kH R.step.good d λa m=>m⟩
   .obtain⟨w,p,r⟩:=R.val j E b;exact⟨w,p,r.mono g⟩
  .rcases i9 q with⟨_,z,_⟩|⟨t,b⟩
   .cases z
   .obtain⟨w,p,r,C,x⟩:=G.own j E b;refine⟨w,p,r,C,λa m=>⟨?_,(x a m).2⟩⟩;rw[sk (G.sep j i E d (eW t) b ho a m)];exact(x a m).1
  .rcases i9 h with⟨_,z,_⟩|⟨_,e⟩
   .cases z
   .rcases i9 l with⟨_,z,_⟩|⟨_,f⟩
    .cases z
    .exact G.sep j k d1 d2 c e f
 .refine⟨F,cc.refl _,⟨R.step,by rw[Ir];exact R.len,λj E q=>?_,I,λj E q=>?_,λj k d1 d2 c h l=>?_⟩⟩
  .rcases i9 q with⟨rfl,_,u,b⟩|⟨_,b⟩
   .cases u with
    |true=>exact absurd ⟨_,b⟩ ho
    |false=>exact R.val _ E b
   .exact R.val j E b
  .rcases i9 q with⟨_,z,_⟩|⟨_,b⟩
   .cases z
   .exact G.own j E b
  .rcases i9 h with⟨_,z,_⟩|⟨_,e⟩
   .cases z
   .rcases i9 l with⟨_,z,_⟩|⟨_,f⟩
    .cases z
    .exact G.sep j k d1 d2 c e f
def Rl.freeze(R:Rl K f H₀ F H σ ρ):∀is:O T,∃e,cc F e/\Rl K f H₀ e H σ (kH is ρ):=by
 intro is
 induction is generalizing F ρ with
 |nil=>exact⟨F,cc.refl _,R⟩
 |cons i is a=>
   obtain⟨d,s1,b⟩:=R.Pq i;obtain⟨c,s2,R2⟩:=a b;exact⟨c,s1.trans s2,R2⟩
theorem FA:∀(is:O T)(ρ:eh)(j:T),(kH is ρ)[j]?=if j∈is then(ρ[j]?).map (λo=>o.map λs=>(s.1,J))else ρ[j]?
 |[],ρ,j=>by simp[kH]
 |i::is,ρ,j=>by
   have e:kH (i::is) ρ=kH is (ρ.modify i λo=>o.map λs=>(s.1,J)):=rfl;rw[e,FA is,E9];by_cases h:i=j
   .subst h;rw[a6 W,a6 (iT)];by_cases m:i∈is
    .rw[a6 m]
     cases ρ[i]? with
     |none=>rfl
     |some o=>cases o<;>rfl
    .rw[c4 m]
   grind
def HC:kH (aJ ρ.length) ρ=sr ρ:=by
 apply sL;intro j;rw[FA];unfold sr
 simp_all
def Rl.kZ(R:Rl K c H₀ F H σ ρ):∃b,cc F b/\Rl K c H₀ b H σ (sr ρ):=by
 obtain⟨b,s,a⟩:=R.freeze (aJ _);rw[HC]at a;exact⟨b,s,a⟩
def ip(q:(ρ.set i x)[j]?=Y (Y (d,b))):(i=j/\x=Y (d,b))\/(i≠j/\ρ[j]?=Y (Y (d,b))):=by
 rw[sH]at q;by_cases h:i=j
 .simp_all
 .rw[c4 h]at q;exact .inr ⟨h,q⟩
def Qs(hl:i<Z σ):(σ.set i (Y v))[i]?=Y (Y v):=n8 hl
def xM(q:(ρ.set i x)[i]?=Y y):i<Z ρ:=by
 rw[sH]at q
 simp_all
def Rl.CW(R:Rl K t H₀ F H σ ρ)(r:Rep K F d v):Rl K t H₀ F H (σ.set i (Y v)) (ρ.set i (Y (d,J))):=by
 obtain⟨s,p⟩:=R.ow;refine⟨R.step,by simpa using R.len,λj o q=>?_,s,λj o q=>?_,λj k d1 d2 b m n=>?_⟩
 .rcases ip q with⟨rfl,e⟩|⟨a,c⟩
  .cases e;exact⟨v,Qs (by rw[R.len];exact xM q),r⟩
  .obtain⟨w,f,g⟩:=R.val j o c;exact⟨w,by rw[iq a];exact f,g⟩
 .rcases ip q with⟨rfl,e⟩|⟨a,c⟩
  .cases e
  .obtain⟨w,f,g⟩:=p.own j o c;exact⟨w,by rw[iq a];exact f,g⟩
 .rcases ip m with⟨_,e⟩|⟨_,h⟩
  .cases e
  .rcases ip n with⟨_,e⟩|⟨_,l⟩
   .cases e
   .exact p.sep j k d1 d2 b h l
def Rl.R3(R:Rl K z H₀ F H σ ρ)(u:Ow K H₀ F H σ ρ y)(o:nZ K H d v S)(nd:S.Nodup)(t:∀a∈S,F a=L/\H₀ a=L)
  (B:∀(j:T)d',i≠j->ρ[j]?=Y (Y (d',U))->∀a∈y j,a∉S):Rl K z H₀ F H (σ.set i (Y v)) (ρ.set i (Y (d,U))):=by
 refine⟨R.step,by simpa using R.len,λj d' q=>?_,λj=>if j=i then S else y j,λj d' q=>?_,λj k d1 d2 f n p=>?_⟩
 .rcases ip q with⟨rfl,e⟩|⟨b,g⟩
  .cases e
  .obtain⟨w,r,h⟩:=R.val j d' g;exact⟨w,by simp_all,h⟩
 .rcases ip q with⟨rfl,e⟩|⟨b,g⟩
  .cases e;rw[a6 W];exact⟨v,Qs (by rw[R.len];exact xM q),o,nd,t⟩
  .obtain⟨w,r,h⟩:=u.own j d' g;rw[c4 (eW b)];exact⟨w,by simp_all,h⟩
 .intro a m
  rcases ip n with⟨rfl,e⟩|⟨h1,c⟩
  .grind
  .rw[c4 (eW h1)]at m
   rcases ip p with⟨rfl,e⟩|⟨h2,l⟩
   .rw[a6 W];exact B j d1 h1 c a m
   .rw[c4 (eW h2)];exact u.sep j k d1 d2 f c l a m
def Rl.full{K:Fg}(R:Rl K b H₀ F H σ (sr ρ)):mZ K F σ (M.full ρ):=by rw[<-Cy];exact R.xg
noncomputable def uz(F:Hp)(S:O aC):Hp:=λa=>if a∈S then L else F a
def xm(h:a∈S):uz F S a=L:=a6 h
def ou(h:a∉S):uz F S a=F a:=c4 h
def Step.YB(st:Step F H t f)(g:Good F H)(B:∀a∈S,H a=L)(o:nZ K f d v S):Step F H (uz t S) f:=by
 refine⟨⟨λa e q=>?_,λa vs q=>?_⟩,λa e q=>?_,st.hh,λa e q n=>?_⟩
 .by_cases m:a∈S
  .rw[xm m]at q;cases q
  .rw[ou m]at q;exact st.good.sub a e q
 .rw[ou λm=>?_]
  .exact st.good.tup a vs q
  .obtain⟨u,b,c⟩:=o.Cg _ a m;rw[q]at b;cases b;exact c
 .rw[ou λm=>?_]
  .exact st.ff a e q
  .rw[g.sub.free (B a m)]at q;cases q
 .by_cases m:a∈S
  .exact xm m
  .rw[ou m];exact st.un a e q n
theorem FE(R:Rl K Fz H₀ F H σ ρ)(h:HF C e ρ=Y (d,fr,y))
  (k:∀v Fm P I,cc F Fm->Rl K Fz H₀ Fm H σ y->Step Fm H P I->Rep K P d v->(fr=U->eZ K H I d v)->Q v I):∃B,bR C e B=Y (d,fr)/\tE K B d fr σ H Q:=by
 obtain⟨⟨d1,s⟩,h2,h⟩:=c9 h;dsimp only at h;by_cases c:(im d1 || s)=U
 .rw[a6 c]at h;have hh:d=d1/\fr=s/\y=ρ:=by grind
  obtain⟨i,j,l⟩:=hh;subst i j l;obtain⟨x,A,t⟩:=R.kZ;refine⟨_,h2,x,t.step.good,t.full,λv D g st r f=>?_⟩;have b:=Step.shrink R.step.good A st
  cases hi:im d with
  |true=>exact k v F _ g (cc.refl _) R b (r.shrink R.step.good st d hi) f
  |false=>
    rw[hi]at c;obtain⟨S,n,E,o⟩:=f c;have p:Step F H (fz (shr F H D) g S) g:=by
     refine⟨(zw (S:=S) b.good),b.ff.trans (sj b.good.sub),b.hh,λa u q nn=>?_⟩;rw[sk λm=>?_]
     .exact b.un a u q nn
     grind
    exact k v F _ g (cc.refl _) R p (o.kH b.good d λa m=>m) f
 .rw[c4 c]at h;obtain⟨⟨d2,z⟩,h3,h⟩:=dY h;cases h;obtain⟨w,s2,R2⟩:=R.freeze _;exact⟨_,h3,w,R2.step.good,R2.xg,λv P I st r f=>k v w P I s2 R2 st r f⟩
def zx(R:Rl K o H₀ F H σ ρ)(h:HF C e ρ=Y (d,fr,b))
  (k:∀v Fm f c,cc F Fm->Rl K o H₀ Fm H σ b->Step Fm H f c->Rep K f d v->(fr=U->eZ K H c d v)->Q v c):gE K C e σ H Q:=
 let ⟨_,h1,h2⟩:=FE R h k;⟨_,d,fr,h1,h2⟩
end
def vx(K:Fg)(f H₀ F:Hp)(D:Ends):Out->Prop
 |.nx b=>∀e c a,cc F e->Rl K f H₀ e c a b->D.nx a c
 |.bk b=>∀e c a,cc F e->Rl K f H₀ e c a b->D.bk a c
 |.ct b=>∀e c a,cc F e->Rl K f H₀ e c a b->D.ct a c
 |.rt d fr=>∀v e c,Step f H₀ e c->Rep K e d v->(fr=U->eZ K H₀ c d v)->D.rt v c
def vx.mono{K:Fg}{D:Ends}(s:cc F F1)(h:vx K t H₀ F D o):vx K t H₀ F1 D o:=by
 cases o with
 |nx b=>exact λc e a f R=>h c e a (s.trans f) R
 |bk b=>exact λc e a f R=>h c e a (s.trans f) R
 |ct b=>exact λc e a f R=>h c e a (s.trans f) R
 |rt d fr=>exact h
def gS(K:Fg)(C:Fs)(x:Sx):TS:=λD σ H=>∃b H₀ F c a,td C x c=Y a/\Rl K b H₀ F H σ c/\vx K b H₀ F D a
def gSs(K:Fg)(C:Fs)(xs:O Sx):TS:=λD σ H=>∃b H₀ F c a,gJ C xs c=Y a/\Rl K b H₀ F H σ c/\vx K b H₀ F D a
abbrev SS(X:Cx)(C:Fs)(st:l9)(x:Sx):Prop:=PS X st (gS X.K C x)
abbrev P9(X:Cx)(C:Fs)(st:O l9)(xs:O Sx):Prop:=B3 X st (gSs X.K C xs)
section
variable{X:Cx}{st:l9}{pos:uo}
def Nv:P9 X C [] []:=B3.imp Ou λD σ H a=>by
 obtain⟨c,H₀,F,d,b,h,R,k⟩:=a;cases h;exact k F H σ (cc.refl _) R
def Jp(h1:SS X C st x)(h2:P9 X C t xs):P9 X C (st::t) (x::xs):=B3.imp (JX h1 h2) λD σ H a=>by
 refine ac λ_ f=>?_;obtain⟨j,H₀,F,l,i,h,R,k⟩:=a;obtain⟨o,ho,h⟩:=c9 h;refine f ?_;refine⟨j,H₀,F,l,o,ho,R,?_⟩
 cases o with
 |nx g=>exact λm e b s1 c=>⟨j,H₀,m,g,i,h,c,k.mono s1⟩
 |bk g=>cases h;exact k
 |ct g=>cases h;exact k
 |rt d fr=>cases h;exact k
def RE{st:l9}:SS X C st .yP:=λh_ s σ H D I a=>by
 obtain⟨c,H₀,F,d,b,h,R,k⟩:=a;cases h
def RF(o:SE X C e xe):SS X C (.Return (Y e) pos) (.ret xe):=PS.imp (JY o) λD σ H b=>by
 refine ac λ_ g=>?_;obtain⟨m,H₀,F,n,i,h,R,k⟩:=b;obtain⟨⟨d,fr⟩,h1,h⟩:=dY h;cases h;obtain⟨c,p,a⟩:=R.kZ;refine g ?_;exact⟨_,d,fr,h1,c,a.step.good,a.full,λv j l st r f=>k v j l (a.step.trans st) r λz=>(f z).back (F:=F) R.step.hh⟩
def Nz{i:T}{x:bw}{p:uo}(t:X.N[i]?=Y x)(u:Q9 X.env.scope x)(hd:(x == ("__debug__":bw))=J)(B:(x == ("__classdict__":bw))=J):SS X C (.Return (Y (.Name x p)) pos) (.uV i):=
 PS.imp (JY (y7 t u hd B)) λD σ H e=>by
  obtain⟨w,H₀,F,j,y,h,R,k⟩:=e;obtain⟨⟨d,b⟩,h1,h⟩:=dY h;cases h
  have c:j[i]?=Y (Y (d,b)):=by
   cases q:j[i]? with
   |none=>rw[q]at h1;cases h1
   |some z=>simp_all
  cases b with
  |false=>
    obtain⟨v,g,r⟩:=R.val i d c;exact⟨v,g,k v F H R.step r bB⟩
  |true=>
    obtain⟨l,A⟩:=R.ow;obtain⟨v,g,s,E,f⟩:=A.own i d c;have st:Step w H₀ (fz F H (l i)) H:=by
     refine⟨zw R.step.good,R.step.ff.trans (sj R.step.good.sub),R.step.hh,λa o q n=>?_⟩;rw[sk λm=>?_]
     .exact R.step.un a o q n
     simp_all
    exact⟨v,g,k v _ H st (s.kH R.step.good d λa m=>m) λ_=>⟨l i,E,λa m=>(f a m).2,s⟩⟩
def RG(o:SE X C e xe)(hs:f9 e L pos.line X.env=pure J):SS X C (.Expr e pos) (.exp xe):=PS.imp (yY o hs) λD σ H b=>by
 refine ac λ_ i=>?_;obtain⟨m,H₀,F,n,l,h,R,k⟩:=b;obtain⟨⟨d,fr⟩,h1,h⟩:=dY h;cases h;obtain⟨c,j,a⟩:=R.kZ;refine i ?_;exact⟨_,d,fr,h1,c,a.step.good,a.full,λv p g st r f=>k _ g σ (Step.shrink R.step.good j st).ff (R.moved (Step.shrink R.step.good j st))⟩
def Wb(t:ST X C o u)(ha:P9 X C sa y)(hb:P9 X C B I):SS X C (.If o sa B pos) (.ifs u y I):=PS.imp (Ws t ha hb) λD σ H c=>by
 refine ac λ_ i=>?_;obtain⟨j,H₀,F,l,m,h,R,k⟩:=c;obtain⟨⟨d,fr⟩,h1,h⟩:=c9 h;obtain⟨z,e,h⟩:=c9 h;obtain⟨f,n,b⟩:=R.kZ;refine i ?_;refine⟨_,d,fr,z,h1,e,f,b.step.good,b.full,λp g st=>?_⟩;have a:=Step.shrink R.step.good n st
 cases z with
 |true=>
   exact DB ⟨j,_,_,l,_,h,R.moved a,k.mono a.ff⟩
 |false=>
   exact DC ⟨j,_,_,l,_,h,R.moved a,k.mono a.ff⟩
theorem GS{D:Ends}(R:Rl X.K I H₀ F H σ ρ)(h1:HF C xe ρ=Y (d,fr,z))(k:vx X.K I H₀ F D (.nx (z.set i (Y (d,fr && !im d))))) :
  ∃B,bR C xe B=Y (d,fr)/\tE X.K B d fr σ H (λv y=>D.nx (σ.set i (Y v)) y):=by
 refine FE R h1 λv Fm x y h c st r f=>?_;have w :=k
 cases e:fr && !im d with
 |false=>
   rw[e]at w;exact w x y _ (h.trans st.ff) ((c.moved st).CW r)
 |true=>
   rw[e]at w;simp only[au]at e;obtain⟨S,nd,A,o⟩:=f e.1;have b:=Step.YB st c.step.good A o;obtain⟨n,l⟩:=c.ow;refine w (uz x S) y _ (h.trans b.ff) ((c.moved b).R3 (l.moved b) o nd (λa m=>⟨xm m,R.step.hh.free (A a m)⟩) λj d2 _ q a m1 m2=>?_);obtain⟨s,p,g,_,_⟩:=l.own j d2 q;obtain⟨u,t,_⟩:=g.Cg _ a m1
   simp_all
def Aw(B:∀σ H Q,gE X.K C xe σ H Q->e σ H Q):∀D σ H,gS X.K C (.set i xe) D σ H->GL e (kN i) D σ H:=λD σ H b=>by
 refine ac λ_ c=>?_;obtain⟨m,H₀,F,n,f,h,R,k⟩:=b;obtain⟨⟨d,fr,g⟩,h1,h⟩:=dY h;cases h;obtain⟨a,j,l⟩:=GS R h1 k;refine c ?_;exact B _ _ _ ⟨a,d,fr,j,l⟩
def Jr{i:T}{x:bw}(B:X.N.Nodup)(hi:X.N[i]?=Y x)(b:Loc X.env.scope x)(c:SE X C e xe)(hs:f9 e (Y (.Name x pos')) pos.line X.env=pure J)
  (hf:X.fn x=U\/X.env.scope.names.lookup x=Y .local):SS X C (.Assign [.Name x pos'] e pos) (.set i xe):=
 PS.imp (SG B hi b c hs hf) (Aw λ_ _ _ h=>h)
end
end M
namespace L2
open PySem PySem.Spec PyProof.Rows
noncomputable def eK(X:Cx)(scope:mD)(cl:O (bw×aC))(N:O bw)(B:ao)(b:Hp)(C:aC)(ex:O aC):Cx:=
 { X with N:=N,s₀:=B,H₀:=b,env:=compEnvC scope cl C X.env,outer:=X.stack,stack:=X.stack,ex:=ex,fn:=λ_=>J,pn:=[],xe:=λ_ _=>False }
def MT(X:Cx)(ifs:O br)(t:TT):Prop:=
 ∀(h_:O (aC×k8))(s:ao)(σ:St)(H:Hp)(Q:a7->Hp->Prop),Inv X h_ σ H s->t σ H Q->
  aA (aB X.prog X.w) X.A (forIn ifs U λc r=>if r=U then do let ok <-isTrue c X.env (eval c X.env);pure (iO ok)else pure (iO r)) (TP X h_ σ Q) X.xe s
def Oq:MT X [] (λ_ H Q=>Q U H):=λ_ _ _ H _ I h=>wpAny_tests_nil ⟨H,I,h⟩
def Oo(h:PT X c t):MT X [c] t:=λh_ s σ H Q I a=>wpAny_tests_one (h h_ s σ H Q I a)
noncomputable def ic(b:T)(caps:O T)(σ:St):St:=eO b L++caps.map λj=>(σ[j]?).join
def Jk(o:TI)(t:T)(caps:O T)(g:TG)(B:TT)(u:TE):TE:=λσ H Q=>o σ H λj d=>∃e:T->T->O V->Hp->Prop,(∃m,e 0 m [] d)/\∀i m f H,e i m f H->
 (j.stop i H/\Z f<=aD/\∀p,H p=L->Q (.ref p) (upd H p (.lst f)))\/
 (j.go i H/\Z f<aD/\∀x k,j.yld i H x k->g x (ic t caps σ) k λh l=>B h l λb c=>
  if b=U then u h c λy n=>∃a,a<m/\e (i+1) a (f++[y]) n else ∃a,a<m/\e (i+1) a f c)
structure jb(X:Cx)(scope:mD)(tn cn:O bw)(caps:O T):Prop where
 kind:scope.kind=.function
 nocell:∀y∈scope.names,y.2≠.cell
 locs:∀y∈scope.names,y.2=.local->scope.names.lookup y.1=Y .local
 frees:∀y∈scope.names,y.2=.free->X.env.kindOf y.1=Y .cell\/X.env.kindOf y.1=Y .free
 nofree:∀x,scope.names.lookup x=Y .free->(x,dQ)∈scope.names
 caps:caps.map (λj=>X.N[j]?)=cn.map Y
 capk:∀x∈cn,X.env.kindOf x=Y .cell\/X.env.kindOf x=Y .free
 capn:∀x∈cn,scope.names.lookup x=Y .free
theorem uW{env:Qn}(x:bw):∀names:O (bw×kA),(names.map λ(n,k)=>if(k == dQ && env.scope.kind == .function && env.kindOf n == Y .cell)then(n,lS)else(n,k)).lookup x =
  (names.lookup x).map λk=>if(k == dQ && env.scope.kind == .function && env.kindOf x == Y .cell)then lS else k
 |[]=>rfl
 |(n,k)::r=>by
   by_cases a:x=n
   .subst a;simp only[ak,List.lookup_cons_self,bW];split<;>simp
   .have hb:(x == n)=J:=by simpa using a
    rw[fq,hb,<-uW x r,ak];dsimp only;split<;>rw[fq,hb]
def oz(x:bw):(j3 scope env).names.lookup x=(scope.names.lookup x).map λk=>if(k == dQ && env.scope.kind == .function && env.kindOf x == Y .cell)then lS else k:=uW x _
def yX{scope:mD}(b:∀y∈scope.names,y.2≠lS)(h:(j3 scope env).names.lookup x=Y .cell\/(j3 scope env).names.lookup x=Y .free):scope.names.lookup x=Y .free:=by
 rw[oz]at h
 cases q:scope.names.lookup x with
 |none=>rw[q]at h;simp at h
 |some k=>
   rw[q]at h;simp only[bW,i4]at h;by_cases a:k=.free
   .rw[a]
   .have hb:(k == dQ)=J:=by simpa using a
    rw[hb]at h
    rcases h with h|h
    .subst h;exact absurd rfl (b _ (fP q))
    .exact absurd h a
def qu{scope:mD}(h:scope.names.lookup x=Y .free):(j3 scope env).names.lookup x≠Y .local:=by
 rw[oz,h];simp only[bW,ne_eq,i4];split<;>(intro z;cases z)
section
variable{X:Cx}{h_:O (aC×k8)}{σ:St}{H:Hp}
theorem p6{env:Qn}:∀(names:O (bw×kA)) (cs:O (bw×aC)),(∀y∈names,y.2=.free->∃c,env.cells.lookup y.1=Y c)->(∀n c,cs.lookup n=Y c->env.cells.lookup n=Y c)->
  ∃cl:O (bw×aC),(forIn (m:=Af) names cs λx r=>if(x.2 == dQ)=U then do let a <-cellOf env x.1;pure (iO ((x.1,a)::r))else pure (iO r))=pure cl/\(∀n c,cl.lookup n=Y c->env.cells.lookup n=Y c)/\
   (∀n c,cs.lookup n=Y c->∃B,cl.lookup n=Y B)/\∀n,(n,dQ)∈names->∃c,cl.lookup n=Y c
 |[],cs,_,h2=>⟨cs,W,h2,λn c e=>⟨c,e⟩,λn z=>nomatch z⟩
 |(n,k)::r,cs,h1,h2=>by
   by_cases o:k=.free
   .subst o;obtain⟨c,p⟩:=h1 (n,.free) iT W
    have b:cellOf env n=pure c:=by
     unfold cellOf;rw[p]
    obtain⟨cl,e,f,g,h⟩:=p6 r ((n,c)::cs) (λy i=>h1 y (kc _ i)) (λm d e=>by
     grind)
    refine⟨cl,?_,f,λm d hd=>?_,λm j=>?_⟩
    .rw[gR];simp only[f5,e6,b,pure_bind];exact e
    .by_cases l:m=n
     .simp_all
     .have:(m == n)=J:=by simpa using l
      exact g m d (by rw[fq,this];exact hd)
    .rcases aq.mp j with z|z
     .simp_all
     .exact h m z
   .have hb:(k == dQ)=J:=by simpa using o
    obtain⟨cl,e,f,g,h⟩:=p6 r cs (λy i=>h1 y (kc _ i)) h2;refine⟨cl,?_,f,g,λm j=>?_⟩
    .simp_all
    .rcases aq.mp j with z|z
     .grind
     .exact h m z
def vL(ok:X.Ok)(S:jb X scope o t caps):∃cl:O (bw×aC),closureFor scope X.env=pure cl/\(∀n c,cl.lookup n=Y c->X.env.cells.lookup n=Y c)/\∀n,(n,dQ)∈scope.names->∃c,cl.lookup n=Y c:=by
 obtain⟨cl,e,a,_,b⟩:=p6 _ [] (λy d f=>ok.has _ (S.frees y d f)) (λn c e=>by simp at e);refine⟨cl,?_,a,b⟩;unfold closureFor;rwa[bind_pure]
def Inv.Am{D:aC}(I:Inv X h_ σ H s)(B:px X h_ H D)(hs:X.s₀.heap.objs.size<=D)(new:jO X.prog X.w (upd H D o) s.heap D o):Inv X h_ σ (upd H D o) s:=by
 obtain⟨d,h,hf,_,y,hp⟩:=B
 have g:∀b a,X.s₀.heap.get? b=Y a->b≠D:=λb a e z=>by
  subst z;exact absurd (bq (hl9 e) hs) (bJ _)
 refine⟨I.ok,I.os,I.bare,⟨I.base.keep,I.base.slot,λb a e n i=>?_,I.base.there,λb v e=>?_,λb a u e=>?_,λb ps e=>?_⟩,I.loc,I.cell,?_,λx c e=>?_,λp f=>?_,λb u e=>?_,I.len⟩
 .rw[cL (g b a e)];exact I.base.free b a e n i
 .rw[cL (dS (I.base.tups b v e) d)];exact I.base.tups b v e
 .rw[cL (dS (I.base.frzs b a u e) d)];exact I.base.frzs b a u e
 .obtain⟨m,q⟩:=I.base.tbls b ps e;exact⟨m,by rw[cL (dS q d)];exact q⟩
 .rw[cL (eW h)];exact I.free
 .rw[cL (y x c e)];exact I.freeC x c e
 .obtain⟨j,k,l,r,t⟩:=I.pin p f;exact⟨j,by rw[cL (hp p f)];exact k,l,r,t⟩
 .by_cases hb:b=D
  .subst hb;rw[ck]at e;cases e;exact new
  .rw[cL hb]at e;exact(I.hok b u e).nW (λ_ _ _ q=>q) (λc q=>by rw[cL (dS q d)];exact q) λc v q=>by rw[cL (dS q d)];exact q
theorem oM{iter:br}{ifs:O br}(J':T->ao->Prop)
  (turn:∀n s,J' n s->aA (aB prog w) A (hL it) (λr u=>match r with
   |none=>R (.ok .next) u
   |some v=>aA (aB prog w) A (hS target it v) (λ_ B=>aA (aB prog w) A (kl target env v) (λ_ o=>
     aA (aB prog w) A (forIn ifs U λc r=>if r=U then do let ok <-isTrue c env (eval c env);pure (iO ok)else pure (iO r)) (λok z=>
      if ok=U then aA (aB prog w) A (eval elt env) (λx t=>
       aA (aB prog w) A (call (.builtin "list.append") [acc,x]) (λ_ y=>∃m,m<n/\J' m y) (λ_ _=>False) t) (λ_ _=>False) z
      else ∃m,m<n/\J' m z) (λ_ _=>False) o) (λ_ _=>False) B) (λ_ _=>False) u) (λ_ _=>False) s)
  (n:T)(h:J' n s) :
  fC (aB prog w) A (.compLoop (.ListComp elt [⟨target,iter,ifs,0⟩] scope pos) 0 it acc env) R s:=by
 refine codeAny_loop W J' (λn s i=>?_) n h;refine wpAny_noted ?_;rw[compTurn_list];refine wb9 (Gc (wb9 (c8 (turn n s i) (λr u a=>?_) λ_ _ j=>j.elim)))
 cases r with
 |none=>exact wu9 a
 |some v=>
   refine wb9 (c8 a (λ_ B d=>?_) λ_ _ j=>j.elim);refine wb9 (c8 d (λ_ o e=>wb9 (c8 e (λok z b=>?_) λ_ _ j=>j.elim)) λ_ _ j=>j.elim)
   cases ok with
   |false=>exact wu9 ⟨W,b⟩
   |true=>
     exact wb9 (wb9 (c8 b (λx t f=>wb9 (c8 f (λ_ y g=>wu9 (wu9 ⟨W,g⟩)) λ_ _ j=>j.elim)) λ_ _ j=>j.elim))
def pL(b:T)(g:TG):Prop:=∀x σ H Q,g x σ H Q->g x σ H λa c=>Q a c/\Z a=Z σ/\∀i,b<=i->a[i]?=σ[i]?
def uE(h:i<b):pL b (kN i):=λx σ H Q q=>by
 refine⟨q,by simp,λj a=>?_⟩;rw[iq (λz=>(bD h (ab a (af z.symm))))]
def vS(c:T)(g:Rc):Prop:=∀b σ H Q,g b σ H Q->g b σ H λa d=>Q a d/\Z a=Z σ/\∀i,c<=i->a[i]?=σ[i]?
def GJ:vS b HB:=λa σ H Q ⟨e,q⟩=>⟨e,q,W,λ_ _=>W⟩
def CI(mono:∀x σ H Q z,(∀o y,Q o y->z o y)->t x σ H Q->t x σ H z)(B:∀x σ H Q z,(∀o y,Q o y->z o y)->u x σ H Q->u x σ H z)(F:pL C t)(I:vS C u):vS C (xZ t u):=λj σ H Q a=>by
 obtain⟨v,r,e,q⟩:=a;refine⟨v,r,e,?_⟩;exact mono _ _ _ _ _ (λo y ⟨b,c,s2⟩=>B _ _ _ _ _ (λd h ⟨f,g,s3⟩=>⟨f,g.trans c,λi hi=>(s3 i hi).trans (s2 i hi)⟩) (I _ _ _ _ b)) (F _ _ _ _ q)
def GI{K:aE}(B:vS b u):pL b (Ls K n u):=λx σ H Q ⟨a,c,e,h1,h2,q⟩=>⟨a,c,e,h1,h2,B _ _ _ _ q⟩
def vv:∀x σ H Q c,(∀b e,Q b e->c b e)->kN i x σ H Q->kN i x σ H c:=λ_ _ _ _ _ h q=>h _ _ q
def HA:∀x σ H Q c,(∀b e,Q b e->c b e)->HB x σ H Q->HB x σ H c:=λ_ _ _ _ _ h q=>⟨q.1,h _ _ q.2⟩
def DK(B:∀x σ H Q c,(∀b f,Q b f->c b f)->t x σ H Q->t x σ H c)(o:∀x σ H Q c,(∀b f,Q b f->c b f)->u x σ H Q->u x σ H c) :
  ∀x σ H Q c,(∀b f,Q b f->c b f)->xZ t u x σ H Q->xZ t u x σ H c:=λ_ _ _ _ _ h ⟨v,r,e,q⟩=>⟨v,r,e,B _ _ _ _ _ (λ_ _ a=>o _ _ _ _ _ h a) q⟩
def BE(X:Cx)(h_:O (aC×k8))(σ:St)(Q:VK)(B:ag)(C:aC)(r:Result)(b:ao):Prop:=
 r=.ok .next/\∃D a,B=.ref D/\(∃m,b.heap.Ns C m)/\Inv X h_ σ a b/\px X h_ a C/\Q (.ref D) a
theorem vK{iter:br}{ifs:O br}{cl:O (bw×aC)}
  (hcalm:X.calm=U)(S:jb X scope tn cn caps)(O':∀n c,cl.lookup n=Y c->X.env.cells.lookup n=Y c)(hhas:∀n,(n,dQ)∈scope.names->∃c,cl.lookup n=Y c)
  (hg:∀(cl:O (bw×aC))(B:ao)(c0:Hp)(C:aC)(ex:O aC),PG (eK X scope cl (tn++cn) B c0 C ex) tg g)(touch:pL tn.length g)
  (ht:∀(cl:O (bw×aC))(B:ao)(c0:Hp)(C:aC)(ex:O aC),MT (eK X scope cl (tn++cn) B c0 C ex) ifs tt)
  (he:∀(cl:O (bw×aC))(B:ao)(c0:Hp)(C:aC)(ex:O aC),PE (eK X scope cl (tn++cn) B c0 C ex) elt te)
  (hi:ZV X h_ σ tg (λJ' H1=>∃f3:T->T->O V->Hp->Prop,(∃m,f3 0 m [] H1)/\∀i m ys H,f3 i m ys H->
   (J'.stop i H/\Z ys<=aD/\∀p,H p=L->Q (.ref p) (upd H p (.lst ys)))\/
   (J'.go i H/\Z ys<aD/\∀x H',J'.yld i H x H'->g x (ic tn.length caps σ) H' λσ2 H2=>tt σ2 H2 λb H3=>
    if b=U then te σ2 H3 λy H4=>∃m',m'<m/\f3 (i+1) m' (ys++[y]) H4 else ∃m',m'<m/\f3 (i+1) m' ys H3)) itv B) :
  aA (aB X.prog X.w) X.A (newList []) (λacc s₃=>aA (aB X.prog X.w) X.A (newFunctionEnv scope X.env.globals cl [] X.env.qual L .none (Y X.env)) (λcenv s₄=>
   fC (aB X.prog X.w) X.A (.compStart (.ListComp elt [⟨tg,iter,ifs,0⟩] scope pos) 0 itv acc { cenv with scope:=j3 scope X.env }) (BE X h_ σ Q acc cenv.locals) s₄) E s₃) E B:=by
 refine ac λ_ kq=>?_;obtain⟨it,fp,tnn,J',H2,e,f,T',st2,f2,f3,⟨m0,w0⟩,turn⟩:=hi;subst e;refine kq ?_;refine eA (wpAny_newFunctionEnv S.nocell (by intro y hy;simp at hy) (λh₁ L' t=>?_) S.kind);generalize hH2:B.heap.push { cls:=.type "list",dict:=L,data:=.seq ([]).toArray }=G2 at L' t ⊢;have hC:G2.objs.size=B.heap.objs.size+1:=by rw[<-hH2,cm]
 have hDC:B.heap.objs.size≠G2.objs.size:=by rw[hC];exact ba (iQ _)
 have old :=λb o e=>t.extBut b o (by rw[hC];exact ba (ie (hl9 e))) (hp9 _ (hH2▸hp9 _ e));have hacc :=t.extBut _ _ hDC (hp9 _ (hH2▸ax _ W));generalize s:B.heap.objs.size=D at *;generalize hCd:G2.objs.size=C at *;have R:D<C:=by rw[hC];exact iQ _
 have hDD :=s;have pq:∀b o,B.heap.get? b=Y o->b<D:=λb o e=>s▸hl9 e;have fresh:∀a,D<=a->H2 a=L:=λa h=>f.hok.fresh (s▸h);have M:∀b∈fp,b<D:=λb hb=>by obtain⟨o,e,_⟩:=T'.obj 0 _ st2 b hb;exact pq b o e
 have frL:∀b∈ID X.stack,b<D:=λb hb=>by
  obtain⟨_,o,ho,_⟩:=f.stack.mem hb;exact pq b o ho
 have clL:∀x c,cl.lookup x=Y c->c<D:=λx c e=>by
  obtain⟨v,q⟩:=f.cell x c (O' x c e);exact s▸q.lt
 let g6 :=eK X scope cl (tn++cn) B H2 C fp
 have okY:g6.Ok:=by
  refine⟨f.ok.mod,S.kind,f.ok.glob,f.ok.blt,?_,λx y c h1 h2=>f.ok.inj x y c (O' x c h1) (O' y c h2),λx hx=>?_,(λx c h=>nomatch h),f.ok.hd,f.ok.frames,.inl rfl,λb hb=>⟨?_,λx c e=>?_⟩,λb o e=>f.bs b o e,?_,λb o e hb=>?_,λb hb z=>?_,f.stack,f.El⟩
  .exact bx (bh (af hDD) R)
  .have hx' :=hx;exact hhas x (S.nofree x (yX S.nocell hx'))
  .exact ba (dn (M b hb) R)
  .exact(f2 b hb).2.2.2.2.1 x c (O' x c e)
  .exact ab f.ok.bsz f.sz
  .rcases(f2 b hb).2.2.2.1 with z|z
   .exact f.ok.noex b o e z
   .exact absurd (bq (bq (hl9 e) f.ok.bsz) z) (bJ _)
  .have hb':=f2 b hb
   rcases aq.mp (f.uG b z)with q|q
   .exact hb'.2.1 q
   .exact hb'.2.2.1 q
 have invY:∀(s':ao) (m:bw->a5 ag),s'.os=B.os->n5 s'.gens->(∀b o,B.heap.get? b=Y o->s'.heap.get? b=Y o)->s'.heap.Ns C m->(∀(i:T) (x:bw) (v:V),(tn++cn)[i]?=Y x->(ic tn.length caps σ)[i]?=Y (Y v)->Q9 g6.env.scope x->∃u,RelV v u/\Look g6.env s'.heap m x u)->
   Inv g6 (X.pn++h_) (ic tn.length caps σ) H2 s':=λs' m ho hb hk hn hl=>by
  refine⟨okY,ho,hb,Un.kept hk,⟨m,hn,hl⟩,λx c e=>?_,fresh C (bx R),λx c e=>f.freeC x c (O' x c e),λp hp=>?_,f.hok.kept hk,?_⟩
  .obtain⟨v,q⟩:=f.cell x c (O' x c e);exact⟨v,q.keeps hk⟩
  .obtain⟨q1,q2,q3,q4,q5⟩:=f.pin p (by simpa [g6,eK]using hp);refine⟨hk _ _ q1,q2,?_,λz=>?_,q5⟩
   .exact ba (dn (pq _ _ q1) R)
   .rcases aq.mp (f.uG p.1 z)with w|w
    .exact q3 w
    .exact q4 w
  .show(ic tn.length caps σ).length=Z (tn++cn);have e:=dy jo S.caps;simp only[ah]at e;simp[ic,e]
 have loop:∀s₃:ao,s₃={ B with heap:=h₁,toks:=B.toks+Z ([]:O (bw×ag)) }->
   fC (aB X.prog X.w) X.A (.compLoop (.ListComp elt [⟨tg,iter,ifs,0⟩] scope pos) 0 (.ref it) (.ref D) (compEnvC scope cl C X.env)) (BE X h_ σ Q (.ref D) C) s₃:=by
  rintro s₃ rfl
  have I3:Inv g6 (X.pn++h_) (ic tn.length caps σ) H2 { B with heap:=h₁,toks:=B.toks+Z ([]:O (bw×ag)) }:=by
   refine invY _ _ W f.bare old L' λi x v e1 e2 e3=>?_
   have hi:Z tn<=i:=by
    by_cases hi:Z tn<=i
    .exact hi
    .unfold ic at e2;rw[a9 (by simpa using hi),dM]at e2;split at e2<;>cases e2
   unfold ic at e2;rw[aM (by simpa using hi),kh]at e2;rw[aM hi]at e1;rw[aV]at e2
   cases hj:caps[i - Z tn]? with
   |none=>rw[hj]at e2;cases e2
   |some j=>
     rw[hj]at e2;have e2':(σ[j]?).join=Y v:=bb e2
     have hσ:σ[j]?=Y (Y v):=by
      cases q:σ[j]? with
      |none=>rw[q]at e2';cases e2'
      | some z=>rw[q]at e2';cases z with
        |none=>cases e2'
        |some z=>exact dy Y e2'
     have hN:X.N[j]?=Y x:=by
      have e:=dy (λl=>l[i - Z tn]?) S.caps;simp only[aV,hj,e1,bW]at e;exact bb e
     have hk:=S.capk x (aX e1);obtain⟨m,hn,hl⟩:=f.loc;obtain⟨u,ru,l⟩:=hl j x v hN hσ (hk.elim (λz=>.inr (.inl z)) λz=>.inr (.inr z));refine⟨u,ru,.inr ?_⟩
     rcases l with⟨k,_⟩|⟨k,c,ec,hcell⟩
     .rw[k]at hk;rcases hk with z|z<;>cases z
     .
      rcases e3 with z|z|z
      .
       exact absurd z (qu (S.capn x (aX e1)))
      .obtain⟨c',I⟩:=okY.has x (.inl z);have ecc :=bb ((O' x c' I).symm.trans ec);rw[ecc]at I;exact⟨.inl z,c,I,hcell.keeps old⟩
      .obtain⟨c',I⟩:=okY.has x (.inr z);have ecc :=bb ((O' x c' I).symm.trans ec);rw[ecc]at I;exact⟨.inr z,c,I,hcell.keeps old⟩
  have pinD:∀{F:St} {H':Hp} {s':ao} {its:O ag} {n:T},Inv g6 (X.pn++h_) F H' s'->H' D=L->s'.heap.get? D=Y { cls:=.type "list",data:=.seq its.toArray n }->
    Inv g6 ((X.pn++h_)++[(D,{ cls:=.type "list",data:=.seq its.toArray n })]) F H' s':=λ{F H' s' its n}I' hn hd=>by
   refine I'.qv λp hp=>?_
   rcases aR.mp hp with z|z
   .exact I'.pin p (aF _ z)
   .have e:=aG.mp z;subst e;exact ⟨hd,hn,hDC,λz=>absurd (frL D z) (bJ _),(λv z=>nomatch z)⟩
  have fpD:∀{H':Hp},H' D=L->∀b,b=D->px g6 (X.pn++h_) H' b:=λ{H'}hn b hb=>by
   subst hb;refine⟨hn,hDC,λz=>absurd (frL b z) (bJ _),.inr (af s),λx c e z=>?_,λp hp z=>?_⟩
   .have:=clL x c e;rw[z]at this;exact absurd this (bJ _)
   .have:=pq _ _ (f.pin p (by simpa [g6,eK]using hp)).1;rw[z]at this;exact absurd this (bJ _)
  have stat:∀{H':Hp}{pl:O (aC×k8)},(∀b∈fp,H' b=L)->(∀p∈pl,p.1=D)->∀b∈fp,px g6 ((X.pn++h_)++pl) H' b:=λ{H' pl}hn hpl b hb=>by
   obtain⟨g0,g1,g2,g3,g4,g5⟩:=f2 b hb;refine⟨hn b hb,?_,λz=>?_,.inl hb,λx c e=>g4 x c (O' x c e),λp hp z=>?_⟩
   .exact ba (dn (M b hb) R)
   .rcases aq.mp (f.uG b z)with w|w
    .exact g1 w
    .exact g2 w
   .have G:p∈(X.pn++h_)++pl:=by simpa [g6,eK]using hp
    rcases aR.mp G with w|w
    .exact g5 p w z
    .have h2:=M b hb;rw[<-z,(hpl p w)]at h2;exact absurd h2 (bJ _)
  refine oM (λn s'=>∃(i:T) (ys:O V) (its:O ag) (k:T) (H':Hp),Inv g6 (X.pn++h_) (ic tn.length caps σ) H' s'/\H' D=L/\s'.heap.get? D=Y { cls:=.type "list",data:=.seq its.toArray k }/\cH ys its/\
   tnn i s'.heap/\(∀b∈fp,H' b=L)/\f3 i n ys H') ?_ m0 ⟨0,[],[],0,H2,I3,fresh D (aw _),hacc,.nil,T'.keep _ _ _ st2 λb hb o e=>old b o e,λb hb=>(f2 b hb).1,w0⟩
  rintro n s4 ⟨i,ys,its,k,H4,I4,hD4,ho4,rv4,st4,fr4,w4⟩;have I4':=pinD I4 hD4 ho4
  have pl1:∀p∈[((D,{ cls:=.type "list",data:=.seq its.toArray k }):aC×k8)],p.1=D:=λp hp=>by
   rw[aG.mp hp]
  rcases turn i n ys H4 w4 with⟨stop,hz,qn⟩|⟨go,hz,step⟩
  .
   refine fT (T'.done g6 W rfl rfl hcalm i _ s4 _ H4 _ I4' (stat fr4 pl1) st4 stop) λr s5 w7=>?_;obtain⟨hr,I5⟩:=w7;subst hr;have hd5:=(I5.pin (D,{ cls:=.type "list",data:=.seq its.toArray k }) (aF _ (aF _ (aG.mpr W)))).1;have U' :=I5.mL;have J5 :=f.XH U'.os U'.base U'.hok U'.bare λb hb=>⟨(f2 b hb).2.2.2.1,(f2 b hb).2.1,(f2 b hb).2.2.2.2.1,(f2 b hb).2.2.2.2.2⟩
   have up:∀a,D<=a->H4 a=L->px X h_ H4 a:=λa ha hn=>by
    refine⟨hn,?_,λz=>?_,.inr ?_,λx c e z=>?_,λp hp z=>?_⟩
    .have h1:=f.lt;intro z;rw[<-z,s]at h1;exact absurd (bq h1 ha) (bJ _)
    .exact f.WN (by rw[s];exact ha) z
    .exact ab f.sz (by rw[s];exact ha)
    .obtain⟨v,q⟩:=f.cell x c e;have h1:=q.lt;rw[z,s]at h1;exact absurd (bq h1 ha) (bJ _)
    .have h1:=pq _ _ (f.pin p hp).1;rw[z]at h1;exact absurd (bq h1 ha) (bJ _)
   have J6:Inv X h_ σ (upd H4 D (.lst ys)) s5:=J5.Am (up D (aw _) hD4) (by have h1:=f.sz;rw[s]at h1;exact h1) ⟨hz,its,k,rv4,hd5⟩;obtain⟨m5,hn5,_⟩:=U'.loc;refine⟨W,D,upd H4 D (.lst ys),W,⟨m5,hn5⟩,J6,?_,qn D hD4⟩;obtain⟨u0,u1,u2,u3,u4,u5⟩:=up C (bx R) U'.free;exact⟨by rw[cL (eW hDC)];exact u0,u1,u2,u3,u4,u5⟩
  .refine fT (T'.item g6 W rfl rfl hcalm i _ s4 _ H4 _ I4' (stat fr4 pl1) st4 go) λr s5 z0=>?_;obtain⟨u,hr,h5⟩:=z0;subst hr;refine fT h5 λ_ s6 z1=>?_;obtain⟨x,H6,I6,r6,y6,st6,fr6⟩:=z1;refine fT (hg cl B H2 C fp _ s6 _ H6 x u _ (I6.pinned (stat fr6 pl1) (T'.obj _ _ st6)) r6 (touch _ _ _ _ (step x H6 y6))) λ_ s7 z7=>?_
   obtain⟨σ7,H7,I7,q7,l7,e7⟩:=z7;have back:∀{H':Hp} {s':ao} {ys':O V} {P:O ag} {k':T} {n':T},Inv g6 (X.pn++h_++mr fp s6.heap) σ7 H' s'->H' D=L->s'.heap.get? D=Y { cls:=.type "list",data:=.seq P.toArray k' }->cH ys' P->f3 (i+1) n' ys' H'->
     ∃(i:T) (ys:O V) (its:O ag) (k:T) (H':Hp),Inv g6 _ (ic _ _ σ) H' s'/\H' D=L/\s'.heap.get? D=Y { cls:=.type _,data:=.seq its.toArray k }/\cH ys its/\tnn i _/\(∀b∈fp,H' b=L)/\f3 i n' ys H':=
    λ{H' s' ys' P k' n'}I' hd ho rv w=>by
     refine⟨_,_,P,k',H',(I'.mL).weak (by rw[l7]) (λj v hj=>?_),hd,ho,rv,T'.keep _ _ _ st6 λb hb o e=>(I'.pin _ (aF _ (aF _ (nv hb e)))).1,λb hb=>?_,w⟩
     .have hj':Z tn<=j:=by
       by_cases hj':Z tn<=j
       .exact hj'
       .unfold ic at hj;rw[a9 (by simpa using hj'),dM]at hj;split at hj<;>cases hj
      rw[e7 j hj'];exact hj
     .obtain⟨o,e,d⟩:=T'.obj _ _ st6 b hb;exact(I'.pin _ (aF _ (aF _ (nv hb e)))).2.1
   have K:∀{F:St}{H':Hp}{s':ao},Inv g6 (((X.pn++h_)++[(D,{ cls:=.type "list",data:=.seq its.toArray k })])++mr fp s6.heap) F H' s'->s'.heap.get? D=Y { cls:=.type _,data:=.seq _ k }/\H' D=L:=λI'=>by
    obtain⟨q1,q2,_⟩:=I'.pin (D,{ cls:=.type _,data:=.seq _ k }) (aF _ (bp _ (aF _ (aG.mpr W))));exact⟨q1,q2⟩
   have dropD:∀{F:St}{H':Hp}{s':ao},Inv g6 (((X.pn++h_)++[(D,{ cls:=.type "list",data:=.seq its.toArray k })])++mr fp s6.heap) F H' s'->Inv g6 (X.pn++h_++mr fp _) F H' s':=λI'=>
    I'.qv λp hp=>I'.pin p (aF _ (by
     rcases aR.mp hp with z|z
     .exact bp _ (bp _ z)
     .exact aF _ z))
   refine fT (ht cl B H2 C fp _ s7 _ H7 _ I7 q7) λb s8 q0=>?_
   obtain⟨H8,I8,q8⟩:=q0;cases b with
   |false=>
     obtain⟨m',hm,w8⟩:=q8;exact⟨m',hm,back (dropD I8) (K I8).2 (K I8).1 rv4 w8⟩
   |true=>
     refine fT (he cl B H2 C fp _ s8 _ H8 _ I8 q8) λv s9 w1=>?_;obtain⟨y,H9,I9,r9,m',hm,w9⟩:=w1;obtain⟨ho9,hD9⟩:=K I9;refine wpAny_list_append_plain (hsz:=bx (bh (af rv4.length.symm) hz)) ⟨k,ho9⟩ λh' hl' hs'=>?_;obtain⟨k',hk'⟩:=hl';have I10:Inv g6 (X.pn++h_++mr fp s6.heap) σ7 H9 { s9 with heap:=h' }:=by
      refine (dropD I9).turned (λb o hb e=>hs'.extBut b o hb e) hD9 hDC (.inr (af s)) (fpD hD9 D W).2.2.2.2.1 λp hp=>?_;have G:p∈X.pn++h_++mr fp s6.heap:=by simpa [g6,eK]using hp
      rcases aR.mp G with z|z
      .exact ba (pq _ _ (f.pin p z).1)
      .exact ba (M _ (xI z).1)
     refine⟨m',hm,back (k':=k') I10 hD9 ?_ (rv4.append (.cons r9 .nil)) w9⟩;simpa using hk'
 exact codeAny_compStart_list (loop _ W) (T'.self _ 0 _ _ _ (T'.keep _ _ _ st2 λb hb o e=>old b o e) (loop _ W))
def Oz{iter:br}{ifs:O br}
  (y:X.calm=U)(S:jb X scope P cn caps)(hi:PI X tg iter wi)
  (hg:∀(cl:O (bw×aC))(B:ao)(R:Hp)(C:aC)(ex:O aC),PG (eK X scope cl (P++cn) B R C ex) tg g)(F:pL P.length g)
  (ht:∀(cl:O (bw×aC))(B:ao)(R:Hp)(C:aC)(ex:O aC),MT (eK X scope cl (P++cn) B R C ex) ifs tt)
  (he:∀(cl:O (bw×aC))(B:ao)(R:Hp)(C:aC)(ex:O aC),PE (eK X scope cl (P++cn) B R C ex) elt te)
  (hs:∀x,er iter X.env x=pure x):PE X (.ListComp elt [⟨tg,iter,ifs,0⟩] scope pos) (Jk wi P.length caps g tt te):=by
 intro h_ s σ H Q I h;obtain⟨cl,c,h1,h2⟩:=vL I.ok S;refine Gf W hs c S.kind S.locs (fT (hi h_ s σ H _ I h) λv s1 j=>fT j λitv s2 d=>?_);refine c8 (vK y S h1 h2 hg F ht he d) (λk s3 l=>c8 l (λi u n=>ku n λr w p=>?_) λ_ _ z=>z) λ_ _ z=>z;obtain⟨rfl,D,A,rfl,⟨m,t⟩,E,a,q⟩:=p;exact ⟨m,t,λG f=>⟨.ref D,A,(E.turned (λb o hb e=>f.extBut b o hb e) a.1 a.2.1 a.2.2.2.1 a.2.2.2.2.1 a.2.2.2.2.2),W,q⟩⟩
def C9{iter:br}{ifs:O br}{c0:uo}(hN:X.N.Nodup)(hi':X.N[i]?=Y x)(hx:Loc X.env.scope x)
  (e1:X.calm=U)(S:jb X scope tn cn caps)(hi:PI X tg iter wi)
  (hg:∀(cl:O (bw×aC))(B:ao)(O':Hp)(C:aC)(ex:O aC),PG (eK X scope cl (tn++cn) B O' C ex) tg g)(touch:pL tn.length g)
  (ht:∀(cl:O (bw×aC))(B:ao)(O':Hp)(C:aC)(ex:O aC),MT (eK X scope cl (tn++cn) B O' C ex) ifs tt)
  (he:∀(cl:O (bw×aC))(B:ao)(O':Hp)(C:aC)(ex:O aC),PE (eK X scope cl (tn++cn) B O' C ex) elt te)
  (hsw:f9 (.ListComp elt [⟨tg,iter,ifs,0⟩] scope pos) (Y (.Name x pos')) c0.line X.env=pure U)
  (hs:∀x,er iter X.env x=pure x)(hf:X.fn x=U\/X.env.scope.names.lookup x=Y .local) :
  PS X (.Assign [.Name x pos'] (.ListComp elt [⟨tg,iter,ifs,0⟩] scope pos) c0) (GL (Jk wi tn.length caps g tt te) (kN i)):=by
 intro h_ s σ H D I h;obtain⟨cl,j,h1,h2⟩:=vL I.ok S;rw[exec_Assign_Name_used _ _ _ _ hsw];refine wb9 (Gc (wb9 ?_));refine wb9 (c8 (Gf W hs j S.kind S.locs (fT (hi h_ s σ H _ I h) λv s1 w=>fT w λitv s2 k=>?_)) (λ_ s' y=>wu9 (wu9 y)) λ_ _ e=>e);refine c8 (vK (Q:=λx A=>kN i x σ A _) e1 S h1 h2 hg touch ht he k) (λE s3 F=>c8 F (λa U' G=>ku G λr K L'=>?_) λ_ _ z=>z) λ_ _ z=>z;obtain⟨rfl,M,H',rfl,⟨m,P⟩,J',c,q⟩:=L';refine lk ?_;refine ac λ_ e2=>?_;obtain⟨f,es,ep,l,d,n⟩:=id P
 refine e2 ?_;have R:Inv X (h_++[(a.locals,f)]) σ H' K:=J'.qv λp hp=>by
  rcases aR.mp hp with z|z
  .exact J'.pin p (aF _ z)
  .have e:p=(a.locals,f):=by simpa using z
   subst e;exact⟨l,c.1,c.2.1,c.2.2.1,λv z=>by rw[d]at z;cases z⟩
 refine uF R hN hi' hx (v:=.ref M) W (λV u=>?_) hf;have T':=(u.pin (a.locals,f) (by simp)).1;exact ⟨m,⟨f,es,ep,T',d,n⟩,λh' t=>⟨_,H',((u.mL).turned (λb o hb e=>t.extBut b o hb e) c.1 c.2.1 c.2.2.2.1 c.2.2.2.2.1 c.2.2.2.2.2),q⟩⟩
end
end L2
namespace M
open PySem PySem.Spec PyProof.Rows L2
def j6(K:Fg)(F1:Hp)(J':It)(items:O Dat):Prop:=∀F H,Good F H->cc F1 F->
 (∀(i:T)d,items[i]?=Y d->J'.go i H/\∀x a,J'.yld i H x a->∃b,Step F H b a/\Rep K b d x)/\∀i,Z items<=i->J'.stop i H
noncomputable def vA(x:Iw)(F:Hp):Hp:=match x with
 |.rng _=>λ_=>L
 |_=>F
def Br(h:cc F b):cc (vA x F) b:=by
 unfold vA;split
 .intro a o e;cases e
 .exact h
def gI(K:Fg)(C:Fs)(x:Iw):TI:=λσ H R=>∃b items F,ug C x b=Y items/\Good F H/\mZ K F σ b/\∀c d a,Step F H d a->j6 K (vA x d) c items->R c a
abbrev SI(X:Cx)(C:Fs)(tg iter:br)(x:Iw):Prop:=PI X tg iter (gI X.K C x)
noncomputable def X7(x:bw):It:=⟨λi _=>i<x.cps.size,λi H v a=>a=H/\∃c,x.cps[i]?=Y c/\v=V.str ⟨#[c]⟩,λi _=>x.cps.size<=i⟩
def Je{K:aE}(x:bw)(t:Ck)(it:aC):Turn P w K tg (X7 x) [it] it (λi h=>h.IsStrIter it "str_ascii_iterator" x t i) where
 mem:=by simp
 obj:=λi h st b hb=>by
  have e:b=it:=by simpa using hb
  subst e;obtain⟨o,e,c,d⟩:=st;exact⟨o,e,λv z=>by rw[d]at z;cases z⟩
 keep:=λi h F st k=>by
  obtain⟨o,e,c,d⟩:=st;exact⟨o,k it (by simp) o e,c,d⟩
 item:=by
  intro X g j l G i h_ s σ H E I hf st a;subst g j l;obtain⟨m,n,A,p,q,r⟩:=hf it (by simp);have y:x.cps[i]?=Y (x.cps[i]'a):=a8 a;refine wpAny_pyNext_ascii_item st y λF f B=>?_;have C:Inv X h_ σ H { s with heap:=F,toks:=s.toks+1 }:=I.turned (λb o hb e=>(B.2 b hb).trans e) m n p q r;obtain⟨o,e,c,d⟩:=id f;exact⟨_,W,Bk (s:={ s with heap:=F,toks:=s.toks+1 }) e c d iF ⟨.str ⟨#[x.cps[i]'a]⟩,H,C,⟨_,W⟩,⟨W,_,y,W⟩,f,λb hb=>(hf b hb).1⟩⟩
 done:=by
  intro X g j l G i h_ s σ H E I hf st a;subst g j l;obtain⟨m,n,A,p,q,r⟩:=hf it (by simp);have u:x.cps.size<=i:=a;exact wpAny_pyNext_ascii_end (I.ok.hd G) st (gh u) λF D=>⟨W,I.turned (t':=s.toks) (λb o hb e=>D b o hb e) m n p q r⟩
 self:=λ_ _ _ _ _ st h=>wpAny_pyIter_striter_ascii st h
def Jc{K:aE}(x:bw)(t:Ck)(it:aC):Turn P w K tg (X7 x) [it] it (λi h=>h.IsStrIter it "str_iterator" x t i) where
 mem:=by simp
 obj:=λi h st b hb=>by
  have e:b=it:=by simpa using hb
  subst e;obtain⟨o,e,c,d⟩:=st;exact⟨o,e,λv z=>by rw[d]at z;cases z⟩
 keep:=λi h F st k=>by
  obtain⟨o,e,c,d⟩:=st;exact⟨o,k it (by simp) o e,c,d⟩
 item:=by
  intro X g j l G i h_ s σ H E I hf st a;subst g j l;obtain⟨m,n,A,p,q,r⟩:=hf it (by simp);have y:x.cps[i]?=Y (x.cps[i]'a):=a8 a;refine wpAny_pyNext_wide_item st y λF f B=>?_;have C:Inv X h_ σ H { s with heap:=F,toks:=s.toks+1 }:=I.turned (λb o hb e=>(B.2 b hb).trans e) m n p q r;obtain⟨o,e,c,d⟩:=id f;exact⟨_,W,Bk (s:={ s with heap:=F,toks:=s.toks+1 }) e c d iF ⟨.str ⟨#[x.cps[i]'a]⟩,H,C,⟨_,W⟩,⟨W,_,y,W⟩,f,λb hb=>(hf b hb).1⟩⟩
 done:=by
  intro X g j l G i h_ s σ H E I hf st a;subst g j l;obtain⟨m,n,A,p,q,r⟩:=hf it (by simp);have u:x.cps.size<=i:=a;exact wpAny_pyNext_wide_end (I.ok.hd G) st (gh u) λF D=>⟨W,I.turned (t':=s.toks) (λb o hb e=>D b o hb e) m n p q r⟩
 self:=λ_ _ _ _ _ st h=>wpAny_pyIter_striter_wide st h
def Zu(tl:TE):TI:=λσ H R=>tl σ H λv a=>∃x,v=.str x/\R (X7 x) a
def J7(hl:PE X l tl):PI X tg l (Zu tl):=by
 intro h_ s σ H R I h;refine fT (hl h_ s σ H _ I h) λv s1 g=>?_;obtain⟨y,c,a,d,f⟩:=g;obtain⟨x,rfl,q⟩:=f;obtain⟨t,rfl⟩:=d
 have fin:∀b∈[s1.heap.objs.size],px X h_ c b:=λb hb=>by
  have e:b=s1.heap.objs.size:=by simpa using hb
  subst e;exact a.tM (aw _) (a.hok.fresh (aw _))
 cases ha:x.cps.all (·< 128)with
 |true=>exact wpAny_pyIter_ascii ha ⟨_,_,_,_,c,W,a.kept λb o e=>hp9 _ e,Je x t _,⟨_,ax _ W,W,W⟩,fin,q⟩
 |false=>exact wpAny_pyIter_wide ha ⟨_,_,_,_,c,W,a.kept λb o e=>hp9 _ e,Jc x t _,⟨_,ax _ W,W,W⟩,fin,q⟩
def A9{K:Fg}:j6 K F1 (X7 x) (x.cps.toList.map λc=>Dat.str ⟨#[c]⟩):=λF H g s=>by
 refine⟨λi d hd=>?_,λi hi=>(by simpa using hi:x.cps.size<=i)⟩;rw[aV]at hd;obtain⟨c,e,rfl⟩:=dY hd;have a:x.cps[i]?=Y c:=by simp_all
 refine⟨(bY.mp a).1,λv h y=>?_⟩;obtain⟨rfl,f,b,rfl⟩:=y;rw[a]at b;cases b;exact⟨F,Step.refl g,W⟩
section
variable{iter:br}
def PI.imp(h:PI X tg iter w)(f:∀σ H R,b σ H R->w σ H R):PI X tg iter b:=λh_ s σ H R I q=>h h_ s σ H R I (f _ _ _ q)
def PI.or(h:PI X tg iter w)(b:PI X tg iter c):PI X tg iter (λσ H R=>w σ H R\/c σ H R):=λh_ s σ H R I q=>by
 rcases q with q|q
 .exact h h_ s σ H R I q
 .exact b h_ s σ H R I q
def xR{K:Fg}(h:pv K F1 a vs)(r:cB K F1 ds vs):j6 K F1 (ZZ K a) ds:=λF H g s=>by
 have b:=g.sub.seq (s.seq h);refine⟨λi d hd=>?_,λi hi=>⟨vs,b,by rw[r.length];exact hi⟩⟩;obtain⟨v,c,e⟩:=r.get hd;refine⟨⟨vs,v,b,c⟩,λx f y=>?_⟩;obtain⟨rfl,y⟩:=y;have:=y vs b;rw[c]at this;cases this;exact⟨F,Step.refl g,e.mono s⟩
def A8{K:Fg}(h:Tq K F1 a vs)(r:cB K F1 ds vs):j6 K F1 (ZY K a) ds:=λF H g s=>by
 have b:=((h.mono s).mono g.sub).sq;refine⟨λi d hd=>?_,λi hi=>⟨vs,b,by rw[r.length];exact hi⟩⟩;obtain⟨v,c,e⟩:=r.get hd;refine⟨⟨vs,v,b,c⟩,λx f y=>?_⟩;obtain⟨rfl,y⟩:=y;have:=y vs b;rw[c]at this;cases this;exact⟨F,Step.refl g,e.mono s⟩
def RU(h:SE X C e xe):SI X C tg e (.itv xe):=PI.imp (PI.or (PI.or (EN h) (J4 h)) (J7 h)) λσ H R i=>by
 refine ac λ_ j=>?_;obtain⟨m,items,F,hi,g,f,k⟩:=i;obtain⟨⟨d,fr⟩,h1,h2⟩:=c9 hi
 refine j ?_;cases d with
 |lst n=>
   cases h2;refine .inl (.inl ⟨m,_,fr,h1,F,g,f,λv l b st r _=>?_⟩);obtain⟨a,vs,rfl,c,r⟩:=r;exact⟨a,W,⟨vs,st.good.sub.seq c⟩,k _ l b st (xR c r)⟩
 |tup n=>
   cases h2;refine .inl (.inr ⟨m,_,fr,h1,F,g,f,λv l b st r _=>?_⟩);obtain⟨a,vs,rfl,c,r⟩:=r;exact⟨a,W,⟨vs,(c.mono st.good.sub).sq⟩,k _ l b st (A8 c r)⟩
 |str x=>
   cases h2;refine .inr ⟨m,_,fr,h1,F,g,f,λv l b st r _=>?_⟩;cases r;exact⟨x,W,k _ l b st A9⟩
 |_=>cases h2
def Ba{K:Fg}{lo:dc}:j6 K F1 (X8 lo n) ((aJ n).map λk:T=>Dat.int (lo+k)):=λF H g s=>by
 refine⟨λi d hd=>?_,λi hi=>(by simpa using hi:n<=i)⟩;rw[aV]at hd
 have hi:i<n:=by
  by_cases hi:i<n
  .exact hi
  simp_all
 rw[ae (by simpa using hi)]at hd;simp only[qW,bW,i4]at hd;subst hd;refine⟨hi,λx a y=>?_⟩;obtain⟨rfl,rfl⟩:=y;exact⟨F,Step.refl g,W⟩
set_option tactic.hygienic true
def NR(B:Gl X "range")(t:X.mg "range"=L)(ha:SA X C [a] [o])(hs:aL [a] X.env=[(J,eval a X.env)]):SI X C tg (.Call (.Name "range" p) [a] [] pos) (.rng [o]):=
 PI.imp (Hh B t ha hs) λσ H R c=>by
  obtain⟨i,items,F,hi,g,d,k⟩:=c;obtain⟨l,h1,h2⟩:=c9 hi;refine⟨i,l,h1,F,g,d,λvs F1 e st r=>?_⟩;unfold JL at h2;split at h2
  .rename_i j;split at h2
   .rename_i f;cases h2;obtain⟨v,w,rfl,h,b⟩:=r;cases h;cases b;refine⟨j,W,by omega,jq f.1 iF,k _ F1 e st ?_⟩;have:=Ba (K:=X.K) (F1:=vA (.rng [o]) F1) (lo:=0) (n:=j.toNat);simpa using this
   .cases h2
  .have:=mV h1;cases this
  .have:=mV h1;cases this
  .cases h2
def NQ(t:Gl X "range")(u:X.mg "range"=L)(ha:SA X C [a,b] [y,z])(hs:aL [a,b] X.env=[(J,eval a X.env),(J,eval b X.env)])(B:aL [b] X.env=[(J,eval b X.env)]) :
  SI X C tg (.Call (.Name "range" p) [a,b] [] pos) (.rng [y,z]):=
 PI.imp (Hg t u ha hs B) λσ H R e=>by
  obtain⟨q,items,F,hi,g,f,k⟩:=e;obtain⟨s,h1,h2⟩:=c9 hi;refine⟨q,s,h1,F,g,f,λvs x h st r=>?_⟩;unfold JL at h2;split at h2
  .have:=mV h1;cases this
  .rename_i i j;split at h2
   .rename_i m;cases h2;obtain⟨v,w,rfl,l,n,o,rfl,c,d⟩:=r;cases l;cases c;cases d;exact⟨i,j,W,by omega,k _ x h st Ba⟩
   .cases h2
  .have:=mV h1;cases this
  .cases h2
set_option tactic.hygienic false
end
def Hs(h:pY f (d::ds)=Y b):∃o r,f d=Y o/\pY f ds=Y r/\b=(match o with|some y=>(y.1::r.1,(y.2 || im y.1) && r.2)|none=>r):=by
 obtain⟨o,h1,h⟩:=c9 h;obtain⟨r,h2,h⟩:=dY h;exact⟨o,r,h1,h2,by cases o<;>exact h.symm⟩
def Vm(K:Fg)(e:T)(one:a7)(g:TG):Prop:=∀F H σ c d x b Q,Good F H->mZ K F σ c->e<=Z σ->Z σ=Z c->Rep K F d x->FX e one d c=Y b->(∀a,mZ K F a b->Q a H)->g x σ H Q
def AH{K:Fg}{σ:St}{ρ:gZ}(hl:Z σ=Z ρ)(R:mZ K F σ ρ)(r:Rep K F d v):mZ K F (σ.set i (Y v)) (ρ.set i (Y d)):=λj b q=>by
 rw[sH]at q ⊢;by_cases a:i=j
 .simp_all
 .rw[c4 a]at q ⊢;exact R j b q
def Nm{K:Fg}:Vm K c U (kN 0):=λF H σ e d x b Q g R a hl r hb k=>by
 simp only[FX,i4]at hb;subst hb;exact k _ (AH hl R r)
def HQ{K:Fg}(R:mZ K F σ ρ):mZ K F (ic e caps σ) (ja e caps ρ):=λi d q=>by
 unfold ja at q;unfold ic;by_cases hi:i<e
 .rw[a9 (by simpa using hi),dM,a6 hi]at q;cases q
 .rw[aM (by simpa using hi),kh,aV]at q;rw[aM (by simpa using hi),kh]
  cases b:caps[i - e]? with
  |none=>rw[b]at q;cases q
  |some j=>
    rw[b]at q;have a:(ρ[j]?).join=Y d:=bb q
    have c:ρ[j]?=Y (Y d):=by
     cases z:ρ[j]? with
     |none=>rw[z]at a;cases a
     |some o=>rw[z]at a;exact dy Y a
    obtain⟨v,f,g⟩:=R j d c
    simp_all
def VF(K:Fg)(C:Fs)(xs:O Ex):TT:=λσ H Q=>∃a b,vG C xs a=Y b/\tT K a b σ H Q
section
variable{iter:br}
def Nt:MT e [] (VF e.K C []):=λh_ s σ H Q I a=>by
 refine ac λ_ c=>?_;obtain⟨d,b,h,F,g,R,k⟩:=a;cases h;refine c ?_;exact Oq h_ s σ H Q I (k F H (Step.refl g))
def Nr(h:ST o C c xe):MT o [c] (VF o.K C [xe]):=λh_ s σ H Q I a=>by
 refine ac λ_ i=>?_;obtain⟨j,b,hb,F,g,R,k⟩:=a;refine i ?_;refine Oo h h_ s σ H Q I ?_;simp only[vG]at hb;obtain⟨⟨d,fr⟩,h1,hb⟩:=c9 hb;obtain⟨z,e,hb⟩:=c9 hb;refine⟨j,d,fr,z,h1,e,F,g,R,λl f st=>?_⟩
 grind
set_option tactic.hygienic true in
theorem yh{K:Fg}(O':Vm K nt one g)(c0:∀ρ items,ug C it ρ=Y items->True) :
  ∀σ H Q,gE K C (.comp nt one caps it xs xe) σ H Q->Jk (gI K C it) nt caps g (VF K C xs) (gE K C xe) σ H Q:=λσ H Q z3=>by
 refine ac λ_ S=>?_;obtain⟨ρ,d,fr,h,F,g0,R,k⟩:=z3;obtain⟨items,h1,h⟩:=c9 h;refine S ?_;split at h
 .rename_i hz;refine ac λ_ S=>?_;obtain⟨⟨all,T'⟩,h2,h⟩:=dY h;cases h;refine S ?_;refine⟨ρ,_,F,h1,g0,R,λJ' F1 U' j ok=>?_⟩;refine⟨λi m ys H'=>∃F' r u dr w,Step F1 U' F' H'/\pY (oJ C nt _ (ja nt _ ρ) xs xe) (items.drop i)=Y (dr,w)/\all=r++dr/\T'=(u && w)/\cB K F' r ys/\(u=U->eX K U' H' r ys)/\m=Z items - i/\i<=Z items/\Z r<=i,⟨_,F1,[],U,_,T',Step.refl j.good,h2,W,W,W,λ_=>.nil,W,aY _,aw _⟩,?_⟩;rintro i m ys H' ⟨F',r,u,dr,w,st,D,ha,n,E,L',rfl,hi,y⟩;have V:Z ys<=1000000:=by rw[E.length];exact ab y (ab hi hz)
  obtain⟨M,WL⟩:=ok F' H' st.good (Br st.ff);by_cases a:i<Z items
  .obtain⟨go,yl⟩:=M i _ (ae a);refine .inr ⟨go,by exact bh V iF,λx H2 y2=>?_⟩;obtain⟨N,c,r2⟩:=yl x H2 y2;rw[mF a]at D;obtain⟨o,⟨G,I⟩,h3,e1,h5⟩:=Hs D;obtain⟨s,h6,h3⟩:=c9 h3;obtain⟨b,h7,h3⟩:=c9 h3;refine O' N H2 _ _ _ x s _ c.good ((HQ R).mono ((j.ff.trans st.ff).trans c.ff)) (by simp[ic]) (by simp[ic,ja]) r2 h6 λσ1 A=>?_;refine⟨s,b,h7,N,c.good,A,λX H3 f=>?_⟩
   cases b with
   |true=>
     refine ac λ_ S=>?_;obtain⟨⟨l,t⟩,h8,h3⟩:=dY h3;cases h3;refine S ?_;refine⟨s,l,t,h8,X,f.good,A.mono f.ff,λv F4 H4 q e2 f4=>?_⟩;have stA:=((st.trans c).trans f).trans q;have e5:dr=l::G/\w=((t || im l) && I):=by grind
     refine⟨_,t9 (ws a) (wt (bx a)),F4,_,_,G,I,stA,e1,by rw[ha,e5.1];simp,by rw[n,e5.2,Qr],(E.mono ((c.ff.trans f.ff).trans q.ff)).append (.one e2),λz=>?_,W,a,by simp;omega⟩;simp only[au,jf]at z;have B:=c.hh.trans f.hh;refine eX.snoc (st.hh.trans B) q.hh ((L' z.1).mono B) ?_
     rcases z.2 with P|P
     .exact f4 P
     .exact .ju q.good P e2
   |false=>
     cases h3;have e5:dr=G/\w=I:=by simp_all
     exact⟨_,t9 (ws a) (wt (bx a)),X,r,u,G,I,(st.trans c).trans f,e1,by rw[ha,e5.1],by rw[n,e5.2],E.mono (c.ff.trans f.ff),λz=>(L' z).mono (c.hh.trans f.hh),W,a,fL y⟩
  .have e :=bu hi (iS a);subst e;refine .inl ⟨WL _ (aw _),qA V,λp hp=>?_⟩;rw[MM]at D;cases D;rw[aS]at ha;rw[kD]at n;subst ha n;exact k _ _ _ ((j.trans st).trans (Step.alloc st.good hp)) ⟨p,ys,W,.inl (.inl ck),(E.mono (cc.upd (o:=.lst ys) (st.good.sub.free hp)))⟩ λz=>.lst (j.hh.trans st.hh) hp ((L' z).back (F:=F) j.hh)
 .cases h
end
def vn{K:Fg}(h:tK d=Y k)(r:Rep K F d v):v=kV k:=by
 cases d with
 |int i=>cases h;exact r
 |str x=>cases h;exact r
 |_=>cases h
set_option tactic.hygienic true
theorem oY{K:Fg}:∀{ds:O Dat}{o:O (Key×V)},km k (o.map (·.1)) ds=Y d->cB K F ds (o.map (·.2))->∃v,ot o k=Y v/\Rep K F d v
 |[],[],h,_=>by cases h
 |[],_::_,h,_=>by cases h
 |_::_,[],h,_=>by cases h
 |e::ds,p::o,h,r=>by
   obtain⟨v,w,q,a,b⟩:=r;cases q;simp only[ak,km]at h;split at h
   .rename_i z;cases h;exact⟨_,qk z,a⟩
   .rename_i z;obtain⟨v,c,f⟩:=oY h b;exact⟨v,(oo z).trans c,f⟩
theorem rV{K:Fg}:∀{ds:O Dat}{c:O (Key×V)},km k (c.map (·.1)) ds=L->cB K F ds (c.map (·.2))->ot c k=L
 |_,[],_,_=>rfl
 |[],p::c,_,r=>by cases r
 |e::ds,p::c,h,r=>by
   obtain⟨v,w,q,b,a⟩:=r;cases q;simp only[ak,km]at h;split at h
   .cases h
   .rename_i z;exact(oo z).trans (rV h a)
set_option tactic.hygienic false
section
variable{X:Cx}{C:Fs}{e:br}{σ:St}{F H:Hp}
def FZ{K:Fg}(r:cB K F ds vs)(h:yt ds i=Y d):∃v,yt vs i=Y v/\Rep K F d v:=by
 unfold yt at h ⊢;rw[r.length];obtain⟨j,h1,h2⟩:=c9 h;obtain⟨v,b,a⟩:=r.get h2;exact⟨v,by rwa[h1],a⟩
set_option tactic.hygienic true in
def Zl(B:X.A.units+1<cO):VQ X (gB X.K λx y=>(Dz x y).map λd=>(d,J)):=by
 intro value slice h_ s σ H x y v u Q I f j h R;refine ac λ_ e=>?_;obtain⟨V,n,d,fr,h,F,g,l,m,k⟩:=h;obtain⟨d',h1,h2⟩:=dY h;obtain⟨rfl,rfl⟩:d'=d/\J=fr:=by cases h2;exact⟨W,W⟩
 refine e ?_;by_cases b:∃S M,V=.dct S M
 .refine ac λ_ e=>?_;obtain⟨S,M,rfl⟩:=b;have o:(tK n).bind (λk=>km k S M)=Y d':=by cases n<;>exact h1
  obtain⟨kk,hk,hl⟩:=c9 o;obtain⟨a,k_,rfl,q,rfl,D⟩:=l;obtain⟨w,N,P⟩:=oY hl D;obtain rfl:=vn hk m;cases f;refine e ?_;have dg:wO H a (kV kk) (Y w):=by rw[<-N];exact wO.k (g.sub _ _ q)
  exact PyProof.Rows.tail_any (BD I dg) PySem.F.slot_dict_getitem.lookup (HJ B I dg j λL' s' I' E=>⟨w,H,I',E,k _ F H (Step.refl g) P bB⟩) R
 cases V<;>first|exact absurd ⟨_,_,W⟩ b|skip
 all_goals cases n<;>simp only[Dz,reduceCtorEq]at h1
 .
  split at h1
  .rename_i z i G;obtain⟨c,h3,J'⟩:=dY h1;subst J';exact Uh value slice h_ s σ H x y v u Q I f j ⟨z,i,c,l,m,G,h3,k _ F H (Step.refl g) W bB⟩ R
  .cases h1
 .rename_i M i;obtain⟨p,vs,rfl,t,r⟩:=l;obtain⟨w,N,P⟩:=FZ r h1;exact Ug value slice h_ s σ H _ y v u Q I f j ⟨p,vs,i,w,W,m,(t.mono g.sub).sq,N,k _ F H (Step.refl g) P bB⟩ R
 .rename_i M i;obtain⟨p,vs,rfl,t,r⟩:=l;obtain⟨w,N,P⟩:=FZ r h1;exact Pg value slice h_ s σ H _ y v u Q I f j ⟨p,vs,i,w,W,m,g.sub.seq t,N,k _ F H (Step.refl g) P bB⟩ R
def gO(K:Fg)(C:Fs)(x:a5 Ex):TO:=λσ H Q=>∃a o F,XX C a x=Y o/\Good F H/\mZ K F σ a/\∀c b,Step F H c b->Q o b
abbrev SO(X:Cx)(C:Fs)(e:a5 br)(x:a5 Ex):Prop:=PO X e (gO X.K C x)
def PO.imp{e:a5 br}{t t':TO}(h:PO X e t)(f:∀σ H Q,t' σ H Q->t σ H Q):PO X e t':=λh_ s σ H Q I q=>h h_ s σ H Q I (f _ _ _ q)
def NI:SO X C L L:=PO.imp Ox λσ H Q a=>by
 obtain⟨b,o,F,ho,g,R,k⟩:=a;cases ho;exact k F H (Step.refl g)
def NH(h:SE X C e c):SO X C (Y e) (Y c):=PO.imp (Ov h) λσ H Q a=>by
 obtain⟨f,o,F,ho,g,R,k⟩:=a;obtain⟨⟨d,fr⟩,h1,h2⟩:=c9 ho
 cases d with
 |int i=>
   cases h2;exact⟨f,_,fr,h1,F,g,R,λv j b st r _=>⟨i,r,k j b st⟩⟩
 |_=>cases h2
def gSl(K:Fg):V->a5 dc->a5 dc->Hp->VK->Prop:=λx f hi H Q=>∃b d fr F,Iy b f hi=Y (d,fr)/\Good F H/\Rep K F b x/\∀v c a,Step F H c a->Rep K c d v->(fr=U->eZ K H a d v)->Q v a
def zC{K:Fg}(lo hi:a5 dc)(r:cB K F ds vs):cB K F (cutD ds lo hi) (DQ vs lo hi):=by
 unfold cutD DQ;rw[<-r.length];exact(r.drop _).take _
def qF{s:ao}{sl:aC}{lo:a5 dc}(o:Il s.heap t items)(hs:s.heap.IsSliceOf sl u y .none)(pl:rl u lo)(z:rl y hi)
  (B:HT.gC items.size 0 lo=0/\HT.gC items.size items.size hi=items.size)
  (h:Q (.ref t) s):aA (aB prog w) A (hQ (.ref t) (.ref sl)) Q E s:=by
 obtain⟨os,b,c,f⟩:=id hs;unfold hQ
 try with_reducible refine cx ?_
 first|refine wb9 _|skip
 refine wb9 (l5 o.typeIs iF ?_)
 refine wb9 (cC o.typeIs c5
  (bN c5 o.typeIs j4 ?_ (ky _ _)))
 show aA _ _ (ke _ >>= _) _ _ s;refine wb9 (tupleItemsOf_ o ?_);refine wb9 (g9 ⟨os,b,c⟩ ?_);refine wb9 (HT.mM hs pl z ?_)
 have a:((((HT.gC items.size 0 lo):dc) == 0 && (1:dc) == 1 && (HT.gC items.size items.size hi - HT.gC items.size 0 lo) == items.size)=U):=by
  rw[B.1,B.2];simp
 show aA _ _ (if(((HT.gC _ 0 lo):dc) == 0 && (1) == 1 && (HT.gC _ _ hi - HT.gC _ 0 lo) == items.size)=U then _ else _) _ _ s;rw[a6 a];refine wb9 ?_;exact wb9 (g9 o.typeIs (wu9 (wb9 (eQ (wu9 ⟨_,W,wu9 h⟩)))))
set_option tactic.hygienic true
def YQ:Yv X (gSl X.K):=by
 intro h_ s σ H x v w y E hi sl Q I c N pl f h;obtain⟨da,d,fr,F,h,g,m,k⟩:=h
 cases da with
 |lst M=>
   cases h;obtain⟨p,vs,rfl,t,r⟩:=m;refine NN h_ s σ H _ v w y E hi sl Q I c N pl f ⟨p,vs,W,g.sub.seq t,λq b=>?_⟩;exact k _ _ _ (Step.alloc g b) ⟨q,_,W,.inl (.inl ck),((zC E hi r).mono (cc.upd (o:=.lst _) (g.sub.free b)))⟩ λz=>.lst (cc.refl _) b (.ju g z (zC E hi r))
 |str z=>
   simp only[Iy]at h;split at h
   .rename_i A;cases h;rw[m]at c;obtain⟨t,rfl⟩:=c;obtain⟨o,ho,P,hd⟩:=N;refine⟨_,_,PySem.F.slot_str_getitem.lookup,typeIs_str ..,?_⟩;have fin:∀R V,EP X h_ σ Q (.str _ R) _:=λR V=>⟨.str _,H,I.tok V,⟨R,W⟩,k _ F H (Step.refl g) W bB⟩
    have a:=ab (Ad z E hi) A
    cases pl with
    |none=>
      cases f with
      |none=>exact j7 (l:=L) (u:=L) (st:=L) ⟨o,ho,P,hd⟩ W (p8 ⟨a,fin⟩)
      |int j n=>exact j7 (l:=L) (u:=Y (j,n)) (st:=L) ⟨o,ho,P,hd⟩ W (p8 ⟨a,fin⟩)
    |int i B=>
      cases f with
      |none=>exact j7 (l:=Y (i,B)) (u:=L) (st:=L) ⟨o,ho,P,hd⟩ W (p8 ⟨a,fin⟩)
      |int j n=>exact j7 (l:=Y (i,B)) (u:=Y (j,n)) (st:=L) ⟨o,ho,P,hd⟩ W (p8 ⟨a,fin⟩)
   .cases h
 |tup M=>
   cases h;obtain⟨p,vs,rfl,t,r⟩:=m;by_cases D:HT.gC M.length 0 E=0/\HT.gC M.length M.length hi=Z M
   .have e:cutD M E hi=M:=by
     unfold cutD
     simp_all
    rw[e]at k;cases c;obtain⟨S,G,ht,A⟩:=I.tuple (t.mono g.sub).sq;have hlen:S.toArray.size=Z M:=by rw[aZ,<-G.length,r.length]
    exact⟨_,_,c5.lookup,ht.typeIs,qF ht N pl f (by rwa[hlen]) ⟨.ref p,H,I,W,k _ F H (Step.refl g) ⟨p,vs,W,t,r⟩ bB⟩⟩
   .exact RR h_ s σ H _ v w y E hi sl Q I c N pl f ⟨p,vs,W,(t.mono g.sub).sq,by rwa[r.length],λq b=>k _ _ _ (Step.alloc g b) ⟨q,_,W,.inl ck,(zC E hi r).mono (cc.upd (g.sub.free b))⟩ bB⟩
 |_=>cases h
def Wh{lo:a5 br}(ha:SE X C a B)(hl:SO X C lo I)(hh:SO X C hi P):SE X C (.Subscript a (.Slice lo hi L S) pos) (.sl B I P):=
 PE.imp (Kd YQ ha hl hh) λσ H Q j=>by
  refine ac λ_ e=>?_;obtain⟨y,d,fr,h,F,g,R,k⟩:=j;obtain⟨⟨A,m⟩,h1,h⟩:=c9 h;obtain⟨l,h2,h⟩:=c9 h;obtain⟨u,h3,h⟩:=c9 h;refine e ?_;exact ⟨y,A,m,h1,F,g,R,λv D t b n _=>⟨y,l,D,h2,b.good,R.mono b.ff,λo G c=>⟨y,u,o,h3,c.good,R.mono (b.ff.trans c.ff),λp x f=>⟨A,d,fr,p,h,f.good,n.mono (c.ff.trans f.ff),λw q E i r s=>k w q E (((b.trans c).trans f).trans i) r λz=>(s z).back (F:=F) ((b.hh.trans c.hh).trans f.hh)⟩⟩⟩⟩
def S9(B:X.A.units+20<cO):iA X (dj .NotEq) (gB X.K (mW .ne)):=λh_ s σ H x y v u Q I c f a=>by
 refine ac λ_ e=>?_;obtain⟨n,i,d,fr,h,F,g,j,l,k⟩:=a;obtain⟨b,hd,rfl,rfl⟩:=jX h;refine e ?_;simp only[ef]at hd;split at hd
 .rename_i m;cases hd;simp only[au]at m;exact(qK I g 20 _ n i B m.1 m.2 j l c f).2.2 _ _ _ _ ⟨.bl _,H,I,W,k _ F H (Step.refl g) W bB⟩
 .cases hd
set_option tactic.hygienic false
def cis{K:Fg}(a:Rep K F c x)(hd:U6 b c .non=Y r):r=bif b then decide (x=.non)else !decide (x=.non):=by
 cases c with
 |non=>cases a;cases hd;cases b<;>rfl
 |_=>
   have e:x≠.non:=λe=>by cases e;first|(cases a;done)|(obtain⟨p,vs,e,_⟩:=a;cases e)
   rw[dd e];cases hd;cases b<;>rfl
def OL:iA X (dj .Is) (gB X.K (mW .isn)):=λh_ s σ H x y v u Q I f i n=>by
 obtain⟨o,m,d,fr,h,F,g,j,l,k⟩:=n;obtain⟨b,hd,rfl,rfl⟩:=jX h
 cases m with
 |non=>
   obtain rfl:=cis (b:=U) j hd;exact Tg h_ s σ H x y v u Q I f i ⟨l,k _ F H (Step.refl g) W bB⟩
 |bl c=>
   cases o with
   |bl a=>
     cases hd;cases j;cases l;obtain rfl:v=.bool a:=f;obtain rfl:u=.bool c:=i;refine wpAny_is_plain W ⟨.bl _,H,I,?_,k _ F H (Step.refl g) W bB⟩;cases a<;>cases c<;>rfl
   |_=>cases hd
 |_=>cases hd
def Kj:iA X (dj .IsNot) (gB X.K (mW .nisn)):=λh_ s σ H x y v u Q I f i n=>by
 obtain⟨o,m,d,fr,h,F,g,j,l,k⟩:=n;obtain⟨b,hd,rfl,rfl⟩:=jX h
 cases m with
 |non=>
   obtain rfl:=cis (b:=J) j hd;exact OH h_ s σ H x y v u Q I f i ⟨l,k _ F H (Step.refl g) W bB⟩
 |bl c=>
   cases o with
   |bl a=>
     cases hd;cases j;cases l;obtain rfl:v=.bool a:=f;obtain rfl:u=.bool c:=i;refine wpAny_isNot_plain W ⟨.bl _,H,I,?_,k _ F H (Step.refl g) W bB⟩;cases a<;>cases c<;>rfl
   |_=>cases hd
 |_=>cases hd
end
end M
namespace L2
open PySem PySem.Spec PyProof.Rows
def fW(tp:a7)(h:cg)(it l:aC)(i:T):Prop:=match tp with
 |true=>h.IsTupleIter it l i
 |false=>h.IsListIter it l i
def gY(tp:a7)(h:cg)(l:aC)(xs:eb ag):Prop:=match tp with
 |true=>h.IsTuple l xs
 |false=>h.IsList l xs
def fW.keep{b:cg}(y:fW tp h it l i)(k:∀o,h.get? it=Y o->b.get? it=Y o):fW tp b it l i:=by
 cases tp<;>exact(let ⟨o,e,r⟩:=y;⟨o,k o e,r⟩)
def gY.keep{b:cg}(y:gY tp h l xs)(k:∀o,h.get? l=Y o->b.get? l=Y o):gY tp b l xs:=by
 cases tp<;>exact(let ⟨o,e,r⟩:=y;⟨o,k o e,r⟩)
def fW.obj(y:fW tp h it l i):∃o,h.get? it=Y o/\o.cls=.type (if tp then "tuple_iterator" else "list_iterator")/\o.data=.fields #[.ref l,.int i 0]:=by
 cases tp<;>exact y
def gY.obj(y:gY tp h l xs):∃o,h.get? l=Y o/\o.cls=.type (if tp then "tuple" else "list")/\∃n,o.data=.seq xs n:=by
 cases tp<;>exact y
section
open Builtin
variable{A:bZ}{s:ao}
def Kq(B:s.heap.IsTupleIter it q i)(u:s.heap.IsTuple q xs)(o:xs[i]?=Y v)
  (k:∀t,t.IsTupleIter it q (i+1)->cJ it s.heap t->Q v { s with heap:=t }):aA (aB prog w) A (di (.ref it)) Q E s:=by
 refine ac λ_ j=>?_;obtain⟨f,b,e,a⟩:=id B;obtain⟨g,c,_,h,d⟩:=u;refine j ?_;refine wb9 (cC B.typeIs fI (bN fI B.typeIs p9 ?_ (pS _)));show aA (aB _ w) _ (mv _ 0 >>= _) _ _ s;refine wb9 (bI b a W ?_);refine wb9 (bI b a W ?_);refine wb9 (bF c d ?_);simp only[MN,o];refine wb9 (wpAny_setField b a (by simp) (wu9 ⟨v,W,wu9 (k _ ⟨_,g7 _ b (Obj.isFreed_of_fields (IK a _)),(Obj.cls_mapFields ..).trans e,?_⟩ (nJ ..))⟩));rw[IK a];simp[en]
def OV(z:A.handled=L)(B:s.heap.IsTupleIter it q i)(t:s.heap.IsTuple q xs)(u:xs[i]?=L)
  (k:∀y e,Eb it s.heap y->(∃o,y.get? e=Y o/\o.cls=.type "StopIteration")->E (.ref e) { s with heap:=y }):aA (aB prog w) A (di (.ref it)) Q E s:=by
 refine ac λ_ l=>?_;obtain⟨f,a,g,b⟩:=id B;obtain⟨h,c,_,j,d⟩:=t;refine l ?_;refine wb9 (cC B.typeIs fI (bN fI B.typeIs p9 ?_ (pS _)));show aA (aB _ w) _ (mv _ 0 >>= _) _ _ s;refine wb9 (bI a b W ?_);refine wb9 (bI a b W ?_);refine wb9 (bF c d ?_);simp only[MN,u];refine wb9 (eQ (wb9 (wpAny_setField a b (by simp) ?_)));refine wb9 ?_;refine wb9 (eA (wb9 (zR (by first|rfl|(rfl)) (eA ?_ (by size_fits)))) (by size_fits));refine wb9 (wpAny_handled ?_)
 first|rw[z]|rw[z]
 exact wb9 (wu9 (wpAny_throw (k _ _ (((nJ ..).extBut.push _).push _) ⟨_,ax _ W,W⟩)))
def oV(B:fW tp s.heap it q i)(e:gY tp s.heap q xs)(b:xs[i]?=Y v)
  (k:∀c,fW tp c it q (i+1)->cJ it s.heap c->Q v { s with heap:=c }):aA (aB prog w) A (di (.ref it)) Q E s:=by
 cases tp
 .exact wpAny_nextOf_list_item B e b k
 .exact Kq B e b k
def rL(B:A.handled=L)(t:fW tp s.heap it q i)(b:gY tp s.heap q xs)(c:xs[i]?=L)
  (k:∀f e,Eb it s.heap f->(∃o,f.get? e=Y o/\o.cls=.type "StopIteration")->E (.ref e) { s with heap:=f }):aA (aB prog w) A (di (.ref it)) Q E s:=by
 cases tp
 .exact wpAny_nextOf_list_end B t b c k
 .exact OV B t b c k
structure X1(z T' U' i j a b:aC):Prop where
 Tz:T'≠z
 Uz:U'≠z
 iz:i≠z
 jz:j≠z
 TU:T'≠U'
 Ti:T'≠i
 Tj:T'≠j
 Ui:U'≠i
 Uj:U'≠j
 ij:i≠j
 az:a≠z
 aU:a≠U'
 ai:a≠i
 aj:a≠j
 bz:b≠z
 bU:b≠U'
 bi:b≠i
 bj:b≠j
def Nc{tp tq:a7}{z T' U' i j a b:aC}{m n:T}{xs ys:eb ag}{x y c d:ag}{Q:ag->ao->Prop}(P:X1 z T' U' i j a b)(B:iJ s.heap z T' U' .none)(gT:c6 s.heap T' (.ref i) (.ref j))(c0:c6 s.heap U' c d)
  (e1:fW tp s.heap i a m)(gj:fW tq s.heap j b n)(ga:gY tp s.heap a xs)(gb:gY tq s.heap b ys)(gx:xs[m]?=Y x)(gy:ys[n]?=Y y)
  (k:∀h',iJ h' z T' U' (en s.heap.objs.size)->c6 h' U' x y->fW tp h' i a (m+1)->fW tq h' j b (n+1)->c6 h' s.heap.objs.size x y->h'.objs.size=s.heap.objs.size+1->
   (∀e o,e≠z->e≠U'->e≠i->e≠j->s.heap.get? e=Y o->h'.get? e=Y o)->Q (.ref s.heap.objs.size) { s with heap:=h' }) :
  aA (aB prog w) A (fD.«zip.__next__» ⟨[.ref z],[]⟩) (λf s'=>∃v,f=.done (.ret v)/\Q v s') E s:=by
 show aA (aB prog w) _ (mv (.ref z) 2 >>= _) _ _ _;refine wb9 (bI B W (x:=.bool J) W ?_);show aA (aB prog w) _ (mv (.ref z) 3 >>= _) _ _ _;refine wb9 (bI B W (x:=.ref T') W (wb9 (bF gT W ?_)));show aA (aB prog w) _ (f7 (.ref z) >>= _) _ _ _;refine wb9 ?_;unfold f7;refine wb9 (bI B W (x:=.none) W (wu9 ?_));simp only[e6];refine wb9 (eQ (wb9 (bI B W (x:=.ref U') W (wb9 (aW B (by simp) λh1 l s1=>?_)))));replace l:iJ h1 z T' U' .ellipsis:=l;refine wb9 ?_;simp only[fm,jc,gR,jI];refine wb9 (wb9 (eo ?_));show aA (aB prog w) _ (di (.ref i) >>= _) _ _ _;refine wb9 (oV (e1.keep λo e=>s1.extBut _ o P.iz e) (ga.keep λo e=>s1.extBut _ o P.az e) gx λh2 K s2=>wu9 ?_);have u:c6 h2 U' c d:=s2.extBut _ _ P.Ui (s1.extBut _ _ P.Uz c0);refine wb9 (bF u W (wb9 (dk u λh3 p s3=>wb9 (iY (wu9 ?_)))));replace p:c6 h3 U' x d:=p;refine wb9 (wb9 (eo ?_));show aA (aB prog w) _ (di (.ref j) >>= _) _ _ _;refine wb9 (oV (gj.keep λo e=>s3.extBut _ o P.Uj.symm (s2.extBut _ o P.ij.symm (s1.extBut _ o P.jz e))) (gb.keep λo e=>s3.extBut _ o P.bU (s2.extBut _ o P.bi (s1.extBut _ o P.bz e))) gy λh4 L' C=>wu9 ?_);have D:c6 h4 U' x d:=C.extBut _ _ P.Uj p;refine wb9 (bF D W (wb9 (dk D λh5 g F=>wb9 (iY (wu9 (wu9 ?_))))));replace g:c6 h5 U' x y:=g;refine wb9 (bF g W (wb9 (nc ?_)));have sz:h5.objs.size=s.heap.objs.size:=by rw[F.1,C.1,s3.1,s2.1,s1.1]
 have G:iJ h5 z T' U' .ellipsis:=F.extBut _ _ P.Uz.symm (C.extBut _ _ P.jz.symm (s3.extBut _ _ P.Uz.symm (s2.extBut _ _ P.iz.symm l)));have k5:∀e o,e≠z->e≠U'->e≠i->e≠j->s.heap.get? e=Y o->h5.get? e=Y o:=λe o r J' M N q=>F.extBut _ _ J' (C.extBut _ _ N (s3.extBut _ _ J' (s2.extBut _ _ M (s1.extBut _ _ r q))));have O':fW tp h5 i a (m+1):=K.keep λo e=>F.extBut _ o P.Ui.symm (C.extBut _ o P.ij (s3.extBut _ o P.Ui.symm e));have R:fW tq h5 j b (n+1):=L'.keep λo e=>F.extBut _ o P.Uj.symm e;have H:z<h5.objs.size:=hl9 G;show aA (aB prog w) _ (qS (.ref z) (.ref h5.objs.size) >>= _) _ _ _;refine wb9 ?_;unfold qS;have S:iJ (h5.push { cls:=.type "tuple",data:=.seq #[x,y] }) z T' U' .ellipsis:=hp9 _ G;refine wb9 (aW S (by simp) λh7 t V=>?_);replace t:iJ h7 z T' U' (en h5.objs.size):=t;refine aW t (by simp) λh8 h e2=>wu9 ⟨_,W,?_⟩;replace h:iJ h8 z T' U' (en h5.objs.size):=h;have up:∀e o,e≠z->h5.get? e=Y o->h8.get? e=Y o:=λe o r q=>e2.extBut _ _ r (V.extBut _ _ r (hp9 _ q));have X:c6 h8 h5.objs.size x y:=e2.extBut _ _ (eN H) (V.extBut _ _ (eN H) (ax _ W));have I:h8.objs.size=h5.objs.size+1:=by rw[e2.1,V.1,cm]
 rw[sz]at h X I;show Q (.ref h5.objs.size) _;rw[sz];exact k h8 h (up _ _ P.Uz g) (O'.keep λo e=>up _ o P.iz e) (R.keep λo e=>up _ o P.jz e) X I λe o r J' M N q=>up e o r (k5 e o r J' M N q)
theorem Rn{T' U':aC}(O':A.handled=L)(P:X1 z T' U' i j a b)(B:iJ s.heap z T' U' .none)(gT:c6 s.heap T' (.ref i) (.ref j))(gU:c6 s.heap U' c d)
  (R:fW tp s.heap i a m)(gj:fW tq s.heap j b n)(S:gY tp s.heap a xs)(gb:gY tq s.heap b ys)(ge:xs[m]?=L\/ys[n]?=L)
  (k:∀h' e,(∀e o,e≠z->e≠U'->e≠i->e≠j->s.heap.get? e=Y o->h'.get? e=Y o)->(∃o,h'.get? e=Y o/\o.cls=.type "StopIteration")->E (.ref e) { s with heap:=h' }) :
  aA (aB prog w) A (fD.«zip.__next__» ⟨[.ref z],[]⟩) Q E s:=by
 show aA (aB prog w) _ (mv (.ref z) 2 >>= _) _ _ _;refine wb9 (bI B W (x:=.bool J) W ?_);show aA (aB prog w) _ (mv (.ref z) 3 >>= _) _ _ _;refine wb9 (bI B W (x:=.ref T') W (wb9 (bF gT W ?_)));show aA (aB prog w) _ (f7 (.ref z) >>= _) _ _ _;refine wb9 ?_;unfold f7;refine wb9 (bI B W (x:=.none) W (wu9 ?_));simp only[e6];refine wb9 (eQ (wb9 (bI B W (x:=.ref U') W (wb9 (aW B (by simp) λh1 h s1=>?_)))));replace h:iJ h1 z T' U' .ellipsis:=h;refine wb9 ?_;simp only[fm,jc,gR,jI];refine wb9 (wb9 (eo ?_));show aA (aB prog w) _ (di (.ref i) >>= _) _ _ _
 cases t:xs[m]? with
 |none=>
   refine wb9 (rL O' (R.keep λo e=>s1.extBut _ o P.iz e) (S.keep λo e=>s1.extBut _ o P.az e) t λh2 e s2 u=>?_);obtain⟨v,f,g⟩:=u;have l:iJ h2 z T' U' .ellipsis:=s2 _ _ P.iz.symm h;have y:e≠z:=λq=>by subst q;rw[l]at f;cases f;simp at g
   exact aW l (by simp) λh3 _ s3=>k h3 e (λc o c1 _ c3 _ q=>s3.extBut _ _ c1 (s2 _ _ c3 (s1.extBut _ _ c1 q))) ⟨v,s3.extBut _ _ y f,g⟩
 |some x=>
   have F:ys[n]?=L:=by
    rcases ge with q|q
    .rw[t]at q;cases q
    .exact q
   refine wb9 (oV (R.keep λo e=>s1.extBut _ o P.iz e) (S.keep λo e=>s1.extBut _ o P.az e) t λh2 G s2=>wu9 ?_);have p:c6 h2 U' c d:=s2.extBut _ _ P.Ui (s1.extBut _ _ P.Uz gU);refine wb9 (bF p W (wb9 (dk p λh3 H s3=>wb9 (iY (wu9 ?_)))));refine wb9 (wb9 (eo ?_));show aA (aB prog w) _ (di (.ref j) >>= _) _ _ _;refine wb9 (rL O' (gj.keep λo e=>s3.extBut _ o P.Uj.symm (s2.extBut _ o P.ij.symm (s1.extBut _ o P.jz e))) (gb.keep λo e=>s3.extBut _ o P.bU (s2.extBut _ o P.bi (s1.extBut _ o P.bz e))) F λI e C u=>?_);obtain⟨v,f,g⟩:=u;have r:iJ I z T' U' .ellipsis:=C _ _ P.jz.symm (s3.extBut _ _ P.Uz.symm (s2.extBut _ _ P.iz.symm h));have y:e≠z:=λq=>by subst q;rw[r]at f;cases f;simp at g
   exact aW r (by simp) λK _ D=>k K e (λc o c1 c2 c3 M q=>D.extBut _ _ c1 (C _ _ M (s3.extBut _ _ c2 (s2.extBut _ _ c3 (s1.extBut _ _ c1 q))))) ⟨v,D.extBut _ _ y f,g⟩
def JT{T' U':aC}(P:X1 z T' U' i j a b)(B:iJ s.heap z T' U' .none)(gT:c6 s.heap T' (.ref i) (.ref j))(F:c6 s.heap U' c d)
  (t:fW tp s.heap i a m)(u:fW tq s.heap j b n)(I:gY tp s.heap a xs)(R:gY tq s.heap b S)(gx:xs[m]?=Y x)(gy:S[n]?=Y y)
  (k:∀C,iJ C z T' U' (en s.heap.objs.size)->c6 C U' x y->fW tp C i a (m+1)->fW tq C j b (n+1)->c6 C s.heap.objs.size x y->C.objs.size=s.heap.objs.size+1->
   (∀e o,e≠z->e≠U'->e≠i->e≠j->s.heap.get? e=Y o->C.get? e=Y o)->Q (Y (.ref s.heap.objs.size)) { s with heap:=C }):aA (aB prog w) A (hL (.ref z)) Q E s:=by
 have ty:s.TypeIs (.ref z) "zip":=⟨_,B,W⟩
 unfold hL;exact wb9 (jA (cC (name:=aa "__next__") ty dt (bN dt ty jj (Nc P B gT F t u I R gx gy λC f g h l p q r=>wu9 (k C f g h l p q r)) (i7 _))))
def Oj{T' U':aC}(C:A.handled=L)(P:X1 z T' U' i j a b)(B:iJ s.heap z T' U' .none)(gT:c6 s.heap T' (.ref i) (.ref j))(t:c6 s.heap U' c d)
  (u:fW tp s.heap i a m)(F:fW tq s.heap j b n)(I:gY tp s.heap a xs)(R:gY tq s.heap b S)(ge:xs[m]?=L\/S[n]?=L)
  (k:∀y,(∀e o,e≠z->e≠U'->e≠i->e≠j->s.heap.get? e=Y o->y.get? e=Y o)->Q L { s with heap:=y }):aA (aB prog w) A (hL (.ref z)) Q E s:=by
 have ty:s.TypeIs (.ref z) "zip":=⟨_,B,W⟩
 unfold hL;refine wb9 (jA (cC (name:=aa "__next__") ty dt (bN dt ty jj (Rn C P B gT t u F I R ge λy e f g=>?_) (i7 _))));obtain⟨o,ho,h⟩:=g;exact wb9 (dv (T:="StopIteration") (b:=U) ⟨o,ho,h⟩ rh (wu9 (k _ f)))
end
noncomputable def Zn(tp:a7):eS:=if tp then "tuple_iterator" else "list_iterator"
def jC(tp:a7)(l:aC):k8:={ cls:=.type (Zn tp),data:=.fields #[.ref l,.int 0 0] }
def ud{h:cg}(e:h.get? it=Y (jC tp l)):fW tp h it l 0:=by
 cases tp<;>exact⟨_,e,W,W⟩
section
variable{s:ao}
def kY(B:gY tp s.heap l xs)(k:Q (.ref s.heap.objs.size) { s with heap:=s.heap.push (jC tp l) }):aA (aB prog w) A (IJ (.ref l)) Q E s:=by
 cases tp
 .exact kr B k
 .exact kv B k
end
abbrev Yf(tp tq:a7)(h:cg)(a b:aC):cg:=((h.push (jC tp a)).push (jC tq b)).push { cls:=.type "tuple",data:=.seq #[.ref h.objs.size,.ref (h.push (jC tp a)).objs.size] }
abbrev Ye(tp tq:a7)(h:cg)(a b:aC):cg:=(Yf tp tq h a b).push { cls:=.type "tuple",data:=.seq #[.none,.none] }
abbrev Vy(tp tq:a7)(h:cg)(a b:aC):cg:=(Ye tp tq h a b).push { cls:=.type "zip",data:=.fields #[.none,.bool J,.bool J,.ref ((h.push (jC tp a)).push (jC tq b)).objs.size,.ref (Yf tp tq h a b).objs.size] }
def Rk(a b:aC)(xs t:eb ag):Meets (fD.«zip.__new__» ⟨[.type "zip",.ref a,.ref b],[]⟩) (λ_ R s=>gY tp s.heap a xs/\gY tq s.heap b t/\R (.ok (.ret (.ref (Ye tp tq s.heap a b).objs.size))) { s with heap:=Vy tp tq s.heap a b }):=
 .of_wp λprog w A R s q=>by
  obtain⟨hp,g,d,c,os⟩:=s;obtain⟨f,h,q⟩:=q;have sz:=Qk;have i:gY tp (B9 ⟨hp,g,d,c,os⟩) a xs:=f;have j:gY tq (B9 ⟨hp.push (jC tp a),g,d,c,os⟩) b t:=gY.keep h λo e=>hp9 _ e
  wp_walk using kY i,kY j
  exact⟨_,W,q⟩
section
variable{s:ao}
def Nd(B:gY tp s.heap a xs)(u:gY tq s.heap b y)
  (k:∀t,iJ t (s.heap.objs.size+4) (s.heap.objs.size+2) (s.heap.objs.size+3) .none->c6 t (s.heap.objs.size+2) (.ref s.heap.objs.size) (.ref (s.heap.objs.size+1))->c6 t (s.heap.objs.size+3) .none .none->
   fW tp t s.heap.objs.size a 0->fW tq t (s.heap.objs.size+1) b 0->(∀c o,s.heap.get? c=Y o->t.get? c=Y o)->Q (.ref (s.heap.objs.size+4)) { s with heap:=t }):aA (aB prog w) A (call (.type "zip") [.ref a,.ref b]) Q E s:=by
 refine v8 Cq (by decide) (yD _ _) (zU _ _) (λn=>uq n _ _) zV (Rk (tp:=tp) (tq:=tq) a b xs y) ⟨B,u,?_⟩;have d:(s.heap.push (jC tp a)).objs.size=s.heap.objs.size+1:=cm ..;have e:((s.heap.push (jC tp a)).push (jC tq b)).objs.size=s.heap.objs.size+2:=by rw[cm,d]
 have f:(Yf tp tq s.heap a b).objs.size=s.heap.objs.size+3:=by rw[cm,e]
 have m:(Ye tp tq s.heap a b).objs.size=s.heap.objs.size+4:=by rw[cm,f]
 have g:(Vy tp tq s.heap a b).get? (Ye tp tq s.heap a b).objs.size=Y _:=ax _ W;have h:(Vy tp tq s.heap a b).get? (Yf tp tq s.heap a b).objs.size=Y _:=hp9 _ (ax _ W);have i:(Vy tp tq s.heap a b).get? ((s.heap.push (jC tp a)).push (jC tq b)).objs.size=Y _:=hp9 _ (hp9 _ (ax _ W));have j:(Vy tp tq s.heap a b).get? (s.heap.push (jC tp a)).objs.size=Y (jC tq b):=hp9 _ (hp9 _ (hp9 _ (ax _ W)));have l:(Vy tp tq s.heap a b).get? s.heap.objs.size=Y (jC tp a):=hp9 _ (hp9 _ (hp9 _ (hp9 _ (ax _ W))));show _/\_;rw[e,f,m]at g;rw[d,e]at i;rw[f]at h;rw[d]at j;rw[m];exact⟨⟨_,g,W⟩,k _ g i h (ud l) (ud j) λc o q=>hp9 _ (hp9 _ (hp9 _ (hp9 _ (hp9 _ q))))⟩
end
section
variable{h':cg}
def Inv.lU{t':T}{ch:O aC}(I:Inv X h_ σ H s)(k:∀b o,b∉ch->s.heap.get? b=Y o->h'.get? b=Y o)(hf:∀b∈ch,px X h_ H b):Inv X h_ σ H { s with heap:=h',toks:=t' }:=by
 have d:∀b u,H b=Y u->b∉ch:=λb u e z=>by rw[(hf b z).1]at e;cases e
 refine I.step (g':=s.gens) (d':=s.drawn) (ch:=ch) (λb hb=>⟨(hf b hb).2.2.2.1,(hf b hb).2.1,(hf b hb).2.2.2.2.1,(hf b hb).2.2.2.2.2⟩) (λb o _ _ a e _=>k b o a e) (λb o _ _ a e _=>⟨o.slots,k b o a e⟩) (λ_ _ _ _ n=>n)
  (λb o a e=>⟨o,k b o a e⟩) (λ_ _ e=>e) (λ_ _ _ e=>e) (λb ps e=>⟨#[],by rw[e];simp⟩) (λm f=>?_) (λb u e=>?_) I.bare
 .obtain⟨o,g,h,ho,r⟩:=f;exact⟨o,g,h,k _ o (λz=>(hf _ z).2.1 W) ho,r⟩
 .refine(I.hok b u e).nW (λc v a q=>k c v ?_ q) (λ_ q=>q) λ_ _ q=>q
  rcases a with z|z
  .rw[z];exact d b u e
  .exact d c _ z
end
def nG(tp:a7)(K:aE)(H:Hp)(a:aC)(xs:O V):Prop:=match tp with
 |true=>yv K H a xs
 |false=>pv K H a xs
def nG.inj(I:Inv X h_ σ H s)(h:nG tp X.K H a xs)(b:nG tp X.K H a c):xs=c:=by
 cases tp
 .exact I.qz h b
 .exact I.oQ h b
def nG.at (I:Inv X h_ σ H s)(h:nG tp X.K H a xs):∃c:O ag,cH xs c/\gY tp s.heap a c.toArray:=by
 cases tp
 .obtain⟨c,b,p,_⟩:=I.list h;exact⟨_,b,p.isList⟩
 .obtain⟨c,b,p,_⟩:=I.tuple h;exact⟨_,b,p⟩
noncomputable def ZX(tp tq:a7)(K:aE)(a b:aC):It:=
 ⟨λi H=>∃d e x y,nG tp K H a d/\nG tq K H b e/\d[i]?=Y x/\e[i]?=Y y,
  λi H x g=>∃T',H T'=L/\x=.ref T'/\∃f c,(∀d,nG tp K H a d->d[i]?=Y f)/\(∀e,nG tq K H b e->e[i]?=Y c)/\g=upd H T' (.tup [f,c]),
  λi H=>∃d e,nG tp K H a d/\nG tq K H b e/\(Z d<=i\/Z e<=i)⟩
def Jb{K:aE}(a b z TI TO B i2:aC)(D:X1 z TI TO B i2 a b) :
  Turn P w K (.Tuple elts k pos) (ZX tp tq K a b) [z,TI,TO,B,i2] z (λi h=>iJ h z TI TO .none/\c6 h TI (.ref B) (.ref i2)/\(∃u v,c6 h TO u v)/\fW tp h B a i/\fW tq h i2 b i) where
 mem:=by simp
 obj:=λi h st c d=>by
  obtain⟨l,g,⟨u,v,j⟩,h1,h2⟩:=st;obtain⟨o1,R,_,d1⟩:=h1.obj;obtain⟨o2,S,_,d2⟩:=h2.obj;simp only[aq,aQ,eg]at d
  rcases d with rfl|rfl|rfl|rfl|rfl
  .exact⟨_,l,λv z=>nomatch z⟩
  .exact⟨_,g,λv z=>nomatch z⟩
  .exact⟨_,j,λv z=>nomatch z⟩
  .exact⟨_,R,λv z=>by rw[d1]at z;cases z⟩
  .exact⟨_,S,λv z=>by rw[d2]at z;cases z⟩
 keep:=λi h h' st k=>by
  obtain⟨l,g,⟨u,v,j⟩,h1,h2⟩:=st;exact⟨k z (by simp) _ l,k TI (by simp) _ g,⟨u,v,k TO (by simp) _ j⟩,h1.keep λo e=>k B (by simp) o e,h2.keep λo e=>k i2 (by simp) o e⟩
 item:=by
  intro X A C F d i h_ s σ H E I hf st G;subst A C F;obtain⟨xs,ys,x,y,ha,hb,n,Q⟩:=G;obtain⟨its,J',p⟩:=nG.at I ha;obtain⟨T',m,L'⟩:=nG.at I hb;obtain⟨u,U',V⟩:=J'.get n;obtain⟨r,M,N⟩:=m.get Q;obtain⟨l,g,⟨c0,e1,j⟩,h1,h2⟩:=st;refine JT D l g j h1 h2 p L' (x:=u) (y:=r) (by simpa using U') (by simpa using M) λh' e2 g2 g3 g4 g5 g6 t=>?_;refine⟨_,W,D7 e2 λh'' O' f=>?_⟩
  have fc:∀c∈[z,TO,B,i2],px X h_ H c:=λc d=>hf c (by
   simp only[aq,aQ,eg]at d ⊢
   rcases d with rfl|rfl|rfl|rfl<;>simp)
  have kk:∀c o,c∉[z,TO,B,i2]->s.heap.get? c=Y o->h''.get? c=Y o:=λc o d e=>by
   simp only[aq,aQ,eg,oq]at d;exact f.extBut c o d.1 (t c o d.1 d.2.1 d.2.2.1 d.2.2.2 e)
  have I1:Inv X h_ σ H { s with heap:=h'' }:=I.lU (t':=s.toks) kk fc;have nz:s.heap.objs.size≠z:=eN (hl9 l);have hT:h''.get? s.heap.objs.size=Y { cls:=.type "tuple",data:=.seq #[u,r] }:=f.extBut _ _ nz g5;have q:H s.heap.objs.size=L:=I.hok.fresh (aw _)
  have I2:Inv X h_ σ (upd H s.heap.objs.size (.tup [x,y])) { s with heap:=h'' }:=by
   refine I1.Am (I.tM (aw _) q) I.sz ⟨by rw[cY];show 2<=16777216;decide,[u,r],.cons V (.cons N .nil),?_⟩;exact⟨_,hT,W,_,W⟩
  refine⟨.ref s.heap.objs.size,_,I2,W,⟨_,q,W,x,y,λxs' h1=>by rw[nG.inj I h1 ha];exact n,λys' h1=>by rw[nG.inj I h1 hb];exact Q,W⟩,⟨O',?_,⟨u,r,f.extBut _ _ D.Uz g2⟩,g3.keep λo e=>f.extBut _ o D.iz e,g4.keep λo e=>f.extBut _ o D.jz e⟩,λc d=>?_⟩
  .exact f.extBut _ _ D.Tz (t _ _ D.Tz D.TU D.Ti D.Tj g)
  .rw[cL ?_]
   .exact(hf c d).1
   .have:c<s.heap.objs.size:=by
     simp only[aq,aQ,eg]at d
     rcases d with rfl|rfl|rfl|rfl|rfl
     .exact hl9 l
     .exact hl9 g
     .exact hl9 j
     .obtain⟨_,e,_⟩:=h1.obj;exact hl9 e
     .obtain⟨_,e,_⟩:=h2.obj;exact hl9 e
    exact ba this
 done:=by
  intro X A C F d i h_ s σ H E I hf st G;subst A C F;obtain⟨xs,ys,ha,hb,n⟩:=G;obtain⟨its,J',p⟩:=nG.at I ha;obtain⟨T',m,L'⟩:=nG.at I hb;obtain⟨l,g,⟨c0,e1,j⟩,h1,h2⟩:=st;have l1:=J'.length;have l2:=m.length;refine Oj (I.ok.hd d) D l g j h1 h2 p L' ?_ λh' t=>⟨W,I.lU (t':=s.toks) (ch:=[z,TO,B,i2]) (λc o d e=>?_) λc d=>hf c ?_⟩
  .rcases n with n|n
   .exact .inl (by simp;exact Nat.le_trans (Nat.le_of_eq l1.symm) n)
   .exact .inr (by simp;exact Nat.le_trans (Nat.le_of_eq l2.symm) n)
  .simp only[aq,aQ,eg,oq]at d;exact t c o d.1 d.2.1 d.2.2.1 d.2.2.2 e
  .simp only[aq,aQ,eg]at d ⊢
   rcases d with rfl|rfl|rfl|rfl<;>simp
 self:=λ_ _ _ _ _ st h=>o8 st.1 h
def mz(h:cg)(it:aC)(x:bw)(t:Ck)(i:T):Prop:=h.IsStrIter it (hH x) x t i
def mz.keep{b:cg}(y:mz h it x t i)(k:∀o,h.get? it=Y o->b.get? it=Y o):mz b it x t i:=let ⟨o,e,r⟩:=y;⟨o,k o e,r⟩
section
open Builtin
variable{A:bZ}{s:ao}
def ql(B:mz s.heap it x t i)(e:x.cps[i]?=Y c)
  (k:∀b,mz b it x t (i+1)->cJ it s.heap b->Q (.str ⟨#[c]⟩ s.toks) { s with heap:=b,toks:=s.toks+1 }):aA (aB prog w) A (di (.ref it)) Q E s:=by
 unfold mz hH at B k;cases ha:x.cps.all (·< 128)
 .simp only[ha,cV,ft]at B k;exact wpAny_nextOf_wide_item B e k
 .simp only[ha,e6]at B k;exact wpAny_nextOf_ascii_item B e k
def yM(f:A.handled=L)(B:mz s.heap it x t i)(b:x.cps[i]?=L)
  (k:∀c e,Eb it s.heap c->(∃o,c.get? e=Y o/\o.cls=.type "StopIteration")->E (.ref e) { s with heap:=c }):aA (aB prog w) A (di (.ref it)) Q E s:=by
 unfold mz hH at B;cases ha:x.cps.all (·< 128)
 .simp only[ha,cV,ft]at B;exact wpAny_nextOf_wide_end f B b k
 .simp only[ha,e6]at B;exact wpAny_nextOf_ascii_end f B b k
structure ZAs(z T' U' i j:aC):Prop where
 Tz:T'≠z
 Uz:U'≠z
 iz:i≠z
 jz:j≠z
 TU:T'≠U'
 Ti:T'≠i
 Tj:T'≠j
 Ui:U'≠i
 Uj:U'≠j
 ij:i≠j
end
noncomputable def pk(x:bw)(t:Ck):k8:={ cls:=.type (hH x),data:=.fields #[.str x t,.int 0 0] }
def Eu{h:cg}(e:h.get? it=Y (pk x t)):mz h it x t 0:=⟨_,e,W,W⟩
section
end
noncomputable def X7(x y:bw):It:=
 ⟨λi _=>∃c d,x.cps[i]?=Y c/\y.cps[i]?=Y d,
  λi H v a=>∃T',H T'=L/\v=.ref T'/\∃c d,x.cps[i]?=Y c/\y.cps[i]?=Y d/\a=upd H T' (.tup [.str ⟨#[c]⟩,.str ⟨#[d]⟩]),
  λi _=>x.cps[i]?=L\/y.cps[i]?=L⟩
def LX{A:bZ}(hh:A.handled=L)(it l:aC)(B:l≠it)(items:eb ag) :
  Draws prog w A it [it,l] items.size (λi v=>items[i]?=Y v) (λi h=>fW tp h it l i/\gY tp h l items) where
 live:=λ_ _ st=>let ⟨o,ho,_⟩:=st.1.obj;⟨o,ho⟩
 frame:=λ_ _ _ st f=>⟨st.1.keep λo e=>f it (by simp) o e,st.2.keep λo e=>f l (by simp) o e⟩
 item:=λi s Q E hi st c=>by
  refine oV st.1 st.2 (v:=items[i]) (by simp[hi]) λg a b=>?_;exact c _ g s.toks (by simp[hi]) ⟨a,st.2.keep λo e=>b.extBut _ o B e⟩ b
 done:=λs Q E st d=>rL hh st.1 st.2 (by simp) d
set_option tactic.hygienic true in
def UO(l:aC)(items:eb ag) :
  Meets (fD.«enumerate.__new__» ⟨[.type "enumerate",.ref l],[]⟩) (λ_ R s=>gY tp s.heap l items/\
   R (.ok (.ret (.ref (s.heap.push (jC tp l)).objs.size))) { s with heap:=(s.heap.push (jC tp l)).push { cls:=.type "enumerate",data:=.fields #[.none,.bool J,.ref s.heap.objs.size,en 0,.none,.none] } }):=
 .of_wp λprog w A R s h=>by
  obtain⟨hp,g,d,e,os⟩:=s;obtain⟨hl,h⟩:=h;have b:=sub_enumerate;wp_walk
  refine wpAny_stack_any λst=>wu9 ?_;split
  .rename_i c _ _ _ _ _;cases(c == fY _)
   .wp_walk using kY hl
    exact⟨_,W,h⟩
   .wp_walk using kY hl
    exact⟨_,W,h⟩
  .wp_walk using kY hl
   exact⟨_,W,h⟩
section
variable{s:ao}
def Pz(B:gY tp s.heap l items)
  (k:∀c,IsEnum c (s.heap.objs.size+1) s.heap.objs.size 0 .none->fW tp c s.heap.objs.size l 0->(∀b o,s.heap.get? b=Y o->c.get? b=Y o)->Q (.ref (s.heap.objs.size+1)) { s with heap:=c }) :
  aA (aB prog w) A (call (.type "enumerate") [.ref l]) Q E s:=by
 refine v8 PySem.F.called_enumerate (by decide) (PySem.F.typeCall_enumerate_1 _) (PySem.F.newCall_enumerate_1 _) (λobj=>ur _ _) PySem.F.entry_enumerate_new (UO l _) ⟨B,?_⟩;have a:((s.heap.push (jC tp l)).push { cls:=.type "enumerate",data:=.fields #[.none,.bool J,.ref s.heap.objs.size,en 0,.none,.none] }).get? (s.heap.push _).objs.size=Y _:=ax _ W;rw[(cm ..)]at a;rw[(cm ..)];exact⟨⟨_,a,W⟩,k _ a (ud (hp9 _ (ax _ W))) λb o x=>hp9 _ (hp9 _ x)⟩
end
noncomputable def Z0(tp:a7)(K:aE)(a:aC):It:=
 ⟨λi H=>∃b x,nG tp K H a b/\b[i]?=Y x,
  λi H x d=>∃T',H T'=L/\x=.ref T'/\∃c,(∀b,nG tp K H a b->b[i]?=Y c)/\d=upd H T' (.tup [.int i,c]),
  λi H=>∃b,nG tp K H a b/\Z b<=i⟩
def HH{A:bZ}(hh:A.handled=L)(it l:aC)(items:eb ag)(i:T)(hi:items.size<=i) :
  Draws prog w A it [it,l] i (λ_ _=>True) (λj h=>j=i/\fW tp h it l i/\gY tp h l items) where
 live:=λ_ _ st=>let ⟨o,ho,_⟩:=st.2.1.obj;⟨o,ho⟩
 frame:=λ_ _ _ st d=>⟨st.1,st.2.1.keep λo e=>d it (by simp) o e,st.2.2.keep λo e=>d l (by simp) o e⟩
 item:=λj s Q E a st c=>absurd st.1 (ba a)
 done:=λs Q E st b=>rL hh st.2.1 st.2.2 (by simp[hi]) b
def Jd{K:aE}(a e it:aC)(O':e≠it)(c0:a≠e)(e2:a≠it) :
  Turn P w K (.Tuple elts k pos) (Z0 tp K a) [e,it] e (λi h=>(∃B,IsEnum h e it i B)/\fW tp h it a i) where
 mem:=by simp
 obj:=λi h st c hc=>by
  obtain⟨⟨B,he⟩,h1⟩:=st;obtain⟨e3,e1,_,d1⟩:=h1.obj;simp only[aq,aQ,eg]at hc
  rcases hc with rfl|rfl
  .exact⟨_,he,λv z=>nomatch z⟩
  .exact⟨_,e1,λv z=>by rw[d1]at z;cases z⟩
 keep:=λi h h' st k=>by
  obtain⟨⟨B,he⟩,h1⟩:=st;exact⟨⟨B,k e (by simp) _ he⟩,h1.keep λo q=>k it (by simp) o q⟩
 item:=by
  intro X j l m hc i h_ s σ H E I hf st n;subst j l m;obtain⟨xs,x,ha,g⟩:=n;obtain⟨its,r,p⟩:=nG.at I ha;obtain⟨u,D,F⟩:=r.get g;obtain⟨⟨B,he⟩,h1⟩:=st
  have t:i<its.toArray.size:=by
   rw[aZ];exact(aT.mp D).1
  refine hM (LX (tp:=tp) (A:=X.A.in1) (I.ok.hd hc) it a e2 its.toArray) he ⟨h1,p⟩ t O' (by simp[O',eW c0]) λv h' d G J' L' M g4 hk=>?_
  have y:v=u:=by
   have:its.toArray[i]?=Y u:=by simpa using D
   exact bb (G.symm.trans this)
  subst y;refine⟨_,W,hE J' λh'' C b=>?_⟩;have N:∀c∈[e,it],px X h_ H c:=hf
  have kk:∀c o,c∉[e,it]->s.heap.get? c=Y o->h''.get? c=Y o:=λc o hc q=>by
   simp only[aq,aQ,eg,oq]at hc;exact b.extBut c o hc.1 (hk c o hc.1 hc.2 q)
  have Q:Inv X h_ σ H { s with heap:=h'',toks:=d+1 }:=I.lU (t':=d+1) kk N;have R:s.heap.objs.size≠e:=eN (hl9 he);have S:h''.get? s.heap.objs.size=Y { cls:=.type "tuple",data:=.seq #[.int i d,v] }:=b.extBut _ _ R M;have f:H s.heap.objs.size=L:=I.hok.fresh (aw _)
  have T':Inv X h_ σ (upd H s.heap.objs.size (.tup [.int i,x])) { s with heap:=h'',toks:=d+1 }:=by
   refine Q.Am (I.tM (aw _) f) I.sz ⟨by rw[cY];show 2<=16777216;decide,[.int i d,v],.cons ⟨_,W⟩ (.cons F .nil),?_⟩;exact⟨_,S,W,_,W⟩
  refine⟨.ref s.heap.objs.size,_,T',W,⟨_,f,W,x,λU' h1=>by rw[nG.inj I h1 ha];exact g,W⟩,⟨⟨_,by simpa using C⟩,L'.1.keep λo q=>b.extBut _ o O'.symm q⟩,λc hc=>?_⟩;rw[cL ?_]
  .exact(hf c hc).1
  .have:c<s.heap.objs.size:=by
    simp only[aq,aQ,eg]at hc
    rcases hc with rfl|rfl
    .exact hl9 he
    .obtain⟨_,q,_⟩:=h1.obj;exact hl9 q
   exact ba this
 done:=by
  intro X j l m hc i h_ s σ H E I hf st n;subst j l m;obtain⟨xs,ha,g⟩:=n;obtain⟨its,r,p⟩:=nG.at I ha;obtain⟨⟨B,he⟩,h1⟩:=st;have V:=r.length;refine hR (HH (tp:=tp) (A:=X.A.in1) (I.ok.hd hc) it a its.toArray i (by simp;exact ab (af V.symm) g)) he ⟨W,h1,p⟩ λh' hk=>⟨W,I.lU (t':=s.toks) (ch:=[it]) (λc o hc q=>?_) λc hc=>hf c ?_⟩
  .exact hk c o (by simpa using hc) q
  .simp only[aq,aQ,eg]at hc ⊢;exact .inr hc
 self:=λ_ _ _ _ _ st h=>let ⟨⟨_,he⟩,_⟩:=st;gk he h
def LV{A:bZ}(hh:A.handled=L)(it:aC)(x:bw)(t:Ck) :
  Draws prog w A it [it] x.cps.size (λi v=>∃u c,x.cps[i]?=Y c/\v=.str ⟨#[c]⟩ u) (λi h=>mz h it x t i) where
 live:=λ_ _ st=>let ⟨o,ho,_⟩:=st;⟨o,ho⟩
 frame:=λ_ _ _ st g=>st.keep λo e=>g it (by simp) o e
 item:=λi s Q E hi st d=>ql st (c:=x.cps[i]) (by simp[hi]) λj a b=>d _ j _ ⟨_,_,by simp[hi],W⟩ a b
 done:=λs Q E st f=>yM hh st (by simp) f
def HG{A:bZ}(hh:A.handled=L)(it:aC)(x:bw)(t:Ck)(i:T)(hi:x.cps.size<=i) :
  Draws prog w A it [it] i (λ_ _=>True) (λj h=>j=i/\mz h it x t i) where
 live:=λ_ _ st=>let ⟨o,ho,_⟩:=st.2;⟨o,ho⟩
 frame:=λ_ _ _ st d=>⟨st.1,st.2.keep λo e=>d it (by simp) o e⟩
 item:=λj s Q E a st c=>absurd st.1 (ba a)
 done:=λs Q E st b=>yM hh st.2 (by simp[hi]) b
set_option tactic.hygienic true in
def UL(x:bw)(t:Ck) :
  Meets (fD.«enumerate.__new__» ⟨[.type "enumerate",.str x t],[]⟩) (λ_ R s=>
   R (.ok (.ret (.ref (s.heap.push (pk x t)).objs.size))) { s with heap:=(s.heap.push (pk x t)).push { cls:=.type "enumerate",data:=.fields #[.none,.bool J,.ref s.heap.objs.size,en 0,.none,.none] } }):=
 .of_wp λprog w A R s h=>by
  obtain⟨hp,g,d,b,os⟩:=s;have a:=sub_enumerate
  wp_walk
  refine wpAny_stack_any λst=>wu9 ?_;split
  .rename_i c _ _ _ _ _;cases(c == fY "enumerate")
   .wp_walk using n0 (x:=x) (t:=t)
    exact⟨_,W,h⟩
   .wp_walk using n0 (x:=x) (t:=t)
    exact⟨_,W,h⟩
  .wp_walk using n0 (x:=x) (t:=t)
   exact⟨_,W,h⟩
section
variable{s:ao}
def Py
  (k:∀c,IsEnum c (s.heap.objs.size+1) s.heap.objs.size 0 .none->mz c s.heap.objs.size x t 0->(∀b o,s.heap.get? b=Y o->c.get? b=Y o)->Q (.ref (s.heap.objs.size+1)) { s with heap:=c }) :
  aA (aB prog w) A (call (.type "enumerate") [.str x t]) Q E s:=by
 refine v8 PySem.F.called_enumerate iF (PySem.F.typeCall_enumerate_1 _) (PySem.F.newCall_enumerate_1 _) (λobj=>ur _ _) PySem.F.entry_enumerate_new (UL x t) ?_;have a:((s.heap.push (pk x t)).push { cls:=.type "enumerate",data:=.fields #[.none,.bool J,.ref s.heap.objs.size,en 0,.none,.none] }).get? (s.heap.push _).objs.size=Y { cls:=.type _,data:=.fields #[.none,.bool J,.ref _,en 0,.none,.none] }:=ax _ W;rw[(cm ..)]at a;rw[(cm ..)];exact⟨⟨_,a,W⟩,k _ a (Eu (hp9 _ (ax _ W))) λb o x=>hp9 _ (hp9 _ x)⟩
end
noncomputable def Vp(x:bw):It:=
 ⟨λi H=>i<x.cps.size,λi H v a=>∃T',H T'=L/\v=.ref T'/\∃c,x.cps[i]?=Y c/\a=upd H T' (.tup [.int i,.str ⟨#[c]⟩]),λi H=>x.cps.size<=i⟩
def Nk{K:aE}(x:bw)(t:Ck)(e it:aC)(S:e≠it) :
  Turn P w K (.Tuple elts k pos) (Vp x) [e,it] e (λi h=>(∃B,IsEnum h e it i B)/\mz h it x t i) where
 mem:=by simp
 obj:=λi h st c N=>by
  obtain⟨⟨B,Q⟩,L',e1,_,d1⟩:=st;simp only[aq,aQ,eg]at N
  rcases N with rfl|rfl
  .exact⟨_,Q,λv z=>nomatch z⟩
  .exact⟨_,e1,λv z=>by rw[d1]at z;cases z⟩
 keep:=λi h h' st k=>by
  obtain⟨⟨B,Q⟩,h1⟩:=st;exact⟨⟨B,k e (by simp) _ Q⟩,h1.keep λo q=>k it (by simp) o q⟩
 item:=by
  intro X f g j N i h_ s σ H E I hf st l;subst f g j;obtain⟨⟨B,Q⟩,h1⟩:=st;refine hM (LV (A:=X.A.in1) (I.ok.hd N) it x t) Q h1 l S (by simp[S]) λv h' b p r y C M V=>?_;obtain⟨u,c,m,rfl⟩:=p;refine⟨_,W,hE r λR n a=>?_⟩
  have kk:∀c o,c∉[e,it]->s.heap.get? c=Y o->R.get? c=Y o:=λc o N q=>by
   simp only[aq,aQ,eg,oq]at N;exact a.extBut c o N.1 (V c o N.1 N.2 q)
  have D:Inv X h_ σ H { s with heap:=R,toks:=b+1 }:=I.lU (t':=b+1) kk hf;have F:s.heap.objs.size≠e:=eN (hl9 Q);have G:R.get? s.heap.objs.size=Y { cls:=.type "tuple",data:=.seq #[.int i b,.str ⟨#[c]⟩ u] }:=a.extBut _ _ F C;have d:H s.heap.objs.size=L:=I.hok.fresh (aw _)
  have J':Inv X h_ σ (upd H s.heap.objs.size (.tup [.int i,.str ⟨#[c]⟩])) { s with heap:=R,toks:=b+1 }:=by
   refine D.Am (I.tM (aw _) d) I.sz ⟨by rw[cY];show 2<=16777216;decide,[.int i b,.str ⟨#[c]⟩ u],.cons ⟨_,W⟩ (.cons ⟨_,W⟩ .nil),?_⟩;exact⟨_,G,W,_,W⟩
  refine⟨.ref s.heap.objs.size,_,J',W,⟨_,d,W,c,m,W⟩,⟨⟨_,by simpa using n⟩,y.keep λo q=>a.extBut _ o S.symm q⟩,λc N=>?_⟩;rw[cL ?_]
  .exact(hf c N).1
  .have:c<s.heap.objs.size:=by
    simp only[aq,aQ,eg]at N
    rcases N with rfl|rfl
    .exact hl9 Q
    .obtain⟨_,q,_⟩:=h1;exact hl9 q
   exact ba this
 done:=by
  intro X f g j N i h_ s σ H E I hf st l;subst f g j;obtain⟨⟨B,Q⟩,h1⟩:=st;refine hR (HG (A:=X.A.in1) (I.ok.hd N) it x t i l) Q ⟨W,h1⟩ λh' V=>⟨W,I.lU (t':=s.toks) (ch:=[it]) (λc o N q=>?_) λc N=>hf c ?_⟩
  .exact V c o (by simpa using N) q
  .simp only[aq,aQ,eg]at N ⊢;exact .inr N
 self:=λ_ _ _ _ _ st h=>let ⟨⟨_,Q⟩,_⟩:=st;gk Q h
section
open Builtin
variable{A:bZ}{s:ao}
structure X2(z T' U' i j b:aC):Prop where
 Tz:T'≠z
 Uz:U'≠z
 iz:i≠z
 jz:j≠z
 TU:T'≠U'
 Ti:T'≠i
 Tj:T'≠j
 Ui:U'≠i
 Uj:U'≠j
 ij:i≠j
 bz:b≠z
 bU:b≠U'
 bi:b≠i
 bj:b≠j
def Yb{z T' U' i j:aC}{p:bw}{tp:Ck}{b:aC}{ys:eb ag}{m n x:T}{y:ag}{c d:ag}{Q:ag->ao->Prop}(P:X2 z T' U' i j b)(B:iJ s.heap z T' U' .none)(gT:c6 s.heap T' (.ref i) (.ref j))(c0:c6 s.heap U' c d)
  (e7:mz s.heap i p tp m)(gj:fW U s.heap j b n)(gb:gY U s.heap b ys)(gx:p.cps[m]?=Y x)(gy:ys[n]?=Y y)
  (k:∀h',iJ h' z T' U' (en s.heap.objs.size)->c6 h' U' (.str ⟨#[x]⟩ s.toks) y->mz h' i p tp (m+1)->fW U h' j b (n+1)->c6 h' s.heap.objs.size (.str ⟨#[x]⟩ s.toks) y->h'.objs.size=s.heap.objs.size+1->
   (∀e o,e≠z->e≠U'->e≠i->e≠j->s.heap.get? e=Y o->h'.get? e=Y o)->Q (.ref s.heap.objs.size) { s with heap:=h',toks:=s.toks+1 }) :
  aA (aB prog w) A (fD.«zip.__next__» ⟨[.ref z],[]⟩) (λf s'=>∃v,f=.done (.ret v)/\Q v s') E s:=by
 show aA (aB prog w) _ (mv (.ref z) 2 >>= _) _ _ _;refine wb9 (bI B W (x:=.bool J) W ?_);refine wb9 (bI B W rfl (wb9 (bF gT W ?_)));refine wb9 ?_;refine wb9 (bI B W rfl (wu9 ?_));refine wb9 (eQ (wb9 (bI B W rfl (wb9 (aW B (by simp) λh1 h s1=>?_)))));replace h :=h;refine wb9 ?_;simp only[fm,jc,gR,jI];refine wb9 (wb9 (eo ?_));refine wb9 (ql (e7.keep λo e=>s1.extBut _ o P.iz e) gx λh2 I s2=>wu9 ?_);have t :=s2.extBut _ _ P.Ui (s1.extBut _ _ P.Uz c0);refine wb9 (bF t W (wb9 (dk t λh3 l s3=>wb9 (iY (wu9 ?_)))));replace l :=l;refine wb9 (wb9 (eo ?_));refine wb9 (oV (gj.keep λo e=>s3.extBut _ o P.Uj.symm (s2.extBut _ o P.ij.symm (s1.extBut _ o P.jz e))) (gb.keep λo e=>s3.extBut _ o P.bU (s2.extBut _ o P.bi (s1.extBut _ o P.bz e))) gy λM J' u=>wu9 ?_);have C :=u.extBut _ _ P.Uj l;refine wb9 (bF C W (wb9 (dk C λV a D=>wb9 (iY (wu9 (wu9 ?_))))));replace a:c6 V U' (.str ⟨#[x]⟩ s.toks) y:=a;refine wb9 (bF a W (wb9 (nc ?_)));have sz:V.objs.size=s.heap.objs.size:=by rw[D.1,u.1,s3.1,s2.1,s1.1]
 have F :=D.extBut _ _ P.Uz.symm (u.extBut _ _ P.jz.symm (s3.extBut _ _ P.Uz.symm (s2.extBut _ _ P.iz.symm h)));have G :=hl9 F;refine wb9 ?_;refine wb9 (aW (hp9 _ F) (by simp) λX r O'=>?_);replace r :=r;refine aW r (by simp) λh8 g R=>wu9 ⟨_,W,?_⟩;replace g :=g;have up:∀e o,e≠z->V.get? e=Y o->h8.get? e=Y o:=λe o N q=>R.extBut _ _ N (O'.extBut _ _ N (hp9 _ q));have S :=R.extBut _ _ (eN G) (O'.extBut _ _ (eN G) (ax _ W));have H:h8.objs.size=V.objs.size+1:=by rw[R.1,O'.1,cm]
 rw[sz]at g S H;rw[sz];exact k h8 g (up _ _ P.Uz a) ((I.keep λo e=>D.extBut _ o P.Ui.symm (u.extBut _ o P.ij (s3.extBut _ o P.Ui.symm e))).keep λo e=>up _ o P.iz e) ((J'.keep λo e=>D.extBut _ o P.Uj.symm e).keep λo e=>up _ o P.jz e) S H λe o N e2 e3 K q=>up e o N ((λe o N e2 e3 K q=>D.extBut _ _ e2 (u.extBut _ _ K (s3.extBut _ _ e2 (s2.extBut _ _ e3 (s1.extBut _ _ N q))))) e o N e2 e3 K q)
theorem Yy{T' U':aC}(O':A.handled=L)(P:X2 z T' U' i j b)(B:iJ s.heap z T' U' .none)(gT:c6 s.heap T' (.ref i) (.ref j))(R:c6 s.heap U' c d)
  (S:mz s.heap i p tp m)(gj:fW U s.heap j b n)(gb:gY U s.heap b ys)(ge:p.cps[m]?=L\/ys[n]?=L)
  (k:∀h' e,(∀e o,e≠z->e≠U'->e≠i->e≠j->s.heap.get? e=Y o->h'.get? e=Y o)->(∃o,h'.get? e=Y o/\o.cls=.type "StopIteration")->∀tk,E (.ref e) { s with heap:=h',toks:=tk }) :
  aA (aB prog w) A (fD.«zip.__next__» ⟨[.ref z],[]⟩) Q E s:=by
 show aA (aB prog w) _ (mv (.ref z) 2 >>= _) _ _ _;refine wb9 (bI B W (x:=.bool J) W ?_);refine wb9 (bI B W rfl (wb9 (bF gT W ?_)));refine wb9 ?_;refine wb9 (bI B W rfl (wu9 ?_));refine wb9 (eQ (wb9 (bI B W rfl (wb9 (aW B (by simp) λh1 a s1=>?_)))));replace a :=a;refine wb9 ?_;simp only[fm,jc,gR,jI];refine wb9 (wb9 (eo ?_))
 cases y:p.cps[m]? with
 |none=>
   refine wb9 (yM O' (S.keep λo e=>s1.extBut _ o P.iz e) y λh2 e s2 K=>?_);obtain⟨l,f,g⟩:=K;have r :=s2 _ _ P.iz.symm a;have t:e≠z:=λq=>by grind
   exact aW r (by simp) λh3 _ s3=>k h3 e (λc o c1 _ u _ q=>s3.extBut _ _ c1 (s2 _ _ u (s1.extBut _ _ c1 q))) ⟨l,s3.extBut _ _ t f,g⟩ _
 |some x=>
   have F:ys[n]?=L:=by
    grind
   refine wb9 (ql (S.keep λo e=>s1.extBut _ o P.iz e) y λh2 G s2=>wu9 ?_);have h :=s2.extBut _ _ P.Ui (s1.extBut _ _ P.Uz R);refine wb9 (bF h W (wb9 (dk h λh3 H s3=>wb9 (iY (wu9 ?_)))));refine wb9 (wb9 (eo ?_));refine wb9 (rL O' (gj.keep λo e=>s3.extBut _ o P.Uj.symm (s2.extBut _ o P.ij.symm (s1.extBut _ o P.jz e))) (gb.keep λo e=>s3.extBut _ o P.bU (s2.extBut _ o P.bi (s1.extBut _ o P.bz e))) F λN e C K=>?_);obtain⟨l,f,g⟩:=K;have v :=C _ _ P.jz.symm (s3.extBut _ _ P.Uz.symm (s2.extBut _ _ P.iz.symm a));have t:e≠z:=λq=>by grind
   exact aW v (by simp) λM _ D=>k M e (λc o c1 c2 u I q=>D.extBut _ _ c1 (C _ _ I (s3.extBut _ _ c2 (s2.extBut _ _ u (s1.extBut _ _ c1 q))))) ⟨l,D.extBut _ _ t f,g⟩ _
def JU{T' U':aC}(P:X2 z T' U' i j b)(B:IsZip s.heap z T' U' .none)(gT:c6 s.heap T' (.ref i) (.ref j))(t:c6 s.heap U' c d)
  (I:mz s.heap i p tp m)(gj:fW U s.heap j b n)(gb:gY U s.heap b ys)(gx:p.cps[m]?=Y x)(gy:ys[n]?=Y y)
  (k:∀R,IsZip R z T' U' (en s.heap.objs.size)->c6 R U' (.str ⟨#[x]⟩ s.toks) y->mz R i p tp (m+1)->fW U R j b (n+1)->c6 R s.heap.objs.size (.str ⟨#[x]⟩ s.toks) y->R.objs.size=s.heap.objs.size+1->
   (∀e o,e≠z->e≠U'->e≠i->e≠j->s.heap.get? e=Y o->R.get? e=Y o)->Q (Y (.ref s.heap.objs.size)) { s with heap:=R,toks:=s.toks+1 }):aA (aB prog w) A (hL (.ref z)) Q E s:=by
 refine wb9 (jA (cC ⟨_,B,W⟩ dt (bN dt ⟨_,B,W⟩ jj ?_ (i7 _))));refine (?_ : aA (aB _ w) _ (mv _ 2 >>= _) ..);refine wb9 (bI B W (x:=.bool J) W ?_);refine wb9 (bI B W rfl (wb9 (bF gT W ?_)));refine wb9 ?_;refine wb9 (bI B W rfl (wu9 ?_));refine wb9 (eQ (wb9 (bI B W rfl (wb9 (aW B (by simp) λh1 C s1=>?_)))));refine wb9 ?_;simp only[fm,jc,gR,jI];refine wb9 (wb9 (eo ?_));refine wb9 (ql (I.keep λo e=>s1.extBut _ o P.iz e) gx λh2 D s2=>wu9 ?_);have f :=s2.extBut _ _ P.Ui (s1.extBut _ _ P.Uz t);refine wb9 (bF f W (wb9 (dk f λh3 F s3=>wb9 (iY (wu9 ?_)))));refine wb9 (wb9 (eo ?_));refine wb9 (oV (gj.keep λo e=>s3.extBut _ o P.Uj.symm (s2.extBut _ o P.ij.symm (s1.extBut _ o P.jz e))) (gb.keep λo e=>s3.extBut _ o P.bU (s2.extBut _ o P.bi (s1.extBut _ o P.bz e))) gy λS G g=>wu9 ?_);have h :=g.extBut _ _ P.Uj F;refine wb9 (bF h W (wb9 (dk h λX a l=>wb9 (iY (wu9 (wu9 ?_))))));replace a:c6 X U' (.str ⟨_⟩ s.toks) y:=a;refine wb9 (bF a W (wb9 (nc ?_)));have sz:X.objs.size=s.heap.objs.size:=by rw[l.1,g.1,s3.1,s2.1,s1.1]
 have r :=l.extBut _ _ P.Uz.symm (g.extBut _ _ P.jz.symm (s3.extBut _ _ P.Uz.symm (s2.extBut _ _ P.iz.symm C)));refine wb9 ?_;refine wb9 (aW (hp9 _ r) (by simp) λV L' M=>?_);refine aW L' (by simp) λh8 u N=>wu9 ⟨_,W,?_⟩;have up:∀e o,e≠z->X.get? e=Y o->h8.get? e=Y o:=λe o K q=>N.extBut _ _ K (M.extBut _ _ K (hp9 _ q));have O' :=N.extBut _ _ (eN (hl9 r)) (M.extBut _ _ (eN (hl9 r)) (ax _ W));have v:h8.objs.size=X.objs.size+1:=by rw[N.1,M.1,cm]
 rw[sz]at u O' v;rw[sz];exact wu9 (k h8 u (up _ _ P.Uz a) ((D.keep λo e=>l.extBut _ o P.Ui.symm (g.extBut _ o P.ij (s3.extBut _ o P.Ui.symm e))).keep λo e=>up _ o P.iz e) ((G.keep λo e=>l.extBut _ o P.Uj.symm e).keep λo e=>up _ o P.jz e) O' v λe o K e2 e3 H q=>up e o K ((λe o K e2 e3 H q=>l.extBut _ _ e2 (g.extBut _ _ H (s3.extBut _ _ e2 (s2.extBut _ _ e3 (s1.extBut _ _ K q))))) e o K e2 e3 H q))
theorem Ol{T' U':aC}(S:A.handled=L)(P:X2 z T' U' i j b)(B:IsZip s.heap z T' U' .none)(gT:c6 s.heap T' (.ref i) (.ref j))(t:c6 s.heap U' c d)
  (R:mz s.heap i p tp m)(gj:fW U s.heap j b n)(gb:gY U s.heap b ys)(ge:p.cps[m]?=L\/ys[n]?=L)
  (k:∀h',(∀e o,e≠z->e≠U'->e≠i->e≠j->s.heap.get? e=Y o->h'.get? e=Y o)->∀tk,Q L { s with heap:=h',toks:=tk }):aA (aB prog w) A (hL (.ref z)) Q E s:=by
 refine wb9 (jA (cC ⟨_,B,W⟩ dt (bN dt ⟨_,B,W⟩ jj ?_ (i7 _))));refine (?_ : aA (aB _ w) _ (mv _ 2 >>= _) ..);refine wb9 (bI B W (x:=.bool J) W ?_);refine wb9 (bI B W rfl (wb9 (bF gT W ?_)));refine wb9 ?_;refine wb9 (bI B W rfl (wu9 ?_));refine wb9 (eQ (wb9 (bI B W rfl (wb9 (aW B (by simp) λh1 g s1=>?_)))));refine wb9 ?_;simp only[fm,jc,gR,jI];refine wb9 (wb9 (eo ?_))
 cases y:p.cps[m]? with
 |none=>
   refine wb9 (yM S (R.keep λo e=>s1.extBut _ o P.iz e) y λh2 e s2 K=>?_);obtain⟨l,a,f⟩:=K;have r :=s2 _ _ P.iz.symm g;exact aW r (by simp) λh3 _ s3=>wb9 (dv ⟨l,s3.extBut _ _ (λq=>by grind) a,f⟩ rh (wu9 (k _ (λc o c1 _ u _ q=>s3.extBut _ _ c1 (s2 _ _ u (s1.extBut _ _ c1 q))) _)))
 |some x=>
   have F:ys[n]?=L:=by
    grind
   refine wb9 (ql (R.keep λo e=>s1.extBut _ o P.iz e) y λh2 G s2=>wu9 ?_);have h :=s2.extBut _ _ P.Ui (s1.extBut _ _ P.Uz t);refine wb9 (bF h W (wb9 (dk h λh3 H s3=>wb9 (iY (wu9 ?_)))));refine wb9 (wb9 (eo ?_));refine wb9 (rL S (gj.keep λo e=>s3.extBut _ o P.Uj.symm (s2.extBut _ o P.ij.symm (s1.extBut _ o P.jz e))) (gb.keep λo e=>s3.extBut _ o P.bU (s2.extBut _ o P.bi (s1.extBut _ o P.bz e))) F λM e C K=>?_);obtain⟨l,a,f⟩:=K;have v :=C _ _ P.jz.symm (s3.extBut _ _ P.Uz.symm (s2.extBut _ _ P.iz.symm g));exact aW v (by simp) λN _ D=>wb9 (dv ⟨l,D.extBut _ _ (λq=>by grind) a,f⟩ rh (wu9 (k _ (λc o c1 c2 u I q=>D.extBut _ _ c1 (C _ _ I (s3.extBut _ _ c2 (s2.extBut _ _ u (s1.extBut _ _ c1 q))))) _)))
end
abbrev Yd(h:cg)(x:bw)(t:Ck)(b:aC):cg:=((h.push (pk x t)).push (jC U b)).push { cls:=.type "tuple",data:=.seq #[.ref h.objs.size,.ref (h.push (pk x t)).objs.size] }
abbrev Yc(h:cg)(x:bw)(t:Ck)(b:aC):cg:=(Yd h x t b).push { cls:=.type "tuple",data:=.seq #[.none,.none] }
abbrev Vx(h:cg)(x:bw)(t:Ck)(b:aC):cg:=(Yc h x t b).push { cls:=.type "zip",data:=.fields #[.none,.bool J,.bool J,.ref ((h.push (pk x t)).push (jC U b)).objs.size,.ref (Yd h x t b).objs.size] }
def Rh(x:bw)(t:Ck)(b:aC)(f:eb ag):Meets (fD.«zip.__new__» ⟨[.type "zip",.str x t,.ref b],[]⟩) (λ_ R s=>gY U s.heap b f/\R (.ok (.ret (.ref (Yc s.heap x t b).objs.size))) { s with heap:=Vx s.heap x t b }):=
 .of_wp λprog w A R s q=>by
  obtain⟨hp,g,d,a,os⟩:=s;obtain⟨c,q⟩:=q;have sz:=PySem.sub_zip;have h:gY U (Shared.heap ⟨hp.push { cls:=.type (hH x),data:=.fields #[.str x t,.int 0 0] },g,d,a,os⟩) b f:=gY.keep c λo e=>hp9 _ e
  wp_walk using n0 (x:=x) (t:=t),kY h
  exact⟨_,W,q⟩
section
variable{s:ao}
def Nb
  (B:gY U s.heap b y)(k:∀u,IsZip u (s.heap.objs.size+4) (s.heap.objs.size+2) (s.heap.objs.size+3) .none->c6 u (s.heap.objs.size+2) (.ref s.heap.objs.size) (.ref (s.heap.objs.size+1))->c6 u (s.heap.objs.size+3) .none .none->
   mz u s.heap.objs.size x t 0->fW U u (s.heap.objs.size+1) b 0->(∀c o,s.heap.get? c=Y o->u.get? c=Y o)->Q (.ref (s.heap.objs.size+4)) { s with heap:=u }):aA (aB prog w) A (call (.type "zip") [.str x t,.ref b]) Q E s:=by
 refine v8 PySem.F.called_zip iF (PySem.F.typeCall_zip_2 _ _) (PySem.F.newCall_zip_2 _ _) (λj=>PySem.F.args_object_init_3 j _ _) PySem.F.entry_zip_new (Rh x t b y) ⟨B,?_⟩;have a:(s.heap.push (pk x t)).objs.size=s.heap.objs.size+1:=cm ..;have d:((s.heap.push (pk x t)).push (jC U b)).objs.size=s.heap.objs.size+2:=by rw[cm,a]
 have e:(Yd s.heap x t b).objs.size=s.heap.objs.size+3:=by rw[cm,d]
 have l:(Yc s.heap x t b).objs.size=s.heap.objs.size+4:=by rw[cm,e]
 have f:(Vx s.heap x t b).get? (Yc _ x t b).objs.size=Y _:=ax _ W;have g:(Vx s.heap x t b).get? (Yd _ x t b).objs.size=Y _:=hp9 _ (ax _ W);have h:(Vx _ x t b).get? ((s.heap.push _).push _).objs.size=Y _:=hp9 _ (hp9 _ (ax _ W));have i:(Vx _ x t b).get? (s.heap.push _).objs.size=Y _:=hp9 _ (hp9 _ (hp9 _ (ax _ W)));rw[d,e,l]at f;rw[a,d]at h;rw[e]at g;rw[a]at i;rw[l];exact⟨⟨_,f,W⟩,k _ f h g (Eu (hp9 _ (hp9 _ (hp9 _ (hp9 _ (ax _ W)))))) (ud i) λc o q=>hp9 _ (hp9 _ (hp9 _ (hp9 _ (hp9 _ q))))⟩
end
noncomputable def Itm(K:aE)(x:bw)(b:aC):It:=
 ⟨λi H=>∃c a y,x.cps[i]?=Y c/\nG U K H b a/\a[i]?=Y y,
  λi H v d=>∃T',H T'=L/\v=.ref T'/\∃c y,x.cps[i]?=Y c/\(∀a,nG U K H b a->a[i]?=Y y)/\d=upd H T' (.tup [.str ⟨#[c]⟩,y]),
  λi H=>∃a,nG U K H b a/\(x.cps[i]?=L\/Z a<=i)⟩
def GD{K:aE}(x:bw)(t:Ck)(b z TI TO B i2:aC)(D:X2 z TI TO B i2 b) :
  Turn P w K (.Tuple elts k pos) (Itm K x b) [z,TI,TO,B,i2] z (λi h=>IsZip h z TI TO .none/\c6 h TI (.ref B) (.ref i2)/\(∃u v,c6 h TO u v)/\mz h B x t i/\fW U h i2 b i) where
 mem:=by simp
 obj:=λi h st c hc=>by
  obtain⟨g,d,⟨u,v,f⟩,⟨o1,e1,_,d1⟩,h2⟩:=st;obtain⟨o2,e2,_,d2⟩:=h2.obj;simp only[aq,aQ,eg]at hc
  rcases hc with rfl|rfl|rfl|rfl|rfl
  .exact⟨_,g,λv z=>nomatch z⟩
  .exact⟨_,d,λv z=>nomatch z⟩
  .exact⟨_,f,λv z=>nomatch z⟩
  .exact⟨_,e1,λv z=>by rw[d1]at z;cases z⟩
  .exact⟨_,e2,λv z=>by rw[d2]at z;cases z⟩
 keep:=λi h h' st k=>by
  obtain⟨g,d,⟨u,v,f⟩,h1,h2⟩:=st;exact⟨k z (by simp) _ g,k TI (by simp) _ d,⟨u,v,k TO (by simp) _ f⟩,h1.keep λo e=>k B (by simp) o e,h2.keep λo e=>k i2 (by simp) o e⟩
 item:=by
  intro X n p q hc i h_ s σ H E I hf st l;subst n p q;obtain⟨c1,ys,y,J',hb,L'⟩:=l;obtain⟨M,j,r⟩:=nG.at I hb;obtain⟨A,C,F⟩:=j.get L';obtain⟨g,d,⟨N,O',f⟩,h1,h2⟩:=st;refine JU D g d f h1 h2 r J' (y:=A) (by simpa using C) λh' Q R S T' U' g6 hk=>?_;refine⟨_,W,wpAny_letOwnedTupleGo_zip Q λh'' G a=>?_⟩
  have V:∀c∈[z,TO,B,i2],px X h_ H c:=λc hc=>hf c (by
   simp only[aq,aQ,eg]at hc ⊢
   rcases hc with rfl|rfl|rfl|rfl<;>simp)
  have kk:∀c o,c∉[z,TO,B,i2]->s.heap.get? c=Y o->h''.get? c=Y o:=λc o hc e=>by
   simp only[aq,aQ,eg,oq]at hc;exact a.extBut c o hc.1 (hk c o hc.1 hc.2.1 hc.2.2.1 hc.2.2.2 e)
  have c0:Inv X h_ σ H { s with heap:=h'',toks:=s.toks+1 }:=I.lU (t':=s.toks+1) kk V;have e3:s.heap.objs.size≠z:=eN (hl9 g);have e7:h''.get? s.heap.objs.size=Y { cls:=.type "tuple",data:=.seq #[.str ⟨#[c1]⟩ s.toks,A] }:=a.extBut _ _ e3 U';have m:H s.heap.objs.size=L:=I.hok.fresh (aw _)
  have I2:Inv X h_ σ (upd H s.heap.objs.size (.tup [.str ⟨#[c1]⟩,y])) { s with heap:=h'',toks:=s.toks+1 }:=by
   refine c0.Am (I.tM (aw _) m) I.sz ⟨by rw[cY];show 2<=16777216;decide,[.str ⟨#[c1]⟩ s.toks,A],.cons ⟨_,W⟩ (.cons F .nil),?_⟩;exact⟨_,e7,W,_,W⟩
  refine⟨.ref s.heap.objs.size,_,I2,W,⟨_,m,W,c1,y,J',λys' h1=>by rw[nG.inj I h1 hb];exact L',W⟩,⟨G,?_,⟨_,_,a.extBut _ _ D.Uz R⟩,S.keep λo e=>a.extBut _ o D.iz e,T'.keep λo e=>a.extBut _ o D.jz e⟩,λc hc=>?_⟩
  .exact a.extBut _ _ D.Tz (hk _ _ D.Tz D.TU D.Ti D.Tj d)
  .rw[cL ?_]
   .exact(hf c hc).1
   .have:c<s.heap.objs.size:=by
     simp only[aq,aQ,eg]at hc
     rcases hc with rfl|rfl|rfl|rfl|rfl
     .exact hl9 g
     .exact hl9 d
     .exact hl9 f
     .obtain⟨_,e,_⟩:=h1;exact hl9 e
     .obtain⟨_,e,_⟩:=h2.obj;exact hl9 e
    exact ba this
 done:=by
  intro X n p q hc i h_ s σ H E I hf st l;subst n p q;obtain⟨g,d,⟨N,O',f⟩,h1,h2⟩:=st;obtain⟨ys,hb,l⟩:=l;obtain⟨M,j,r⟩:=nG.at I hb;refine Ol (I.ok.hd hc) D g d f h1 h2 r (l.imp id λh=>by simpa [j.length]using h) λh' hk tk=>⟨W,I.lU (t':=tk) (ch:=[z,TO,B,i2]) (λc o hc e=>?_) λc hc=>hf c ?_⟩
  .simp only[aq,aQ,eg,oq]at hc;exact hk c o hc.1 hc.2.1 hc.2.2.1 hc.2.2.2 e
  .simp only[aq,aQ,eg]at hc ⊢
   rcases hc with rfl|rfl|rfl|rfl<;>simp
 self:=λ_ _ _ _ _ st h=>wpAny_pyIter_zip st.1 h
end L2
namespace M
open PySem PySem.Spec PyProof.Rows L2
section
variable{X:Cx}{a b:br}{pos:uo}{xs:O Ex}{σ:St}{F H:Hp}{iter:br}
def Zs(tp tq:a7)(K:Fg)(B:TA):TI:=λσ H R=>B σ H λvs c=>∃a b,vs=[.ref a,.ref b]/\(∃xs,nG tp K c a xs)/\(∃d,nG tq K c b d)/\R (ZX tp tq K a b) c
theorem SJ(S:Gl X "zip")(hm:X.mg "zip"=L)(ha:PA X [a,b] ta)(hs:aL [a,b] X.env=[(J,eval a X.env),(J,eval b X.env)])(B:aL [b] X.env=[(J,eval b X.env)]) :
  PI X (.Tuple elts k P) (.Call (.Name "zip" p) [a,b] [] pos) (Zs tp tq X.K ta):=by
 intro h_ s σ H R I h;refine pR (lD I S hm (by decide +kernel:ei "zip"=Y (.type "zip")) (cD (fT (ha pos h_ s σ H _ I h) λus s1 ⟨vs,j,d,r1,n⟩=>?_) (by rw[hs,B]) (by rw[B];rfl)));obtain⟨l1,l2,e,⟨xs,o⟩,⟨V,t⟩,q⟩:=n;subst e
 cases r1 with
 |cons r i=>
   cases i with
   |cons u i=>
     cases i;cases r;cases u;obtain⟨M,C,pl⟩:=nG.at d o;obtain⟨D,v,f⟩:=nG.at d t;refine Nd pl f λN l w x y z Q=>?_;have A:Inv X h_ σ j { s1 with heap:=N }:=d.kept (t':=s1.toks) Q;have E:@LT.lt T _ l1 s1.heap.objs.size:=by obtain⟨_,e,_⟩:=pl.obj;exact hl9 e
     have G:@LT.lt T _ l2 s1.heap.objs.size:=by obtain⟨_,e,_⟩:=f.obj;exact hl9 e
     refine o8 l ⟨_,[s1.heap.objs.size+4,s1.heap.objs.size+2,s1.heap.objs.size+3,s1.heap.objs.size,s1.heap.objs.size+1],_,_,j,W,A,
      Jb l1 l2 _ _ _ _ _ ⟨?_,?_,?_,?_,?_,?_,?_,?_,?_,?_,?_,?_,?_,?_,?_,?_,?_,?_⟩,⟨l,w,⟨_,_,x⟩,y,z⟩,λc m=>?_,q⟩
     all_goals try (show@Ne T _ _;omega)
     have g:s1.heap.objs.size<=c:=by
      simp only[aq,aQ,eg]at m
      rcases m with rfl|rfl|rfl|rfl|rfl<;>first|exact bP _ _|exact aw _
     exact d.tM g (d.hok.fresh g)
theorem uC:∀(xs c:O Dat) (i:T),(lp xs c)[i]?=match xs[i]?,c[i]? with
  |some x,Y y=>Y (.tup [x,y])
  |_,_=>L
 |[],_,_=>by simp[lp]
 |_::_,[],i=>by
   simp[lp]
 |x::xs,y::c,0=>by simp[lp]
 |x::xs,y::c,i+1=>by exact uC xs c i
theorem uB:∀(xs c:O Dat),Z (lp xs c)=min xs.length c.length
 |[],_=>by simp[lp]
 |_::_,[]=>by simp[lp]
 |x::xs,y::c=>by simp only[lp,bf,uB xs c];simp
def Rb(tp:a7)(K:Fg)(F:Hp)(a:aC)(vs:O V):Prop:=match tp with
 |true=>Tq K F a vs
 |false=>pv K F a vs
def Rb.up{tp:a7}{K:Fg}{F c H:Hp}{a:aC}{vs:O V}(h:Rb tp K F a vs)(s:cc F c)(g:Good c H):nG tp K H a vs:=by
 cases tp
 .exact g.sub.seq (s.seq h)
 .exact((Tq.mono s h).mono g.sub).sq
def K4{tp tq:a7}{K:Fg}{F1:Hp}{a b:aC}{vs us:O V}{ds es:O Dat}(h:Rb tp K F1 a vs)(C:Rb tq K F1 b us)(r:cB K F1 ds vs)(B:cB K F1 es us):j6 K F1 (ZX tp tq K a b) (lp ds es):=λF H g s=>by
 have j:=h.up s g;have c:=C.up s g;refine⟨λi d hd=>?_,λi hi=>⟨vs,us,j,c,?_⟩⟩
 .rw[uC]at hd
  cases e:ds[i]? with
  |none=>rw[e]at hd;cases hd
  |some d1=>
    cases k:es[i]? with
    |none=>rw[e,k]at hd;cases hd
    |some d2=>
      rw[e,k]at hd;cases hd;obtain⟨l,m,q⟩:=r.get e;obtain⟨f,n,t⟩:=B.get k;refine⟨⟨vs,us,l,f,j,c,m,n⟩,λx D y=>?_⟩;obtain⟨T',o,rfl,E,A,u,v,rfl⟩:=y;have w:=bb (m.symm.trans (u vs j));have z:=bb (n.symm.trans (v us c));subst w z;refine⟨_,Step.alloc g o,⟨T',_,W,.inl ck,?_⟩⟩;have p:cc F1 (upd F T' (.tup [l,f])):=s.trans (cc.upd (g.sub.free o));exact⟨l,[f],W,q.mono p,f,[],W,t.mono p,W⟩
 .rw[uB]at hi;rw[r.length,B.length];omega
def Xj(K:Fg)(B:TA):TI:=λσ H R=>B σ H λvs c=>∃x b,vs=[.str x,.ref b]/\(∃d,nG U K c b d)/\R (L2.Itm K x b) c
theorem Oy(S:Gl X "zip")(C:X.mg "zip"=L)(ha:PA X [a,b] ta)(hs:aL [a,b] X.env=[(J,eval a X.env),(J,eval b X.env)])(B:aL [b] X.env=[(J,eval b X.env)]) :
  PI X (.Tuple elts k P) (.Call (.Name "zip" p) [a,b] [] pos) (Xj X.K ta):=by
 intro h_ s σ H R I h;refine pR (lD I S C (by decide +kernel:ei _=Y (.type "zip")) (cD (fT (ha _ h_ s σ H _ I h) λus s1 M=>?_) (by rw[hs,B]) (by rw[B];rfl)));obtain⟨vs,j,g,m,n⟩:=M;obtain⟨x,b,rfl,⟨Q,o⟩,q⟩:=n;cases m with
 |cons r i=>
   cases i with
   |cons u i=>
     cases i;obtain⟨t,rfl⟩:=r;cases u;obtain⟨D,v,d⟩:=nG.at g o;have E:@LT.lt _ _ b s1.heap.objs.size:=by obtain⟨_,e,_⟩:=d.obj;exact hl9 e
     refine Nb d λV l w y z A N=>?_;refine wpAny_pyIter_zip l ⟨_,_,_,_,j,W,(g.kept N),
      GD x t b _ _ _ _ _ ⟨?_,?_,?_,?_,?_,?_,?_,?_,?_,?_,?_,?_,?_,?_⟩,⟨l,w,⟨_,_,y⟩,z,A⟩,λc G=>?_,q⟩
     all_goals try grind
     have f:s1.heap.objs.size<=c:=by
      simp only[aq,aQ,eg]at G
      rcases G with rfl|rfl|rfl|rfl|rfl<;>first|simp|exact aw _
     exact g.tM f (g.hok.fresh f)
def signs_get(x:bw)(i:T):((dG x).map Dat.str)[i]?=(x.cps[i]?).map λc=>.str ⟨#[c]⟩:=by
 unfold dG;rw[aV,aV,gX];cases x.cps[i]?<;>rfl
def Hw{K:Fg}{F1:Hp}(x:bw){b:aC}{us:O V}{es:O Dat}(t:Tq K F1 b us)(B:cB K F1 es us):j6 K F1 (L2.Itm K x b) (lp ((dG x).map .str) es):=λF H g s=>by
 have c:nG U K H b us:=Rb.up t s g;refine⟨λi d hd=>?_,λi hi=>⟨us,c,?_⟩⟩
 .rw[uC,signs_get]at hd
  cases n:x.cps[i]? with
  |none=>rw[n]at hd;cases hd
  |some c1=>
    cases p:es[i]? with
    |none=>simp_all
    |some d2=>
      rw[n,p]at hd;cases hd;obtain⟨e,f,k⟩:=B.get p;refine⟨⟨c1,us,e,n,c,f⟩,λv q z=>?_⟩;obtain⟨T',h,rfl,d1,o,j,l,rfl⟩:=z;rw[n]at j;cases j;have m:=bb (f.symm.trans (l us c));subst m;refine⟨_,Step.alloc g h,⟨T',_,W,.inl ck,?_⟩⟩;exact⟨_,_,W,W,e,[],W,k.mono (s.trans (cc.upd (g.sub.free h))),W⟩
 .rw[uB]at hi;simp only[dG,ah,be]at hi;rw[B.length]
  grind
noncomputable def Ey:Dat->a5 (a7×O Dat)
 |.lst xs=>Y (J,xs)
 |.tup xs=>Y (U,xs)
 |_=>L
def rB{K:Fg}{F:Hp}{d:Dat}{tp:a7}{xs:O Dat}{v:V}(h:Ey d=Y (tp,xs))(r:Rep K F d v):∃p vs,v=.ref p/\Rb tp K F p vs/\cB K F xs vs:=by
 cases d with
 |lst c=>cases h;exact r
 |tup c=>cases h;exact r
 |_=>cases h
def Ri(h:Eg ds=Y items) :
  (∃x y tp tq xs c,ds=[x,y]/\Ey x=Y (tp,xs)/\Ey y=Y (tq,c)/\items=lp xs c)\/∃x c,ds=[.str x,.tup c]/\items=lp ((dG x).map .str) c:=by
 unfold Eg at h;split at h
 .cases h;exact .inl ⟨_,_,_,_,_,_,W,W,W,W⟩
 .cases h;exact .inl ⟨_,_,_,_,_,_,W,W,W,W⟩
 .cases h;exact .inl ⟨_,_,_,_,_,_,W,W,W,W⟩
 .cases h;exact .inl ⟨_,_,_,_,_,_,W,W,W,W⟩
 .cases h;exact .inr ⟨_,_,W,W⟩
 .cases h
def RT(P:Gl X "zip")(S:X.mg "zip"=L)(ha:SA X C [a,b] [xa,xb])(hs:aL [a,b] X.env=[(J,eval a X.env),(J,eval b X.env)])(B:aL [b] X.env=[(J,eval b X.env)]) :
  SI X C (.Tuple elts k tp) (.Call (.Name "zip" p) [a,b] [] pos) (.zip [xa,xb]):=λh_ s σ H R I M=>by
 obtain⟨G,items,F,hi,g,m,K⟩:=M;obtain⟨Q,h1,h2⟩:=c9 hi
 rcases Ri h2 with⟨x,y,o,q,xs,N,rfl,t,u,rfl⟩|⟨x,N,rfl,rfl⟩
 .refine SJ (tp:=o) (tq:=q) P S ha hs B h_ s σ H R I ⟨G,[x,y],h1,F,g,m,λvs E f st r=>?_⟩;obtain⟨v,w,rfl,r1,z,A,rfl,r2,h⟩:=r;cases h;obtain⟨D,i,rfl,n,j⟩:=rB t r1;obtain⟨l,c,rfl,e,d⟩:=rB u r2;exact⟨D,l,W,⟨i,n.up (cc.refl _) st.good⟩,⟨c,e.up (cc.refl _) st.good⟩,K _ E f st (K4 n e j d)⟩
 .refine Oy P S ha hs B h_ s σ H R I ⟨G,_,h1,F,g,m,λvs E f st r=>?_⟩;obtain⟨v,w,rfl,r1,z,A,rfl,r2,h⟩:=r;cases h;cases r1;obtain⟨l,c,rfl,e,d⟩:=r2;exact⟨x,l,W,⟨c,Rb.up (tp:=U) e (cc.refl _) st.good⟩,K _ E f st (Hw x e d)⟩
def Zv(tp:a7)(K:Fg)(B:TA):TI:=λσ H R=>B σ H λvs c=>∃a,vs=[.ref a]/\(∃xs,nG tp K c a xs)/\R (Z0 tp K a) c
def SK{tp:a7}{elts:O br}{k:T}{B:uo}{z:TA}{p:uo}(t:Gl X "enumerate")(y:X.mg "enumerate"=L)(ha:PA X [a] z)(hs:aL [a] X.env=[(J,eval a X.env)]) :
  PI X (.Tuple elts k B) (.Call (.Name "enumerate" p) [a] [] pos) (Zv tp X.K z):=by
 intro h_ s σ H R I h;refine pR (lD I t y (by decide +kernel:ei _=Y (.type "enumerate")) (cD (fT (ha _ h_ s σ H _ I h) λus s1 ⟨vs,g,f,l,m⟩=>?_) (by rw[hs];rfl) (by rfl)));refine ac λ_ b=>?_;obtain⟨i,rfl,⟨xs,n⟩,q⟩:=m;obtain⟨u,rfl,o⟩:=vals1 l;cases o;obtain⟨x,v,pl⟩:=nG.at f n;refine b ?_;refine Pz pl λC j r A=>?_;have w:@LT.lt _ _ i s1.heap.objs.size:=by obtain⟨_,e,_⟩:=pl.obj;exact hl9 e
 refine gk j ⟨_,_,_,_,g,W,(f.kept A),Jd i _ _ ?_ ?_ ?_,⟨⟨_,j⟩,r⟩,λc D=>?_,q⟩
 all_goals try grind
 have d:s1.heap.objs.size<=c:=by
  grind
 exact f.tM d (f.hok.fresh d)
theorem vJ:∀(xs:O Dat)(k i:T),(nY k xs)[i]?=(xs[i]?).map λx=>.tup [.int (k+i:T),x]
 |[],_,_=>by simp[nY]
 |x::xs,k,0=>by simp[nY]
 |x::xs,k,i+1=>by
   simp only[nY,dO];rw[vJ xs (k+1) i]
   congr 2
   funext y;rw[show k+1+i=k+(i+1)from(gD _ _ _)]
theorem vI:∀(xs:O Dat)(k:T),Z (nY k xs)=Z xs
 |[],_=>rfl
 |x::xs,k=>by simp only[nY,bf,vI xs (k+1)]
def K5{tp:a7}{K:Fg}{F1:Hp}{a:aC}{vs:O V}{ds:O Dat}(h:Rb tp K F1 a vs)(r:cB K F1 ds vs):j6 K F1 (Z0 tp K a) (nY 0 ds):=λF H g s=>by
 have e:=h.up s g;refine⟨λi d hd=>?_,λi hi=>⟨vs,e,?_⟩⟩
 .rw[vJ]at hd
  cases n:ds[i]? with
  |none=>rw[n]at hd;cases hd
  |some d1=>
    rw[n]at hd;cases hd;obtain⟨c,f,k⟩:=r.get n;refine⟨⟨vs,c,e,f⟩,λx o y=>?_⟩;obtain⟨T',j,rfl,p,l,rfl⟩:=y;have m:=bb (f.symm.trans (l vs e));subst m;refine⟨_,Step.alloc g j,⟨T',_,W,.inl ck,?_⟩⟩;exact⟨_,_,W,by rw[jR];exact rfl,c,[],W,k.mono (s.trans (cc.upd (g.sub.free j))),W⟩
 .rw[vI]at hi;rwa[r.length]
def iEs(B:TA):TI:=λσ H R=>B σ H λvs c=>∃x,vs=[.str x]/\R (Vp x) c
def Wv(B:Gl X "enumerate")(o:X.mg "enumerate"=L)(ha:PA X [a] y)(hs:aL [a] X.env=[(J,eval a X.env)]) :
  PI X (.Tuple elts k e) (.Call (.Name "enumerate" p) [a] [] pos) (iEs y):=by
 intro h_ s σ H R I h;refine pR (lD I B o (by decide +kernel:ei _=Y (.type "enumerate")) (cD (fT (ha _ h_ s σ H _ I h) λus s1 v=>?_) (by rw[hs];rfl) (by rfl)));obtain⟨vs,g,f,j,l⟩:=v;obtain⟨x,rfl,q⟩:=l;obtain⟨u,rfl,t,rfl⟩:=vals1 j;refine Py λw i m r=>?_;refine gk i ⟨_,_,_,_,g,W,(f.kept r),Nk x t _ _ ?_,⟨⟨_,i⟩,m⟩,λc n=>?_,q⟩
 .simp
 have d:s1.heap.objs.size<=c:=by
  simp only[aq,aQ,eg]at n
  rcases n with rfl|rfl<;>first|simp|exact aw _
 exact f.tM d (f.hok.fresh d)
def Ph{K:Fg}:j6 K F1 (Vp x) (nY 0 (x.cps.toList.map λc=>Dat.str ⟨#[c]⟩)):=λF H g s=>by
 refine⟨λi d hd=>?_,λi hi=>?_⟩
 .rw[vJ,aV,MF]at hd;obtain⟨c,f,rfl⟩:=dY hd;have e:x.cps[i]?=Y c:=by simpa using f
  have hi :=(bY.mp e).1;refine⟨hi,λv j y=>?_⟩;obtain⟨T',h,rfl,c2,h2,rfl⟩:=y;rw[e]at h2;cases h2;refine⟨_,Step.alloc g h,⟨T',_,W,.inl ck,?_⟩⟩;exact⟨.int i,[.str ⟨#[c]⟩],W,by rw[jR];exact rfl,.str ⟨#[c]⟩,[],W,W,W⟩
 .rw[vI]at hi;show x.cps.size<=i;simpa using hi
def NY{d:Dat}{xs:O Dat}(c:∀z,d≠.str z)(h:NZ d=Y xs):∃tp,Ey d=Y (tp,xs):=by
 cases d with
 |lst e=>cases h;exact⟨_,W⟩
 |tup e=>cases h;exact⟨_,W⟩
 |str z=>exact absurd rfl (c z)
 |_=>cases h
def RV(B:Gl X "enumerate")(y:X.mg "enumerate"=L)(ha:SA X C [a] [P])(hs:aL [a] X.env=[(J,eval a X.env)]) :
  SI X C (.Tuple elts k tp) (.Call (.Name "enumerate" p) [a] [] pos) (.enu P):=λh_ s σ H R I D=>by
 obtain⟨x,items,F,hi,g,j,A⟩:=D;obtain⟨⟨d,fr⟩,h1,h2⟩:=c9 hi;obtain⟨xs,h3,n⟩:=dY h2;subst n;by_cases l:∃z,d=.str z
 .obtain⟨z,rfl⟩:=l;cases h3;refine Wv B y ha hs h_ s σ H R I ⟨x,[.str z],by simp only[lH,h1,bH,bW],F,g,j,λvs u c st r=>?_⟩;obtain⟨v,w,rfl,r1,f⟩:=r;cases f;cases r1;exact⟨z,W,A _ u c st Ph⟩
 obtain⟨o,q⟩:=NY (λz e=>l ⟨z,e⟩) h3;refine SK (tp:=o) B y ha hs h_ s σ H R I ⟨x,[d],by simp only[lH,h1,bH,bW],F,g,j,λvs u c st r=>?_⟩;obtain⟨v,w,rfl,r1,f⟩:=r;cases f;obtain⟨t,h,rfl,m,i⟩:=rB q r1;exact⟨t,W,⟨h,m.up (cc.refl _) st.good⟩,A _ u c st (K5 m i)⟩
theorem oG{f:O Dat->g_}{K:Fg}{xs:O V}{H:Hp}{Q:VK}(hf:∀ds d fr,f ds=Y (d,fr)->Z ds=1)(h:gL K f xs H Q) :
  ∃o d fr F v,f [o]=Y (d,fr)/\xs=[v]/\Good F H/\Rep K F o v/\∀w u t,Step F H u t->Rep K u d w->(fr=U->eZ K H t d w)->Q w t:=by
 refine ac λ_ a=>?_;obtain⟨ds,d,fr,h1,F,g,r,k⟩:=h
 refine a ?_;match ds,hf ds d fr h1 with
 |[o],_=>
   obtain⟨v,w,rfl,e,c⟩:=r;cases c;exact⟨o,d,fr,F,v,h1,W,g,e,k⟩
theorem Vg:∀{ds:O Dat}{r:Dat×a7},b1 f ds=Y r->Z ds=1
 |[_],_,_=>rfl
 |[],_,h=>by cases h
 |_::_::_,_,h=>by cases h
def kn{b:Ya}:∀ds d fr,e8 b ds=Y (d,fr)->Z ds=1:=λds d fr h=>by
 cases b<;>first|exact Vg h|cases h
set_option tactic.hygienic true
def HS:iB X (.builtin "len") (gL X.K (e8 .len)):=λh_ s σ H xs us Q I r h=>by
 obtain⟨n,d,fr,F,v,h1,rfl,g,c,k⟩:=oG kn h
 cases n with
 |lst m=>
   cases h1;obtain⟨p,vs,rfl,t,e⟩:=c;refine qN h_ s σ H _ us Q I r ⟨p,vs,W,.inl (g.sub.seq t),?_⟩;rw[e.length];exact k _ F H (Step.refl g) W bB
 |tup m=>
   cases h1;obtain⟨p,vs,rfl,t,e⟩:=c;refine qN h_ s σ H _ us Q I r ⟨p,vs,W,.inr (t.mono g.sub).sq,?_⟩;rw[e.length];exact k _ F H (Step.refl g) W bB
 |str z=>
   simp only[e8,b1,vQ]at h1;split at h1
   .rename_i f;cases h1;cases c;exact zJ h_ s σ H _ us Q I r ⟨z,W,f,k _ F H (Step.refl g) W bB⟩
   .cases h1
 |dct q m=>
   cases h1;obtain⟨p,w,rfl,i,rfl,l⟩:=c;obtain⟨u,rfl,j⟩:=vals1 r;cases j;refine XC I (.inl (g.sub _ _ i)) λt x o=>⟨.int _,H,o,⟨t,W⟩,?_⟩
   rw[((ah ..).symm)];exact k _ F H (Step.refl g) W bB
 |_=>cases h1
def HV:iB X (.type "int") (gL X.K (e8 .int)):=λh_ s σ H xs us Q I r h=>by
 obtain⟨f,d,fr,F,v,h1,rfl,g,c,k⟩:=oG kn h
 cases f with
 |int i=>
   cases h1;cases c;exact HW h_ s σ H _ us Q I r (.inl ⟨i,W,k _ F H (Step.refl g) W bB⟩)
 |bl b=>
   cases h1;cases c;obtain⟨u,rfl,e⟩:=vals1 r;cases e;exact call_int_bool ⟨.int _,H,I.tok _,⟨_,W⟩,k _ F H (Step.refl g) W bB⟩
 |str x=>
   simp only[e8,b1,vQ,pJ,wK,wJ,bL,Mp,wL,vP]at h1;split at h1
   .rename_i hl;obtain⟨i,h2,h1⟩:=dY h1;cases h1;cases c;obtain⟨u,rfl,t,rfl⟩:=vals1 r;exact PySem.W.KIN.call_text h2 hl ⟨.int i,H,I.tok _,⟨_,W⟩,k _ F H (Step.refl g) W bB⟩
   .cases h1
 |_=>cases h1
def HR:iB X (.type "str") (gL X.K (e8 .str)):=λh_ s σ H xs us Q I r h=>by
 refine ac λ_ a=>?_;obtain⟨e,d,fr,F,v,h1,rfl,g,c,k⟩:=oG kn h
 refine a ?_;cases e with
 |int i=>
   simp only[e8,b1,vP]at h1;split at h1
   .rename_i hl;cases h1;cases c;exact zH h_ s σ H _ us Q I r ⟨i,W,hl,k _ F H (Step.refl g) W bB⟩
   .cases h1
 |_=>cases h1
set_option tactic.hygienic false
def DU:iB X (.type "list") (gL X.K (e8 .list)):=λh_ s σ H xs us Q I r h=>by
 obtain⟨j,d,fr,F,v,h1,rfl,g,f,k⟩:=oG kn h
 have fin:∀{vs:O V}{i:O Dat},cB X.K F i vs->(d,fr)=(Dat.lst i,kd i)->∀l,H l=L->Q (.ref l) (upd H l (.lst vs)):=λ{vs i}c e l hl=>by
  cases e;have r2:=c.mono (cc.upd (o:=.lst vs) (g.sub.free hl));exact k _ _ _ (Step.alloc g hl) ⟨l,vs,W,.inl (.inl ck),r2⟩ λz=>.lst (cc.refl _) hl (.ju g z c)
 cases j with
 |lst i=>
   obtain⟨p,vs,rfl,t,c⟩:=f;exact qM h_ s σ H _ us Q I r ⟨p,vs,W,.inl (g.sub.seq t),fin c (bb h1).symm⟩
 |tup i=>
   obtain⟨p,vs,rfl,t,c⟩:=f;exact qM h_ s σ H _ us Q I r ⟨p,vs,W,.inr (t.mono g.sub).sq,fin c (bb h1).symm⟩
 |_=>cases h1
def BO:iB X (.type "tuple") (gL X.K (e8 .tuple)):=λh_ s σ H xs us Q I r h=>by
 refine ac λ_ a=>?_;obtain⟨f,d,fr,F,v,h1,rfl,g,e,k⟩:=oG kn h
 refine a ?_;cases f with
 |lst i=>
   cases h1;obtain⟨p,vs,rfl,t,c⟩:=e;exact pI h_ s σ H _ us Q I r ⟨p,vs,W,.inl ⟨g.sub.seq t,λl hl=>k _ _ _ (Step.alloc g hl) ⟨l,vs,W,.inl ck,c.mono (cc.upd (g.sub.free hl))⟩ bB⟩⟩
 |tup i=>
   cases h1;obtain⟨p,vs,rfl,t,c⟩:=e;exact pI h_ s σ H _ us Q I r ⟨p,vs,W,.inr ⟨(t.mono g.sub).sq,k _ F H (Step.refl g) ⟨p,vs,W,t,c⟩ bB⟩⟩
 |_=>cases h1
theorem sy{K:Fg}:∀{ds:O Dat}{bs:O a7}{vs:O V}{us:O ag},nE ds=Y bs->cB K F ds vs->cH vs us->us=bs.map nQ
 |[],bs,vs,us,h,r,w=>by
   cases h;rw[r]at w;cases w;rfl
 |d::ds,bs,vs,us,h,c,w=>by
   obtain⟨v,r,rfl,h1,h2⟩:=c;cases d with
   |bl b=>
     obtain⟨f,hb,h⟩:=dY h;cases h;cases h1
     cases w with
     |cons q w=>cases q;rw[sy hb h2 w];rfl
   |_=>cases h
def xQ{s:ao}{f:cg}(t:∀b x,b∉[s.heap.objs.size]->(s.heap.push o).get? b=Y x->f.get? b=Y x):∀b x,s.heap.get? b=Y x->f.get? b=Y x:=
 λb x e=>t b x (λc=>absurd (hl9 e) (by simp_all)) (hp9 _ e)
def C7(bs:O a7):((aJ bs.length).all λi=>(bs[i]?).getD U)=bs.all id:=by
 rw[kX,aI,aI];constructor
 .intro h b hb;obtain⟨i,hi,rfl⟩:=iW hb;have:=h i (aO.mpr hi);simpa [ae hi]using this
 .intro h i hi;have c:=aO.mp hi;simp only[ae c,fe];exact h _ (bA c)
def HY(B:X.calm=U):iB X (.builtin "all") (gL X.K (e8 .all)):=λh_ s σ H xs us Q I r h=>by
 obtain⟨D,d,fr,F,v,h1,rfl,g,l,k⟩:=oG kn h
 cases D with
 |lst E=>
   simp only[e8,b1,vQ,pJ,wK,wJ,bL,Mp,wL,vP]at h1;obtain⟨bs,hb,h1⟩:=dY h1;cases h1;obtain⟨p,vs,rfl,t,m⟩:=l;obtain⟨C,n,pl,_⟩:=I.lstR g t;obtain⟨u,rfl,o⟩:=vals1 r;cases o;have f:=sy hb m n;have e:=pl.lt;refine call_all_walk (kr pl.isList ?_)
   refine⟨s.heap.objs.size,[s.heap.objs.size,p],[s.heap.objs.size],C.toArray.size,_,_,λi=>(bs[i]?).getD U,W,Gi (A:=X.A.in1) (I.ok.hd B) _ p (ba e) C.toArray,
    ⟨⟨_,ax _ W,W,W⟩,pl.isList.push _⟩,λi v G M y q j=>?_,λN z w=>?_⟩
   .subst f;have c:(bs.map nQ)[i]?=Y v:=by simpa using q
    rw[aV]at c
    cases hi:bs[i]? with
    |none=>rw[hi]at c;cases c
    |some b=>
      rw[hi]at c;cases c;simp only[hi,fe]at j;exact de j
   .have x:C.toArray.size=Z bs:=by rw[f];simp
    rw[x,C7];exact⟨.bl _,H,I.kept (xQ w),W,k _ F H (Step.refl g) W bB⟩
 |_=>cases h1
def C6(bs:O a7):((aJ bs.length).any λi=>(bs[i]?).getD J)=bs.any id:=by
 rw[kX,fw,fw];constructor
 .rintro⟨i,hi,h⟩;have c:=aO.mp hi;rw[ae c]at h;exact⟨_,bA c,h⟩
 .rintro⟨b,hb,h⟩;obtain⟨i,hi,rfl⟩:=iW hb;exact⟨i,aO.mpr hi,by simp_all⟩
def HX(B:X.calm=U):iB X (.builtin "any") (gL X.K (e8 .any)):=λh_ s σ H xs us Q I r h=>by
 refine ac λ_ a=>?_;obtain⟨y,d,fr,F,v,h1,rfl,g,l,k⟩:=oG kn h
 refine a ?_;cases y with
 |lst D=>
   refine ac λ_ a=>?_;obtain⟨bs,hb,h1⟩:=dY h1;cases h1;obtain⟨p,vs,rfl,t,m⟩:=l;obtain⟨e,n,pl,_⟩:=I.lstR g t;obtain⟨u,rfl,o⟩:=vals1 r;cases o;refine a ?_;have f:=sy hb m n;refine call_any_walk (kr pl.isList ?_)
   refine⟨_,_,_,_,_,_,λi=>(bs[i]?).getD J,W,Walks.list (A:=X.A.in1) (I.ok.hd B) _ p (ba pl.lt) _,
    ⟨⟨_,ax _ W,W,W⟩,pl.isList.push _⟩,λi v E G w q j=>?_,λM x z=>?_⟩
   .subst f;have c:(bs.map nQ)[i]?=Y v:=by simpa using q
    rw[aV]at c
    cases hi:bs[i]? with
    |none=>simp_all
    |some b=>
      rw[hi]at c;cases c;simp only[hi,fe]at j;exact de j
   .have C:e.toArray.size=Z bs:=by rw[f];simp
    rw[C,C6];exact⟨.bl _,H,I.kept (xQ z),W,k _ F H (Step.refl g) W bB⟩
 |_=>cases h1
def iH(o:Vu):O Dat->g_
 |[x,y]=>fF o x y
 |_=>L
theorem Lv{o:Vu}{K:Fg}{xs:O V}{H:Hp}{Q:VK}(h:gL K (iH o) xs H Q) :
  ∃t B d fr F v w,fF o t B=Y (d,fr)/\xs=[v,w]/\Good F H/\Rep K F t v/\Rep K F B w/\∀w y u,Step F H y u->Rep K y d w->(fr=U->eZ K H u d w)->Q w u:=by
 refine ac λ_ a=>?_;obtain⟨l,d,fr,h1,F,g,r,k⟩:=h
 refine a ?_;match l,h1 with
 |[t,B],h1=>
   refine ac λ_ a=>?_;obtain⟨v,w,rfl,f,i,j,rfl,c,e⟩:=r;cases e;refine a ?_;exact⟨t,B,d,fr,F,v,i,h1,W,g,f,c,k⟩
set_option tactic.hygienic true
def DT(B:X.calm=U):iB X (.builtin "max") (gL X.K (iH .mx)):=λh_ s σ H xs us Q I r h=>by
 refine ac λ_ a=>?_;obtain⟨o,e,d,fr,F,v,w,h1,rfl,g,f,l,k⟩:=Lv h;refine a ?_;cases o<;>cases e<;>simp only[fF,zK,D1,D0,reduceCtorEq]at h1
 rename_i i j;refine ac λ_ a=>?_;cases h1;cases f;cases l;obtain⟨u,m,rfl,⟨t,rfl⟩,⟨q,rfl⟩⟩:=vals2 r;refine a ?_;refine max_two_ints (I.ok.hd B) λx n p=>⟨.int _,H,I.kept p,?_,k _ F H (Step.refl g) W bB⟩
 by_cases c:i<j
 .rw[a6 c,a6 (c)];exact⟨_,W⟩
 .rw[c4 c,c4 (c)];exact⟨_,W⟩
def DS(B:X.calm=U):iB X (.builtin "min") (gL X.K (iH .mn)):=λh_ s σ H xs us Q I r h=>by
 refine ac λ_ a=>?_;obtain⟨o,e,d,fr,F,v,w,h1,rfl,g,f,l,k⟩:=Lv h;refine a ?_;cases o<;>cases e<;>simp only[fF,zK,D1,D0,reduceCtorEq]at h1
 rename_i i j;refine ac λ_ a=>?_;cases h1;cases f;cases l;obtain⟨u,m,rfl,⟨t,rfl⟩,⟨q,rfl⟩⟩:=vals2 r;refine a ?_;refine min_two_ints (I.ok.hd B) λx n p=>⟨.int _,H,I.kept p,?_,k _ F H (Step.refl g) W bB⟩
 by_cases c:j<i
 .rw[a6 c,a6 c];exact⟨_,W⟩
 .rw[c4 c,c4 c];exact⟨_,W⟩
set_option tactic.hygienic false
def Jz{t:eS}(z:iB X (.builtin t) (gL X.K (iH o)))(u:Gl X x)(I:X.mg x=L)(P:ei x=Y (.builtin t))(ha:SA X C [e,y] [R,S])(hn:x≠"__name__")(B:(x == ("__debug__":bw))=J)
  (he:aL [e,y] X.env=(J,eval e X.env)::aL [y] X.env)(O':(e4 pos (aL [y] X.env)).any (·.1)=J):SE X C (.Call (.Name x p) [e,y] [] pos) (.bin o R S):=
 PE.imp (uZ z u I P ha hn B he O') (qP λj d fr h=>by
  refine ac λ_ a=>?_;obtain⟨⟨i,f⟩,h1,h⟩:=c9 h;obtain⟨⟨c,g⟩,h2,h⟩:=c9 h
  refine a ?_;exact⟨[i,c],by simp only[lH,h1,h2,bH,bW],h⟩)
end
section
variable{X:Cx}{pos:uo}{xs:O Ex}{F H:Hp}{iter:br}
noncomputable def tyName:Ty->eS
 |.int=>"int"
 |.bool=>"bool"
 |.str=>"str"
 |.tuple=>"tuple"
 |.list=>"list"
noncomputable def Xa:Dat->eS
 |.non=>"NoneType"
 |.bl _=>"bool"
 |.int _=>"int"
 |.str _=>"str"
 |.tup _=>"tuple"
 |.lst _=>"list"
 |.dct _ _=>"dict"
 |.dcn _=>"dict"
def T5(K:Fg)(t:Ty)(d:Dat):PySem.W.kitOne K (.type (Xa d)) (.type (tyName t))=Y (K8 t d):=by
 cases t<;>cases d<;>rfl
def YZ(K:Fg)(t:Ty):O V->Hp->VK->Prop:=λxs H Q=>∃a F v,xs=[v,.ty (tyName t)]/\Good F H/\Rep K F a v/\Q (.bl (K8 t a)) H
def HU:iB X (.builtin "isinstance") (YZ X.K t):=λh_ s σ H xs us Q I r h=>by
 obtain⟨i,F,v,rfl,g,b,q⟩:=h;obtain⟨u,w,rfl,c,d⟩:=vals2 r;obtain rfl:w=.type (tyName t):=d;have e:=T5 X.K t i;have fin:∀f,EP X h_ σ Q (.bool (K8 t i)) { s with toks:=f }:=λf=>⟨.bl _,H,I.tok f,W,q⟩
 cases i with
 |non=>cases b;obtain rfl:u=.none:=c;exact fG PySem.W.kitx_none I.Dy jh e (λz=>nomatch z) fin
 |bl y=>cases b;obtain rfl:u=.bool y:=c;exact fG PySem.W.kitx_bool I.Dy jh e (λz=>nomatch z) fin
 |int y=>cases b;obtain⟨a,rfl⟩:=c;exact fG PySem.W.kitx_int I.Dy jh e (λz=>nomatch z) fin
 |str y=>cases b;obtain⟨a,rfl⟩:=c;exact fG PySem.W.kitx_str I.Dy jh e (λz=>nomatch z) fin
 |tup k=>
   obtain⟨p,vs,rfl,a,_⟩:=b;obtain rfl:u=.ref p:=c;obtain⟨j,_,⟨o,h1,h2,_⟩,_⟩:=I.tupR g a;exact fG PySem.W.kitx_tuple I.Dy ⟨o,h1,h2⟩ e (λz=>nomatch z) fin
 |lst k=>
   obtain⟨p,vs,rfl,a,_⟩:=b;obtain rfl:u=.ref p:=c;obtain⟨j,_,⟨o,n,h1,h2,_⟩,_⟩:=I.lstR g a;exact fG PySem.W.kitx_list I.Dy ⟨o,h1,h2⟩ e (λz=>nomatch z) fin
 |dct l k=>
   obtain⟨p,A,rfl,a,_⟩:=b;obtain rfl:u=.ref p:=c;obtain⟨_,_,_,_,o,m,x,h1,h2,_⟩:=I.hok p _ (g.sub _ _ a);exact fG D9 I.Dy ⟨o,h1,h2.1⟩ e (λz=>nomatch z) fin
 |dcn l=>
   obtain⟨p,xs,rfl,a,_⟩:=b;obtain rfl:u=.ref p:=c;obtain⟨_,_,o,m,x,h1,h2,_⟩:=I.hok p _ (g.sub _ _ a);exact fG D9 I.Dy ⟨o,h1,h2.1⟩ e (λz=>nomatch z) fin
def Se(t:Ty)(I:Gl X "isinstance")(P:X.mg "isinstance"=L)(B:Gl X x)(S:X.mg x=L)(f:ei x=Y (.type (tyName t)))(ha:SE X C a xa)(hn:x≠"__name__")(o:(x == ("__debug__":bw))=J)
  (z:aL [a,.Name x u] X.env=(J,eval a X.env)::aL [.Name x u] X.env)(y:(e4 pos (aL [.Name x u] X.env)).any (·.1)=J) :
  SE X C (.Call (.Name "isinstance" p) [a,.Name x u] [] pos) (.blt (.isi t) [xa]):=
 PE.imp (uZ HU I P (by decide +kernel:ei "isinstance"=Y (.builtin "isinstance")) (t6 ha (t6 (OC B S f (v:=.ty (tyName t)) W hn o) Di) z) (by decide) (by decide) z y) λσ H Q b=>by
  obtain⟨l,d,fr,h,F,g,R,k⟩:=b;obtain⟨m,h1,h2⟩:=c9 h;obtain⟨⟨i,c⟩,h3,h1⟩:=c9 h1;cases h1;cases h2;exact⟨l,i,c,h3,F,g,R,λv j e st r _=>⟨i,j,v,W,st.good,r,k _ j e st W bB⟩⟩
def BK:∀σ H Q,gE X.K C (.MR o P S xb xc) σ H Q->CJ (gB X.K (mW o)) (gB X.K (mW P)) (gE X.K C S) (gE X.K C xb) (gE X.K C xc) σ H Q:=λσ H Q m=>by
 obtain⟨M,d,fr,h,F,g,R,k⟩:=m;obtain⟨⟨N,n⟩,h1,h⟩:=c9 h;obtain⟨⟨f,p⟩,h2,h⟩:=c9 h;obtain⟨r,h3,h⟩:=c9 h;refine⟨M,N,n,h1,F,g,R,λv V J' a r1 _=>⟨M,f,p,h2,V,a.good,R.mono a.ff,λw q H2 b r2 _=>?_⟩⟩;refine⟨N,f,.bl r,J,by show(ef o N f).map _=_;rw[h3];rfl,q,b.good,r1.mono b.ff,r2,λu j s c r3 _=>⟨r,r3,?_⟩⟩
 cases r with
 |true=>
   refine DB ?_;obtain⟨⟨l,t⟩,x,h⟩:=c9 h;refine⟨M,l,t,x,j,c.good,R.mono ((a.ff.trans b.ff).trans c.ff),λy A H4 e B _=>?_⟩;exact⟨f,l,d,fr,h,A,e.good,r2.mono (c.ff.trans e.ff),B,λu D E i G I=>k u D E ((((a.trans b).trans c).trans e).trans i) G λz=>(I z).back (F:=F) (((a.hh.trans b.hh).trans c.hh).trans e.hh)⟩
 |false=>
   refine DC ?_;cases h;exact k _ j s ((a.trans b).trans c) W bB
end
theorem xU:∀{us:O ag}{is:O dc},lM us is->cH (is.map V.int) us
 |_,_,.nil=>.nil
 |_,_,.cons n t h=>.cons ⟨t,W⟩ (xU h)
theorem xq:∀{us:O ag}{is:O bw},mJ us is->cH (is.map V.str) us
 |_,_,.nil=>.nil
 |_,_,.cons n t h=>.cons ⟨t,W⟩ (xq h)
theorem YS{K:Fg}:∀(is:O dc),cB K F (is.map Dat.int) (is.map V.int)
 |[]=>rfl
 |i::is=>⟨_,_,W,W,YS is⟩
theorem YR{K:Fg}:∀(is:O bw),cB K F (is.map Dat.str) (is.map V.str)
 |[]=>rfl
 |i::is=>⟨_,_,W,W,YR is⟩
theorem Xi:∀(is:O dc),kd (is.map Dat.int)=U
 |[]=>rfl
 |i::is=>by rw[ak];simp only[kd,im,zZ];exact Xi is
theorem Xh:∀(is:O bw),kd (is.map Dat.str)=U
 |[]=>rfl
 |i::is=>by exact Xh is
section
end
section
end
section
variable{X:Cx}{iter:br}{ifs:O br}
def N6(b:X.calm=U)(S:jb X scope e o caps)(hi:SI X C tg iter it)(c:pL e.length g)(t:Vm X.K e.length one g)
  (u:∀(cl:O (bw×aC))(B:ao)(f:Hp)(Ca:aC)(ex:O aC),PG (eK X scope cl (e++o) B f Ca ex) tg g)
  (y:∀(cl:O (bw×aC))(B:ao)(f:Hp)(Ca:aC)(ex:O aC),MT (eK X scope cl (e++o) B f Ca ex) ifs (VF X.K C xs))
  (z:∀(cl:O (bw×aC))(B:ao)(f:Hp)(Ca:aC)(ex:O aC),SE (eK X scope cl (e++o) B f Ca ex) C elt xe)
  (hs:∀x,er iter X.env x=pure x):SE X C (.ListComp elt [⟨tg,iter,ifs,0⟩] scope pos) (.comp e.length one caps it xs xe):=
 PE.imp (Oz b S hi u c y z hs) (yh t λ_ _ _=>trivial)
def CN{b:uo}(F:X.N.Nodup)(t:X.N[i]?=Y x)(I:Loc X.env.scope x)(c:X.calm=U)(S:jb X scope f u caps)(hi:SI X C tg iter it)(e:pL f.length g)(y:Vm X.K f.length one g)
  (P:∀(cl:O (bw×aC))(B:ao)(o:Hp)(Ca:aC)(ex:O aC),PG (eK X scope cl (f++u) B o Ca ex) tg g)
  (R:∀(cl:O (bw×aC))(B:ao)(o:Hp)(Ca:aC)(ex:O aC),MT (eK X scope cl (f++u) B o Ca ex) ifs (VF X.K C xs))
  (he:∀(cl:O (bw×aC))(B:ao)(o:Hp)(Ca:aC)(ex:O aC),SE (eK X scope cl (f++u) B o Ca ex) C elt xe)
  (z:f9 (.ListComp elt [⟨tg,iter,ifs,0⟩] scope pos) (Y (.Name x pos')) b.line X.env=pure U)
  (hs:∀x,er iter X.env x=pure x)(hf:X.fn x=U\/X.env.scope.names.lookup x=Y .local) :
  SS X C (.Assign [.Name x pos'] (.ListComp elt [⟨tg,iter,ifs,0⟩] scope pos) b) (.set i (.comp f.length one caps it xs xe)):=
 PS.imp (C9 F t I c S hi P e R he z hs hf) (Aw (yh y λ_ _ _=>trivial))
end
def Vl(K:Fg)(one:a7)(B:O T)(g:TG):Prop:=∀c H₀ F H σ e d x b Q,Rl K c H₀ F H σ e->Rep K F d x->gr one B d e=Y b->(∀a,Rl K c H₀ F H a b->Q a H)->g x σ H Q
def Nl{K:Fg}:Vl K U [i] (kN i):=λb H₀ F H σ c d x a Q R r hb k=>by
 simp only[gr,i4]at hb;subst hb;exact k _ (R.CW r)
def Yq:O T->Rc
 |[]=>HB
 |i::is=>xZ (kN i) (Yq is)
theorem Lu{K:Fg}:∀(f:O T){σ:St}{ρ:eh},Rl K o H₀ F H σ ρ->∀ds:O Dat,Z ds=Z f->(∀B,Rl K o H₀ F H B (oU f ds ρ)->Q B H)->∀vs,cB K F ds vs->Yq f vs σ H Q
 |[],σ,ρ,R,ds,a,k,vs,r=>by
   cases ds with
   |nil=>exact⟨r,k _ R⟩
   |cons _ _=>cases a
 |i::is,σ,ρ,R,ds,a,k,vs,r=>by
   cases ds with
   |nil=>cases a
   |cons d ds=>
     obtain⟨v,w,e,b,c⟩:=r;subst e;exact⟨v,w,W,Lu is (R.CW b) ds (by simpa using a) k w c⟩
set_option tactic.hygienic true in
theorem Jh{K:Fg}:Vl K J c (Ls K c.length (Yq c)):=λg H₀ F H σ h d x e Q R r hb k=>by
 simp only[gr]at hb
 cases d with
 |tup f=>
   dsimp only at hb;split at hb
   .rename_i b;cases hb;obtain⟨a,vs,rfl,t,r⟩:=r;exact ⟨a,vs,W,(t.mono R.step.good.sub).sq,by rwa[r.length],(Lu c R f b k vs r)⟩
   .cases hb
 |_=>cases hb
section
variable{X:Cx}{iter:br}{pos:uo}
def LL{K:Fg}(R:Rl K f H₀ F H σ ρ)(h:BA C (.rng es) ρ=Y (items,e))
  (k:∀J' F1 B,cc F F1->Rl K f H₀ F1 B σ e->j6 K (vA (.rng es) F1) J' items->Q J' B):gI K C (.rng es) σ H Q:=by
 obtain⟨g,h1,h⟩:=dY h;cases h;obtain⟨c,d,b⟩:=R.kZ;refine⟨_,_,c,h1,b.step.good,b.full,λJ' F1 B st ok=>?_⟩;have a:=Step.shrink R.step.good d st;exact k J' _ B a.ff (R.moved a) ok
def vH{K:Fg}(R:Rl K c H₀ F H σ ρ)(h:(ug C it (xg (kH is ρ))).map (λds=>(ds,kH is ρ))=Y (items,b))
  (k:∀J' F1 B,cc F F1->Rl K c H₀ F1 B σ b->j6 K (vA it F1) J' items->Q J' B):gI K C it σ H Q:=by
 obtain⟨ds,h1,h⟩:=dY h;cases h;obtain⟨a,s2,R2⟩:=R.freeze is;exact⟨_,_,a,h1,R2.step.good,R2.xg,λJ' F1 B st ok=>k J' F1 B (s2.trans st.ff) (R2.moved st) ok⟩
theorem qx{K:Fg}{D:Ends}(P:Vl K one ts g)(s1:cc F F1)(R1:Rl K Fz H₀ F1 H1 σ ρ')(le:∀O',cc F1 O'->cc F0 O')(ok:j6 K F0 J' items)
  (h:iw (gr one ts) (gJ C xs) items ρ'=Y out)(k:vx K Fz H₀ F D out):∃R:T->T->St->Hp->Prop,(∃m,R 0 m σ H1)/\∀i m σ H,R i m σ H->
   (J'.stop i H/\D.nx σ H)\/(J'.go i H/\∃N:St->Hp->Prop,(∀B H',N B H'->∃S,S<m/\R (i+1) S B H')/\∀x H',J'.yld i H x H'->g x σ H' λσ2 H2=>gSs K C xs { D with nx:=N,ct:=N,bk:=D.nx } σ2 H2):=by
 refine⟨λi m σ H=>∃F M,Rl K Fz H₀ F H σ M/\cc F1 F/\iw (gr one ts) (gJ C xs) (items.drop i) M=Y out/\m=Z items - i/\i<=Z items,⟨items.length,F1,ρ',R1,cc.refl _,h,W,aY _⟩,?_⟩;rintro i m σ2 H2 ⟨O',r,R2,s2,hl,rfl,s⟩;obtain⟨t,WL⟩:=ok O' H2 R2.step.good (le O' s2);by_cases a:i<Z items
 .obtain⟨go,A⟩:=t i items[i] (ae a);refine .inr ⟨go,λB H'=>∃S,S<Z items - i/\∃F M,Rl K Fz H₀ F H' B M/\cc F1 F/\iw (gr one ts) (gJ C xs) (items.drop (i+1)) M=Y out/\S=Z items - (i+1)/\i+1<=Z items,λB H' z=>z,λx w E=>?_⟩;obtain⟨y,j,r3⟩:=A x w E;rw[mF a]at hl;obtain⟨l,u,hl⟩:=c9 hl;obtain⟨o,ho,hl⟩:=c9 hl;refine P Fz H₀ y w σ2 r _ x l _ (R2.moved j) r3 u λG I=>?_;have b :=s2.trans j.ff;refine⟨Fz,H₀,y,l,o,ho,I,?_⟩
  cases o with
  |nx c=>exact λn v f p q=>⟨Z items - (i+1),t9 (ws a) (wt (bx a)),n,c,q,b.trans p,hl,W,a⟩
  |ct c=>exact λn v f p q=>⟨Z items - (i+1),t9 (ad a) (am (Nat.le_of_lt a)),n,c,q,b.trans p,hl,W,a⟩
  |bk c=>
    cases hl;exact λn v f p q=>k n v f ((s1.trans b).trans p) q
  |rt d fr=>
    cases hl;exact k
 .have e :=bu s (iS a);subst e;rw[MM]at hl;cases hl;exact .inl ⟨WL _ (aw _),k O' H2 σ2 (s1.trans s2) R2⟩
theorem yQ(hp:Ij (aB X.prog X.w) X.A X.env X.xe)(o:X.calm=U)(hi:SI X C tg iter it)(B:∀a,it≠.itv a)(f:PG X tg g)(t:Vl X.K one u g)(hb:P9 X C body xs)
  (hs:∀x,er iter X.env x=pure x):SS X C (.For tg iter body [] pos) (.loop one u it xs):=
 PS.imp (JZ hp o hi f hb hs) λD σ H c=>by
  obtain⟨m,H₀,F,q,n,h,R,k⟩:=c;obtain⟨⟨items,j⟩,h1,h⟩:=c9 h;have fin:∀l i b,cc F i->Rl _ m _ i b σ j->j6 _ (vA it i) l items->_:=λl i b s1 d ok=>qx t s1 d (λe s=>Br s) ok h k
  cases it with
  |itv a=>exact absurd rfl (B a)
  |rng p=>exact LL R h1 fin
  |zip p=>exact vH R h1 fin
  |enu a=>exact vH R h1 fin
  |rev a=>exact vH R h1 fin
theorem NB(hp:Ij (aB X.prog X.w) X.A X.env X.xe)(u:X.calm=U)(o:SE X C iter xe)(y:PG X tg g)(B:Vl X.K one z g)(hb:P9 X C body xs)
  (hs:∀x,er iter X.env x=pure x):SS X C (.For tg iter body [] pos) (.loop one z (.itv xe) xs):=
 PS.imp (JZ hp u (PI.or (PI.or (EN o) (J4 o)) (J7 o)) y hb hs) λD σ H j=>by
  refine ac λ_ l=>?_;obtain⟨N,H₀,F,P,q,h,R,k⟩:=j;obtain⟨⟨items,E⟩,h1,h⟩:=c9 h;obtain⟨⟨d,fr,G⟩,h2,h3⟩:=c9 h1;obtain⟨Q,c,I⟩:=dY h3;cases I
  refine l ?_;cases d with
  |lst M=>
    cases c;refine .inl (.inl (zx R h2 λv Fm m n a b st r f=>?_));obtain⟨p,vs,rfl,t,e⟩:=r;exact⟨p,W,⟨vs,st.good.sub.seq t⟩,qx B (a.trans st.ff) (b.moved st) (λi s=>s) (xR t e) h k⟩
  |tup M=>
    cases c;refine .inl (.inr (zx R h2 λv Fm m n a b st r f=>?_));obtain⟨p,vs,rfl,t,e⟩:=r;exact⟨p,W,⟨vs,(t.mono st.good.sub).sq⟩,qx B (a.trans st.ff) (b.moved st) (λi s=>s) (A8 t e) h k⟩
  |str x=>
    cases c;refine .inr (zx R h2 λv Fm m n a b st r f=>?_);cases r;exact⟨x,W,qx B (a.trans st.ff) (b.moved st) (λi s=>s) A9 h k⟩
  |_=>cases c
set_option tactic.hygienic true in
theorem RD(z:SE X C e xe)(B:Vl X.K J u y)(I:PG X t y)
  (hs:hI [t] e pos.line X.env=pure J)(o:hK [t] e X.env=pure L)(h1:(eH [t] X.env).map (·.2)=[kl t X.env]):SS X C (.Assign [t] e pos) (.Yg u xe):=
 PS.imp (Dc z I hs o h1) λD σ H b=>by
  refine ac λ_ l=>?_;obtain⟨s,H₀,F,x,w,h,R,k⟩:=b;obtain⟨⟨d,fr,m⟩,h1,h⟩:=c9 h
  refine l ?_;cases d with
  |tup n=>
    have h:(if Z n=(Z u) then Y (Out.nx (oU u n m))else L)=Y _:=h;split at h
    .rename_i c;cases h;refine zx R h1 λv Fm p q g i st r f=>?_;refine B s _ p q σ _ _ v (oU u n _) _ (i.moved st) r ?_ λa j=>k p q a (g.trans st.ff) j;simp only[gr];rw[a6 c]
    .cases h
  |_=>cases h
end
section
variable{K:Fg}{base:cg}
set_option tactic.hygienic true in
theorem UC{st:l9}{ps:O bw}(F:Yx K x qual st f fd)(S:qR N ps (dF st))(O':Z ps<=Z N)
  (B:∀(cdv:ag)(A:bZ)(outer:O Qn)(s:ao)(H:Hp)(E:XK),mY k (A.deeper (hO qual (dF st) s.heap.objs.size f cdv))->
   P9 (BG Ic P w K mg base N qual (dF st) f cdv A outer s H E).VA C (o4 st) body):nH P w K mg base Ic (k+1) f fd ps (RO K ps.length (LG C ps.length N.length body)):=by
 refine F.ok S (λvs H Q E h=>h.1) λcdv A outer s H vs Q E m h=>⟨_,B cdv A outer s H E m,?_⟩
 obtain⟨hl,G,d,fr,a,I,g,r,l⟩:=h;unfold LG at a;split at a
 .rename_i M;obtain⟨o,ho,a⟩:=c9 a;refine⟨I,H,I,_,o,ho,⟨Step.refl g,?_,λi V q=>?_,λ_=>[],λi V q=>?_,λi j d1 d2 n b D=>?_⟩,?_⟩
  .unfold L2.start;simp[hl,M]
  .have hi:i<Z G:=by
    by_cases hi:i<Z G
    .exact hi
    .rw[aM (by simpa using hi),dM]at q;split at q<;>cases q
   rw[a9 (by simpa using hi),aV]at q;obtain⟨d2,e,c⟩:=dY q;cases c;obtain⟨v,p,t⟩:=r.get e;refine⟨v,?_,t⟩;unfold L2.start;rw[a9 (by simp;exact Nat.le_trans hi (Nat.le_trans (Nat.le_of_eq M) (Nat.le_of_eq hl.symm))),aV,p];rfl
  .exfalso;by_cases hi:i<Z G
   .rw[a9 (by simpa using hi),aV]at q;obtain⟨d2,e,c⟩:=dY q;cases c
   .rw[aM (by simpa using hi),dM]at q;split at q<;>cases q
  .exfalso;by_cases hi:i<Z G
   .rw[a9 (by simpa using hi),aV]at b;obtain⟨d2,e,c⟩:=dY b;cases c
   .rw[aM (by simpa using hi),dM]at b;split at b<;>cases b
  .cases o with
   |nx u=>
     cases a;exact λX H' y s' R=>l _ X H' R.step W bB
   |rt V z=>
     cases a;exact l
   |bk _=>cases a
   |ct _=>cases a
 .cases a
end
theorem dh.take{K:Fg}:∀(n:T){ds:O Dat}{vs:O V}{S:O aC},dh K H ds vs S->∃B o,dh K H (ds.take n) (vs.take n) B/\dh K H (ds.drop n) (vs.drop n) o/\S=B++o
 |0,ds,vs,S,h=>⟨[],S,⟨W,W⟩,h,W⟩
 |n+1,[],vs,S,h=>by
   obtain⟨rfl,rfl⟩:=h;exact⟨[],[],⟨W,W⟩,⟨W,W⟩,W⟩
 |n+1,d::ds,vs,S,b=>by
   refine ac λ_ j=>?_;obtain⟨v,r,B,o,e,h1,h2,q⟩:=b;subst e q;obtain⟨a,c,f,g,i⟩:=dh.take n h2;refine j ?_;exact⟨_,c,⟨v,_,B,a,W,h1,f,W⟩,g,by simp_all⟩
theorem dh.setAt{K:Fg}{T':O aC}(u:nZ K H d' y T'):∀(n:T){ds:O Dat}{vs:O V}{S:O aC},n<Z ds->dh K H ds vs S->∃B t o,dh K H (ds.set n d') (vs.set n y) (B++T'++o)/\S=B++t++o
 |n,[],vs,S,a,h=>absurd a (by simp)
 |0,d::ds,vs,S,_,b=>by
   obtain⟨v,r,B,t,e,h1,h2,q⟩:=b;subst e q;exact⟨[],B,t,⟨y,r,T',t,W,u,h2,by simp⟩,by simp⟩
 |n+1,d::ds,vs,S,a,b=>by
   obtain⟨v,r,B,t,e,h1,h2,q⟩:=b;subst e q;obtain⟨c,g,f,i,j⟩:=dh.setAt u n (by simpa using a) h2;refine⟨B++c,g,f,⟨v,_,B,_,W,h1,i,by simp⟩,by rw[j];simp⟩
section
variable{K:Fg}
def Rl.mut(R:Rl K Fz H₀ F H σ ρ)(S:Ow K H₀ F H σ ρ Ss)(hi:ρ[i]?=Y (Y (d,U)))(B:σ[i]?=Y (Y v))
  (hl:l∈Ss i)(I:Qc o')(o:nZ K (upd H l o') d' v S')(nd:S'.Nodup)(P:∀a∈S',a∈Ss i\/(F a=L/\H₀ a=L/\∀(j:T)d2,ρ[j]?=Y (Y (d2,U))->a∉Ss j)) :
  Rl K Fz H₀ F (upd H l o') σ (ρ.set i (Y (d',U))):=by
 obtain⟨w,D,s,E,n⟩:=S.own i d hi;obtain⟨G,p,mul⟩:=s.Cg _ l hl;refine⟨⟨⟨λa u q=>?_,λa us q=>?_⟩,R.step.ff,λa u q=>?_,R.step.un⟩,by simpa using R.len,λj d2 q=>?_,λj=>if j=i then S' else Ss j,λj d2 q=>?_,λj k d1 d2 g t r=>?_⟩
 .rw[cL (dS q ((n l hl).1))];exact R.step.good.sub a u q
 .by_cases ha:a=l
  .subst ha;rw[ck]at q;cases q;exact I.elim
  .rw[cL ha]at q;exact R.step.good.tup a us q
 .rw[cL (dS q ((n l hl).2))];exact R.step.hh a u q
 .rcases ip q with⟨rfl,e⟩|⟨c,h⟩
  .cases e
  .exact R.val j d2 h
 .rcases ip q with⟨rfl,e⟩|⟨c,h⟩
  .cases e;rw[a6 W];refine⟨v,B,o,nd,λa m=>?_⟩
   rcases P a m with m|m
   .exact n a m
   .exact⟨m.1,m.2.1⟩
  .rw[c4 (eW c)];obtain⟨w,x,y,A,C⟩:=S.own j d2 h;exact⟨w,x,y.upd (λvs z=>by rw[p]at z;cases z;exact mul) d2 (S.sep i j d d2 c hi h l hl),A,C⟩
 .intro a m
  rcases ip t with⟨rfl,e⟩|⟨h1,f⟩
  .rw[a6 W]at m
   rcases ip r with⟨s,_⟩|⟨h2,b⟩
   .exact absurd s g
   .rw[c4 (eW h2)]
    rcases P a m with m|m
    .exact S.sep _ k d d2 h2 hi b a m
    .exact m.2.2 k d2 b
  .rw[c4 (eW h1)]at m
   rcases ip r with⟨rfl,e⟩|⟨h2,b⟩
   .rw[a6 W];intro m2
    rcases P a m2 with m2|m2
    .exact S.sep _ j d d1 h1 hi f a m2 m
    .exact m2.2.2 j d1 f m
   .rw[c4 (eW h2)];exact S.sep j k d1 d2 g f b a m
def Step.VU(st:Step F H f e)(g:Good F H)(B:∀a∈S,H a=L)(o:dh K e ds vs S):Step F H (uz f S) e:=by
 refine⟨⟨λa d q=>?_,λa vs q=>?_⟩,λa d q=>?_,st.hh,λa d q n=>?_⟩
 .by_cases m:a∈S
  .rw[xm m]at q;cases q
  .rw[ou m]at q;exact st.good.sub a d q
 .rw[ou λm=>?_]
  .exact st.good.tup a vs q
  .obtain⟨u,b,c⟩:=o.Cg _ a m;rw[q]at b;cases b;exact c
 .rw[ou λm=>?_]
  .exact st.ff a d q
  .rw[g.sub.free (B a m)]at q;cases q
 .by_cases m:a∈S
  .exact xm m
  .rw[ou m];exact st.un a d q n
def FF(R:Rl K u H₀ F H σ ρ)(h:qJ C es (M.full ρ)=Y (ds,U))
  (k:∀vs t b S,Step F H t b->dh K b ds vs S->S.Nodup->(∀a∈S,H a=L/\t a=L)->Q vs b):gF K C es σ H Q:=by
 obtain⟨d,i,c⟩:=R.kZ;refine⟨_,ds,U,h,d,c.step.good,c.full,λvs j e st r f=>?_⟩;obtain⟨S,n,g,o⟩:=f W;exact k vs _ e S (Step.VU (Step.shrink R.step.good i st) R.step.good g o) o n λa m=>⟨g a m,xm m⟩
end
noncomputable def Ud:V->a5 Key
 |.int i=>Y (.inl i)
 |.str x=>Y (.inr x)
 |_=>L
def Uc(h:Ud v=Y k):v=kV k:=by
 cases v<;>first|(cases h;rfl)|cases h
def Pe(k:Key):Ud (kV k)=Y k:=by cases k<;>rfl
noncomputable def rH(k:Key)(y:V):O (Key×V)->O (Key×V)
 |[]=>[(k,y)]
 |p::r=>if p.1=k then(p.1,y)::r else p::rH k y r
theorem EE:∀(r:O (Key×V)),(r.any λB=>decide (B.1=k))=J->r.map (λB=>if B.1=k then(B.1,y)else B)=r
 |[],_=>rfl
 |p::r,h=>by
   rw[kC,Bool.or_eq_false_iff]at h;rw[ak,c4 (lh h.1),EE r h.2]
theorem EL:∀(b:O (Key×V)),Km k (b.map (·.1))=U->putK b k y=rH k y b
 |[],_=>rfl
 |p::r,h=>by
   simp only[ak,Km]at h;by_cases e:p.1=k
   .rw[a6 e]at h
    have h2:(r.any λa=>decide (a.1=k))=J:=by
     simp only[mK]at h;rwa[List.any_map]at h
    unfold putK rH;rw[a6 e,a6 (by rw[kC,cb e];rfl),ak,a6 e,EE r h2]
   .rw[c4 e]at h;unfold rH;rw[c4 e,<-(EL (y:=y) r h)];unfold putK;rw[kC,dd e,Bool.false_or];split
    .rw[ak,c4 e]
    .rfl
theorem xE:∀(b:O (Key×V))(ds:O Dat),Z ds=Z b->(rH k y b).map (·.1)=(putD k d (b.map (·.1)) ds).1
 |[],ds,h=>by
   cases ds with
   |nil=>rfl
   |cons _ _=>cases h
 |p::r,[],h=>by cases h
 |p::r,e::ds,h=>by
   have a:=xE (k:=k) (y:=y) (d:=d) r ds (by simpa using h);simp only[rH,ak,putD];by_cases q:p.1=k
   .rw[a6 q,a6 q];rfl
   simp_all
theorem dh.put{K:Fg}{T':O aC}(o:nZ K H d y T')(B:T'.Nodup):∀(F:O (Key×V)) (ds:O Dat) (S:O aC),dh K H ds (F.map (·.2)) S->S.Nodup->(∀a∈S,a∉T')->
  ∃C,dh K H (putD k d (F.map (·.1)) ds).2 ((rH k y F).map (·.2)) C/\C.Nodup/\∀a∈C,a∈S\/a∈T'
 |[],[],S,os,f,c=>⟨T',.one o,B,λa m=>.inr m⟩
 |[],e::ds,S,os,f,c=>by
   obtain⟨v,r,i,g,q,_⟩:=os;cases q
 |p::r,[],S,os,f,c=>by
   cases os.1
 |p::r,e::ds,S,os,f,c=>by
   refine ac λ_ w=>?_;obtain⟨v,u,i,g,q,l,j,rfl⟩:=os;cases q;refine w ?_;have h:=bV.mp f;simp only[rH,ak,putD];by_cases q:p.1=k
   .rw[a6 q,a6 q];refine⟨_,⟨y,r.map _,T',g,W,o,j,W⟩,bV.mpr ⟨B,h.2.1,λa m b m2 z=>c b (aF _ m2) (z▸m)⟩,λa m=>?_⟩
    grind
   .rw[c4 q,c4 q];obtain⟨C,n,s,t⟩:=dh.put o B r ds g j h.2.1 λa m=>c a (aF _ m);refine⟨_,⟨_,(rH k y r).map _,i,C,W,l,n,W⟩,bV.mpr ⟨h.1,s,λa m b m2 z=>?_⟩,λa m=>?_⟩
    .subst z
     rcases t a m2 with z|z
     .exact h.2.2 a m a z W
     .exact c a (bp _ m) z
    grind
noncomputable def OU:HO->O V->a5 HO
 |.lst a,[y]=>if Z a<aD then Y (.lst (a++[y]))else L
 |_,_=>L
def Tv:HO->O V->a5 HO
 | .lst a,l=>match l with
   |[.int i,y]=>if Z a<aD/\-1000000<=i/\i<=1000000 then Y (.lst (insI y i a))else L
   |_=>L
 |_,_=>L
def Kp:HO->O V->a5 HO
 | .lst b,l=>match l with
   |[y,.int i]=>if -1000000<=i/\i<=1000000 then(NX y i b).map .lst else L
   |_=>L
 | .dK a,l=>match l with
   |[y,v]=>(Ud v).bind λk=>if Z a<aD then Y (.dK (putK a k y))else L
   |_=>L
 |_,_=>L
def IA:VP->HO->O V->a5 HO
 |.app,a,l=>OU a l
 |.ins,a,l=>Tv a l
 |.seti,a,l=>Kp a l
 |_,_,_=>L
def rO{T':O aC}(nd:(S++T').Nodup):S.Nodup/\T'.Nodup/\∀a∈S,a∉T':=by
 obtain⟨h1,h2,h3⟩:=bV.mp nd;exact⟨h1,h2,λa m n=>h3 a m a n W⟩
def oE{S T':O aC}(h1:S.Nodup)(h2:T'.Nodup)(h3:∀a∈S,a∉T'):(S++T').Nodup:=bV.mpr ⟨h1,h2,λa m b n z=>h3 a m (z▸n)⟩
def B4(K:Fg)(H:Hp)(B:VP)(d':Dat)(v:V)(vs:O V)(S T':O aC):Prop:=
 ∃l d b c,v=.ref l/\l∈S/\H l=Y d/\IA B d vs=Y b/\Qc b/\nZ K (upd H l b) d' v c/\c.Nodup/\∀a∈c,a∈S\/a∈T'
section
variable{K:Fg}{T':O aC}
def O2{d1:Dat}(hl:H l=Y (.lst xs))(os:dh K H es xs e)(nd:(l::e).Nodup)(o:nZ K H d1 y T')(t:T'.Nodup)(B:∀a∈l::e,a∉T')(c:Z es<aD):B4 K H .app (.lst (es++[d1])) (.ref l) [y] (l::e) T':=by
 have f:=bE.mp nd;have d :=B l iT;refine⟨l,_,.lst _,_,W,iT,hl,by simp only[IA,OU];rw[a6 (by rwa[os.length])],trivial,⟨l,_,_,W,ck,(os.upd (λvs z=>by rw[hl]at z;cases z) _ f.1).append (.one (o.upd (λvs z=>by rw[hl]at z;cases z) _ d)),W⟩,?_,λb m=>?_⟩
 .refine bE.mpr ⟨λm=>?_,oE f.2 t λb m=>B b (kc _ m)⟩
  rcases aR.mp m with m|m
  .exact f.1 m
  .exact d m
 .rcases aq.mp m with rfl|m
  .exact .inl iT
  .rcases aR.mp m with m|m
   .exact .inl (kc _ m)
   .exact .inr m
def O1{d1:Dat}(hl:H l=Y (.lst xs))(os:dh K H es xs C)(nd:(l::C).Nodup)(F:nZ K H d1 y T')(I:T'.Nodup)(B:∀a∈l::C,a∉T')(t:Z es<aD/\-1000000<=i/\i<=1000000):B4 K H .ins (.lst (insI d1 i es)) (.ref l) [.int i,y] (l::C) T':=by
 have f:=bE.mp nd;have c:∀vs,H l≠Y (.tup vs):=λvs z=>by rw[hl]at z;cases z
 have g :=B l iT;have d:=os.length;obtain⟨j,k,p,q,r⟩:=os.take (HT.gC es.length 0 (Y i));subst r;have h:HT.gC xs.length 0 (Y i)=HT.gC es.length 0 (Y i):=by rw[d]
 have e:=rO f.2;refine⟨l,_,.lst (insI y i xs),l::(j++(T'++k)),W,iT,hl,by simp only[IA,Tv];simp_all,trivial,⟨l,insI y i xs,j++(T'++k),W,ck,?_,W⟩,?_,λb m=>?_⟩
 .have s:=q.upd (o:=.lst (insI y i xs)) c _ (λm=>f.1 (aF _ m));have n:=(p.upd c _ (λm=>f.1 (bp _ m))).append ((dh.one (F.upd c _ g)).append s);have v:insI y i xs=xs.take (HT.gC es.length 0 (Y i))++([y]++xs.drop (HT.gC es.length 0 (Y i))):=by unfold insI;rw[h];rfl
  generalize u:L2.upd H l (.lst (insI y i xs))=H2 at n ⊢;rw[v];exact n
 .refine bE.mpr ⟨λm=>?_,oE e.1 (oE I e.2.1 λb m m2=>B b (kc _ (aF _ m2)) m) λb m m2=>?_⟩
  .grind
  grind
 grind
def Ul(h:MQ n i=Y k):k<n:=(zp h).2.1
def OY{d1:Dat}(hl:H l=Y (.lst xs))(os:dh K H es xs e)(nd:(l::e).Nodup)(t:nZ K H d1 y T')(u:T'.Nodup)(B:∀a∈l::e,a∉T')(c:-1000000<=i/\i<=1000000)(h2:MQ es.length i=Y k):B4 K H .seti (.lst (es.set k d1)) (.ref l) [y,.int i] (l::e) T':=by
 have n :=B l iT;obtain⟨f,r,g,o,rfl⟩:=os.setAt t k (Ul h2);have h:=rO (bE.mp nd).2;have d:l∉f++T'++g:=λm=>by
  grind
 refine⟨l,_,.lst _,_,W,iT,hl,?_,trivial,⟨l,_,_,W,ck,o.upd (λvs z=>by rw[hl]at z;cases z) _ d,W⟩,?_,λb m=>?_⟩
 .simp only[IA,Kp];rw[a6 c];unfold NX;rw[os.length,h2];rfl
 .refine bE.mpr ⟨d,oE (oE (rO h.1).1 u λb m=>B b (kc _ (bp _ (bp _ m)))) h.2.1 λb m m2=>?_⟩
  grind
 grind
end
def KD{K:Fg}{T':O aC}{d1:Dat}(hl:H l=Y (.dK e))(os:dh K H ds (e.map (·.2)) f)(nd:(l::f).Nodup)(c:nZ K H d1 y T')(t:T'.Nodup)(B:∀a∈l::f,a∉T')(o:Z (e.map (·.1))<aD/\Km k (e.map (·.1))=U) :
  B4 K H .seti (.dct (putD k d1 (e.map (·.1)) ds).1 (putD k d1 (e.map (·.1)) ds).2) (.ref l) [y,kV k] (l::f) T':=by
 have h:=bE.mp nd;obtain⟨g,i,j,n⟩:=dh.put c t e ds f os h.2 λa m=>B a (kc _ m)
 have d:l∉g:=λm=>by
  rcases n l m with z|z
  .exact h.1 z
  .exact (B l iT) z
 refine⟨l,_,.dK _,_,W,iT,hl,?_,trivial,⟨l,_,g,W,ck,xE e ds (by simpa using os.length.symm),i.upd (λvs z=>by rw[hl]at z;cases z) _ d,W⟩,bE.mpr ⟨d,j⟩,λb m=>?_⟩
 .simp only[IA,Kp,Pe,bH];rw[a6 (by simpa using o.1),EL e o.2]
 grind
set_option tactic.hygienic true in
theorem OZ{K:Fg}{T':O aC}(h1:op≠.ext)(h2:op≠.dput)(h:mQ op d ds=Y d')(o:nZ K H d v S)(nd:S.Nodup)(a:dh K H ds vs T')(F:T'.Nodup)(B:∀a∈S,a∉T'):B4 K H op d' v vs S T':=by
 have hd:(∃G,d=.lst G)\/(op=.seti/\∃I ws,d=.dct I ws):=by
  cases d with
  |lst G=>exact .inl ⟨G,W⟩
  |dct I ws=>cases op<;>first|exact absurd rfl h1|exact absurd rfl h2|exact .inr ⟨W,I,ws,W⟩|cases h
  |dcn _=>cases op<;>first|exact absurd rfl h1|exact absurd rfl h2|cases h
  |_=>cases op<;>cases h
 rcases hd with hd|⟨rfl,I,ws,rfl⟩
 rotate_left
 .obtain⟨l,N,C,rfl,hl,rfl,os,rfl⟩:=o
  cases ds with
  |nil=>cases h
  |cons d1 ds=>
    cases ds with
    |nil=>cases h
    |cons d0 ds=>
      cases ds with
      |cons _ _=>cases h
      |nil=>
        simp only[mQ,CD,CC,CB,Cz,CA]at h;obtain⟨k,t,h⟩:=c9 h;split at h
        .rename_i c;cases h;obtain⟨y,r,u,w,e,f,m,q⟩:=a;obtain⟨z,r0,A,n,p,j,g,b⟩:=m;obtain⟨rfl,rfl⟩:=g
         have D:z=kV k/\A=[]:=by
          cases d0 with
          |int i=>cases t;exact j
          |str x=>cases t;exact j
          |_=>cases t
         obtain⟨rfl,rfl⟩:=D;rw[aS]at b;subst e p b;rw[aS]at q;subst q;exact KD hl os nd f F B c
        .cases h
 obtain⟨G,rfl⟩:=hd;obtain⟨l,P,C,rfl,hl,os,rfl⟩:=o
 cases op with
 |ext=>exact absurd rfl h1
 |dput=>exact absurd rfl h2
 |app=>
   cases ds with
   |nil=>cases h
   |cons d1 ds=>
     cases ds with
     |cons _ _=>cases h
     |nil=>
       obtain⟨y,r,u,w,e,f,g,q⟩:=a;obtain⟨rfl,rfl⟩:=g;rw[aS]at q;subst e q;simp only[mQ,CD,CC,CB,Cz,CA]at h;split at h
       .rename_i c;cases h;exact O2 hl os nd f F B c
       .cases h
 |ins=>
   cases ds with
   |nil=>cases h
   |cons d0 ds=>
     cases ds with
     |nil=>cases d0<;>cases h
     |cons d1 ds=>
       cases ds with
       |cons _ _=>cases d0<;>cases h
       |nil=>
         cases d0 with
         |int i=>
           obtain⟨z,r0,A,n,p,j,m,b⟩:=a;obtain⟨y,r,u,w,e,f,g,q⟩:=m;obtain⟨rfl,rfl⟩:=g;obtain⟨rfl,rfl⟩:=j;rw[aS]at q;subst e p q;rw[kU]at b;subst b;simp only[mQ,CD,CC,CB,Cz,CA]at h;split at h
           .rename_i c;cases h;exact O1 hl os nd f F B c
           .cases h
         |_=>cases h
 |pop=>cases h
 |clr=>cases h
 |seti=>
   cases ds with
   |nil=>cases h
   |cons d1 ds=>
     cases ds with
     |nil=>cases h
     |cons d0 ds=>
       cases ds with
       |cons _ _=>cases d0<;>cases h
       |nil=>
         cases d0 with
         |int i=>
           obtain⟨y,r,u,w,e,f,m,q⟩:=a;obtain⟨z,r0,A,n,p,j,g,b⟩:=m;obtain⟨rfl,rfl⟩:=g;obtain⟨rfl,rfl⟩:=j;rw[aS]at b;subst e p b;rw[aS]at q;subst q;simp only[mQ,CD,CC,CB,Cz,CA]at h;split at h
           .rename_i c;obtain⟨M,s,h⟩:=dY h;cases h;unfold NX at s;obtain⟨k,E,s⟩:=dY s;subst s;exact OY hl os nd f F B c E
           .cases h
         |_=>cases h
section
variable{X:Cx}{K:Fg}
def Lx(h:gF K C [u,I] σ H Q):gE K C u σ H λx B=>gE K C I σ B λy t=>Q [x,y] t:=by
 refine ac λ_ o=>?_;obtain⟨p,s,A,h,F,g,R,k⟩:=h;obtain⟨⟨d,fr⟩,h1,h⟩:=c9 h;obtain⟨⟨r,n⟩,h2,h⟩:=dY h;cases h;obtain⟨⟨d2,c⟩,h3,i⟩:=c9 h2;cases i;refine o ?_;refine⟨p,d,fr,h1,F,g,R,λv q B a e j=>⟨p,d2,c,h3,q,a.good,R.mono a.ff,λw l t b f m=>k _ l t (a.trans b) ⟨v,_,W,e.mono b.ff,w,[],W,f,W⟩ λz=>?_⟩⟩;simp only[kD,jf,au]at z;refine eX.cons a.hh b.hh ?_ (eX.cons b.hh (cc.refl _) ?_ .nil)
 .rcases z.1 with z|z
  .exact j z
  .exact .ju a.good z e
 .rcases z.2 with z|z
  .exact m z
  .exact .ju b.good z f
def uf(h:gE K C x σ H Q)(f:∀v B,cc H B->Q v B->b v B):gE K C x σ H b:=by
 obtain⟨c,d,fr,h,F,g,R,k⟩:=h;exact⟨c,d,fr,h,F,g,R,λv e a st r fr=>f v a st.hh (k v e a st r fr)⟩
theorem AV(h:td C (.mut op i es) ρ=Y out) :
  ∃ds d d',qJ C es (full ρ)=Y (ds,U)/\ρ[i]?=Y (Y (d,U))/\mQ op d ds=Y d'/\out=.nx (ρ.set i (Y (d',U))):=by
 obtain⟨⟨ds,c⟩,h3,h⟩:=c9 h;by_cases a:c=U
 .subst a
  cases q:ρ[i]? with
  |none=>rw[q]at h;cases h
  |some z=>
    rw[q]at h
    match z,h with
    |some (d,U),h=>
      obtain⟨d',b,e⟩:=dY h;exact⟨ds,d,d',h3,W,b,e.symm⟩
 simp_all
theorem AU(h1:op≠.ext)(h2:op≠.dput){D:Ends}(h:gS K C (.mut op i es) D σ H) :
  ∃l B,σ[i]?=Y (Y (.ref l))/\H l=Y B/\(op≠.seti->∃xs,B=.lst xs)/\gF K C es σ H λvs c0=>∃ob e1,c0 l=Y ob/\IA op ob vs=Y e1/\D.nx σ (upd c0 l e1):=by
 obtain⟨Fz,H₀,F,ρ,out,h,R,k⟩:=h;obtain⟨ds,d,d',h3,hi,c,rfl⟩:=AV h;obtain⟨Ss,V⟩:=R.ow;obtain⟨v,y,e,z,P⟩:=V.own i d hi
 have g:∃l B,v=.ref l/\H l=Y B/\(op≠.seti->∃xs,B=.lst xs):=by
  cases d with
  |lst es=>
    obtain⟨l,xs,A,rfl,hl,os,Q⟩:=id e;exact⟨l,_,W,hl,λ_=>⟨xs,W⟩⟩
  |dct ks ws=>
    obtain⟨l,k_,A,rfl,hl,_⟩:=id e;refine⟨l,_,W,hl,λn=>?_⟩
    cases op<;>first|exact absurd rfl h1|exact absurd rfl h2|exact absurd rfl n|cases c
  |dcn _=>cases op<;>first|exact absurd rfl h1|exact absurd rfl h2|cases c
  |_=>cases op<;>cases c
 obtain⟨l,B,rfl,hl,o⟩:=g;refine⟨l,B,y,hl,o,FF R h3 λvs F' H' T' st ow E f=>?_⟩;have G:=V.moved st;have I:=R.moved st
 have J':∀a∈Ss i,a∉T':=λa m m2=>by
  obtain⟨u,b,_⟩:=e.Cg _ a m;rw[(f a m2).1]at b;cases b
 obtain⟨l2,ob,e1,S,ev,p,r,s,L',M,t,x⟩:=OZ h1 h2 c (e.mono st.hh) z ow E J';cases ev;refine⟨ob,e1,r,s,k F' _ σ st.ff (I.mut G hi y p L' M t λa m=>?_)⟩
 rcases x a m with m|m
 .exact .inl m
 .refine .inr ⟨(f a m).2,R.step.hh.free (f a m).1,λj d2 q m2=>?_⟩;obtain⟨w,_,N,_⟩:=V.own j d2 q;obtain⟨u,b,_⟩:=N.Cg _ a m2;rw[(f a m).1]at b;cases b
def Ep{st:l9}(h1:op≠.ext)(h2:op≠.dput)(h3:op≠.seti)(t:∀l B o vs H Q,H l=Y B->IA op B vs=Y o->(∀u,Q u (upd H l o))->r (.ref l) vs H Q)
  (e:PS X st (Qu (YL X.K "list" r (Nn i) (gF X.K C es)))):SS X C st (.mut op i es):=PS.imp e λD σ H h=>by
 obtain⟨l,b,m,hl,a,g⟩:=AU h1 h2 h;obtain⟨n,rfl⟩:=a h3;refine⟨.ref l,m,.inl ⟨W,n,pv.of hl⟩,?_⟩;refine ac λ_ d=>?_;obtain⟨p,q,s,h,F,c,R,k⟩:=g;refine d ?_;exact⟨p,q,s,h,F,c,R,λvs v j st r f=>let ⟨B,o,w,x,y⟩:=k vs v j st r f;t l B o vs j _ w x λ_=>y⟩
def QA:V->V->V->Hp->(Hp->Prop)->Prop:=λo i v H Q=>∃p a k,o=.ref p/\i=kV k/\H p=Y (.dK a)/\Z a<aD/\Q (upd H p (.dK (putK a k v)))
def NW(B:X.A.units+1<cO):Qa X (λo i v H Q=>JQ o i v H Q\/QA o i v H Q):=λh_ s σ H o i v d e u Q I a b c h=>by
 rcases h with h|⟨p,j,k,rfl,rfl,hp,f,q⟩
 .exact set_list h_ s σ H o i v d e u Q I a b c h
 .cases a;exact HI B I (Qf.k hp f) b c λl g=>⟨_,g,q⟩
set_option tactic.hygienic true in
theorem Ny{st:l9}(B:PS X st (GL (gE X.K C xe) (Ux (Nn i) (gE X.K C e) (λo i v H Q=>JQ o i v H Q\/QA o i v H Q)))):SS X C st (.mut .seti i [xe,e]):=PS.imp B λD σ H h=>by
 obtain⟨l,d,z,hl,_,g⟩:=AU (by simp) (by simp) h;refine uf (Lx g) λx u s1 f=>⟨.ref l,z,uf f λy I s2 m=>?_⟩
 obtain⟨n,A,b,a,c⟩:=m
 cases n with
 |lst E=>
   cases y with
   |int k=>
     simp only[IA,Kp]at a;split at a
     .obtain⟨w,p,q⟩:=dY a;cases q;obtain⟨j,r,s⟩:=dY p;subst s;exact .inl ⟨l,E,k,j,W,W,b,r,c⟩
     .cases a
   |_=>cases a
 |dK F=>
   obtain⟨k,G,a⟩:=c9 a;split at a
   .rename_i t;cases a;exact .inr ⟨l,F,k,W,Uc G,b,t,c⟩
   .cases a
 |_=>cases a
end
section
def EH:V->O V->Hp->VK->Prop:=λx vs H Q=>∃l a i y,x=.ref l/\vs=[.int i,y]/\H l=Y (.lst a)/\Z a<aD/\-1000000<=i/\i<=1000000/\Q .non (upd H l (.lst (insI y i a)))
def Ho:MtM X "list.insert" EH:=by
 intro h_ s σ H x vs v us Q I d f h;obtain⟨l,A,i,y,rfl,rfl,c,p,g,j,q⟩:=h;cases d;obtain⟨t,u,rfl,b,k⟩:=vals2 f;obtain⟨m,rfl⟩:=b;obtain⟨z,w,n,r,hl,e⟩:=I.WZ c
 have a:¬(!ko i)=U:=by
  have:ko i=U:=by
   unfold ko;simp;exact ⟨(iw1 g),(iw1 j)⟩
  rw[this];simp
 have o:(if i<0 then(i+((w.toArray.size:T):dc)).toNat else min i.toNat w.toArray.size)=HT.gC A.length 0 (Y i):=by
  rw[aZ,<-hl];rfl
 refine uk wc ⟨_,e,W⟩ F.entry_list_insert (F.args_list_insert_3 _ _ _) (AutoListH.list_insert_list_int_val_1 l w.toArray n i m u a (by rw[aZ];exact Nat.le_trans (Nat.le_of_eq hl.symm) z)) ⟨e,?_⟩;refine⟨.non,_,I.W1 (its':=insI u i w) c e ?_ ?_ ?_,W,q⟩
 .dsimp only;rw[o];unfold insI;rw[<-hl];simp;exact fh (by simp)
 .unfold insI;rw[<-hl];exact(r.take _).append (.cons k (r.drop _))
 .unfold insI;have:=HT.JD A.length 0 (aY _) (Y i);simp;exact QI (Nat.min_le_left (HT.gC A.length 0 (some i)) A.length) (ad this) p
set_option tactic.hygienic true
set_option tactic.hygienic true in
theorem Ut:∀l B b vs H(Q:VK),H l=Y B->IA .app B vs=Y b->(∀u,Q u (upd H l b))->EI (.ref l) vs H Q:=λl B b vs H Q h1 h2 h3=>by
 cases B with
 |lst c=>
   cases vs with
   |nil=>cases h2
   |cons y vs=>
     cases vs with
     |cons _ _=>cases h2
     |nil=>
       simp only[IA,OU]at h2;split at h2
       .rename_i a;cases h2;exact⟨l,c,y,W,W,h1,a,h3 _⟩
       .cases h2
 |_=>cases h2
def Us:∀l ob B vs H(Q:VK),H l=Y ob->IA .ins ob vs=Y B->(∀u,Q u (upd H l B))->EH (.ref l) vs H Q:=λl ob B vs H Q h1 h2 h3=>by
 cases ob with
 |lst b=>
   cases vs with
   |nil=>cases h2
   |cons y vs=>
     cases vs with
     |nil=>cases y<;>cases h2
     |cons z vs=>
       cases vs with
       |cons _ _=>cases y<;>cases h2
       |nil=>
         cases y with
         |int i=>
           simp only[IA,OU,Tv,Kp]at h2;split at h2
           .rename_i a;cases h2;exact⟨l,b,i,z,W,W,h1,a.1,a.2.1,a.2.2,h3 _⟩
           .cases h2
         |_=>cases h2
 |_=>cases h2
set_option tactic.hygienic false
end
section
variable{X:Cx}{K:Fg}{H:Hp}
def _root_.L2.Inv.noNT{ws:O V}(I:Inv X h_ σ H s)(g:Good F H)(h:F a=Y (.dN xs))(c:Tq X.K F a ws):False:=by
 obtain⟨_,_,o,e,f,h1,h2,_⟩:=I.hok a _ (g.sub _ _ h);obtain⟨d,_,⟨i,h3,b,_⟩,_⟩:=I.tupR g c
 grind
def _root_.L2.Inv.noNL{ws:O V}(I:Inv X h_ σ H s)(g:Good F H)(h:F a=Y (.dN xs))(c:pv X.K F a ws):False:=by
 obtain⟨_,_,o,e,f,h1,h2,_⟩:=I.hok a _ (g.sub _ _ h);obtain⟨d,_,pl,_⟩:=I.lstR g c;obtain⟨i,h3,b,_⟩:=pl.isList
 grind
theorem xO:∀{ds:O Dat}{q:O Key}{vs:O V},A5 ds=Y q->cB K F ds vs->vs=q.map kV
 |[],_,_,h,r=>by cases h;exact r
 |d::ds,_,_,h,a=>by
   obtain⟨v,w,e,h1,h2⟩:=a;obtain⟨k,c,h⟩:=c9 h;obtain⟨q,b,h⟩:=dY h;cases h;subst e;rw[ak,<-xO b h2]
   congr 1
   cases d with
   |int i=>cases c;exact h1
   |str x=>cases c;exact h1
   |_=>cases c
theorem E7:∀{ds:O Dat}{q:O N2}{vs:O V},QH ds=Y q->cB K F ds vs->MV K F q vs
 |[],_,_,h,r=>by cases h;exact r
 |d::ds,_,_,h,f=>by
   obtain⟨v,w,e,h1,h2⟩:=f;obtain⟨k,l,h⟩:=c9 h;obtain⟨q,g,h⟩:=dY h;cases h;subst e;have b:=E7 g h2
   cases d with
   |int i=>cases l;cases h1;exact⟨w,W,b⟩
   |str x=>cases l;cases h1;exact⟨w,W,b⟩
   |tup m=>
     obtain⟨j,c,l⟩:=dY l;cases l;obtain⟨a,vs,rfl,t,r⟩:=h1;rw[xO c r]at t;exact⟨a,w,W,t,b⟩
   |_=>cases l
theorem E2:∀{ds:O Dat}{q:O NK}{vs:O V},TC ds=Y q->cB K F ds vs->MU K F q vs
 |[],_,_,h,r=>by cases h;exact r
 |d::ds,_,_,h,f=>by
   obtain⟨v,w,e,h1,h2⟩:=f;obtain⟨k,l,h⟩:=c9 h;obtain⟨q,g,h⟩:=dY h;cases h;subst e;have b:=E2 g h2
   cases d with
   |int i=>cases l;cases h1;exact⟨w,W,b⟩
   |str x=>cases l;cases h1;exact⟨w,W,b⟩
   |tup m=>
     obtain⟨j,c,l⟩:=dY l;cases l;obtain⟨a,vs,rfl,t,r⟩:=h1;exact⟨a,w,vs,W,t,E7 c r,b⟩
   |_=>cases l
def t7(h:vb b=Y k)(r:Rep K F b v):∃a,v=.ref a/\Ib K F k a:=by
 cases b with
 |tup c=>
   obtain⟨a,vs,rfl,t,r⟩:=r;exact⟨a,W,vs,t,E2 h r⟩
 |_=>cases h
theorem Fj:∀{q:O Key}{us:O ag},cH (q.map kV) us->∀h:cg,qZ (Ht X.prog X.w) h q us
 |[],_,w,_=>by cases w;exact .nil
 |k::q,_,w,h=>by
   cases w with
   |cons a b=>exact .cons (sY a) (Fj b h)
theorem rN(I:Inv X h_ σ H s)(g:Good F H):∀{k:O N2}{vs:O V}{us:O ag},MV X.K F k vs->cH vs us->qZ (i2 X.prog X.w) s.heap k us
 |[],_,_,h,w=>by rw[h]at w;cases w;exact .nil
 |.inl k::d,_,_,h,w=>by
   obtain⟨r,rfl,h⟩:=h;cases w with
   |cons q w=>exact .cons (sY q) (rN I g h w)
 |.inr q::d,_,_,h,w=>by
   obtain⟨b,r,rfl,t,h⟩:=h;cases w with
   |cons a w=>
     refine .cons ?_ (rN I g h w);cases(a);obtain⟨e,c,⟨o,h1,h2,n,h3⟩,_⟩:=I.tupR g t;exact⟨b,W,o,_,n,h1,h2,h3,by simpa using Fj c _⟩
theorem rM(I:Inv X h_ σ H s)(g:Good F H):∀{k:O NK}{vs:O V}{us:O ag},MU X.K F k vs->cH vs us->Vo X.prog X.w s.heap k us
 |[],_,_,h,w=>by rw[h]at w;cases w;exact .nil
 |.inl k::e,_,_,h,w=>by
   obtain⟨r,rfl,h⟩:=h;cases w with
   |cons q w=>exact .cons (sY q) (rM I g h w)
 |.inr q::e,_,_,h,w=>by
   obtain⟨b,r,us,rfl,t,a,h⟩:=h;cases w with
   |cons c w=>
     refine .cons ?_ (rM I g h w);cases(c);obtain⟨f,d,⟨o,h1,h2,n,h3⟩,_⟩:=I.tupR g t;exact⟨b,W,o,_,n,h1,h2,h3,by simpa using rN I g a d⟩
def rR(I:Inv X h_ σ H s)(g:Good F H)(h:Ib X.K F k a):(xK X.prog X.w).is s.heap k a:=by
 refine ac λ_ c=>?_;obtain⟨vs,t,r⟩:=h;obtain⟨d,b,⟨o,h1,h2,n,h3⟩,_⟩:=I.tupR g t;refine c ?_;exact⟨o,_,n,h1,h2,h3,by simpa using rM I g r b⟩
noncomputable def lF(xs:O (O NK×aC)):O (O NK×aC×ag):=xs.map λx=>(x.1,x.2,.bool U)
def vz(xs:O (O NK×aC)):(lF xs).map (·.1)=xs.map (·.1):=by
 unfold lF;rw[bo];rfl
def L0(I:Inv X h_ σ H s)(g:Good F H)(B:F p=Y (.dN xs))(e:D6 X.K F t xs) :
  Z xs<=aD/\(p == et)=J/\s.heap.DictOfH (xK X.prog X.w) p (lF xs):=by
 obtain⟨z,y,o,d,f,h1,h2,h3,a,h⟩:=I.hok p _ (g.sub _ _ B);refine⟨z,y,o,d,f,h1,h2,h3,by rw[a];unfold lF;rw[bo];rfl,λx b=>?_,by rw[vz];exact h⟩;obtain⟨q,c,rfl⟩:=aP.mp b;exact rR I g (e.2 q c)
theorem oN(k:O NK):∀xs:O (O NK×aC),(hW (lF xs) k).isSome=decide (k∈xs.map (·.1))
 |[]=>rfl
 |x::xs=>by
   have a:=oN k xs;unfold hW lF at a ⊢
   grind
def Ur(o:X.A.units+20<cO)(I:Inv X h_ σ H s)(g:Good F H)(e:vb t=Y C)(f:Rep X.K F t v)(P:RelV v u)(R:F p=Y (.dN xs))(B:D6 X.K F S xs)
  (q:Q (.bl (decide (C∈S))) H):aA (aB X.prog X.w) X.A (dj .In u (.ref p)) (EP X h_ σ Q) X.xe s:=by
 obtain⟨a,rfl,b⟩:=t7 e f;cases(P);obtain⟨z,y,c⟩:=L0 I g R B;refine Ge ?_ (rR I g b) y c ?_
 .show X.A.units+1+3<=cO;exact rT o
 .refine⟨.bl _,H,I.tok _,W,?_⟩;rw[oN,B.1];exact q
def none_of(I:Inv X h_ σ H s)(B:H p=Y (.dK [])):(p == et)=J/\s.heap.DictOfH (xK X.prog X.w) p []:=by
 obtain⟨z,y,vs,r,b⟩:=QU I.hok B;cases r;obtain⟨o,d,e,h1,h2,h3,_,a,_⟩:=b;refine⟨y,o,d,e,h1,h2,h3,?_,λx c=>(nomatch c),by simp⟩;generalize d.toList=l at a;cases a;rfl
def Pk(B:X.A.units+20<cO)(I:Inv X h_ σ H s)(g:Good F H)(o:vb t=Y C)(e:Rep X.K F t v)(f:RelV v u)(z:F p=Y (.dK []))
  (q:Q (.bl J) H):aA (aB X.prog X.w) X.A (dj .In u (.ref p)) (EP X h_ σ Q) X.xe s:=by
 obtain⟨a,rfl,b⟩:=t7 o e;cases(f);obtain⟨y,c⟩:=none_of I (g.sub _ _ z);refine Ge ?_ (rR I g b) y c ?_
 .show X.A.units+1+3<=cO;exact rT B
 .exact⟨.bl _,H,I.tok _,W,q⟩
def Pp(H:Hp)(T':O aC):fz H H T'=H:=by
 funext a;unfold fz;split<;>rfl
def se(H:Hp):Good H H:=⟨cc.refl _,λ_ _ e=>e⟩
def OD(o:nZ K H d v S):Rep K H d v:=by
 have:=nZ.kH (se H) d (T':=S) o λ_ m=>m;rw[Pp]at this;exact this
def Qz(K:Fg):V->V->V->Hp->(Hp->Prop)->Prop:=λo i v H Q=>∃p k a b,o=.ref p/\i=.ref a/\v=.bl U/\Ib K H k a/\((H p=Y (.dK [])/\b=[])\/(H p=Y (.dN b)/\∀x∈b,Ib K H x.1 x.2))/\
 k∉b.map (·.1)/\Z b<aD/\Q (upd H p (.dN (b++[(k,a)])))
def We(B:X.A.units+20<cO):Qa X (Qz X.K):=λh_ s σ H o i v y C u Q I g j l h=>by
 obtain⟨p,k,a,E,rfl,rfl,rfl,m,hp,n,D,q⟩:=h;cases g;cases j;obtain rfl:u=.bool U:=l
 have e:(p == et)=J/\s.heap.DictOfH (xK X.prog X.w) p (lF E):=by
  rcases hp with⟨hp,rfl⟩|⟨hp,r⟩
  .exact none_of I hp
  .exact(L0 I (se H) hp ⟨W,r⟩).2
 have t:VO (H p):=by
  rcases hp with⟨hp,_⟩|⟨hp,_⟩<;>(rw[hp];exact jh)
 have hl:Z (lF E)<=aD:=by unfold lF;rw[ah];exact Nat.le_of_lt D
 refine k6 (knd:=xK X.prog X.w) (hsz:=hl) ?_ (rR I (se H) m) e.2 λP b G=>?_
 .show X.A.units+1+3<=cO;exact rT B
 have d:hW (lF E) k=L:=by
  have:=oN k E;rw[dd n]at this
  cases c:hW (lF E) k with
  |none=>rfl
  |some z=>rw[c]at this;cases this
 rw[storedH_new d]at b;obtain⟨o,M,N,c,h2,h3,f,_,F⟩:=b;have x:lF E++[(k,a,nQ U)]=lF (E++[(k,a)]):=by unfold lF;rw[bK];rfl
 rw[x]at f F;refine⟨_,zB (ob:=.dN (E++[(k,a)])) I t G ⟨o,c⟩ ⟨by rw[aN];simp;exact D,e.1,o,M,N,c,h2,h3,?_,?_⟩,q⟩
 .rw[f];unfold lF;rw[bo];rfl
 .rw[vz]at F;exact F
set_option tactic.hygienic true in
theorem Kr{T':O aC}(h:mQ .dput d ds=Y d')(o:nZ K H d v S)(a:dh K H ds vs T') :
  ∃l k b xs,v=.ref l/\S=[l]/\vs=[.bl U,.ref b]/\Ib K H k b/\((H l=Y (.dK [])/\xs=[])\/(H l=Y (.dN xs)/\∀x∈xs,Ib K H x.1 x.2))/\k∉xs.map (·.1)/\Z xs<aD/\nZ K (upd H l (.dN (xs++[(k,b)]))) d' v [l]:=by
 have keyed:∀{d0 d1:Dat}{M:O NK},ds=[.bl U,d1]->vb d1=Y M->∃b,vs=[.bl U,.ref b]/\Ib K H M b:=λ{d0 d1 M}e m=>by
  subst e;obtain⟨y,r,G,I,e,u,w,_⟩:=a;obtain⟨V,r0,L',A,p,B,C,_⟩:=w;obtain⟨rfl,rfl⟩:=C;obtain⟨b,rfl,c⟩:=t7 m (OD B);obtain⟨rfl,_⟩:=u;subst e p;exact⟨b,W,c⟩
 have up:∀{l:aC}{P:HO},(∀ws,H l≠Y (.tup ws))->∀b vs,Tq K H b vs->Tq K (upd H l P) b vs:=λ{l P}N b vs t=>by
  rcases t with t|t
  .refine .inl ?_;rw[cL (λz=>N vs (by rw[<-z];exact t))];exact t
  .exact .inr t
 have f:∀{l:aC}{P:HO}{k:O NK}{b:aC},(∀ws,H l≠Y (.tup ws))->Ib K H k b->Ib K (upd H l P) k b:=λN ⟨ws,t,r⟩=>⟨ws,up N _ _ t,r.imp (up N)⟩
 cases d with
 |dct Q ws=>
   obtain⟨l,R,D,rfl,hl,rfl,os,rfl⟩:=o;have N:∀us,H l≠Y (.tup us):=λus z=>by rw[hl]at z;cases z
   have g:∃d1,ds=[.bl U,d1]:=by
    match ds,h with
    |[.bl U,d1],_=>exact⟨d1,W⟩
   obtain⟨d1,rfl⟩:=g;simp only[mQ,CD,CC,CB,Cz,CA]at h;split at h
   .rename_i E;obtain⟨M,m,h⟩:=dY h;subst h;have p:R=[]:=by simpa using E
    subst p;obtain⟨b,i,c⟩:=keyed (d0:=.non) W m
    have q:D=[]:=by
     cases ws with
     |nil=>exact os.2
     |cons _ _=>obtain⟨_,_,_,_,z,_⟩:=os;cases z
    subst q;refine⟨l,M,b,[],W,W,i,c,.inl ⟨hl,W⟩,by simp,by rw[cY];simp,l,[(M,b)],W,ck,⟨W,λx j=>?_⟩,W⟩;rw[aG.mp j];exact f N c
   .cases h
 |dcn Q=>
   obtain⟨l,xs,rfl,hl,F,rfl⟩:=o;have N:∀us,H l≠Y (.tup us):=λus z=>by rw[hl]at z;cases z
   have g:∃d1,ds=[.bl U,d1]:=by
    match ds,h with
    |[.bl U,d1],_=>exact⟨d1,W⟩
   obtain⟨d1,rfl⟩:=g;simp only[mQ,CD,CC,CB,Cz,CA]at h;obtain⟨M,m,h⟩:=c9 h;split at h
   .rename_i s;cases h;obtain⟨b,i,c⟩:=keyed (d0:=.non) W m;obtain⟨q,n⟩:=F;subst q;refine⟨l,M,b,xs,W,W,i,c,.inr ⟨hl,n⟩,s.2,by simpa using s.1,l,xs++[(M,b)],W,ck,⟨by rw[bK];rfl,λx j=>?_⟩,W⟩
    rcases aR.mp j with j|j
    .exact f N (n x j)
    .rw[aG.mp j];exact f N c
   .cases h
 |_=>cases h
theorem Hl{D:Ends}(h:gS K C (.mut .dput i es) D σ H) :
  ∃l,σ[i]?=Y (Y (.ref l))/\gF K C es σ H λvs B=>∃k b xs,vs=[.bl U,.ref b]/\Ib K B k b/\((B l=Y (.dK [])/\xs=[])\/(B l=Y (.dN xs)/\∀x∈xs,Ib K B x.1 x.2))/\k∉xs.map (·.1)/\Z xs<aD/\D.nx σ (upd B l (.dN (xs++[(k,b)]))):=by
 obtain⟨P,H₀,F,Q,G,h,R,k⟩:=h;obtain⟨S,d,V,h3,hi,j,rfl⟩:=AV h;obtain⟨Ss,E⟩:=R.ow;obtain⟨v,n,c,w,y⟩:=E.own i d hi
 have e:∃l,v=.ref l:=by
  cases d with
  |dct I ws=>obtain⟨l,_,_,rfl,_⟩:=id c;exact⟨l,W⟩
  |dcn I=>obtain⟨l,_,rfl,_⟩:=id c;exact⟨l,W⟩
  |_=>cases j
 obtain⟨l,rfl⟩:=e;refine⟨l,n,FF R h3 λvs M H' T' st ow z A=>?_⟩;have p:=E.moved st;have q:=R.moved st;obtain⟨l2,N,b,xs,ev,o,f,r,s,g,t,u⟩:=Kr j (c.mono st.hh) ow;cases ev;refine⟨N,b,xs,f,r,s,g,t,k M _ σ st.ff (q.mut p hi n (by rw[o];exact iT) trivial u (by simp) λa m=>?_)⟩;exact .inl (by rw[o];exact m)
def NA{st:l9}(t:PS X st (GL (gE X.K C xe) (Ux (Nn i) (gE X.K C u) (Qz X.K)))):SS X C st (.mut .dput i [xe,u]):=PS.imp t λD σ H h=>by
 obtain⟨l,a,g⟩:=Hl h;have c:=Lx g;refine uf c λx q s1 d=>⟨.ref l,a,uf d λy s s2 e=>?_⟩
 obtain⟨k,b,r,f,j,m,n,o,p⟩:=e;cases f;exact⟨l,k,b,r,W,W,W,j,m,n,o,p⟩
end
section
variable{X:Cx}
def _root_.L2.Inv.noDT{ws:O V}(I:Inv X h_ σ H s)(g:Good F H)(h:F a=Y (.dK e))(c:Tq X.K F a ws):False:=by
 obtain⟨_,_,_,_,o,f,i,h1,h2,_⟩:=I.hok a _ (g.sub _ _ h);obtain⟨d,_,⟨j,h3,b,_⟩,_⟩:=I.tupR g c
 grind
def _root_.L2.Inv.noDL{ws:O V}(I:Inv X h_ σ H s)(g:Good F H)(h:F a=Y (.dK e))(c:pv X.K F a ws):False:=by
 obtain⟨_,_,_,_,o,f,i,h1,h2,_⟩:=I.hok a _ (g.sub _ _ h);obtain⟨d,_,pl,_⟩:=I.lstR g c;obtain⟨j,h3,b,_⟩:=pl.isList
 grind
mutual
theorem EF(I:Inv X h_ σ H s)(g:Good F H):∀(u B:Dat){x:V},Rep X.K F u x->Rep X.K F B x->u=B
 |.non,B,x,h,a=>by
   rw[show x=.non from h]at a
   cases B with
   |non=>rfl
   |tup _=>obtain⟨_,_,z,_⟩:=a;cases z
   |lst _=>obtain⟨_,_,z,_⟩:=a;cases z
   |dct _ _=>obtain⟨_,_,z,_⟩:=a;cases z
   |dcn _=>obtain⟨_,_,z,_⟩:=a;cases z
   |_=>cases a
 |.bl b,B,x,h,a=>by
   rw[show x=.bl b from h]at a
   cases B with
   |bl c=>cases a;rfl
   |tup _=>obtain⟨_,_,z,_⟩:=a;cases z
   |lst _=>obtain⟨_,_,z,_⟩:=a;cases z
   |dct _ _=>obtain⟨_,_,z,_⟩:=a;cases z
   |dcn _=>obtain⟨_,_,z,_⟩:=a;cases z
   |_=>cases a
 |.int i,B,x,h,a=>by
   rw[show x=.int i from h]at a
   cases B with
   |int c=>cases a;rfl
   |tup _=>obtain⟨_,_,z,_⟩:=a;cases z
   |lst _=>obtain⟨_,_,z,_⟩:=a;cases z
   |dct _ _=>obtain⟨_,_,z,_⟩:=a;cases z
   |dcn _=>obtain⟨_,_,z,_⟩:=a;cases z
   |_=>cases a
 |.str i,B,x,h,a=>by
   rw[show x=.str i from h]at a
   cases B with
   |str c=>cases a;rfl
   |tup _=>obtain⟨_,_,z,_⟩:=a;cases z
   |lst _=>obtain⟨_,_,z,_⟩:=a;cases z
   |dct _ _=>obtain⟨_,_,z,_⟩:=a;cases z
   |dcn _=>obtain⟨_,_,z,_⟩:=a;cases z
   |_=>cases a
 |.tup n,B,x,j,a=>by
   obtain⟨p,vs,e,t,r⟩:=j;subst e
   cases B with
   |tup m=>
     obtain⟨q,us,d,l,f⟩:=a;cases d;have ev:vs=us:=I.oQ (t.mono g.sub).sq (l.mono g.sub).sq;subst ev;rw[qt I g n m r f]
   |lst m=>
     obtain⟨q,us,d,l,f⟩:=a;cases d;exact(I.noLT g l t).elim
   |dct o m=>
     obtain⟨q,us,d,l,f⟩:=a;cases d;exact(I.noDT g l t).elim
   |dcn o=>
     obtain⟨q,us,d,l,f⟩:=a;cases d;exact(I.noNT g l t).elim
   |_=>cases a
 |.lst n,B,x,j,a=>by
   obtain⟨p,vs,e,t,r⟩:=j;subst e
   cases B with
   |lst m=>
     obtain⟨q,us,d,l,f⟩:=a;cases d;have ev:vs=us:=I.qz (g.sub.seq t) (g.sub.seq l);subst ev;rw[qt I g n m r f]
   |tup m=>
     obtain⟨q,us,d,l,f⟩:=a;cases d;exact(I.noLT g t l).elim
   |dct o m=>
     obtain⟨q,us,d,l,f⟩:=a;cases d;exact(I.noDL g l t).elim
   |dcn o=>
     obtain⟨q,us,d,l,f⟩:=a;cases d;exact(I.noNL g l t).elim
   |_=>cases a
 |.dct o n,B,x,j,a=>by
   obtain⟨p,y,e,t,v,r⟩:=j;subst e
   cases B with
   |dct k m=>
     obtain⟨q,us,d,l,w,f⟩:=a;cases d;rw[t]at l;cases l;rw[<-v,<-w,qt I g n m r f]
   |lst m=>
     obtain⟨q,us,d,l,f⟩:=a;cases d;exact(I.noDL g t l).elim
   |tup m=>
     obtain⟨q,us,d,l,f⟩:=a;cases d;exact(I.noDT g t l).elim
   |dcn _=>
     obtain⟨q,us,d,l,f⟩:=a;cases d;rw[t]at l;cases l
   |_=>cases a
 |.dcn o,B,x,j,a=>by
   obtain⟨p,A,e,t,r⟩:=j;subst e
   cases B with
   |dcn k=>
     obtain⟨q,us,d,l,f⟩:=a;cases d;rw[t]at l;cases l;rw[<-r.1,<-f.1]
   |dct _ _=>
     obtain⟨q,us,d,l,f⟩:=a;cases d;rw[t]at l;cases l
   |lst m=>
     obtain⟨q,us,d,l,f⟩:=a;cases d;exact(I.noNL g t l).elim
   |tup m=>
     obtain⟨q,us,d,l,f⟩:=a;cases d;exact(I.noNT g t l).elim
   |_=>cases a
theorem qt(I:Inv X h_ σ H s)(g:Good F H):∀(ds es:O Dat){vs:O V},cB X.K F ds vs->cB X.K F es vs->ds=es
 |[],es,vs,h,l=>by
   rw[show vs=[]from h]at l
   cases es with
   |nil=>rfl
   |cons _ _=>obtain⟨_,_,z,_⟩:=l;cases z
 |d::ds,es,vs,c,l=>by
   obtain⟨v,r,e,h1,h2⟩:=c;subst e
   cases es with
   |nil=>exact nomatch (show v::r=[]from l)
   |cons f fs=>
     obtain⟨j,k,i,a,b⟩:=l;cases i;rw[EF I g d f h1 a,qt I g ds fs h2 b]
end
noncomputable def DP(c:Dat)(ds:O Dat)(b:O ag)(w:ag):a7:=@decide (∃(i:T) (d:Dat),b[i]?=Y w/\ds[i]?=Y d/\mw d c=U) (mm _)
def DO(I:Inv X h_ σ H s)(g:Good F H){z:Dat}{ds:O Dat}{vs:O V}{y:O ag}(r:cB X.K F ds vs)(w:cH vs y){i:T}{d:Dat}{u:ag}(h1:y[i]?=Y u)(h2:ds[i]?=Y d):DP z ds y u=mw d z:=by
 have one:∀(j:T)x,y[j]?=Y u->ds[j]?=Y x->x=d:=λj x b c=>by
  obtain⟨v,m,n⟩:=r.get h2;obtain⟨p,e,f⟩:=r.get c;obtain⟨q,k,o⟩:=w.get m;obtain⟨t,a,h⟩:=w.get e;rw[h1]at k;cases k;rw[b]at a;cases a;have:=o.inj h;subst this;exact(EF I g d x n f).symm
 by_cases hd:mw d z=U
 .rw[hd];exact@cb _ (mm _) ⟨i,d,h1,h2,hd⟩
 .have:mw d z=J:=by simpa using hd
  rw[this];refine@dd _ (mm _) λ⟨j,x,b,c,l⟩=>?_;rw[one j x b c]at l;exact hd l
def uh(I:Inv X h_ σ H s)(g:Good F H)(r:cB X.K F ds vs)(w:cH vs b):b.any (DP c ds b)=ds.any λy=>mw y c:=by
 have hl:Z b=Z ds:=by rw[<-w.length,r.length]
 rw[kX,fw,fw];constructor
 .rintro⟨u,f,h⟩;obtain⟨i,hi,e⟩:=iW f;have a :=ab hi (af hl);refine⟨ds[i],bA a,?_⟩;rw[<-DO I g r w (by rw[ae hi,e]) (ae a)];exact h
 .rintro⟨d,hd,h⟩;obtain⟨i,hi,e⟩:=iW hd;have a :=ab hi (af hl.symm);refine⟨b[i],bA a,?_⟩;rw[DO I g r w (ae a) (by rw[ae hi,e])];exact h
def zy(I:Inv X h_ σ H s)(g:Good F H)(A:bZ)(B:A.units+20<cO)(sa:fU 20 C=U)(P:dE 20 ds=U)(o:Rep X.K F C x)(t:RelV x u)(r:cB X.K F ds vs)(w:cH vs z) :
  ∀y∈z,qf A s y u (DP C ds z y):=λy c=>by
 obtain⟨i,hi,e⟩:=iW c;have hl:Z z=Z ds:=by rw[<-w.length,r.length]
 have a:i<Z ds:=Nat.le_trans hi (Nat.le_of_eq hl)
 have h1:z[i]?=Y y:=by rw[ae hi,e]
 have h2:=ae a;rw[DO I g r w h1 h2];obtain⟨v,d,f⟩:=r.get h2;obtain⟨j,b,h⟩:=w.get d;rw[h1]at b;cases b;exact(qK I g 20 A ds[i] C B (mN P h2) sa f o h t).1
set_option tactic.hygienic true
def Th(S:X.A.units+21<cO):iA X (dj .In) (gB X.K (mW .isin)):=λh_ s σ H x y v u Q I f i C=>by
 obtain⟨da,G,d,fr,h,F,g,j,l,k⟩:=C;obtain⟨b,hd,rfl,rfl⟩:=jX h;have m:X.A.in1.units+20<cO:=by show X.A.units+1+20<cO;omega
 cases G with
 |str z=>
   cases da with
   |str R=>
     simp only[ef,MS,XO,Me,U6]at hd;cases hd;exact Hj h_ s σ H x y v u Q I f i ⟨_,_,j,l,k _ F H (Step.refl g) W bB⟩
   |_=>cases hd
 |lst ds=>
   have a:(if fU 20 da && dE 20 ds then Y (ds.any λy=>mw y da)else L)=Y b:=by cases da<;>exact hd
   split at a
   .rename_i hs;rw[au]at hs;cases a;obtain⟨p,vs,rfl,t,r⟩:=l;obtain rfl:u=.ref p:=i;obtain⟨V,w,pl,_⟩:=I.lstR g t;refine SeqAt.in_listAt (DP da ds V) pl.isList (λy D=>zy I g _ m hs.1 hs.2 j f r w y (by simpa using D)) ⟨.bl _,H,I,W,?_⟩;rw[show V.toArray.any (DP da ds V)=V.any (DP da ds V) by simp,uh I g r w];exact k _ F H (Step.refl g) W bB
   .cases a
 |tup ds=>
   have a:(if fU 20 da && dE 20 ds then Y (ds.any λy=>mw y da)else L)=Y b:=by cases da<;>exact hd
   split at a
   .rename_i hs;rw[au]at hs;cases a;obtain⟨p,vs,rfl,t,r⟩:=l;obtain rfl:u=.ref p:=i;obtain⟨V,w,pl,_⟩:=I.tupR g t;refine SeqAt.in_tupleAt (DP da ds V) pl (λy D=>zy I g _ m hs.1 hs.2 j f r w y (by simpa using D)) ⟨.bl _,H,I,W,?_⟩;rw[show V.toArray.any (DP da ds V)=V.any (DP da ds V) by simp,uh I g r w];exact k _ F H (Step.refl g) W bB
   .cases a
 |dcn ks=>
   have a:(vb da).map (λk=>decide (k∈ks))=Y b:=by cases da<;>exact hd
   obtain⟨kk,n,a⟩:=dY a;subst a;obtain⟨p,xs,rfl,B,J'⟩:=l;obtain rfl:u=.ref p:=i;exact Ur (Nat.le_of_lt m) I g n j f B J' (k _ F H (Step.refl g) W bB)
 |dct ks ds=>
   have c:(match tK da with|some k=>Y (km k ks ds).isSome|none=>if ks.isEmpty=U then(vb da).map λ_=>J else L)=Y b:=by cases da<;>exact hd
   cases e:tK da with
   |none=>
     rw[e]at c;dsimp only at c;split at c
     .rename_i L';obtain⟨kk,n,c⟩:=dY c;subst c;obtain⟨p,k_,rfl,B,rfl,E⟩:=l;obtain rfl:u=.ref p:=i;have M:k_=[]:=by simpa using L'
      subst M;exact Pk (by omega) I g n j f B (k _ F H (Step.refl g) W bB)
     .cases c
   |some N=>
   rw[e]at c;have a:(tK da).map (λk=>(km k ks ds).isSome)=Y b:=by rw[e];exact c
   obtain⟨kk,n,a⟩:=dY a;subst a;obtain⟨p,k_,rfl,B,rfl,E⟩:=l;obtain rfl:=vn n j;obtain rfl:u=.ref p:=i
   have O':(km kk (k_.map (·.1)) ds).isSome=(ot k_ kk).isSome:=by
    cases q:km kk (k_.map (·.1)) ds with
    |none=>rw[rV q E];rfl
    |some d=>obtain⟨w,P,_⟩:=oY q E;rw[P];rfl
   refine ZF (o:=ot k_ kk) (Nat.le_trans (Nat.lt_sub_of_add_lt m) (by decide)) I (wO.k (g.sub _ _ B)) f λs' I'=>⟨.bl _,H,I',W,?_⟩
   rw[<-O'];exact k _ F H (Step.refl g) W bB
 |_=>cases da<;>cases hd
def OI(O':X.A.units+21<cO):iA X (dj .NotIn) (gB X.K (mW .nin)):=λh_ s σ H x y v u Q I e f l=>by
 obtain⟨N,B,d,fr,h,F,g,i,j,k⟩:=l;obtain⟨b,hd,rfl,rfl⟩:=jX h;have c:X.A.in1.units+20<cO:=by show X.A.units+1+20<cO;omega
 cases B with
 |str z=>
   cases N with
   |str J'=>
     simp only[ef,MS,XO,Me,U6]at hd;cases hd;exact y8 h_ s σ H x y v u Q I e f ⟨_,_,i,j,k _ F H (Step.refl g) W bB⟩
   |_=>cases hd
 |lst P=>
   have a:(if fU 20 N && dE 20 P then Y (!(P.any λy=>mw y N))else L)=Y b:=by cases N<;>exact hd
   split at a
   .rename_i R;rw[au]at R;cases a;obtain⟨p,vs,rfl,t,r⟩:=j;obtain rfl:u=.ref p:=f;obtain⟨M,w,pl,_⟩:=I.lstR g t;refine SeqAt.notIn_listAt (DP N P M) pl.isList (λy m=>zy I g _ c R.1 R.2 i e r w y (by simpa using m)) ⟨.bl _,H,I,W,?_⟩;rw[show M.toArray.any (DP N P M)=M.any (DP N P M) by simp,uh I g r w];exact k _ F H (Step.refl g) W bB
   .cases a
 |tup P=>
   have a:(if fU 20 N && dE 20 P then Y (!(P.any λy=>mw y N))else L)=Y b:=by cases N<;>exact hd
   split at a
   .rename_i R;rw[au]at R;cases a;obtain⟨p,vs,rfl,t,r⟩:=j;obtain rfl:u=.ref p:=f;obtain⟨M,w,pl,_⟩:=I.tupR g t;refine SeqAt.notIn_tupleAt (DP N P M) pl (λy m=>zy I g _ c R.1 R.2 i e r w y (by simpa using m)) ⟨.bl _,H,I,W,?_⟩;rw[show M.toArray.any (DP N P M)=M.any (DP N P M) by simp,uh I g r w];exact k _ F H (Step.refl g) W bB
   .cases a
 |dct ks P=>
   have a:(tK N).map (λk=>!(km k ks P).isSome)=Y b:=by cases N<;>exact hd
   obtain⟨S,C,a⟩:=dY a;subst a;obtain⟨p,V,rfl,D,rfl,n⟩:=j;obtain rfl:=vn C i;obtain rfl:u=.ref p:=f
   have E:(km S (V.map (·.1)) P).isSome=(ot V S).isSome:=by
    cases q:km S (V.map (·.1)) P with
    |none=>rw[rV q n];rfl
    |some d=>obtain⟨w,G,_⟩:=oY q n;rw[G];rfl
   refine PK (o:=ot V S) (Nat.le_trans (Nat.lt_sub_of_add_lt c) (by decide)) I (wO.k (g.sub _ _ D)) e λs' I'=>⟨.bl _,H,I',W,?_⟩
   rw[<-E];exact k _ F H (Step.refl g) W bB
 |_=>cases N<;>cases hd
set_option tactic.hygienic false
end
def gM(K:Fg)(f:Dat->O Dat->g_):V->O V->Hp->VK->Prop:=λx g H Q=>∃b c d fr F,f b c=Y (d,fr)/\Good F H/\Rep K F b x/\cB K F c g/\∀v e a,Step F H e a->Rep K e d v->(fr=U->eZ K H a d v)->Q v a
section
variable{X:Cx}
def Hr(hs:∀y ds r,fV m y ds=Y r->∃z,y=.str z):∀σ H Q,gE X.K C (.gG m B xs) σ H Q->YL X.K "str" (gM X.K (fV m)) (gE X.K C B) (gA X.K C xs) σ H Q:=λσ H Q f=>by
 refine ac λ_ x=>?_;obtain⟨A,d,fr,h,F,g,R,k⟩:=f;obtain⟨⟨y,i⟩,h1,h⟩:=c9 h;obtain⟨ds,h2,h3⟩:=c9 h;obtain⟨z,j⟩:=hs y ds _ h3;refine x ?_;refine⟨A,y,i,h1,F,g,R,λv D u a c _=>⟨?_,A,ds,h2,D,a.good,R.mono a.ff,λvs l E b n=>⟨y,ds,d,fr,l,h3,b.good,c.mono b.ff,n,λw o p e s t=>k w o p ((a.trans b).trans e) s λq=>(t q).back (F:=F) (a.hh.trans b.hh)⟩⟩⟩;rw[j]at c;rw[c];exact rfl
def Dn(hs:∀t ds r,fV m t ds=Y r->∃z,t=.str z):∀σ H Q,gE X.K C (.gG m u []) σ H Q->V4 X.K "str" (gM X.K (fV m)) (gE X.K C u) σ H Q:=λσ H Q e=>by
 refine ac λ_ s=>?_;obtain⟨x,d,fr,h,F,g,R,k⟩:=e;obtain⟨⟨t,f⟩,h1,h⟩:=c9 h;obtain⟨ds,h2,h3⟩:=c9 h;cases h2;obtain⟨z,i⟩:=hs t [] _ h3;refine s ?_;refine⟨x,t,f,h1,F,g,R,λv y p a b _=>⟨?_,t,[],d,fr,y,h3,a.good,b,W,λw j l c n o=>k w j l (a.trans c) n λq=>(o q).back (F:=F) a.hh⟩⟩;rw[i]at b;rw[b];exact rfl
def GA(r:cB X.K F [.str y] vs)(w:cH vs us):∃t,us=[.str y t]:=by
 obtain⟨v,q,e,r1,r2⟩:=r;rw[show q=[]from r2]at e;subst e;rw[show v=.str y from r1]at w;obtain⟨u,rfl,t,rfl⟩:=vals1 w;exact⟨t,W⟩
def IZ(r:cB X.K F [] vs)(w:cH vs us):us=[]:=by
 rw[r]at w;cases w;rfl
section
set_option tactic.hygienic true
def inv_split(h:fV .split b ds=Y r):∃x y,b=.str x/\ds=[.str y]/\fV .split (.str x) [.str y]=Y r:=by
 cases b with
 |str x=>
   cases ds with
   |nil=>cases h
   |cons d1 ds=>
     cases ds with
     |nil=>
       cases d1 with
       |str y=>exact⟨x,y,W,W,h⟩
       |_=>cases h
     |cons _ _=>cases d1<;>cases h
 |_=>cases ds<;>first|cases h|(rename_i d1 ds;cases ds<;>cases d1<;>cases h)
def xT(h:fV .upper b ds=Y r):∃x,b=.str x/\ds=[]/\fV .upper (.str x) []=Y r:=by
 cases b with
 |str x=>
   cases ds with
   |nil=>exact⟨x,W,W,h⟩
   |cons _ _=>cases h
 |_=>cases h
def Bd(h:fV .join b ds=Y r):∃x es,b=.str x/\ds=[.lst es]/\fV .join (.str x) [.lst es]=Y r:=by
 cases b with
 |str x=>
   cases ds with
   |nil=>cases h
   |cons d1 ds=>
     cases ds with
     |nil=>
       cases d1 with
       |lst y=>exact⟨x,y,W,W,h⟩
       |_=>cases h
     |cons _ _=>cases d1<;>cases h
 |_=>cases h
def KE:Rf X "str.upper" (gM X.K (fV .upper)):=λh_ s σ H x l v us Q I b c a=>by
 refine ac λ_ j=>?_;obtain⟨m,n,d,fr,F,h,g,e,f,k⟩:=a;obtain⟨o,rfl,rfl,h⟩:=xT h;refine j ?_;simp only[fV,VB]at h;split at h
 .rename_i i;cases h;rw[e]at b;obtain⟨t,rfl⟩:=b;obtain rfl:=IZ f c;exact SCL.upper (ab i iF) λ_=>⟨.str _,H,I.tok _,⟨_,W⟩,k _ F H (Step.refl g) W bB⟩
 .cases h
theorem An:∀{es:O Dat}{e:O bw}{vs:O V}{us:O ag},jM es=Y e->cB X.K F es vs->cH vs us->StrsAre us e
 |[],e,vs,us,h,r,w=>by
   cases h;rw[r]at w;cases w;exact .nil
 |d::es,e,vs,us,h,r,w=>by
   cases d with
   |str x=>
     obtain⟨g,h1,h⟩:=dY h;cases h;obtain⟨v,q,rfl,a,b⟩:=r;rw[a]at w
     cases w with
     |cons c f=>
       obtain⟨t,rfl⟩:=c;exact .cons x t (An h1 b f)
   |_=>cases h
def O3:Rf X "str.join" (gM X.K (fV .join)):=λh_ s σ H x B v us Q I b c a=>by
 refine ac λ_ y=>?_;obtain⟨C,D,d,fr,F,h,g,f,i,k⟩:=a;obtain⟨E,G,rfl,rfl,h⟩:=Bd h;obtain⟨M,h1,h⟩:=c9 h;refine y ?_;split at h
 .rename_i j;cases h;rw[f]at b;obtain⟨t,rfl⟩:=b;obtain⟨w,q,e,⟨p,vs,z,l,m⟩,n⟩:=i;rw[n]at e;subst e z;obtain⟨u,rfl,o⟩:=vals1 c;obtain rfl:u=.ref p:=o;obtain⟨A,r,pl,_⟩:=I.lstR g l;exact join_list pl.isList (by simpa using An h1 m r) (ab j iF) λN P=>⟨.str _,H,I.tok _,⟨_,W⟩,k _ F H (Step.refl g) W bB⟩
 .cases h
set_option tactic.hygienic false
end
end
section
open PySem.Builtin PySem.Builtin.Str
variable{s:ao}{x y:bw}
theorem CO(e:(y.length == 0)=J)(c:x.length<=1000000)
  (B:∀l k,l.map (·.1)=eL x y->Q (.ref s.heap.objs.size) { s with heap:=s.heap.push { cls:=.type "list",data:=.seq (strValues l).toArray },toks:=k }) :
  aA (aB prog w) A (call (.builtin "str.split") [.str x t,.str y u]) Q E s:=by
 have few:(mB x (jn x y 0 x.length (x.length+1)) y.length).length<=aD:=by
  have b1:=StrLaws.occ_length_le x y 0 x.length (x.length+1);rw[length_partsBetween,cY];exact t9 b1 c
 have sz:x.length+2<=aD:=by rw[cY];exact Nat.succ_le_succ (Nat.lt_of_le_of_lt c (by decide))
 have sl:=yF;have a:=PySem.F.entry_str_split;have b:=PySem.F.args_str_split_2 (.str x t) (.str y u)
 cases c1:(decide (x.length<y.length) || decide (strKind x<strKind y))with
 |true=>
   exact uk sl (pO _ _ _) a b (meets_str_split_cannot_occur x y t u c1) (B [(x,t)] s.toks (a6 c1).symm)
 |false=>
   cases c2:(jn x y 0 x.length (x.length+1)).isEmpty with
   |true=>
     exact uk sl (pO _ _ _) a b (meets_str_split_not_found x y t u c1 e c2) (B [(x,t)] s.toks ((c4 (hA c1)).trans (a6 c2)).symm)
   |false=>
     refine uk sl (pO _ _ _) a b (meets_str_split_sep x y t u c1 e c2 (Nat.le_trans c (by decide)) few) ?_;have fin:=B (numbered s.toks (mB x (jn x y 0 x.length (x.length+1)) y.length)) (s.toks+(mB x (jn x y 0 x.length (x.length+1)) y.length).length) ((numbered_texts _ _).trans ((c4 (hA c1)).trans (c4 (hA c2))).symm);rw[<-strsFrom_eq]at fin;exact fin
end
section
theorem xj:∀(l:O (bw×Ck)),cH (l.map λp=>V.str p.1) (strValues l)
 |[]=>.nil
 |(y,t)::l=>.cons ⟨t,W⟩ (xj l)
theorem xD{K:Fg}:∀(b:O bw),cB K F (b.map Dat.str) (b.map V.str)
 |[]=>rfl
 |y::b=>⟨_,_,W,W,xD b⟩
theorem Bi:∀b:O bw,kd (b.map Dat.str)=U
 |[]=>rfl
 |y::b=>by show(U && kd (b.map Dat.str))=U;rw[Bi b];rfl
set_option tactic.hygienic true in
def KG:Rf X "str.split" (gM X.K (fV .split)):=λh_ s σ H x r v us Q I b f a=>by
 obtain⟨w,z,d,fr,F,h,g,i,j,k⟩:=a;obtain⟨n,y,rfl,rfl,h⟩:=inv_split h;simp only[fV,VB,WW,Yo,O5,TL]at h;split at h
 .rename_i c;cases h;rw[show x=.str n from i]at b;obtain⟨t,rfl⟩:=b;obtain⟨u,rfl⟩:=GA j f;refine CO (by have:=c.1;simp;exact Nat.ne_of_gt this) c.2 λl q hl=>?_;have m:(l.map λp=>V.str p.1)=(eL n y).map V.str:=by rw[<-hl,bo];rfl
  have e:=xj l;rw[m]at e
  have hlen:Z ((eL n y).map V.str)<=aD:=by
   have:=split_le n y;rw[ah,cY];exact t9 this c.2
  have r0:=xD (K:=X.K) (F:=F) (eL n y);have r2:=r0.mono (cc.upd (o:=.lst ((eL n y).map V.str)) (g.sub.free I.fresh));exact⟨.ref _,_,I.W4 (t':=q) e hlen,W,k _ _ _ (Step.alloc g I.fresh) ⟨_,_,W,.inl (.inl ck),r2⟩ λ_=>.lst (cc.refl _) I.fresh (.ju g (Bi _) r0)⟩
 .cases h
end
section
variable{A:bZ}{s:ao}
def GH{t:aC}{y:eb ag}{x:ag}{e:T->a7}{k:T}{Q:ag->ao->Prop}(B:Il s.heap t y)(hs:y.size<=aD)(z:∀j (h:j<y.size),qf A.in1 s y[j] x (e j))(o:k<y.size)(h1:e k=U)(h0:∀j<k,e j=J)
  (h:∀u,Q (.int k s.toks) { s with toks:=u }):aA (aB prog w) A (call (.builtin "tuple.index") [.ref t,x]) Q E s:=by
 refine bN wb B.typeIs PySem.F.entry_tuple_index ?_ (PySem.F.args_tuple_index_2 _ _);unfold fD.«tuple.index»;refine wb9 (zR (a:=(cQ t,[x])) W ?_);dsimp only;refine wb9 (Gq B ?_);rw[pure_bind,pure_bind];refine wb9 ?_;rw[Qi];refine fH _ (λrest b l=>b.1=L/\l=s/\∃j,rest=List.range' j (y.size - j)/\j<=k) _ ?_ ?_ _ _ ⟨W,W,0,?_,aY _⟩
 .rintro i rest b l ⟨hb,rfl,j,d,f⟩;have c:j<y.size:=Nat.lt_of_le_of_lt f o
  rw[show y.size - j=(y.size - (j+1))+1 from (Nat.le_antisymm (t9 (ad (Nat.le_of_lt c)) (am c)) (t9 (ad c) (am (Nat.le_of_lt c)))),List.range'_succ]at d;cases d;simp only[a8 c];refine wb9 (z i c _ _ _ _ ?_);by_cases g:i=k
  .subst g;rw[h1,a6 W];refine wb9 ?_;show aA _ _ (mkInt _ >>= _) _ _ _;refine wb9 (wpAny_mkInt (wu9 (wu9 (wu9 ⟨_,W,h _⟩))))
  .rw[h0 i (Nat.lt_of_le_of_ne f g),c4 Bool.false_ne_true];exact wu9 ⟨W,W,i+1,W,Nat.lt_of_le_of_ne f g⟩
 .rintro⟨b1,b2⟩ l ⟨hb,rfl,j,d,f⟩;have:=dy jo d;rw[List.length_range']at this;simp at this;omega
 .simp[Qh]
end
set_option tactic.hygienic true in
theorem Bw(d:Dat):∀(ds:O Dat)(c k:T),findD d ds c=Y k->c<=k/\k<c+Z ds/\mw (ds.getD (k - c) .non) d=U/\∀j,j<k - c->mw (ds.getD j .non) d=J
 |[],_,_,h=>by cases h
 |x::f,c,k,h=>by
   simp only[findD]at h;split at h
   .rename_i e;cases h;exact⟨aw _,by simp,by simpa using e,λj a=>(Zd a (ar c c (lw0))).elim⟩
   .rename_i e;obtain⟨h1,h2,h3,b⟩:=Bw d f (c+1) k h;refine⟨Nat.le_of_lt h1,by simp;exact rT h2,?_,λj a=>?_⟩
    .rw[show k - c=(k - (c+1))+1 from (Nat.le_antisymm (t9 (ad (Nat.le_of_lt h1)) (am h1)) (t9 (ad h1) (am (Nat.le_of_lt h1))))];simpa using h3
    .cases j with
     |zero=>simpa using e
     |succ j=>simpa using b j (Nat.le_sub_one_of_lt a)
section
variable{X:Cx}
set_option tactic.hygienic true in
theorem Hn(O':X.A.units+21<cO):Rf X "tuple.index" (gM X.K (fV .tindex)):=λh_ s σ H x xs v us Q I n o f=>by
 obtain⟨da,ds,d,fr,F,h,g,q,w,k⟩:=f
 have hsh:∃V d1,da=.tup V/\ds=[d1]:=by
  match da,ds,h with
  |.tup V,[d1],_=>exact⟨V,d1,W,W⟩
 obtain⟨V,d1,rfl,rfl⟩:=hsh;simp only[fV,O5]at h;split at h
 .rename_i hs;rw[au]at hs;obtain⟨y,a,h⟩:=dY h;cases h
  obtain⟨kk,hf,rfl⟩:∃kk:T,findD d1 V 0=Y kk/\y=(kk:dc):=by
   cases c:findD d1 V 0 with
   |none=>rw[c]at a;cases a
   |some z=>rw[c]at a;cases a;exact⟨z,W,W⟩
  obtain⟨p,vs,rfl,t,r⟩:=q;obtain⟨N,P,rfl,r1,B⟩:=w;cases B;obtain⟨u,rfl,C⟩:=vals1 o;cases n;obtain⟨its,i,pl,c⟩:=I.tupR g t;obtain⟨_,R,D,E⟩:=Bw d1 V 0 kk hf;have el:its.toArray.size=Z V:=by rw[aZ,<-i.length,r.length]
  refine GH (e:=λj=>mw (V.getD j .non) d1) (k:=kk) pl (by rw[el,<-r.length];exact c) (λj l=>?_) (Nat.le_trans R (Nat.add_le_of_le_sub (Nat.le_of_eq el.symm) (Nat.zero_le _))) (by simpa using D) (λj l=>E j (by omega)) λS=>⟨.int _,H,I.tok _,⟨_,W⟩,k _ F H (Step.refl g) W bB⟩
  have b:j<Z V:=Nat.le_trans l (Nat.le_of_eq el)
  obtain⟨T',G,J'⟩:=yJ i l;obtain⟨U',m,L'⟩:=r.get (ae b);rw[G]at m;cases m;have M:V.getD j .non=V[j]:=by simp[MK,b]
  show qf X.A.in1 s its.toArray[j] u (mw (V.getD j .non) d1);rw[M];exact(qK I g 20 X.A.in1 _ _ (by show X.A.units+1+20<cO;omega) (mN hs.2 (ae b)) hs.1 L' r1 J' C).1
 .cases h
def GV{ap cp:uo}(B:X.A.units+21<cO)(u:PE X (.Name x p) (λ_ H Q=>Q v H))(hd:∀F,Rep X.K F (.tup ds) v)(y:∀a,v=.ref a->∃o,X.K.lookup a=Y o/\o.cls=.type "tuple"/\o.dict=L)
  (ha:SA X C [e] [t])(hl:(ap.endLine == cp.line)=U)(h1:aL [e] X.env=(J,eval e X.env)::aL [] X.env):SE X C (.Call (.Attribute (.Name x p) "index" ap) [e] [] cp) (.gG .tindex (.con (.tup ds)) [t]):=
 PE.imp (ET PySem.F.plainAttrs_tuple wb PySem.F.type_tuple_index (Hn B) u ha W (by rw[h1];rfl) hl h1 W) λσ H Q j=>by
  obtain⟨s,d,fr,h,F,g,R,k⟩:=j;obtain⟨b,h2,h3⟩:=c9 (show(lH C [t] s).bind (λb=>fV .tindex (.tup ds) b)=Y (d,fr)from h)
  have l:Yh X.K "tuple" v H:=by
   obtain⟨a,vs,rfl,_⟩:=hd F;exact .inr (.inl ⟨W,y a W⟩)
  exact⟨l,s,b,h2,F,g,R,λvs i z c r2=>⟨.tup ds,b,d,fr,i,h3,c.good,hd i,r2,λw m n f r3 r=>k w m n (c.trans f) r3 λq=>(r q).back (F:=F) c.hh⟩⟩
end
section
variable{X:Cx}{es:O br}
def eZ.LY{K:Fg}(hp:H p=L):eZ K H (L2.upd H p (.dK [])) (.dct [] []) (.ref p):=
 ⟨_,by simp,λa m=>by simp_all,p,[],[],W,ck,W,⟨W,W⟩,W⟩
def N5:SE X C (.Dict [] [] pos) .LY:=PE.imp Kf λσ H Q a p hp=>by
 refine ac λ_ b=>?_;obtain⟨c,d,fr,h,F,g,R,k⟩:=a;cases h;refine b ?_;exact k _ _ _ (Step.alloc g hp) ⟨p,[],W,ck,W,W⟩ λ_=>.LY hp
noncomputable def baseOk:br->a7
 |.Call (.Name _ _) [] [] _=>J
 |_=>U
def yq(h:baseOk o=U):gw o m env w=w:=by
 cases o with
 |Call f a k p=>
   cases f with
   |Name x q=>
     cases a with
     |nil=>
       cases k with
       |nil=>cases h
       |cons _ _=>rfl
     |cons _ _=>rfl
   |_=>rfl
 |_=>rfl
def Qx{B:eS}{ap cp:uo}(slot:Slot "str" name B)(ty:n3 (.builtin B)=pure (.type "method_descriptor"))(c:Rf X B (gM X.K (fV m)))(hs:∀b ds r,fV m b ds=Y r->∃z,b=.str z)
  (ho:SE X C o f)(ha:SA X C [e] [t])(hb:baseOk o=U)(hl:(ap.endLine == cp.line)=U)(h1:aL [e] X.env=(J,eval e X.env)::aL [] X.env):SE X C (.Call (.Attribute o name ap) [e] [] cp) (.gG m f [t]):=
 PE.imp (ET yG slot ty c ho ha (yq hb) (by rw[h1];rfl) hl h1 W) (Hr hs)
def Wj{B:eS}{ap cp:uo}(slot:Slot "str" name B)(ty:n3 (.builtin B)=pure (.type "method_descriptor"))(c:Rf X B (gM X.K (fV m)))(hs:∀b ds r,fV m b ds=Y r->∃z,b=.str z)
  (ho:SE X C o e)(hb:baseOk o=U)(hl:(ap.endLine == cp.line)=U):SE X C (.Call (.Attribute o name ap) [] [] cp) (.gG m e []):=
 PE.imp (S0 yG slot ty c ho (yq hb) hl) (Dn hs)
noncomputable def U5(m:bw)(k:T):a5 Yw:=
 if m="join"/\k=1 then Y .join else if m="split"/\k=1 then Y .split else if m="upper"/\k=0 then Y .upper else L
set_option tactic.hygienic true in
theorem PX{b:Yw}{ap cp:uo}(u:X.A.units+21<cO)(h:U5 m (Z es)=Y b)(ho:SE X C o t)(ha:SA X C es xs)(hlen:Z xs=Z es)(B:∀e,es=[e]->aL [e] X.env=(J,eval e X.env)::aL [] X.env)(c:∀e f,es=[e,f]->aL [e,f] X.env=(J,eval e X.env)::aL [f] X.env/\aL [f] X.env=[(J,eval f X.env)])(hb:baseOk o=U)(hl:(ap.endLine == cp.line)=U) :
  SE X C (.Call (.Attribute o m ap) es [] cp) (.gG b t xs):=by
 have one:Z es=1->∃e a,es=[e]/\xs=[a]:=λq=>by
  match es,xs,hlen,q with
  |[e],[a],_,_=>exact⟨e,a,W,W⟩
 have nil:Z es=0->es=[]/\xs=[]:=λq=>by
  match es,xs,hlen,q with
  |[],[],_,_=>exact⟨W,W⟩
 unfold U5 at h;split at h
 .rename_i q;cases h;obtain⟨rfl,q⟩:=q;obtain⟨e,a,rfl,rfl⟩:=one q;exact Qx PySem.F.slot_str_join PySem.F.type_str_join O3 (λ_ _ _ h=>let ⟨x,_,q,_⟩:=Bd h;⟨x,q⟩) ho ha hb hl (B e W)
 split at h
 .rename_i q;cases h;obtain⟨rfl,q⟩:=q;obtain⟨e,a,rfl,rfl⟩:=one q;exact Qx yF PySem.F.type_str_split KG (λ_ _ _ h=>let ⟨x,_,q,_⟩:=inv_split h;⟨x,q⟩) ho ha hb hl (B e W)
 split at h
 .rename_i q;cases h;obtain⟨rfl,q⟩:=q;obtain⟨rfl,rfl⟩:=nil q;exact Wj PySem.F.slot_str_upper PySem.F.type_str_upper KE (λ_ _ _ h=>let ⟨x,q,_⟩:=xT h;⟨x,q⟩) ho hb hl
 .cases h
end
structure LO{α:Type}(lt:α->α->a7):Prop where
 irr:∀x,lt x x=J
 tr:∀x y z,lt x y=U->lt y z=U->lt x z=U
 tot:∀x y,lt x y=J->lt y x=J->x=y
def LO.Mq (o:LO lt)(h:lt x y=U):lt y x=J:=by
 cases q:lt y x with
 |false=>rfl
 |true=>have:=o.tr _ _ _ h q;rw[o.irr]at this;cases this
def LO.W5 (o:LO lt)(h:lt y x=J)(b:lt z y=J):lt z x=J:=by
 cases q:lt z x with
 |false=>rfl
 |true=>
   cases r:lt y z with
   |true=>have:=o.tr _ _ _ r q;rw[h]at this;cases this
   |false=>have:=o.tot _ _ r b;subst this;rw[h]at q;cases q
def TY:LO ltI:=⟨λx=>by simp[ltI],λx y z h a=>by simp[ltI]at *;exact tD (jq h a),λx y h a=>by simp[ltI]at *;exact Int.le_antisymm a h⟩
def xN:LO pq:=⟨λx=>by simp[pq],λx y z h b=>by
  simp only[pq,ed]at *
  exact List.lt_trans h b,λx y h b=>by
  simp only[pq,e0]at *;have :=List.le_antisymm (List.not_lt.mp b) (List.not_lt.mp h);obtain⟨a⟩:=x
  simp_all⟩
section
variable{α:Type}
set_option tactic.hygienic true
theorem vg(o:LO lt):∀{l:O α},z∈vp lt x l↔z=x\/z∈l
 |[]=>by simp[vp]
 |y::a=>by
   unfold vp;split
   .rw[aq]
   .rename_i h1;split
    .rw[aq,vg o,aq];constructor
     .grind
     grind
    .rename_i h2;have:=o.tot x y (by simpa using h1) (by simpa using h2)
     simp_all
theorem c7(o:LO lt):∀{l:O α},z∈dz lt l↔z∈l
 |[]=>MP
 |x::l=>by rw[dz,vg o,c7 o,aq]
theorem EK(o:LO lt):∀{l:O α},l.Pairwise (λa b=>lt a b=U)->(vp lt x l).Pairwise (λa b=>lt a b=U)
 |[],_=>by simp[vp]
 |y::d,h=>by
   obtain⟨h1,h2⟩:=cy.mp h;unfold vp;split
   .rename_i q;refine cy.mpr ⟨λz c=>?_,h⟩
    rcases aq.mp c with rfl|c
    .exact q
    .exact o.tr _ _ _ q (h1 z c)
   .split
    .rename_i q;refine cy.mpr ⟨λz c=>?_,EK o h2⟩
     rcases(vg o).mp c with rfl|c
     .exact q
     .exact h1 z c
    .exact h
theorem eU(o:LO lt):∀(l:O α),(dz lt l).Pairwise (λa b=>lt a b=U)
 |[]=>.nil
 |x::l=>EK o (eU o l)
def gm(o:LO lt){l:O α}(h:l.Pairwise (λa b=>lt a b=U)):l.Nodup:=h.imp λq e=>by subst e;rw[o.irr]at q;cases q
theorem rK:∀{l:O α},(wD lt x l).Perm (x::l)
 |[]=>.refl _
 |y::a=>by
   unfold wD;split
   .exact(rK.cons y).trans (.swap _ _ _)
   .exact .refl _
theorem hX:∀(l:O α),(i8 lt l).Perm l
 |[]=>.refl _
 |x::l=>rK.trans ((hX l).cons x)
theorem EJ(o:LO lt):∀{l:O α},l.Pairwise (λa b=>lt b a=J)->(wD lt x l).Pairwise (λa b=>lt b a=J)
 |[],_=>by simp[wD]
 |y::d,h=>by
   obtain⟨h1,h2⟩:=cy.mp h;unfold wD;split
   .rename_i q;refine cy.mpr ⟨λz c=>?_,EJ o h2⟩
    rcases aq.mp (rK.mem_iff.mp c)with rfl|c
    .exact o.Mq q
    .exact h1 z c
   .rename_i q;refine cy.mpr ⟨λz c=>?_,h⟩
    rcases aq.mp c with rfl|c
    .exact (by simpa using q)
    .exact o.W5 (by simpa using q) (h1 z c)
set_option tactic.hygienic false
theorem AJ(o:LO lt):∀(l:O α),(i8 lt l).Pairwise (λa b=>lt b a=J)
 |[]=>.nil
 |x::l=>EJ o (AJ o l)
def uD(o:LO lt){r:O α}(hp:r.Perm l)(hs:r.Pairwise (λa b=>lt b a=J)):r=i8 lt l:=
 iE (λa b _ _ h c=>o.tot _ _ c h) hs (AJ o l) (hp.trans (hX l).symm)
end
theorem JM:∀{l:O bw}{p:bw},risingS p l=U->(p::l).Pairwise (λa b=>pq b a=J)
 |[],p,_=>by simp
 |x::r,p,h=>by
   simp only[risingS,au,mK]at h;obtain⟨h1,h2⟩:=h;rw[ltCps_eq]at h1;have e:=JM h2;refine cy.mpr ⟨λz d=>?_,e⟩
   rcases aq.mp d with rfl|d
   .exact h1
   .exact xN.W5 h1 ((cy.mp e).1 z d)
def RH(h:sortedS l=U):l.Pairwise (λa b=>pq b a=J):=by
 cases l with
 |nil=>exact .nil
 |cons x r=>exact JM h
def Uq{l:O dc}(h:l.Pairwise (·<=·)):l.Pairwise (λa b=>ltI b a=J):=h.imp λq=>by simp[ltI];omega
theorem Sw{K:Fg}:∀{ds:O Dat}{is:O dc}{vs:O V}{us:O ag},lY ds=Y is->cB K F ds vs->cH vs us->lM us is
 |[],is,vs,us,h,r,w=>by
   cases h;rw[show vs=[]from r]at w;cases w;exact .nil
 |d::ds,is,vs,us,h,f,w=>by
   obtain⟨v,r,e,h1,h2⟩:=f;subst e
   cases d with
   |int i=>
     simp only[lY]at h;obtain⟨g,h3,c⟩:=dY h;subst c
     cases w with
     |cons a b=>
       cases h1;obtain⟨t,rfl⟩:=a;exact .cons _ _ (Sw h3 h2 b)
   |_=>cases h
theorem Sv{K:Fg}:∀{ds:O Dat}{is:O bw}{vs:O V}{us:O ag},jM ds=Y is->cB K F ds vs->cH vs us->mJ us is
 |[],is,vs,us,h,r,w=>by
   cases h;rw[show vs=[]from r]at w;cases w;exact .nil
 |d::ds,is,vs,us,h,f,w=>by
   obtain⟨v,r,e,h1,h2⟩:=f;subst e
   cases d with
   |str i=>
     simp only[jM]at h;obtain⟨g,h3,c⟩:=dY h;subst c
     cases w with
     |cons a b=>
       cases h1;obtain⟨t,rfl⟩:=a;exact .cons _ _ (Sv h3 h2 b)
   |_=>cases h
section
variable{X:Cx}{s:ao}
def yR{c:cg}{out:O ag}(I:Inv X h_ σ H s)(ex:∀b o,s.heap.get? b=Y o->c.get? b=Y o)(hl:s.heap.objs.size<=l)(g:c.get? l=Y (fy "list" out.toArray e))(w:cH vs out)(B:Z vs<=aD) :
  Inv X h_ σ (upd H l (.lst vs)) { s with heap:=c,drawn:=d,toks:=f }:=by
 have a:Inv X h_ σ (upd H l (.lst vs)) { s with heap:=c,toks:=f }:=I.laid ex hl ⟨B,_,e,w,g⟩;exact⟨a.ok,a.os,a.bare,a.base,a.loc,a.cell,a.free,a.freeC,a.pin,a.hok,a.len⟩
def sx{e:O ag}(hl:s.heap.IsList l e.toArray)(B:Z e<=aD)(f:t e):vU prog w A s (.ref l) t:=by
 intro a c d _ k;refine collect_list hl ?_ B;have:=k e ((s.heap.push (fy "list" #[] 0)).update s.heap.objs.size (fB (·++e.toArray))) s.drawn s.toks (λb o q=>?_) ?_ f
 .exact this
 .rw[Gm _ _ _ _ (ba (hl9 q))];exact hp9 _ q
 .rw[Heap.size_update,Cs];exact vW _
def GR(h:ItemsOf (SignAt x) acc x.cps.size):mJ acc.toList (dG x):=by
 obtain⟨h1,h2⟩:=h
 have e:acc.toList.map strOf=dG x:=by
  apply fu
  .simp[dG,h1]
  .intro n a b;have ha:n<acc.size:=by simpa using a
   obtain⟨c,u,d,f⟩:=h2 n acc[n] (a8 ha);simp only[nN,ph,dG];rw[f];have hb:n<x.cps.size:=by rw[<-h1];exact ha
   rw[a8 hb]at d;cases d;rfl
 rw[<-e];refine strsAre_map _ λv g=>?_;obtain⟨n,i,rfl⟩:=cv.mp g;obtain⟨c,u,d,f⟩:=h2 n acc[n] (a8 (by simpa using i));exact⟨_,u,by simpa using f⟩
def L9{A:bZ}{x:bw}(hh:A.handled=L)(B:x.cps.size<=aD):vU prog w A s (.str x tx) (λvs=>∃f,mJ vs f/\f.Perm (dG x)):=by
 intro c d g e k;exact BJ (e.trans hh) B λh1 b a ex sz it=>k _ h1 _ b ex sz ⟨_,GR it,.refl _⟩
def Bx{Q:VK}{F:Hp}{d:Dat}{fr:a7}{l:aC}{is:O dc}(g:Good F H)(B:H l=L)(k:∀w c b,Step F H c b->Rep X.K c (.lst (is.map .int)) w->(U=U->eZ X.K H b (.lst (is.map .int)) w)->Q w b):Q (.ref l) (upd H l (.lst (is.map V.int))):=
 k _ _ _ (Step.alloc g B) ⟨l,_,W,.inl (.inl ck),YS is⟩ λ_=>.lst (cc.refl _) B (.ju g (Xi is) (YS is))
def vB{Q:VK}{F:Hp}{d:Dat}{fr:a7}{l:aC}{is:O bw}(g:Good F H)(B:H l=L)(k:∀w c b,Step F H c b->Rep X.K c (.lst (is.map .str)) w->(U=U->eZ X.K H b (.lst (is.map .str)) w)->Q w b):Q (.ref l) (upd H l (.lst (is.map V.str))):=
 k _ _ _ (Step.alloc g B) ⟨l,_,W,.inl (.inl ck),YR is⟩ λ_=>.lst (cc.refl _) B (.ju g (Xh is) (YR is))
def uI(h:n<64):n<=aD:=by exact bx (ab h iF)
def Wc{js:O dc}(I:Inv X h_ σ H s)(B:Z js<64)(u:vU X.prog X.w X.A s v (λvs=>∃t,lM vs t/\t.Perm is))(o:∀r:O dc,r.Perm is->r.Pairwise (λa b=>ltI b a=J)->r=js)(hi:Z is=Z js)
  (k:∀l,H l=L->Q (.ref l) (upd H l (.lst (js.map V.int)))):aA (aB X.prog X.w) X.A (call (.builtin "sorted") [v]) (EP X h_ σ Q) E s:=by
 refine Ju (is:=is) (Nat.lt_of_le_of_lt (Nat.le_of_eq hi) B) u λi d f l h t e ex hl g c i2 i3=>?_;obtain rfl:=o t i2 (Uq i3);exact⟨.ref l,_,yR I ex hl g (xU c) (by rw[ah];exact uI B),W,k l (I.hok.fresh hl)⟩
def RK{js:O bw}(I:Inv X h_ σ H s)(o:Z js<64)(t:vU X.prog X.w X.A s v (λvs=>∃B,mJ vs B/\B.Perm is))(u:∀r:O bw,r.Perm is->r.Pairwise (λa b=>pq b a=J)->r=js)(hi:Z is=Z js)
  (k:∀l,H l=L->Q (.ref l) (upd H l (.lst (js.map V.str)))):aA (aB X.prog X.w) X.A (call (.builtin "sorted") [v]) (EP X h_ σ Q) E s:=by
 refine Jt (bh (af hi) o) t λi d f l h B e ex hl g c i2 i3=>?_;obtain rfl:=u B i2 (RH i3);exact⟨.ref l,_,yR I ex hl g (xq c) (by rw[ah];exact uI o),W,k l (I.hok.fresh hl)⟩
end
def rW:LO tH:=⟨nA.ir,nA.tr,λx y h a=>by
 by_cases e:x=y
 .exact e
 .have:=nA.co _ _ e h;simp_all⟩
theorem A4:∀{ds:O Dat}{q:O Key},A5 ds=Y q->q.all sK=U->(q.map iK).map Dat.int=ds
 |[],_,h,_=>by cases h;rfl
 |d::ds,_,h,a=>by
   obtain⟨k,c,h⟩:=c9 h;obtain⟨q,b,h⟩:=dY h;cases h;simp only[dC,au]at a;rw[ak,ak,A4 b a.2]
   cases d with
   |int i=>cases c;rfl
   |str x=>cases c;cases a.1
   |_=>cases c
def PJ(h:Za d=Y x)(h3:s2 x<3):PH (s2 x) (c2 x)=d:=by
 cases d with
 |int i=>cases h;rfl
 |str y=>
   cases h;show Dat.str ⟨((y.cps.toList.map eJ).map ux).toArray⟩=_;rw[bo,show(ux ∘ eJ)=id from rfl,List.map_id]
 |tup b=>
   obtain⟨q,a,h⟩:=dY h;cases h;simp only[s2]at h3 ⊢;by_cases c:q.all sK=U
   .rw[a6 c];show Dat.tup ((q.map iK).map _)=_;rw[A4 a c]
   simp_all
 |_=>cases h
theorem BF:∀{ds:O Dat}{k:O N2},QH ds=Y k->(∀n∈k.map s2,n<3)->sE PH (k.map s2) (k.map c2)=ds
 |[],_,h,_=>by cases h;rfl
 |d::ds,_,h,h3=>by
   obtain⟨x,a,h⟩:=c9 h;obtain⟨q,b,h⟩:=dY h;cases h;rw[ak,ak,Cb,PJ a (h3 _ iT),BF b λy c=>h3 y (kc _ c)]
theorem E5:∀{ds:O Dat}{q:O N2},QH ds=Y q->q.all sI=U->(q.map VD).map Dat.int=ds
 |[],_,h,_=>by cases h;rfl
 |d::ds,_,h,a=>by
   obtain⟨k,f,h⟩:=c9 h;obtain⟨q,b,h⟩:=dY h;cases h;simp only[dC,au]at a;rw[ak,ak,E5 b a.2]
   cases d with
   |int i=>cases f;rfl
   |str x=>cases f;cases a.1
   |tup g=>
     obtain⟨e,c,f⟩:=dY f;cases f;cases a.1
   |_=>cases f
def PF(h:Yn d=Y x)(h3:zd (sN x)=U):UW (sN x) (cN x)=d:=by
 cases d with
 |int i=>cases h;rfl
 |str y=>
   cases h;show Dat.str ⟨((y.cps.toList.map eJ).map ux).toArray⟩=_;rw[bo,show(ux ∘ eJ)=id from rfl,List.map_id]
 |tup b=>
   obtain⟨q,a,h⟩:=dY h;cases h;simp only[sN,cN]at h3 ⊢;by_cases c:q.all sI=U
   .rw[a6 c,a6 c];show Dat.tup ((q.map VD).map _)=_;rw[E5 a c]
   .rw[c4 c]at h3;rw[c4 c,c4 c];show Dat.tup _=_;rw[BF a (Kn h3)]
 |_=>cases h
theorem FO:∀{ds:O Dat}{k:O NK},TC ds=Y k->(∀x∈k,zd (sN x)=U)->sE UW (k.map sN) (k.map cN)=ds
 |[],_,h,_=>by cases h;rfl
 |d::ds,_,h,h3=>by
   obtain⟨x,a,h⟩:=c9 h;obtain⟨q,b,h⟩:=dY h;cases h;rw[ak,ak,Cb,PF a (h3 x iT),FO b λy c=>h3 y (kc _ c)]
def zA(h:vb d=Y k)(h3:∀x∈k,zd (sN x)=U):wH (k.map sN) (codeN k)=d:=by
 cases d with
 |tup a=>show Dat.tup _=_;rw[FO h h3]
 |_=>cases h
theorem rS:∀{ds:O Dat}{e:O (O NK)},oF ds=Y e->Z e=Z ds/\∀i,i<Z ds->vb (ds.getD i .non)=Y (e.getD i [])
 |[],_,h=>by cases h;exact⟨W,λi hi=>by cases hi⟩
 |d::ds,_,h=>by
   obtain⟨x,b,h⟩:=c9 h;obtain⟨q,c,h⟩:=dY h;cases h;refine⟨by simp[(rS c).1],λi hi=>?_⟩
   cases i with
   |zero=>exact b
   |succ i=>simpa using (rS c).2 i (by simpa using hi)
theorem Fi:∀{ds:O Dat}{q:O Key},A5 ds=Y q->kd ds=U
 |[],_,_=>rfl
 |d::ds,_,h=>by
   obtain⟨k,b,h⟩:=c9 h;obtain⟨q,a,_⟩:=dY h;cases d<;>first|(cases b;done)|simp[kd,im,(Fi a)]
theorem KC:∀{ds:O Dat}{q:O N2},QH ds=Y q->kd ds=U
 |[],_,_=>rfl
 |d::ds,_,h=>by
   obtain⟨k,e,h⟩:=c9 h;obtain⟨q,b,_⟩:=dY h;cases d with
   |tup f=>
     obtain⟨c,a,_⟩:=dY e;simp[kd,im,(KC b),Fi a]
   |int _=>simp[kd,im,(KC b)]
   |str _=>simp[kd,im,(KC b)]
   |_=>cases e
theorem KA:∀{ds:O Dat}{q:O NK},TC ds=Y q->kd ds=U
 |[],_,_=>rfl
 |d::ds,_,h=>by
   obtain⟨k,e,h⟩:=c9 h;obtain⟨q,b,_⟩:=dY h;cases d with
   |tup f=>
     obtain⟨c,a,_⟩:=dY e;simp[kd,im,(KA b),KC a]
   |int _=>simp[kd,im,(KA b)]
   |str _=>simp[kd,im,(KA b)]
   |_=>cases e
def TF(h:vb d=Y q):im d=U:=by
 cases d with
 |tup a=>simp[im,KA h]
 |_=>cases h
theorem AD{K:Fg}(r:cB K F ds vs):∀{js:O T},(∀j∈js,j<Z ds)->cB K F (js.map λj=>ds.getD j .non) (js.map λj=>vs.getD j .non)
 |[],_=>rfl
 |j::js,h=>by
   have a:=h j iT;obtain⟨v,e,q⟩:=r.get (ae a);refine⟨vs.getD j _,_,W,?_,AD r λi hi=>h i (kc _ hi)⟩
   simp_all
def Ax{o:O (O NK)}(hsh:∀j,j<Z o->(o.getD j []).map sN=CU o)(h3:∀x∈CU o,zd x=U)(sl:Sel (λi=>o.getD i []) o.length js) :
  (js.map λj=>codeN (o.getD j [])).Perm (dz tH (o.map codeN)):=by
 have d:∀j,j<Z o->∀k∈o.getD j [],zd _=U:=λj c k l=>h3 _ (by rw[<-hsh j c];exact bC l)
 have g:(js.map λj=>codeN (o.getD j [])).Nodup:=by
  exact dX.mpr (fx (λ{a b}f m h e=>h (code_inj ((hsh _ (sl.lt a f)).trans (hsh _ (sl.lt b m)).symm) (d _ (sl.lt a f)) e)) (dX.mp sl.nd))
 rw[dW g (gm rW (eU rW _))];intro z;rw[c7 rW,aP,aP];constructor
 .rintro⟨j,c,rfl⟩;have:=sl.lt j c;exact⟨_,by simp_all,W⟩
 .rintro⟨k,l,rfl⟩;obtain⟨i,hi,rfl⟩:=cv.mp l;obtain⟨j,c,e⟩:=aP.mp (sl.all i hi);refine⟨j,c,?_⟩
  simp_all
noncomputable def adr:V->aC
 |.ref a=>a
 |_=>0
theorem Ak{B:T->aC}:∀(js:O T),cH (js.map λj=>V.ref (B j)) (js.map λj=>cQ (B j))
 |[]=>.nil
 |j::js=>.cons rfl (Ak js)
section
def Um{h:cg}(hl:h.IsList l items):Ga prog w h (.ref l) items.size (λi v=>items[i]?=Y v):=by
 intro d f s1 j sz ex k;have a :=hl.at λo e=>ex l o e;have lt:l<h.objs.size:=by obtain⟨o,e,_⟩:=hl;exact hl9 e
 refine kr a (k _ _ _ (λg c=>Walks.list c _ l (ba (dn lt sz)) _) (λb hb=>?_) ⟨⟨_,ax _ W,W,W⟩,a.push _⟩)
 rcases aq.mp hb with z|z
 .exact .inl z
 .exact .inr (by simp_all)
end
section
variable{X:Cx}{vs:O V}{kk:O (O NK)}
abbrev XY(vs:O V)(j:T):aC:=adr (vs.getD j .non)
noncomputable abbrev T7(kk:O (O NK))(j:T):O NK:=kk.getD j []
def kE(r:cB X.K F ds vs)(c:oF ds=Y kk){j:T}(B:j<Z kk):vs.getD j .non=.ref (XY vs j)/\Ib X.K F (T7 kk j) (XY vs j):=by
 have b:j<Z ds:=ab B (af (rS c).1);obtain⟨v,e,q⟩:=r.get (ae b);have d:=(rS c).2 j b;rw[show ds.getD j _=ds[j] by simp[b]]at d;obtain⟨a,rfl,g⟩:=t7 d q;unfold XY;rw[show vs.getD j _=.ref a by simp[e]];exact⟨W,g⟩
theorem Fn(c:oF ds=Y kk):∀js:O T,(∀j∈js,j<Z kk)->kd (js.map λj=>ds.getD j Dat.non)=U
 |[],_=>rfl
 |j::js,h=>by
   obtain⟨b,a⟩:=rS c;simp only[ak,kd,au];exact⟨TF (a j (ab (h j iT) (af b))),Fn c js λi hi=>h i (kc _ hi)⟩
def Au(o:Dl kk)(B:j<Z kk):(T7 kk j).map sN=CU kk:=by
 simpa using (aI.mp o.2.2.1 _ (by simp_all))
def Er(room:X.A.units+8<cO)(I:Inv X h_ σ H s)(g:Good F H)(r:cB X.K F ds vs)(R:oF ds=Y kk)(o:Dl kk)(hl:Z kk<=300)
  (hc:vU X.prog X.w X.A s v (λus=>∃js,us=js.map (λj=>cQ (XY vs j))/\Sel (T7 kk) kk.length js))
  (k:∀w F' H',Step F H F' H'->Rep X.K F' (.lst ((dz tH (kk.map codeN)).map (wH (CU kk)))) w->(U=U->eZ X.K H H' (.lst ((dz tH (kk.map codeN)).map (wH (CU kk)))) w)->Q w H') :
  aA (aB X.prog X.w) X.A (call (.builtin "sorted") [v]) (EP X h_ σ Q) X.xe s:=by
 obtain⟨y,l⟩:=rS R;obtain⟨b,hb⟩:=mE.mp o.1;have h3 :=λx D=>aI.mp o.2.1 x D;have m:∀j,j<Z kk->∀k∈T7 kk j,zd _=U:=λj c k R=>h3 _ (by rw[<-Au o c];exact bC R)
 have E:∀js,Sel _ _ js->Z js=Z (dz tH (kk.map _)):=λjs sl=>by
  have:=(Ax (λj c=>Au o c) h3 sl).length_eq
  rwa [ah]at this
 refine sorted_N (by exact rT room) (λj c=>rR I g (kE r R c).2) (λj c=>Au o c) h3 hb
  (λG J' Q' e k'=>hc G J' Q' e λn h1 d1 p x1 L' z=>k' n h1 d1 p x1 L' (by obtain⟨js,M,B⟩:=z;exact⟨js,M,B,by rw[E js B];exact o.2.2.2⟩)) λN d3 O' t js e3 u i P sl pw=>?_
 have d :=I.hok.fresh i;refine⟨.ref t,_,yR I u i P (Ak js) (by rw[ah];exact ab sl.len (ab hl iF)),W,?_⟩
 have S:(dz tH (kk.map codeN)).map (wH (CU kk))=js.map λj=>ds.getD j .non:=by
  rw[((iE (λa b _ _ h h'=>rW.tot _ _ h' h) (pw.imp λq=>rW.Mq q) ((eU rW _).imp λq=>rW.Mq q) (Ax (λj c=>Au o c) h3 sl)).symm),bo];refine du λj c=>?_;have f:=sl.lt j c;rw[<-Au o f];exact zA (l j (ab f (af y))) (m j f)
 have C:=AD r λj c=>(ab (sl.lt j c) (af y))
 rw[(du λj c=>(kE r R (sl.lt j c)).1.symm)];rw[S]at k;exact k _ _ _ (Step.alloc g d) ⟨t,_,W,.inl (.inl ck),C.mono (cc.upd (g.sub.free d))⟩ λ_=>.lst (cc.refl _) d (.ju g (Fn R js sl.lt) C)
set_option tactic.hygienic true
set_option tactic.hygienic true in
def Jq(hh:X.A.handled=L)(room:X.A.units+8<cO)(I:Inv X h_ σ H s)(g:Good F H)(t:pv X.K F l vs)(r:cB X.K F ds vs)
  (R:oF ds=Y kk)(h2:oy kk=Y (d,fr))(k:∀w F' H',Step F H F' H'->Rep X.K F' d w->(fr=U->eZ X.K H H' d w)->Q w H')
  (fin:∀S s2,aA (aB X.prog X.w) X.A (call (.builtin "sorted") [.ref S]) (EP X h_ σ Q) X.xe s2->Q1 (.ref S) s2):aA (aB X.prog X.w) X.A (call (.type "set") [.ref l]) Q1 E s:=by
 unfold oy at h2;split at h2
 .rename_i hb;cases h2;obtain⟨P,p,pl,N⟩:=I.lstR g t;obtain⟨a,C⟩:=rS R;have c:=r.length;have il:Z P=Z kk:=by exact bu (QI (af p.length.symm) (af c) (af a.symm)) (QI (af a) (af c.symm) (af p.length))
  have h:∀s2:ao,(∀b o,s.heap.get? b=Y o->s2.heap.get? b=Y o)->s2.TypeIs (.ref l) _:=λs2 ex=>by
   obtain⟨o,e1,e2,_⟩:=pl.isList;exact⟨o,ex _ _ e1,e2⟩
  have hsz:P.toArray.size=Z kk:=by simp_all
  have f:=Um (prog:=X.prog) (w:=X.w) pl.isList;rw[hsz]at f;refine GU hh h PySem.F.sub_list_set PySem.F.sub_list_frozenset iF f (λi v x=>?_) (λj D=>rR I g (kE r R D).2) hb.1 (by exact bx (bx (bx room))) λh' O' y ex=>fin _ _ (Er room (I.kept ex) g r R hb.2 hb.1 (λJ' L' Q' e k'=>HM hh y hb.1 J' L' Q' e λm h1 d1 n x1 M z=>k' m h1 d1 n x1 M z) k)
  .have hi:i<Z kk:=by
    have:i<P.toArray.size:=by rcases bY.mp x with⟨q,_⟩;exact q
    simp_all
   obtain⟨u,G,B⟩:=p.get (ae ((ab hi (ab (af a) (af c.symm)))));have e1:P[i]?=Y v:=by simpa using x
   rw[G]at e1;cases e1;have:=(kE r R hi).1;rw[show vs.getD i _=vs[i]'(ab hi (ab (af a) (af c.symm))) by simp[show i<(Z vs) from(ab hi (ab (af a) (af c.symm)))]]at this;rwa[this]at B
 .cases h2
def CQ(room:X.A.units+8<cO)(I:Inv X h_ σ H s)(g:Good F H)(t:pv X.K F l vs)(r:cB X.K F ds vs)
  (B:oF ds=Y kk)(h2:Jw kk=Y (d,fr))(k:∀w z y,Step F H z y->Rep X.K z d w->(fr=U->eZ X.K H y d w)->Q w y):aA (aB X.prog X.w) X.A (call (.builtin "sorted") [.ref l]) (EP X h_ σ Q) X.xe s:=by
 unfold Jw at h2;split at h2
 .rename_i hb;obtain⟨b1,o,b3⟩:=hb;cases h2;obtain⟨x,b,pl,p⟩:=I.lstR g t;obtain⟨q,f⟩:=rS B;have v:=r.length;have h:Z x=Z kk:=by have:=b.length;exact Nat.le_antisymm (QI (Nat.le_of_eq this.symm) (Nat.le_of_eq v) (Nat.le_of_eq q.symm)) (QI (Nat.le_of_eq q) (Nat.le_of_eq v.symm) (Nat.le_of_eq this))
  have m:(aJ kk.length).map (T7 kk)=kk:=by
   apply fu
   .simp
   .intro i h1 h2;simp[T7,h2]
  refine Er room I g r B o (Nat.le_of_lt (Nat.le_trans b1 (by decide))) (sx pl.isList (by rw[cY];exact Nat.le_of_lt (Nat.le_trans (Nat.lt_of_le_of_lt (Nat.le_of_eq h) b1) (by decide))) ⟨aJ kk.length,?_,by rw[m];exact b3,λj a=>aO.mp a,λj a=>bC (aO.mpr a)⟩) k;apply fu
  .simp[h]
  .intro i h1 h2;have hi:i<Z kk:=Nat.le_trans h1 (Nat.le_of_eq h)
   obtain⟨u,n,c⟩:=b.get (ae (show i<(Z vs) from (Nat.le_trans hi (Nat.le_trans (Nat.le_of_eq q) (Nat.le_of_eq v.symm)))));have e:x[i]?=Y x[i]:=ae h1;rw[n]at e;cases e;have:=(kE r B hi).1;rw[show vs.getD i V.non=vs[i]'(by omega) by simp[show i<(Z vs) by omega]]at this;rw[this]at c;rw[show x[i]=cQ (XY vs i)from c];simp
 .cases h2
set_option tactic.hygienic false
end
section
variable{X:Cx}
set_option tactic.hygienic true in
theorem zI(P:X.A.units+21<cO)(B:X.calm=U):iB X (.builtin "sorted") (gL X.K (e8 .sorted)):=λh_ s σ H G us Q I r h=>by
 obtain⟨D,d,fr,F,v,h1,rfl,g,n,k⟩:=oG kn h;obtain⟨u,rfl,o⟩:=vals1 r
 cases D with
 |lst C=>
   obtain⟨p,vs,rfl,t,f⟩:=n;cases o;obtain⟨E,i,pl,w⟩:=I.lstR g t;have hl:=i.length;simp only[e8,b1,vQ,pJ,wK,wJ,bL,Mp,wL,vP]at h1
   cases j:lY C with
   |some is=>
     rw[j]at h1;simp only[sortI]at h1;split at h1
     .rename_i c;cases h1;have e:Z (i8 ltI is)=Z is:=(hX is).length_eq;refine Wc (is:=is) (js:=i8 ltI is) I (Nat.lt_of_le_of_lt (Nat.le_of_eq e) c) (sx pl.isList (Nat.le_trans (Nat.le_of_eq hl.symm) w) ⟨is,Sw j f i,.refl _⟩) (λr hp y=>uD TY hp y) e.symm λl a=>Bx (fr:=U) (d:=.non) g a k
     .cases h1
   |none=>
     rw[j]at h1
     cases m:jM C with
     |none=>
       rw[m]at h1;obtain⟨M,q,h1⟩:=c9 h1;exact CQ (rT P) I g t f q h1 k
     |some b=>
       rw[m]at h1;simp only[xu]at h1;split at h1
       .rename_i c;cases h1;have e:Z (i8 pq b)=Z b:=(hX b).length_eq;refine RK (is:=b) (js:=i8 pq b) I (Nat.lt_of_le_of_lt (Nat.le_of_eq e) c) (sx pl.isList (Nat.le_trans (Nat.le_of_eq hl.symm) w) ⟨b,Sv m f i,.refl _⟩) (λr hp y=>uD xN hp y) e.symm λl a=>vB (fr:=U) (d:=.non) g a k
       .cases h1
 |str x=>
   cases n;obtain⟨tx,rfl⟩:=o;simp only[e8,b1,vQ,pJ,wK,wJ,bL,Mp,wL,vP,xu]at h1;split at h1
   .rename_i c;cases h1;have e:Z (i8 pq (dG x))=Z (dG x):=(hX _).length_eq;have z:Z (dG x)=x.cps.size:=by simp[dG]
    refine RK (is:=dG x) (js:=i8 pq (dG x)) I (Nat.lt_of_le_of_lt (Nat.le_of_eq e) c) (L9 (I.ok.hd B) (by rw[cY];exact Nat.le_of_lt (Nat.le_trans (Nat.lt_of_le_of_lt (Nat.le_of_eq z.symm) c) (by decide)))) (λr hp y=>uD xN hp y) e.symm λl a=>vB (fr:=U) (d:=.non) g a k
   .cases h1
 |_=>simp only[e8,b1,vQ,pJ,wK,wJ,bL,Mp,wL,vP]at h1;cases h1
end
noncomputable def kI:Key->dc
 |.inl i=>i
 |.inr _=>0
noncomputable def kS:Key->bw
 |.inl _=>""
 |.inr x=>x
theorem Fk:∀{vs:O ag}{f:O Key},fS (λv k=>pG k v=U) vs f->(∀k∈f,∃i,k=kK i)->lM vs (f.map kI)
 |_,_,.nil,_=>.nil
 |_,_,.cons (a:=v) (b:=k) p q,h=>by
   obtain⟨i,rfl⟩:=h _ (.head _)
   rcases cF p with⟨j,t,e,rfl⟩|⟨x,t,e,_⟩
   .cases e;exact .cons _ _ (Fk q λk c=>h k (.tail _ c))
   .cases e
theorem Ej:∀{vs:O ag}{b:O Key},fS (λv k=>pG k v=U) vs b->(∀k∈b,∃i,k=jP i)->mJ vs (b.map kS)
 |_,_,.nil,_=>.nil
 |_,_,.cons p q,h=>by
   obtain⟨i,rfl⟩:=h _ (.head _)
   rcases cF p with⟨j,t,e,_⟩|⟨x,t,e,rfl⟩
   .cases e
   .cases e;exact .cons _ _ (Ej q λk a=>h k (.tail _ a))
theorem pV{b e o:Type}{R:e->o->Prop}{f:b->e}:∀{l:O b}{t:O o},fS (λa c=>R (f a) c) l t->fS R (l.map f) t
 |_,_,.nil=>.nil
 |_,_,.cons p q=>.cons p (pV q)
def Ku{f:O Key}(h:f.Nodup)(ha:∀k∈f,∃i,k=kK i):(f.map kI).Nodup:=by
 unfold List.Nodup at *;rw[dX];refine fx ?_ h;intro a b d g c e;obtain⟨i,rfl⟩:=ha a d;obtain⟨j,rfl⟩:=ha b g;exact c (by simp only[kI]at e;rw[e])
def Kt{f:O Key}(h:f.Nodup)(ha:∀k∈f,∃i,k=jP i):(f.map kS).Nodup:=by
 unfold List.Nodup at *;rw[dX];refine fx ?_ h;intro a b d g c e;obtain⟨i,rfl⟩:=ha a d;obtain⟨j,rfl⟩:=ha b g;exact c (by simp only[kS]at e;rw[e])
section
variable{A:bZ}{s:ao}
def HN{is:O dc}(hh:A.handled=L)(y:lJ (cf prog w) (mR w) s.heap S n (λq=>∃j,j<Z is/\kK (is.getD j 0)=q))(I:n<=4000) :
  vU prog w A s (.ref S) (λvs=>∃F,lM vs F/\F.Perm (dz ltI is)):=by
 obtain⟨H,K,t,E,l,x,g,m,B,b⟩:=y;have len:=jV g;rw[be]at len;intro C D M e k;refine oK (e.trans hh) l (by rw[cY];exact QI (Nat.le_of_eq len) B I) λh1 d o vs ex sz pm=>k vs h1 d o ex sz ?_;obtain⟨p,r,h⟩:=kj pm (pV (R:=λv k=>pG k v=U) (f:=λe:dc×ag=>e.2) g)
 have ha:∀k∈E,∃i,k=kK i:=λk c=>by
  obtain⟨j,_,e⟩:=(b k).mp c;exact⟨_,e.symm⟩
 refine⟨_,Fk r λk c=>ha k (h.mem_iff.mp c),(h.map kI).trans ?_⟩;rw[dW (Ku m ha) (gm TY (eU TY is))];intro z;rw[c7 TY,aP];constructor
 .rintro⟨q,G,rfl⟩;obtain⟨j,a,e⟩:=(b q).mp G;subst e;simp only[kI,cz,ae a,fe];exact bA a
 .intro u;obtain⟨j,a,rfl⟩:=cv.mp u;refine⟨kK is[j],(b _).mpr ⟨j,a,?_⟩,W⟩;simp only[cz,ae a,fe]
def HL{is:O bw}(hh:A.handled=L)(y:lJ (cf prog w) (mR w) s.heap S n (λq=>∃j,j<Z is/\jP (is.getD j "")=q))(F:n<=4000) :
  vU prog w A s (.ref S) (λvs=>∃B,mJ vs B/\B.Perm (dz pq is)):=by
 refine ac λ_ E=>?_;obtain⟨I,K,t,G,g,u,c,h,l,b⟩:=y;refine E ?_;intro x C M e k;refine oK (e.trans hh) g (by rw[cY];exact QI (af (jV c)) l F) λh1 d m vs ex sz pm=>k vs h1 d m ex sz ?_;obtain⟨o,p,f⟩:=kj pm (pV (R:=λv k=>pG k v=U) c)
 have ha:∀k∈G,∃i,k=jP i:=λk D=>by
  obtain⟨j,_,e⟩:=(b k).mp D;exact⟨_,e.symm⟩
 refine⟨_,Ej p λk D=>ha k (f.mem_iff.mp D),(f.map kS).trans ?_⟩;rw[dW (Kt h ha) (gm xN (eU xN is))];intro z;rw[c7 xN,aP];constructor
 .rintro⟨q,H,rfl⟩;obtain⟨j,a,rfl⟩:=(b q).mp H;simp only[kS,cz,ae a,fe];exact bA a
 .intro r;obtain⟨j,a,rfl⟩:=cv.mp r;refine⟨jP _,(b _).mpr ⟨j,a,?_⟩,W⟩;simp only[cz,ae a,fe]
def Zm:Ga prog w h (.str x tx) x.cps.size (SignAt x):=by
 intro d a s1 e sz ex k;refine wpAny_pyIter_str λo St c st=>k o _ St c (λb hb=>.inl (aG.mp hb)) st
def CK:gg (.type "str") (.type "set")=pure J:=by kernel_rfl
def CM:gg (.type "str") (.type "frozenset")=pure J:=by kernel_rfl
theorem Ek:∀{vs:O ag}{B:O bw},mJ vs B->∀(i:T)(v:ag),vs[i]?=Y v->∃t,v=.str (B.getD i "") t
 |_,_,.nil,i,v,h=>by simp at h
 |_,_,.cons y t r,0,v,h=>by simp at h;exact⟨t,by rw[<-h];rfl⟩
 |_,_,.cons y t r,i+1,v,h=>by
   simp only[dO]at h;obtain⟨a,e⟩:=Ek r i v h;exact⟨a,by rw[e];rfl⟩
end
section
variable{X:Cx}
set_option tactic.hygienic true in
theorem N1(hu:X.A.units+21<cO)(O':X.calm=U)(hg:Gl X "sorted")(hm:X.mg "sorted"=L)(c0:Gl X "set")(e3:X.mg "set"=L)(ha:SE X C a xa)
  (hs:aL [a] X.env=[(J,eval a X.env)]) :
  SE X C (.Call (.Name "sorted" p) [.Call (.Name "set" p2) [a] [] pos2] [] pos) (.blt .sset [xa]):=by
 intro h_ s σ H Q I h;obtain⟨ρ,d,fr,h,F,g,R,k⟩:=h;obtain⟨ds,h1,h2⟩:=c9 h;obtain⟨⟨da,fa⟩,h3,h1⟩:=c9 h1;cases h1;refine hJ (lD I hg hm (by decide +kernel:ei "sorted"=Y (.builtin "sorted")) (pA ?_ W rfl));show aA _ _ (spliced ((J,eval (.Call (.Name "set" p2) [a] [] pos2) X.env)::e4 pos [])) _ _ s;refine Gp ?_;refine hJ (lD I c0 e3 (by decide +kernel:ei "set"=Y (.type "set")) (cD ?_ (by rw[hs];rfl) W));have V:PA X [a] (gA X.K C [xa]):=lW ha rC (by rw[hs];rfl);have e7:lH C [xa] ρ=Y [da]:=by simp only[lH,h3,bH,bW]
 refine fT (V pos2 h_ s σ H (λvs J'=>∃F1,Step F H F1 J'/\cB X.K F1 [da] vs) I ⟨ρ,[da],e7,F,g,R,λvs F1 J' m r1=>⟨F1,m,r1⟩⟩) λus s1 ⟨vs,J',U',rv,F1,m,r1⟩=>?_;have hh:=I.ok.hd O';obtain⟨v,w,rfl,L',e⟩:=r1;cases e;obtain⟨u,rfl,ru⟩:=vals1 rv
 have M:∀{is:O dc} {n:T} {h':cg} {B:T} {S:aC},(d,fr)=(Dat.lst ((dz ltI is).map .int),U)->Z (dz ltI is)<64->(∀b o,s1.heap.get? b=Y o->h'.get? b=Y o)->n<=4000->
   lJ (cf X.prog X.w) (mR X.w) h' S n (λq=>∃j,j<Z is/\kK (is.getD j 0)=q)->
   aA (aB X.prog X.w) X.A (call (.builtin "sorted") [.ref S]) (EP X h_ σ Q) X.xe { s1 with heap:=h',toks:=B }:=by
  intro is n h' B S e E ex hn y;cases e;have I2:Inv X h_ σ J' { s1 with heap:=h',toks:=B }:=U'.kept ex
  exact Wc (is:=dz ltI is) (js:=dz ltI is) I2 E (HN hh y hn) (λr hp hs=>iE (le:=λa b=>ltI b a=J) (λa b _ _ h h'=>TY.tot _ _ h' h) hs ((eU TY is).imp λq=>TY.Mq q) hp) W
   λl G=>Bx (fr:=U) (d:=.non) m.good G λw F' H' st r f=>k w F' H' (m.trans st) r λz=>eZ.back (F:=F1) m.hh (f z)
 have D:∀{is:O bw} {n:T} {h':cg} {B:T} {S:aC},(d,fr)=(Dat.lst ((dz pq is).map .str),U)->Z (dz pq is)<64->(∀b o,s1.heap.get? b=Y o->h'.get? b=Y o)->n<=4000->
   lJ (cf X.prog X.w) (mR X.w) h' S n (λq=>∃j,j<Z is/\jP (is.getD j "")=q)->
   aA (aB X.prog X.w) X.A (call (.builtin "sorted") [.ref S]) (EP X h_ σ Q) X.xe { s1 with heap:=h',toks:=B }:=by
  intro is n h' B S e E ex hn y;cases e;have I2:Inv X h_ σ J' { s1 with heap:=h',toks:=B }:=U'.kept ex
  exact RK (is:=dz pq is) (js:=dz pq is) I2 E (HL hh y hn) (λr hp hs=>iE (le:=λa b=>pq b a=J) (λa b _ _ h h'=>xN.tot _ _ h' h) hs ((eU xN is).imp λq=>xN.Mq q) hp) W
   λl G=>vB (fr:=U) (d:=.non) m.good G λw F' H' st r f=>k w F' H' (m.trans st) r λz=>eZ.back (F:=F1) m.hh (f z)
 cases da with
 |lst ds=>
   obtain⟨l,vs,rfl,t,r'⟩:=L';cases ru;obtain⟨its,w1,pl,hz⟩:=U'.lstR m.good t
   have N:∀s2:ao,(∀b o,s1.heap.get? b=Y o->s2.heap.get? b=Y o)->s2.TypeIs (.ref l) "list":=λs2 ex=>by
    obtain⟨o,e1,e2,_⟩:=pl.isList;exact⟨o,ex _ _ e1,e2⟩
   simp only[e8,b1,vQ,pJ,wK,wJ,bL,Mp,wL,vP]at h2
   cases qi:lY ds with
   |some is=>
     rw[qi]at h2;simp only[Eo]at h2;split at h2
     .rename_i hb;have ia:=Sw qi r' w1;have il:=IT ia;refine uM (knd:=cf X.prog X.w) hh N n9 k9 (by decide) (Um pl.isList) (λi=>kK (is.getD i 0)) (λi v P=>?_) (by rw[aZ];unfold o9;exact t9 (Nat.le_of_eq il) hb.1) λh' B y ex=>?_
      .obtain⟨t',rfl⟩:=Im ia i v (by simpa using P);exact⟨xP _ t',W⟩
      .refine jB ?_;rw[show its.toArray.size=(Z is) by rw[aZ,il]]at y;exact M (bb h2).symm hb.2 ex (Nat.le_of_lt hb.1) y
     .cases h2
   |none=>
     rw[qi]at h2
     cases qs:jM ds with
     |none=>
       rw[qs]at h2;obtain⟨kk,T',q2⟩:=c9 h2;exact Jq hh (rT hu) U' m.good t r' T' q2 (λw F' H' st r f=>k w F' H' (m.trans st) r λz=>eZ.back (F:=F1) m.hh (f z)) λS s2 q=>jB q
     |some ss=>
       rw[qs]at h2;simp only[sP]at h2;split at h2
       .rename_i hb;have ia:=Sv qs r' w1;have il:Z its=Z ss:=by rw[<-ia.strs,ah]
        refine uM (knd:=cf X.prog X.w) hh N n9 k9 (by decide) (Um pl.isList) (λi=>jP (ss.getD i "")) (λi v P=>?_) (by rw[aZ];unfold o9;exact t9 (Nat.le_of_eq il) hb.1) λh' B y ex=>?_
        .obtain⟨t',rfl⟩:=Ek ia i v (by simpa using P);exact⟨rZ _ t',W⟩
        .refine jB ?_;rw[show its.toArray.size=(Z ss) by rw[aZ,il]]at y;exact D (bb h2).symm hb.2 ex (Nat.le_of_lt hb.1) y
       .cases h2
 |str x=>
   cases L';obtain⟨tx,rfl⟩:=ru;simp only[e8,b1,vQ,pJ,wK,wJ,bL,Mp,wL,vP,sP]at h2;have hl:Z (dG x)=x.cps.size:=by simp[dG]
   split at h2
   .rename_i hb;refine uM (knd:=cf X.prog X.w) hh (λs2 _=>W) CK CM (by decide) Zm (λi=>jP ((dG x).getD i "")) (λi v P=>?_) (by unfold o9;exact t9 (Nat.le_of_eq hl.symm) hb.1) λh' B y ex=>?_
    .obtain⟨c,u,T',rfl⟩:=P
     have e:(dG x).getD i ""=⟨#[c]⟩:=by
      have hi:i<x.cps.size:=by rcases bY.mp T' with⟨q,_⟩;exact q
      rw[a8 hi]at T';cases T';simp[dG,hi]
     rw[e];exact⟨rZ _ u,W⟩
    .refine jB ?_;rw[<-hl]at y;exact D (bb h2).symm hb.2 ex (Nat.le_of_lt hb.1) y
   .cases h2
 |_=>simp only[e8,b1,vQ,pJ,wK,wJ,bL,Mp,wL,vP]at h2;cases h2
end
section
variable{X:Cx}
def JA{ps:O bw}(j n:T)(G:nH X.prog X.w X.K X.mg X.base Ic k f fd ps (RO X.K n (C j)))(e:mY k X.A)(b:Gl X x)(o:X.mg x=Y (.ref f))(c:fj X.K (.ref f)=U)(hb:Binds X.K fd ps [])
  (t:n=0)(B:(x == ("__debug__":bw))=J):SE X C (.Call (.Name x p) [] [] pos) (.call j []):=
 PE.imp (Kh G e b o c hb .nil QB B) λσ H Q h=>by
  have a:=qP (xs:=[]) (x:=.call j []) (λi d fr h=>c9 h) σ H Q h;obtain⟨i,l,h1,F,g,R,k⟩:=a;cases h1;exact⟨by rw[t];rfl,k [] F H (Step.refl g) W⟩
end
structure Sg where
 fns:O (bw×T)
 con:O (bw×Dat)
structure Sc where
 N:O bw
 nm:O (bw×kA)
 top:a7
noncomputable def lI:O bw:=["len","range","zip","all","any","isinstance","list","tuple","reversed","int","bool","str","sorted","set","min","max","enumerate","sum","dict","abs"]
noncomputable def wC(x:bw):O bw->a5 T
 |[]=>L
 |y::r=>if y=x then Y 0 else(wC x r).map (·+ 1)
set_option tactic.hygienic true
theorem jv:∀{N:O bw}{i:T},wC x N=Y i->N[i]?=Y x
 |[],_,h=>by cases h
 |y::r,i,h=>by
   have h:(if y=x then Y 0 else(wC x r).map (·+ 1))=Y i:=h;split at h
   .cases h;rename_i e;subst e;rfl
   .obtain⟨j,h1,rfl⟩:=dY h;exact(dO ..).trans (jv h1)
noncomputable def LB(x:bw):T->O (bw×T)->a5 (T×T)
 |_,[]=>L
 |k,y::r=>if y.1=x then Y (k,y.2)else LB x (k+1) r
theorem Bv:∀{L':O (bw×T)}{k j n:T},LB x k L'=Y (j,n)->∃i,j=k+i/\L'[i]?=Y (x,n)
 |[],_,_,_,h=>by cases h
 |y::r,k,j,n,h=>by
   have h:(if y.1=x then Y (k,y.2)else LB x (k+1) r)=Y (j,n):=h;split at h
   .cases h;rename_i e;subst e;exact⟨0,W,W⟩
   .obtain⟨i,a,b⟩:=Bv h;exact⟨i+1,bu (rT (af a)) (rT (af a.symm)),(dO ..).trans b⟩
set_option tactic.hygienic false
noncomputable def mq(x:bw):a7:=!(x == ("__debug__":bw)) && !(x == ("__classdict__":bw)) && !(x == ("__name__":bw))
noncomputable def Yz:a5 kA->a7
 |some .local=>U
 |some .cell=>U
 |some .free=>U
 |_=>J
noncomputable def Zh:a5 kA->a7
 |some .local=>U
 |some .cell=>U
 |_=>J
def Gz(S:Sc)(x:bw):a7:=Yz (S.nm.lookup x)
def zm(S:Sc)(x:bw):a7:=Zh (S.nm.lookup x)
noncomputable def Lr(S:Sc)(x:bw):a7:=S.nm.lookup x == Y .globalImplicit
noncomputable def eT:br->a7
 |.Starred _ _=>J
 |_=>U
noncomputable def oD:br->a7
 |.Set _ _ _=>J
 |_=>U
noncomputable def sU:br->a7
 |.IfExp _ _ _ _=>J
 |_=>U
noncomputable def XR:Operator->a5 Vu
 |.Add=>Y .add
 |.Sub=>Y .sub
 |.Mult=>Y .mul
 |.FloorDiv=>Y .fdiv
 |.Mod=>Y .mod
 |.RShift=>Y .shr
 |.LShift=>Y .shl
 |.BitAnd=>Y .band
 |.BitOr=>Y .bor
 |_=>L
noncomputable def P0:CmpOp->VS
 |.Eq=>.eq
 |.NotEq=>.ne
 |.Lt=>.lt
 |.LtE=>.le
 |.Gt=>.gt
 |.GtE=>.ge
 |.Is=>.isn
 |.IsNot=>.nisn
 |.In=>.isin
 |.NotIn=>.nin
noncomputable def ZH(x:bw):a5 Ty:=
 if x="int" then Y .int else if x="bool" then Y .bool else if x="str" then Y .str else if x="tuple" then Y .tuple else if x="list" then Y .list else L
noncomputable def U9(x:bw):a5 Ya:=
 if x="len" then Y .len else if x="list" then Y .list else if x="tuple" then Y .tuple else if x="all" then Y .all else if x="any" then Y .any else if x="int" then Y .int else if x="str" then Y .str else if x="sorted" then Y .sorted else L
noncomputable def AG(S:Sc)(sc:mD):O (bw×kA):=sc.names.map λp=>if(p.2 == dQ && S.nm.lookup p.1 == Y .cell)then(p.1,lS)else p
noncomputable def kF:br->a5 bw
 |.Name x _=>Y x
 |_=>L
def fN(h:kF e=Y x):∃p,e=.Name x p:=by
 unfold kF at h;split at h
 .cases h;exact⟨_,W⟩
 .cases h
def namesOf:O br->a5 (O bw)
 |[]=>Y []
 |e::r=>(kF e).bind λt=>(namesOf r).map λa=>t::a
def oR:br->a5 (a7×O bw)
 |.Name t _=>Y (U,[t])
 |.Tuple b _ _=>(namesOf b).map λa=>(J,a)
 |_=>L
noncomputable def freeOf(sc:mD):O bw:=sc.names.filterMap λp=>if p.2=.free then Y p.1 else L
def tj(N:O bw):O bw->a5 (O T)
 |[]=>Y []
 |x::r=>(wC x N).bind λi=>(tj N r).map λis=>i::is
noncomputable def L8(S:Sc)(sc:mD)(b c:O bw):a7:=
 decide (sc.kind=.function) && sc.names.all (λy=>!decide (y.2=.cell)) && sc.names.all (λy=>!decide (y.2=.local) || decide (sc.names.lookup y.1=Y .local))
  && sc.names.all (λy=>!decide (y.2=.free) || decide (S.nm.lookup y.1=Y .cell) || decide (S.nm.lookup y.1=Y .free))
  && c.all (λx=>(decide (S.nm.lookup x=Y .cell) || decide (S.nm.lookup x=Y .free)) && decide (sc.names.lookup x=Y .free))
  && decide (b++c).Nodup && b.all λx=>decide (sc.names.lookup x=Y .local)
def inner(S:Sc)(sc:mD)(b c:O bw):Sc:=⟨b++c,AG S sc,J⟩
noncomputable def Bu(f:Ex->Ex->Ex):O Ex->a5 Ex
 |[]=>L
 | x::r=>match r with
   |[]=>Y x
   |_::_=>(Bu f r).map (f x)
def wB(f:br->a5 Ex):O br->a5 (O Ex)
 |[]=>Y []
 |e::r=>if eT e=U then(f e).bind λx=>(wB f r).map λa=>x::a else L
noncomputable def lu{b:Type}:O b->a5 b
 |[]=>L
 |a::r=>if r.isEmpty=U then Y a else L
def hZ (h:lu l=Y a):l=[a]:=by
 match l,h with
 |[b],h=>cases h;rfl
def u7{c:Type}:O c->a5 (c×c)
 |[]=>L
 |a::r=>(lu r).map λb=>(a,b)
def mP (h:u7 l=Y p):l=[p.1,p.2]:=by
 cases l with
 |nil=>cases h
 |cons a r=>
   obtain⟨b,h1,rfl⟩:=dY h;rw[hZ h1]
structure Ca where
 fn:br
 args:O br
 kws:O wa
 pos:uo
noncomputable def U2:br->a5 Ca
 |.Call fn args kws p=>Y ⟨fn,args,kws,p⟩
 |_=>L
def FU(h:U2 e=Y c):e=.Call c.fn c.args c.kws c.pos:=by
 unfold U2 at h;split at h
 .cases h;rfl
 .cases h
def DV(e:br):a5 (bw×O br):=(U2 e).bind λc=>if c.kws.isEmpty=U then(kF c.fn).map λx=>(x,c.args)else L
set_option tactic.hygienic true in
def yj(h:DV e=Y (x,args)):∃p q,e=.Call (.Name x p) args [] q:=by
 obtain⟨⟨fn,as,kws,q⟩,h0,h1⟩:=c9 h;obtain rfl:=FU h0;split at h1
 .rename_i b;obtain⟨y,h2,h3⟩:=dY h1;cases h3;obtain⟨p,a⟩:=fN h2
  grind
 .cases h1
noncomputable def isTup:br->a7
 |.Tuple _ _ _=>U
 |_=>J
def Bc(h:isTup e=U):∃es k p,e=.Tuple es k p:=by
 unfold isTup at h;split at h
 .exact⟨_,_,_,W⟩
 .cases h
def Q0(S:Sc)(f:br->a5 Ex)(tg:br)(x:bw)(args:O br):a5 Iw:=
 if Lr S x=U then(wB f args).bind λb=>
  if x="range" then(match lu b with
   |some a=>Y (.rng [a])
   |none=>(u7 b).map λp=>.rng [p.1,p.2])
  else if(decide (x="zip") && isTup tg)=U then(u7 b).map λp=>.zip [p.1,p.2]
  else if(decide (x="enumerate") && isTup tg)=U then(lu b).map .enu else L
 else L
noncomputable def Uo(x:bw):a7:=decide (x="range") || decide (x="zip") || decide (x="enumerate")
def K6(e:br):a5 (bw×O br):=(DV e).bind λc=>if Uo c.1=U then Y c else L
def cI(S:Sc)(f:br->a5 Ex)(tg iter:br):a5 Iw:=match K6 iter with
 |some c=>Q0 S f tg c.1 c.2
 |none=>(f iter).map .itv
def ZJ(f:br->a5 Ex):O br->a5 (O Ex)
 |[]=>Y []
 |c::r=>if(r.isEmpty && sU c)=U then(f c).map λx=>[x]else L
noncomputable def Md(f:br->a5 Ex):a5 br->a5 (a5 Ex)
 |none=>Y L
 |some e=>(f e).map Y
noncomputable def U7:Const->a5 Dat
 |.int i=>Y (.int i)
 |.bool b=>Y (.bl b)
 |.none=>Y .non
 |.str x=>Y (.str x)
 |_=>L
def QY(G:Sg)(S:Sc)(x:bw):a5 Ex:=if mq x=U then(if Gz S x=U then(wC x S.N).map .v else if Lr S x=U then(G.con.lookup x).map .con else L)else L
def cUn(f:br->a5 Ex)(a:br):UnaryOp->a5 Ex
 |.USub=>(f a).map .neg
 |.Not=>if sU a=U then(f a).map .not else L
 |_=>L
def U8(f:br->a5 Ex)(es:O br):BoolOp->a5 Ex
 |.And=>(wB f es).bind (Bu .and)
 |.Or=>(wB f es).bind (Bu .or)
def Q4(f:br->a5 Ex)(a:br)(B:O CmpOp)(bs:O br):a5 Ex:=(f a).bind λd=>match lu B with
 |some e=>(lu bs).bind λb=>if oD b=U then(f b).map λc=>.cmp (P0 e) d c else L
 |none=>(u7 B).bind λo=>(u7 bs).bind λb=>if oD b.2=U then(f b.1).bind λc=>(f b.2).map λg=>.MR (P0 o.1) (P0 o.2) d c g else L
def Mi(f:br->a5 Ex)(b:O (a5 br))(vs:O br):a5 Ex:=
 if(b.isEmpty && vs.isEmpty)=U then Y .LY
 else L
noncomputable def oT:br->a5 (a5 br×a5 br×a5 br)
 |.Slice a hi st _=>Y (a,hi,st)
 |_=>L
def XI(f:br->a5 Ex)(a b:br):a5 Ex:=(f a).bind λc=>match oT b with
 |some t=>if t.2.2.isNone=U then(Md f t.1).bind λd=>(Md f t.2.1).map λe=>.sl c d e else L
 |none=>(f b).map λg=>.ix c g
def DR(G:Sg)(S:Sc)(o:br)(m:bw):a5 (O Dat):=(kF o).bind λx=>if(decide (m="index") && mq x && Lr S x)=U then(match G.con.lookup x with
 |some (.tup a)=>Y a
 |_=>L)else L
def QZ(G:Sg)(S:Sc)(f:br->a5 Ex)(o:br)(m:bw)(ap:uo)(args:O br)(cp:uo):a5 Ex:=
 if(ap.endLine == cp.line)=U then(wB f args).bind λd=>match DR G S o m with
  |some e=>(lu d).map λa=>.gG .tindex (.con (.tup e)) [a]
  |none=>if baseOk o=U then(f o).bind λb=>(U5 m args.length).map λc=>.gG c b d else L
 else L
def ZI(S:Sc)(f:br->a5 Ex)(args:O br):a5 Ex:=(u7 args).bind λp=>(kF p.2).bind λt=>
 if(Lr S "isinstance" && Lr S t && eT p.1)=U then(ZH t).bind λty=>(f p.1).map λa=>.blt (.isi ty) [a]else L
def U4(S:Sc)(f:br->a5 Ex)(x y:bw)(b:Ya)(args:O br):a5 Ex:=(lu args).bind λe=>(DV e).bind λc=>if c.1=y then(lu c.2).bind λa=>
 if(Lr S x && Lr S y && eT a)=U then(f a).map λd=>.blt b [d]else L else L
def XQ(G:Sg)(S:Sc)(x:bw)(xs:O Ex):a5 Ex:=
 if(mq x && Lr S x)=U then match LB x 0 G.fns with
  |some a=>if Z xs=a.2 then Y (.call a.1 xs)else L
  | none=>match lu xs with
    |some c=>(U9 x).map λb=>.blt b [c]
    |none=>(u7 xs).bind λp=>if x="max" then Y (.bin .mx p.1 p.2)else if x="min" then Y (.bin .mn p.1 p.2)else L
 else L
def DW(G:Sg)(S:Sc)(f:br->a5 Ex)(x:bw)(args:O br):a5 Ex:=
 if x="isinstance" then ZI S f args else match(if x="sorted" then U4 S f "sorted" "set" .sset args else L)with
  |some z=>Y z
  |none=>(wB f args).bind (XQ G S x)
noncomputable def zL:br->a5 (br×bw×uo)
 |.Attribute o m ap=>Y (o,m,ap)
 |_=>L
def yr(h:zL e=Y t):e=.Attribute t.1 t.2.1 t.2.2:=by
 unfold zL at h;split at h
 .cases h;rfl
 .cases h
def BV(G:Sg)(S:Sc)(f:br->a5 Ex)(fn:br)(args:O br)(cp:uo):a5 Ex:=match zL fn with
 |some t=>QZ G S f t.1 t.2.1 t.2.2 args cp
 |none=>(kF fn).bind λx=>DW G S f x args
structure Gn where
 tg:br
 it:br
 ifs:O br
def QP(B:O Comprehension):a5 Gn:=(lu B).bind λg=>if g.is_async=0 then Y ⟨g.target,g.iter,g.ifs⟩else L
def Q3(S:Sc)(f:Sc->br->a5 Ex)(elt:br)(g:Gn)(sc:mD):a5 Ex:=(oR g.tg).bind λt=>(tj S.N (freeOf sc)).bind λcaps=>
 if(L8 S sc t.2 (freeOf sc) && oD g.it)=U then
  (cI S (f S) g.tg g.it).bind λit=>(ZJ (f (inner S sc t.2 (freeOf sc))) g.ifs).bind λa=>(f (inner S sc t.2 (freeOf sc)) elt).map λxe=>.comp t.2.length t.1 caps it a xe
 else L
def cE(G:Sg):T->Sc->br->a5 Ex
 |0,_,_=>L
 | n+1,S,e=>match e with
   |.Constant c _ _=>(U7 c).map .con
   |.Name x _=>QY G S x
   |.BinOp a d b _=>(XR d).bind λo=>(cE G n S a).bind λf=>(cE G n S b).map λh=>.bin o f h
   |.UnaryOp d a _=>cUn (cE G n S) a d
   |.BoolOp d l _=>if l.all sU=U then U8 (cE G n S) l d else L
   |.Compare a i bs _=>Q4 (cE G n S) a i bs
   |.IfExp c a b _=>if sU c=U then(cE G n S c).bind λj=>(cE G n S a).bind λf=>(cE G n S b).map λh=>.ite j f h else L
   |.Tuple l _ _=>(wB (cE G n S) l).map .tup
   |.List l _=>(wB (cE G n S) l).map .lst
   |.Dict p vs _=>Mi (cE G n S) p vs
   |.Subscript a b _=>XI (cE G n S) a b
   |.Call fn args kws cp=>if kws.isEmpty=U then BV G S (cE G n S) fn args cp else L
   |.ListComp m k sc _=>(QP k).bind λg=>Q3 S (cE G n) m g sc
   |_=>L
def CV(K:Fg)(d:Dat)(v:V):Prop:=(∀F,Rep K F d v)/\∀a,v=.ref a->∃o,K.lookup a=Y o/\o.cls=.type "tuple"/\o.dict=L
structure qb(G:Sg)(C:Fs)(S:Sc)(X:Cx):Prop where
 N:X.N=S.N
 nm:X.env.scope.names=S.nm
 kind:X.env.scope.kind=.function
 calm:X.calm=U
 un:X.A.units+21<cO
 xe:X.xe=λ_ _=>False
 fn:S.top=U->∀x,X.fn x=U
 fns:∀(j:T)x n,G.fns[j]?=Y (x,n)->∃k f fd ps,nH X.prog X.w X.K X.mg X.base Ic k f fd ps (RO X.K n (C j))/\mY k X.A/\X.mg x=Y (.ref f)/\fj X.K (.ref f)=U/\Binds X.K fd ps []
 blt:∀x∈lI,X.mg x=L
 con:∀x d,G.con.lookup x=Y d->∃v u,X.mg x=Y u/\RelV v u/\CV X.K d v
inductive Args (P:br->Ex->Prop):O br->O Ex->Prop
 |nil:Args P [] []
 |cons {e:br} {es:O br} {x:Ex} {xs:O Ex}:eT e=U->P e x->Args P es xs->Args P (e::es) (x::xs)
def cG (h:(if b=U then x else L)=Y y):b=U/\x=Y y:=by
 simp_all
section
variable{G:Sg}{C:Fs}{S:Sc}{X:Cx}{e:br}{x:bw}
def tW(T':qb G C S X)(h:Gz S x=U):Q9 X.env.scope x:=by
 unfold Gz at h;unfold Q9;rw[T'.nm]
 cases q:S.nm.lookup x with
 |none=>rw[q]at h;cases h
 |some k=>rw[q]at h;cases k<;>first|(simp;done)|cases h
def ub(T':qb G C S X)(h:zm S x=U):L2.Loc X.env.scope x:=by
 unfold zm at h;unfold L2.Loc;rw[T'.nm]
 cases q:S.nm.lookup x with
 |none=>rw[q]at h;cases h
 |some k=>rw[q]at h;cases k<;>first|(simp;done)|cases h
def kG(T':qb G C S X)(h:Lr S x=U):Gl X x:=by
 unfold Gl rm;rw[T'.nm];exact beq_iff_eq.mp h
def jU(h:mq x=U):(x == ("__debug__":bw))=J/\(x == ("__classdict__":bw))=J/\x≠"__name__":=by
 unfold mq at h
 simp_all
def cP(h:eT e=U):aL (e::es) env=(J,eval e env)::aL es env:=by
 cases e<;>first|rfl|cases h
theorem qo:∀{es:O br},es.all eT=U->(e4 pos (aL es env)).any (·.1)=J
 |[],_=>rfl
 |e::es,h=>by
   rw[dC,au]at h;rw[cP h.1];have q:=qo (pos:=pos) (env:=env) h.2;unfold e4 at q ⊢;rw[ak,kC,q];rfl
theorem kQ(hf:∀e x,f e=Y x->P e x):∀{es:O br}{xs:O Ex},wB f es=Y xs->Args P es xs
 |[],_,h=>by cases h;exact .nil
 |e::r,_,h=>by
   obtain⟨a,h⟩:=cG h;obtain⟨x,h1,h⟩:=c9 h;obtain⟨xs,h2,rfl⟩:=dY h;exact .cons a (hf _ _ h1) (kQ hf h2)
theorem Args.sa:∀{es:O br}{xs:O Ex},Args (SE X C) es xs->SA X C es xs
 |_,_,.nil=>rC
 |_,_,.cons a h r=>lW h r.sa (cP a)
theorem Args.sf:∀{es:O br}{xs:O Ex},Args (SE X C) es xs->SF X C es xs
 |_,_,.nil=>R0
 |_,_,.cons a h r=>NU h r.sf (cP a)
theorem Args.star:∀{es:O br}{xs:O Ex},Args P es xs->es.all eT=U
 |_,_,.nil=>rfl
 |_,_,.cons a _ r=>by rw[dC,a,r.star];rfl
theorem Args.len:∀{es:O br}{xs:O Ex},Args P es xs->Z xs=Z es
 |_,_,.nil=>rfl
 |_,_,.cons _ _ r=>dy (·+ 1) r.len
def Args.one(h:Args P es [z]):∃a,es=[a]/\eT a=U/\P a z:=by
 cases h with
 |cons s p r=>cases r;exact⟨_,W,s,p⟩
def Args.two(h:Args P es [z,w]):∃a b,es=[a,b]/\eT a=U/\eT b=U/\P a z/\P b w:=by
 cases h with
 |cons s p r=>
   obtain⟨b,rfl,d,c⟩:=r.one;exact⟨_,b,W,s,d,p,c⟩
def C0(s:eT a=U)(c:eT b=U)(ha:SE X C a z)(hb:SE X C b w):SA X C [a,b] [z,w]:=lW ha (lW hb rC (cP c)) (cP s)
def Ao(s:eT a=U)(c:eT b=U):aL [a,b] env=[(J,eval a env),(J,eval b env)]:=(cP s).trans (dy _ (cP c))
def P1(h:XR op=Y o):iA X (ej op) (gB X.K (fF o)):=by
 cases op<;>first|(cases h;first|exact OP|exact OE|exact OJ|exact Kk|exact OK|exact OF|exact OG|exact OO|exact S8)|cases h
def o6(B:X.A.units+21<cO):iA X (dj op) (gB X.K (mW (P0 op))):=by
 cases op<;>first|exact Tp (Nat.le_of_lt B)|exact S9 (by omega)|exact Th B|exact OI B|exact Te|exact Tf|exact Tn|exact To|exact OL|exact Kj
def Kw(h:oD b=U):gv op b=J:=by
 cases b<;>first|rfl|cases h
def EY(h:oD c=U):mC [op,f] [b,c]=J:=by
 cases c<;>first|rfl|cases h
def N3(ha:SE X C a t):SE X C (.UnaryOp .Not a pos) (.not t):=by
 rintro h_ s σ H Q I ⟨q,d,fr,h,F,g,R,k⟩;refine ac λ_ e=>?_;obtain⟨⟨p,i⟩,h1,h⟩:=c9 h;obtain⟨b,hb,h⟩:=dY h;cases h;refine e ?_;refine UnaryOp_ (fT (ha h_ s σ H (λv f=>∃n,Step F H n f/\Rep _ n p v) I ⟨q,p,i,h1,F,g,R,λv n f st r _=>⟨n,st,r⟩⟩) λv s1 y=>?_);obtain⟨x,f,j,l,n,st,r⟩:=y;refine not_of (fT (Jf h_ s1 σ f x v (λc o=>c=b/\o=f) j l ⟨b,Eh st.good r hb,W,W⟩) ?_);rintro c s2 ⟨o,m,rfl,rfl⟩;exact⟨.bl _,o,m,W,k _ n o st W bB⟩
def Rz(ho:iA X (dj op) (gB X.K (mW o)))(B:iA X (dj t) (gB X.K (mW u)))(ha:SE X C a y)(hb:SE X C b I)(P:SE X C c xc)(hm:mC [op,t] [b,c]=J) :
  ST X C (.Compare a [op,t] [b,c] pos) (.MR o u y I xc):=
 PT.imp (JW ho B ha hb P hm) λσ H Q f=>by
  obtain⟨s,d,fr,b,h,hb,F,g,R,k⟩:=f;refine BK (X:=X) σ H _ ⟨s,d,fr,h,F,g,R,λv w i st r _=>?_⟩
  have hd:∃z,d=.bl z:=by
   obtain⟨⟨A,j⟩,h1,h⟩:=c9 h;obtain⟨⟨l,m⟩,h2,h⟩:=c9 h;obtain⟨r,h3,h⟩:=c9 h;split at h
   .obtain⟨⟨n,p⟩,q,h⟩:=c9 h;obtain⟨z,_,h⟩:=dY h;cases h;exact⟨z,W⟩
   .cases h;exact⟨J,W⟩
  obtain⟨z,rfl⟩:=hd;cases hb;exact⟨_,r,k w i st⟩
def Vt(X:Cx)(C:Fs)(e:br)(x:Ex):Prop:=SE X C e x/\(sU e=U->ST X C e x)
theorem x8:∀{es:O br}{xs:O Ex}{x:Ex},Args (Vt X C) es xs->es.all sU=U->Bu .and xs=Y x->SE X C (.BoolOp .And es pos) x/\SW X C (.BoolOp .And es pos) x
 |_,_,_,.nil,_,h=>by cases h
 |_,_,_,.cons _ p .nil,n,h=>by
   rw[dC,au]at n;cases h;exact⟨Ez p.1,Nq (p.2 n.1)⟩
 |_,_,_,.cons _ p (.cons s q r),n,h=>by
   rw[dC,au]at n;obtain⟨z,h1,rfl⟩:=dY h;obtain⟨a,i2⟩:=x8 (.cons s q r) n.2 h1;exact⟨Sj p.1 a,Rv (p.2 n.1) i2⟩
theorem Bt:∀{es:O br}{xs:O Ex}{x:Ex},Args (Vt X C) es xs->es.all sU=U->Bu .or xs=Y x->SE X C (.BoolOp .Or es pos) x/\SW X C (.BoolOp .Or es pos) x
 |_,_,_,.nil,_,h=>by cases h
 |_,_,_,.cons _ p .nil,n,h=>by
   rw[dC,au]at n;cases h;exact⟨Ez p.1,Ru (p.2 n.1)⟩
 |_,_,_,.cons _ p (.cons s q r),n,h=>by
   rw[dC,au]at n;obtain⟨z,h1,rfl⟩:=dY h;obtain⟨a,i2⟩:=Bt (.cons s q r) n.2 h1;exact⟨Wi p.1 a,V6 (p.2 n.1) i2⟩
set_option tactic.hygienic true
def N8(T':qb G C S X)(hb:U9 x=Y c)(hp:mq x=U)(B:Lr S x=U)(hs:eT e=U)(f:SE X C e b):SE X C (.Call (.Name x p) [e] [] pos) (.blt c [b]):=by
 have h1:aL [e] X.env=(J,eval e X.env)::aL [] X.env:=cP hs;have ha:SA X C [e] [b]:=lW f rC h1;obtain⟨d1,d2,d3⟩:=jU hp;have a:=kG T' B;unfold U9 at hb;split at hb
 .rename_i q;subst q;cases hb;exact tZ HS a (T'.blt _ (by decide +kernel)) PySem.boot_len ha d3 d1 h1 W
 split at hb
 .rename_i q;subst q;cases hb;exact tY DU a (T'.blt _ (by decide +kernel)) (by decide +kernel) ha d3 d1 h1 W
 split at hb
 .rename_i q;subst q;cases hb;exact tY BO a (T'.blt _ (by decide +kernel)) (by decide +kernel) ha d3 d1 h1 W
 split at hb
 .rename_i q;subst q;cases hb;exact tZ (HY T'.calm) a (T'.blt _ (by decide +kernel)) (by decide +kernel) ha d3 d1 h1 W
 split at hb
 .rename_i q;subst q;cases hb;exact tZ (HX T'.calm) a (T'.blt _ (by decide +kernel)) (by decide +kernel) ha d3 d1 h1 W
 split at hb
 .rename_i q;subst q;cases hb;exact tY HV a (T'.blt _ (by decide +kernel)) (by decide +kernel) ha d3 d1 h1 W
 split at hb
 .rename_i q;subst q;cases hb;exact tY HR a (T'.blt _ (by decide +kernel)) (by decide +kernel) ha d3 d1 h1 W
 split at hb
 .rename_i q;subst q;cases hb;exact tZ (zI T'.un T'.calm) a (T'.blt _ (by decide +kernel)) (by decide +kernel) ha d3 d1 h1 W
 .cases hb
def PY(T':qb G C S X)(ha:Args (SE X C) es xs)(h:XQ G S x xs=Y z):SE X C (.Call (.Name x p) es [] pos) z:=by
 obtain⟨hp,h⟩:=cG h;rw[au]at hp;obtain⟨d1,d2,d3⟩:=jU hp.1
 cases g:LB x 0 G.fns with
 |some u=>
   obtain⟨j,n⟩:=u;rw[g]at h;have h:(if Z xs=n then Y (Ex.call j xs)else L)=Y z:=h;split at h
   .rename_i l;cases h;obtain⟨i,A,D⟩:=Bv g;obtain⟨k,f,E,ps,F,m,o,B,hb⟩:=T'.fns i x n D;rw[jR]at A;subst A
    cases ha with
    |nil=>exact JA j n F m (kG T' hp.2) o B hb l.symm d1
    |cons w y r=>exact N7 j n F m (kG T' hp.2) o B hb (lW y r.sa (cP w)) l d1 (cP w) (qo r.star)
   .cases h
 |none=>
   rw[g]at h
   cases ho:lu xs with
   |some s=>
     obtain rfl:=hZ ho;obtain⟨b,h1,rfl⟩:=dY h;obtain⟨e,rfl,w,y⟩:=ha.one;exact N8 T' h1 hp.1 hp.2 w y
   |none=>
     rw[ho]at h;obtain⟨⟨s,v⟩,h1,c⟩:=c9 h;clear h;obtain rfl:xs=[s,v]:=mP h1;obtain⟨a,b,rfl,w,d,y,hb⟩:=ha.two
     .have t:=C0 w d y hb;have h2:(e4 pos (aL [b] X.env)).any (·.1)=J:=qo (by simp[d]);split at c
      .rename_i q;subst q;cases c;exact Jz (DT T'.calm) (kG T' hp.2) (T'.blt _ (by decide +kernel)) (by decide +kernel) t d3 d1 (cP w) h2
      split at c
      .rename_i q;subst q;cases c;exact Jz (DS T'.calm) (kG T' hp.2) (T'.blt _ (by decide +kernel)) (by decide +kernel) t d3 d1 (cP w) h2
      .cases c
def U3(h:ZH t=Y ty):ei t=Y (.type (tyName ty))/\t∈lI/\(t == ("__debug__":bw))=J/\t≠"__name__":=by
 unfold ZH at h
 repeat' (split at h;(rename_i q;subst q;cases h;exact⟨by decide +kernel,by decide +kernel,by decide +kernel,by decide +kernel⟩))
 cases h
def Q2{iter:br}(T':qb G C S X)(hf:∀e x,f e=Y x->SE X C e x)(h:cI S f tg iter=Y it):SI X C tg iter it/\∀a,it=.itv a->SE X C iter a:=by
 unfold cI at h
 cases hi:K6 iter with
 |none=>
   rw[hi]at h;obtain⟨x,h1,rfl⟩:=dY h;exact⟨RU (hf _ _ h1),λa z=>by cases z;exact hf _ _ h1⟩
 |some c=>
   rw[hi]at h;obtain⟨x,args⟩:=c;have h:Q0 S f tg x args=Y it:=h;obtain⟨r,h1,h2⟩:=c9 hi;obtain⟨_,h2⟩:=cG h2;obtain rfl:r=(x,args):=bb h2;obtain⟨p,q,rfl⟩:=yj h1;obtain⟨s,h3⟩:=cG h;clear h h1 h2 hi;obtain⟨w,o,g⟩:=c9 h3;have ha:=kQ hf o;clear h3 o;have j:=kG T' s;split at g
   .rename_i e;subst e
    cases ho:lu w with
    |some t=>
      rw[ho]at g;cases g;obtain rfl:=hZ ho;obtain⟨a,rfl,v,i⟩:=ha.one;exact⟨NR j (T'.blt _ (by decide +kernel)) (lW i rC (cP v)) (cP v),λa z=>nomatch z⟩
    |none=>
      rw[ho]at g;obtain⟨p,l,rfl⟩:=dY g;obtain rfl:=mP l;obtain⟨a,b,rfl,v,d,i,hb⟩:=ha.two;exact⟨NQ j (T'.blt _ (by decide +kernel)) (C0 v d i hb) (Ao v d) (cP d),λa z=>nomatch z⟩
   split at g
   .rename_i e;simp only[au,ed]at e;obtain⟨rfl,m⟩:=e;obtain⟨p,n,rfl⟩:=dY g;obtain rfl:=mP n;obtain⟨u,k,y,rfl⟩:=Bc m;obtain⟨a,b,rfl,v,d,i,hb⟩:=ha.two;exact⟨RT j (T'.blt _ (by decide +kernel)) (C0 v d i hb) (Ao v d) (cP d),λa z=>nomatch z⟩
   split at g
   .rename_i e;simp only[au,ed]at e;obtain⟨rfl,m⟩:=e;obtain⟨u,k,y,rfl⟩:=Bc m;obtain⟨t,n,rfl⟩:=dY g;obtain rfl:=hZ n;obtain⟨a,rfl,v,i⟩:=ha.one;exact⟨RV j (T'.blt _ (by decide +kernel)) (lW i rC (cP v)) (cP v),λa z=>nomatch z⟩
   .cases g
set_option tactic.hygienic false
def jW(h:oD e=U):∀v,er e X.env v=pure v:=λv=>by
 cases e<;>first|rfl|cases h
theorem BN:∀{b:O bw}{is:O T},tj N b=Y is->is.map (λj=>N[j]?)=b.map Y
 |[],_,h=>by cases h;rfl
 |x::r,_,h=>by
   obtain⟨i,h1,h⟩:=c9 h;obtain⟨is,h2,rfl⟩:=dY h;rw[ak,ak,jv h1,BN h2]
theorem lookup_mem:∀{L':O (bw×kA)},L'.lookup x=Y k->(x,k)∈L'
 |[],h=>by cases h
 |(y,j)::r,h=>by
   rw[fq]at h;split at h
   .simp_all
   .exact kc _ (lookup_mem h)
structure Gb(S:Sc)(sc:mD)(tn cn:O bw):Prop where
 kind:sc.kind=.function
 nocell:∀y∈sc.names,y.2≠.cell
 locs:∀y∈sc.names,y.2=.local->sc.names.lookup y.1=Y .local
 frees:∀y∈sc.names,y.2=.free->S.nm.lookup y.1=Y .cell\/S.nm.lookup y.1=Y .free
 capk:∀x∈cn,(S.nm.lookup x=Y .cell\/S.nm.lookup x=Y .free)/\sc.names.lookup x=Y .free
 nd:(tn++cn).Nodup
 tl:∀x∈tn,sc.names.lookup x=Y .local
def L7(h:L8 S sc f o=U):Gb S sc f o:=by
 unfold L8 at h;simp only[au,aI,ed,jf,mK,e0]at h;obtain⟨⟨⟨⟨⟨⟨h1,h2⟩,h3⟩,b⟩,g⟩,c⟩,d⟩:=h;refine⟨h1,h2,λy a e=>?_,λy a e=>?_,g,c,d⟩
 .rcases h3 y a with z|z
  .exact absurd e z
  .exact z
 .rcases b y a with(z|z)|z
  .exact absurd e z
  .exact .inl z
  .exact .inr z
def zE(T':qb G C S X)(h:Gb S sc f c)(o:tj S.N c=Y caps):jb X sc f c caps where
 kind:=h.kind
 nocell:=h.nocell
 locs:=h.locs
 frees:=λy b e=>by unfold rm;rw[T'.nm];exact h.frees y b e
 nofree:=λx e=>lookup_mem e
 caps:=by rw[T'.N];exact BN o
 capk:=λx a=>by unfold rm;rw[T'.nm];exact(h.capk x a).1
 capn:=λx a=>(h.capk x a).2
def rA(T':qb G C S X)(h:Gb S sc b c)(cl:O (bw×aC))(B:ao)(f:Hp)(Ca:aC)(ex:O aC):qb G C (inner S sc b c) (eK X sc cl (b++c) B f Ca ex) where
 N:=rfl
 nm:=by
  show(j3 sc X.env).names=AG S sc;unfold j3 AG rm;rw[T'.nm,T'.kind];refine du λp _=>?_;obtain⟨n,k⟩:=p;dsimp only;rw[show(Ag == Ag)=U from rfl,kD]
 kind:=h.kind
 calm:=T'.calm
 un:=T'.un
 xe:=rfl
 fn:=λz=>nomatch z
 fns:=T'.fns
 blt:=T'.blt
 con:=T'.con
end
section
variable{G:Sg}{C:Fs}{S:Sc}{X:Cx}{e:br}{x:bw}{f:br->a5 Ex}
def Kb(T':qb G C S b)(B:S.N.Nodup)(hi:S.N[i]?=Y t)(hl:S.nm.lookup t=Y .local):PG b (.Name t p) (kN i):=by
 refine ER (by rwa[T'.N]) (by rwa[T'.N]) ?_ (.inr (by rwa[T'.nm]));unfold L2.Loc;rw[T'.nm];exact .inl hl
def qy{sc:mD}(h:sc.names.lookup x=Y .local):(AG S sc).lookup x=Y .local:=by
 unfold AG;generalize sc.names=L' at h
 induction L' with
 |nil=>cases h
 |cons p r a=>
   obtain⟨y,k⟩:=p;rw[fq]at h;rw[ak];by_cases b:(k == dQ && S.nm.lookup y == Y .cell)=U
   .dsimp only;rw[a6 b,fq];split at h
    .simp_all
    .exact a h
   .rw[c4 b,fq];split at h
    .exact h
    .exact a h
theorem nu:∀{es:O br}{o:O bw},namesOf es=Y o->Z (eH es env)=Z es/\(eH es env).findIdx? (·.1)=L/\Z o=Z es
 |[],o,h=>by cases h;exact⟨W,W,W⟩
 |e::es,o,h=>by
   obtain⟨t,h0,h⟩:=c9 h;obtain⟨a,h1,rfl⟩:=dY h;obtain⟨p,rfl⟩:=fN h0;obtain⟨b,c,d⟩:=nu (env:=env) h1;have g:eH (.Name t p::es) env=(J,kl _ _)::eH es _:=rfl;rw[g];refine⟨by simp[b],?_,by simp[d]⟩;rw[List.findIdx?_cons];simp[c]
def gK:T->T->Rc
 |_,0=>HB
 |k,n+1=>xZ (kN k) (gK (k+1) n)
theorem Fy:∀n k x σ H Q c,(∀b o,Q b o->c b o)->gK k n x σ H Q->gK k n x σ H c
 |0,_=>HA
 |n+1,k=>DK vv (Fy n (k+1))
theorem Bp:∀n k,k+n<=b->vS b (gK k n)
 |0,_,_=>GJ
 |n+1,k,h=>CI vv (Fy n (k+1)) (uE (bh (bP _ _) h)) (Bp n (k+1) (rT h))
theorem Lw{K:Fg}:∀(ds:O Dat)(vs:O V)(k:T)(σ:St)(ρ:gZ)(Q:St->Hp->Prop),cB K F ds vs->mZ K F σ ρ->Z σ=Z ρ->(∀B,mZ K F B (yV k ds ρ)->Q B H)->gK k ds.length vs σ H Q
 |[],vs,k,σ,ρ,Q,r,R,hl,q=>⟨r,q σ R⟩
 |d::ds,vs,k,σ,ρ,Q,r,R,hl,q=>by
   obtain⟨v,w,rfl,a,b⟩:=r;exact⟨v,w,W,Lw ds w _ _ _ Q b (AH hl R a) (by simpa using hl) q⟩
set_option tactic.hygienic true
def Ji{K:Fg}:Vm K n J (Ls K n (gK 0 n)):=λF H σ i d x j Q g R c hl r hb k=>by
 cases d with
 |tup h=>
   have hb:(if Z h=n then Y (yV 0 h i)else L)=Y _:=hb;split at hb
   .rename_i b;cases hb;obtain⟨a,vs,rfl,t,r⟩:=r;subst b;exact⟨a,vs,W,(t.mono g.sub).sq,r.length,Lw h vs 0 σ i Q r R hl k⟩
   .cases hb
 |_=>cases hb
theorem AL(T':qb G C S b)(nd:S.N.Nodup):∀{es:O br}{c:O bw}(k:T),namesOf es=Y c->(∀i t,c[i]?=Y t->S.N[k+i]?=Y t)->(∀t∈c,S.nm.lookup t=Y .local)->VN b es (gK k es.length)
 |[],_,_,_,_,_=>EO
 |e::es,c,k,h,hi,hl=>by
   obtain⟨t,h0,h⟩:=c9 h;obtain⟨a,h1,rfl⟩:=dY h;obtain⟨p,rfl⟩:=fN h0;refine AM (Kb T' nd (hi 0 t W) (hl t iT)) (AL T' nd _ h1 (λi d e=>?_) λd m=>hl d (kc _ m));rw[show k+1+i=k+(i+1)from(gD ..)]
   simp_all
theorem VX(T':qb G C S X)(u:oR tg=Y (one,o))(h:Gb S sc o (freeOf sc)) :
  ∃g,pL o.length g/\Vm X.K o.length one g/\∀(cl:O (bw×aC))(B:ao)(c:Hp)(Ca:aC)(ex:O aC),PG (eK X sc cl (o++freeOf sc) B c Ca ex) tg g:=by
 cases tg with
 |Name t p=>
   cases u;exact ⟨_,uE (by simp),Nm,λcl B c Ca ex=>Kb (rA T' h cl B c Ca ex) h.nd W (qy (h.tl t (by simp)))⟩
 |Tuple d k pos=>
   obtain⟨b,h1,h2⟩:=dY u;cases h2;refine⟨Ls _ _ (gK 0 _),GI (Bp _ 0 (kO (aw _) (aY _))),Ji,λcl B c Ca ex=>?_⟩;have a:=rA T' h cl B c Ca ex;have n:=nu (env:=(eK X sc cl (o++freeOf sc) B c Ca ex).env) h1;have q:=AL a h.nd 0 h1 (λi t e=>by rw[jR];exact(a9 (aT.mp e).1).trans e) λt m=>qy (h.tl t m);rw[<-n.2.2]at q;exact J8 a.calm q (n.1.trans n.2.2.symm) n.2.1
 |_=>cases u
def Ih(G:Sg)(C:Fs)(f:Sc->br->a5 Ex):Prop:=∀S e x,f S e=Y x->∀X,qb G C S X->Vt X C e x
def BQ(T':qb G C S X)(h:QY G S x=Y z):SE X C (.Name x p) z:=by
 obtain⟨hp,h⟩:=cG h;obtain⟨d1,d2,d3⟩:=jU hp;split at h
 .rename_i a;obtain⟨i,h1,rfl⟩:=dY h;exact R6 i (by rw[T'.N];exact jv h1) (tW T' a) d1 d2
 .obtain⟨d,h1,rfl⟩:=dY (cG h).2;obtain⟨v,u,c,r,hd⟩:=T'.con x d h1;exact N4 (kG T' (cG h).1) c r hd.1 d1
def Mj(T':qb G C S X)(hf:∀e x,f e=Y x->SE X C e x)(h:Q4 f a ops bs=Y z):SE X C (.Compare a ops bs pos) z/\ST X C (.Compare a ops bs pos) z:=by
 obtain⟨m,h1,h⟩:=c9 h
 cases ho:lu ops with
 |some n=>
   rw[ho]at h;obtain rfl:=hZ ho;obtain⟨b,h2,h⟩:=c9 h;obtain rfl:=hZ h2;obtain⟨q,h⟩:=cG h;obtain⟨g,h3,rfl⟩:=dY h;exact⟨Sh (o6 T'.un) (hf _ _ h1) (hf _ _ h3) (Kw q),Ry (o6 T'.un) (hf _ _ h1) (hf _ _ h3) (Kw q)⟩
 |none=>
   rw[ho]at h;obtain⟨⟨o,s⟩,h2,i⟩:=c9 h;obtain⟨⟨b,c⟩,h3,j⟩:=c9 i;obtain rfl:ops=[o,s]:=mP h2;obtain rfl:bs=[b,c]:=mP h3;obtain⟨q,k⟩:=cG j;obtain⟨g,d,l⟩:=c9 k;obtain⟨p,r,rfl⟩:=dY l;exact⟨PE.imp (Kg (o6 T'.un) (o6 T'.un) (hf _ _ h1) (hf _ _ d) (hf _ _ r) (EY q)) BK,Rz (o6 T'.un) (o6 T'.un) (hf _ _ h1) (hf _ _ d) (hf _ _ r) (EY q)⟩
def BR(hf:∀e x,f e=Y x->SE X C e x)(h:Mi f b vs=Y z):SE X C (.Dict b vs pos) z:=by
 unfold Mi at h;split at h
 .rename_i q;simp only[au,iN]at q;obtain⟨rfl,rfl⟩:=q;cases h;exact N5
 .cases h
def BP(hf:∀e x,f e=Y x->SE X C e x)(h:Md f o=Y z):SO X C o z:=by
 cases o with
 |none=>cases h;exact NI
 |some e=>
   obtain⟨y,h1,rfl⟩:=dY h;exact NH (hf _ _ h1)
def CS{lo st:a5 br}(h:oT b=Y (lo,hi,st)):∃p,b=.Slice lo hi st p:=by
 unfold oT at h;split at h
 .cases h;exact⟨_,W⟩
 .cases h
def Dd(h:oT b=L):zO b:=by
 cases b<;>first|(intro o i;rfl)|cases h
def FV(T':qb G C S X)(hf:∀e x,f e=Y x->SE X C e x)(h:XI f a b=Y z):SE X C (.Subscript a b pos) z:=by
 obtain⟨i,h1,h⟩:=c9 h
 cases d:oT b with
 |some t=>
   rw[d]at h;obtain⟨m,hi,st⟩:=t;obtain⟨j,h2,g⟩:=c9 (cG h).2;obtain⟨k,h3,rfl⟩:=dY g;obtain⟨p,rfl⟩:=CS d
   cases st with
   |none=>exact Wh (hf _ _ h1) (BP hf h2) (BP hf h3)
   |some _=>cases (cG h).1
 |none=>
   rw[d]at h;refine ac λ_ c=>?_;obtain⟨l,h2,rfl⟩:=dY h;refine c ?_;exact Wk (Zl (bh (Nat.lt_sub_of_add_lt T'.un) iF)) (hf _ _ h1) (hf _ _ h2) (Dd d)
def HK(h:DR G S o m=Y ds):∃x p,o=.Name x p/\m="index"/\mq x=U/\Lr S x=U/\G.con.lookup x=Y (.tup ds):=by
 obtain⟨x,h1,h⟩:=c9 h;obtain⟨p,rfl⟩:=fN h1;obtain⟨a,h⟩:=cG h;simp only[au,ed]at a
 cases q:G.con.lookup x with
 |none=>rw[q]at h;cases h
 |some d=>
   rw[q]at h
   cases d with
   |tup b=>cases h;exact⟨x,p,W,a.1.1,a.1.2,a.2,q⟩
   |_=>cases h
def Mg(T':qb G C S X)(hf:∀e x,f e=Y x->SE X C e x)(h:QZ G S f o m ap es cp=Y z):SE X C (.Call (.Attribute o m ap) es [] cp) z:=by
 obtain⟨b,h⟩:=cG h;obtain⟨t,h1,h⟩:=c9 h;have ha:=kQ hf h1
 cases a:DR G S o m with
 |some w=>
   rw[a]at h;obtain⟨i,h2,rfl⟩:=dY h;obtain rfl:=hZ h2;obtain⟨e,rfl,n,j⟩:=ha.one;obtain⟨y,p,rfl,rfl,hp,d,c⟩:=HK a;obtain⟨v,u,s,r,hd⟩:=T'.con y _ c;exact GV T'.un (ES (kG T' d) s r (jU hp).1) hd.1 hd.2 ha.sa b (cP n)
 |none=>
   rw[a]at h;obtain⟨hb,h⟩:=cG h;obtain⟨k,h0,h⟩:=c9 h;obtain⟨l,h2,rfl⟩:=dY h;have n:=ha.star;exact PX (by have:=T'.un;omega) h2 (hf _ _ h0) ha.sa ha.len (λe z=>by subst z;exact cP (by simpa using n)) (λe g z=>by subst z;have q:=aI.mp n;exact⟨cP (q e (by simp)),cP (q g (by simp))⟩) hb b
def PR(T':qb G C S X)(hf:∀e x,f e=Y x->SE X C e x)(h:U4 S f x y t es=Y z)
  (hl:∀a B(p q o pos:uo),eT a=U->Gl X x->Gl X y->SE X C a B->SE X C (.Call (.Name x p) [.Call (.Name y q) [a] [] o] [] pos) (.blt t [B])):SE X C (.Call (.Name x p) es [] pos) z:=by
 obtain⟨e,h1,c⟩:=c9 h;obtain⟨⟨d,as⟩,h2,b⟩:=c9 c;obtain⟨q,o,rfl⟩:=yj h2;obtain rfl:=hZ h1;split at b
 .rename_i g;obtain rfl:d=y:=g;obtain⟨a,h3,i⟩:=c9 b;obtain rfl:as=[a]:=hZ h3;obtain⟨l,j⟩:=cG i;simp only[au]at l;obtain⟨B,k,rfl⟩:=dY j;exact hl a B _ _ _ _ l.2 (kG T' l.1.1) (kG T' l.1.2) (hf _ _ k)
 .cases b
def HZ(T':qb G C S X)(hf:∀e x,f e=Y x->SE X C e x)(h:DW G S f x es=Y z):SE X C (.Call (.Name x p) es [] pos) z:=by
 unfold DW at h;split at h
 .rename_i b;subst b;obtain⟨⟨a,o⟩,h1,c⟩:=c9 h;obtain rfl:es=[a,o]:=mP h1;obtain⟨t,h2,d⟩:=c9 c;obtain⟨i,q⟩:=fN h2;obtain rfl:o=.Name t i:=q;obtain⟨n,j⟩:=cG d;simp only[au]at n;obtain⟨ty,h3,k⟩:=c9 j;obtain⟨l,m,rfl⟩:=dY k;obtain⟨b1,b2,b3,b4⟩:=U3 h3;exact Se ty (kG T' n.1.1) (T'.blt _ (by decide +kernel)) (kG T' n.1.2) (T'.blt _ b2) b1 (hf _ _ m) b4 b3 (cP n.2) (qo (by rfl))
 .generalize g:(if x="sorted" then U4 S f _ _ _ es else L)=w at h
  cases w with
  |some w=>
    cases h;split at g
    .rename_i b;subst b;exact PR T' hf g λa l _ _ _ _ r c d ha=>N1 T'.un T'.calm c (T'.blt _ (by decide +kernel)) d (T'.blt _ (by decide +kernel)) ha (by rw[cP r];rfl)
    .cases g
  |none=>
    obtain⟨s,h1,h⟩:=c9 h;exact PY T' (kQ hf h1) h
def BU(T':qb G C S X)(hf:∀e x,f e=Y x->SE X C e x)(h:BV G S f fn es pos=Y z):SE X C (.Call fn es [] pos) z:=by
 unfold BV at h
 cases a:zL fn with
 |some t=>
   obtain rfl:=yr a;exact Mg T' hf h
 |none=>
   rw[a]at h;obtain⟨x,h1,h⟩:=c9 h;obtain⟨p,rfl⟩:=fN h1;exact HZ T' hf h
def Bo(h:QP o=Y g):o=[⟨g.tg,g.it,g.ifs,0⟩]:=by
 obtain⟨c,h1,a⟩:=c9 h;obtain rfl:=hZ h1;split at a
 .rename_i b;cases a;cases c;cases b;rfl
 .cases a
set_option tactic.hygienic false
theorem BS(o:Ih G C F)(T':qb G C S X)(h:Q3 S F elt g sc=Y z) :
  ∃I caps one it xs xe t,z=.comp I caps one it xs xe/\∃tl:O bw,Z tl=I/\jb X sc tl (freeOf sc) one/\SI X C g.tg g.it it/\pL tl.length t/\Vm X.K tl.length caps t/\
   (∀(cl:O (bw×aC))(B:ao)(u:Hp)(Ca:aC)(ex:O aC),PG (eK X sc cl (tl++freeOf sc) B u Ca ex) g.tg t/\MT (eK X sc cl (tl++freeOf sc) B u Ca ex) g.ifs (VF X.K C xs)/\SE (eK X sc cl (tl++freeOf sc) B u Ca ex) C elt xe)/\oD g.it=U:=by
 obtain⟨⟨one,I⟩,h0,h⟩:=c9 h;obtain⟨caps,h1,h⟩:=c9 h;obtain⟨n,h⟩:=cG h;simp only[au]at n;obtain⟨it,h2,h⟩:=c9 h;obtain⟨xs,h3,h⟩:=c9 h;obtain⟨xe,k,rfl⟩:=dY h;have d:=L7 n.1;obtain⟨t,a,i,l⟩:=VX T' h0 d;refine⟨_,_,_,it,xs,xe,t,W,I,W,zE T' d h1,(Q2 T' (λe x q=>(o _ _ _ q X T').1) h2).1,a,i,λcl B u Ca ex=>?_,n.2⟩;have j:=rA T' d cl B u Ca ex;refine⟨l cl B u Ca ex,?_,(o _ _ _ k _ j).1⟩;generalize g.ifs=ifs at h3
 cases ifs with
 |nil=>cases h3;exact Nt
 |cons c r=>
   obtain⟨b,p⟩:=cG h3;simp only[au,iN]at b;obtain⟨rfl,b⟩:=b;obtain⟨y,m,rfl⟩:=dY p;exact Nr ((o _ _ _ m _ j).2 b)
theorem yk:∀n,Ih G C (cE G n)
 |0=>λ_ _ _ h=>by cases h
 |n+1=>λS e z h X T'=>by
   have l:=λe x h=>yk n S e x h X T';have hf:=λe x h=>(l e x h).1
   cases e with
   |Constant c k p=>
     obtain⟨d,h1,rfl⟩:=dY h
     have q:SE X C (.Constant c k p) (.con d):=by
      cases c<;>first|(cases h1;first|exact Sf|exact Wl|exact R9|exact R8)|cases h1
     exact⟨q,λ_=>mo q⟩
   |Name x p=>exact⟨BQ T' h,λ_=>mo (BQ T' h)⟩
   |BinOp a m b p=>
     obtain⟨o,h0,h⟩:=c9 h;obtain⟨r,h1,h⟩:=c9 h;obtain⟨u,h2,rfl⟩:=dY h;have q:=Si (pos:=p) (P1 (X:=X) h0) (hf _ _ h1) (hf _ _ h2);exact⟨q,λ_=>mo q⟩
   |UnaryOp m a p=>
     cases m with
     |USub=>
       obtain⟨r,h1,rfl⟩:=dY h;have q:=Sa (pos:=p) (hf _ _ h1);exact⟨q,λ_=>mo q⟩
     |Not=>
       obtain⟨E,h⟩:=cG h;obtain⟨r,h1,rfl⟩:=dY h;exact⟨N3 (hf _ _ h1),λ_=>Rx ((l _ _ h1).2 E)⟩
     |_=>cases h
   |BoolOp m H p=>
     obtain⟨E,h⟩:=cG h
     cases m with
     |And=>
       obtain⟨F,h1,h⟩:=c9 h;have q:=x8 (pos:=p) (kQ l h1) E h;exact⟨q.1,λ_=>q.2.pt⟩
     |Or=>
       obtain⟨F,h1,h⟩:=c9 h;have q:=Bt (pos:=p) (kQ l h1) E h;exact⟨q.1,λ_=>q.2.pt⟩
   |Compare a v bs p=>
     have q:=Mj (pos:=p) T' hf h;exact⟨q.1,λ_=>q.2⟩
   |IfExp c a b p=>
     obtain⟨E,h⟩:=cG h;obtain⟨A,h1,h⟩:=c9 h;obtain⟨r,h2,h⟩:=c9 h;obtain⟨u,h3,rfl⟩:=dY h;exact⟨Sd ((l _ _ h1).2 E) (hf _ _ h2) (hf _ _ h3),λz=>by cases z⟩
   |Tuple H k p=>
     obtain⟨F,h1,rfl⟩:=dY h;have q:=R7 (x1:=k) (pos:=p) (kQ hf h1).sf;exact⟨q,λ_=>mo q⟩
   |List H p=>
     obtain⟨F,h1,rfl⟩:=dY h;have q:=Sb (pos:=p) (kQ hf h1).sf;exact⟨q,λ_=>mo q⟩
   |Dict K vs p=>exact⟨BR hf h,λ_=>mo (BR hf h)⟩
   |Subscript a b p=>exact⟨FV T' hf h,λ_=>mo (FV T' hf h)⟩
   |Call fn args kws cp=>
     by_cases s:kws.isEmpty=U
     .have h:(if kws.isEmpty=U then BV G S (cE G n S) fn args cp else L)=Y z:=h;rw[a6 s]at h
      cases kws with
      |nil=>exact⟨BU T' hf h,λ_=>mo (BU T' hf h)⟩
      |cons _ _=>cases s
     .have h:(if kws.isEmpty=U then BV G S (cE G n S) fn args cp else L)=Y z:=h;rw[c4 s]at h;cases h
   |ListComp I B sc p=>
     obtain⟨g,h1,h⟩:=c9 h;obtain rfl:=Bo h1;obtain⟨_,_,_,it,F,xe,D,rfl,tl,rfl,k1,k2,k3,w,t,y⟩:=BS (yk n) T' h;have q:=N6 (pos:=p) T'.calm k1 k2 k3 w (λcl i j Ca ex=>(t cl i j Ca ex).1) (λcl i j Ca ex=>(t cl i j Ca ex).2.1) (λcl i j Ca ex=>(t cl i j Ca ex).2.2) (jW y);exact⟨q,λ_=>mo q⟩
   |_=>cases h
end
noncomputable def oW:br->a7
 |.ListComp _ _ _ _=>J
 |.SetComp _ _ _ _=>J
 |.DictComp _ _ _ _ _=>J
 |_=>U
noncomputable def Jl(S:Sc)(sc:mD)(cp:uo)(t:bw)(p:uo):a7:=S.nm.lookup t == Y .local && p.line == cp.line && !(sc.names.any λ(n,k)=>n == t && (k == .local || k == .cell))
noncomputable def XN(m:bw)(k:T):a5 VP:=
 if m="append"/\k=1 then Y .app else if m="insert"/\k=2 then Y .ins else L
def FK(e:br):a7:=kF e == Y "entry"
def JN(S:Sc)(e:br):a5 T:=(kF e).bind λx=>if(mq x && Gz S x)=U then wC x S.N else L
def XJ(G:Sg)(S:Sc)(f:br->a5 Ex):a5 br->a5 Sx
 |none=>L
 | some e=>match JN S e with
   |some i=>Y (.uV i)
   |none=>(f e).map .ret
def Jn:br->a5 (bw×br)
 |.Subscript a ix _=>(kF a).map λx=>(x,ix)
 |_=>L
def Va(S:Sc)(f:br->a5 Ex)(t e:br):a5 Sx:=match kF t with
 |some x=>if zm S x=U then(wC x S.N).bind λi=>(f e).map λxe=>.set i xe else L
 | none=>match Jn t with
   |some (x,ix)=>if(Gz S x && mq x && (oT ix).isNone && oW e)=U then(wC x S.N).bind λi=>(f e).bind λxe=>(f ix).map λa=>.mut (if FK ix=U then .dput else .seti) i [xe,a]else L
   |none=>(oR t).bind λc=>if(c.2.all (zm S) && !isTup e && !c.1)=U then(tj S.N c.2).bind λb=>(f e).map λxe=>.Yg b xe else L
structure Mc where
 x:bw
 m:bw
 ap:uo
 args:O br
 cp:uo
def TJ(e:br):a5 Mc:=(U2 e).bind λc=>(zL c.fn).bind λt=>(kF t.1).bind λx=>if c.kws.isEmpty=U then Y ⟨x,t.2.1,t.2.2,c.args,c.pos⟩else L
structure Mk where
 x:bw
 ix:br
 ap:uo
 a:br
 cp:uo
def cExp(S:Sc)(f:br->a5 Ex)(e:br):a5 Sx:=match TJ e with
 |some c=>if(Gz S c.x && mq c.x && (c.ap.endLine == c.cp.line))=U then(wC c.x S.N).bind λi=>(wB f c.args).bind λb=>(XN c.m b.length).map λa=>.mut a i b else L
 |none=>if oW e=U then(f e).map .exp else L
def xG(f:l9->a5 Sx)(B:O l9):O Sx:=B.map λs=>(f s).getD .yP
def cS(G:Sg)(S:Sc):T->l9->a5 Sx
 |0,_=>L
 | n+1,st=>match st with
   |.Return v _=>XJ G S (cE G n S) v
   |.Assign d e _=>(lu d).bind λt=>Va S (cE G n S) t e
   |.Expr e _=>cExp S (cE G n S) e
   |.If c a b _=>if sU c=U then(cE G n S c).map λg=>.ifs g (xG (cS G S n) a) (xG (cS G S n) b)else L
   |.For tg iter body f _=>if f.isEmpty=U then(oR tg).bind λt=>if(t.2.all (zm S) && oD iter)=U then(tj S.N t.2).bind λd=>(cI S (cE G n S) tg iter).map λit=>.loop t.1 d it (xG (cS G S n) body)else L else L
   |_=>L
section
variable{G:Sg}{X:Cx}
theorem jt{f:l9->a5 Sx}(hf:∀s y,f s=Y y->SS X C s y):∀(B:O l9),P9 X C B (xG f B)
 |[]=>Nv
 | s::r=>Jp (by
    show SS X C s ((f s).getD .yP)
    cases q:f s with
    |none=>exact RE
    |some y=>exact hf _ _ q) (jt hf r)
def u9(h:oW e=U):f9 e t line X.env=pure J:=by
 cases e<;>first|rfl|cases h
def J9(T':qb G C S X)(b:S.top=U)(B:S.N.Nodup)(hi:S.N[i]?=Y t)(hl:zm S t=U):PG X (.Name t p) (kN i):=
 ER (by rwa[T'.N]) (by rwa[T'.N]) (ub T' hl) (.inl (T'.fn b t))
theorem AS(T':qb G C S X)(B:S.top=U)(f:S.N.Nodup):∀{es:O br}{o:O bw}{u:O T},namesOf es=Y o->o.all (zm S)=U->tj S.N o=Y u->VN X es (Yq u)/\Z u=Z es
 |[],o,u,h,_,d=>by
   cases h;cases d;exact⟨EO,W⟩
 |e::es,o,u,h,hl,d=>by
   obtain⟨t,h0,h⟩:=c9 h;obtain⟨a,h1,rfl⟩:=dY h;obtain⟨p,rfl⟩:=fN h0;obtain⟨i,h2,d⟩:=c9 d;obtain⟨is,h3,rfl⟩:=dY d;rw[dC,au]at hl;obtain⟨b,c⟩:=AS T' B f h1 hl.2 h3;exact⟨AM (J9 T' B f (jv h2) hl.1) b,dy _ c⟩
theorem Jj(T':qb G C S X)(B:S.top=U)(o:S.N.Nodup)(f:oR tg=Y (one,u))(hl:u.all (zm S)=U)(e:tj S.N u=Y y) :
  ∃g,Vl X.K one y g/\PG X tg g:=by
 cases tg with
 |Name t p=>
   cases f;obtain⟨i,h1,e⟩:=c9 e;cases e;exact⟨_,Nl,J9 T' B o (jv h1) (by simpa using hl)⟩
 |Tuple d k p=>
   obtain⟨a,h1,h⟩:=dY f;cases h;obtain⟨b,c⟩:=AS T' B o h1 hl e;exact⟨_,Jh,J8 T'.calm b ((nu h1).1.trans c.symm) (nu h1).2.1⟩
 |_=>cases f
def PV(T':qb G C S X)(hf:∀e x,f e=Y x->SE X C e x)(h:XJ G S f v=Y y):SS X C (.Return v pos) y:=by
 cases v with
 |none=>cases h
 |some e=>
   have h:(match JN S e with|some i=>Y _|none=>(f e).map _)=Y y:=h
   cases a:JN S e with
   |some i=>
     rw[a]at h;cases h;obtain⟨x,h1,h2⟩:=c9 a;obtain⟨p,rfl⟩:=fN h1;obtain⟨b,h2⟩:=cG h2;rw[au]at b;exact Nz (by rw[T'.N];exact jv h2) (tW T' b.2) (jU b.1).1 (jU b.1).2.1
   |none=>
     rw[a]at h;obtain⟨xe,h1,rfl⟩:=dY h;exact RF (hf _ _ h1)
def GN{ix:br}(h:oW e=U):hI [.Subscript a ix sp] e line env=pure J/\hK [.Subscript a ix sp] e env=pure L:=by
 cases e<;>first|exact⟨W,W⟩|cases h
def GG(h:isTup e=J):hI [.Tuple es k tp] e line env=pure J/\hK [.Tuple es k tp] e env=pure L:=by
 cases e<;>first|exact⟨W,W⟩|cases h
def Jm{ix:br}(h:Jn t=Y (x,ix)):∃p sp,t=.Subscript (.Name x p) ix sp:=by
 unfold Jn at h;split at h
 .obtain⟨a,h1,h2⟩:=dY h;cases h2;obtain⟨p,rfl⟩:=fN h1;exact⟨p,_,W⟩
 .cases h
def VY(h:oR t=Y (J,b)):∃es k tp,t=.Tuple es k tp:=by
 unfold oR at h;split at h
 .cases h
 .exact⟨_,_,_,W⟩
 .cases h
def Xb{ix:br}(h:oT ix=L):∀v,kl (.Subscript o ix p) env v=(do
   let b <-holding [v] (eval o env);let c <-holding [v,b] (eval ix env)
   standAt p
   holding [v,b,c] (pb b c v)
   release [v,b,c] []):=λv=>by
 cases ix<;>first|rfl|cases h
def U0(b:¬oW e=U)(h:cE G n S e=Y z):∃elt B sc cp,e=.ListComp elt B sc cp:=by
 cases n with
 |zero=>cases h
 |succ n=>
   cases e with
   |ListComp elt B sc cp=>exact⟨_,_,_,_,W⟩
   |SetComp _ _ _ _=>cases h
   |DictComp _ _ _ _ _=>cases h
   |_=>exact absurd rfl b
def PU(T':qb G C S X)(top:S.top=U)(nd:S.N.Nodup)(hl:zm S x=U)(h1:wC x S.N=Y i)(h2:cE G n S e=Y xe):SS X C (.Assign [.Name x p] e pos) (.set i xe):=by
 have d:X.N.Nodup:=by rw[T'.N];exact nd
 have hi:X.N[i]?=Y x:=by rw[T'.N];exact jv h1
 have q:=(yk n S e xe h2 X T').1;by_cases v:oW e=U
 .exact Jr d hi (ub T' hl) q (u9 v) (.inl (T'.fn top x))
 .obtain⟨u,h,sc,cp,rfl⟩:=U0 v h2
  have c:f9 (.ListComp u h sc cp) (Y (.Name x p)) pos.line X.env=pure (Jl S sc cp x p):=by
   unfold f9 Jl;have hb:X.env.blockKind=.function:=by unfold Env.blockKind;rw[T'.kind];rfl
   simp only[hb,rm,T'.nm];rfl
  cases hb:Jl S sc cp x p with
  |false=>
    rw[hb]at c;exact Jr d hi (ub T' hl) q c (.inl (T'.fn top x))
  |true=>
    rw[hb]at c
    cases n with
    |zero=>cases h2
    |succ n=>
      refine ac λ_ t=>?_;obtain⟨g,h3,j⟩:=c9 h2;obtain rfl:=Bo h3;obtain⟨_,_,_,it,w,xe,s,rfl,tl,rfl,k,l,m,o,f,r⟩:=BS (yk n) T' j;refine t ?_;exact CN d hi (ub T' hl) T'.calm k l m o (λcl a b Ca ex=>(f cl a b Ca ex).1) (λcl a b Ca ex=>(f cl a b Ca ex).2.1) (λcl a b Ca ex=>(f cl a b Ca ex).2.2) c (jW r) (.inl (T'.fn top x))
def P2(T':qb G C S X)(top:S.top=U)(nd:S.N.Nodup)(h:Va S (cE G n S) t e=Y y):SS X C (.Assign [t] e pos) y:=by
 have hf:=λe x(h:cE G n S e=Y x)=>(yk n S e x h X T').1;unfold Va at h
 cases l:kF t with
 |some x=>
   rw[l]at h;obtain⟨p,rfl⟩:=fN l;obtain⟨hl,d⟩:=cG h;obtain⟨i,h1,f⟩:=c9 d;obtain⟨xe,h2,rfl⟩:=dY f;exact PU T' top nd hl h1 h2
 |none=>
   rw[l]at h
   cases B:Jn t with
   |some z=>
     obtain⟨x,ix⟩:=z;rw[B]at h;obtain⟨p,sp,rfl⟩:=Jm B;obtain⟨q,d⟩:=cG h;simp only[au,iC]at q;obtain⟨⟨⟨s,hp⟩,j⟩,m⟩:=q;obtain⟨i,h1,f⟩:=c9 d;obtain⟨xe,h2,o⟩:=c9 f;obtain⟨w,h3,rfl⟩:=dY o;obtain⟨d1,d2,d3⟩:=jU hp;have hi:X.N[i]?=Y x:=by rw[T'.N];exact jv h1
     have c:=GN (line:=pos.line) (env:=X.env) (a:=.Name x p) (ix:=ix) (sp:=sp) m;have b:=y7 (pos:=p) hi (tW T' s) d1 d2;by_cases r:FK ix=U
     .rw[a6 r];exact NA (Dc (hf _ _ h2) (Ka b (hf _ _ h3) (We (by have:=T'.un;exact Nat.le_of_lt this)) (Xb j)) c.1 c.2 W)
     .rw[c4 r];exact Ny (Dc (hf _ _ h2) (Ka b (hf _ _ h3) (NW (by have:=T'.un;exact rT this)) (Xb j)) c.1 c.2 W)
   |none=>
    rw[B]at h;obtain⟨⟨one,D⟩,h0,d⟩:=c9 h;obtain⟨hl,f⟩:=cG d;simp only[au,mK]at hl;obtain⟨A,h1,o⟩:=c9 f;obtain⟨xe,h3,rfl⟩:=dY o;obtain⟨g,u,v⟩:=Jj T' top nd h0 hl.1.1 h1;obtain rfl:one=J:=hl.2;obtain⟨es,k,tp,rfl⟩:=VY h0;have c:=GG (line:=pos.line) (env:=X.env) (es:=es) (k:=k) (tp:=tp) hl.1.2;exact RD (hf _ _ h3) u v c.1 c.2 W
def O4(h:TJ e=Y c):∃p,e=.Call (.Attribute (.Name c.x p) c.m c.ap) c.args [] c.cp:=by
 refine ac λ_ d=>?_;obtain⟨⟨fn,as,kws,cp⟩,h0,g⟩:=c9 h;obtain⟨⟨o,m,ap⟩,h1,a⟩:=c9 g;obtain⟨x,h2,b⟩:=c9 a;cases (cG b).2;obtain⟨p,f⟩:=fN h2;obtain rfl:o=.Name x p:=f;obtain rfl:kws=[]:=iN.mp (cG b).1;obtain rfl:fn=.Attribute _ m ap:=yr h1;refine d ?_;exact⟨p,FU h0⟩
set_option tactic.hygienic true in
theorem PZ(T':qb G C S X)(hf:∀e x,f e=Y x->SE X C e x)(h:cExp S f e=Y y):SS X C (.Expr e pos) y:=by
 unfold cExp at h
 cases A:TJ e with
 |none=>
   rw[A]at h;obtain⟨D,l⟩:=cG h;obtain⟨xe,h1,rfl⟩:=dY l;exact RG (hf _ _ h1) (u9 D)
 |some c=>
   rw[A]at h;obtain⟨p,rfl⟩:=O4 A;obtain⟨x,m,ap,args,cp⟩:=c;obtain⟨q,l⟩:=cG h;simp only[au]at q;obtain⟨⟨t,hp⟩,j⟩:=q;obtain⟨i,h1,r⟩:=c9 l;obtain⟨E,h2,s⟩:=c9 r;obtain⟨v,h3,rfl⟩:=dY s;obtain⟨d1,d2,d3⟩:=jU hp;have ha:=kQ hf h2;have g:=y7 (pos:=p) (by rw[T'.N];exact jv h1) (tW T' t) d1 d2;clear h l r s A h2;unfold XN at h3;split at h3
   .rename_i A;obtain⟨rfl,n⟩:=A;cases h3;obtain⟨u,rfl⟩:=List.length_eq_one_iff.mp n;obtain⟨e,rfl,B,w⟩:=ha.one;have d:aL [e] X.env=(J,eval e X.env)::aL [] X.env:=cP B;exact Ep (by simp) (by simp) (by simp) Ut (yY (ET wR wg PySem.F.type_list_append Hq g ha.sf W (by rw[d];rfl) j d W) W)
   split at h3
   .rename_i A;obtain⟨rfl,n⟩:=A;cases h3
    match E,n,ha with
    |[u,z],_,ha=>
      obtain⟨a,b,rfl,B,o,_,_⟩:=ha.two;have d:aL [a,b] X.env=(J,eval a X.env)::aL [b] X.env:=cP B;have k:aL [b] X.env=(J,eval b X.env)::aL [] X.env:=cP o;exact Ep (by simp) (by simp) (by simp) Us (yY (ET wR wc PySem.F.type_list_insert Ho g ha.sf W (by rw[d,k];rfl) j d (by rw[k];rfl)) W)
   .cases h3
theorem QX(T':qb G C S X)(top:S.top=U)(nd:S.N.Nodup):∀(n:T)(st:l9)(y:Sx),cS G S n st=Y y->SS X C st y
 |0,_,_,h=>by cases h
 |n+1,st,y,h=>by
   have k:=λe x(h:cE G n S e=Y x)=>yk n S e x h X T';have hf:=λe x h=>(k e x h).1;have B:=QX T' top nd n
   cases st with
   |Return v p=>exact PV T' hf h
   |Assign l e p=>
     obtain⟨t,h1,i⟩:=c9 h;obtain rfl:=hZ h1;exact P2 T' top nd i
   |Expr e p=>exact PZ T' hf h
   |If c a b p=>
     obtain⟨D,i⟩:=cG h;obtain⟨u,h1,rfl⟩:=dY i;exact Wb ((k _ _ h1).2 D) (jt B _) (jt B _)
   |For tg iter body m p=>
     obtain⟨o,i⟩:=cG h;obtain rfl:=iN.mp o;obtain⟨⟨one,F⟩,h0,q⟩:=c9 i;obtain⟨f,r⟩:=cG q;rw[au]at f;obtain⟨l,h1,s⟩:=c9 r;obtain⟨it,h2,rfl⟩:=dY s;obtain⟨g,d,j⟩:=Jj T' top nd h0 f.1 h1;obtain⟨k1,k2⟩:=Q2 T' hf h2;have hp:Ij (aB X.prog X.w) X.A X.env X.xe:=by rw[T'.xe];exact PassesOwn.never
     cases it with
     |itv a=>exact NB hp T'.calm (k2 a W) j d (jt B _) (jW f.2)
     |rng E=>exact yQ hp T'.calm k1 (λa z=>nomatch z) j d (jt B _) (jW f.2)
     |zip E=>exact yQ hp T'.calm k1 (λa z=>nomatch z) j d (jt B _) (jW f.2)
     |enu a=>exact yQ hp T'.calm k1 (λa z=>nomatch z) j d (jt B _) (jW f.2)
     |rev a=>exact yQ hp T'.calm k1 (λa z=>nomatch z) j d (jt B _) (jW f.2)
   |_=>cases h
end
structure Df where
 st:l9
 p:T
 n:T
 body:O Sx
noncomputable def Df.name(d:Df):bw:=match d.st with
 |.FunctionDef x _ _ _ _ _ _ _ _ _=>x
 |_=>""
def Df.ps(d:Df):O bw:=(zz d.st).args.map λa=>a.arg
def Df.N(d:Df):O bw:=d.ps++((dF d.st).names.filterMap λp=>if(p.2 == .local || p.2 == .cell) && !(d.ps.contains p.1)then Y p.1 else L)
def Cn(D:O Df):T->Fs
 |0=>λ_ _=>L
 | n+1=>λj a=>match D[j]? with
   |some d=>LG (Cn D n) d.p d.n d.body a
   |none=>L
def NT(D:O Df)(con:O (bw×Dat)):Sg:=⟨D.map λd=>(d.name,d.p),con⟩
structure Vs(G:Sg)(d:Df):Prop where
 sc:qR d.N d.ps (dF d.st)
 pn:Z d.ps=d.p
 nn:Z d.N=d.n
 cmp:xG (cS G ⟨d.N,(dF d.st).names,U⟩ 40) (o4 d.st)=d.body
section
variable{K:Fg}{mg:bw->a5 ag}{base:cg}
structure At(K:Fg)(mg:bw->a5 ag)(d:Df)(f:aC)(fd:ig):Prop where
 fn:Yx K d.name d.name d.st f fd
 mgf:mg d.name=Y (.ref f)
 bd:∀us:O ag,Z us=Z d.ps->nT fd ⟨us,[]⟩=pure (d.ps.zip us)
def Wo(K:Fg)(d:Df):a5 (aC×ag×a5 aC×ig×eb (a5 ag)):=match ni K ek d.name with
 | some (Y (.ref f))=>match K.lookup f with
   |some ⟨oc,od,.func a,l⟩=>Y (f,oc,od,a,l)
   |_=>L
 |_=>L
def fnK(d:Df)(kV doc pm:ag)(an:a5 aC)(cdv ct:ag):ig:=qe d.name d.name (zz d.st) (o4 d.st) (dF d.st) .none kV doc pm an cdv ct
def Z7(K:Fg)(d:Df):a7:=match Wo K d with
 |some x=>um K x.2.2.2.1.code d.name && fj K (.ref x.1)
 |none=>J
def Z6(K:Fg)(d:Df):a5 ig:=(Wo K d).map λx=>x.2.2.2.1
def Z5(K:Fg)(d:Df):a5 ig:=(Wo K d).map λx=>fnK d x.2.2.2.1.kwdefaults x.2.2.2.1.doc x.2.2.2.1.pyModule x.2.2.2.1.annotations x.2.2.2.1.code x.2.2.2.1.closureTuple
set_option tactic.hygienic true in
theorem Vh{D:O Df}(X:K.In h)(G:h.Ns ek mg)(h1:D.map (Z6 K)=D.map (Z5 K))(h2:D.all (Z7 K)=U)(h3:∀(kV doc pm:ag) (an:a5 aC) (cdv ct:ag) (u:T->ag),D.map (λd=>nT (fnK d kV doc pm an cdv ct) ⟨(aJ d.ps.length).map u,[]⟩)=D.map λd=>pure (d.ps.zip ((aJ d.ps.length).map u))) :
  ∀d∈D,∃f o,At K mg d f o:=λd hd=>by
 have j:=sG.mp h1 d hd;have k:=aI.mp h2 d hd;unfold Z7 at k;unfold Z6 Z5 at j
 cases e:Wo K d with
 |none=>rw[e]at k;cases k
 |some x=>
   obtain⟨f,oc,od,o,l⟩:=x;rw[e]at j k;have j :=bb j;unfold Wo at e;split at e
   .rename_i m a;split at e
    .rename_i b;refine ac λ_ c=>?_;cases e;refine c ?_;refine⟨f,o,⟨⟨_,_,_,_,_,_,_,_,_,j,b,(iu.mp k).1⟩,(iu.mp k).2⟩,MD X G a,λus g=>?_⟩;have:=sG.mp (h3 o.kwdefaults o.doc o.pyModule o.annotations o.code o.closureTuple λi=>us.getD i .none) d hd
     have q:(aJ d.ps.length).map (λi=>us.getD i .none)=us:=by
      refine fu (by rw[ah,bM,g]) λi h1 h2=>?_;rw[nN,qW,cz,ae h2];rfl
     rw[q]at this;exact(dy (λz=>nT z _) j).trans this
    .cases e
   .cases e
structure Here(K:Fg)(mg:bw->a5 ag)(D:O Df)(con:O (bw×Dat)):Prop where
 ok:∀d∈D,Vs (NT D con) d
 fn:∀d∈D,∃f fd,At K mg d f fd
 blt:∀x∈lI,mg x=L
 con:∀x d,con.lookup x=Y d->∃v u,mg x=Y u/\RelV v u/\CV K d v
theorem Mu{D:O Df}{con:O (bw×Dat)}(T':Here K mg D con):∀(n j:T)(d:Df)(f:aC)(t:ig),D[j]?=Y d->At K mg d f t->nH P w K mg base Ic n f t d.ps (RO K d.ps.length (Cn D n j))
 |0,j,d,f,t,c,_=>by
   have l:∀vs H Q E,¬RO K d.ps.length (Cn D 0 j) vs H Q E:=λvs H Q E h=>by
    obtain⟨_,r,z,fr,h,_⟩:=h;cases h
   exact⟨λvs H Q E h=>absurd h (l vs H Q E),λA outer s H args us vs Q E _ _ _ _ h=>absurd h (l vs H Q E)⟩
 |n+1,j,d,f,t,c,at_=>by
   have ok:=T'.ok d (aX c)
   have e:Cn D (n+1) j=LG (Cn D n) d.ps.length d.N.length d.body:=by
    funext r;simp only[Cn,c,ok.pn,ok.nn]
   rw[e];refine UC at_.fn ok.sc (by have:=dy jo ok.sc.pre;rw[eF]at this;exact ab (af this.symm) (iP _ _)) λcdv A outer s H E o=>?_
   have S:qb (NT D con) (Cn D n) ⟨d.N,(dF d.st).names,U⟩ (BG Ic P w K mg base d.N d.name (dF d.st) f cdv A outer s H E).VA:=by
    refine⟨W,W,ok.sc.kind,W,?_,W,λ_ _=>W,λi x m hi=>?_,T'.blt,T'.con⟩
    .show(A.deeper _).units+21<cO;exact rT o.units
    .have k:∃g,D[i]?=Y g/\x=g.name/\m=Z g.ps:=by
      unfold NT at hi;rw[aV]at hi;obtain⟨g,p,u⟩:=dY hi;cases u;exact⟨g,p,W,(T'.ok g (aX p)).pn.symm⟩
     obtain⟨g,p,rfl,rfl⟩:=k;obtain⟨q,b,a⟩:=T'.fn g (aX p);exact⟨n,q,b,g.ps,Mu T' n i g q b p a,o,a.mgf,a.fn.kp,.all a.bd⟩
   exact ok.cmp▸jt (QX S W ok.sc.nd 40) _
def Js(K:Fg):Sp:=λvs H Q _=>∃(a:aC) (ns:O dc),vs=[.ref a]/\pv K H a (ns.map V.int)/\Z ns<=63/\∀b,Q (.bl U) b
def Hc(ns:O dc):cB K F (ns.map Dat.int) (ns.map V.int):=by
 induction ns with
 |nil=>exact rfl
 |cons n r a=>exact⟨_,_,W,W,a⟩
def T4{D:O Df}{con:O (bw×Dat)}(T':Here K mg D con)(B:D[j]?=Y d)(at_:At K mg d f fd)(hp:Z d.ps=1)
  (c:∀ns:O dc,Z ns<=63->∃fr,Cn D n j [.lst (ns.map Dat.int)]=Y (.bl U,fr)):nH P w K mg base Ic n f fd d.ps (Js K):=
 nH.imp (Mu T' n j d f fd B at_) λvs H Q E g=>by
  obtain⟨a,ns,e,b,hl,q⟩:=g;subst e;obtain⟨fr,h⟩:=c ns hl;refine⟨by rw[hp];rfl,_,_,fr,h,H,⟨cc.refl _,λ_ _ z=>z⟩,⟨_,_,W,⟨a,_,W,b,Hc ns⟩,W⟩,λv k i _ r _=>?_⟩;rw[show v=.bl U from r];exact q i
def TZ{D:O Df}{con:O (bw×Dat)}{l:iV}(T':Here K mg D con)(b:D[j]?=Y d)(B:d.ps=[x])(t:mg d.name=Y (.ref y))
  (c:∀ns:O dc,Z ns<=63->∃fr,Cn D n j [.lst (ns.map Dat.int)]=Y (.bl U,fr)) :
  ∃o:ig,(∀(s:ao)(u:ag),wo s o ⟨[u],[]⟩ [(x,u)])/\∀base:cg,K.In base->base.Ns ek mg->nH l.prog w K mg base Ic n y o [x] (Js K):=by
 refine ac λ_ a=>?_;obtain⟨f,o,at_⟩:=T'.fn d (aX b);have e:=t.symm.trans at_.mgf
 cases e;refine a ?_;refine⟨o,λs u=>?_,λbase _ _=>?_⟩
 .have:=at_.bd [u] (by rw[B];rfl)
  rw[B]at this;exact .of_eq this
 .have:=T4 (P:=l.prog) (w:=w) (base:=base) T' b at_ (by rw[B];rfl) c
  simp_all
def walk{l:iV}{d:DefRec}{K:Params->Fg}(c:l.most=Y 63)(y:mY n l_)(B:d.params.defaults=[])
  (e:∀(w:cT)(h:cg),C w h->(K w.params).In h)
  (F:∀(w:cT)(mg:bw->a5 ag)(o:aC)(h:cg),(K w.params).In h->h.Ns ek mg->mg d.name=Y (.ref o)->
   ∃t:ig,(∀(s:ao)(u:ag),wo s t ⟨[u],[]⟩ [(x,u)])/\∀base:cg,(K w.params).In base->base.Ns ek mg->nH l.prog w (K w.params) mg base Ic n o t [x] (Js (K w.params))) :
  v9 q loose I C l.row.toRowW d [] (λf vs=>Gh f vs):=
 L2.Ng c iF B y e F (λ_ _ a ns hl _ b=>⟨a,ns,W,b,hl,λ_=>W⟩) λ_ _ _ _ _ z=>z
end
def P4{K:Fg}(X:K.In h)(G:h.Ns ek mg)(z:lI.map (λx=>ni K ek x)=eO 20 (Y L)):∀x∈lI,mg x=L:=λx a=>by
 have q:ni K ek x∈lI.map (λx=>ni K _ x):=aP.mpr ⟨x,a,W⟩;rw[z]at q;exact PySem.W.mg_none_of X G (List.eq_of_mem_replicate q)
def dfL(G:Sg)(d:Df):ScopeKind×a7×a7×a7×T×T×O Sx:=((dF d.st).kind,(dF d.st).isCoroutine,(dF d.st).isGenerator,decide (d.N.Nodup/\(∀x∈d.ps,(dF d.st).names.lookup x=Y .local\/(dF d.st).names.lookup x=Y .cell)/\∀y∈(dF d.st).names,y.2≠.free),d.ps.length,d.N.length,xG (cS G ⟨d.N,(dF d.st).names,U⟩ 40) (o4 d.st))
def Tt{G:Sg}{D:O Df}(h:D.map (dfL G)=D.map λd=>(.function,J,J,U,d.p,d.n,d.body)):∀d∈D,Vs G d:=λd hd=>by
 have e:=sG.mp h d hd;unfold dfL at e;simp only[wq]at e;obtain⟨j,k,l,f,e5,g,i⟩:=e;obtain⟨a,b,c⟩:=ea f;exact⟨⟨j,k,l,a,List.take_left' W,b,c⟩,e5,g,i⟩
end M
namespace K11
open PySem L2 M
noncomputable def top(i:T):l9:=PySem.Challenge.pw_dots_k11_whole_every_text_has_a_writing.main.body.getD i (.Pass ⟨0,0,0,0⟩)
def b0:O Sx:=[.ret (.comp 1 U [0] (.rng [.e_ 1,.e_ 7]) [.cmp .eq (.bin .band (.bin .shr (.v 1) (.bin .sub (.v 0) (.e_ 1))) (.e_ 1)) (.e_ 1)] (.v 0))]
def b1:O Sx:=[.set 1 (.e_ 0),.loop U [2] (.itv (.v 0)) [.set 1 (.bin .bor (.v 1) (.bin .shl (.e_ 1) (.bin .sub (.v 2) (.e_ 1))))],.uV 1]
def b2:O Sx:=[.ret (.and (.blt (.isi .int) [.v 0]) (.and (.not (.blt (.isi .bool) [.v 0])) (.MR .le .le (.e_ 1) (.v 0) (.e_ 63))))]
def b3:O Sx:=[.ifs (.cmp .eq (.v 0) (.e_ 0)) [.ret (.f_ "0")] [],.ret (.gG .join (.f_ "") [.comp 1 U [] (.itv (.call 0 [.v 0])) [] (.blt .str [.v 0])])]
def b4:O Sx:=[.ret (.gG .join (.f_ " ") [.comp 1 U [] (.itv (.v 0)) [] (.call 3 [.v 0])])]
def b5:O Sx:=[.set 1 (.call 1 [.comp 1 U [] (.itv (.v 0)) [.cmp .isin (.v 0) (.f_ "123456")] (.blt .int [.v 0])]),.ret (.ite (.cmp .eq (.call 3 [.v 1]) (.v 0)) (.v 1) (.con .non))]
def b6:O Sx:=[.ifs (.cmp .eq (.v 0) (.f_ "")) [.ret (.tup [])] [],.set 1 (.comp 1 U [] (.itv (.gG .split (.v 0) [.f_ " "])) [] (.call 5 [.v 0])),.ret (.ite (.cmp .isin (.con .non) (.v 1)) (.con .non) (.blt .tuple [.v 1]))]
def b7:O Sx:=[.ret (.and (.MR .le .le (.v 1) (.blt .len [.v 0]) (.v 2)) (.blt .all [.comp 1 U [] (.itv (.v 0)) [] (.call 2 [.v 0])]))]
def b8:O Sx:=[.ret (.and (.MR .le .le (.e_ 1) (.blt .len [.v 0]) (.e_ 6)) (.blt .all [.comp 1 U [] (.itv (.v 0)) [] (.cmp .isin (.v 0) (.f_ "abcdefghijklmnopqrstuvwxyz"))]))]
def b9:O Sx:=[.ret (.and (.cmp .ne (.v 0) (.f_ "")) (.cmp .eq (.v 0) (.gG .join (.f_ "") [.comp 1 U [0] (.itv (.f_ "wbme")) [.cmp .isin (.v 0) (.v 1)] (.v 0)])))]
def b10:O Sx:=[.ret (.and (.call 8 [.ix (.v 0) (.e_ 0)]) (.and (.call 7 [.ix (.v 0) (.e_ 1),.e_ 1,.e_ 4]) (.call 9 [.ix (.v 0) (.e_ 2)])))]
def b11:O Sx:=[.ret (.gG .join (.f_ "") [.blt .sset [.gG .join (.f_ "") [.comp 1 U [] (.itv (.v 0)) [] (.ix (.v 0) (.e_ 0))]]])]
def b12:O Sx:=[.ifs (.cmp .eq (.blt .len [.v 0]) (.e_ 0)) [.yP] [],.ifs (.cmp .gt (.blt .len [.v 0]) (.e_ 24)) [.yP] [],.loop J [1,2] (.enu (.v 0)) [.ifs (.not (.call 10 [.v 2])) [.yP] []]]
def b13:O Sx:=[.set 1 .LY,.loop J [2,3] (.enu (.v 0)) [.set 4 (.tup [.ix (.v 3) (.e_ 0),.ix (.v 3) (.e_ 1)]),.ifs (.cmp .isin (.v 4) (.v 1)) [.yP] [],.mut .dput 1 [.con (.bl U),.v 4]]]
def b14:O Sx:=[.loop J [2,3] (.enu (.v 0)) [.ifs (.not (.call 7 [.v 3,.e_ 0,.e_ 2])) [.yP] []],.ifs (.not (.call 7 [.v 1,.e_ 0,.blt .len [.f_ "0123456789"]])) [.yP] [],.ifs (.and (.cmp .ne (.ix (.v 0) (.e_ 1)) (.tup [])) (.cmp .eq (.ix (.v 0) (.e_ 0)) (.tup []))) [.yP] [],.loop U [2] (.itv (.tup [.e_ 2,.e_ 3])) [.ifs (.cmp .ne (.cmp .eq (.ix (.v 0) (.v 2)) (.tup [])) (.cmp .eq (.v 1) (.tup []))) [.yP] []]]
def b15:O Sx:=[.set 1 (.comp 1 U [] (.itv (.v 0)) [.cmp .eq (.ix (.v 0) (.e_ 2)) (.f_ "wbme")] (.ix (.v 0) (.e_ 0))),.loop U [2] (.itv (.call 11 [.v 0])) [.ifs (.cmp .nin (.v 2) (.v 1)) [.yP] []]]
def b16:O Sx:=[.set 3 (.tup [.blt .tuple [.v 0],.blt .tuple [.comp 1 U [] (.itv (.v 1)) [] (.blt .tuple [.v 0])],.blt .tuple [.v 2]]),.exp (.call 12 [.ix (.v 3) (.e_ 0)]),.exp (.call 13 [.ix (.v 3) (.e_ 0)]),.exp (.call 14 [.ix (.v 3) (.e_ 1),.ix (.v 3) (.e_ 2)]),.exp (.call 15 [.ix (.v 3) (.e_ 0)]),.uV 3]
def b17:O Sx:=[.set 1 (.call 11 [.ix (.v 0) (.e_ 0)]),.set 2 (.ite (.cmp .eq (.ix (.ix (.v 0) (.e_ 1)) (.e_ 0)) (.tup [])) (.f_ "") (.gG .upper (.v 1) [])),.set 3 (.sl (.f_ "0123456789") L (Y (.blt .len [.ix (.v 0) (.e_ 2)]))),.ret (.gG .join (.f_ "") [.blt .sorted [.bin .add (.bin .add (.bin .add (.f_ " ") (.v 3)) (.v 2)) (.v 1)]])]
def b18:O Sx:=[.set 2 (.call 17 [.v 0]),.ret (.blt .all [.comp 1 U [2] (.itv (.v 1)) [] (.cmp .isin (.v 0) (.v 1))])]
def b19:O Sx:=[.ret (.cmp .isin (.v 0) (.con (.tup [.str (aa "out"),.str (aa "done"),.str (aa "num")])))]
def b20:O Sx:=[.ret (.comp 1 U [] (.itv (.tup [.f_ "out",.f_ "done",.f_ "num"])) [] (.tup [.v 0,.f_ " ",.tup [.e_ 0],.f_ "out"]))]
def ZO:O Sx:=[.ifs (.cmp .eq (.v 1) (.tup [])) [.ret (.lst [])] [],.set 2 (.lst [.tup [.f_ "num",.f_ "",.ix (.v 0) (.e_ 3),.f_ "let"]]),.loop J [3,4] (.zip [.f_ "0123456789",.v 1]) [.mut .app 2 [.tup [.f_ "out",.v 3,.bin .add (.ix (.v 0) (.e_ 2)) (.tup [.v 4]),.f_ "num"]],.mut .app 2 [.tup [.f_ "done",.v 3,.bin .add (.ix (.v 0) (.e_ 2)) (.tup [.v 4]),.f_ "num"]],.mut .app 2 [.tup [.f_ "num",.v 3,.tup [.v 4],.f_ "num"]]],.uV 2]
def b22:O Sx:=[.set 1 (.lst []),.loop J [2,3,4] (.itv (.v 0)) [.loop J [5,6,7] (.itv (.con (.tup [.tup [.str (aa "w"),.str (aa "out"),.str (aa "done")],.tup [.str (aa "w"),.str (aa "let"),.str (aa "done")],.tup [.str (aa "b"),.str (aa "out"),.str (aa "in")],.tup [.str (aa "b"),.str (aa "let"),.str (aa "in")],.tup [.str (aa "m"),.str (aa "in"),.str (aa "in")],.tup [.str (aa "e"),.str (aa "in"),.str (aa "done")]]))) [.ifs (.cmp .isin (.v 5) (.v 4)) [.mut .app 1 [.tup [.v 6,.v 2,.v 3,.v 7]]] []]],.uV 1]
def b23:O Sx:=[.ret (.comp 4 J [1] (.itv (.v 0)) [] (.tup [.v 0,.bin .add (.gG .upper (.ix (.v 1) (.e_ 0)) []) (.sl (.v 1) (Y (.e_ 1)) L),.bin .add (.v 4) (.v 2),.v 3]))]
def b24:O Sx:=[.set 2 (.lst []),.loop J [3,4,5] (.itv (.v 0)) [.loop J [6,7,8] (.itv (.con (.tup [.tup [.str (aa "w"),.str (aa "out"),.str (aa "done")],.tup [.str (aa "w"),.str (aa "let"),.str (aa "done")],.tup [.str (aa "b"),.str (aa "out"),.str (aa "all")],.tup [.str (aa "b"),.str (aa "let"),.str (aa "all")],.tup [.str (aa "m"),.str (aa "all"),.str (aa "all")],.tup [.str (aa "e"),.str (aa "all"),.str (aa "done")]]))) [.ifs (.and (.cmp .isin (.v 6) (.v 5)) (.or (.cmp .ne (.v 6) (.f_ "w")) (.cmp .gt (.blt .len [.v 3]) (.e_ 1)))) [.set 9 (.ite (.cmp .eq (.v 7) (.f_ "all")) (.tup []) (.v 1)),.mut .app 2 [.tup [.v 7,.gG .upper (.v 3) [],.bin .add (.v 9) (.v 4),.v 8]]] []]],.uV 2]
def b25:O Sx:=[.set 1 (.ix (.v 0) (.e_ 0)),.set 2 (.ix (.v 0) (.e_ 1)),.set 3 (.call 22 [.v 1]),.ifs (.cmp .ne (.ix (.v 2) (.e_ 0)) (.tup [])) [.set 3 (.bin .add (.v 3) (.call 23 [.v 3,.ix (.v 2) (.e_ 0)]))] [],.ifs (.cmp .ne (.ix (.v 2) (.e_ 1)) (.tup [])) [.set 3 (.bin .add (.v 3) (.call 24 [.v 1,.ix (.v 2) (.e_ 1)]))] [],.ifs (.cmp .eq (.ix (.v 0) (.e_ 2)) (.tup [])) [.set 3 (.comp 1 U [] (.itv (.v 3)) [.cmp .ne (.ix (.v 0) (.e_ 0)) (.f_ "let")] (.v 0))] [],.ret (.blt .sset [.bin .add (.bin .add (.v 3) (.call 20 [])) (.call 21 [.v 2,.ix (.v 0) (.e_ 2)])])]
def b26:O Sx:=[.ret (.gG .join (.f_ " ") [.lst [.con (.str (aa "form")),.ix (.v 0) (.e_ 0),.ix (.v 0) (.e_ 2),.call 4 [.ix (.v 0) (.e_ 1)]]])]
def b27:O Sx:=[.set 1 (.comp 1 U [] (.itv (.ix (.v 0) (.e_ 0))) [] (.call 26 [.v 0])),.loop J [2,3] (.zip [.sl (.con (.tup [.str (aa "form"),.str (aa "great"),.str (aa "all"),.str (aa "number"),.str (aa "letter"),.str (aa "figures")])) (Y (.e_ 1)) L,.bin .add (.ix (.v 0) (.e_ 1)) (.tup [.ix (.v 0) (.e_ 2)])]) [.ifs (.cmp .ne (.v 3) (.tup [])) [.mut .app 1 [.bin .add (.bin .add (.v 2) (.f_ " ")) (.call 4 [.v 3])]] []],.uV 1]
def b28:O Sx:=[.ifs (.cmp .lt (.blt .len [.v 0]) (.e_ 3)) [.ret (.con .non)] [],.set 1 (.call 6 [.gG .join (.f_ " ") [.sl (.v 0) (Y (.e_ 2)) L]]),.ifs (.cmp .isn (.v 1) (.con .non)) [.ret (.con .non)] [],.set 2 (.tup [.ix (.v 0) (.e_ 0),.v 1,.ix (.v 0) (.e_ 1)]),.ret (.ite (.call 10 [.v 2]) (.v 2) (.con .non))]
def b29:O Sx:=[.set 2 (.call 6 [.gG .join (.f_ " ") [.v 0]]),.ret (.ite (.and (.cmp .nisn (.v 2) (.con .non)) (.call 7 [.v 2,.e_ 1,.v 1])) (.v 2) (.con .non))]
def ZN:O Sx:=[.set 1 (.gG .split (.v 0) [.f_ " "]),.ifs (.cmp .nin (.ix (.v 1) (.e_ 0)) (.con (.tup [.str (aa "form"),.str (aa "great"),.str (aa "all"),.str (aa "number"),.str (aa "letter"),.str (aa "figures")]))) [.ret (.con .non)] [],.ifs (.cmp .eq (.ix (.v 1) (.e_ 0)) (.con (.str (aa "form")))) [.set 2 (.call 28 [.sl (.v 1) (Y (.e_ 1)) L])] [.set 2 (.call 29 [.sl (.v 1) (Y (.e_ 1)) L,.ite (.cmp .eq (.ix (.v 1) (.e_ 0)) (.con (.str (aa "figures")))) (.blt .len [.f_ "0123456789"]) (.e_ 2)])],.ret (.ite (.cmp .isn (.v 2) (.con .non)) (.con .non) (.tup [.gG .tindex (.con (.tup [.str (aa "form"),.str (aa "great"),.str (aa "all"),.str (aa "number"),.str (aa "letter"),.str (aa "figures")])) [.ix (.v 1) (.e_ 0)],.v 2]))]
def b31:O Sx:=[.set 1 (.lst []),.set 2 (.lst [.tup [],.tup [],.tup [],.tup [],.tup []]),.set 3 (.e_ 0),.loop J [4,5] (.enu (.v 0)) [.set 6 (.call 30 [.v 5]),.ifs (.or (.cmp .isn (.v 6) (.con .non)) (.cmp .lt (.ix (.v 6) (.e_ 0)) (.v 3))) [.yP] [],.ifs (.cmp .eq (.ix (.v 6) (.e_ 0)) (.e_ 0)) [.mut .app 1 [.ix (.v 6) (.e_ 1)]] [.mut .seti 2 [.ix (.v 6) (.e_ 1),.bin .sub (.ix (.v 6) (.e_ 0)) (.e_ 1)],.set 3 (.bin .add (.ix (.v 6) (.e_ 0)) (.e_ 1))]],.ret (.call 16 [.v 1,.sl (.v 2) L (Y (.e_ 4)),.ix (.v 2) (.e_ 4)])]
def b32:O Sx:=[.set 3 (.e_ 0),.ifs (.cmp .gt (.blt .len [.v 0]) (.e_ 0)) [.set 3 (.bin .mod (.ix (.v 0) (.bin .mod (.v 1) (.blt .len [.v 0]))) (.e_ 2147483629))] [],.ret (.bin .mod (.bin .mod (.bin .mul (.bin .mod (.bin .mul (.bin .add (.v 3) (.e_ 1)) (.bin .add (.bin .mul (.bin .mul (.e_ 31) (.v 1)) (.v 1)) (.e_ 7919))) (.e_ 2147483647)) (.e_ 48271)) (.e_ 2147483629)) (.v 2))]
def b33:O Sx:=[.ret (.blt .tuple [.comp 1 U [3,1,0] (.rng [.v 2]) [] (.bin .add (.e_ 1) (.call 32 [.v 3,.bin .add (.v 2) (.v 0),.v 1]))])]
def b34:O Sx:=[.ret (.gG .join (.f_ "") [.comp 1 U [0] (.rng [.e_ 4]) [.cmp .eq (.bin .band (.bin .shr (.v 1) (.v 0)) (.e_ 1)) (.e_ 1)] (.ix (.f_ "wbme") (.v 0))])]
def ZM:O Sx:=[.set 3 (.call 32 [.v 0,.bin .add (.v 1) (.e_ 1),.e_ 26]),.set 4 (.ix (.lst [.e_ 1,.e_ 3,.e_ 5,.e_ 7]) (.call 32 [.v 0,.bin .add (.v 1) (.e_ 2),.e_ 4])),.set 5 (.ix (.lst [.e_ 1,.e_ 2,.e_ 2,.e_ 3,.e_ 3,.e_ 6]) (.call 32 [.v 0,.bin .add (.v 1) (.e_ 3),.e_ 6])),.set 7 (.comp 1 U [3,4] (.rng [.v 5]) [] (.ix (.f_ "abcdefghijklmnopqrstuvwxyz") (.bin .mod (.bin .add (.v 1) (.bin .mul (.v 2) (.v 0))) (.e_ 26)))),.set 8 (.lst []),.loop U [6] (.rng [.v 5]) [.set 9 (.bin .add (.e_ 1) (.bin .fdiv (.call 32 [.v 0,.bin .add (.bin .add (.v 1) (.e_ 10)) (.v 6),.e_ 5]) (.e_ 4))),.mut .app 8 [.tup [.ix (.v 7) (.v 6),.call 33 [.v 0,.bin .add (.bin .add (.v 1) (.e_ 20)) (.bin .mul (.e_ 5) (.v 6)),.v 9,.v 2],.f_ "wbme"]]],.loop U [6] (.rng [.call 32 [.v 0,.bin .add (.v 1) (.e_ 4),.e_ 5]]) [.set 10 (.bin .add (.bin .add (.v 1) (.e_ 60)) (.bin .mul (.e_ 15) (.v 6))),.set 11 (.gG .join (.f_ "") [.comp 1 U [10,7,5,0] (.rng [.bin .add (.e_ 1) (.call 32 [.v 0,.bin .add (.v 10) (.e_ 4),.e_ 3])]) [] (.ix (.v 2) (.call 32 [.v 4,.bin .add (.v 1) (.v 0),.v 3]))]),.set 12 (.call 33 [.v 0,.bin .add (.v 10) (.e_ 5),.ix (.lst [.e_ 1,.e_ 1,.e_ 2,.e_ 4]) (.call 32 [.v 0,.bin .add (.v 10) (.e_ 9),.e_ 4]),.v 2]),.set 13 (.tup [.v 11,.v 12,.call 34 [.bin .add (.e_ 1) (.call 32 [.v 0,.bin .add (.v 10) (.e_ 10),.e_ 15])]]),.ifs (.cmp .nin (.sl (.v 13) L (Y (.e_ 2))) (.comp 1 U [] (.itv (.v 8)) [] (.sl (.v 0) L (Y (.e_ 2))))) [.mut .ins 8 [.call 32 [.v 0,.bin .add (.v 10) (.e_ 11),.bin .add (.blt .len [.v 8]) (.e_ 1)],.v 13]] []],.uV 8]
def ZL:O Sx:=[.set 3 (.lst [.tup [],.tup [],.tup [],.tup []]),.set 4 (.tup []),.ifs (.cmp .eq (.call 32 [.v 0,.v 1,.e_ 4]) (.e_ 1)) [.mut .seti 3 [.call 33 [.v 0,.bin .add (.v 1) (.e_ 1),.bin .add (.e_ 1) (.call 32 [.v 0,.bin .add (.v 1) (.e_ 3),.e_ 2]),.v 2],.e_ 0],.ifs (.cmp .eq (.call 32 [.v 0,.bin .add (.v 1) (.e_ 4),.e_ 2]) (.e_ 1)) [.mut .seti 3 [.call 33 [.v 0,.bin .add (.v 1) (.e_ 5),.bin .add (.e_ 1) (.call 32 [.v 0,.bin .add (.v 1) (.e_ 7),.e_ 2]),.v 2],.e_ 1]] []] [],.ifs (.cmp .eq (.call 32 [.v 0,.bin .add (.v 1) (.e_ 8),.e_ 4]) (.e_ 1)) [.mut .seti 3 [.call 33 [.v 0,.bin .add (.v 1) (.e_ 9),.bin .add (.e_ 1) (.call 32 [.v 0,.bin .add (.v 1) (.e_ 11),.e_ 2]),.v 2],.e_ 2],.mut .seti 3 [.call 33 [.v 0,.bin .add (.v 1) (.e_ 12),.bin .add (.e_ 1) (.call 32 [.v 0,.bin .add (.v 1) (.e_ 14),.e_ 2]),.v 2],.e_ 3],.set 4 (.call 33 [.v 0,.bin .add (.v 1) (.e_ 15),.ix (.lst [.e_ 1,.e_ 2,.e_ 3,.e_ 10]) (.call 32 [.v 0,.bin .add (.v 1) (.e_ 25),.e_ 4]),.v 2])] [],.ret (.tup [.blt .tuple [.v 3],.v 4])]
def ZK:O Sx:=[.set 2 (.ix (.lst [.e_ 4,.e_ 4,.e_ 12,.e_ 63]) (.call 32 [.v 0,.v 1,.e_ 4])),.set 3 (.call 35 [.v 0,.v 1,.v 2]),.Yg [4,5] (.call 36 [.v 0,.bin .add (.v 1) (.e_ 150),.v 2]),.ret (.tup [.blt .tuple [.v 3],.v 4,.v 5])]
def b38:O Sx:=[.set 3 (.blt .list [.v 1]),.ifs (.and (.cmp .isin (.f_ "num") (.v 1)) (.cmp .isin (.tup [.f_ "num",.f_ "",.f_ "let"]) (.v 0))) [.mut .app 3 [.f_ "let"]] [],.ret (.comp 3 J [3,2] (.itv (.v 0)) [.and (.cmp .isin (.v 0) (.v 3)) (.cmp .eq (.v 1) (.v 4))] (.v 2))]
def b39:O Sx:=[.set 1 (.call 31 [.call 27 [.call 37 [.v 0,.e_ 0]]]),.set 2 (.call 17 [.v 1]),.set 3 (.bin .mx (.bin .mn (.e_ 60) (.blt .len [.v 0])) (.call 32 [.v 0,.e_ 200,.e_ 21])),.set 4 (.gG .join (.f_ "") [.comp 1 U [0,2] (.rng [.v 3]) [] (.ix (.v 2) (.call 32 [.v 1,.bin .add (.e_ 210) (.v 0),.blt .len [.v 2]]))]),.ifs (.cmp .nisn (.call 18 [.v 1,.v 4]) (.con (.bl U))) [.ret (.con (.bl J))] [],.set 5 (.blt .sset [.comp 1 U [] (.itv (.call 25 [.v 1])) [] (.tup [.ix (.v 0) (.e_ 0),.ix (.v 0) (.e_ 1),.ix (.v 0) (.e_ 3)])]),.set 6 (.lst [.f_ "out"]),.loop U [7] (.itv (.v 4)) [.set 6 (.blt .sset [.call 38 [.v 5,.v 6,.v 7]]),.ifs (.cmp .eq (.v 6) (.lst [])) [.ret (.con (.bl J))] []],.ret (.blt .any [.comp 1 U [] (.itv (.v 6)) [] (.cmp .isn (.call 19 [.v 0]) (.con (.bl U)))])]
def d0:Df:=⟨top 2,1,1,b0⟩
def d1:Df:=⟨top 3,1,3,b1⟩
def d2:Df:=⟨top 4,1,1,b2⟩
def d3:Df:=⟨top 5,1,1,b3⟩
def d4:Df:=⟨top 6,1,1,b4⟩
def d5:Df:=⟨top 7,1,2,b5⟩
def d6:Df:=⟨top 8,1,2,b6⟩
def d7:Df:=⟨top 23,3,3,b7⟩
def d8:Df:=⟨top 24,1,1,b8⟩
def d9:Df:=⟨top 25,1,1,b9⟩
def d10:Df:=⟨top 26,1,1,b10⟩
def d11:Df:=⟨top 27,1,1,b11⟩
def d12:Df:=⟨top 28,1,3,b12⟩
def d13:Df:=⟨top 29,1,5,b13⟩
def d14:Df:=⟨top 30,2,4,b14⟩
def d15:Df:=⟨top 31,1,3,b15⟩
def d16:Df:=⟨top 32,3,4,b16⟩
def d17:Df:=⟨top 33,1,4,b17⟩
def d18:Df:=⟨top 34,2,3,b18⟩
def d19:Df:=⟨top 39,1,1,b19⟩
def d20:Df:=⟨top 40,0,0,b20⟩
def d21:Df:=⟨top 41,2,5,ZO⟩
def d22:Df:=⟨top 42,1,8,b22⟩
def d23:Df:=⟨top 43,2,2,b23⟩
def d24:Df:=⟨top 44,2,10,b24⟩
def d25:Df:=⟨top 45,1,4,b25⟩
def d26:Df:=⟨top 48,1,1,b26⟩
def d27:Df:=⟨top 49,1,4,b27⟩
def d28:Df:=⟨top 50,1,3,b28⟩
def d29:Df:=⟨top 51,2,3,b29⟩
def d30:Df:=⟨top 52,1,3,ZN⟩
def d31:Df:=⟨top 53,1,7,b31⟩
def d32:Df:=⟨top 55,3,4,b32⟩
def d33:Df:=⟨top 56,4,4,b33⟩
def d34:Df:=⟨top 57,1,1,b34⟩
def d35:Df:=⟨top 58,3,14,ZM⟩
def d36:Df:=⟨top 59,3,5,ZL⟩
def d37:Df:=⟨top 60,2,6,ZK⟩
def d38:Df:=⟨top 61,3,4,b38⟩
def d39:Df:=⟨top 62,1,8,b39⟩
def D:O Df:=[d0,d1,d2,d3,d4,d5,d6,d7,d8,d9,d10,d11,d12,d13,d14,d15,d16,d17,d18,d19,d20,d21,d22,d23,d24,d25,d26,d27,d28,d29,d30,d31,d32,d33,d34,d35,d36,d37,d38,d39]
noncomputable def con:O (bw×Dat):=[(aa "DOT_FIGURES",(.str (aa "123456"))),(aa "SMALL_LETTERS",(.str (aa "abcdefghijklmnopqrstuvwxyz"))),(aa "FIGURES",(.str (aa "0123456789"))),(aa "ALL_PLACES",(.str (aa "wbme"))),(aa "MOST_FORMS",(.int (24))),(aa "MOST_MARK_CELLS",(.int (2))),(aa "NUMBER_OF_FIGURES",(.int (4))),(aa "END_STATES",(.tup [(.str (aa "out")),(.str (aa "done")),(.str (aa "num"))])),(aa "WAYS",(.tup [(.tup [(.str (aa "w")),(.str (aa "out")),(.str (aa "done"))]),(.tup [(.str (aa "w")),(.str (aa "let")),(.str (aa "done"))]),(.tup [(.str (aa "b")),(.str (aa "out")),(.str (aa "in"))]),(.tup [(.str (aa "b")),(.str (aa "let")),(.str (aa "in"))]),(.tup [(.str (aa "m")),(.str (aa "in")),(.str (aa "in"))]),(.tup [(.str (aa "e")),(.str (aa "in")),(.str (aa "done"))])])),(aa "ALL_GREAT_WAYS",(.tup [(.tup [(.str (aa "w")),(.str (aa "out")),(.str (aa "done"))]),(.tup [(.str (aa "w")),(.str (aa "let")),(.str (aa "done"))]),(.tup [(.str (aa "b")),(.str (aa "out")),(.str (aa "all"))]),(.tup [(.str (aa "b")),(.str (aa "let")),(.str (aa "all"))]),(.tup [(.str (aa "m")),(.str (aa "all")),(.str (aa "all"))]),(.tup [(.str (aa "e")),(.str (aa "all")),(.str (aa "done"))])])),(aa "LINE_WORDS",(.tup [(.str (aa "form")),(.str (aa "great")),(.str (aa "all")),(.str (aa "number")),(.str (aa "letter")),(.str (aa "figures"))]))]
def G:Sg:=NT D con
def WL:∀d∈D,Vs G d:=Tt (by kernel_rfl)
end K11
namespace M
open PySem L2
@[simp] def Xq:full []=[]:=rfl
@[simp] def VG:full (Y (d,b)::ρ)=Y d::full ρ:=rfl
@[simp] def VH:full (L::ρ)=L::full ρ:=rfl
section
@[simp] def Vf:fF .add (.int i) (.int j)=Y (.int (i+j),J):=rfl
@[simp] def Vd:fF .sub (.int i) (.int j)=Y (.int (i - j),J):=rfl
def jY(h:0<j):fF .mod (.int i) (.int j)=Y (.int (i % j),J):=a6 h
@[simp] def Q8:fF .band (.int i) (.int j)=Y (.int (uu i j),J):=rfl
@[simp] def Ve:fF .bor (.int i) (.int j)=Y (.int (wm i j),J):=rfl
@[simp] def Yr:ef .lt (.int i) (.int j)=Y (decide (i<j)):=rfl
@[simp] def Ys:ef .le (.int i) (.int j)=Y (decide (i<=j)):=rfl
@[simp] def Yt:ef .gt (.int i) (.int j)=Y (decide (j<i)):=rfl
@[simp] def Yu:ef .ge (.int i) (.int j)=Y (decide (j<=i)):=rfl
@[simp] def VL:ef .eq (.int i) (.int j)=Y (i == j):=rfl
@[simp] def VI:ef .ne (.int i) (.int j)=Y (!(i == j)):=rfl
@[simp] def VM:ef .eq (.bl x) (.bl y)=Y (x == y):=rfl
@[simp] def VJ:ef .ne (.bl x) (.bl y)=Y (!(x == y)):=rfl
@[simp] def VW:i5 (.bl x)=Y x:=rfl
@[simp] def nF:e8 .len [.lst xs]=Y (.int xs.length,J):=rfl
@[simp] def vN:e8 .len [.tup xs]=Y (.int xs.length,J):=rfl
@[simp] def Q6:e8 .list [.lst xs]=Y (.lst xs,kd xs):=rfl
@[simp] def Q5:e8 .list [.tup xs]=Y (.lst xs,kd xs):=rfl
@[simp] def P6:e8 .tuple [.lst xs]=Y (.tup xs,J):=rfl
@[simp] def P5:e8 .tuple [.tup xs]=Y (.tup xs,J):=rfl
@[simp] def XU:e8 .listrev [.lst xs]=Y (.lst xs.reverse,kd xs.reverse):=rfl
@[simp] def XW:e8 (.isi t) [d]=Y (.bl (K8 t d),J):=rfl
@[simp] def aaf:Dz (.lst xs) (.int i)=yt xs i:=rfl
@[simp] def aae:Dz (.tup xs) (.int i)=yt xs i:=rfl
@[simp] def Z4{lo:a5 dc}:Iy (.lst xs) lo hi=Y (.lst (cutD xs lo hi),kd (cutD xs lo hi)):=rfl
@[simp] def Zr:im (.int i)=U:=rfl
@[simp] def aag:im (.bl x)=U:=rfl
@[simp] def Zo:im (.str x)=U:=rfl
@[simp] def Zp:im .non=U:=rfl
@[simp] def Zq:im (.lst xs)=J:=rfl
@[simp] def qD(ns:O dc):kd (ns.map Dat.int)=U:=by
 induction ns with
 |nil=>rfl
 |cons n r a=>show(U && kd (r.map Dat.int))=U;rw[a];rfl
@[simp] def Xp{ρ:eh}{i:T}{d:Dat}{b:a7}:full (ρ.set i (Y (d,b)))=(full ρ).set i (Y d):=by
 unfold full;rw[List.map_set];rfl
end
section
def p3{ds:O Dat}(h:Z ds=np)(B:gJ C body (ds.map (λd=>Y (d,J))++eO (nl - np) L)=Y (.rt d fr)):LG C np nl body ds=Y (d,fr):=by
 unfold LG;rw[a6 h,B];rfl
def tX(h:td C s ρ=Y (.nx ρ1)):gJ C (s::ss) ρ=gJ C ss ρ1:=by show(td C s ρ).bind _=_;rw[h];rfl
def Nu(h:td C s ρ=Y (.rt d fr)):gJ C (s::ss) ρ=Y (.rt d fr):=by show(td C s ρ).bind _=_;rw[h];rfl
def Le(h:bR C e (full ρ)=Y (d,fr))(c:i5 d=Y U):td C (.ifs e a b) ρ=gJ C a ρ:=by show(bR C e _).bind _=_;rw[h];show(i5 d).bind _=_;rw[c];rfl
def Lf(h:bR C e (full ρ)=Y (d,fr))(c:i5 d=Y J):td C (.ifs e a b) ρ=gJ C b ρ:=by show(bR C e _).bind _=_;simp_all
end
section
def p7(h1:-18446744073709551616<i)(h2:i<18446744073709551616):fF .mul (.int i) (.int j)=Y (.int (i * j),J):=a6 (.inl ⟨h1,h2⟩)
def vO(h1:-18446744073709551616<j)(h2:j<18446744073709551616):fF .mul (.int i) (.int j)=Y (.int (i * j),J):=a6 (.inr ⟨h1,h2⟩)
def BY(h1:0<j)(h2:j<1073741824):fF .fdiv (.int i) (.int j)=Y (.int (i / j),J):=a6 ⟨h1,h2⟩
def UK(h:bR C e (full ρ)=Y (d,f))(hi:(im d || f)=U):HF C e ρ=Y (d,f,ρ):=by
 unfold HF;rw[h];exact a6 hi
def FC{C:Fs}{i:T}{e:Ex}{ρ:eh}:td C (.set i e) ρ=(bR C e (full ρ)).bind λx=>if(im x.1 || x.2)=U then Y (.nx (ρ.set i (Y (x.1,x.2 && !im x.1))))else(bR C e (xg (kH e.fv ρ))).map λy=>.nx ((kH e.fv ρ).set i (Y (y.1,y.2 && !im y.1))):=by
 show(HF C e ρ).map _=_;unfold HF
 cases bR C e (full ρ)with
 |none=>rfl
 |some x=>
   show Ec _ (if(im _ || x.2)=U then _ else _)=if(im _ || x.2)=U then _ else _
   cases im _ || x.2 with
   |true=>rfl
   |false=>exact MF ..
def Pu:td C (.exp e) ρ=(bR C e (full ρ)).map λ_=>.nx ρ:=rfl
def Zz:gJ C (s::ss) ρ=(td C s ρ).bind (Wg (gJ C ss)):=rfl
section
end
def Hm{ds:O Dat}(h:Z ds<1000000):mQ .app (.lst ds) [d]=Y (.lst (ds++[d])):=a6 (by exact ab h iF)
def LF:td C (.loop one b (.rng es) body) ρ=(ug C (.rng es) (full ρ)).bind λds=>iw (gr one b) (gJ C body) ds ρ:=by
 show((ug C _ _).map _).bind _=_;cases ug C _ _<;>rfl
theorem HE:td C (.loop one b (.itv e) body) ρ=(bR C e (full ρ)).bind λx=>if(im x.1 || x.2)=U then(i6 x.1).bind λds=>iw (gr one b) (gJ C body) ds ρ
  else(bR C e (xg (kH e.fv ρ))).bind λy=>(i6 y.1).bind λds=>iw (gr one b) (gJ C body) ds (kH e.fv ρ):=by
 show((HF C e ρ).bind λx=>(i6 _).map _).bind _=_;unfold HF
 cases bR C e (full ρ)with
 |none=>rfl
 |some x=>
   refine (?_ : mj (mj (if(im _ || x.2)=U then _ else _) _) _=if(im _ || x.2)=U then _ else _)
   cases im _ || x.2 with
   |true=>refine (?_ : ((i6 x.1).map _).bind _=(i6 _).bind _);cases i6 _<;>rfl
   |false=>
     cases bR C e (xg (kH _ ρ))with
     |none=>rfl
     |some y=>refine (?_ : ((i6 y.1).map _).bind _=(i6 _).bind _);cases i6 _<;>rfl
section
def ZC:ef .eq (.str x) (.str y)=Y (x == y):=rfl
def Y8:ef .ne (.str x) (.str y)=Y (!(x == y)):=rfl
def ZA(h1:dE 19 ds=U)(h2:dE 19 b=U):ef .eq (.tup ds) (.tup b)=Y (oH ds b):=by simp only[ef,fU,h1,h2,m8,e6,mw]
def Y7(h1:dE 19 ds=U)(h2:dE 19 b=U):ef .ne (.tup ds) (.tup b)=Y (!oH ds b):=by simp only[ef,fU,h1,h2,m8,e6,mw]
end
def FH(h:bR C a ρ=Y (.bl x,f)):bR C (.and a b) ρ=if x=U then bR C b ρ else Y (.bl J,J):=by
 show(bR C a ρ).bind _=_;rw[h];rfl
def LM(h:bR C a ρ=Y (.bl x,f)):bR C (.or a b) ρ=if x=U then Y (.bl U,J)else bR C b ρ:=by
 show(bR C a ρ).bind _=_;rw[h];rfl
def FG(h:bR C c ρ=Y (d,f))(e:i5 d=Y x):bR C (.ite c a b) ρ=if x=U then bR C a ρ else bR C b ρ:=by
 show(bR C c ρ).bind _=_;simp_all
end
section
def vE:bR C (.con d) ρ=Y (d,J):=rfl
def vC:bR C (.v i) ρ=((ρ[i]?).join).map λd=>(d,J):=rfl
def vF:bR C (.bin o a b) ρ=(bR C a ρ).bind λx=>(bR C b ρ).bind λy=>fF o x.1 y.1:=rfl
def LK:bR C (.cmp o a b) ρ=(bR C a ρ).bind λx=>(bR C b ρ).bind λy=>(ef o x.1 y.1).map λr=>(.bl r,J):=rfl
def UH:bR C (.MR o e a b c) ρ=(bR C a ρ).bind λx=>(bR C b ρ).bind λy=>(ef o x.1 y.1).bind λr=>if r=U then(bR C c ρ).bind λz=>(ef e y.1 z.1).map λr=>(.bl r,J)else Y (.bl J,J):=rfl
def UE:bR C (.not a) ρ=(bR C a ρ).bind λx=>(i5 x.1).map λb=>(.bl (!b),J):=rfl
def LJ:bR C (.ite c a b) ρ=(bR C c ρ).bind λx=>(i5 x.1).bind λz=>if z=U then bR C a ρ else bR C b ρ:=rfl
def nD:bR C (.tup es) ρ=(qJ C es ρ).bind λx=>if Z x.1<=1000000 then Y (.tup x.1,x.2)else L:=rfl
def LH:bR C (.lst es) ρ=(qJ C es ρ).bind λx=>if Z x.1<=1000000 then Y (.lst x.1,x.2)else L:=rfl
def LI:bR C (.ix a b) ρ=(bR C a ρ).bind λx=>(bR C b ρ).bind λy=>(Dz x.1 y.1).map λd=>(d,J):=rfl
def QS:bR C (.sl a b c) ρ=(bR C a ρ).bind λx=>(XX C ρ b).bind λl=>(XX C ρ c).bind λh=>Iy x.1 l h:=rfl
def qI:bR C (.call f es) ρ=(lH C es ρ).bind λds=>C f ds:=rfl
def UI:bR C (.blt f es) ρ=(lH C es ρ).bind λds=>e8 f ds:=rfl
def eV:lH C (e::es) ρ=(bR C e ρ).bind λx=>(lH C es ρ).map λr=>x.1::r:=rfl
def bQ:qJ C (e::es) ρ=(bR C e ρ).bind λx=>(qJ C es ρ).map λr=>(x.1::r.1,(x.2 || im x.1) && r.2):=rfl
def FD:bR C (.gG m o es) ρ=(bR C o ρ).bind λx=>(lH C es ρ).bind λds=>fV m x.1 ds:=rfl
def Px:ug C (.itv a) ρ=(bR C a ρ).bind λx=>i6 x.1:=rfl
def Pw:ug C (.rng es) ρ=(lH C es ρ).bind JL:=rfl
def o5{ifs:O Ex}(hi:ug C it ρ=Y items)(hl:Z items<=1000000)(B:pY (oJ C b one (ja b caps ρ) ifs elt) items=Y (c,fr)) :
  bR C (.comp b one caps it ifs elt) ρ=Y (.lst c,fr):=by
 show(ug C it ρ).bind _=_
 simp_all
def yi:oJ C 1 U ρ0 [] elt d=(bR C elt (ρ0.set 0 (Y d))).map Y:=rfl
def BI{ρ0:gZ}(h:bR C i (ρ0.set 0 (Y d))=Y (x,f))(b:i5 x=Y t):oJ C 1 U ρ0 [i] elt d=if t=U then(bR C elt (ρ0.set 0 (Y d))).map Y else Y L:=by
 unfold oJ;simp only[FX,bH,vG,h,b];cases t<;>rfl
theorem vM{b:Type}{g:b->a7}:∀xs:O b,nE (xs.map λx=>Dat.bl (g x))=Y (xs.map g)
 |[]=>rfl
 |x::xs=>by simp only[ak,nE,vM xs,bW]
end
mutual
noncomputable def same:Dat->Dat->a7
 | .non,c=>match c with
   |.non=>U
   |_=>J
 | .bl a,c=>match c with
   |.bl b=>a == b
   |_=>J
 | .int i,c=>match c with
   |.int j=>i == j
   |_=>J
 | .str x,c=>match c with
   |.str y=>x == y
   |_=>J
 | .tup d,c=>match c with
   |.tup e=>uP d e
   |_=>J
 | .lst d,c=>match c with
   |.lst e=>uP d e
   |_=>J
 |_,_=>J
noncomputable def uP:O Dat->O Dat->a7
 |[],[]=>U
 |x::a,y::b=>same x y && uP a b
 |_,_=>J
end
mutual
theorem EA:∀(x y:Dat),same x y=U->x=y
 |.non,y,h=>by cases y<;>first|rfl|(simp[same]at h)
 |.bl a,y,h=>by cases y<;>first|(simp[same]at h;rw[h])|(simp[same]at h)
 |.int a,y,h=>by cases y<;>first|(simp[same]at h;rw[h])|(simp[same]at h)
 |.str a,y,h=>by cases y<;>first|(simp[same]at h;rw[h])|(simp[same]at h)
 |.tup a,y,h=>by cases y<;>first|(rw[uO _ _ h])|(simp[same]at h)
 |.lst a,y,h=>by cases y<;>first|(rw[uO _ _ h])|(simp[same]at h)
theorem uO:∀(x y:O Dat),uP x y=U->x=y
 |[],y,h=>by cases y<;>first|rfl|(simp[uP]at h)
 |x::a,y,h=>by
   cases y with
   |nil=>simp[uP]at h
   |cons y b=>
     simp[uP]at h;rw[EA _ _ h.1,uO _ _ h.2]
end
def lV:g_->g_->a7
 |some (d,b),Y (e,c)=>same d e && b == c
 |none,L=>U
 |_,_=>J
def jr(h:lV x y=U):x=y:=by
 cases x with
 |none=>cases y<;>first|rfl|(simp[lV]at h)
 |some x=>
   cases y with
   |none=>simp[lV]at h
   |some y=>
     obtain⟨d,b⟩:=x;simp[lV]at h;rw[EA _ _ h.1,h.2]
def JB{n dflt:T}{i:dc}(h0:0<=i)(h1:i<=n):HT.gC n dflt (Y i)=i.toNat:=by
 obtain⟨k,rfl⟩:=nV h0;exact gW (oi.mp h1)
def PL{b:Type}{xs:O b}{i:dc}(h0:0<=i)(h1:i<=Z xs):cutD xs (Y i) L=xs.drop i.toNat:=by
 unfold cutD;rw[JB h0 h1,HT.JC];rw[fh (by simp)]
def DY{xs b:O Dat}(h:Z xs+Z b<=1000000):fF .add (.lst xs) (.lst b)=Y (.lst (xs++b),kd (xs++b)):=a6 (qA h)
noncomputable def inter(c:T):O (O T)->O T
 |[]=>[]
 |[x]=>x
 |x::y::r=>x++c::inter c (y::r)
theorem join_list:∀ws:O bw,(tv ⟨#[c]⟩ ws).cps.toList=inter c (ws.map (·.cps.toList))
 |[]=>rfl
 |[x]=>rfl
 |x::y::r=>by
   have a:=join_list (c:=c) (y::r);show((x++(⟨#[c]⟩:bw)++tv ⟨#[c]⟩ (y::r)).cps.toList)=_;simp only[Str.cps_append,Array.toList_append,a,ak,inter];simp
theorem yg:∀{x y s t:O T},c∉x->c∉y->x++c::s=y++c::t->x=y/\s=t
 |[],[],s,t,_,_,h=>by simpa using h
 |[],b::y,s,t,_,h2,h=>by
   simp only[kU,eG,cM]at h;exact absurd (h.1▸iT) h2
 |a::x,[],s,t,h1,_,h=>by
   simp only[kU,eG,cM]at h;exact absurd (h.1▸iT) h1
 |a::x,b::y,s,t,h1,h2,h=>by
   simp only[eG,cM]at h;obtain⟨d,e⟩:=yg (λm=>h1 (kc _ m)) (λm=>h2 (kc _ m)) h.2;exact⟨by rw[h.1,d],e⟩
def xV:∀{x y:O T}{r:O (O T)},c∈inter c (x::y::r):=λ{x y r}=>by simp[inter]
theorem xW:∀{xs e:O (O T)},xs≠[]->e≠[]->(∀x∈xs,c∉x)->(∀y∈e,c∉y)->inter c xs=inter c e->xs=e
 |[],_,h,_,_,_,_=>absurd rfl h
 |_::_,[],_,h,_,_,_=>absurd rfl h
 |[x],[y],_,_,_,_,h=>by rw[show x=y from h]
 |[x],y::z::r,_,_,h1,_,h=>absurd (show c∈x by rw[show x=inter c (y::z::r)from h];exact xV) (h1 x iT)
 |x::z::r,[y],_,_,_,h2,h=>absurd (show c∈y by rw[show y=inter c (x::z::r)from h.symm];exact xV) (h2 y iT)
 |x::z::r,y::w::q,_,_,h1,h2,h=>by
   obtain⟨b,d⟩:=yg (h1 x iT) (h2 y iT) (show x++c::inter c (z::r)=y++c::inter c (w::q)from h);rw[b,xW (by simp) (by simp) (λa m=>h1 a (kc _ m)) (λa m=>h2 a (kc _ m)) d]
def qm{x y:bw}(h:x.cps.toList=y.cps.toList):x=y:=by
 cases x;cases y
 congr
 exact Array.toList_inj.mp h
theorem qw:∀{xs b:O bw},xs.map (·.cps.toList)=b.map (·.cps.toList)->xs=b
 |[],[],_=>rfl
 |[],_::_,h=>by simp at h
 |_::_,[],h=>by simp at h
 |x::xs,y::b,h=>by
   simp only[ak,cM]at h;rw[qm h.1,qw h.2]
def CP{ws:O bw}(f:ws≠[])(hf:∀w∈ws,c∉w.cps.toList):eL (eD ⟨#[c]⟩ ws) ⟨#[c]⟩=ws:=by
 have d:=StrLaws.join_split (eD ⟨#[c]⟩ ws) ⟨#[c]⟩;have e:eD ⟨#[c]⟩ ws=tv ⟨#[c]⟩ ws:=nR _ ws;have a:=dy (λz:bw=>z.cps.toList) d;rw[join_list]at a
 conv at a=>rhs;rw[e,join_list]
 refine qw (xW ?_ (by simpa using f) ?_ ?_ a)
 .have:=PyProof.Rows.split_pos (eD ⟨#[c]⟩ ws) ⟨#[c]⟩;intro z;rw[Gu]at z;rw[z]at this;simp at this
 .intro x b;obtain⟨p,hp,rfl⟩:=aP.mp b;exact StrLaws.split_free _ c p hp
 .intro x b;obtain⟨p,hp,rfl⟩:=aP.mp b;exact hf p hp
noncomputable abbrev T'(l:O T):bw:=⟨l.toArray⟩
def aat(x:bw):T' x.cps.toList=x:=rfl
def F8(a b:O T):T' a++T' b=T' (a++b):=by
 show Str.mk _=_;simp[T']
def My(h:T' a=T' b):a=b:=by
 simp_all
def Mz(a b:O T):(T' a == T' b)=decide (a=b):=by
 by_cases h:a=b
 .subst h;simp
 simp_all
def nP(a:O T):(T' a).length=a.length:=by show(a.toArray).size=_;simp
def DD:ef .isin (.str (T' [c])) (.str (T' l))=Y (decide (c∈l)):=by
 show Y _=_;rw[PySem.StrLaws.found_one _ c]
def uc:i6 (.str (T' l))=Y (l.map λc=>Dat.str (T' [c])):=by
 show Y _=_;simp[T']
def yT:dG (T' l)=l.map λc=>T' [c]:=by
 unfold dG;simp[T']
def len_T{l:O T}(h:Z l<=1000000):e8 .len [.str (T' l)]=Y (.int l.length,J):=by
 show(if(T' l).length<=aD then Y (Dat.int _,J)else L)=_;rw[nP,a6 (by exact ab h iF)]
def B0{a b:O T}(h:a.length+b.length<=1000000):fF .add (.str (T' a)) (.str (T' b))=Y (.str (T' (a++b)),J):=by
 show(if(T' a).length+(T' b).length<=aD then Y (Dat.str _,J)else L)=_;rw[a6 (by exact ab h iF),F8]
def Uk{l:O T}(hl:Z l<=1000000)(h:i<Z l):Dz (.str (T' l)) (.int (i:T))=Y (.str (T' [l[i]])):=by
 show(if(T' l).length<=aD then(yt _ _).map λc=>Dat.str ⟨_⟩else L)=_;rw[a6 (by exact ab hl iF)];rw[show yt _ _=Y l[i]from kT (by simp[h])];rfl
theorem yN:∀ws:O (O T),jM (ws.map λl=>Dat.str (T' l))=Y (ws.map T')
 |[]=>rfl
 |x::r=>by simp only[ak,jM,yN r,bW]
def Ue:∀ws:O (O T),eD (T' []) (ws.map T')=T' ws.flatten:=by
 intro ws;rw[show eD _ _=Str.join _ (ws.map T')from StrLaws.glued_eq_join _ _]
 induction ws with
 |nil=>rfl
 |cons x r a=>
   cases r with
   |nil=>show T' x=_;simp
   |cons y r=>
     show(T' x++T' []++Str.join _ _)=_;rw[a,F8,F8];simp
def Fb{ws:O (O T)}(h:(ws.map (·.length)).sum<=1000000):fV .join (.str (T' [])) [.lst (ws.map λl=>Dat.str (T' l))]=Y (.str (T' ws.flatten),J):=by
 simp only[fV,Yo,yN,bH];rw[a6,Ue];rw[nP,bo];have e:(wW ((λx:bw=>x.length) ∘ T') ws)=ws.map _:=du λl _=>nP l;rw[e];simpa using h
def ne_T(a b:O T):ef .ne (.str (T' a)) (.str (T' b))=Y (!decide (a=b)):=by
 show Y (!(T' a == T' b))=_;rw[Mz]
def UN(a b:O T):ef .eq (.str (T' a)) (.str (T' b))=Y (decide (a=b)):=by
 show Y (T' a == T' b)=_;rw[Mz]
theorem uL(k:T):∀a:O dc,dE k (a.map Dat.int)=U
 |[]=>by simp[dE]
 |a::as=>by simp[dE,fU,uL k as]
theorem yU(k:T):∀a:O bw,dE k (a.map Dat.str)=U
 |[]=>by simp[dE]
 |a::as=>by simp[dE,fU,yU k as]
def DX{xs b:O Dat}(h:Z xs+Z b<=1000000):fF .add (.tup xs) (.tup b)=Y (.tup (xs++b),J):=a6 (qA h)
end M
namespace M
open PySem L2
noncomputable def nX:O T:=[97,98,99,100,101,102,103,104,105,106,107,108,109,110,111,112,113,114,115,116,117,118,119,120,121,122]
def SMT:aa "abcdefghijklmnopqrstuvwxyz"=T' nX:=by decide +kernel
noncomputable def Ci:O T:=[119,98,109,101]
def WBT:aa "wbme"=T' Ci:=by decide +kernel
def X9:aa ""=T' []:=by decide +kernel
abbrev Fm:=O T×O dc×O T
abbrev jg(t:Fm):Dat:=.tup [.str (T' t.1),.tup (t.2.1.map Dat.int),.str (T' t.2.2)]
def Oc(h:m<=1000000):JL [.int (m:T)]=Y ((aJ m).map λk:T=>Dat.int k):=by
 show(if _ then _ else L)=_;rw[a6 (by omega)];simp
def Xs(xs:O T):(xs.map λc=>[c]).flatten=xs:=by
 induction xs with
 |nil=>rfl
 |cons a r b=>simp_all
def YN(xs:O T):((xs.map λc=>[c]).map (·.length)).sum=Z xs:=by
 induction xs with
 |nil=>rfl
 |cons a r b=>rw[ak,ak,List.sum_cons,b];exact Nat.add_comm _ _
def Vj{b:Type}(g:b->a7)(xs:O b):e8 .all [.lst (xs.map λx=>Dat.bl (g x))]=Y (.bl (xs.all g),J):=by
 simp only[e8,b1,vQ,pJ,wK,wJ,bL,Mp,wL,vP,vM,bW];rw[List.all_map];rfl
def vY(k:T):O T:=(aJ 4).filterMap λi=>if k / 2 ^ i % 2=1 then Ci[i]? else L
def yZ:O Sx:=[(.ret (.gG .join (.f_ "") [(.comp 1 U [0] (.rng [(.e_ 4)]) [(.cmp .eq (.bin .band (.bin .shr (.v 1) (.v 0)) (.e_ 1)) (.e_ 1))] (.ix (.f_ "wbme") (.v 0)))]))]
def Y2(C:Fs):((aJ 16).all λk=>lV (LG C 1 1 yZ [.int (k:T)]) (Y (.str (T' (vY k)),J)) && decide ((vY k).length<=4))=U:=by kernel_rfl
def J2(h:k<16):Z (vY k)<=4:=by
 have:=aI.mp (Y2 (λ_ _=>L)) k (aO.mpr h);rw[au]at this;exact ea this.2
structure okF(f:Fm):Prop where
 ne:f.1≠[]
 low:∀c∈f.1,c∈nX
 ll:Z f.1<=6
 cl:Z f.2.1<=4
 pl:Z f.2.2<=4
 c1:0<Z f.2.1
 c3:Z f.2.1≠3
 cr:∀c∈f.2.1,1<=c/\c<=63
 pp:∃k,1<=k/\k<16/\f.2.2=vY k
noncomputable abbrev ent(f:Fm):O T×O dc:=(f.1,f.2.1)
structure okL(ls:O T)(fs:O Fm):Prop where
 nd:(fs.map ent).Nodup
 sub:∀f∈fs,∀c∈f.1,c∈ls
 own:∀c∈ls,∃g∈fs,g.1=[c]/\g.2.2=Ci
def Zy(dr B:T):O Sx:=[(.set 9 (.bin .add (.e_ 1) (.bin .fdiv (.call dr [(.v 0),(.bin .add (.bin .add (.v 1) (.e_ 10)) (.v 6)),(.e_ 5)]) (.e_ 4)))),(.mut .app 8 [(.tup [(.ix (.v 7) (.v 6)),(.call B [(.v 0),(.bin .add (.bin .add (.v 1) (.e_ 20)) (.bin .mul (.e_ 5) (.v 6))),(.v 9),(.v 2)]),(.f_ "wbme")])])]
def Zx(dr B pl:T):O Sx:=[(.set 10 (.bin .add (.bin .add (.v 1) (.e_ 60)) (.bin .mul (.e_ 15) (.v 6)))),(.set 11 (.gG .join (.f_ "") [(.comp 1 U [10,7,5,0] (.rng [(.bin .add (.e_ 1) (.call dr [(.v 0),(.bin .add (.v 10) (.e_ 4)),(.e_ 3)]))]) [] (.ix (.v 2) (.call dr [(.v 4),(.bin .add (.v 1) (.v 0)),(.v 3)])))])),(.set 12 (.call B [(.v 0),(.bin .add (.v 10) (.e_ 5)),(.ix (.lst [(.e_ 1),(.e_ 1),(.e_ 2),(.e_ 4)]) (.call dr [(.v 0),(.bin .add (.v 10) (.e_ 9)),(.e_ 4)])),(.v 2)])),(.set 13 (.tup [(.v 11),(.v 12),(.call pl [(.bin .add (.e_ 1) (.call dr [(.v 0),(.bin .add (.v 10) (.e_ 10)),(.e_ 15)]))])])),(.ifs (.cmp .nin (.sl (.v 13) L (Y (.e_ 2))) (.comp 1 U [] (.itv (.v 8)) [] (.sl (.v 0) L (Y (.e_ 2))))) [(.mut .ins 8 [(.call dr [(.v 0),(.bin .add (.v 10) (.e_ 11)),(.bin .add (.blt .len [(.v 8)]) (.e_ 1))]),(.v 13)])] [])]
def vq(f:Fm):im (jg f)=U:=by
 show(U && (kd (f.2.1.map _) && (U && U)))=U;rw[qD];rfl
theorem zq:∀fs:O Fm,kd (fs.map jg)=U
 |[]=>rfl
 |f::fs=>by show(im (jg f) && kd (fs.map jg))=U;rw[vq,zq fs];rfl
def Bh{b c:Type}(g:b->c)(x:b)(i:dc)(xs:O b):insI (g x) i (xs.map g)=(insI x i xs).map g:=by
 unfold insI;rw[ah,bK,ak,List.map_take,List.map_drop]
def A0 (h:y∈insI x i xs):y=x\/y∈xs:=by
 unfold insI at h
 rcases aR.mp h with h|h
 .exact .inr (cu h)
 .rcases aq.mp h with h|h
  .exact .inl h
  .exact .inr (dJ h)
def K1 : Z (insI x i xs)=Z xs+1:=by
 unfold insI;rw[aN,bf,eF,nM];omega
def La (h:y∈xs):y∈insI x i xs:=by
 unfold insI;rw[<-bc (HT.gC xs.length 0 (Y i)) xs]at h
 rcases aR.mp h with h|h
 .exact bp _ h
 .exact aF _ (kc _ h)
def Dm (h:x∉xs)(nd:xs.Nodup):(insI x i xs).Nodup:=by
 unfold insI;have e:=bc (HT.gC xs.length 0 (Y i)) xs;have c:(xs.take (HT.gC xs.length 0 (Y i))++xs.drop (HT.gC xs.length 0 (Y i))).Nodup:=by rw[e];exact nd
 obtain⟨d,f,g⟩:=bV.mp c;refine bV.mpr ⟨d,bE.mpr ⟨λm=>h (dJ m),f⟩,λa ha b hb z=>?_⟩;subst z
 rcases aq.mp hb with rfl|hb
 .exact h (cu ha)
 .exact g a ha a hb W
def GQ(a b c:Dat):Iy (.tup [a,b,c]) L (Y 2)=Y (.tup [a,b],J):=rfl
def As(f:Fm):fU 20 (.tup [.str (T' f.1),.tup (f.2.1.map Dat.int)])=U:=by
 show(U && (dE 18 (f.2.1.map _) && U))=U;rw[uL];rfl
noncomputable abbrev tI(l:O dc):Dat:=.tup (l.map Dat.int)
def Y1(a b c d x:Dat):mQ .seti (.lst [a,b,c,d]) [x,.int 0]=Y (.lst [x,b,c,d]):=rfl
def Y0(a b c d x:Dat):mQ .seti (.lst [a,b,c,d]) [x,.int 1]=Y (.lst [a,x,c,d]):=rfl
def put2(a b c d x:Dat):mQ .seti (.lst [a,b,c,d]) [x,.int 2]=Y (.lst [a,b,x,d]):=rfl
def put3(a b c d x:Dat):mQ .seti (.lst [a,b,c,d]) [x,.int 3]=Y (.lst [a,b,c,x]):=rfl
structure okM(m0 m1 m2 m3 fg:O dc):Prop where
 l0:Z m0<=2
 l1:Z m1<=2
 l2:Z m2<=2
 l3:Z m3<=2
 lf:Z fg<=10
 r0:∀c∈m0,1<=c/\c<=63
 r1:∀c∈m1,1<=c/\c<=63
 r2:∀c∈m2,1<=c/\c<=63
 r3:∀c∈m3,1<=c/\c<=63
 rf:∀c∈fg,1<=c/\c<=63
 k1:m1≠[]->m0≠[]
 k2:m2=[]↔fg=[]
 k3:m3=[]↔fg=[]
def Nj(h:bR C e (full ρ)=Y (.tup [a,b],f))(hi:im (.tup [a,b])=U):td C (.Yg [i,j] e) ρ=Y (.nx ((ρ.set i (Y (a,J))).set j (Y (b,J)))):=by
 show(HF C e ρ).bind _=_;rw[UK h (by rw[hi];rfl)];rfl
end M
namespace K11
open PySem L2 M
structure IC(f:Fm):Prop where
 ne:f.1≠[]
 low:∀c∈f.1,c∈nX
 ll:Z f.1<=6
 c1:0<Z f.2.1
 cl:Z f.2.1<=4
 pp:∃k,1<=k/\k<16/\f.2.2=vY k
noncomputable abbrev VC(i:dc):N2:=.inl (.inl i)
theorem pX:∀cs:O dc,QH (cs.map Dat.int)=Y (cs.map VC)
 |[]=>rfl
 |c::r=>by simp only[ak,QH,Za,pX r,bH,bW]
def Fo{a b:O dc}(e:a.map VC=b.map VC):a=b:=(Iq (λx y z=>Ab (Ab z))).mp e
end K11
namespace K11E
open PySem L2 M K11
abbrev sT(l:O T):Dat:=.str (T' l)
def Oe(h:bR C a (full ρ)=Y (d,fl)):gJ C [.ret a] ρ=Y (.rt d fl):=by
 show mj (Ec _ (bR C a _)) _=_;rw[h];rfl
def sQ(h:bR C a (full ρ)=Y (d,fl))(hi:im d=U):td C (.set i a) ρ=Y (.nx (ρ.set i (Y (d,J)))):=by
 rw[FC]
 grind
def Wf(h:bR C a (full ρ)=Y (.lst ds,U)):td C (.set i a) ρ=Y (.nx (ρ.set i (Y (.lst ds,U)))):=by
 rw[FC,h];rfl
def Ev(C:Fs)(e:Ex)(ρ:gZ)(P:Dat->Prop):Prop:=∃d f,bR C e ρ=Y (d,f)/\im d=U/\P d
def Ei(C:Fs)(e:Ex)(ρ:gZ)(P:T->Prop):Prop:=∃q f,bR C e ρ=Y (.int (q:T),f)/\P q
def Go(C:Fs)(B:O Sx)(ρ:eh)(Q:Out->Prop):Prop:=∃o,gJ C B ρ=Y o/\Q o
def Dw(C:Fs)(N:Dat):Prop:=∀k m:dc,0<=k/\k<=100000->0<m->∃q:T,C 32 [N,.int k,.int m]=Y (.int (q:T),J)/\(q:dc)<m
section
def fE(hd:Dw C N)(h0:bR C a ρ=Y (N,f))(h1:bR C k ρ=Y (.int i,g))(h2:bR C m ρ=Y (.int j,h))(B:0<=i/\i<=100000)(c:0<j)(hp:∀q:T,(q:dc)<j->P q):Ei C (.call 32 [a,k,m]) ρ P:=by
 obtain⟨q,r,b⟩:=hd i j B c;exact⟨q,J,by rw[qI,eV,h0,eV,h1,eV,h2];exact r,hp q b⟩
def UP(c:T)(h:Ei C e ρ P)(hp:∀q,P q->P' (c+q)):Ei C (.bin .add (.con (.int (c:T))) e) ρ P':=by
 obtain⟨q,f,r,b⟩:=h;refine⟨_,J,?_,hp q b⟩;rw[vF,r];show Y (Dat.int _,J)=_;simp
def oI(h:Ei C e ρ P)(hp:∀q,P q->P' (1+q)):Ei C (.bin .add (.e_ 1) e) ρ P':=UP 1 h hp
def PD(h:Ei C e ρ P)(hp:∀q,P q->P' (q / 4)):Ei C (.bin .fdiv e (.e_ 4)) ρ P':=by
 obtain⟨q,f,r,b⟩:=h;refine⟨q / 4,J,?_,hp q b⟩;rw[vF,r];exact BY (j:=4) (by decide) (by decide)
def qL{is:O T}(B:bR C x ρ=Y (.lst (is.map λi:T=>Dat.int i),f))(h:Ei C e ρ (·< Z is))(hp:∀q∈is,P q):Ei C (.ix x e) ρ P:=by
 obtain⟨q,g,r,a⟩:=h;refine⟨_,J,?_,hp _ (bA a)⟩;rw[LI,B,r];show((yt _ _).map _)=_;rw[kT (by rw[aV,ae a];rfl)];rfl
def LR(h:Ei C e ρ P)(j:dc):∃t f,bR C (.cmp .eq e (.con (.int j))) ρ=Y (.bl t,f):=by
 obtain⟨q,f,r,_⟩:=h;exact⟨_,J,by rw[LK,r];rfl⟩
def fk(h1:bR C a ρ=Y (x',f))(h2:bR C e ρ=Y (y,g))(h:ef o x' y=Y r):bR C (.cmp o a e) ρ=Y (.bl r,J):=by rw[LK,h2];simp_all
def iH(h1:bR C a ρ=Y (x',f))(h2:bR C e ρ=Y (y,g))(h:fF o x' y=r):bR C (.bin o a e) ρ=r:=by rwa[vF,h1,h2]
def iG(h1:bR C a ρ=Y (x',f))(h:e8 o [x']=r):bR C (.blt o [a]) ρ=r:=by rwa[UI,eV,h1]
def WU(h1:bR C a ρ=Y (x',f))(h:fV o x' []=r):bR C (.gG o a []) ρ=r:=by rwa[FD,h1]
def tG(h1:bR C a ρ=Y (x',f))(h2:bR C e ρ=Y (y,g))(h:fV o x' [y]=r):bR C (.gG o a [e]) ρ=r:=by rwa[FD,h1,eV,h2]
def m9(h1:bR C a ρ=Y (x',f))(h2:bR C e ρ=Y (y,g))(h:Dz x' y=Y d):bR C (.ix a e) ρ=Y (d,J):=by rw[LI,h1,h2];show(Dz x' y).map _=_;rw[h];rfl
def NP(h1:bR C a ρ=Y (x',f))(h2:bR C e ρ=Y (.int i,g))(h:Iy x' L (Y i)=r):bR C (.sl a L (Y e)) ρ=r:=by rw[QS,h1];show mj (Ki _) _=_;rwa[h2]
def NO(h1:bR C a ρ=Y (x',f))(h2:bR C e ρ=Y (.int i,g))(h:Iy x' (Y i) L=r):bR C (.sl a (Y e) L) ρ=r:=by rw[QS,h1];show mj (Ki _) _=_;rwa[h2]
def gp(h1:bR C a ρ=Y (x',f)):bR C (.call q [a]) ρ=C q [x']:=by rw[qI,eV,h1];rfl
def FT(h1:bR C a ρ=Y (x',f))(h2:bR C e ρ=Y (y,g)):bR C (.call q [a,e]) ρ=C q [x',y]:=by rw[qI,eV,h1,eV,h2];rfl
def tm(h1:bR C a ρ=Y (x',f))(h2:bR C e ρ=Y (y,g))(h3:bR C x ρ=Y (z,h)):bR C (.call q [a,e,x]) ρ=C q [x',y,z]:=by rw[qI,eV,h1,eV,h2,eV,h3];rfl
def su(h:Ei C e ρ P):Ev C e ρ (λd=>∃q:T,d=.int (q:T)/\P q):=by
 obtain⟨q,f,r,b⟩:=h;exact⟨_,f,r,W,q,W,b⟩
def DN(h:bR C a ρ=Y (.int i,f))(b:bR C e ρ=Y (.int j,g))(hi:0<=i/\i<=1000):bR C (.bin .mul a e) ρ=Y (.int (i * j),J):=by
 rw[vF,h,b];exact p7 (iw1 hi.1) (jq hi.2 iF)
def dU(h:bR C a ρ=Y (.int i,f))(b:bR C e ρ=Y (.int j,g)):bR C (.bin .add a e) ρ=Y (.int (i+j),J):=by
 rw[vF,h,b];rfl
def Bz{m:T}(h:bR C e ρ=Y (.int (m:T),f))(B:m<=1000):ug C (.rng [e]) ρ=Y ((aJ m).map λk:T=>Dat.int k):=by
 rw[Pw,eV,h];exact Oc (ab B iF)
def UG{ls:O T}{P:T->Prop}(B:bR C x ρ=Y (.lst (ls.map λc=>sT [c]),f))(h:Ei C e ρ (·< Z ls))(hl:∀c∈ls,P c):∃c b,bR C (.ix x e) ρ=Y (sT [c],b)/\P c:=by
 obtain⟨q,g,r,a⟩:=h;refine⟨_,J,?_,hl _ (bA a)⟩;rw[LI,B,r];show((yt _ _).map _)=_;rw[kT (by rw[aV,ae a];rfl)];rfl
def zD{u t:Type}{caps:O T}{it:Iw}{elt:Ex}{xs:O u}{e:u->Dat}(g:t->Dat)(P:u->t->Prop)(hi:ug C it ρ=Y (xs.map e))(hl:Z xs<=1000)(B:∀y,im (g y)=U)(h:∀x∈xs,∃y b,bR C elt ((ja 1 caps ρ).set 0 (Y (e x)))=Y (g y,b)/\P x y):∃o:O t,bR C (.comp 1 U caps it [] elt) ρ=Y (.lst (o.map g),U)/\Z o=Z xs/\(∀y∈o,∃x∈xs,P x y)/\∀x∈xs,∃y∈o,P x y:=by
 suffices ∃o:O t,pY (oJ C 1 U (ja 1 _ ρ) [] _) _=Y _/\Z o=Z xs/\(∀y∈o,∃x∈xs,P x y)/\∀x∈xs,∃y∈o,P x y by
  obtain⟨o,a,b⟩:=this;exact⟨o,o5 hi (by rw[ah];exact ab hl iF) a,b⟩
 clear hi hl
 induction xs with
 |nil=>exact⟨[],W,W,(λ_ h=>nomatch h),(λ_ h=>nomatch h)⟩
 |cons x xs d=>
   refine ac λ_ i=>?_;obtain⟨y,b,hb,hp⟩:=h x iT;obtain⟨o,h1,h2,h3,f⟩:=d λz c=>h z (kc _ c);refine i ?_;refine⟨y::o,?_,by simp_all,λz c=>?_,λz c=>?_⟩
   .rw[ak,pY,yi,hb,h1];simp[B y]
   .rcases aq.mp c with rfl|c
    .exact⟨x,iT,hp⟩
    simp_all
   .rcases aq.mp c with rfl|c
    .exact⟨y,iT,hp⟩
    simp_all
end
section
variable{C:Fs}{ρ:eh}{e:Ex}{ss:O Sx}{Q:Out->Prop}{P:Dat->Prop}{i:T}
def iU(h:td C s ρ=Y (.nx ρ1))(k:Go C ss ρ1 Q):Go C (s::ss) ρ Q:=by
 obtain⟨o,a,b⟩:=k;exact⟨o,by rwa[tX h],b⟩
def dZ(h:Ev C e (full ρ) P)(k:∀d,P d->Go C ss (ρ.set i (Y (d,J))) Q):Go C (.set i e::ss) ρ Q:=by
 obtain⟨d,f,h1,h2,h3⟩:=h;exact iU (sQ h1 h2) (k d h3)
def fO(h:bR C e (full ρ)=Y (.lst ds,U))(k:Go C ss (ρ.set i (Y (.lst ds,U))) Q):Go C (.set i e::ss) ρ Q:=iU (Wf h) k
def gH(h:bR C e (full ρ)=Y (d,f))(q:Q (.rt d f)):Go C [.ret e] ρ Q:=⟨_,Oe h,q⟩
def cX(q:Q (.nx ρ)):Go C [] ρ Q:=⟨_,W,q⟩
def vc(hi:(ρ[i]?).join=Y (d,U))(b:qJ C es (full ρ)=Y (ds,U))(B:mQ op d ds=Y d'):td C (.mut op i es) ρ=Y (.nx (ρ.set i (Y (d',U)))):=by
 show((qJ C es _).bind λx=>if x.2=U then WT op i ρ _ _ else L)=_;rw[b,hi];show(mQ op d ds).map _=_;rw[B];rfl
def vt(h:Ev C e (full ρ) P)(hi:(ρ[i]?).join=Y (.lst ds,U))(hl:Z ds<1000000)(k:∀d,P d->Go C ss (ρ.set i (Y (.lst (ds++[d]),U))) Q):Go C (.mut .app i [e]::ss) ρ Q:=by
 obtain⟨d,f,h1,h2,h3⟩:=h;exact iU (vc hi (by rw[bQ,h1];show Y _=_;simp_all) (Hm hl)) (k d h3)
def zl(hb:b d ρ=Y ρ1)(h:body ρ1=Y (.nx c)):iw b body (d::ds) ρ=iw b body ds c:=by
 simp only[iw,hb,bH,h];rfl
theorem A2{f:Type}{t:Dat->eh->a5 eh}{body:O Sx}{V:f->Dat}{I:O f->eh->Prop}:∀(xs b:O f)(ρ:eh),(∀(us:O f)x(vs:O f)ρ,b++xs=us++x::vs->I us ρ->∃ρ1,t (V x) ρ=Y ρ1/\Go C body ρ1 λo=>∃B,o=.nx B/\I (us++[x]) B)->I b ρ->∃c,iw t (gJ C body) (xs.map V) ρ=Y (.nx c)/\I (b++xs) c
 |[],b,ρ,_,h=>⟨ρ,W,by simp_all⟩
 |x::xs,b,ρ,d,h=>by
   obtain⟨ρ1,h1,_,h2,B,rfl,h3⟩:=d b x xs ρ W h;obtain⟨c,a,g⟩:=A2 xs (b++[x]) B (λus z vs ρ q=>d us z vs ρ (by simp_all)) h3;rw[ak,zl h1 h2]
   simp_all
def mT{t:Type}{one:a7}{u:O T}{it:Iw}{body:O Sx}{V:t->Dat}{xs:O t}{ρ0:eh}{I:O t->eh->Prop}(b:td C (.loop one u it body) ρ=iw (gr one u) (gJ C body) (xs.map V) ρ0)(c:I [] ρ0)(hs:∀(us:O t)x(vs:O t)ρ,xs=us++x::vs->I us ρ->∃ρ1,gr one u (V x) ρ=Y ρ1/\Go C body ρ1 λo=>∃B,o=.nx B/\I (us++[x]) B)(K:∀f,I xs f->Go C ss f Q):Go C (.loop one u it body::ss) ρ Q:=by
 obtain⟨f,h1,h2⟩:=A2 xs [] _ hs c;exact iU (by rwa[b]) (K _ h2)
def pZ(b:bR C e (full ρ)=Y (d,f))(hd:i6 d=Y ds)(hf:(im d || f)=U):td C (.loop one c (.itv e) body) ρ=iw (gr one c) (gJ C body) ds ρ:=by
 rw[HE,b,bH,a6 hf,hd];rfl
def Ln{y:O T}{body:O Sx}{I:O T->eh->Prop}{P:T->Prop}(u:Ei C e (full ρ) P)(b:∀m,P m->m<=1000)(c:I [] ρ)(hs:∀m,P m->∀(us:O T)x(vs:O T)ρ,aJ m=us++x::vs->I us ρ->∃ρ1,gr U y (.int (x:T)) ρ=Y ρ1/\Go C body ρ1 λo=>∃B,o=.nx B/\I (us++[x]) B)(K:∀m,P m->∀t,I (aJ m) t->Go C ss t Q):Go C (.loop U y (.rng [e]) body::ss) ρ Q:=by
 obtain⟨m,f,u,a⟩:=u;exact mT (by rw[LF,Bz u (b m a)];rfl) c (hs m a) (K m a)
def Lp{J':eh->Prop}{A:O Sx}(h:∃t f,bR C e (full ρ)=Y (.bl t,f))(B:Go C A ρ λo=>∃b,o=.nx b/\J' b)(c:J' ρ)(k:∀b,J' b->Go C ss b Q):Go C (.ifs e A []::ss) ρ Q:=by
 obtain⟨t,f,h⟩:=h;cases t
 .exact iU (by rw[Lf h W];rfl) (k ρ c)
 .obtain⟨_,h1,b,rfl,h2⟩:=B;exact iU (by rwa[Le h W]) (k _ h2)
def lE{A B:O Sx}{b:a7}{f:a7}{J':eh->Prop}(h:bR C e (full ρ)=Y (.bl b,f))(u:b=U->Go C A ρ λo=>∃t,o=.nx t/\J' t)(c:b=J->Go C B ρ λo=>∃t,o=.nx t/\J' t)(k:∀t,J' t->Go C ss t Q):Go C (.ifs e A B::ss) ρ Q:=by
 cases b
 .obtain⟨_,h1,t,rfl,h2⟩:=c W;exact iU (by rwa[Lf h W]) (k _ h2)
 .obtain⟨_,h1,t,rfl,h2⟩:=u W;exact iU (by rwa[Le h W]) (k _ h2)
end
def Xo(h:bR C e (full ρ)=Y (.bl U,f))(b:gJ C A ρ=Y (.rt d g))(q:Q (.rt d g)):Go C (.ifs e A B::ss) ρ Q:=⟨_,by rw[Nu (by rwa[Le h W])],q⟩
def jN(h:bR C e (full ρ)=Y (.bl J,f))(k:Go C ss ρ Q):Go C (.ifs e A []::ss) ρ Q:=iU (by rw[Lf h W];rfl) k
def iy{ds:O Dat}(B:Z ds=np)(h:Go (Cn D n) body (ds.map (λd=>Y (d,J))++eO (nl - np) L) λo=>o=.rt d b):LG (Cn D n) np nl body ds=Y (d,b):=by
 obtain⟨_,h1,rfl⟩:=h;exact p3 B h1
def dw{ns:O dc}:Dw (Cn D (n+1)) (.lst (ns.map Dat.int)):=λk m p t=>by
 suffices ∀c:dc,0<=c->c<2147483629->∀r:g_,∃q:T,(q:dc)<m/\Go (Cn D n) (b32.drop 2) [Y (.lst (ns.map Dat.int),J),Y (.int k,J),Y (.int m,J),Y (.int c,J)] λo=>o=.rt (.int (q:T)) J by
  have hl:e8 .len [.lst (ns.map Dat.int)]=Y (.int (ns.length:T),J):=by rw[nF,ah]
  by_cases h:0<Z ns
  .have h1:=wx k (show(ns.length:dc)≠0 by omega);have h2:=rz k (show(0:dc)<(ns.length:dc) by omega);obtain⟨j,d⟩:=nV h1;have b:j<Z ns:=by omega
   obtain⟨q,a,g⟩:=this (ns[j] % 2147483629) (wx _ (by decide)) (rz _ (by decide)) L;refine⟨q,iy W (dZ ⟨_,_,W,W,W⟩ λ_ e=>?_),a⟩;subst e;refine lE (J':=λu=>u=[Y (.lst (ns.map Dat.int),J),Y (.int k,J),Y (.int m,J),Y (.int (ns[j] % 2147483629),J)]) (fk (iG W hl) W (dy Y (cb (show(0:dc)<(ns.length:dc) by omega)))) (λ_=>iU (sQ (iH (m9 W (iH W (iG W hl) (jY (by omega))) (by rw[d];exact kT (by rw[aV,ae b];rfl))) W (jY (by decide))) W) (cX ⟨_,W,W⟩)) (λe=>nomatch e) λf e=>?_;subst e;exact g
  .obtain⟨q,a,g⟩:=this 0 (by decide) (by decide) L;refine⟨q,iy W (dZ ⟨_,_,W,W,W⟩ λ_ e=>?_),a⟩;subst e;exact jN (fk (iG W hl) W (dy Y (dd (show¬(0:dc)<(ns.length:dc) by omega)))) g
 intro c c1 c2 _;generalize i:(c+1) * (31 * k * k+7919) % 2147483647 * 48271 % 2147483629=y;have l:0<=y % m:=wx _ (by omega);have s:y % m<m:=rz _ t;obtain⟨q,a⟩:=nV l;refine⟨q,by omega,?_⟩;rw[<-a,<-i];refine gH (iH (iH (iH (iH (iH (iH W rfl rfl) (iH (iH (iH W rfl (p7 (by decide) (by decide))) W (vO (by omega) (by omega))) W rfl) (p7 (by omega) (by omega))) W (jY (by decide))) W (vO (by decide) (by decide))) W (jY (by decide))) W (jY t)) W
def PN{C:Fs}{ρ:gZ}{o:Type}{caps:O T}{it:Iw}{c:Ex}{xs:O o}{e:o->Dat}(p:o->a7)(hi:ug C it ρ=Y (xs.map e))(hl:Z xs<=1000)(B:∀x,im (e x)=U)(h:∀x∈xs,∃f,bR C c ((ja 1 caps ρ).set 0 (Y (e x)))=Y (.bl (p x),f))(t:∀d:Dat,bR C (.v 0) ((ja 1 caps ρ).set 0 (Y d))=Y (d,J):=by intro;rfl):bR C (.comp 1 U caps it [c] (.v 0)) ρ=Y (.lst ((xs.filter p).map e),U):=by
 refine o5 hi (by rw[ah];exact ab hl iF) ?_;clear hi hl
 induction xs with
 |nil=>rfl
 |cons x xs a=>
   obtain⟨f,hf⟩:=h x iT;rw[ak,pY,BI hf W,a λy b=>h y (kc _ b),t];cases q:p x<;>simp[q,B]
def iX{C:Fs}{ρ:gZ}{c:Type}{caps:O T}{it:Iw}{elt:Ex}{xs:O c}{e g:c->Dat}(hi:ug C it ρ=Y (xs.map e))(hl:Z xs<=1000)(B:∀x∈xs,im (g x)=U)(h:∀x∈xs,∃f,bR C elt ((ja 1 caps ρ).set 0 (Y (e x)))=Y (g x,f)):bR C (.comp 1 U caps it [] elt) ρ=Y (.lst (xs.map g),U):=by
 refine o5 hi (by grind) ?_;clear hi hl
 induction xs with
 |nil=>rfl
 |cons x xs b=>
   obtain⟨f,hf⟩:=h x iT;rw[ak,pY,yi,hf,b (λy a=>B y (kc _ a)) λy a=>h y (kc _ a)];simp[B x iT]
abbrev Ed:=bw×O T×O dc×bw
abbrev kJ(e:Ed):Dat:=.tup [.str e.1,.str (T' e.2.1),.tup (e.2.2.1.map Dat.int),.str e.2.2.2]
abbrev LS(e:Ed):O NK:=[.inl (.inr e.1),.inl (.inr (T' e.2.1)),.inr (e.2.2.1.map VC),.inl (.inr e.2.2.2)]
def QG(e:Ed):vb (kJ e)=Y (LS e):=by
 simp only[vb,TC,Yn,pX,bW,bH]
theorem Ky:∀es:O Ed,oF (es.map kJ)=Y (es.map LS)
 |[]=>rfl
 |e::es=>by
   rw[ak,oF,QG,Ky es];rfl
theorem allI:∀l:O dc,(l.map VC).all sI=U
 |[]=>rfl
 |a::r=>by rw[ak,dC,allI r];rfl
noncomputable abbrev Yk:O (O T):=[[1],[1],[2],[1]]
def xw(e:Ed):(LS e).map sN=Yk:=by
 simp only[ak,List.map_nil,sN,allI,e6]
abbrev IF(e:Ed):O (O (O dc)):=codeN (LS e)
def ND(es:O Ed):O Dat:=(dz tH (es.map IF)).map (wH Yk)
def QE(e:Ed):∀x∈LS e,zd (sN x)=U:=λx a=>by
 have:sN x∈(LS e).map sN:=bC a;rw[xw]at this;exact aI.mp iF _ this
def UU(e:Ed):wH Yk (IF e)=kJ e:=by
 have:=zA (QG e) (QE e);rwa[xw]at this
def Mb(h:IF a=IF b):a=b:=by
 have h1 :=code_inj ((xw a).trans (xw b).symm) (QE a) h;simp only[LS,cM,Sum.inl.injEq,Sum.inr.injEq,oa]at h1;obtain⟨h1,h2,h3,c⟩:=h1;exact lT h1 (lT (My h2) (lT (Fo h3) c))
def pW{f:Type}[BEq f][LawfulBEq f]{l o:O f}(B:l.Nodup)(h:∀x∈l,x∈o):Z l<=Z o:=by
 induction l generalizing o with
 |nil=>exact aY _
 |cons a r c=>
   have ha:=h a iT;have:=c (bE.mp B).2 λx b=>(List.mem_erase_of_ne (λe:x=a=>(bE.mp B).1 (e▸b))).mpr (h x (kc _ b))
   grind
def RI(es:O Ed):∃E:O Ed,ND es=E.map kJ/\E.Nodup/\(∀e,e∈E↔e∈es)/\Z E<=Z es:=by
 have a:∀l:O (O (O (O _))),(∀c∈l,∃e:Ed,c=IF e)->l.Nodup->∃E:O Ed,l=E.map IF/\E.Nodup:=λl=>by
  induction l with
  |nil=>intro _ _;exact⟨[],W,eP⟩
  |cons c r d=>
    intro h b;obtain⟨e,rfl⟩:=h c iT;obtain⟨E,h1,h2⟩:=d (λc i=>h c (kc _ i)) (bE.mp b).2;refine⟨_,by rw[h1];rfl,bE.mpr ⟨λm=>(bE.mp b).1 ?_,h2⟩⟩;rw[h1];exact bC m
 obtain⟨E,h1,h2⟩:=a (dz tH _) (λc i=>by
  obtain⟨e,_,rfl⟩:=aP.mp ((c7 rW).mp i)
  exact⟨e,W⟩) (gm rW (eU rW _))
 refine⟨E,?_,h2,λe=>?_,?_⟩
 .unfold ND;rw[h1,bo];exact du λe _=>UU e
 .have:=c7 rW (z:=IF e) (l:=es.map IF);rw[h1]at this;constructor
  .intro h;obtain⟨f,j,q⟩:=aP.mp (this.mp (bC h));rwa[<-Mb q]
  .intro h;obtain⟨f,j,q⟩:=aP.mp (this.mpr (bC h));rwa[<-Mb q]
 .have:=pW (gm rW (eU rW (es.map IF))) λx g=>(c7 rW).mp g;rwa[h1,ah,ah]at this
def Ro(es:O Ed):Z (dz tH (es.map IF))<=Z es:=by
 have:=pW (gm rW (eU rW (es.map IF))) λx a=>(c7 rW).mp a
 simp_all
def Yp(e:Ed)(es:O Ed):lY ((e::es).map kJ)=L:=rfl
def Yj(e:Ed)(es:O Ed):jM ((e::es).map kJ)=L:=rfl
def Nx{es:O Ed}(hl:Z es<=300)(B:es≠[]):e8 .sset [.lst (es.map kJ)]=Y (.lst (ND es),U):=by
 cases es with
 |nil=>exact absurd rfl B
 |cons e r=>
   have a:CU ((e::r).map LS)=Yk:=xw e
   have h3:(((e::r).map LS).all λk=>decide (k.map sN=CU ((e::r).map LS)))=U:=by
    rw[aI];intro k b;obtain⟨q,_,rfl⟩:=aP.mp b;rw[a];exact cb (xw q)
   show(oF _).bind oy=_;rw[Ky];show oy _=_;unfold oy Dl;rw[a6 ⟨by rw[ah];omega,by rfl,by rw[a];rfl,h3,by rw[bo];exact ab (Ro _) hl⟩,a,bo];rfl
structure Tb where
 fs:O Fm
 m0:O dc
 m1:O dc
 m2:O dc
 m3:O dc
 fg:O dc
structure WM(t:Tb):Prop where
 ho:∀f∈t.fs,IC f
 hl:Z t.fs<=12
 h0:Z t.m0<=2
 h1:Z t.m1<=2
 h2:Z t.m2<=2
 h3:Z t.m3<=2
 hf:Z t.fg<=10
abbrev AW(t:Tb):Dat:=.tup [tI t.m0,tI t.m1,tI t.m2,tI t.m3]
abbrev tb(t:Tb):Dat:=.tup [.tup (t.fs.map jg),AW t,tI t.fg]
def ze(m:O dc):ef .ne (tI m) (.tup [])=Y (!m.isEmpty):=by
 cases m with
 |nil=>rfl
 |cons a r=>
   rw[Y7 (uL 19 _) W];rfl
def sv(m:O dc):ef .eq (tI m) (.tup [])=Y m.isEmpty:=by
 cases m with
 |nil=>rfl
 |cons a r=>
   rw[ZA (uL 19 (a::r)) W];rfl
def K0(m:O dc):e8 .len [tI m]=Y (.int (m.length:T),J):=by rw[vN,ah]
def p0(m:O dc):im (tI m)=U:=qD m
def D4(a b:O dc)(h:Z a+Z b<=1000):fF .add (tI a) (tI b)=Y (tI (a++b),J):=by
 rw[DX (by rw[ah,ah];exact ab h iF),<-bK]
noncomputable abbrev Aa:bw:=aa "out"
noncomputable abbrev tO:bw:=aa "let"
def Ld(a b c:bw)(m:O dc):im (.tup [.str a,.str b,tI m,.str c])=U:=by
 simp[im,kd,(qD m)]
def upB:(nX.all λc=>decide (tu c=[c - 32]))=U:=by kernel_rfl
def up1(h:c∈nX):tu c=[c - 32]:=ea (aI.mp upB c h)
def J1(u:O T)(f:T->O T):(Ac (T' u) λ_ c=>f c)=(u.flatMap f).toArray:=by
 apply Array.ext';simp only[Ac];rw[Array.toList_flatten,Array.toList_mapIdx]
 have e:∀(u:O _),(u.mapIdx λ_ c=>(f c).toArray)=u.map λc=>(f c).toArray:=λu=>by
  apply fu<;>simp
 rw[e,bo]
 congr 1
def yK(h:∀c∈u,c∈nX)(hl:Z u<=1000):fV .upper (.str (T' u)) []=Y (.str (T' (u.map (·- 32))),J):=by
 show(if(T' u).length<=1000000 then Y (Dat.str (rk _),J)else L)=_;rw[nP,a6 (ab hl iF)]
 have:rk (T' u)=T' (u.map (·- 32)):=by
  show(⟨Ac _ _⟩:bw)=_;rw[J1];show T' _=T' _
  congr 1
  clear hl
  induction u with
  |nil=>rfl
  |cons a r b=>
    rw[sJ,up1 (h a iT),b λc m=>h c (kc _ m)];rfl
 rw[this]
def VE(l:O T):O T:=(T' [l.headD 0 - 32]++eM (T' l) (Y 1) L).cps.toList
def Lm(ho:IC f):∃(e:T) (B:bw),Dz (.str (T' f.1)) (.int 0)=Y (.str (T' [e]))/\fV .upper (.str (T' [e])) []=Y (.str (T' [e - 32]),J)/\Iy (.str (T' f.1)) (Y 1) L=Y (.str B,J)/\fF .add (.str (T' [e - 32])) (.str B)=Y (.str (T' (VE f.1)),J):=by
 obtain⟨e,d,a⟩:∃c r,f.1=c::r:=by
  cases q:f.1 with
  |nil=>exact absurd q ho.ne
  |cons c r=>exact⟨c,r,W⟩
 have hlen:=ho.ll;have b :=ho.low e (by simp_all);refine⟨e,eM (T' f.1) (Y 1) L,?_,yK (λc a=>by simp_all) (by simp),a6 (by exact ab hlen iF),?_⟩
 .rw[a];exact Uk (by rw[<-a];exact ab hlen iF) (by simp)
 .have g:(T' f.1).length=f.1.length:=nP _;have h:(T' [e - 32]).length=1:=nP _;have hh:f.1.headD 0=e:=by rw[a];rfl
  show(if(T' [e - 32]).length+(eM (T' f.1) (Y 1) L).length<=aD then Y (Dat.str (T' [e - 32]++eM (T' f.1) (Y 1) L),J)else L)=_;rw[a6 (by rw[h,cY];exact QI (Ad (T' f.1) (Y 1) L) (af g) hlen)];unfold VE;rw[hh]
noncomputable abbrev uT(l:O T):O T:=l.map (·- 32)
noncomputable abbrev Vv:bw:=aa "all"
noncomputable abbrev zQ:bw:=aa "done"
theorem Lb:∀es:O Ed,kd (es.map kJ)=U
 |[]=>rfl
 |e::es=>by rw[ak,kd,Ld,Lb es];rfl
def Rq(ho:IC f):fV .upper (.str (T' f.1)) []=Y (.str (T' (uT f.1)),J):=yK ho.low (ab ho.ll iF)
noncomputable abbrev tN:bw:=aa "num"
noncomputable abbrev FIG:bw:=aa "0123456789"
noncomputable def kR:O T:=[48,49,50,51,52,53,54,55,56,57]
def Qe:FIG=T' kR:=by decide +kernel
noncomputable def Vb:O Ed:=[("out",[32],[0],"out"),("done",[32],[0],"out"),("num",[32],[0],"out")]
def NIL:aa ""=T' []:=by decide +kernel
noncomputable abbrev Rg:bw:=aa "in"
def PW:aa "w"=T' [119]:=by decide +kernel
def PB:aa "b"=T' [98]:=by decide +kernel
def PM:aa "m"=T' [109]:=by decide +kernel
def PE:aa "e"=T' [101]:=by decide +kernel
def BL:aa " "=T' [32]:=by decide +kernel
def QK(e:Ed):im (kJ e)=U:=Ld ..
def UQ(es:O Ed)(e:Ed):es.map kJ++[kJ e]=(es++[e]).map kJ:=by simp
theorem mU{c e:Type}{g:c->O e}{m:T}:∀{l:O c},(∀x∈l,Z (g x)<=m)->Z (l.flatMap g)<=m * Z l
 |[],_=>by simp
 |a::r,h=>by
   rw[sJ,aN,bf,Nat.mul_add];have:=h a iT;have:=mU λx b=>h x (kc _ b);omega
def ite_le{c:Type}{x y:O c}(h1:Z x<=n)(h2:Z y<=n):Z (if b=U then x else y)<=n:=by
 split
 .exact h1
 .exact h2
def oA{b:Type}{l us vs:O b}{x:b}(h:l=us++x::vs):Z us<Z l:=by
 rw[h,aN];exact dm (bP _ _)
section
variable{es:O Ed}
def vD(h1:bR C a ρ=Y (.str e.1,f1))(h2:bR C b ρ=Y (sT e.2.1,f2))(h3:bR C c ρ=Y (tI e.2.2.1,f))(B:bR C d ρ=Y (.str e.2.2.2,f4)):Ev C (.tup [a,b,c,d]) ρ (·= kJ e):=
 ⟨_,_,by rw[nD,bQ,h1,bQ,h2,bQ,h3,bQ,B];rfl,QK e,W⟩
def W0(h:Ev C x ρ (·= d)):bR C (.lst [x]) ρ=Y (.lst [d],U):=by
 obtain⟨_,b,ev,hi,rfl⟩:=h;rw[LH,bQ,ev];show Y _=_;rw[hi,Cc];rfl
def Bm(h:Ev C x (full ρ) (·= kJ e))(hi:(ρ[i]?).join=Y (.lst (es.map kJ),U))(hl:Z es<1000)(k:Go C ss (ρ.set i (Y (.lst ((es++[e]).map kJ),U))) Q):Go C (.mut .app i [x]::ss) ρ Q:=
 vt h hi (by rw[ah];exact ab hl iF) λd hd=>by rwa[hd,UQ]
def Po(h:bR C c (full ρ)=Y (.bl b,f))(B:Ev C x (full ρ) (·= kJ e))(hi:(ρ[i]?).join=Y (.lst (es.map kJ),U))(o:ρ.set i (Y (.lst (es.map kJ),U))=ρ)(hl:Z es<1000)(k:Go C ss (ρ.set i (Y (.lst ((es++if b=U then [e]else []).map kJ),U))) Q):Go C (.ifs c [.mut .app i [x]] []::ss) ρ Q:=by
 refine lE (J':=λa=>a=ρ.set i (Y (.lst _,U))) h (λq=>?_) (λq=>cX ⟨_,W,?_⟩) λa e=>by rwa[e]
 .rw[a6 q];exact Bm B hi hl (cX ⟨_,W,W⟩)
 simp_all
def Ms(h:bR C a ρ=Y (.bl x,f))(c:bR C b ρ=Y (.bl y,g)):∃g,bR C (.and a b) ρ=Y (.bl (x && y),g):=by
 cases x
 .exact⟨J,FH h⟩
 .exact⟨g,by rwa[FH h]⟩
def Z8(h:bR C a ρ=Y (.bl x,f))(c:bR C b ρ=Y (.bl y,g)):∃g,bR C (.or a b) ρ=Y (.bl (x || y),g):=by
 cases x
 .exact⟨g,by rwa[LM h]⟩
 .exact⟨J,LM h⟩
end
noncomputable def W6:O (T×bw×bw):=[(119,"out","done"),(119,"let","done"),(98,"out","in"),(98,"let","in"),(109,"in","in"),(101,"in","done")]
noncomputable def A6:O (T×bw×bw):=[(119,"out","done"),(119,"let","done"),(98,"out","all"),(98,"let","all"),(109,"all","all"),(101,"all","done")]
abbrev Z3(w:T×bw×bw):Dat:=.tup [sT [w.1],.str w.2.1,.str w.2.2]
noncomputable abbrev Uy(f:Fm)(w:T×bw×bw):O Ed:=if decide (w.1∈f.2.2)=U then [(w.2.1,f.1,f.2.1,w.2.2)]else []
abbrev E6(f:Fm):O Ed:=W6.flatMap (Uy f)
def DH{c:Type}{b:a7}{e:c}:Z (if b=U then [e]else [])<=1:=ite_le (aw 1) (aY 1)
def LU(f:Fm):Z (E6 f)<=6:=mU λ_ _=>DH
def Lc{fs:O Fm}:(im (.tup (fs.map jg)) || J)=U:=by
 show(kd _ || J)=U;rw[zq];rfl
def GZ{fs:O Fm}(hl:Z fs<=12):Cn D (n+1) 22 [.tup (fs.map jg)]=Y (.lst ((fs.flatMap E6).map kJ),U):=by
 refine iy W ?_;refine fO W (mT (I:=λus i=>∃b c m j k a,i=[Y (.tup (fs.map jg),J),Y (.lst ((us.flatMap E6).map kJ),U),b,c,m,j,k,a]) (pZ W rfl Lc) ⟨_,_,_,_,_,_,W⟩ ?_ λi ⟨_,_,_,_,_,_,h⟩=>by rw[h];exact⟨_,W,W⟩);rintro us f vs _ d ⟨_,_,_,j,k,a,rfl⟩;have h1:=mU (l:=us) λf _=>LU f;have h0:=oA d;refine⟨_,W,mT (V:=Z3) (xs:=W6) (I:=λws i=>∃j k a,i=[Y (.tup (fs.map jg),J),Y (.lst ((us.flatMap E6++ws.flatMap (Uy f)).map kJ),U),Y (sT f.1,J),Y (tI f.2.1,J),Y (sT f.2.2,J),j,k,a]) (pZ W rfl rfl) ⟨j,k,a,by rw[nO,aS];rfl⟩ ?_ λi ⟨_,_,_,h⟩=>by rw[h];exact cX ⟨_,W,_,_,_,_,_,_,by rw[fQ,gu]⟩⟩;rintro ws w vs _ e ⟨_,_,_,rfl⟩;have h2:=mU (g:=Uy f) (l:=ws) λ_ _=>DH;have h3:Z ws<6:=oA e;exact⟨_,W,Po (fk W rfl DD) (vD W rfl rfl rfl) W rfl (by grind) (cX ⟨_,W,_,_,_,by rw[fQ,gu,<-aK];rfl⟩)⟩
def Ha:Cn D (n+1) 20 []=Y (.lst (Vb.map kJ),U):=by
 have:lV (Cn D (n+1) 20 []) (Y (.lst (Vb.map kJ),U))=U:=by kernel_rfl
 exact jr this
abbrev QN(m:O dc)(e:Ed):Ed:=(e.1,VE e.2.1,m++e.2.2.1,e.2.2.2)
abbrev GX:Ex:=.tup [.v 0,.bin .add (.gG .upper (.ix (.v 1) (.e_ 0)) []) (.sl (.v 1) (Y (.e_ 1)) L),.bin .add (.v 4) (.v 2),.v 3]
theorem xY{m:O dc}(t:Z m<=2)(B:Dat):∀es:O Ed,(∀e∈es,∃f,IC f/\e.2.1=f.1/\e.2.2.1=f.2.1)->pY (oJ C 4 J (ja 4 [1] [Y B,Y (tI m)]) [] GX) (es.map kJ)=Y ((es.map (QN m)).map kJ,U)
 |[],_=>rfl
 |e::es,h=>by
   obtain⟨f,hf,g,j⟩:=h e iT;obtain⟨q,r,k,l,n,i⟩:=Lm hf;have hl:=hf.cl;obtain⟨d,b,ev,hi,rfl⟩:=vD (ρ:=[Y (.str e.1),Y (sT e.2.1),Y (tI e.2.2.1),Y (.str e.2.2.2),Y (tI m)]) (e:=QN m e) (a:=.v 0) (b:=.bin .add (.gG .upper (.ix (.v 1) (.e_ 0)) []) (.sl (.v 1) (Y (.e_ 1)) L)) (c:=.bin .add (.v 4) (.v 2)) (d:=.v 3) W (iH (WU (m9 W rfl (by rw[g];exact k)) l) (NO W rfl (by rw[g];exact n)) (by rw[<-g]at i;exact i)) (D4 m e.2.2.1 (by rw[j];exact ab (pU t hl) iF)) W
   have o:oJ C 4 J (ja 4 [1] [Y B,Y (tI m)]) [] GX (kJ e)=Y (Y (kJ (QN m e),b)):=by
    show(bR C GX [Y (.str e.1),Y (sT e.2.1),Y (tI e.2.2.1),Y (.str e.2.2.2),Y (tI m)]).map Y=_;rw[ev];rfl
   rw[ak];unfold pY;rw[o,xY t B es λe p=>h e (kc _ p)]
   simp_all
def G8{n:T}{m:O dc}(b:Z m<=2){es:O Ed}(h:∀e∈es,∃f,IC f/\e.2.1=f.1/\e.2.2.1=f.2.1)(hl:Z es<=1000):Cn D (n+1) 23 [.lst (es.map kJ),tI m]=Y (.lst ((es.map (QN m)).map kJ),U):=
 p3 W (Oe (o5 W (by rw[ah];exact ab hl iF) (xY b _ es h)))
noncomputable abbrev bg(f:Fm)(w:T×bw×bw):a7:=decide (w.1∈f.2.2) && (!decide ([w.1]=[119]) || decide (1<(f.1.length:dc)))
def Lz(m:O dc)(f:Fm)(w:T×bw×bw):O Ed:=if bg f w=U then [(w.2.1,uT f.1,(if(w.2.1 == Vv)=U then []else m)++f.2.1,w.2.2)]else []
abbrev H6(m:O dc)(f:Fm):O Ed:=A6.flatMap (Lz m f)
def Ly:Z (Lz m f w)<=1:=DH
def DJ(m:O dc)(f:Fm):Z (H6 m f)<=6:=mU λ_ _=>Ly
def yW{n:T}{m:O dc}(B:Z m<=2){fs:O Fm}(ho:∀f∈fs,IC f)(hl:Z fs<=12):Cn D (n+1) 24 [.tup (fs.map jg),tI m]=Y (.lst ((fs.flatMap (H6 m)).map kJ),U):=by
 refine iy W ?_;generalize Cn D n=C;refine fO W (mT (I:=λus ρ=>∃r E F A d i c,ρ=[Y (.tup (fs.map jg),J),Y (tI m,J),Y (.lst ((us.flatMap (H6 m)).map kJ),U),r,E,F,A,d,i,c]) (pZ W rfl Lc) ⟨_,_,_,_,_,_,_,W⟩ ?_ λρ ⟨_,_,_,_,_,_,_,h⟩=>by rw[h];exact⟨_,W,W⟩);rintro us f vs _ o ⟨_,_,_,A,d,i,c,rfl⟩;have h1:=mU (l:=us) λf _=>DJ m f;have h0:=oA o;have hf:=ho f (by rw[o];simp);have j:=hf.ll;have k:=hf.cl;refine⟨_,W,mT (V:=Z3) (xs:=A6) (I:=λws ρ=>∃A d i c,ρ=[Y (.tup (fs.map jg),J),Y (tI m,J),Y (.lst ((us.flatMap (H6 m)++ws.flatMap (Lz m f)).map kJ),U),Y (sT f.1,J),Y (tI f.2.1,J),Y (sT f.2.2,J),A,d,i,c]) (pZ W rfl rfl) ⟨A,d,i,c,by rw[nO,aS];rfl⟩ ?_ λρ ⟨_,_,_,_,h⟩=>by rw[h];exact cX ⟨_,W,_,_,_,_,_,_,_,by rw[fQ,gu]⟩⟩;rintro ws w vs _ s ⟨_,_,_,c,rfl⟩;have h2:=mU (g:=Lz m f) (l:=ws) λ_ _=>Ly;have h3:Z ws<6:=oA s;refine⟨_,W,?_⟩;rw[fQ,gu,<-aK];have p:Z (us.flatMap (H6 m)++ws.flatMap (Lz m f))<1000:=by grind
 generalize us.flatMap (H6 m)++ws.flatMap (Lz m f)=es at p ⊢;obtain⟨y,t⟩:=Z8 (ρ:=full [Y (.tup (fs.map jg),J),Y (tI m,J),Y (.lst (es.map kJ),U),Y (sT f.1,J),Y (tI f.2.1,J),Y (sT f.2.2,J),Y (sT [w.1],J),Y (.str w.2.1,J),Y (.str w.2.2,J),c]) (a:=.cmp .ne (.v 6) (.con (sT [119]))) (b:=.cmp .gt (.blt .len [.v 3]) (.e_ 1)) (fk W rfl (ne_T _ _)) (fk (iG W (len_T (ab j iF))) W rfl);obtain⟨z,u⟩:=Ms (fk (a:=.v 6) (e:=.v 5) W rfl DD) t;refine lE (J':=λρ=>∃c,ρ=[Y (.tup (fs.map jg),J),Y (tI m,J),Y (.lst ((es++Lz m f w).map kJ),U),Y (sT f.1,J),Y (tI f.2.1,J),Y (sT f.2.2,J),Y (sT [w.1],J),Y (.str w.2.1,J),Y (.str w.2.2,J),c]) u (λq=>?_) (λq=>cX ⟨_,W,c,by unfold Lz;rw[c4 (by rw[show bg f w=J from q];decide),aS];rfl⟩) λρ ⟨c,h⟩=>cX ⟨_,W,_,_,_,c,h⟩
 have x:bR C (.ite (.cmp .eq (.v 7) (.con (.str Vv))) (.tup []) (.v 1)) (full [Y (.tup (fs.map jg),J),Y (tI m,J),Y (.lst (es.map kJ),U),Y (sT f.1,J),Y (tI f.2.1,J),Y (sT f.2.2,J),Y (sT [w.1],J),Y (.str w.2.1,J),Y (.str w.2.2,J),c])=Y (tI (if(w.2.1 == Vv)=U then []else m),w.2.1 == Vv):=by
  rw[FG (fk W rfl ZC) W];cases w.2.1 == Vv<;>rfl
 have G:Z (if(w.2.1 == Vv)=U then []else m)<=2:=ite_le (aY _) B;refine iU (sQ x (p0 _)) (Bm (e:=(w.2.1,uT f.1,(if(w.2.1 == Vv)=U then []else m)++f.2.1,w.2.2)) (vD W (WU W (Rq hf)) (D4 _ _ (ab (pU G k) iF)) W) W p (cX ⟨_,W,_,by unfold Lz;rw[a6 (q)];rfl⟩))
abbrev pF(t:Tb)(p:T×dc):O Ed:=[(Aa,[p.1],t.m2++[p.2],tN),(zQ,[p.1],t.m2++[p.2],tN),(tN,[p.1],[p.2],tN)]
abbrev HD(t:Tb):O (T×dc):=kR.zip t.fg
abbrev fgD(p:T×dc):Dat:=.tup [sT [p.1],.int p.2]
theorem Ef:∀(l:O T)(g:O dc),lp ((l.map λc=>T' [c]).map Dat.str) (g.map Dat.int)=(l.zip g).map fgD
 |[],_=>by simp[lp]
 |_::_,[]=>by simp[lp]
 |c::l,x::g=>by
   have:=Ef l g;simp only[ak,lp,Ip,this]
abbrev rF(t:Tb):O Ed:=if t.fg.isEmpty=U then []else(tN,[],t.m3,tO)::(HD t).flatMap (pF t)
def By(t:Tb):Z (HD t)<=10:=by
 rw[M7];exact oP _ _
def ZP : es++[a]++[b]++[c]=es++[a,b,c]:=by simp
def Oa{t:Tb}(h2:Z t.m2<=2):Cn D (n+1) 21 [AW t,tI t.fg]=Y (.lst ((rF t).map kJ),U):=by
 refine iy (body:=ZO) W ?_;generalize Cn D n=C;have a:bR C (.cmp .eq (.v 1) (.tup [])) (full [Y (AW t,J),Y (tI t.fg,J),L,L,L])=Y (.bl t.fg.isEmpty,J):=fk W rfl (sv t.fg);unfold K11.ZO rF;revert a;cases t.fg.isEmpty
 .intro a;refine jN a (fO (ds:=[(tN,[],t.m3,tO)].map kJ) (by rw[NIL];exact W0 (vD W rfl rfl rfl)) (mT (V:=fgD) (xs:=HD t) (ρ0:=[Y (AW t,J),Y (tI t.fg,J),Y (.lst ([(tN,[],t.m3,tO)].map kJ),U),L,L]) (I:=λus i=>∃c j,i=[Y (AW t,J),Y (tI t.fg,J),Y (.lst (((tN,[],t.m3,tO)::us.flatMap (pF t)).map kJ),U),c,j]) ?_ ⟨_,_,W⟩ ?_ λi ⟨_,_,h⟩=>by rw[h];exact⟨_,W,W⟩))
  .show mj (Ec (λds=>(ds,[Y (AW t,J),Y (tI t.fg,J),Y (.lst ([(tN,[],t.m3,tO)].map kJ),U),L,L])) (Y (lp ((dG FIG).map Dat.str) (t.fg.map Dat.int)))) (λx:O Dat×eh=>iw (gr J [3,4]) (gJ C _) x.1 x.2)=_;rw[Qe,yT,Ef];rfl
  .rintro us p vs _ d ⟨_,_,rfl⟩;have h0:=oA d;have h1:=By t;have h3:=mU (g:=pF t) (l:=us) λ_ _=>aw 3;refine⟨_,W,?_⟩;rw[fQ,gu,<-eG];have f:Z ((tN,[],t.m3,tO)::us.flatMap (pF t))<900:=by rw[bf];exact QI h3 (Nat.mul_le_mul_left 3 h0) (Nat.mul_le_mul_left 3 h1)
   generalize (tN,[],t.m3,tO)::us.flatMap (pF t)=es at f ⊢;have b:=D4 t.m2 [p.2] (by show _+1<=_;exact Nat.lt_of_le_of_lt h2 (by decide));exact Bm (e:=(Aa,[p.1],t.m2++[p.2],tN)) (vD W rfl b W) W (Nat.le_trans f (by decide)) (Bm (e:=(zQ,[p.1],t.m2++[p.2],tN)) (vD W rfl b W) W (by simp;exact Nat.lt_of_le_of_lt f (by decide)) (Bm (vD W rfl rfl rfl) W (by simp;exact Nat.succ_le_succ (Nat.lt_of_le_of_lt f (by decide))) (cX ⟨_,W,_,_,by rw[ZP];rfl⟩)))
 .intro a;exact Xo a W rfl
abbrev AQ(e:Ed):a7:=!(e.1 == tO)
def zN(A B:O Ed)(h:Z A+Z B<=1000):fF .add (.lst (A.map kJ)) (.lst (B.map kJ))=Y (.lst ((A++B).map kJ),U):=by
 rw[DY (by rw[ah,ah];exact ab h iF),<-bK,Lb]
abbrev s0(t:Tb):O Ed:=t.fs.flatMap E6
abbrev s1(t:Tb):O Ed:=if t.m0.isEmpty=U then s0 t else s0 t++(s0 t).map (QN t.m0)
abbrev Ce(t:Tb):O Ed:=if t.m1.isEmpty=U then s1 t else s1 t++t.fs.flatMap (H6 t.m1)
abbrev s3(t:Tb):O Ed:=if t.fg.isEmpty=U then(Ce t).filter AQ else Ce t
abbrev got(t:Tb):O Ed:=s3 t++Vb++rF t
def C2{t:Tb}(hl:Z t.fs<=12):Z (s0 t)<=72:=by
 exact t9 (mU λf _=>LU f) (Nat.mul_le_mul_left 6 hl)
def JF{t:Tb}(hl:Z t.fs<=12):Z (s1 t)<=144:=by
 have h:=C2 hl;exact ite_le (ab h iF) (by rw[aN,ah];exact ab (pU h h) iF)
def C1{t:Tb}(hl:Z t.fs<=12):Z (Ce t)<=216:=by
 have h:=JF hl;exact ite_le (ab h iF) (by exact QI h (mU (l:=t.fs) λf _=>DJ t.m1 f) (Nat.mul_le_mul_left 6 hl))
def JE{t:Tb}(hl:Z t.fs<=12):Z (s3 t)<=216:=ite_le (ab (g8 _ _) (C1 hl)) (C1 hl)
def JR(t:Tb):Z (rF t)<=31:=by
 have h:=By t;have a:=mU (g:=pF t) (l:=HD t) λ_ _=>aw 3;exact ite_le (aY _) (by grind)
abbrev e5(t:Tb)(es:O Ed):eh:=[Y (tb t,J),Y (.tup (t.fs.map jg),J),Y (AW t,J),Y (.lst (es.map kJ),U)]
def DF(t:Tb):im (AW t)=U:=by
 simp only[im,kd,kD,au];exact⟨p0 _,p0 _,p0 _,p0 _⟩
def QO{B:O Ed}(h:bR C c (full (e5 t A))=Y (.bl (!b),f))(e:bR C y (full (e5 t A))=Y (.lst (B.map kJ),U))(k:Go C ss (e5 t (if b=U then A else B)) Q):Go C (.ifs c [.set 3 y] []::ss) (e5 t A) Q:=by
 refine lE (J':=λa=>a=e5 t _) h (λq=>fO e (cX ⟨_,W,?_⟩)) (λq=>cX ⟨_,W,?_⟩) λa h=>by rwa[h]
 .rw[c4 (by simpa using q)];rfl
 .rw[a6 (by simpa using q)]
def G9(B:WM t)(o:Z (got t)<=300):Cn D (n+2) 25 [tb t]=Y (.lst (ND (got t)),U):=by
 have a:=GZ (n:=n) B.hl
 have b:=G8 (n:=n) B.h0 (λe c=>by
  obtain⟨f,hf,h⟩:=fR.mp c;obtain⟨w,_,h⟩:=fR.mp h;unfold Uy at h;split at h
  .rw[aG.mp h];exact⟨f,B.ho f hf,W,W⟩
  .cases h) (ab (C2 B.hl) iF)
 have d:=yW (n:=n) B.h1 B.ho B.hl;have r3:=Ha (n:=n);have g:=Oa (n:=n) B.h2;have l0:=C2 B.hl;have l1:=JF B.hl;have l2:=C1 B.hl;have l3:=JE B.hl;have j:=mU (l:=t.fs) λf _=>DJ t.m1 f;have i:=B.hl;have lf:=JR t;refine iy W ?_;refine iU (sQ W (zq _)) (iU (sQ W (DF t)) (fO a ?_));refine QO (fk W rfl (ze _)) (iH W b (zN _ _ (by rw[ah];exact ab (pU l0 l0) iF))) ?_;refine QO (A:=s1 t) (fk W rfl (ze _)) (iH W d (zN _ _ (QI l1 j (Nat.mul_le_mul_left 6 i)))) ?_;refine lE (J':=λk=>k=e5 t (s3 t)) (fk W rfl (sv _)) (λq=>fO (PN AQ W (ab l2 iF) QK λe _=>⟨J,fk W rfl Y8⟩) (cX ⟨_,W,?_⟩)) (λq=>cX ⟨_,W,?_⟩) ?_
 .show _=e5 t (if t.fg.isEmpty=U then(Ce t).filter AQ else Ce t);rw[a6 q];rfl
 .show _=e5 t (if t.fg.isEmpty=U then(Ce t).filter AQ else Ce t);rw[c4 (show¬t.fg.isEmpty=U by rw[q];decide)]
 .rintro _ rfl;exact gH (iG (iH (iH W r3 (zN _ _ (by exact Nat.add_le_add_right (ab l3 iF) _))) g (zN _ _ (by rw[aN];show _+3+_<=_;exact t9 l3 lf))) (Nx o (by intro e;simp[Vb]at e))) W
end K11E
namespace M
open PySem L2
def A7(ws:O (O T)):eD (T' [32]) (ws.map T')=T' (inter 32 ws):=by
 rw[show eD (T' [32]) (ws.map T')=tv ⟨#[32]⟩ (ws.map T')from nR _ _];refine qm ?_;rw[join_list,bo]
 congr 1
 induction ws with
 |nil=>rfl
 |cons a r b=>rw[ak,b];rfl
def zg{ws:O (O T)}(h:(ws.map (·.length)).sum+Z ws<=1000000):fV .join (.str (T' [32])) [.lst (ws.map λl=>Dat.str (T' l))]=Y (.str (T' (inter 32 ws)),J):=by
 simp only[fV,VB,WW,Yo,O5,TL,yN,bH];rw[a6,A7];rw[nP,bo,ah];have e:(wW ((λx:bw=>x.length) ∘ T') ws)=ws.map (·.length):=du λl _=>nP l;rw[e];simpa using h
theorem oZ(c:T):∀ws:O (O T),Z (inter c ws)<=(ws.map (·.length)).sum+Z ws
 |[]=>by simp[inter]
 |[x]=>by simp[inter]
 |x::y::r=>by
   have a:=oZ c (y::r);simp only[inter,aN,bf,ak,qh]at a ⊢;exact rT a
def E8{ws:O (O T)}(c:ws≠[])(hf:∀w∈ws,32∉w)(hl:(ws.map (·.length)).sum+ws.length<=1000000):fV .split (.str (T' (inter 32 ws))) [.str (T' [32])]=Y (.lst (ws.map λl=>Dat.str (T' l)),U):=by
 have h2:=oZ 32 ws;show(if 0<(T' [32]).length/\(T' (inter 32 ws)).length<=1000000 then Y (Dat.lst ((eL (T' (inter 32 ws)) (T' [32])).map Dat.str),U)else L)=_;rw[a6 ⟨by rw[nP];simp,by rw[nP];exact Nat.le_trans h2 hl⟩,<-A7];rw[show eL (eD (T' [32]) (ws.map T')) (T' [32])=ws.map T' from CP (by simpa using c) (λw b=>by obtain⟨l,a,rfl⟩:=aP.mp b;simpa using hf l a),bo];rfl
theorem xX:∀(a b:O (O T)),b≠[]->inter c (a++[inter c b])=inter c (a++b)
 |[],b,_=>rfl
 |[x],b,h=>by
   cases b with
   |nil=>exact absurd rfl h
   |cons y r=>rfl
 |x::y::r,b,h=>by
   have d:=xX (c:=c) (y::r) b h;simp only[eG,inter]at d ⊢;rw[d]
noncomputable def ct(c:dc):O T:=((aJ 6).filter λi=>c.toNat / 2 ^ i % 2=1).map (·+ 49)
abbrev qY(c:dc):Prop:=1<=c/\c<=63
def UX(c:dc):Z (ct c)<=6:=by
 unfold ct;rw[ah];exact ab (g8 _ _) (by simp)
def QW(c:dc):32∉ct c:=λh=>by
 obtain⟨i,_,e⟩:=aP.mp h;exact Ze (Nat.le_of_eq e)
def XM(h:qY c):∃k:T,c=k/\k<64/\1<=k:=⟨c.toNat,by omega,by omega,by omega⟩
def lZ(cs:O dc):((cs.map ct).map (·.length)).sum<=6 * Z cs:=by
 induction cs with
 |nil=>simp
 |cons a r b=>
   have:=UX a;simp only[ak,qh,bf];exact t9 this b
abbrev tF(cs:O dc):O T:=inter 32 (cs.map ct)
end M
namespace K11E
open PySem L2 M K11
def Bb(h:bR C c ρ=Y (.bl U,f)):bR C (.ite c a b) ρ=bR C a ρ:=by rw[LJ,h];rfl
def sZ(h:bR C c ρ=Y (.bl J,f)):bR C (.ite c a b) ρ=bR C b ρ:=by rw[LJ,h];rfl
def Mr(h:bR C a ρ=Y (.bl U,f))(c:bR C b ρ=Y (.bl U,g)):∃g,bR C (.and a b) ρ=Y (.bl U,g):=Ms h c
def XG(h1:bR C a ρ=Y (x,f))(h2:bR C b ρ=Y (y,g))(h3:bR C c ρ=Y (z,k))(h:ef o x y=Y U)(e:ef t y z=Y U):bR C (.MR o t a b c) ρ=Y (.bl U,J):=by
 rw[UH,h1,h2,bH,bH,h,bH,a6 W,h3,bH,e];rfl
def Hv(h:bR C a ρ=Y (d,f))(b:i6 d=Y ds):ug C (.itv a) ρ=Y ds:=by rw[Px,h];exact b
def LD{P:dc->Prop}{p:T->a7}(h:((aJ 64).all λc=>c == 0 || p c)=U)(hp:∀c:T,p c=U->P (c:T)){c:dc}(B:qY c):P c:=by
 obtain⟨k,rfl,h1,h2⟩:=XM B;have:=aI.mp h k (aO.mpr h1);rw[jf]at this
 rcases this with z|z
 .have:k=0:=by simpa using z
  exact ((Nat.not_le_of_lt h2 (Nat.le_of_eq this))).elim
 .exact hp k z
def RX(n:T):((aJ 64).all λc=>c == 0 || lV (Cn D (n+2) 3 [.int (c:T)]) (Y (sT (ct (c:T)),J)))=U:=by kernel_rfl
def G0(h:qY c):Cn D (n+2) 3 [.int c]=Y (sT (ct c),J):=LD (P:=λc=>Cn D (n+2) 3 [.int c]=Y (sT (ct c),J)) (RX n) (λ_ z=>jr z) h
def Wn(n:T):((aJ 64).all λc=>c == 0 || lV (Cn D (n+3) 5 [sT (ct (c:T))]) (Y (.int (c:T),J)))=U:=by kernel_rfl
def G1(h:qY c):Cn D (n+3) 5 [sT (ct c)]=Y (.int c,J):=LD (P:=λc=>Cn D (n+3) 5 [sT (ct c)]=Y (.int c,J)) (Wn n) (λ_ z=>jr z) h
def Oi(n:T):((aJ 64).all λc=>c == 0 || lV (Cn D (n+1) 2 [.int (c:T)]) (Y (.bl U,J)))=U:=by kernel_rfl
def C5(h:qY c):Cn D (n+1) 2 [.int c]=Y (.bl U,J):=LD (P:=λc=>Cn D (n+1) 2 [.int c]=Y (.bl U,J)) (Oi n) (λ_ z=>jr z) h
def WV(ws:O (O T))(cs:O dc)(h:ws=cs.map ct):cs.map (λc=>sT (ct c))=ws.map λl=>Dat.str (T' l):=by rw[h,bo];rfl
def EB(B:∀c∈cs,qY c)(hl:Z cs<=100):Cn D (n+3) 4 [tI cs]=Y (sT (tF cs),J):=
 iy W (gH (tG W (iX (e:=Dat.int) (g:=λc=>sT (ct c)) (xs:=cs) W (Nat.le_trans hl (by decide)) (λ_ _=>W) λc h=>⟨J,(gp W).trans (G0 (B c h))⟩) (by
  rw[BL,WV _ _ W]
  exact zg (by have:=lZ cs;rw[ah];exact t9 this (Nat.mul_le_mul_left 7 hl)))) W)
def XD(h:qY c):ct c≠[]:=by
 obtain⟨k,rfl,h1,h2⟩:=XM h;have:∀k:Fin 64,k.val=0\/ct (k.val:dc)≠[]:=by decide
 rcases this ⟨k,h1⟩with z|z
 .have:k=0:=z;exact fun z => (Nat.not_le_of_lt h2 (Nat.le_of_eq this))
 .exact z
def Ob(B:∀c∈cs,qY c)(b:cs≠[]):tF cs≠[]:=λe=>by
 match cs,b,e with
 |[c],_,e=>exact XD (B c iT) e
 |c::c2::r,_,e=>simp[tF,inter]at e
theorem Kv:∀cs:O dc,((cs.map Dat.int).any λy=>mw y .non)=J
 |[]=>rfl
 |a::r=>by rw[ak,kC,Kv r];rfl
def xA(B:∀c∈cs,qY c)(b:cs≠[])(hl:Z cs<=100):Cn D (n+4) 6 [sT (tF cs)]=Y (tI cs,J):=by
 refine iy W (jN (fk W rfl (by rw[X9,UN,dd (Ob B b)])) (fO (iX (e:=λc=>sT (ct c)) (g:=Dat.int) (xs:=cs) (Hv (tG W rfl (by
  rw[BL]
  exact E8 (ws:=cs.map ct) (by simpa using b) (λw a=>by obtain⟨c,_,rfl⟩:=aP.mp a;exact QW c) (by have:=lZ cs;rw[ah];exact t9 this (Nat.mul_le_mul_left 7 hl)))) (by rw[WV _ _ W];rfl)) (Nat.le_trans hl (by decide)) (λ_ _=>W) λc h=>⟨J,(gp W).trans (G1 (B c h))⟩) (gH ((sZ (fk W rfl (?_:_=Y J))).trans (iG W rfl)) W)))
 refine(a6 (by rw[uL];rfl)).trans ?_;rw[Kv]
def Mt{b:Type}(xs:O b):e8 .all [.lst (xs.map λ_=>Dat.bl U)]=Y (.bl U,J):=by
 rw[Vj λ_=>U];simp
def uU{lo:dc}(B:∀c∈cs,qY c)(h1:lo<=Z cs)(h2:(cs.length:dc)<=hi)(hl:Z cs<=1000):∃g,Cn D (n+2) 7 [tI cs,.int lo,.int hi]=Y (.bl U,g):=by
 obtain⟨g,e⟩:=Mr (C:=Cn D (n+1)) (ρ:=full [Y (tI cs,J),Y (.int lo,J),Y (.int hi,J)]) (a:=.MR .le .le (.v 1) (.blt .len [.v 0]) (.v 2)) (b:=.blt .all [.comp 1 U [] (.itv (.v 0)) [] (.call 2 [.v 0])])
  (XG W (iG W (K0 cs)) W (dy Y (cb h1)) (dy Y (cb h2)))
  (iG (iX (e:=Dat.int) (g:=λ_=>Dat.bl U) (xs:=cs) W hl (λ_ _=>W) λc h=>⟨J,(gp W).trans (C5 (B c h))⟩) (Mt cs))
 exact⟨g,iy W (gH e W)⟩
def TX:(nX.all λc=>decide (ef .isin (sT [c]) (.str (aa "abcdefghijklmnopqrstuvwxyz"))=Y U))=U:=by kernel_rfl
def AB(h0:l≠[])(B:Z l<=6)(hl:∀c∈l,c∈nX):∃g,Cn D (n+1) 8 [sT l]=Y (.bl U,g):=by
 have h1:0<Z l:=lj.mpr h0
 obtain⟨g,e⟩:=Mr (C:=Cn D n) (ρ:=full [Y (sT l,J)]) (a:=.MR .le .le (.e_ 1) (.blt .len [.v 0]) (.e_ 6)) (b:=.blt .all [.comp 1 U [] (.itv (.v 0)) [] (.cmp .isin (.v 0) (.f_ "abcdefghijklmnopqrstuvwxyz"))])
  (XG W (iG W (len_T (Nat.le_trans B (by decide)))) W (dy Y (cb (Int.ofNat_le.mpr h1))) (dy Y (cb (Int.ofNat_le.mpr B))))
  (iG (iX (e:=λc=>sT [c]) (g:=λ_=>Dat.bl U) (xs:=l) (Hv W uc) (Nat.le_trans B (by decide)) (λ_ _=>W) λc h=>⟨J,fk W rfl (ea (aI.mp TX c (hl c h)))⟩) (Mt l))
 exact⟨g,iy W (gH e W)⟩
def J0(n:T):((aJ 16).all λk=>k == 0 || lV (Cn D (n+1) 9 [sT (vY k)]) (Y (.bl U,J)))=U:=by kernel_rfl
def JK(h1:1<=k)(h2:k<16):Cn D (n+1) 9 [sT (vY k)]=Y (.bl U,J):=by
 have:=aI.mp (J0 n) k (aO.mpr h2);rw[jf]at this
 rcases this with z|z
 .have:k=0:=by simpa using z
  exact ((Nat.not_le_of_lt h1 (Nat.le_of_eq this))).elim
 .exact jr z
structure gF(f:Fm):Prop extends o:IC f where
 cr:∀c∈f.2.1,qY c
def uS(h:gF f):∃g,Cn D (n+3) 10 [jg f]=Y (.bl U,g):=by
 obtain⟨k,k1,k2,k3⟩:=h.pp;obtain⟨d,r1⟩:=AB (n:=n+1) h.ne h.ll h.low;obtain⟨i,r2⟩:=uU (n:=n) (cs:=f.2.1) (lo:=1) (hi:=4) h.cr (by have:=h.c1;exact Int.ofNat_le.mpr this) (by have:=h.cl;exact Int.ofNat_le.mpr this) (by have:=h.cl;exact Nat.le_trans this (by decide));have r3:=JK (n:=n+1) k1 k2;rw[<-k3]at r3
 obtain⟨j,c⟩:=Mr (C:=Cn D (n+2)) (ρ:=full [Y (jg f,J)]) (a:=.call 7 [.ix (.v 0) (.e_ 1),.e_ 1,.e_ 4]) (b:=.call 9 [.ix (.v 0) (.e_ 2)])
  ((tm (m9 W rfl rfl) W rfl).trans r2) ((gp (m9 W rfl rfl)).trans r3)
 obtain⟨g,e⟩:=Mr (a:=.call 8 [.ix (.v 0) (.e_ 0)]) ((gp (m9 W rfl rfl)).trans r1) c;exact⟨g,iy W (gH e W)⟩
noncomputable def ltN(a b:T):a7:=decide (a<b)
def Zi:M.LO ltN:=⟨λx=>by simp[ltN],λx y z h a=>by simp[ltN]at *;exact dn h a,λx y h a=>by simp[ltN]at *;exact bu a h⟩
def lt1(a b:T):pq (T' [a]) (T' [b])=ltN a b:=by
 refine decide_eq_decide.mpr ⟨λh=>?_,λh=>(List.Lex.rel h)⟩
 .cases h with
  |rel h=>exact h
  |cons h=>cases h
theorem Bg{c e:Type}{lt:c->c->a7}{B:e->e->a7}{g:c->e}(h:∀a b,B (g a) (g b)=lt a b)(x:c):∀l:O c,vp B (g x) (l.map g)=(vp lt x l).map g
 |[]=>rfl
 |y::d=>by
   simp only[ak,vp,h];split
   .rfl
   .split
    .rw[Bg h x d];rfl
    .rfl
theorem xn{c e:Type}{lt:c->c->a7}{B:e->e->a7}{g:c->e}(h:∀a b,B (g a) (g b)=lt a b):∀l:O c,dz B (l.map g)=(dz lt l).map g
 |[]=>rfl
 |x::l=>by simp only[ak,dz,xn h l,Bg h]
theorem Bf{c e:Type}{lt:c->c->a7}{B:e->e->a7}{g:c->e}(h:∀a b,B (g a) (g b)=lt a b)(x:c):∀l:O c,wD B (g x) (l.map g)=(wD lt x l).map g
 |[]=>rfl
 |y::d=>by
   simp only[ak,wD,h];split
   .rw[Bf h x d];rfl
   .rfl
theorem xf{c e:Type}{lt:c->c->a7}{B:e->e->a7}{g:c->e}(h:∀a b,B (g a) (g b)=lt a b):∀l:O c,i8 B (l.map g)=(i8 lt l).map g
 |[]=>rfl
 |x::l=>by simp only[ak,i8,xf h l,Bf h]
abbrev c1(l:O T):O Dat:=l.map λc=>sT [c]
def RB{l:O T}(h:Z l<4000)(B:Z (dz ltN l)<64):e8 .sset [.str (T' l)]=Y (.lst (c1 (dz ltN l)),U):=by
 show sP (dG _)=_;rw[yT];unfold sP;rw[xn lt1,a6 ⟨by simp_all,by simp_all⟩,bo];rfl
def RP{l:O T}(h:Z l<64):e8 .sorted [.str (T' l)]=Y (.lst (c1 (i8 ltN l)),U):=by
 show xu (dG _)=_;rw[yT];unfold xu;rw[xf lt1,a6 (by simp_all),bo];rfl
def XS(l:O T):c1 l=(l.map λc=>[c]).map λl=>Dat.str (T' l):=by rw[bo];rfl
def join_1{l:O T}(h:Z l<=1000):fV .join (.str (T' [])) [.lst (c1 l)]=Y (.str (T' l),J):=by
 have:=Fb (by rw[YN];exact ab h iF);rwa[Xs,<-XS]at this
noncomputable def lets(fs:O Fm):O T:=(fs.map (·.1)).flatten
def U'(fs:O Fm):O T:=dz ltN (lets fs)
def KZ(ho:∀f∈fs,IC f):Z (lets fs)<=6 * Z fs:=by
 induction fs with
 |nil=>simp[lets]
 |cons f r c=>
   have a:=c λg m=>ho g (kc _ m);simp only[lets,ak,List.flatten_cons,aN,bf]at a ⊢;exact t9 ((ho f iT).ll) a
def KN:c∈U' fs↔∃f∈fs,c∈f.1:=by
 rw[U',c7 Zi];unfold lets;simp
def Ra(ho:∀f∈fs,IC f):∀c∈U' fs,c∈nX:=λc a=>by
 obtain⟨f,h3,h2⟩:=KN.mp a;exact(ho f h3).low c h2
def Mx(ho:∀f∈fs,IC f):Z (U' fs)<=26:=pW (gm Zi (eU Zi _)) λc a=>Ra ho c a
def xC{fs:O Fm}(h:Z fs<=100)(ho:∀f∈fs,IC f):Cn D (n+1) 11 [.tup (fs.map jg)]=Y (sT (U' fs),J):=by
 refine p3 W ?_;have h1:=iX (C:=Cn D n) (ρ:=[Y (.tup (fs.map jg))]) (caps:=[]) (it:=.itv (.v 0)) (elt:=.ix (.v 0) (.e_ 0)) W (ab h iF) (λ_ _=>W) λf _=>⟨J,W⟩
 have hl:=KZ ho
 have h2:fV .join (.str (T' [])) [.lst (fs.map λf=>sT f.1)]=Y (.str (T' (lets fs)),J):=by
  rw[show(fs.map λf=>sT f.1)=(fs.map (·.1)).map λl=>.str (T' l) by rw[bo];rfl];refine Fb ?_
  have e:((fs.map (·.1)).map (·.length)).sum=Z (lets fs):=by
   unfold lets;rw[List.length_flatten]
  exact QI (Nat.le_of_eq e) hl (Nat.mul_le_mul_left 6 h)
 have a:=Mx ho;have h3:=RB (t9 hl (Nat.mul_le_mul_left 6 h)) (bh a iF);have b:=join_1 (ab a iF);exact Oe (tG W (iG (tG W h1 h2) h3) b)
def slB:((aJ 11).all λk=>lV (Iy (.str (T' kR)) L (Y (k:T))) (Y (.str (T' (kR.take k)),J)))=U:=by kernel_rfl
def YO(h:k<=10):Iy (.str (T' kR)) L (Y (k:T))=Y (.str (T' (kR.take k)),J):=jr (aI.mp slB k (aO.mpr (dm h)))
noncomputable def IB(t:Tb)(u:O T):O T:=if t.m0.isEmpty=U then []else u.map (·- 32)
def raw(t:Tb):O T:=[32]++kR.take (Z t.fg)++IB t (U' t.fs)++U' t.fs
def Fv(t:Tb)(u:O T):Z (IB t u)<=Z u:=by
 unfold IB;split
 .exact aY _
 simp
def Xv(B:∀c∈u,c∈nX)(hl:Z u<=1000):bR C (.ite (.cmp .eq (.ix (.ix (.v 0) (.e_ 1)) (.e_ 0)) (.tup [])) (.f_ "") (.gG .upper (.v 1) [])) [Y (tb t),Y (sT u),a,b]=Y (sT (IB t u),J):=by
 have h:bR C (.cmp .eq (.ix (.ix (.v 0) (.e_ 1)) (.e_ 0)) (.tup [])) [Y (tb t),Y (sT u),a,b]=Y (.bl t.m0.isEmpty,J):=by
  show(ef _ (tI _) (.tup [])).map _=_;rw[sv];rfl
 rw[FG h W];unfold IB;cases t.m0.isEmpty
 .exact yK B hl
 .rfl
abbrev sg(t:Tb):O T:=i8 ltN (raw t)
def RY:c∈sg t↔c∈raw t:=(hX _).mem_iff
def RZ(B:WM t):0<Z (sg t)/\Z (sg t)<=63:=by
 have a:=Mx B.ho;have b:=Fv t (U' t.fs);have c:Z (kR.take t.fg.length)<=10:=by rw[eF];exact iP _ _
 rw[(hX _).length_eq];show 0<Z ([32]++kR.take (Z t.fg)++IB t (U' t.fs)++U' t.fs)/\Z ([32]++kR.take (Z t.fg)++IB t (U' t.fs)++U' t.fs)<=63;simp only[aN,bf,je];exact ⟨(lw0),(QI c b (Nat.mul_le_mul_left 2 a))⟩
def xx(B:WM t):Cn D (n+2) 17 [tb t]=Y (sT (sg t),J):=by
 show _=Y (sT (i8 ltN (raw t)),J);have r:=xC (n:=n) (fs:=t.fs) (by have:=B.hl;exact Nat.le_trans this (by decide)) B.ho;have m:=Mx B.ho;have low:=Ra B.ho;have o:=Fv t (U' t.fs);have q:Z (kR.take t.fg.length)<=10:=by rw[eF];exact iP _ _
 have h:raw t=[32]++kR.take (Z t.fg)++IB t (U' t.fs)++U' t.fs:=rfl;have d:Z (raw t)<64:=by rw[h];simp only[aN,bf,je];exact QI q o (Nat.mul_le_mul_left 2 m)
 have j:=B0 (a:=[32]) (b:=kR.take t.fg.length) (by simp only[bf,je];exact Nat.le_trans (Nat.add_le_add_left q _) (by decide));have k:=B0 (a:=[32]++kR.take t.fg.length) (b:=IB t (U' t.fs)) (by simp only[aN,bf,je];exact QI q o m);have c:=B0 (a:=[32]++kR.take (Z t.fg)++IB t (U' t.fs)) (b:=U' t.fs) (by simp only[aN,bf,je];exact QI q o (Nat.mul_le_mul_left 2 m));have s:=RP d;have e:=join_1 (l:=i8 ltN (raw t)) (by rw[(hX _).length_eq];exact Nat.le_of_lt (Nat.le_trans d (by decide)));have f:=YO B.hf;rw[<-h]at c;refine p3 W ?_;generalize Cn D (n+1)=C at r ⊢;generalize i8 ltN (raw t)=R at s e ⊢;generalize raw t=X at c s e;show gJ C (.set 1 _::.set 2 _::.set 3 (.sl (.f_ "0123456789") L (Y (.blt .len [.ix (.v 0) (.e_ 2)])))::.ret (.gG .join (.f_ "") [.blt .sorted [.bin .add (.bin .add (.bin .add (.f_ " ") (.v 3)) (.v 2)) (.v 1)]])::[]) [Y (tb t,J),L,L,L]=_;have s1:td C (.set 1 (.call 11 [.ix (.v 0) (.e_ 0)])) [Y (tb t,J),L,L,L]=Y (.nx [Y (tb t,J),Y (sT (U' t.fs),J),L,L]):=sQ r W;rw[tX s1];generalize p:U' t.fs=u at *;have s2:=sQ (C:=C) (i:=2) (ρ:=[Y (tb t,J),Y (sT u,J),L,L]) (Xv low (Nat.le_trans m (by decide))) W;rw[tX s2];generalize IB t u=g at *
 have s3:td C (.set 3 (.sl (.f_ "0123456789") L (Y (.blt .len [.ix (.v 0) (.e_ 2)])))) [Y (tb t,J),Y (sT u,J),Y (sT g,J),L]=Y (.nx [Y (tb t,J),Y (sT u,J),Y (sT g,J),Y (sT (kR.take t.fg.length),J)]):=by
  refine sQ (fl:=J) ?_ W;rw[show aa "0123456789"=T' kR from Qe];exact NP W (iG W (K0 t.fg)) f
 show gJ C _ [Y (tb t,J),Y (sT u,J),Y (sT g,J),L]=_;rw[tX s3];refine Oe ?_;rw[X9,BL];generalize kR.take (Z t.fg)=F at j k c ⊢;exact tG W (iG (iH (iH (iH W rfl j) W k) W c) s) e
def UD{ds:O Dat}(h:Z ds=np)(B:gJ C body (ds.map (λd=>Y (d,J))++eO (nl - np) L)=Y (.nx ρ)):LG C np nl body ds=Y (.non,J):=by
 unfold LG;rw[a6 h,B];rfl
structure xH(t:Tb):Prop extends o:WM t where
 ne:t.fs≠[]
 cr:∀f∈t.fs,∀c∈f.2.1,qY c
 nd:(t.fs.map ent).Nodup
 own:∀f∈t.fs,∀c∈f.1,∃g∈t.fs,g.1=[c]/\g.2.2=Ci
 r0:∀c∈t.m0,qY c
 r1:∀c∈t.m1,qY c
 r2:∀c∈t.m2,qY c
 r3:∀c∈t.m3,qY c
 rf:∀c∈t.fg,qY c
 k1:t.m1≠[]->t.m0≠[]
 k2:t.m2=[]↔t.fg=[]
 k3:t.m3=[]↔t.fg=[]
def xH.gf(h:xH t)(hf:f∈t.fs):gF f:=⟨h.ho f hf,h.cr f hf⟩
noncomputable abbrev ms(t:Tb):O (O dc):=[t.m0,t.m1,t.m2,t.m3]
def xH.mk'(h:xH t):∀m∈ms t,Z m<=2/\∀c∈m,qY c:=λm a=>by
 simp only[aq,aQ,eg]at a
 rcases a with rfl|rfl|rfl|rfl
 .exact⟨h.h0,h.r0⟩
 .exact⟨h.h1,h.r1⟩
 .exact⟨h.h2,h.r2⟩
 .exact⟨h.h3,h.r3⟩
theorem FJ{b:Type}(g:b->Dat):∀(k:T)(xs:O b),nY k (xs.map g)=(xs.zipIdx k).map λp=>.tup [.int (p.2:T),g p.1]
 |_,[]=>rfl
 |k,x::xs=>by rw[ak,nY,FJ g (k+1) xs,fm,ak]
def Dv{b:Type}{xs:O b}(g:b->Dat)(B:bR C a (xg (M.kH a.fv ρ))=Y (d,f))(hd:NZ d=Y (xs.map g)):td C (.loop J c (.enu a) body) ρ=iw (gr J c) (gJ C body) (xs.zipIdx.map λp=>.tup [.int (p.2:T),g p.1]) (M.kH a.fv ρ):=by
 show(BA C (.enu a) ρ).bind _=_;simp only[BA,ug,B,bH,hd,bW,FJ]
def Fx{ds:O Dat}(b:Z ds=np)(h:Go (Cn D n) body (ds.map (λd=>Y (d,J))++eO (nl - np) L) λo=>∃ρ,o=.nx ρ):LG (Cn D n) np nl body ds=Y (.non,J):=by
 obtain⟨_,h1,ρ,rfl⟩:=h;exact UD b h1
def KJ{b:Type}{xs:O b}{us vs:O (b×T)}{x:b×T}(h:xs.zipIdx=us++x::vs):x.1∈xs:=by
 have:x∈xs.zipIdx:=by rw[h];simp
 exact List.fst_mem_of_mem_zipIdx this
def Tw(h:bR C a ρ=Y (.bl U,g)):bR C (.not a) ρ=Y (.bl J,J):=by rw[UE,h];rfl
def Sr(h:xH t):Cn D (n+4) 12 [.tup (t.fs.map jg)]=Y (.non,J):=by
 have h1:0<Z t.fs:=lj.mpr h.ne;have h2:=h.hl;have el:e8 .len [.tup (t.fs.map jg)]=Y (.int (t.fs.length:T),J):=by rw[vN,ah]
 have i:fU 19 (Dat.int (t.fs.length:T))=U:=rfl;refine Fx W (jN (fk (iG W el) W (dy Y (dd (show¬(t.fs.length:dc)=0 by omega)))) (jN (fk (iG W el) W (dy Y (dd (show¬(24:dc)<(Z t.fs) by omega)))) ?_));refine mT (I:=λ_ d=>∃a b,d=[Y (.tup (t.fs.map jg),J),a,b]) (Dv (xs:=t.fs) jg W rfl) ⟨_,_,W⟩ ?_ λd c=>⟨_,W,d,W⟩
 rintro us ⟨f,k⟩ vs _ e ⟨a,b,rfl⟩;obtain⟨g,r⟩:=uS (n:=n) (h.gf (KJ e));exact⟨_,W,jN (Tw ((gp W).trans r)) (cX ⟨_,W,_,_,W⟩)⟩
def nk(f:Fm):O NK:=[.inl (.inr (T' f.1)),.inr (f.2.1.map VC)]
abbrev lO(f:Fm):Dat:=.tup [sT f.1,tI f.2.1]
def EZ(f:Fm):vb (lO f)=Y (nk f):=by
 simp only[vb,TC,Yn,pX,bW,bH,nk]
def Kz(h:nk f=nk g):ent f=ent g:=by
 simp only[nk,cM,v3,vZ,oa]at h;exact lT (My h.1) (Fo h.2)
def Ay(pre:O Fm):Dat:=match pre with
 |[]=>.dct [] []
 |_=>.dcn (pre.map nk)
def N0{pre:O Fm}(h:ent f∉pre.map ent):ef .isin (lO f) (Ay pre)=Y J:=by
 cases pre with
 |nil=>
   show(if U=U then(vb (lO f)).map λ_=>J else L)=_;rw[EZ];rfl
 |cons a r=>
   show(vb (lO f)).map (λk=>decide (k∈(a::r).map nk))=_;rw[EZ];refine dy Y (dd λm=>?_);obtain⟨g,b,e⟩:=aP.mp m;exact h (aP.mpr ⟨g,b,Kz e⟩)
def Jy{pre:O Fm}(h:ent f∉pre.map ent)(hl:Z pre<1000):mQ .dput (Ay pre) [.bl U,lO f]=Y (Ay (pre++[f])):=by
 cases pre with
 |nil=>
   show(if U=U then(vb (lO f)).map λk=>Dat.dcn [k]else L)=_;rw[EZ];rfl
 |cons a r=>
   show(vb (lO f)).bind (λk=>if((a::r).map nk).length<aD/\k∉(a::r).map nk then Y (Dat.dcn ((a::r).map nk++[k]))else L)=_
   have b:nk f∉(a::r).map nk:=λm=>by
    obtain⟨g,c,e⟩:=aP.mp m;exact h (aP.mpr ⟨g,c,Kz e⟩)
   rw[EZ,bH,a6 ⟨by rw[ah,cY];exact Nat.le_trans hl (by decide),b⟩];simp[Ay]
def DG(f:Fm):im (lO f)=U:=by
 show(U && (kd (f.2.1.map Dat.int) && U))=U;rw[qD];rfl
def Rj{b:Type}{xs:O b}{us vs:O (b×T)}{x:b×T}(h:xs.zipIdx=us++x::vs):xs=us.map (·.1)++x.1::vs.map (·.1):=by
 have:=dy (wW (·.1)) h;rw[bK,ak]at this;rw[<-this,List.zipIdx_map_fst]
def Sn(h:xH t):Cn D (n+1) 13 [.tup (t.fs.map jg)]=Y (.non,J):=by
 have h2:=h.hl;refine Fx W (iU (ρ1:=[Y (.tup (t.fs.map jg),J),Y (.dct [] [],U),L,L,L]) W ?_);refine mT (I:=λus i=>∃b c j,i=[Y (.tup (t.fs.map jg),J),Y (Ay (us.map (·.1)),U),b,c,j]) (Dv (xs:=t.fs) jg W rfl) ⟨_,_,_,W⟩ ?_ λi g=>⟨_,W,i,W⟩
 rintro us ⟨f,k⟩ vs _ e ⟨b,c,j,rfl⟩;have d:=Rj e
 have a:ent f∉(us.map (·.1)).map ent:=λm=>by
  have l:=h.nd;rw[d,bK,bV]at l;exact l.2.2 _ m _ (by simp) W
 have hl:Z (us.map (·.1))<1000:=by
  have:=dy jo d;rw[aN]at this;exact t9 (Nat.le_of_eq this.symm) h2
 refine⟨_,W,dZ (P:=(·= lO f)) ⟨_,_,W,DG f,W⟩ ?_⟩;rintro _ rfl
 refine jN (fk W rfl (N0 a)) (iU (vc W (ds:=[.bl U,lO f]) (by
  rw[bQ,bQ];show Y (_,(_ || im (lO f)) && U)=_
  rw[DG];rfl) (Jy a hl)) (cX ⟨_,W,_,_,_,by rw[bK];rfl⟩))
def EC{m:O dc}(b:Z m<=k/\∀c∈m,qY c)(B:k<=100):∃g,Cn D (n+2) 7 [tI m,.int 0,.int (k:T)]=Y (.bl U,g):=uU b.2 (by omega) (by omega) (by omega)
def XZ(h:(ms t)[k]?=Y m):Dz (AW t) (.int (k:T))=Y (tI m):=by
 show yt _ _=_;exact kT (by rw[show [tI t.m0,tI t.m1,tI t.m2,tI t.m3]=(ms t).map tI from rfl,aV,h];rfl)
def WS(h:a=b):ef .ne (.bl a) (.bl b)=Y J:=by subst h;cases a<;>rfl
def PC(h:a=[]↔b=[]):a.isEmpty=b.isEmpty:=by
 rw[kX,iN,iN];exact h
def So(h:xH t):Cn D (n+3) 14 [AW t,tI t.fg]=Y (.non,J):=by
 refine Fx W (mT (I:=λ_ ρ=>∃c d,ρ=[Y (AW t,J),Y (tI t.fg,J),c,d]) (Dv (xs:=ms t) tI W rfl) ⟨_,_,W⟩ ?_ ?_)
 .rintro us ⟨m,k⟩ vs _ e ⟨c,d,rfl⟩;obtain⟨g,r⟩:=EC (n:=n) (k:=2) (h.mk' m (KJ e)) (by decide);exact⟨_,W,jN (Tw ((tm W rfl rfl).trans r)) (cX ⟨_,W,_,_,W⟩)⟩
 rintro _ ⟨c,d,rfl⟩;obtain⟨g,r⟩:=EC (n:=n) (k:=10) ⟨h.hf,h.rf⟩ (by decide);obtain⟨o,f⟩:=Ms (C:=Cn D (n+2)) (ρ:=full [Y (AW t,J),Y (tI t.fg,J),c,d]) (a:=.cmp .ne (.ix (.v 0) (.e_ 1)) (.tup [])) (b:=.cmp .eq (.ix (.v 0) (.e_ 0)) (.tup [])) (fk (m9 W rfl rfl) W (ze t.m1)) (fk (m9 W rfl rfl) W (sv t.m0))
 rw[show(!t.m1.isEmpty && t.m0.isEmpty)=J by
  cases j:t.m1 with
  |nil=>rfl
  | cons a r=>cases l:t.m0 with
    |nil=>exact absurd l (h.k1 (by rw[j];exact nofun))
    |cons=>rfl]at f
 refine jN (Tw ((tm W rfl (iG W (by rw[show aa "0123456789"=T' kR from Qe];rfl))).trans r)) (jN f ?_);refine mT (V:=λk:T=>.int (k:T)) (xs:=[2,3]) (I:=λ_ ρ=>∃c d,ρ=[Y (AW t,J),Y (tI t.fg,J),c,d]) (pZ W rfl rfl) ⟨_,_,W⟩ ?_ λρ p=>⟨_,W,ρ,W⟩
 rintro us k vs _ e ⟨c,d,rfl⟩;have i:k∈[2,3]:=by rw[e];simp
 obtain⟨m,q,hi⟩:∃m,(ms t)[k]?=Y m/\(m=[]↔t.fg=[]):=by
  simp only[aq,aQ,eg]at i
  rcases i with rfl|rfl
  .exact⟨_,W,h.k2⟩
  .exact⟨_,W,h.k3⟩
 exact⟨_,W,jN (fk (fk (m9 W rfl (XZ q)) W (sv m)) (fk W rfl (sv t.fg)) (WS (PC hi))) (cX ⟨_,W,_,_,W⟩)⟩
def alone(fs:O Fm):O (O T):=(fs.filter λf=>decide (f.2.2=Ci)).map (·.1)
def L6{C:Fs}{ρ:gZ}{o:Type}{caps:O T}{it:Iw}{c elt:Ex}{xs:O o}{e g:o->Dat}(p:o->a7)(hi:ug C it ρ=Y (xs.map e))(hl:Z xs<=1000)(u:∀x,im (g x)=U)(h:∀x∈xs,∃f,bR C c ((ja 1 caps ρ).set 0 (Y (e x)))=Y (.bl (p x),f))(t:∀x∈xs,∃f,bR C elt ((ja 1 caps ρ).set 0 (Y (e x)))=Y (g x,f)):bR C (.comp 1 U caps it [c] elt) ρ=Y (.lst ((xs.filter p).map g),U):=by
 refine o5 hi (by rw[ah];exact Nat.le_trans hl (by decide)) ?_;clear hi hl
 induction xs with
 |nil=>rfl
 |cons x xs d=>
   obtain⟨f,hf⟩:=h x iT;obtain⟨i,a⟩:=t x iT;rw[ak,pY,BI hf W,d (λy b=>h y (kc _ b)) λy b=>t y (kc _ b),a];cases q:p x<;>simp[q,u]
def WQ{ws:O (O T)}(h:c∈ws):ef .nin (sT c) (.lst (ws.map sT))=Y J:=by
 have a:∀k,dE k (ws.map sT)=U:=λk=>by rw[show ws.map sT=(ws.map T').map Dat.str by rw[bo];rfl];exact yU k _
 show(if fU 20 (sT c) && dE 20 (ws.map sT)then Y (!((ws.map sT).any λy=>mw y (sT c)))else L)=_;rw[a];show Y (!((ws.map sT).any λy=>mw y (sT c)))=_;refine dy Y ?_;rw[fw.mpr ⟨_,bC h,by show(T' c == T' c)=U;exact f5 _⟩];rfl
def Sq(h:xH t):Cn D (n+2) 15 [.tup (t.fs.map jg)]=Y (.non,J):=by
 have h2:=h.hl;have r:=xC (n:=n) (fs:=t.fs) (Nat.le_trans h2 (by decide)) h.ho;refine Fx W (fO (ds:=(alone t.fs).map sT) ((L6 (xs:=t.fs) (e:=jg) (g:=λf=>sT f.1) (λf=>decide (f.2.2=Ci)) W (Nat.le_trans h2 (by decide)) (λ_=>W) (λf _=>⟨J,fk (m9 W rfl rfl) W (by rw[WBT,UN])⟩) λf _=>⟨J,m9 W rfl rfl⟩).trans (by unfold alone;rw[bo];rfl)) ?_);refine mT (V:=λc:T=>sT [c]) (xs:=U' t.fs) (I:=λ_ k=>∃z,k=[Y (.tup (t.fs.map jg),J),Y (.lst ((alone t.fs).map sT),U),z]) (pZ ((gp W).trans r) uc W) ⟨_,W⟩ ?_ λk j=>⟨_,W,k,W⟩
 rintro us c vs _ e ⟨z,rfl⟩;obtain⟨f,hf,a⟩:=KN.mp (show c∈U' t.fs by rw[e];simp);obtain⟨g,b,d,i⟩:=h.own f hf c a;exact⟨_,W,jN (fk W rfl (WQ (aP.mpr ⟨g,kW.mpr ⟨b,cb i⟩,d⟩))) (cX ⟨_,W,_,W⟩)⟩
def zu(h:bR C e (full ρ)=Y (d,f))(k:Go C ss ρ Q):Go C (.exp e::ss) ρ Q:=iU (by rw[Pu,h];rfl) k
def QJ(t:Tb):im (tb t)=U:=by
 show(kd _ && (im _ && (im (tI _) && U)))=U;rw[zq,DF,p0];rfl
abbrev XA(t:Tb):eh:=[Y (.lst (t.fs.map jg),J),Y (.lst [tI t.m0,tI t.m1,tI t.m2,tI t.m3],J),Y (tI t.fg,J),L]
def JH(h:xH t):Cn D (n+5) 16 [.lst (t.fs.map jg),.lst [tI t.m0,tI t.m1,tI t.m2,tI t.m3],tI t.fg]=Y (tb t,J):=by
 have a:bR (Cn D (n+4)) (.comp 1 U [] (.itv (.v 1)) [] (.blt .tuple [(.v 0)])) (full (XA t))=Y (.lst ((ms t).map tI),U):=
  iX (xs:=ms t) (e:=tI) (g:=tI) W (by show 4<=1000;decide) (λm _=>p0 m) λm _=>⟨_,iG W rfl⟩
 have b:bR (Cn D (n+4)) (.blt .tuple [.v 0]) (full (XA t))=Y (.tup (t.fs.map jg),J):=iG W rfl;have c:bR (Cn D (n+4)) (.blt .tuple [.comp 1 U [] (.itv (.v 1)) [] (.blt .tuple [(.v 0)])]) (full (XA t))=Y (AW t,J):=iG a W;have d:bR (Cn D (n+4)) (.blt .tuple [.v 2]) (full (XA t))=Y (tI t.fg,J):=iG W rfl;refine iy W ?_;show Go _ b16 (XA t) _;refine dZ (P:=(·= tb t)) ⟨_,_,(by rw[nD,bQ,b,bQ,c,bQ,d];rfl),QJ t,W⟩ ?_;rintro _ rfl;exact zu ((gp (m9 W rfl rfl)).trans (Sr h)) (zu ((gp (m9 W rfl rfl)).trans (Sn h)) (zu ((FT (m9 W rfl rfl) (m9 W rfl rfl)).trans (So h)) (zu ((gp (m9 W rfl rfl)).trans (Sq h)) ⟨_,W,W⟩)))
noncomputable def sO:O T:=[102,111,114,109]
def SF:aa "form"=T' sO:=by decide +kernel
def KW:T->O T
 |0=>sO
 |1=>[103,114,101,97,116]
 |2=>[97,108,108]
 |3=>[110,117,109,98,101,114]
 |4=>[108,101,116,116,101,114]
 |_=>[102,105,103,117,114,101,115]
abbrev LW:O Dat:=[sT (KW 0),sT (KW 1),sT (KW 2),sT (KW 3),sT (KW 4),sT (KW 5)]
def LWe:[Dat.str (aa "form"),.str (aa "great"),.str (aa "all"),.str (aa "number"),.str (aa "letter"),.str (aa "figures")]=LW:=
 dy (wW Dat.str) (show ["form","great","all","number","letter","figures"].map aa=([0,1,2,3,4,5].map KW).map T' by decide +kernel)
def TR{b:Type}{xs:O b}(g:b->Dat)(B:lH C es (xg (M.kH (LA es) ρ))=Y ds)(c:Eg ds=Y (xs.map g)):td C (.loop J e (.zip es) body) ρ=iw (gr J e) (gJ C body) (xs.map g) (M.kH (LA es) ρ):=by
 show(BA C (.zip es) ρ).bind _=_;simp only[BA,ug,B,bH,c,bW]
def wF(f:Fm):O (O T):=[sO,f.1,f.2.2]++f.2.1.map ct
abbrev kM(f:Fm):O T:=inter 32 (wF f)
abbrev sV(k:T)(cs:O dc):O T:=inter 32 (KW k::cs.map ct)
def pp4(h:IC f):Z f.2.2<=4:=by
 obtain⟨k,k1,k2,k3⟩:=h.pp;rw[k3];exact J2 k2
def C4(h:gF f):Cn D (n+4) 26 [jg f]=Y (sT (kM f),J):=by
 have hl:=h.cl;have g:=h.ll;have hp:=pp4 h.o;have a:Z (tF f.2.1)<=_:=oZ 32 (f.2.1.map ct);have c:=lZ f.2.1;rw[ah]at a;have e:inter 32 [sO,f.1,f.2.2,tF f.2.1]=kM f:=xX [sO,f.1,f.2.2] (f.2.1.map ct) λz=>by have:=h.c1;rw[Gu]at z;rw[z]at this;simp at this
 have b:=zg (ws:=[sO,f.1,f.2.2,tF f.2.1]) (by simp[sO];exact a4 g hp a c (Nat.mul_le_mul_left 7 hl));rw[e]at b;refine iy W (gH (tG W (?_:_=Y (.lst ([sO,f.1,f.2.2,tF f.2.1].map sT),U)) (by rw[BL];exact b)) W);rw[LH,bQ,vE,bQ,m9 (d:=sT f.1) W rfl rfl,bQ,m9 (d:=sT f.2.2) W rfl rfl,bQ,(gp (m9 W rfl rfl)).trans (EB h.cr (Nat.le_trans hl (by decide))),SF];rfl
abbrev mk(p:T×O dc):O (O T):=if p.2.isEmpty=U then []else [sV p.1 p.2]
noncomputable abbrev ps(t:Tb):O (T×O dc):=[(1,t.m0),(2,t.m1),(3,t.m2),(4,t.m3),(5,t.fg)]
abbrev Zj(t:Tb):O (O T):=t.fs.map kM++(ps t).flatMap mk
def xH.p(h:xH t):∀p∈ps t,(1<=p.1/\p.1<=5)/\(p.2.length:dc)<=(if p.1=5 then 10 else 2)/\∀c∈p.2,qY c:=λp hp=>by
 have h0:=h.h0;have h1:=h.h1;have h2:=h.h2;have h3:=h.h3;have hf:=h.hf;simp only[aq,aQ,eg]at hp
 rcases hp with rfl|rfl|rfl|rfl|rfl
 .exact⟨by simp,by simp;exact Int.ofNat_le.mpr h0,h.r0⟩
 .exact⟨by simp,by simp;exact Int.ofNat_le.mpr h1,h.r1⟩
 .exact⟨by simp,by simp;exact Int.ofNat_le.mpr h2,h.r2⟩
 .exact⟨by simp,by simp;exact Int.ofNat_le.mpr h3,h.r3⟩
 .exact⟨by simp,by simp;exact Int.ofNat_le.mpr hf,h.rf⟩
def K3(k:T):Z (KW k)<=7:=by unfold KW;split<;>decide
def KY(b:cs≠[]):KW k++[32]++tF cs=sV k cs:=by
 cases cs with
 |nil=>exact absurd rfl b
 |cons c r=>show _=KW k++32::tF (c::r);rw[aK];rfl
def C3(h:xH t):Cn D (n+5) 27 [tb t]=Y (.lst ((Zj t).map sT),U):=by
 have hl:=h.hl;refine iy W (fO (ds:=(t.fs.map kM).map sT) ((iX (xs:=t.fs) (e:=jg) (g:=λf=>sT (kM f)) (Hv (m9 W rfl rfl) W) (Nat.le_trans hl (by decide)) (λ_ _=>W) λf hf=>⟨J,(gp W).trans (C4 (h.gf hf))⟩).trans (by rw[bo];rfl)) ?_);refine mT (V:=λp:T×O dc=>.tup [sT (KW p.1),tI p.2]) (xs:=ps t) (I:=λus y=>∃d i,y=[Y (tb t,J),Y (.lst ((t.fs.map kM++us.flatMap mk).map sT),U),d,i]/\Z us<=5) (ρ0:=[Y (tb t,J),Y (.lst ((t.fs.map kM).map sT),U),L,L]) ?_ ⟨_,_,by rw[nO,aS],aY _⟩ ?_ ?_
 .exact TR (ds:=[.tup (LW.drop 1),.tup ((ms t).map tI++[tI t.fg])]) (xs:=ps t) (λp=>.tup [sT (KW p.1),tI p.2]) (by rw[LWe];rfl) W
 .rintro us ⟨k,m⟩ vs _ e ⟨d,i,rfl,v⟩;obtain⟨⟨k1,w⟩,A,l⟩:=h.p (k,m) (by rw[e];simp)
  have o:Z m<=10:=by
   have:(m.length:dc)<=(if k=5 then 10 else 2):=A;split at this<;>omega
  have q:Z us<5:=oA e;have r:Z (us.flatMap mk)<=1 * Z us:=mU λp _=>by show(if _ then _ else _:O _).length<=1;split<;>simp
  refine⟨_,W,lE (J':=λy=>∃d i,y=[Y (tb t,J),Y (.lst ((t.fs.map kM++us.flatMap mk++mk (k,m)).map sT),U),d,i]) (fk W rfl (ze m)) (λc=>?_) (λc=>?_) λs B=>?_⟩
  .have hb:m.isEmpty=J:=by simpa using c
   have C:m≠[]:=λz=>by rw[z]at hb;cases hb
   have x:=K3 k;have j:Z (tF m)<=_:=oZ 32 (m.map ct);have u:=lZ m;rw[ah]at j;refine vt (P:=(·= sT (sV k m))) ⟨_,_,iH (iH W rfl (by rw[BL];exact B0 (a:=KW k) (b:=[32]) (by show _+1<=_;exact Nat.lt_of_le_of_lt x (by decide)))) ((gp W).trans (EB (cs:=m) l (Nat.le_trans o (by decide)))) (B0 (a:=KW k++[32]) (b:=tF m) (by rw[aN];show _+1+_<=_;exact Zf x j u (Nat.mul_le_mul_left 7 o))),W,by rw[KY C]⟩ W (by rw[ah,aN,ah];exact QI hl r q) ?_;rintro _ rfl;exact cX ⟨_,W,_,_,by rw[show mk (k,m)=[sV k m]from c4 (by rw[hb];decide),bK (l₁:=t.fs.map kM++us.flatMap mk)];rfl⟩
  .have hb:m.isEmpty=U:=by simpa using c
   exact cX ⟨_,W,_,_,by rw[show mk (k,m)=[]from a6 hb,aS];rfl⟩
  .obtain⟨d,i,rfl⟩:=B;exact cX ⟨_,W,_,_,by rw[fQ,sJ,nO,aS,aK],by simp;exact Nat.le_of_succ_le_succ q⟩
 .rintro _ ⟨d,i,rfl,_⟩;exact⟨_,W,W⟩
def TV(h:c∈nX):c≠32:=λe=>by subst e;revert h;decide
def SH:((aJ 16).all λk=>(vY k).all λc=>c != 32)=U:=by decide
def Wu(h:k<16):32∉vY k:=λm=>by
 have:=aI.mp (aI.mp SH k (aO.mpr h)) 32 m;cases this
def L1(cs:O dc):∀w∈cs.map ct,32∉w:=λw a=>by obtain⟨c,_,rfl⟩:=aP.mp a;exact QW c
def W9(k:T):32∉KW k:=by unfold KW;split<;>decide
def Xf(ws:O (O T)):kd (ws.map sT)=U:=by
 induction ws with
 |nil=>rfl
 |cons w r a=>rw[ak];exact a
def QV{ws:O (O T)}(h:k<=Z ws):Iy (.lst (ws.map sT)) (Y (k:T)) L=Y (.lst ((ws.drop k).map sT),U):=by
 show Y (Dat.lst (cutD _ _ L),kd (cutD _ _ L))=_;rw[PL (Int.ofNat_zero_le _) (by rw[ah];exact Int.ofNat_le.mpr h),show((k:T):dc).toNat=k by rfl,<-List.map_drop,Xf]
def W7(ws:O (O T)):e8 .len [.lst (ws.map sT)]=Y (.int (ws.length:T),J):=by rw[nF,ah]
def Ia{ws:O (O T)}:Dz (.lst ((w::ws).map sT)) (.int 0)=Y (sT w):=kT (xs:=(w::ws).map sT) (j:=0) W
def X0{ws:O (O T)}:Dz (.lst ((v::w::ws).map sT)) (.int 1)=Y (sT w):=kT (xs:=(v::w::ws).map sT) (j:=1) W
def G4(h:gF f):Cn D (n+5) 28 [.lst (([f.1,f.2.2]++f.2.1.map ct).map sT)]=Y (jg f,J):=by
 have hl:=h.cl;have h1:=h.c1;have a:=lZ f.2.1;obtain⟨g,r⟩:=uS (n:=n+1) h;have r1:=xA (n:=n) h.cr (λz=>by rw[z]at h1;cases h1) (Nat.le_trans hl (by decide));refine iy W (jN (fk (iG W (W7 _)) W (dy Y (dd (by simp;omega)))) (dZ (P:=(·= tI f.2.1)) ⟨_,_,(gp (tG W (NO W rfl (QV (k:=2) (by simp))) (by rw[BL];exact zg (ws:=f.2.1.map ct) (by rw[ah];exact t9 a (Nat.mul_le_mul_left 7 hl))))).trans r1,p0 _,W⟩ ?_));rintro _ rfl;refine jN (fk W rfl rfl) (dZ (P:=(·= jg f)) ⟨_,_,by rw[nD,bQ,m9 (d:=sT f.1) W rfl Ia,bQ,vC,bQ,m9 (d:=sT f.2.2) W rfl X0];rfl,vq f,W⟩ ?_);rintro _ rfl;exact gH (Bb ((gp W).trans r)) W
def G5(f:∀c∈cs,qY c)(o:cs≠[])(hl:(cs.length:dc)<=most)(B:Z cs<=100):Cn D (n+5) 29 [.lst ((cs.map ct).map sT),.int most]=Y (tI cs,J):=by
 have d:=lZ cs;have hp:=lj.mpr o;obtain⟨g,r2⟩:=uU (n:=n+2) (lo:=1) (hi:=most) f (Int.ofNat_le.mpr hp) hl (Nat.le_trans B (by decide));refine iy W (dZ (P:=(·= tI cs)) ⟨_,_,(gp (tG W rfl (by rw[BL];exact zg (ws:=cs.map ct) (by rw[ah];exact t9 d (Nat.mul_le_mul_left 7 B))))).trans (xA (n:=n) f o B),p0 _,W⟩ ?_);rintro _ rfl;obtain⟨g,e⟩:=Mr (C:=Cn D (n+4)) (ρ:=full [Y (.lst ((cs.map ct).map sT),J),Y (.int most,J),Y (tI cs,J)]) (a:=.cmp .nisn (.v 2) (.con .non)) (b:=.call 7 [.v 2,.e_ 1,.v 1]) (fk W rfl rfl) ((tm W rfl rfl).trans r2);exact gH (Bb e) W
def NF{ws:O (O T)}(b:ws≠[])(hf:∀w∈ws,32∉w)(hl:(ws.map (·.length)).sum+Z ws<=1000000):fV .split (sT (inter 32 ws)) [.str (aa " ")]=Y (.lst (ws.map sT),U):=by
 rw[BL];exact E8 b hf hl
def kwB:((aJ 6).all λk=>decide (ef .nin (sT (KW k)) (.tup LW)=Y J) && decide (ef .eq (sT (KW k)) (.str (aa "form"))=Y (decide (k=0))) && lV (fV .tindex (.tup LW) [sT (KW k)]) (Y (.int (k:T),J)) && decide (ef .eq (sT (KW k)) (.str (aa "figures"))=Y (decide (k=5))))=U:=by kernel_rfl
def W8(h:k<=5):ef .nin (sT (KW k)) (.tup LW)=Y J/\ef .eq (sT (KW k)) (.str (aa "form"))=Y (decide (k=0))/\fV .tindex (.tup LW) [sT (KW k)]=Y (.int (k:T),J)/\ef .eq (sT (KW k)) (.str (aa "figures"))=Y (decide (k=5)):=by
 have:=aI.mp kwB k (aO.mpr (Nat.succ_le_succ h));simp only[au,ed]at this;obtain⟨⟨⟨a,b⟩,c⟩,d⟩:=this;exact⟨a,b,jr c,d⟩
def F10:e8 .len [.str (aa "0123456789")]=Y (.int 10,J):=by rw[show aa "0123456789"=T' kR from Qe];exact len_T (by decide)
abbrev e30(l:O T)(ws:O (O T))(d:Dat):eh:=[Y (sT l,J),Y (.lst (ws.map sT),U),Y (d,J)]
def AA{ws:O (O T)}(B:k<=5)(o:∀w∈ws,32∉w)(hl:(ws.map (·.length)).sum+Z ws<=1000)(hd:im d=U)(t:ef .isn d .non=Y J)
  (h0:k=0->Cn D (n+5) 28 [.lst (ws.map sT)]=Y (d,J))(h1:k≠0->Cn D (n+5) 29 [.lst (ws.map sT),.int (if k=5 then 10 else 2)]=Y (d,J)):Cn D (n+6) 30 [sT (inter 32 (KW k::ws))]=Y (.tup [.int (k:T),d],U):=by
 obtain⟨c,f,g,a⟩:=W8 B;have i:=K3 k
 have l:=NF (ws:=KW k::ws) nofun (λw h=>by
  rcases aq.mp h with rfl|h
  .exact W9 k
  .exact o w h) (by simp only[ak,qh,bf];exact t9 i hl)
 have b:=QV (ws:=KW k::ws) (k:=1) (by simp);rw[List.drop_one,List.tail_cons]at b;refine iy W ?_;generalize Cn D (n+5)=C at h0 h1 ⊢;generalize inter 32 (KW k::ws)=L' at l ⊢;show Go C ZN [Y (sT L',J),L,L] _;unfold ZN;rw[LWe];refine fO (tG W rfl l) (jN (fk (m9 W rfl Ia) W c) ?_);show Go C _ [Y (sT L',J),Y (.lst ((KW k::ws).map sT),U),L] _;refine lE (J':=λm=>m=e30 L' (KW k::ws) d) (fk (m9 W rfl Ia) W f) (λe=>dZ (P:=(·= d)) ⟨_,_,(gp (NO W rfl b)).trans (h0 (ea e)),hd,W⟩ λd e=>by subst e;exact cX ⟨_,W,W⟩) (λe=>dZ (P:=(·= d)) ⟨_,_,(FT (NO W rfl b) (?_:_=Y (.int (if k=5 then 10 else 2),J))).trans (h1 (lh e)),hd,W⟩ λd e=>by subst e;exact cX ⟨_,W,W⟩) ?_
 .by_cases j:k=5
  .rw[a6 j];rw[cb j]at a;exact(Bb (fk (m9 W rfl Ia) W a)).trans (iG W F10)
  .rw[c4 j];rw[dd j]at a;exact sZ (fk (m9 W rfl Ia) W a)
 rintro _ rfl;refine gH ((sZ (fk W rfl t)).trans (?_:_=Y (_,U))) W;rw[nD,bQ,tG W (m9 W rfl Ia) g,bQ,vC];show Y (Dat.tup [.int (k:T),d],(J || im (.int (k:T))) && ((J || im d) && U))=_;rw[hd];rfl
def G7(h:gF f):Cn D (n+6) 30 [sT (kM f)]=Y (.tup [.int (0:T),jg f],U):=by
 obtain⟨k,k1,k2,k3⟩:=h.pp;have hp:=J2 k2;have a:=Wu k2;rw[<-k3]at hp a;have hl:=h.cl;have d:=h.ll;have c:=lZ f.2.1;refine AA (k:=0) (ws:=[f.1,f.2.2]++f.2.1.map ct) (aY _) (λw b=>?_) (by simp only[bK,List.sum_append,aN,ah];simp;simp at c;exact Zf d hp c (Nat.mul_le_mul_left 7 hl)) (vq f) W (λ_=>G4 h) λz=>absurd rfl z;simp only[eG,kU,aq]at b
 rcases b with rfl|rfl|b
 .exact λm=>TV (h.low _ m) W
 .exact a
 .exact L1 _ w b
def G6(B:1<=k/\k<=5)(e:∀c∈cs,qY c)(f:cs≠[])(hl:(cs.length:dc)<=(if k=5 then 10 else 2)):Cn D (n+6) 30 [sT (sV k cs)]=Y (.tup [.int (k:T),tI cs],U):=by
 have a:Z cs<=10:=by split at hl<;>omega
 have b:=lZ cs;exact AA B.2 (L1 cs) (by rw[ah];exact t9 b (Nat.mul_le_mul_left 7 a)) (p0 cs) W (λz=>((Nat.not_le_of_lt B.1 (Nat.le_of_eq z))).elim) λ_=>G5 e f hl (Nat.le_trans a (by decide))
abbrev B7(L':Dat)(FS:O Fm)(CL:O (O dc))(least:T)(z4 z5 z6:g_):eh:=[Y (L',J),Y (.lst (FS.map jg),U),Y (.lst (CL.map tI),U),Y (.int (least:T),J),z4,z5,z6]
abbrev sX:O Sx:=[(.set 6 (.call 30 [(.v 5)])),(.ifs (.or (.cmp .isn (.v 6) (.con .non)) (.cmp .lt (.ix (.v 6) (.e_ 0)) (.v 3))) [.yP] []),(.ifs (.cmp .eq (.ix (.v 6) (.e_ 0)) (.e_ 0)) [(.mut .app 1 [(.ix (.v 6) (.e_ 1))])] [(.mut .seti 2 [(.ix (.v 6) (.e_ 1)),(.bin .sub (.ix (.v 6) (.e_ 0)) (.e_ 1))]),(.set 3 (.bin .add (.ix (.v 6) (.e_ 0)) (.e_ 1)))])]
def eq_0(k:T):ef .eq (.int (k:T)) (.int 0)=Y (decide (k=0)):=by
 show Y ((k:dc) == 0)=_
 congr 1
 rw[kX];simp
section
variable{FS:O Fm}{CL:O (O dc)}
def LQ(h:C 30 [x]=Y (.tup [.int (k:T),d],U))(hd:im d=U)(hl:least<=k)
  (g:Go C (sX.drop 2) (B7 L' FS CL least z4 (Y (x,J)) (Y (.tup [.int (k:T),d],J))) Q):Go C sX (B7 L' FS CL least z4 (Y (x,J)) z6) Q:=by
 refine dZ (P:=(·= .tup [.int (k:T),d])) ⟨_,_,(gp W).trans h,by show(U && (im d && U))=U;rw[hd];rfl,W⟩ ?_;rintro _ rfl;obtain⟨w,e⟩:=Z8 (C:=C) (ρ:=full (B7 L' FS CL least z4 (Y (x,J)) (Y (.tup [.int (k:T),d],J)))) (a:=.cmp .isn (.v 6) (.con .non)) (b:=.cmp .lt (.ix (.v 6) (.e_ 0)) (.v 3)) (fk W rfl rfl) (fk (m9 W rfl rfl) W (dy Y (dd (show¬(k:dc)<(least:dc) by omega))));exact jN e g
def V8(h:C 30 [x]=Y (.tup [.int (0:T),jg f],U))(hf:Z FS<1000):Go C sX (B7 L' FS CL 0 z4 (Y (x,J)) z6) (·= .nx (B7 L' (FS++[f]) CL 0 z4 (Y (x,J)) (Y (.tup [.int (0:T),jg f],J)))):=by
 refine LQ h (vq f) (aw 0) (lE (J':=(·= B7 L' (FS++[f]) CL 0 z4 (Y (x,J)) (Y (.tup [.int (0:T),jg f],J)))) (fk (m9 W rfl rfl) W (eq_0 0)) (λ_=>vt (P:=(·= jg f)) ⟨_,_,m9 W rfl rfl,vq f,W⟩ W (by rw[ah];exact Nat.le_trans hf (by decide)) ?_) (λe=>nomatch e) ?_)
 .rintro _ rfl;exact cX ⟨_,W,by unfold B7;rw[bK];rfl⟩
 .rintro _ rfl;exact cX W
def Wr(B:1<=k/\k<=5)(f:Z CL=5):mQ .seti (.lst (CL.map tI)) [tI m,.int ((k:T) - 1:dc)]=Y (.lst ((CL.set (k - 1) m).map tI)):=by
 match CL,f with
 |[a,b,c,d,e],_=>
   obtain⟨h1,h2⟩:=B
   match k,h1,h2 with
   |1,_,_=>rfl
   |2,_,_=>rfl
   |3,_,_=>rfl
   |4,_,_=>rfl
   |5,_,_=>rfl
def V7(h:C 30 [x]=Y (.tup [.int (k:T),tI m],U))(B:1<=k/\k<=5)(b:Z CL=5)(hl:least<=k):Go C sX (B7 L' FS CL least z4 (Y (x,J)) z6) (·= .nx (B7 L' FS (CL.set (k - 1) m) (k+1) z4 (Y (x,J)) (Y (.tup [.int (k:T),tI m],J)))):=by
 refine LQ h (p0 m) hl (lE (J':=(·= B7 L' FS (CL.set (k - 1) m) (k+1) z4 (Y (x,J)) (Y (.tup [.int (k:T),tI m],J)))) (fk (m9 W rfl rfl) W (eq_0 k)) (λe=>by have:=ea e;exact ((Nat.not_le_of_lt B.1 (Nat.le_of_eq this))).elim) (λ_=>iU (vc W (ds:=[tI m,.int ((k:T) - 1:dc)]) (by
  rw[bQ,m9 (d:=tI m) W rfl rfl,bQ,iH (m9 W rfl rfl) W rfl];show Y ([tI m,Dat.int ((k:T) - 1:dc)],(J || im (tI m)) && U)=_
  rw[p0];rfl) (Wr B b)) (dZ (P:=(·= .int ((k+1:T):dc))) ⟨_,_,iH (m9 W rfl rfl) W rfl,W,W⟩ ?_)) ?_)
 .rintro _ rfl;exact cX ⟨_,W,W⟩
 .rintro _ rfl;exact cX W
end
theorem lpF:∀(fs FS:O Fm)(j:T)(z4 z5 z6:g_),(∀f∈fs,C 30 [sT (kM f)]=Y (.tup [.int (0:T),jg f],U))->Z FS+Z fs<1000->∃t B u o,iw (gr J [4,5]) (gJ C sX) (nY j (fs.map (λf=>sT (kM f))++ds)) (B7 L' FS CL 0 z4 z5 z6)=iw (gr J [4,5]) (gJ C sX) (nY t ds) (B7 L' (FS++fs) CL 0 B u o)
 |[],FS,j,z4,z5,z6,_,_=>⟨j,z4,z5,z6,by rw[aS];rfl⟩
 |f::fs,FS,j,z4,z5,z6,h,hl=>by
   obtain⟨_,e,rfl⟩:=V8 (C:=C) (L':=L') (CL:=CL) (FS:=FS) (z4:=Y (.int (j:T),J)) (z6:=z6) (h f iT) (by rw[bf]at hl;exact Nat.lt_of_le_of_lt (Nat.le_add_right _ _) hl);obtain⟨t,a,b,c,r⟩:=lpF (C:=C) (L':=L') (CL:=CL) (ds:=ds) fs (FS++[f]) (j+1) _ _ _ (λg d=>h g (kc _ d)) (by rw[aN];simp at hl ⊢;exact rT hl);refine⟨t,a,b,c,?_⟩;rw[ak,eG,nY,zl (ρ1:=B7 L' FS CL 0 (Y (.int (j:T),J)) (Y (sT (kM f),J)) z6) W e,r,aK];rfl
theorem W3{CL:O (O dc)}(h:m≠[]->C 30 [sT (sV k m)]=Y (.tup [.int (k:T),tI m],U))(o:1<=k/\k<=5)(t:Z CL=5)(hl:least<=k)(h0:CL[k - 1]?=Y []) :
  ∃u B y b f,B<=k+1/\iw (gr J [4,5]) (gJ C sX) (nY j ((mk (k,m)).map sT++ds)) (B7 L' FS CL least z4 z5 z6)=iw (gr J [4,5]) (gJ C sX) (nY u ds) (B7 L' FS (CL.set (k - 1) m) B y b f):=by
 cases m with
 |nil=>
   refine⟨j,least,z4,z5,z6,Nat.le_succ_of_le hl,?_⟩;obtain⟨hi,e⟩:=aT.mp h0;rw[show CL.set (k - 1) []=CL by rw[<-e];exact List.set_getElem_self hi];rfl
 |cons c r=>
   obtain⟨_,e,rfl⟩:=V7 (C:=C) (L':=L') (CL:=CL) (FS:=FS) (least:=least) (z4:=Y (.int (j:T),J)) (z6:=z6) (h nofun) o t hl;exact⟨j+1,k+1,_,_,_,aw _,zl (ρ1:=B7 L' FS CL least (Y (.int (j:T),J)) (Y (sT (sV k (c::r)),J)) z6) W e⟩
def Pa(B:bR C a (xg (M.kH a.fv ρ))=Y (d,f))(hd:NZ d=Y ds):td C (.loop J b (.enu a) body) ρ=iw (gr J b) (gJ C body) (nY 0 ds) (M.kH a.fv ρ):=by
 show(BA C (.enu a) ρ).bind _=_;simp only[BA,ug,B,bH,hd,bW]
def G3(h:xH t):Cn D (n+7) 31 [.lst ((Zj t).map sT)]=Y (tb t,J):=by
 have b:=JH (n:=n+1) h;have c:∀f∈t.fs,Cn D (n+6) 30 [sT (kM f)]=Y (.tup [.int (0:T),jg f],U):=λf hf=>G7 (h.gf hf);have a:∀p∈ps t,p.2≠[]->Cn D (n+6) 30 [sT (sV p.1 p.2)]=Y (.tup [.int (p.1:T),tI p.2],U):=λp hp hn=>G6 (h.p p hp).1 (h.p p hp).2.2 hn (h.p p hp).2.1;have hl:=h.hl;refine iy W ?_;generalize Cn D (n+6)=C at b c a ⊢;generalize e:Dat.lst ((Zj t).map sT)=L';show Go C b31 [Y (L',J),L,L,L,L,L,L] _;refine fO (ds:=[]) W (fO (ds:=([[],[],[],[],[]]:O (O dc)).map tI) W (dZ (P:=(·= .int (0:T))) ⟨_,_,W,W,W⟩ ?_));rintro _ rfl;obtain⟨g,i,l,o,q⟩:=lpF (C:=C) (L':=L') (CL:=[[],[],[],[],[]]) (ds:=((ps t).flatMap mk).map sT) t.fs [] 0 L L L c (by rw[je];exact Nat.lt_of_le_of_lt (Nat.add_le_add_left hl _) (by decide));obtain⟨r,l1,x1,s,u,m1,v⟩:=W3 (C:=C) (L':=L') (FS:=[]++t.fs) (CL:=[[],[],[],[],[]]) (ds:=((ps t).tail.flatMap mk).map sT) (k:=1) (j:=g) (least:=0) (m:=t.m0) (z4:=i) (z5:=l) (z6:=o) (a (1,t.m0) (by simp)) (by decide) W (by simp) W;obtain⟨w,l2,x,y,z,m2,A⟩:=W3 (C:=C) (L':=L') (FS:=[]++t.fs) (CL:=[t.m0,[],[],[],[]]) (ds:=((ps t).tail.tail.flatMap mk).map sT) (k:=2) (j:=r) (m:=t.m1) (z4:=x1) (z5:=s) (z6:=u) (a (2,t.m1) (by simp)) (by decide) W m1 W;obtain⟨B,l3,E,F,G,m3,H⟩:=W3 (C:=C) (L':=L') (FS:=[]++t.fs) (CL:=[t.m0,t.m1,[],[],[]]) (ds:=((ps t).tail.tail.tail.flatMap mk).map sT) (k:=3) (j:=w) (m:=t.m2) (z4:=x) (z5:=y) (z6:=z) (a (3,t.m2) (by simp)) (by decide) W m2 W;obtain⟨I,U',J',K,M,N,O'⟩:=W3 (C:=C) (L':=L') (FS:=[]++t.fs) (CL:=[t.m0,t.m1,t.m2,[],[]]) (ds:=((ps t).tail.tail.tail.tail.flatMap mk).map sT) (k:=4) (j:=B) (m:=t.m3) (z4:=E) (z5:=F) (z6:=G) (a (4,t.m3) (by simp)) (by decide) W m3 W;obtain⟨V,Q,R,S,T',X,e5⟩:=W3 (C:=C) (L':=L') (FS:=[]++t.fs) (CL:=[t.m0,t.m1,t.m2,t.m3,[]]) (ds:=[]) (k:=5) (j:=I) (m:=t.fg) (z4:=J') (z5:=K) (z6:=M) (a (5,t.fg) (by simp)) (by decide) W N W;refine iU (ρ1:=B7 L' ([]++t.fs) [t.m0,t.m1,t.m2,t.m3,t.fg] Q R S T') ?_ ?_
 .refine(Pa (d:=L') (ds:=t.fs.map (λf=>sT (kM f))++((ps t).flatMap mk).map sT) W (by rw[<-e];show Y ((t.fs.map kM++(ps t).flatMap mk).map sT)=_;rw[bK,bo];rfl)).trans ?_;refine q.trans ?_;rw[show((ps t).flatMap mk).map sT=(mk (1,t.m0)).map sT++((ps t).tail.flatMap mk).map sT by rw[<-bK];rfl];refine v.trans ?_;rw[show((ps t).tail.flatMap mk).map sT=(mk (2,t.m1)).map sT++((ps t).tail.tail.flatMap mk).map sT by rw[<-bK];rfl];refine A.trans ?_;rw[show((ps t).tail.tail.flatMap mk).map sT=(mk (3,t.m2)).map sT++((ps t).tail.tail.tail.flatMap mk).map sT by rw[<-bK];rfl];refine H.trans ?_;rw[show((ps t).tail.tail.tail.flatMap mk).map sT=(mk (4,t.m3)).map sT++((ps t).tail.tail.tail.tail.flatMap mk).map sT by rw[<-bK];rfl];refine O'.trans ?_;rw[show((ps t).tail.tail.tail.tail.flatMap mk).map sT=(mk (5,t.fg)).map sT++[] by rw[aS];show(mk (5,t.fg)++[]).map sT=_;rw[aS]];exact e5
 .refine gH ((tm W (NP W rfl rfl) (m9 W rfl (show Dz (.lst [tI t.m0,tI t.m1,tI t.m2,tI t.m3,tI t.fg]) (.int ((4:T):dc))=_ from kT (j:=4) W))).trans b) W
def cW(b:T)(d:Dat):Prop:=∃a:O dc,d=tI a/\(0<Z a/\Z a<=b)/\∀c∈a,qY c
def Cw(C:Fs)(N:Dat):Prop:=∀(k few:dc)(m:T),0<=k/\k<=90000->m<=10->0<few/\few<=63->∃a:O dc,C 33 [N,.int k,.int (m:T),.int few]=Y (tI a,J)/\Z a=m/\∀c∈a,qY c
def cw{ns:O dc}:Cw (Cn D (n+2)) (.lst (ns.map Dat.int)):=λk few m e g hf=>by
 have hd:Dw (Cn D (n+1)) (.lst (ns.map Dat.int)):=dw
 obtain⟨f,h1,h2,h3,_⟩:=zD (C:=Cn D (n+1)) (ρ:=full [Y (.lst (ns.map Dat.int),J),Y (.int k,J),Y (.int (m:T),J),Y (.int few,J)]) (caps:=[3,1,0]) (it:=.rng [.v 2]) (elt:=.bin .add (.e_ 1) (.call 32 [.v 3,.bin .add (.v 2) (.v 0),.v 1])) (λc:T=>.int (c:T)) (λ_ c=>(1:dc)<=c/\(c:dc)<=63) (Bz (m:=m) W (Nat.le_trans g (by decide))) (by rw[bM];omega) (λ_=>W) λj a=>
  oI (P:=λq=>(q:dc)<few) (P':=λc=>(1:dc)<=c/\(c:dc)<=63) (fE hd W rfl rfl (by have:=aO.mp a;omega) hf.1 λ_ h=>h) λq h=>by omega
 rw[bM]at h2;refine⟨f.map λc:T=>(c:dc),iy W (gH (iG h1 W) (by show _=Out.rt (.tup ((f.map λc:T=>(c:dc)).map Dat.int)) J;rw[bo];rfl)),by rw[ah,h2],λc b=>?_⟩;obtain⟨d,hd,rfl⟩:=aP.mp b;obtain⟨_,_,h⟩:=h3 d hd;exact h
section
def lG(B:Cw C N)(h0:bR C a ρ=Y (N,f))(h1:bR C k ρ=Y (.int i,g))(o:Ei C m ρ λq=>1<=q/\q<=b)(h3:bR C s ρ=Y (.int j,w))(t:0<=i/\i<=90000)(hb:b<=10)(hf:0<j/\j<=63):Ev C (.call 33 [a,k,m,s]) ρ (cW b):=by
 obtain⟨q,w,r,l⟩:=o;obtain⟨d,e,c,h⟩:=B i j q t (Nat.le_trans l.2 hb) hf;exact⟨tI d,J,by rw[qI,eV,h0,eV,h1,eV,r,eV,h3];exact e,p0 d,d,W,⟨(Nat.le_trans l.1 (Nat.le_of_eq c.symm)),(Nat.le_trans (Nat.le_of_eq c) l.2)⟩,h⟩
def QT(h1:bR C x ρ=Y (sT l,f))(h2:bR C y ρ=Y (tI cs,g))(h3:bR C z ρ=Y (sT p,h)):Ev C (.tup [x,y,z]) ρ (·= jg (l,cs,p)):=
 ⟨_,_,by rw[nD,bQ,h1,bQ,h2,bQ,h3];rfl,vq (l,cs,p),W⟩
def Xu{ls:O T}{elt:Ex}{caps:O T}(t:Ei C e ρ λq=>1<=q/\q<=3)(hs:∀i,i<3->∃c b,bR C elt ((ja 1 caps ρ).set 0 (Y (.int ((i:T):dc))))=Y (sT [c],b)/\c∈ls):Ev C (.gG .join (.f_ "") [.comp 1 U caps (.rng [e]) [] elt]) ρ λd=>∃o:O T,d=sT o/\(0<Z o/\Z o<=3)/\∀c∈o,c∈ls:=by
 obtain⟨m,f,r,t⟩:=t;obtain⟨o,e,l,n,_⟩:=zD (C:=C) (ρ:=ρ) (caps:=caps) (elt:=elt) (λc=>sT [c]) (λ_ c=>c∈ls) (Bz r (Nat.le_trans t.2 (by decide))) (by rw[bM];omega) (λ_=>W) λi hi=>hs i (by have:=aO.mp hi;exact Nat.le_trans this t.2);rw[bM]at l;exact⟨sT o,J,tG W e (by rw[X9];exact join_1 (Nat.le_trans (Nat.le_of_eq l) (Nat.le_trans t.2 (by decide)))),W,o,W,⟨(Nat.le_trans t.1 (Nat.le_of_eq l.symm)),(Nat.le_trans (Nat.le_of_eq l) t.2)⟩,λc a=>by obtain⟨_,_,h⟩:=n c a;exact h⟩
end
def yZ(n:T):((aJ 16).all λk=>lV (Cn D (n+1) 34 [.int (k:T)]) (Y (sT (vY k),J)))=U:=by kernel_rfl
def Sk(h:k<16):Cn D (n+1) 34 [.int (k:T)]=Y (sT (vY k),J):=jr (aI.mp (yZ n) k (aO.mpr h))
def O9(s st m:T):O T:=(aJ m).map λj=>nX.getD ((s+st * j) % 26) 0
def lsB:((aJ 26).all λs=>[1,3,5,7].all λst=>(aJ 7).all λm=>decide (O9 s st m).Nodup && (O9 s st m).all λc=>decide (c∈nX))=U:=by kernel_rfl
def W2{st:T}(h1:s<26)(h2:st∈[1,3,5,7])(h3:m<7):(O9 s st m).Nodup/\∀c∈O9 s st m,c∈nX:=by
 have:=aI.mp (aI.mp (aI.mp lsB s (aO.mpr h1)) st h2) m (aO.mpr h3);simp only[au,ed,aI]at this;exact this
def UJ{C:Fs}{ρ:gZ}{e:Ex}{z:T}{f:a7}(h:bR C e ρ=Y (.int (z:T),f)):bR C (.ix (.f_ "abcdefghijklmnopqrstuvwxyz") (.bin .mod e (.e_ 26))) ρ=Y (sT [nX.getD (z % 26) 0],J):=by
 have hl:z % 26<Z nX:=iD _ (by decide);refine m9 W (iH h W (jY (by decide))) ?_;rw[SMT,show((z:T):dc) % 26=((z % 26:T):dc) by rfl,Uk (by decide) hl,cz,ae hl];rfl
theorem FI:∀cs:O dc,oH (cs.map Dat.int) (cs.map Dat.int)=U
 |[]=>rfl
 |c::r=>by
   show((c == c) && oH (r.map Dat.int) (r.map Dat.int))=U;rw[FI r,f5];rfl
def UM(f:Fm):mw (lO f) (lO f)=U:=by
 show((T' f.1 == T' f.1) && (oH (f.2.1.map Dat.int) (f.2.1.map Dat.int) && U))=U;rw[FI,f5];rfl
def OW{A:O Fm}:∃t,ef .nin (lO f) (.lst (A.map lO))=Y t/\(t=U->ent f∉A.map ent):=by
 have h:dE 20 (A.map lO)=U:=by
  induction A with
  |nil=>rfl
  |cons g r b=>rw[ak];show(fU 20 _ && dE 20 _)=U;rw[As,b];rfl
 refine⟨_,a6 (by rw[As,h];rfl),λa i=>?_⟩;obtain⟨g,c,e⟩:=aP.mp i;have d:lO g=lO f:=dy (λp:O T×O dc=>Dat.tup [sT p.1,tI p.2]) e;rw[(fw (p:=λy=>mw y (lO f))).mpr ⟨lO f,by rw[<-d];exact bC c,UM f⟩]at a;cases a
abbrev Zy:O Sx:=[(.set 9 (.bin .add (.e_ 1) (.bin .fdiv (.call 32 [(.v 0),(.bin .add (.bin .add (.v 1) (.e_ 10)) (.v 6)),(.e_ 5)]) (.e_ 4)))),(.mut .app 8 [(.tup [(.ix (.v 7) (.v 6)),(.call 33 [(.v 0),(.bin .add (.bin .add (.v 1) (.e_ 20)) (.bin .mul (.e_ 5) (.v 6))),(.v 9),(.v 2)]),(.f_ "wbme")])])]
abbrev Zx:O Sx:=[(.set 10 (.bin .add (.bin .add (.v 1) (.e_ 60)) (.bin .mul (.e_ 15) (.v 6)))),(.set 11 (.gG .join (.f_ "") [(.comp 1 U [10,7,5,0] (.rng [(.bin .add (.e_ 1) (.call 32 [(.v 0),(.bin .add (.v 10) (.e_ 4)),(.e_ 3)]))]) [] (.ix (.v 2) (.call 32 [(.v 4),(.bin .add (.v 1) (.v 0)),(.v 3)])))])),(.set 12 (.call 33 [(.v 0),(.bin .add (.v 10) (.e_ 5)),(.ix (.lst [(.e_ 1),(.e_ 1),(.e_ 2),(.e_ 4)]) (.call 32 [(.v 0),(.bin .add (.v 10) (.e_ 9)),(.e_ 4)])),(.v 2)])),(.set 13 (.tup [(.v 11),(.v 12),(.call 34 [(.bin .add (.e_ 1) (.call 32 [(.v 0),(.bin .add (.v 10) (.e_ 10)),(.e_ 15)]))])])),(.ifs (.cmp .nin (.sl (.v 13) L (Y (.e_ 2))) (.comp 1 U [] (.itv (.v 8)) [] (.sl (.v 0) L (Y (.e_ 2))))) [(.mut .ins 8 [(.call 32 [(.v 0),(.bin .add (.v 10) (.e_ 11)),(.bin .add (.blt .len [(.v 8)]) (.e_ 1))]),(.v 13)])] [])]
abbrev IG(N s3 t:Dat)(m:T)(b f:dc)(ls:O T)(A:O Fm)(z6 u B y e o:g_):eh:=[Y (N,J),Y (.int b,J),Y (.int f,J),Y (s3,J),Y (t,J),Y (.int (m:T),J),z6,Y (.lst (ls.map λc=>sT [c]),U),Y (.lst (A.map jg),U),u,B,y,e,o]
noncomputable abbrev at_(ls:O T)(j:T):T:=ls.getD j 0
structure Vz(ls:O T)(A:O Fm):Prop where
 g:∀f∈A,gF f
 s:∀f∈A,∀c∈f.1,c∈ls
 nd:(A.map ent).Nodup
 own:∀c∈ls,∃g∈A,g.1=[c]/\g.2.2=Ci
def Xt(h:bR C x ρ=Y (d,f))(b:bR C y ρ=Y (e,g))(hd:im d=U)(B:im e=U):qJ C [x,y] ρ=Y ([d,e],U):=by
 rw[bQ,h,bQ,b];show Y ([d,e],(f || im d) && ((g || im e) && U))=_;rw[hd,B,Cc,Cc];rfl
def P4g:∃k,1<=k/\k<16/\Ci=vY k:=⟨15,by decide,by decide,by decide⟩
section
variable{C:Fs}{N s3:Dat}{b f:dc}{ls:O T}(hd:Dw C N)(hc:Cw C N)(hb:0<=b/\b<=1000)(hf:0<f/\f<=63)(hl:∀c∈ls,c∈nX)(hn:0<Z ls/\Z ls<=6)
include hd hc hb hf hl hn
def Wa(R:aJ (Z ls)=us++j::vs)(h:∃(A:O Fm) (z6 I B z u y:g_),ρ=IG N s3 s4 ls.length b f ls A z6 I B z u y/\A.map (·.1)=us.map (λj=>[at_ ls j])/\∀f∈A,gF f/\f.2.2=Ci):∃ρ1,gr U [6] (.int (j:T)) ρ=Y ρ1/\Go C Zy ρ1 λo=>∃F,o=.nx F/\∃(A:O Fm) (z6 I B z u y:g_),F=IG N s3 s4 ls.length b f ls A z6 I B z u y/\A.map (·.1)=(us++[j]).map (λj=>[at_ ls j])/\∀f∈A,gF f/\f.2.2=Ci:=by
 obtain⟨A,z6,I,B,z,u,y,rfl,h1,h2⟩:=h;have d:j<Z ls:=aO.mp (by rw[R];simp);have n:Z us<Z ls:=by have:=oA R;rwa [bM]at this
 have t:Z A=Z us:=by have:=dy jo h1;rwa [ah,ah]at this
 have D:at_ ls j∈ls:=by rw[at_,cz,ae d];exact bA d
 refine⟨_,W,dZ (su (P:=λq=>1<=q/\q<=2) (oI (P:=(·<=1)) (PD (P:=(·< 5)) (fE hd W rfl rfl (by omega) (by decide) λq h=>by omega) λq h=>by omega) λq h=>⟨(lw0),(rT h)⟩)) ?_⟩;rintro _ ⟨m,rfl,e⟩;obtain⟨_,w,p,_,x,rfl,i,l⟩:=lG (C:=C) (ρ:=full (IG N s3 s4 ls.length b f ls A (Y (.int (j:T),J)) (Y (.int (m:T),J)) B z u y)) (a:=.v 0) (k:=.bin .add (.bin .add (.v 1) (.e_ 20)) (.bin .mul (.e_ 5) (.v 6))) (m:=.v 9) (s:=.v 2) (b:=2) hc W (dU W (DN W rfl (by decide))) ⟨m,_,W,e⟩ W (by omega) (by decide) hf;refine vt (P:=(·= jg ([at_ ls j],x,Ci))) (QT (m9 W rfl (kT (by rw[aV,ae d,at_,cz,ae d];rfl))) p (by rw[vE,WBT])) W (by rw[ah];exact QI (Nat.le_of_eq t) n hn.2) ?_;rintro _ rfl;refine cX ⟨_,W,A++[([at_ ls j],x,Ci)],_,_,_,_,_,_,by unfold IG;rw[bK];rfl,by rw[bK,bK,h1];rfl,λg r=>?_⟩
 rcases aR.mp r with q|q
 .exact h2 g q
 .rw[aG.mp q];exact⟨⟨⟨nofun,λc h=>by rw[aG.mp h];exact hl _ D,by show 1<=6;decide,i.1,by show Z x<=4;exact Nat.le_trans i.2 (by decide),P4g⟩,l⟩,W⟩
def V9(hp:∀k:T,k<16->C 34 [.int (k:T)]=Y (sT (vY k),J)){us:O T}(hj:j<5)(hu:Z us<5)(h:∃(A:O Fm) (z6 z9 O' R S B:g_),ρ=IG N s3 s4 ls.length b f ls A z6 z9 O' R S B/\Z A<=6+Z us/\Vz ls A):∃ρ1,gr U [6] (.int (j:T)) ρ=Y ρ1/\Go C Zx ρ1 λo=>∃ρ2,o=.nx ρ2/\∃(A:O Fm) (z6 z9 O' R S B:g_),ρ2=IG N s3 s4 ls.length b f ls A z6 z9 O' R S B/\Z A<=6+Z (us++[j])/\Vz ls A:=by
 obtain⟨A,z6,z9,O',R,S,B,rfl,h1,h2⟩:=h;refine⟨_,W,?_⟩;refine dZ (P:=λd=>∃X:dc,d=.int X/\0<=X/\X<=2000) ⟨_,_,dU (dU W rfl) (DN W rfl (by decide)),W,_,W,by omega,by omega⟩ ?_;rintro _ ⟨X,rfl,k1,k2⟩;refine dZ (Xu (ls:=ls) (oI (P:=(·< 3)) (fE hd W (dU W rfl) W (⟨(iw1 k1),(iw1 k2)⟩) (by decide) λq h=>by omega) λq h=>⟨(lw0),(rT h)⟩) λi hi=>UG W (fE hd W (dU W rfl) W (by omega) (Int.natCast_pos.mpr hn.1) λq h=>by omega) λc h=>h) ?_;rintro _ ⟨Q,rfl,D,a⟩;refine dZ (lG (b:=4) hc W (dU W rfl) (qL (is:=[1,1,2,4]) W (fE hd W (dU W rfl) W (⟨(iw1 k1),(iw1 k2)⟩) (by decide) λq h=>by show q<4;omega) (by decide)) W (⟨(iw1 k1),(iw1 k2)⟩) (by decide) hf) ?_;rintro _ ⟨V,rfl,l,r⟩;obtain⟨q,w,E,u⟩:Ei C (.bin .add (.e_ 1) (.call 32 [(.v 0),(.bin .add (.v 10) (.e_ 10)),(.e_ 15)])) (full (IG N s3 s4 ls.length b f ls A (Y (.int (j:T),J)) z9 (Y (.int X,J)) (Y (sT Q,J)) (Y (tI V,J)) B)) (λq=>1<=q/\q<16):=oI (P:=(·< 15)) (fE hd W (dU W rfl) W (⟨(iw1 k1),(iw1 k2)⟩) (by decide) λq h=>by omega) λq h=>⟨(lw0),(rT h)⟩
 refine dZ (P:=(·= jg (Q,V,vY q))) (QT W rfl ((gp E).trans (hp q u.2))) ?_;rintro _ rfl;obtain⟨t,F,G⟩:=OW (f:=(Q,V,vY q)) (A:=A);have hlen:Z A<=1000:=t9 h1 hu
 have H:bR C (.comp 1 U [] (.itv (.v 8)) [] (.sl (.v 0) L (Y (.e_ 2)))) (full (IG N s3 s4 ls.length b f ls A (Y (.int (j:T),J)) z9 (Y (.int X,J)) (Y (sT Q,J)) (Y (tI V,J)) (Y (jg (Q,V,vY q),J))))=Y (.lst (A.map lO),U):=iX (xs:=A) (e:=jg) (g:=lO) W hlen (λf _=>DG f) λf _=>⟨_,NP W rfl (GQ _ _ _)⟩
 have I:gF (Q,V,vY q):=⟨⟨λz=>(by have:=D.1;rw[show Q=[]from z]at this;cases this),λc h=>hl c (a c h),by show Z Q<=6;exact Nat.le_trans D.2 (by decide),l.1,l.2,q,u.1,u.2,W⟩,r⟩
 refine lE (b:=t) (J':=λρ=>∃(m:O Fm) (z6 z9 O' R S B:g_),ρ=IG N s3 s4 ls.length b f ls m z6 z9 O' R S B/\Z m<=7+Z us/\Vz ls m) (fk (NP W rfl (GQ _ _ _)) H F) (λe=>?_) (λ_=>cX ⟨_,W,A,_,_,_,_,_,_,W,Nat.le_trans h1 (Nat.add_le_add_right (by decide) _),h2⟩) ?_
 .have x:=G e;obtain⟨p,w,K,_⟩:Ei C (.call 32 [(.v 0),(.bin .add (.v 10) (.e_ 11)),(.bin .add (.blt .len [(.v 8)]) (.e_ 1))]) (full (IG N s3 s4 ls.length b f ls A (Y (.int (j:T),J)) z9 (Y (.int X,J)) (Y (sT Q,J)) (Y (tI V,J)) (Y (jg (Q,V,vY q),J)))) (λq=>q<=1000):=fE hd W (dU W rfl) (dU (i:=(A.length:T)) (j:=1) (iG W (by rw[nF,ah])) W) (⟨(iw1 k1),(iw1 k2)⟩) (by simp) λq h=>by omega
  refine iU (vc (ds:=[.int (p:T),jg (Q,V,vY q)]) (d':=.lst ((insI (Q,V,vY q) (p:dc) A).map jg)) W (Xt K W rfl (vq _)) (by rw[<-Bh];exact a6 ⟨by rw[ah,cY];exact Nat.lt_of_le_of_lt hlen (by decide),by simp,Int.le_trans (Int.ofNat_le.mpr right) (by decide)⟩)) (cX ⟨_,W,insI (Q,V,vY q) (p:dc) A,_,_,_,_,_,_,W,by rw[K1];exact rT h1,?_⟩);refine⟨λg n=>?_,λg n=>?_,?_,λc y=>?_⟩
  .rcases A0 n with rfl|z
   .exact I
   .exact h2.g g z
  .rcases A0 n with rfl|z
   .exact a
   .exact h2.s g z
  .rw[<-Bh];exact Dm x h2.nd
  .obtain⟨g,n,z⟩:=h2.own c y;exact⟨g,La n,z⟩
 .rintro _ ⟨m,z6,z9,O',R,S,B,rfl,M,L'⟩;exact cX ⟨_,W,m,_,_,_,_,_,_,W,by rw[aN];show _<=6+(Z us+1);exact rT M,L'⟩
end
def Lq(hd:Dw C N)(B:Cw C N)(hp:∀k:T,k<16->C 34 [.int (k:T)]=Y (sT (vY k),J))(hb:0<=b/\b<=1000)(hf:0<f/\f<=63):Go C ZM ([Y (N,J),Y (.int b,J),Y (.int f,J)]++eO 11 L) λo=>∃(A:O Fm) (ls:O T),o=.rt (.lst (A.map jg)) U/\A≠[]/\Z A<=12/\Vz ls A:=by
 show Go C (.set 3 (.call 32 _)::.set 4 (.ix _ (.call 32 _))::.set 5 (.ix _ (.call 32 _))::.set 7 (.comp 1 U _ (.rng [_]) [] (.ix _ (.bin .mod (.bin .add _ (.bin .mul _ _)) _)))::.set 8 (.lst [])::.loop U [6] (.rng [.v 5]) Zy::.loop U [6] (.rng [.call 32 _]) Zx::.uV 8::[]) _ _;refine dZ (su (P:=(·< 26)) (fE hd W (dU W rfl) W (⟨(Int.le_add_one hb.1),(Int.lt_of_le_of_lt hb.2 (by decide))⟩) (by decide) λq h=>by omega)) ?_;rintro _ ⟨t,rfl,G⟩;refine dZ (su (P:=(·∈[1,3,5,7])) (qL (is:=[1,3,5,7]) W (fE hd W (dU W rfl) W (⟨(iw1 hb.1),(iw1 hb.2)⟩) (by decide) λq h=>by show q<4;omega) λ_ h=>h)) ?_;rintro _ ⟨st,rfl,w⟩;refine dZ (su (P:=λm=>0<m/\m<=6) (qL (is:=[1,2,2,3,3,6]) W (fE hd W (dU W rfl) W (⟨(iw1 hb.1),(iw1 hb.2)⟩) (by decide) λq h=>by show q<6;omega) (by decide))) ?_;rintro _ ⟨m,rfl,M⟩;have H:st<=7:=by revert w;simp only[aq,aQ,eg];omega
 obtain⟨y,hl⟩:=W2 G w (show m<7 from (Nat.succ_le_succ M.2));have ll:Z (O9 t st m)=m:=by simp[O9]
 refine fO (ds:=(O9 t st m).map λc=>sT [c]) ((iX (xs:=aJ m) (e:=λj:T=>.int (j:T)) (g:=λj=>sT [nX.getD ((t+st * j) % 26) 0]) (Bz (e:=.v 5) (m:=m) W (Nat.le_trans M.2 (by decide))) (by rw[bM];omega) (λ_ _=>W) λj V=>⟨J,UJ (z:=t+st * j) ((dU W (DN (i:=(st:T)) (j:=(j:T)) W rfl (⟨(Int.ofNat_zero_le _),(Int.le_trans (Int.ofNat_le.mpr H) (by decide))⟩))).trans (by rw[Int.natCast_add,Int.natCast_mul]))⟩).trans (by unfold O9;rw[bo];rfl)) (fO (ds:=([]:O Fm).map jg) W ?_);generalize O9 t st m=ls at y hl ll ⊢;subst ll;refine Ln (I:=λus Q=>∃(A:O Fm) (R D l n p r:g_),Q=IG N (.int (t:T)) (.int (st:T)) ls.length b f ls A R D l n p r/\A.map (·.1)=us.map (λj=>[at_ ls j])/\∀f∈A,gF f/\f.2.2=Ci) (P:=(·= Z ls)) ⟨_,_,W,W⟩ (λm h=>(Nat.le_trans (Nat.le_of_eq h) (Nat.le_trans M.2 (by decide)))) ⟨[],_,_,_,_,_,_,W,W,λ_ h=>nomatch h⟩ (λm h us x vs Q e i=>by subst h;exact Wa hd B hb hf hl M e i) λm h Q h1=>?_;subst h;obtain⟨A,R,D,l,n,p,r,rfl,u,E⟩:=h1
 have S:(aJ ls.length).map (λj=>[at_ ls j])=ls.map λc=>[c]:=by
  refine fu (by simp) λi h1 h2=>?_;simp only[nN,qW];rw[at_,cz,ae (by simpa using h2)];rfl
 rw[S]at u;have hlen:Z A=Z ls:=by have:=dy jo u;rwa [ah,ah]at this
 have F:∀g∈A,∃c∈ls,g.1=[c]:=λg s=>by
  have:g.1∈A.map (·.1):=bC s;rw[u]at this;obtain⟨c,h,e⟩:=aP.mp this;exact⟨c,h,e.symm⟩
 have K:Vz ls A:=by
  refine⟨λg s=>(E g s).1,λg s c B=>?_,?_,λc B=>?_⟩
  .obtain⟨d,h,e⟩:=F g s;rw[e]at B;rw[aG.mp B];exact h
  .have h1:(A.map (·.1)).Nodup:=by rw[u];exact w6 _ (λa b h e=>h (fX e).1) y
   have h2:A.map (·.1)=(A.map ent).map (·.1):=by rw[bo];rfl
   rw[h2]at h1;exact List.Pairwise.of_map _ (λa b h e=>h (dy _ e)) h1
  .have:[c]∈A.map (·.1):=by rw[u];exact bC B
   obtain⟨g,s,e⟩:=aP.mp this;exact⟨g,s,e,(E g s).2⟩
 refine Ln (I:=λus Q=>∃(A:O Fm) (R D l n p r:g_),Q=IG N (.int (t:T)) (.int (st:T)) ls.length b f ls A R D l n p r/\Z A<=6+Z us/\Vz ls A) (P:=(·<=4)) (fE hd W (dU W rfl) W (⟨(iw1 hb.1),(iw1 hb.2)⟩) (by decide) λq h=>by omega) (λm h=>(Nat.le_trans h (by decide))) ⟨A,_,_,_,_,_,_,W,by rw[hlen];exact ab M.2 (bP _ _),K⟩ (λm h us x vs Q e i=>V9 hd B hb hf hl M hp (by have:x<m:=aO.mp (by rw[e];simp);exact Nat.le_succ_of_le (Nat.le_trans this h)) (by have:=oA e;rw[bM]at this;exact Nat.le_succ_of_le (Nat.le_trans this h)) i) λm h Q h1=>?_;obtain⟨A,R,D,l,n,p,r,rfl,u,E⟩:=h1;refine⟨_,W,A,ls,W,λz=>?_,by rw[bM]at u;exact t9 u h,E⟩;have h0:0<Z ls:=M.1;obtain⟨g,s,_⟩:=E.own _ (bA h0);rw[z]at s;cases s
def zt{C:Fs}{ρ:eh}{e:Ex}{o:O Sx}{Q:Out->Prop}{b q:T}{A:O Dat}{B:Dat->O Dat}(h:Ev C e (full ρ) (cW b))(hi:(ρ[3]?).join=Y (.lst A,U))(t:∀x,mQ .seti (.lst A) [x,.int (q:T)]=Y (.lst (B x)))(k:∀cs:O dc,(0<Z cs/\Z cs<=b)->(∀c∈cs,qY c)->Go C o (ρ.set 3 (Y (.lst (B (tI cs)),U))) Q):Go C (.mut .seti 3 [e,.con (.int (q:T))]::o) ρ Q:=by
 obtain⟨_,f,a,_,cs,rfl,h1,h2⟩:=h;exact iU (vc (ds:=[tI cs,.int (q:T)]) hi (Xt a W (p0 cs) W) (t _)) (k cs h1 h2)
def KI(m:O dc):Prop:=Z m<=2/\∀c∈m,qY c
def KH:KI []:=⟨by decide,λ_ h=>nomatch h⟩
abbrev Z2(N:Dat)(b f:dc)(m0 m1 m2 m3 fg:O dc):eh:=[Y (N,J),Y (.int b,J),Y (.int f,J),Y (.lst [tI m0,tI m1,tI m2,tI m3],U),Y (tI fg,J)]
def oX{m:O dc}(h:0<Z m):m≠[]:=lj.mp h
def Lo(hd:Dw C N)(B:Cw C N)(hb:0<=b/\b<=1000)(hf:0<f/\f<=63):Go C ZL [Y (N,J),Y (.int b,J),Y (.int f,J),L,L] λo=>∃(m0 m1 m2 m3 fg:O dc) (fr:a7),o=.rt (.tup [.tup [tI m0,tI m1,tI m2,tI m3],tI fg]) fr/\(KI m0/\KI m1/\KI m2/\KI m3)/\(Z fg<=10/\∀c∈fg,qY c)/\(m1≠[]->m0≠[])/\(m2=[]↔fg=[])/\(m3=[]↔fg=[]):=by
 refine fO (ds:=[tI [],tI [],tI [],tI []]) W (dZ (P:=(·= tI [])) ⟨_,_,W,W,W⟩ ?_);rintro _ rfl;refine Lp (J':=λr=>∃m0 m1,r=Z2 N b f m0 m1 [] [] []/\KI m0/\KI m1/\(m1≠[]->m0≠[])) (LR (P:=λ_=>True) (fE hd W rfl rfl (⟨hb.1,(Int.le_trans hb.2 (by decide))⟩) (by decide) λ_ _=>trivial) 1) ?_ ⟨[],[],W,KH,KH,λh=>absurd rfl h⟩ ?_
 .refine zt (q:=0) (b:=2) (lG B W (dU W rfl) (oI (P:=(·< 2)) (fE hd W (dU W rfl) W (⟨(iw1 hb.1),(iw1 hb.2)⟩) (by decide) λq h=>by omega) λq h=>⟨(lw0),(rT h)⟩) W (⟨(Int.le_add_one hb.1),(Int.lt_of_le_of_lt hb.2 (by decide))⟩) (by decide) hf) W (λx=>Y1 _ _ _ _ x) λm0 h1 h2=>?_;refine Lp (J':=λr=>∃m0 m1,r=Z2 N b f m0 m1 [] [] []/\KI m0/\KI m1/\(m1≠[]->m0≠[])) (LR (P:=λ_=>True) (fE hd W (dU W rfl) W (⟨(iw1 hb.1),(iw1 hb.2)⟩) (by decide) λ_ _=>trivial) 1) ?_ ⟨m0,[],W,⟨h1.2,h2⟩,KH,λh=>absurd rfl h⟩ λi h=>cX ⟨_,W,h⟩;exact zt (q:=1) (b:=2) (lG B W (dU W rfl) (oI (P:=(·< 2)) (fE hd W (dU W rfl) W (⟨(iw1 hb.1),(iw1 hb.2)⟩) (by decide) λq h=>by omega) λq h=>⟨(lw0),(rT h)⟩) W (⟨(iw1 hb.1),(iw1 hb.2)⟩) (by decide) hf) W (λx=>Y0 _ _ _ _ x) λm1 j k=>cX ⟨_,W,m0,m1,W,⟨h1.2,h2⟩,⟨j.2,k⟩,λ_=>oX h1.1⟩
 rintro _ ⟨m0,m1,rfl,s,k1,a⟩;refine Lp (J':=λr=>∃m2 m3 fg,r=Z2 N b f m0 m1 m2 m3 fg/\KI m2/\KI m3/\(Z fg<=10/\∀c∈fg,qY c)/\(m2=[]↔fg=[])/\(m3=[]↔fg=[])) (LR (P:=λ_=>True) (fE hd W (dU W rfl) W (⟨(iw1 hb.1),(iw1 hb.2)⟩) (by decide) λ_ _=>trivial) 1) ?_ ⟨[],[],[],W,KH,KH,⟨by decide,λ_ h=>nomatch h⟩,MP,MP⟩ ?_
 .refine zt (q:=2) (b:=2) (lG B W (dU W rfl) (oI (P:=(·< 2)) (fE hd W (dU W rfl) W (⟨(iw1 hb.1),(iw1 hb.2)⟩) (by decide) λq h=>by omega) λq h=>by omega) W (⟨(iw1 hb.1),(iw1 hb.2)⟩) (by decide) hf) W (λx=>put2 _ _ _ _ x) λm2 d l=>?_;refine zt (q:=3) (b:=2) (lG B W (dU W rfl) (oI (P:=(·< 2)) (fE hd W (dU W rfl) W (⟨(iw1 hb.1),(iw1 hb.2)⟩) (by decide) λq h=>by omega) λq h=>by omega) W (⟨(iw1 hb.1),(iw1 hb.2)⟩) (by decide) hf) W (λx=>put3 _ _ _ _ x) λm3 b1 b2=>?_;refine dZ (lG (b:=10) B W (dU W rfl) (qL (is:=[1,2,3,10]) W (fE hd W (dU W rfl) W (⟨(iw1 hb.1),(iw1 hb.2)⟩) (by decide) λq h=>by show q<4;omega) (by decide)) W (⟨(iw1 hb.1),(iw1 hb.2)⟩) (by decide) hf) ?_;rintro _ ⟨fg,rfl,g,m⟩;have n:=oX d.1;have p:=oX b1.1;have nf:=oX g.1;exact cX ⟨_,W,m2,m3,fg,W,⟨d.2,l⟩,⟨b1.2,b2⟩,⟨g.2,m⟩,⟨λe=>absurd e n,λe=>absurd e nf⟩,λe=>absurd e p,λe=>absurd e nf⟩
 rintro _ ⟨m2,m3,fg,rfl,k2,k3,t,i2,i3⟩;exact gH (by rw[nD,bQ,iG (x':=.lst [tI m0,tI m1,tI m2,tI m3]) W rfl,bQ,vC];rfl) ⟨m0,m1,m2,m3,fg,_,W,⟨s,k1,k2,k3⟩,t,a,i2,i3⟩
def GY{ns:O dc}:∃(t:Tb) (fr:a7),Cn D (n+4) 37 [.lst (ns.map Dat.int),.int 0]=Y (tb t,fr)/\xH t:=by
 have hd:Dw (Cn D (n+3)) (.lst (ns.map Dat.int)):=dw;have a:Dw (Cn D (n+2)) (.lst (ns.map Dat.int)):=dw;have d:Cw (Cn D (n+2)) (.lst (ns.map Dat.int)):=cw
 suffices Go (Cn D (n+3)) ZK [Y (.lst (ns.map Dat.int),J),Y (.int 0,J),L,L,L,L] λo=>∃t fr,o=.rt (tb t) fr/\xH t by
  obtain⟨_,e,t,fr,rfl,h⟩:=this;exact⟨t,fr,p3 (np:=2) (nl:=6) (body:=ZK) W e,h⟩
 refine dZ (su (P:=λq=>0<q/\q<=63) (qL (is:=[4,4,12,63]) W (fE hd W rfl rfl (by decide) (by decide) λq h=>by show q<4;omega) (by decide))) ?_;rintro _ ⟨few,rfl,hf⟩;obtain⟨_,l,A,w,rfl,v,hl,i⟩:=Lq (b:=0) (f:=(few:T)) a d (λk h=>Sk h) (by decide) (⟨(Int.natCast_pos.mpr hf.1),(Int.ofNat_le.mpr hf.2)⟩);obtain⟨_,m,m0,m1,m2,m3,fg,fr,rfl,⟨r,k1,k2,k3⟩,u,j,i2,i3⟩:=Lo (b:=0+150) (f:=(few:T)) a d (by decide) (⟨(Int.natCast_pos.mpr hf.1),(Int.ofNat_le.mpr hf.2)⟩);have r1:Cn D (n+3) 35 [.lst (ns.map Dat.int),.int 0,.int (few:T)]=Y (.lst (A.map jg),U):=p3 (np:=3) (nl:=14) (body:=ZM) W l;have r2:Cn D (n+3) 36 [.lst (ns.map Dat.int),.int (0+150),.int (few:T)]=Y (.tup [AW ⟨A,m0,m1,m2,m3,fg⟩,tI fg],fr):=p3 (np:=3) (nl:=5) (body:=ZL) W m
 refine fO ((tm W rfl rfl).trans r1) (iU (Nj ((tm W (dU W rfl) W).trans r2) (by
  show(im (AW ⟨A,m0,m1,m2,m3,fg⟩) && (im (tI fg) && U))=U
  rw[DF,p0];rfl)) ?_)
 refine gH (by rw[nD,bQ,iG (x':=.lst (A.map jg)) W rfl,bQ,vC,bQ,vC];rfl) ⟨⟨A,m0,m1,m2,m3,fg⟩,_,W,?_⟩;exact⟨⟨λf h=>(i.g f h).o,hl,r.1,k1.1,k2.1,k3.1,u.1⟩,v,λf h=>(i.g f h).cr,i.nd,λf h c p=>i.own c (i.s f h c p),r.2,k1.2,k2.2,k3.2,u.2,j,i2,i3⟩
end K11E
namespace M
open PySem L2
open Builtin Builtin.Str
set_option tactic.hygienic true in
def NM{x:O T}(h1:p<=q)(h2:q<=Z x)(h:strSliceIndices l u 1 (Z x)=strSliceIndices (Y (p:dc)) (Y (q:dc)) 1 x.length):eM (T' x) l u=T' ((x.drop p).take (q - p)):=by
 have e:=PySem.StrLaws.sliced_plain (T' x) h1 (by exact h2);rw[nP]at e;unfold eM;rw[nP,h,e,PySem.StrLaws.strSliceIndices_plain h1 h2];split
 .rename_i z;simp at z;have hp:p=0:=bu (QI (ws h1) h2 (af z.symm)) (lw0);subst hp;rw[z,fA,List.take_length]
 .rfl
end M
namespace K11E
open PySem L2 M K11
noncomputable abbrev F9:O bw:=["out","in","done","num","let","all"]
noncomputable abbrev B6:O bw:=["out","done","num"]
def Ll:VE (c::r)=(c - 32)::r:=by
 have h:eM (T' (c::r)) (Y 1) L=T' r:=by
  refine(NM (p:=1) (by simp) (aw _) ?_).trans (by simp);have e:max (0:dc) (min ((c::r).length) ((c::r).length))=((c::r).length):=by omega
  simp only[Builtin.Str.strSliceIndices,show((1) > 0)=True by simp,e6];rw[c4 (show¬(((c::r).length):dc)<0 from(λz=>(Na z (MO _)))),e];rfl
 unfold VE;rw[h,F8];rfl
section
def KL:e∈s0 t↔∃f∈t.fs,∃w∈W6,e∈Uy f w:=by
 simp
def Dt:e∈s1 t↔∃B∈s0 t,e=B\/(t.m0.isEmpty=J/\e=QN t.m0 B):=by
 show e∈(if t.m0.isEmpty=U then s0 t else s0 t++(s0 t).map (QN t.m0))↔_;cases t.m0.isEmpty
 .show e∈s0 t++(s0 t).map (QN t.m0)↔_;rw[aR,aP];constructor
  .rintro(h|⟨B,h,rfl⟩)
   .exact⟨e,h,.inl rfl⟩
   .exact⟨B,h,.inr ⟨W,W⟩⟩
  .rintro⟨B,h,rfl|⟨_,rfl⟩⟩
   .exact .inl h
   .exact .inr ⟨B,h,W⟩
 .show e∈s0 t↔_;constructor
  .intro h;exact⟨e,h,.inl rfl⟩
  .rintro⟨B,h,rfl|⟨q,_⟩⟩
   .exact h
   .cases q
def zh:e∈Ce t↔e∈s1 t\/(t.m1.isEmpty=J/\∃f∈t.fs,∃w∈A6,e∈Lz t.m1 f w):=by
 show e∈(if t.m1.isEmpty=U then s1 t else s1 t++t.fs.flatMap (H6 t.m1))↔_;cases t.m1.isEmpty
 .show e∈s1 t++t.fs.flatMap (H6 t.m1)↔_;rw[aR,fR];constructor
  .rintro(h|⟨f,hf,h⟩)
   .exact .inl h
   .exact .inr ⟨W,f,hf,fR.mp h⟩
  .rintro(h|⟨_,f,hf,h⟩)
   .exact .inl h
   .exact .inr ⟨f,hf,fR.mpr h⟩
 .show e∈s1 t↔_;constructor
  .exact .inl
  .rintro(h|⟨q,_⟩)
   .exact h
   .cases q
def Ds:e∈s3 t↔e∈Ce t/\(t.fg.isEmpty=U->e.1≠tO):=by
 show e∈(if t.fg.isEmpty=U then(Ce t).filter AQ else Ce t)↔_;cases t.fg.isEmpty
 .simp
 simp
end
def W6B:(W6.all λw=>decide (w.2.2∈F9))=U:=by decide +kernel
def A6B:(A6.all λw=>decide (w.2.2∈F9))=U:=by decide +kernel
def Uw:∀e∈got t,e.2.2.2∈F9:=λe a=>by
 rcases aR.mp a with a|a
 .rcases aR.mp a with a|a
  .rcases zh.mp (Ds.mp a).1 with h|⟨_,f,_,w,b,h⟩
   .obtain⟨c,h0,h⟩:=Dt.mp h;obtain⟨f,_,w,b,h1⟩:=KL.mp h0
    have h2:c.2.2.2=w.2.2:=by
     unfold Uy at h1;split at h1
     .rw[aG.mp h1]
     .cases h1
    rw[show e.2.2.2=w.2.2 by rcases h with rfl|⟨_,rfl⟩<;>exact h2];exact ea (aI.mp W6B w b)
   .rw[show e.2.2.2=w.2.2 by
     unfold Lz at h;split at h
     .rw[aG.mp h]
     .cases h]
    exact ea (aI.mp A6B w b)
  .exact ea (aI.mp (show(Vb.all λe=>decide (e.2.2.2∈F9))=U by decide +kernel) e a)
 .have d:(tN:bw)∈F9:=by decide +kernel
  have hl:(tO:bw)∈F9:=by decide +kernel
  unfold rF at a;split at a
  .cases a
  .rcases aq.mp a with rfl|a
   .exact hl
   .obtain⟨p,_,h⟩:=fR.mp a;simp only[pF,aq,aQ,eg]at h
    rcases h with rfl|rfl|rfl<;>exact d
def Fw(B:WM t):Z (got t)<=300:=by
 have h1:=JE B.hl;have h2:=JR t;show(s3 t++Vb++rF t).length<=300;rw[aN,aN];show _+3+_<=_;exact t9 h1 h2
section
variable{t:Tb}
def QR(h:k<10):kR[k]?=Y (48+k):=ea (aI.mp (show((aJ 10).all λk=>decide (kR[k]?=Y (48+k)))=U by decide) k (aO.mpr h))
def xH.Y4(w:xH t):∀f∈t.fs,∀c∈f.1,∃cs,([c],cs,Ci)∈t.fs:=λf hf c a=>by
 obtain⟨⟨g,cs,h⟩,b,d,e⟩:=w.own f hf c a;cases d;cases e;exact⟨cs,b⟩
def Xc(t:Tb)(d:T):Prop:=∃c∈U' t.fs,d=c\/(t.m0.isEmpty=J/\d=c - 32)
def rY(w:xH t)(hd:Xc t d)(B:v∈W6)(hl:t.fg.isEmpty=U->v.2.1≠tO):∃cs,(v.2.1,[d],cs,v.2.2)∈got t:=by
 obtain⟨c,e,h⟩:=hd;obtain⟨f,hf,a⟩:=KN.mp e;obtain⟨cs,b⟩:=w.Y4 f hf c a;have g:(W6.all λv=>decide (v.1∈Ci))=U:=by decide
 have i:=ea (aI.mp g v B)
 have h0:(v.2.1,[c],cs,v.2.2)∈s0 t:=KL.mpr ⟨_,b,v,B,by
  unfold Uy;rw[a6 (cb (show v.1∈Ci from i))]
  exact aG.mpr W⟩
 rcases h with rfl|⟨j,rfl⟩
 .exact⟨cs,bp _ (bp _ (Ds.mpr ⟨zh.mpr (.inl (Dt.mpr ⟨_,h0,.inl rfl⟩)),hl⟩))⟩
 .refine⟨t.m0++cs,bp _ (bp _ (Ds.mpr ⟨zh.mpr (.inl (Dt.mpr ⟨_,h0,.inr ⟨j,?_⟩⟩)),hl⟩))⟩;show _=(v.2.1,VE [c],t.m0++cs,v.2.2)
  rw[Ll]
def US(hf:Z t.fg<=10)(B:k<Z t.fg)(hs:s∈B6):∃cs,(s,[48+k],cs,tN)∈got t:=by
 have q:kR[k]?=Y (48+k):=QR (Nat.le_trans B hf)
 have d:(48+k,t.fg[k])∈HD t:=by
  refine Cu.mpr ⟨k,?_⟩;show(kR.zip t.fg)[k]?=_;rw[List.getElem?_zip_eq_some];exact⟨q,ae B⟩
 have c:t.fg.isEmpty=J:=by
  cases h:t.fg with
  |nil=>rw[h]at B;cases B
  |cons a r=>rfl
 have b:∀e∈pF t (48+k,t.fg[k]),e∈got t:=λe f=>by
  refine aF _ ?_;show e∈(if t.fg.isEmpty=U then []else(tN,[],t.m3,tO)::(HD t).flatMap (pF t));rw[c];exact kc _ (fR.mpr ⟨_,d,f⟩)
 simp only[B6,aq,aQ,eg]at hs
 rcases hs with rfl|rfl|rfl
 .exact⟨_,b _ iT⟩
 .exact⟨_,b _ (kc _ iT)⟩
 .exact⟨_,b _ (kc _ (kc _ iT))⟩
def Q7(hs:s∈B6):(s,[32],[0],Aa)∈got t:=by
 refine bp _ (aF _ ?_);have a:(B6.all λs=>decide ((s,[32],[0],Aa)∈Vb))=U:=by decide +kernel
 exact ea (aI.mp a s hs)
def WO(h:t.fg.isEmpty=J):(tN,[],t.m3,tO)∈got t:=by
 refine aF _ ?_
 grind
set_option tactic.hygienic true in
def Hd(w:xH t)(h:d∈raw t)(f:¬Xc t d):d=32\/∃k,k<Z t.fg/\d=48+k:=by
 rcases aR.mp h with h|h
 .rcases aR.mp h with h|h
  .rcases aR.mp h with h|h
   .exact .inl (aG.mp h)
   .obtain⟨k,a⟩:=Cu.mp h
    have b:k<Z t.fg:=by
     rw[cU]at a;split at a
     .assumption
     .cases a
    rw[cU,a6 b,QR (by have:=w.o.hf;exact Nat.le_trans b this)]at a;exact .inr ⟨k,b,(bb a).symm⟩
  .exfalso;unfold IB at h;split at h
   .cases h
   .rename_i q;obtain⟨c,e,rfl⟩:=aP.mp h;exact f ⟨c,e,.inr ⟨by simpa using q,W⟩⟩
 .exact absurd ⟨d,h,.inl rfl⟩ f
end
abbrev Td:=bw×O T×bw
abbrev pB(e:Td):Dat:=.tup [.str e.1,.str (T' e.2.1),.str e.2.2]
abbrev GK(e:Td):O NK:=[.inl (.inr e.1),.inl (.inr (T' e.2.1)),.inl (.inr e.2.2)]
def QF(e:Td):vb (pB e)=Y (GK e):=by
 rfl
theorem Kx:∀es:O Td,oF (es.map pB)=Y (es.map GK)
 |[]=>rfl
 |e::es=>by
   rw[ak,oF,QF,Kx es];rfl
noncomputable abbrev Wd:O (O T):=[[1],[1],[1]]
def xv(e:Td):(GK e).map sN=Wd:=by
 rfl
abbrev IE(e:Td):O (O (O dc)):=codeN (GK e)
def RJ(es:O Td):O Dat:=(dz tH (es.map IE)).map (wH Wd)
def QD(e:Td):∀x∈GK e,zd (sN x)=U:=λx a=>by
 have:sN x∈(GK e).map sN:=bC a;rw[xv]at this;exact aI.mp (show Wd.all zd=U by decide) _ this
def UT(e:Td):wH Wd (IE e)=pB e:=by
 have:=zA (QF e) (QD e);rw[xv]at this;exact this
def FR(h:IE a=IE b):a=b:=by
 have h1:GK a=GK b:=code_inj ((xv a).trans (xv b).symm) (QD a) h;simp only[GK,cM,v3,vZ,oa]at h1;obtain⟨h1,h2,h3⟩:=h1;exact lT h1 (lT (My h2) h3)
def NC(es:O Td):∃E:O Td,RJ es=E.map pB/\E.Nodup/\(∀e,e∈E↔e∈es)/\Z E<=Z es:=by
 have a:∀l:O (O (O (O dc))),(∀c∈l,∃e:Td,c=IE e)->l.Nodup->∃E:O Td,l=E.map IE/\E.Nodup:=λl=>by
  induction l with
  |nil=>intro _ _;exact⟨[],W,eP⟩
  |cons c r f=>
    intro h j;obtain⟨e,rfl⟩:=h c iT;obtain⟨E,h1,h2⟩:=f (λc b=>h c (kc _ b)) (bE.mp j).2;refine⟨e::E,by rw[h1];rfl,bE.mpr ⟨λm=>(bE.mp j).1 ?_,h2⟩⟩;rw[h1];exact bC m
 obtain⟨E,h1,h2⟩:=a (dz tH (es.map IE)) (λc b=>by
  obtain⟨e,_,rfl⟩:=aP.mp ((c7 rW).mp b)
  exact⟨e,W⟩) (gm rW (eU rW _))
 refine⟨E,?_,h2,λe=>?_,?_⟩
 .unfold RJ;rw[h1,bo];exact du λe _=>UT e
 .have:=c7 rW (z:=IE e) (l:=es.map IE);rw[h1]at this;constructor
  .intro h;obtain⟨g,d,q⟩:=aP.mp (this.mp (bC h));rw[<-FR q];exact d
  .intro h;obtain⟨g,d,q⟩:=aP.mp (this.mpr (bC h));rw[<-FR q];exact d
 .have:=pW (gm rW (eU rW (es.map IE))) λx i=>(c7 rW).mp i;rw[h1,ah,ah]at this;exact this
def Ni(es:O Td):Z (dz tH (es.map IE))<=Z es:=by
 have:=pW (gm rW (eU rW (es.map IE))) λx a=>(c7 rW).mp a
 rwa [ah]at this
def K9(e:Td)(es:O Td):lY ((e::es).map pB)=L:=rfl
def Jo(e:Td)(es:O Td):jM ((e::es).map pB)=L:=rfl
def Nw{es:O Td}(hl:Z es<=300)(f:es≠[]):e8 .sset [.lst (es.map pB)]=Y (.lst (RJ es),U):=by
 cases es with
 |nil=>exact absurd rfl f
 |cons e r=>
   have d:CU ((e::r).map GK)=Wd:=xv e
   have h3:(((e::r).map GK).all λk=>decide (k.map sN=CU ((e::r).map GK)))=U:=by
    rw[aI];intro k a;obtain⟨q,_,rfl⟩:=aP.mp a;rw[d];exact cb (xv q)
   have b:=Ni (e::r)
   show(match lY ((e::r).map pB),jM ((e::r).map pB)with
    |some is,_=>Eo is
    |none,Y c=>sP c
    |none,L=>(oF ((e::r).map pB)).bind oy)=_
   rw[K9,Jo];show(oF ((e::r).map pB)).bind oy=_;rw[Kx];show oy ((e::r).map GK)=_;unfold oy Dl;rw[a6 ⟨by rw[ah];omega,by rw[d];rfl,by rw[d];rfl,h3,by rw[bo];exact ab b hl⟩,d,bo];rfl
def NS(S:O bw):dE 20 (S.map Dat.str)=U:=yU 20 S
def Xg(S:O bw):kd (S.map Dat.str)=U:=by
 induction S with
 |nil=>rfl
 |cons a r b=>rw[ak];exact b
def Xe{S:O bw}:ef .isin (.str s) (.lst (S.map Dat.str))=Y (decide (s∈S)):=by
 show(if(U && dE 20 (S.map Dat.str))=U then Y ((S.map Dat.str).any λy=>mw y (.str s))else L)=_;rw[NS,m8,a6 W]
 congr 1
 induction S with
 |nil=>rfl
 |cons a r b=>
   show((a == s) || (r.map Dat.str).any λy=>mw y (.str s))=_;rw[b];by_cases h:a=s
   .subst h;simp
   .have c:¬s=a:=λe=>h e.symm;simp[h,c]
def Xd{E:O Td}:ef .isin (pB q) (.lst (E.map pB))=Y (decide (q∈E)):=by
 have c:dE 20 (E.map pB)=U:=by
  induction E with
  |nil=>rfl
  |cons a r b=>rw[ak];exact b
 show(if(U && dE 20 (E.map pB))=U then Y ((E.map pB).any λy=>mw y (pB q))else L)=_;rw[c,m8,a6 W]
 congr 1
 clear c
 induction E with
 |nil=>rfl
 |cons a r b=>
   show(((a.1 == q.1) && ((T' a.2.1 == T' q.2.1) && ((a.2.2 == q.2.2) && U))) || (r.map pB).any λy=>mw y (pB q))=_;rw[b,Mz a.2.1 q.2.1,kD];by_cases h:a=q
   .subst h;simp
   .have d:¬q=a:=λe=>h e.symm
    have h2:(a.1 == q.1 && (decide (a.2.1=q.2.1) && a.2.2 == q.2.2))=J:=by
     rw[IW];intro z;simp only[au,gq,ed]at z;exact h (lT z.1 (lT z.2.1 z.2.2))
    rw[h2];simp[d]
def RC(e:S≠[])(hl:Z S<4000)(B:∀s∈S,s∈F9):e8 .sset [.lst (S.map Dat.str)]=Y (.lst ((dz pq S).map Dat.str),U):=by
 have h1:Z (dz pq S)<=Z F9:=pW (gm xN (eU xN S)) λx b=>B x ((c7 xN).mp b)
 have h2:jM (S.map Dat.str)=Y S:=by
  clear e hl B h1
  induction S with
  |nil=>rfl
  |cons a r c=>rw[ak,jM,c];rfl
 have h3:lY (S.map Dat.str)=L:=by
  cases S with
  |nil=>exact absurd rfl e
  |cons a r=>rfl
 show(match lY (S.map Dat.str),jM (S.map Dat.str)with
   |some is,_=>Eo is
   |none,Y d=>sP d
   |none,L=>(oF (S.map Dat.str)).bind oy)=_
 rw[h2,h3];exact a6 ⟨hl,bh h1 (by decide)⟩
abbrev FY(E:O Td)(S:O bw):O bw:=if(decide (tN∈S) && decide ((tN,[],tO)∈E))=U then S++[tO]else S
abbrev hits(E:O Td)(S:O bw)(c:T)(e:Td):a7:=decide (e.1∈FY E S) && decide (e.2.1=[c])
abbrev Hk(E:O Td)(S:O bw)(c:T):O bw:=(E.filter (hits E S c)).map (·.2.2)
theorem AR{d0 d1:Dat}:∀F:O Td,pY (oJ C 3 J (ja 3 [3,2] [Y d0,Y d1,Y (sT [c]),Y (.lst ((FY E S).map Dat.str))]) [.and (.cmp .isin (.v 0) (.v 3)) (.cmp .eq (.v 1) (.v 4))] (.v 2)) (F.map pB)=Y (((F.filter (hits E S c)).map (·.2.2)).map Dat.str,U)
 |[]=>rfl
 |e::F=>by
   obtain⟨g,d⟩:=Ms (C:=C) (ρ:=[Y (.str e.1),Y (sT e.2.1),Y (.str e.2.2),Y (.lst ((FY E S).map Dat.str)),Y (sT [c])]) (a:=.cmp .isin (.v 0) (.v 3)) (b:=.cmp .eq (.v 1) (.v 4)) (fk W rfl Xe) (fk W rfl (UN _ _))
   have f:oJ C 3 J (ja 3 [3,2] [Y d0,Y d1,Y (sT [c]),Y (.lst ((FY E S).map Dat.str))]) [.and (.cmp .isin (.v 0) (.v 3)) (.cmp .eq (.v 1) (.v 4))] (.v 2) (pB e)=Y (if hits E S c e=U then Y (.str e.2.2,J)else L):=by
    show((vG C [.and (.cmp .isin (.v 0) (.v 3)) (.cmp .eq (.v 1) (.v 4))] [Y (.str e.1),Y (sT e.2.1),Y (.str e.2.2),Y (.lst ((FY E S).map Dat.str)),Y (sT [c])]).bind λb=>if b=U then(bR C (.v 2) [Y (.str e.1),Y (sT e.2.1),Y (.str e.2.2),Y (.lst ((FY E S).map Dat.str)),Y (sT [c])]).map Y else Y L)=_;rw[vG,d];show((if hits E S c e=U then Y U else Y J).bind _)=_;cases hits E S c e<;>rfl
   rw[ak,pY,f,AR F];cases q:hits E S c e<;>simp[q,im]
def JG{E:O Td}{S:O bw}(hl:Z E<=300)(B:Z S<=100):Cn D (n+1) 38 [.lst (E.map pB),.lst (S.map Dat.str),sT [c]]=Y (.lst ((Hk E S c).map Dat.str),U):=by
 refine iy W ?_;generalize Cn D n=C;obtain⟨g,d⟩:=Ms (C:=C) (ρ:=full [Y (.lst (E.map pB),J),Y (.lst (S.map Dat.str),J),Y (sT [c],J),Y (.lst (S.map Dat.str),U)]) (a:=.cmp .isin (.f_ "num") (.v 1)) (b:=.cmp .isin (.tup [(.f_ "num"),(.f_ ""),(.f_ "let")]) (.v 0)) (fk W rfl Xe) (fk (show _=Y (pB (tN,[],tO),_) by rw[nD,bQ,vE,bQ,vE,bQ,vE,X9];rfl) W Xd);refine fO (ds:=S.map Dat.str) (iG W (by show Y (_,kd _)=_;rw[Xg])) (lE (J':=(·= [Y (.lst (E.map pB),J),Y (.lst (S.map Dat.str),J),Y (sT [c],J),Y (.lst ((FY E S).map Dat.str),U)])) d (λh=>vt (P:=(·= .str tO)) ⟨_,_,W,W,W⟩ W (by rw[ah];exact Nat.lt_of_le_of_lt B (by decide)) ?_) (λh=>cX ⟨_,W,by unfold FY;rw[h];rfl⟩) ?_)
 .rintro _ rfl;exact cX ⟨_,W,by unfold FY;rw[h,a6 W,bK];rfl⟩
 .rintro _ rfl;exact gH (o5 (items:=E.map pB) W (by rw[ah];exact Nat.le_trans hl (by decide)) (AR E)) W
def TH(n:T):(F9.all λs=>lV (Cn D (n+1) 19 [.str s]) (Y (.bl (decide (s∈B6)),J)))=U:=by kernel_rfl
def Sl(hs:s∈F9):Cn D (n+1) 19 [.str s]=Y (.bl (decide (s∈B6)),J):=jr (aI.mp (TH n) s hs)
def Vi{c:Type}(g:c->a7)(xs:O c):e8 .any [.lst (xs.map λx=>Dat.bl (g x))]=Y (.bl (xs.any g),J):=by
 have h:nE (xs.map λx=>Dat.bl (g x))=Y (xs.map g):=by
  induction xs with
  |nil=>rfl
  |cons a r b=>rw[ak,nE,b];rfl
 show((nE _).map λbs=>(Dat.bl (bs.any id),J))=_;rw[h];show Y (Dat.bl ((xs.map g).any id),J)=_;rw[List.any_map];rfl
noncomputable abbrev Jg(e:Ed):Td:=(e.1,e.2.1,e.2.2.2)
structure JS(t:Tb)(S:O bw):Prop where
 s:∀s∈S,s∈F9
 l:Z S<=6
 h:Aa∈S\/(tN∈S/\t.fg.isEmpty=J)\/(Rg∈S/\zQ∈S)
section
def hit(B:∀e,e∈F↔e∈(got t).map Jg)(ha:a∈FY F S)(h:∃cs,(a,[c],cs,s)∈got t):s∈Hk F S c:=by
 obtain⟨cs,h⟩:=h;exact aP.mpr ⟨(a,[c],s),kW.mpr ⟨(B _).mpr (aP.mpr ⟨_,h,W⟩),by unfold hits;rw[cb ha,cb W];rfl⟩,W⟩
def oS(h:a∈S):a∈FY F S:=by
 unfold FY;split
 .exact bp _ h
 .exact h
def Pf(w:xH t)(B:∀e,e∈F↔e∈(got t).map Jg)(j:JS t S)(u:c∈raw t):Hk F S c≠[]/\(∀s∈Hk F S c,s∈F9)/\JS t (dz pq (Hk F S c)):=by
 have f:∀s∈Hk F S c,s∈F9:=λs p=>by
  obtain⟨e,l,rfl⟩:=aP.mp p;obtain⟨m,h0,rfl⟩:=aP.mp ((B _).mp (kW.mp l).1);exact Uw m h0
 have d:(98,Aa,Rg)∈W6/\(119,Aa,zQ)∈W6/\(98,tO,Rg)∈W6/\(119,tO,zQ)∈W6/\(109,Rg,Rg)∈W6/\(101,Rg,zQ)∈W6:=by decide +kernel
 have h3:(Aa:bw)∈B6/\(tN:bw)∈B6/\(zQ:bw)∈B6:=by decide +kernel
 have a:Aa≠tO/\Rg≠tO:=by decide +kernel
 have b:Aa∈Hk F S c\/(tN∈Hk F S c/\t.fg.isEmpty=J)\/(Rg∈Hk F S c/\zQ∈Hk F S c):=by
  by_cases hl:Xc t c
  .refine .inr (.inr ?_)
   rcases j.h with h|⟨h,hf⟩|⟨h,_⟩
   .exact⟨hit B (oS h) (rY w hl d.1 λ_=>a.1),hit B (oS h) (rY w hl d.2.1 λ_=>a.1)⟩
   .have hb:tO∈FY F S:=by
     unfold FY;rw[cb h,cb ((B (tN,[],tO)).mpr (aP.mpr ⟨_,WO hf,W⟩))];exact(aF _ iT:tO∈S++[tO])
    exact⟨hit B hb (rY w hl d.2.2.1 λz=>by rw[hf]at z;cases z),hit B hb (rY w hl d.2.2.2.1 λz=>by rw[hf]at z;cases z)⟩
   .exact⟨hit B (oS h) (rY w hl d.2.2.2.2.1 λ_=>a.2),hit B (oS h) (rY w hl d.2.2.2.2.2 λ_=>a.2)⟩
  .obtain⟨s,p,i⟩:∃s∈B6,s∈S:=by
    rcases j.h with h|⟨h,_⟩|⟨_,h⟩
    .exact⟨_,h3.1,h⟩
    .exact⟨_,h3.2.1,h⟩
    .exact⟨_,h3.2.2,h⟩
   rcases Hd w u hl with rfl|⟨k,g,rfl⟩
   .exact .inl (hit B (oS i) ⟨_,Q7 p⟩)
   .refine .inr (.inl ⟨hit B (oS i) (US w.hf g p),?_⟩)
    cases n:t.fg with
    |nil=>rw[n]at g;cases g
    |cons=>rfl
 refine⟨λe=>?_,f,λs p=>f s ((c7 xN).mp p),pW (gm xN (eU xN _)) λx o=>f x ((c7 xN).mp o),?_⟩
 .rw[e]at b
  rcases b with h|⟨h,_⟩|⟨h,_⟩<;>cases h
 .rw[c7 xN,c7 xN,c7 xN,c7 xN];exact b
end
def Xz(h:bR C e ρ=Y (.int (m:T),f)):Ei C (.bin .mn (.e_ 60) e) ρ (·<=60):=by
 by_cases q:m<60
 .exact⟨m,J,iH W h (dy (λx=>Y (Dat.int x,J)) (a6 (show(m:dc)<60 by omega))),by omega⟩
 .exact⟨60,J,iH W h (dy (λx=>Y (Dat.int x,J)) (c4 (show¬(m:dc)<60 by omega))),by omega⟩
def Xy(h:Ei C a ρ P)(o:Ei C b ρ P):Ei C (.bin .mx a b) ρ P:=by
 obtain⟨p,f,e,hp⟩:=h;obtain⟨q,g,c,d⟩:=o;by_cases z:p<q
 .exact⟨q,J,iH e c (dy (λx=>Y (Dat.int x,J)) (a6 (show(p:dc)<q by omega))),d⟩
 .exact⟨p,J,iH e c (dy (λx=>Y (Dat.int x,J)) (c4 (show¬(p:dc)<q by omega))),hp⟩
def Sm(hs:Cn D (n+2) 17 [tb t]=Y (sT s,J))(B:∀c∈x,c∈s)(hl:Z x<=1000):Cn D (n+3) 18 [tb t,sT x]=Y (.bl U,J):=by
 refine iy W (dZ (P:=(·= sT s)) ⟨_,_,(gp W).trans hs,W,W⟩ ?_);rintro _ rfl;exact gH (iG (iX (xs:=x) (e:=λc=>sT [c]) (g:=λ_=>Dat.bl U) (Hv W uc) hl (λ_ _=>W) λc h=>⟨J,fk W rfl (by rw[DD,cb (B c h)])⟩) (Mt x)) W
abbrev E39(N:Dat)(t:Tb)(s x:O T)(m:T)(F:O Td)(S:O bw)(z:g_):eh:=[Y (N,J),Y (tb t,J),Y (sT s,J),Y (.int (m:T),J),Y (sT x,J),Y (.lst (F.map pB),U),Y (.lst (S.map Dat.str),U),z]
def N9{ns:O dc}(hN:Z ns<=1000):∃fr,Cn D (n+8) 39 [.lst (ns.map Dat.int)]=Y (.bl U,fr):=by
 obtain⟨t,fr,r1,w⟩:=GY (n:=n+3) (ns:=ns);have r2:=C3 (n:=n+2) w;have r3:=G3 (n:=n) w;have M:Cn D (n+7) 17 [tb t]=Y (sT (sg t),J):=xx w.o;have G:Cn D (n+7) 25 [tb t]=_:=G9 (n:=n+5) w.o (Fw w.o);obtain⟨E,O',_,k,p⟩:=RI (got t);have p:=ab p (Fw w.o);rw[O']at G;have Q:∀x:O T,(∀c∈x,c∈sg t)->Z x<=1000->Cn D (n+7) 18 [tb t,sT x]=Y (.bl U,J):=λx R hl=>Sm (n:=n+4) (xx w.o) R hl;have hd:Dw (Cn D (n+7)) (.lst (ns.map Dat.int)):=dw;have T':∀(E:O Td)(S:O bw)(c:T),Z E<=300->Z S<=100->Cn D (n+7) 38 [.lst (E.map pB),.lst (S.map Dat.str),sT [c]]=Y (.lst ((Hk E S c).map Dat.str),U):=λE S c h1 h2=>JG h1 h2;have U':∀s∈F9,Cn D (n+7) 19 [.str s]=Y (.bl (decide (s∈B6)),J):=λs h=>Sl h;have sl:=RZ w.o
 have u:E.map Jg≠[]:=λz=>by
  have hb:(Aa,[32],[0],Aa)∈got t:=Q7 (by decide +kernel);have:Jg (Aa,[32],[0],Aa)∈E.map Jg:=bC ((k _).mpr hb);rw[z]at this;cases this
 obtain⟨F,X,_,c0,e1⟩:=NC (E.map Jg);have H:=Nw (es:=E.map Jg) (by rw[ah];exact p) u;rw[X]at H
 have hF:∀e,e∈F↔e∈(got t).map Jg:=λe=>by
  rw[c0,aP,aP];exact⟨λ⟨a,h,z⟩=>⟨a,(k a).mp h,z⟩,λ⟨a,h,z⟩=>⟨a,(k a).mpr h,z⟩⟩
 have y:Z F<=300:=by rw[ah]at e1;exact Nat.le_trans e1 p
 suffices ∃b,Go (Cn D (n+7)) b39 [Y (.lst (ns.map Dat.int),J),L,L,L,L,L,L,L] λo=>o=.rt (.bl U) b by
  obtain⟨b,h⟩:=this;exact⟨b,iy W h⟩
 refine⟨J,?_⟩;have hlen:e8 .len [.lst (ns.map Dat.int)]=Y (.int (ns.length:T),J):=by rw[nF,ah]
 generalize Dat.lst (ns.map Dat.int)=N at *;generalize Cn D (n+7)=C at *;refine dZ (P:=(·= tb t)) ⟨_,_,(gp ((gp ((FT W rfl).trans r1)).trans r2)).trans r3,QJ t,W⟩ ?_;rintro _ rfl;refine dZ (P:=(·= sT (sg t))) ⟨_,_,(gp W).trans M,W,W⟩ ?_;rintro _ rfl;have A:∀c∈sg t,c∈raw t:=λc h=>RY.mp h;generalize sg t=s at *;refine dZ (su (P:=(·<=60)) (Xy (Xz (m:=ns.length) (iG W hlen)) (fE hd W rfl rfl (by decide) (by decide) λq h=>by omega))) ?_;rintro _ ⟨m,rfl,hm⟩
 obtain⟨e2,ew,wl,wn,_⟩:=zD (C:=C) (ρ:=full [Y (N,J),Y (tb t,J),Y (sT s,J),Y (.int (m:T),J),L,L,L,L]) (caps:=[0,2]) (it:=.rng [.v 3]) (elt:=.ix (.v 2) (.call 32 [(.v 1),(.bin .add (.e_ 210) (.v 0)),(.blt .len [(.v 2)])])) (λc=>sT [c]) (λ_ c=>c∈s) (Bz (m:=m) W (Nat.le_trans hm (by decide))) (by rw[bM];omega) (λ_=>W) λi hi=>by
  obtain⟨q,f,rq,J'⟩:Ei C (.call 32 [(.v 1),(.bin .add (.e_ 210) (.v 0)),(.blt .len [(.v 2)])]) ((ja 1 [0,2] (full [Y (N,J),Y (tb t,J),Y (sT s,J),Y (.int (m:T),J),L,L,L,L])).set 0 (Y (.int ((i:T):dc)))) (·< Z s):=fE hd W (dU W rfl) (iG W (len_T (Nat.le_trans sl.2 (by decide)))) (by have:=aO.mp hi;omega) (Int.natCast_pos.mpr sl.1) λq h=>by omega
  exact⟨s[q],J,m9 W rq (Uk (Nat.le_trans sl.2 (by decide)) J'),bA J'⟩
 rw[bM]at wl;have K:∀c∈e2,c∈s:=λc B=>by obtain⟨_,_,h⟩:=wn c B;exact h
 refine dZ (P:=(·= sT e2)) ⟨_,_,tG W ew (by rw[X9];exact join_1 (Nat.le_trans (Nat.le_of_eq wl) (Nat.le_trans hm (by decide)))),W,W⟩ ?_;rintro _ rfl;refine jN (fk ((FT W rfl).trans (Q e2 K (by omega))) W rfl) ?_;refine fO (ds:=F.map pB) (iG (iX (xs:=E) (e:=kJ) (g:=λe=>pB (Jg e)) (Hv ((gp W).trans G) W) (Nat.le_trans p (by decide)) (λ_ _=>W) λe _=>⟨_,by rw[nD,bQ,m9 (d:=.str e.1) W rfl rfl,bQ,m9 (d:=sT e.2.1) W rfl rfl,bQ,m9 (d:=.str e.2.2.2) W rfl rfl];rfl⟩) (by rw[show E.map (λe=>pB (Jg e))=(E.map Jg).map pB by rw[bo];rfl];exact H)) ?_;refine fO (ds:=[Aa].map Dat.str) (W0 ⟨_,_,W,W,W⟩) ?_;refine mT (V:=λc:T=>sT [c]) (xs:=e2) (I:=λ_ ρ=>∃S z,ρ=E39 N t s e2 m F S z/\JS t S) (ρ0:=E39 N t s e2 m F [Aa] L) (pZ W uc W) ⟨[Aa],L,W,λa h=>by rw[aG.mp h];decide +kernel,by decide,.inl iT⟩ ?_ ?_
 .rintro us c vs _ e ⟨S,z,rfl,j⟩;have B:c∈raw t:=A c (K c (by rw[e];simp));obtain⟨n1,n2,L'⟩:=Pf w hF j B;refine⟨_,W,fO (ds:=(dz pq (Hk F S c)).map Dat.str) (iG ((tm W rfl rfl).trans (T' F S c y (by have:=j.l;exact Nat.le_trans this (by decide)))) (RC n1 (by rw[ah];have:=g8 (hits F S c) F;exact t9 this y) n2)) (jN (f:=J) (fk W rfl ?_) (cX ⟨_,W,_,_,W,L'⟩))⟩
  cases q:dz pq (Hk F S c)with
  |nil=>have:=L'.h;rw[q]at this;rcases this with h|⟨h,_⟩|⟨h,_⟩<;>cases h
  |cons a r=>
    show(if(dE 19 ((a::r).map Dat.str) && U)=U then Y J else L)=_;rw[yU];rfl
 .rintro _ ⟨S,z,rfl,j⟩;refine gH (iG (iX (xs:=S) (e:=Dat.str) (g:=λa=>Dat.bl (decide (a∈B6))) (Hv W rfl) (by have:=j.l;exact Nat.le_trans this (by decide)) (λ_ _=>W) λa ha=>⟨J,fk ((gp W).trans (U' a (j.s a ha))) W (by show Y ((decide (a∈B6) == U) == U)=_;cases decide (a∈B6)<;>rfl)⟩) ((Vi _ S).trans ?_)) W;rw[fw.mpr];have h3:(Aa:bw)∈B6/\(tN:bw)∈B6/\(zQ:bw)∈B6:=by decide +kernel
  rcases j.h with h|⟨h,_⟩|⟨_,h⟩
  .exact⟨_,h,cb h3.1⟩
  .exact⟨_,h,cb h3.2.1⟩
  .exact⟨_,h,cb h3.2.2⟩
end K11E
namespace K11
open M
def math(ns:O dc)(h:Z ns<=63):∃fr,Cn D 12 39 [.lst (ns.map Dat.int)]=Y (.bl U,fr):=K11E.N9 (n:=4) (by omega)
end K11
namespace M
open PySem PySem.Spec PyProof.Rows L2
section
variable{K:Fg}
mutual
noncomputable def Of(K:Fg):Dat->ag->a7
 |.str x,.str y _=>decide (x=y)
 |.int i,.int j _=>decide (i=j)
 | .tup b,.ref p=>match K.lookup p with
   |some ⟨.type c,L,.seq a _,_⟩=>decide (c="tuple") && decide (a.size<=aD) && JP K b a.toList
   |_=>J
 |_,_=>J
noncomputable def JP(K:Fg):O Dat->O ag->a7
 |[],[]=>U
 |d::a,u::us=>Of K d u && JP K a us
 |_,_=>J
end
set_option tactic.hygienic true
mutual
theorem EG:∀(d:Dat)(u:ag),Of K d u=U->∃v,RelV v u/\CV K d v
 |.str x,.str y t,h=>by
   cases ea h;exact⟨.str x,⟨t,W⟩,λ_=>W,λ_ z=>nomatch z⟩
 |.int i,.int j t,h=>by
   cases ea h;exact⟨.int i,⟨t,W⟩,λ_=>W,λ_ z=>nomatch z⟩
 |.tup f,.ref p,h=>by
   unfold Of at h;split at h
   .rename_i c e n l a;obtain⟨h,h3⟩:=iu.mp h;obtain⟨h1,h2⟩:=iu.mp h;cases ea h1;obtain⟨vs,r,q⟩:=AF f e.toList h3;exact⟨.ref p,W,λF=>⟨p,vs,W,.inr ⟨_,e,n,a,W,W,ea h2,r⟩,q F⟩,λb z=>by cases z;exact⟨_,a,W,W⟩⟩
   .cases h
theorem AF:∀(ds:O Dat)(us:O ag),JP K ds us=U->∃vs,cH vs us/\∀F,cB K F ds vs
 |[],[],_=>⟨[],.nil,λ_=>W⟩
 |d::ds,u::us,h=>by
   obtain⟨h1,h2⟩:=iu.mp h;obtain⟨v,r,q⟩:=EG d u h1;obtain⟨vs,a,b⟩:=AF ds us h2;exact⟨v::vs,.cons r a,λF=>⟨v,vs,W,q.1 F,b F⟩⟩
 |[],_::_,h=>nomatch h
 |_::_,[],h=>nomatch h
end
def XF(K:Fg)(p:bw×Dat):a7:=match ni K ek p.1 with
 |some (Y u)=>Of K p.2 u
 |_=>J
theorem FP(X:K.In h)(G:h.Ns ek mg):∀{con:O (bw×Dat)},con.all (XF K)=U->∀x d,con.lookup x=Y d->∃v u,mg x=Y u/\RelV v u/\CV K d v
 |(y,e)::b,h,x,d,q=>by
   obtain⟨h1,h2⟩:=iu.mp h;rw[fq]at q;split at q
   .rename_i z;cases q;rw[eq_of_beq z];unfold XF at h1;split at h1
    .rename_i u a;obtain⟨v,r,c⟩:=EG _ _ h1;exact⟨v,u,MD X G a,r,c⟩
    .cases h1
   .exact FP X G h2 x d q
set_option tactic.hygienic false
end
end M
open PySem PySem.W PyProof.Rows
structure PySem.W.Fast:Prop where(tw10069221233716213831 tw16339754364552687388 tw8126151768650421611 tw10730154335353895528 tw17459721258508235873 tw2367877872093230405 tw18131013763943453842 tw5422624091843811621 tw945535702300889023 tw10067193983809118930 tw3654186983957792042 tw3087756242607829147 tw15895197200354107956 tw9678442550579767431 tw11392460672971664817 tw3972980491390263771 tw12318860240264143473 tw13856419723152433996 tw2169902100837412318 tw8981134806157864306 tw1202442489480827607 tw17535591243695352286 tw7419144119143897437 tw15559595779899828255 tw9722640285004254446 tw13833677384260590406 tw10287860739144387004 tw12611137799100500311 tw13956448770732029904 tw5391687860300707996 tw15613602144306006089 tw13468786413611614804 tw10516980619740865368 tw10889457643727860183 tw10150275376730399606 tw7975682681012664071 tw15932975294637010545 tw14829319391385294236 tw106849742198682135 tw8495099227814936929 tw16158206701446533508 tw3991431758611562664 tw11831063492016881731 tw5902913178262467052 tw17985840060658511077 tw9071325673268015845 tw9263812852307620403 tw5221819021030481626 tw4497667005197404886 tw14660014505050018074 tw12868515817226985815 tw11527988746850773050 tw12454313867347245984 tw6051366198196074592 tw4780487765264067206 tw4826083890923710104 tw3938263865979391607 tw17028904060538500270 tw4054725059607369038 tw2474024064013105358 tw265810674699420679 tw13946879238432393272 tw5160372904540562793 tw16148391526937063410 tw15557985966083666109 tw2588644100259588346 tw15742811995308619315 tw16404866797346043991 tw2691003746370411312 tw13850786684200316849 tw5322171319924680415 tw15658683531055591476 tw4750399359407546291 tw6891786810816834535 tw7383725921824059705 tw17553931348414981545 tw10872172536698817273 tw14825571769249516323 tw11298719385908406663 tw883389280639164496 tw14467407869798496491 tw143525111034716499 tw18401986377357355261 tw8165725624315436972 tw10122166566693903764 tw2578372149114646760 tw10135927177301229144 tw17695312378139581189 tw16387365809604025361 tw6294066716617771737 tw2832670192673160936 tw2212238302956978711 tw9394892814849779774 tw12929253223566257343 tw13348956622877160745 tw5271947616401512080 tw2755604892057699170 tw3619300418289509807 tw12977140539180186292 tw4231018265502137562 tw14159847041161931592 tw17288006441961606075 tw13020578373726190129 tw160250281743009637 tw606503880479237683 tw1435773890776501224 tw13960150608066591218 tw6945014971279570504 tw6800985032021795370 tw14019968242882507879 tw6417645912359434920 tw7286321540493262416 tw5081546490214580381 tw18184952372343890244 tw16877785804028051820 tw12730117874000559121 tw7680535435697700807 tw8863463610415696630 tw7786234994680142900 tw9208575481392903499 tw4975787115140119960 tw157280170751685994 tw6380723267649995851 tw16381919279913112021 tw13507521859241374297 tw14613112212073892820 tw8842314734776878043 tw11935538244634261997 tw11764389886041999945 tw4937672154172383198 tw10110421728438189615 tw15560815323671953328 tw8666267248812204137 tw18313743810133191429 tw7500021074583974021 tw7766130416557412172 tw4294471663100976927 tw7245757775372320285 tw17657406335976856146 tw14762500154840980529 tw6071245852393209725 tw8528712969796291026 tw7143308110469016107 tw2495401115093956866 tw13958257244158066896 tw2938755631533383804 tw8279168977173873959 tw16516438130058277493 tw9818437905434044553 tw2138762354914004527 tw12949935348615688289 tw14224449724188530726 tw15080222811077478194 tw3841440114996963929 tw12014780302910511754 tw14607961841080873305 tw9979798927531348747 tw6213592949944889010 tw18121493635378335922 tw4742928842726304134 tw5290364526707025338 tw17854872686848309091 tw6886908541058816661 tw18410525259530826500 tw17525722922561785617 tw12372011136306045439 tw1438040242022065012 tw6490411623245236960 tw15552541112556431366 tw13404113331137809886 tw7114733502703840866 tw17561328975271948492 tw1340203116265985725 tw7133972266440036545 tw17916768284568900508 tw1873784010223457570 tw17193341530718561084 tw10275320166819912313 tw16093303481168630109 tw12582085698931319899 tw17144288716034471037 tw5393408143873211845 tw10183724127037610816 tw2619815574821760200 tw5524332201070543542 tw13190098647953231727 tw5981059067539464207 tw14429193140768853181 tw8106138137338582286 tw12858259593033625120 tw11537074643028008224 tw10373979115149870672 tw10298212021738040505 tw18249266979056619037 tw2929314472692387479 tw14922526099331725175 tw17170271868816094448 tw15524577033268663222 tw10427430905994114454 tw9091028923840177942 tw1794893899725293749 tw5002191273127039129 tw9944452180540889308 tw670184988235172508 tw4850393597177903708 tw11378214434755940574 tw947730717237826521 tw15225807668376394440 tw9814073883622119671 tw11564713414021823889 tw11691293313375184301 tw4633857901070361203 tw12872790349325530947 tw6144340991699507149 tw3586877965778573057 tw10658759098886555112 tw10821460072902084945 tw8619865964956452512 tw13738858698176613571 tw12617749588757152832 tw17995461434848595697 tw13905893156386738378 tw13556479297850405153 tw14948394645954258966 tw15582094078673240519 tw3523267405672162640 tw17071635418694520843 tw16085652358214090496 tw16429583735153711864 tw8063853370923215042 tw11503988516297305702 tw18030688488199403439 tw8244575193769502782 tw1153243768881126880 tw16541742371894367122 tw13253570839872441101 tw1483996360250804842 tw11992392319662622883 tw6659519673738984874 tw16193833206088731716 tw8866344358739523875 tw9896325481455427868 tw2516806443026103168 tw9231553614762662569 tw3542661354139084050 tw6076580921164486834 tw6228472901939818026 tw6634636771814122617 tw10582800348596282821 tw15724160525522088481 tw4752212358193569896 tw3441758522643337592 tw16428411428977473258 tw12619743016158130584:True)
set_option maxRecDepth 100000 in
set_option maxHeartbeats 0 in
theorem PySem.Challenge.cw_dots_k11_whole_every_text_has_a_writing_holds : PySem.Challenge.rw_dots_k11_whole_every_text_has_a_writing.Holds := by
 w_on;o_law;k_head;(case hw=>w_witness2)
 k_fill
 refine M.walk (l:=iZ) (n:=12) (x:="_law_script") rfl ⟨rfl,by decide,by decide⟩ rfl (λw h Y=>PySem.W.kIn_of Y) ?F
 case F=>
  intro w mg fa h KX G hmg
  have Z:∀x∈M.lI,mg x=L:=by
   refine M.P4 KX G ?_
   kernel_rfl
  have T':M.Here (L2.KOf KX) mg K11.D K11.con:=⟨K11.WL,M.Vh KX G (by kernel_rfl) (by kernel_rfl) (λ_ _ _ _ _ _ _=>by kernel_rfl),Z,M.FP KX G (by kernel_rfl)⟩
  exact M.TZ (l:=iZ) T' (j:=39) rfl rfl hmg K11.math
