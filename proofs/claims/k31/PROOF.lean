import PyProof.Rows.All
import Wide.All
import OpenK.AllK
import Wide.FinOn
import Lean
import PyProof.EqAt
import PyProof.EqKinds
import PyProof.TupleCall
import PySem.Challenge.RW_dots_k31_written
set_option tactic.hygienic false
open Option renaming some->a_,none->b_
open Bool renaming true->c_,false->d_
noncomputable section
set_option bootstrap.genMatcherCode false
set_option genInjectivity false
set_option genSizeOf false
open And renaming intro->uY
open Array renaming getElem?_eq_getElem->aY,length_toList->bf,getElem?_eq_some_iff->bW,getElem?_eq_none->ik,getElem?_toList->iN,forIn_toList->mo,getElem_toList->pV,replicate->uX,getD_eq_getD_getElem?->wG,getD->Hv,ext_getElem?->Hw,toList_push->Jv
open Bool renaming and_eq_true->aj,false_eq_true->bS,and_true->iM,and_eq_true_iff->jg,or_eq_true->lH,not_eq_true'->nj,and_self->qO,or_true->tN,not_false->Rt,and_false->Ru,and_assoc->Rv
open Classical renaming propDecidable->mT,em->JL
open Eq renaming symm->pG
open False renaming elim->i7
open ForInStep renaming yield->jk
open Iff renaming rfl->Nt
open Int renaming lt_of_le_of_lt->eE,ofNat_le->eU,ofNat->fu,le_trans->fN,ofNat_zero_le->gG,eq_ofNat_of_zero_le->j1,not_le_of_gt->k7,not_le->mS,le_of_eq->oU,natCast_pos->pE,le_of_lt->ue,toNat->uW,le_antisymm->wR,fdiv_eq_ediv_of_nonneg->yY,ofNat_lt->C9,ne_of_gt->Dc,toNat_natCast->Nr,not_lt_of_ge->N0,emod_nonneg->Rr
open Int.ofNat renaming inj->Ju
open List renaming getElem?_eq_getElem->af,length_append->ag,mem_append_right->ai,mem_cons->au,length_map->aw,mem_append->ax,mem_append_left->az,map_cons->aA,mem_singleton->aE,append_nil->aH,append_assoc->aJ,range->aO,getElem?_map->aP,getElem?_eq_some_iff->aR,getElem?_append_right->aT,mem_of_getElem?->aV,nodup_cons->aX,getElem?_append_left->a9,take_append_drop->bh,length_range->bo,mem_range->bq,not_mem_nil->bu,length_cons->bx,getElem_mem->bA,size_toArray->bD,all_eq_true->bF,mem_filter->bJ,mem_map->bQ,flatMap_append->cu,map_map->cv,mem_of_mem_take->cy,nodup_append->cC,pairwise_cons->cH,mem_map_of_mem->cP,map_congr_left->cQ,length_pos_iff->cT,mem_iff_getElem->cV,flatMap_singleton->cW,length_filter_le->c8,length_drop->dh,getElem?_take->dv,getElem?_cons_succ->dF,map_append->dJ,take_of_length_le->dP,length_take->dQ,perm_append_comm->dX,replicate->dZ,nodup_nil->ee,all_cons->eh,pairwise_append->eG,mem_of_mem_drop->eJ,getElem?_replicate->eK,pairwise_iff_getElem->eZ,drop_eq_getElem_cons->e8,mem_flatMap->fi,flatMap_nil->fj,length->fA,pairwise_map->fG,drop_sublist->fH,nodup_range->fO,lookup_cons->fP,perm_ext_iff_of_nodup->fR,mem_filterMap->fS,reverse_perm->gr,mem_of_mem_tail->gu,getElem?_of_mem->gC,of_mem_zip->iJ,length_replicate->iQ,take_sublist->iU,drop_left->jf,isEmpty_iff->ji,ext_getElem->jj,filterMap_cons->jw,length_nil->jH,prefix_iff_eq_take->jO,length_eq_zero_iff->jP,set_eq_take_append_cons_drop->jY,take_take->j7,getElem?_set_self->j8,getElem?_inj->j9,ext_getElem?->kc,drop_eq_nil_of_le->kg,drop_drop->kh,pairwise_reverse->kN,getElem?_toArray->kO,getElem?_eq_none->kP,getElem?_set_ne->lj,getElem_of_mem->lL,take_zero->mH,getD_eq_getElem?_getD->mI,getElem?_set->ng,flatMap_cons->ni,any_cons->nR,pairwise_singleton->oy,cons_append->oz,any_eq_true->oA,pairwise_lt_range->oP,mem_iff_getElem?->pD,getElem?_range->qG,getElem_range->rY,getElem?_drop->rZ,filter_append->r8,zipWith->tL,map_inj_left->tM,zipIdx_cons->ur,getElem_map->uu,drop_length->uv,take_append_of_le_length->uS,eq_nil_of_length_eq_zero->uU,drop_append_of_le_length->uV,length_zip->wD,forIn_cons->wF,take_left->xG,drop_take->xH,map_take->Aj,find?_range_eq_none->Ak,pairwise_filterMap->Ay,getElem?_cons_zero->Az,filter_cons_of_pos->AA,filter_cons_of_neg->AB,zipWith_cons_cons->CL,range_succ_eq_map->CM,length_eq_one_iff->CN,append_eq_nil_iff->CO,getElem?_reverse->C8,filter_sublist->Hu,zip_cons_cons->Jp,prefix_append->Jq,map_inj_right->Jr,length_modify->Js,filterMap_map->Jt,tail_sublist->JK,take_length->Nm,reverse_nil->Nn,range'_succ->Np,perm_middle->Nq,zip_append->NU,zipIdx_nil->NV,nil_prefix->NW,head?_cons->NX,foldl_cons->NY,filter_nil->NZ,map->Rn,forIn_nil->Ro,drop_zero->Rq
open List.Nodup renaming sublist->Al
open List.Pairwise renaming imp_of_mem->iV,imp->oT,nil->xI
open List.Perm renaming append_left->jZ,eq_of_pairwise->mm,trans->E2
open List.cons renaming inj->eL,injEq->fT
open Nat renaming le_trans->aa,le_of_eq->ae,le_refl->ao,lt_of_le_of_lt->aq,le_antisymm->aC,le_of_lt->aD,zero_le->aM,not_le_of_lt->aS,le_of_succ_le_succ->aU,le_add_right->aW,succ_le_succ->bb,lt_of_lt_of_le->bc,ne_of_lt->bw,lt_of_le_of_ne->bC,lt_irrefl->bI,le_of_not_lt->bT,le_succ_of_le->cc,pos_of_ne_zero->cg,lt_of_not_le->cB,lt_trans->cY,add_sub_cancel_left->di,add_le_add->dA,min_eq_left->eB,add_le_add_left->eX,add_le_of_le_sub->fD,add_sub_of_le->gD,min_le_right->hJ,min_le_left->iL,zero_add->jo,lt_succ_self->jq,lt_or_ge->jr,add_assoc->jG,mod_lt->jM,add_right_comm->jN,ne_of_gt->kr,lt_succ_of_lt->ku,le_add_left->lK,sub_self->mj,sub_add_cancel->mR,lt_trichotomy->nQ,sub_le->oS,not_lt_zero->pC,lt_sub_of_add_lt->qj,add_lt_of_lt_sub->qk,lt_of_succ_lt->ud,le_succ->wC,eq_of_lt_succ_of_not_lt->xF,le_of_add_le_add_left->Ai,min_self->C6,le_add_right_of_le->C7,sub_eq_zero_of_le->EZ,le_sub_of_add_le->Ht,sub_lt_of_lt->NS,lt_add_right->NT,div_le_self->Rk
open Ne renaming symm->dR
open Option renaming bind->bB,bind_some->bH,map_some->cA,isNone_iff_eq_none->eY,isSome_iff_exists->jv,map->jC,isSome_map->rX,getD_some->tK,isSome->xE,bind_eq_some_iff->yX,map_eq_some_iff->Ah,join_some->Jn,getD_none->Jo,map_map->Nl
open Option.some renaming inj->bG,injEq->hZ
open Prod renaming ext->EY
open Prod.mk renaming injEq->wQ
open PyProof renaming noPylong_small->yW
open PyProof.Rows renaming SortSt->bO,callWith_type1->dz,slot_tuple_getitem->dC,Keyed->jI,lt_int->ox,AllBare->oO,SortKind->pU,callWith_builtin1->p3,StrsAre->qi,getItem_tuple->rW,len_tuple->uq,IsTup->Ag,IntsAre->CK,listUpdate_at->Hs,subscriptTail_builtinR->JI,tail_any->NQ,seqEpoch_at->NR
open PyProof.Rows.F renaming entry_set_update_loop->fh,plain_set_update_loop->iH
open PyProof.Rows.IsTup renaming new->JJ
open PyProof.Rows.SortSt renaming mk'->l9
open PySem renaming Value->ah,Shared->ak,sizeLine->aB,wpAny->aF,model->aG,Addr->aI,starEach->aQ,Expr->a8,Str->be,SetTable->bE,wpAny_setField_rec->bM,wpAny_call_entry->bN,Around->bX,wpAny_holding->ck,Program->cJ,Heap->cM,wpAny_callSpecial?_slot->cU,cLine->dc,wpAny_field->dm,wpAny_seqItems->dq,World->du,wpAny_mono->dE,wpAny_setState_of->dH,wpAny_newObj_type->dI,wpAny_isInstance->dU,codeAny_builtin->eM,wpAny_Call_Name_kw->fB,wpAny_specialOf->fM,Builtin->fV,plainId_quiet->fX,wpAny_rule->gh,mem_of_lookup->g8,wpAny_truthy_bool->g9,wpAny_forIn_list->iA,Paired->iC,sizeLine_eq->iP,wpAny_typeOf->iT,wpAny_updateSeq->iZ,wpAny_passesOwn->i5,wpAny_attempt->jd,FuncData->j4,wpAny_tupleItemsOf->km,tupleKind_room_in1->kn,IsPair->ko,wpAny_of_eq->kH,wpAny_getItem_str_slice->kJ,codeAny_mono->kX,NameKind->kZ,Stmt->lz,Obj->lA,wpAny_letGo->me,codeAny_call_builtin->mf,Scope->m7,KeyKind->m9,wpAny_pyIter_strU->oN,wpAny_loadPart'->qD,post_val_or_str->qE,isSubtype_tuple_tuple->qJ,wpAny_updateSeq_pair->si,wpAny_runValue->sj,IsPart->sr,PassesOwn->tH,wpAny_onRaise->um,wpAny_pyIter_slot->wJ,wpAny_pyIter_list->wK,concat_meets->wM,Pos->xv,wpAny_askSetting->yN,scanBound->yO,noFill_tuple_add->yP,wpAny_execs_nil->Ap,placed->Aq,Sem->Av,wpAny_richCompare_same_room->CI,BindsTo->CJ,wpAny_tryCatch->CU,wpAny_newTuple->CW,isSubtype_stop->CY,entryFor_alias->CZ,call_meets->C0,Operator->C2,MulOk->C3,IsZip->C4,GenState->C5,Tok->ES,wpAny_standAt->Hg,wpAny_newList->Hh,wpAny_in_heap->Hi,wpAny_comprehension_free->Hj,seq_tuple_add->Hk,call->Hl,wpAny_pyNext_range_end->JC,wpAny_pyIter_rangeiter->JD,seqIndex_neg->JE,pyIter->JF,callType_new->JG,seqIndex_of->NJ,codeAny_extend_loopS->NL,Slot->NN,wpAny_setEntries_of->Rc,Env->Ri,ElemsOf->Rj
open PySem.Builtin renaming bitAnd->uR,bitOr->Nk
open PySem.Builtin.Frozenset renaming updateFrom->oR,sizeOf->NO,isAnySet->NP
open PySem.Builtin.List renaming listTooLong->fQ,listLengthHint->qM,listExtendWith->qN,listSameRef->tJ
open PySem.Builtin.Range renaming rangeSize->je,small->wA
open PySem.Builtin.Slice renaming slicePlaces->iG,sliceAdjust->rV
open PySem.Builtin.SmallTypes renaming nextOf->ig
open PySem.Builtin.Str renaming occurrences->jh
open PySem.Builtin.Tuple renaming tupleHashOf->eP,tupleItemsOf->kM
open PySem.Calls renaming spliced_nil->sx,Name_function_global->wO,call_function_entry->xD,callWith_builtin->Ax,spliced_cons->Hr
open PySem.Challenge renaming rw_dots_k31_written->nP
open PySem.Env renaming kindOf->sv
open PySem.F renaming slot_tuple_iterator_next->fZ,slot_tuple_hash->gP,slot_list_extend->jl,slot_list_append->jm,plainAttrs_list->jB,plain_min_loop->jK,entry_set_init->jL,slot_zip_next->j6,called_set->lJ,type_list_append->mP,args_tuple_add_2->mQ,entry_tuple_add->nc,slot_tuple_add->nV,plainAttrs_str->nW,slot_tuple_eq->oF,slot_dict_get->oG,args_tuple_iterator_next_1->qh,entry_tuple_iterator_next->qF,args_list_extend_2->qL,entry_list_extend->su,entry_proto_collect->uo,slot_tuple_getitem->uP,args_object_init_2->uQ,slot_dict_getitem->wx,plain_extend_loop->wz,plain_list_iadd->xw,entry_list_iadd->xx,args_zip_next_1->xA,args_dict_get_3->xC,typeCall_set_1->yS,entry_zip_next->yT,entry_min_loop->yU,entry_dict_get->yV,slot_tuple_lt->Ae,slot_set_iter->Af
open PySem.Heap renaming get?_push_size->aK,SameBut->cL,get?_update_other->dO,size_push->eR,get?_update_self->fe,get?_none_of_le->p0,ExtBut->EX
open PySem.Heap.SameBut renaming update->ou,refl->yR
open PySem.IsRange renaming new->Rh
open PySem.ItemsOf renaming nil->Rg
open PySem.Manifest renaming owners->Hq
open PySem.NameKind renaming free->eO,cell->mG
open PySem.Obj renaming mapSeq->fo,data_mapFields->JH
open PySem.Paired renaming length->qg
open PySem.PassesOwn renaming never->EV
open PySem.ScopeKind renaming function->Aw
open PySem.SeqAt renaming RcNeAt->Au,RcAt->Hn,EqAt->Ho
open PySem.SetTable renaming below->aL,Probe->bK,insertAt->de,grown->dS,runEnd->dW,advance->eA,bits->eN,toList_insertAt->e9,sizeAbove->fL,leap->ie,turns->lG,slot->mD,laid->mE,fits->mF,fill->pT,has->xu,layClean->C1,tooFull->EU,relaid->Hm,Met->Nj
open PySem.SetTable.below renaming go->kY
open PySem.SetTable.layClean renaming free->dB
open PySem.SetTable.probe renaming go->bV
open PySem.Shared renaming TypeIs->qf
open PySem.Str renaming ofString->ab
open PySem.StrLaws renaming found_one->ET
open PySem.Txt renaming slice->bY,startswith3->ic,upper->sk,join->uc,slice_le->As
open PySem.Unicode renaming upperOf->ub
open PySem.Value renaming ref->dt,none->fF,type->i6,isStrOf->Rf
open PySem.W renaming Frag->aN,kia_one->fY,keepIn->gJ,OpenLaw->ju,nsIn->nU,fnOf->qK,codeIn->uO,WalkO->wN,cellsFrom_some->yQ,kitx_dict->ER,mg_of->Ni,kas_item->NM
open PySem.pickOrder renaming go->wL
open String renaming ofList->NI
open Sum renaming inr->ba,inl->CS
open Sum.inl renaming inj->Ao
open Sum.inr renaming inj->mz
open True renaming intro->kW
set_option Elab.async false
set_option compiler.extract_closed false
set_option linter.all false
set_option maxRecDepth 100000
set_option maxHeartbeats 4000000
def c5{α β:Type _}{x:Option α}{f:α->Option β}{b:β}(h:x.bind f=a_ b):∃a,x=a_ a/\f a=a_ b:=yX.mp h
def dY{α β:Type _}{x:Option α}{f:α->β}{b:β}(h:x.map f=a_ b):∃a,x=a_ a/\f a=b:=Ah.mp h
open PySem PySem.Spec in def wb9:=@wpAny_bind
open PySem PySem.Spec in def wu9:=@wpAny_pure
open PySem in def hp9:=@Heap.get?_push_of_some
open PySem in def hl9:=@Heap.lt_size
def jy{α:Type _}{a:α}{l:List α}:a∈a::l:=List.mem_cons_self
def ki{α:Type _}(y:α){a:α}{l:List α}(h:a∈l):a∈y::l:=List.mem_cons_of_mem y h
def br{p:Prop}[Decidable p](h:decide p=c_:=by rfl):p:=of_decide_eq_true h
theorem ac{G:Prop}(h:∀P:Prop,(G->P)->P):G:=h G id
def lw0{e f:Nat}(h:e<=f:=by simp +arith):e<=f:=h
def gm{a b e f:Nat}(h1:a<=b)(h:e+b<=f+a:=by simp +arith):e<=f:=by omega
def jJ{a b c d e f:Nat}(h1:a<=b)(h2:c<=d)(h:e+b+d<=f+a+c:=by simp +arith):e<=f:=by omega
def pY{a b c d i j e f:Nat}(h1:a<=b)(h2:c<=d)(h3:i<=j)(h:e+b+d+j<=f+a+c+i:=by simp +arith):e<=f:=by omega
def Nx{a b c d i j k l e f:Nat}(h1:a<=b)(h2:c<=d)(h3:i<=j)(B:k<=l)(h:e+b+d+j+l<=f+a+c+i+k:=by simp +arith):e<=f:=by omega
def aa9{a b:Nat}(h1:a<=b)(h:b+1<=a:=by simp +arith):False:=aS h h1
def Qa{a b c d:Nat}(h1:a<=b)(h2:c<=d)(h:b+d+1<=a+c:=by simp +arith):False:=aS h (dA h1 h2)
def P9{a b c d i j:Nat}(h1:a<=b)(h2:c<=d)(h3:i<=j)(h:b+d+j+1<=a+c+i:=by simp +arith):False:=aS h (dA (dA h1 h2) h3)
def VB{a b c d i j k l:Nat}(h1:a<=b)(h2:c<=d)(h3:i<=j)(B:k<=l)(h:b+d+j+l+1<=a+c+i+k:=by simp +arith):False:=by omega
def ws{a b:Nat}(h:b<=a):a - b+b<=a:=Nat.add_le_of_le_sub h (Nat.le_refl _)
def wt{a b:Nat}(h:b<=a):a<=a - b+b:=by omega
def iw0{e f:Int}(h:e<=f:=by simp +arith):e<=f:=h
def Jx{a b e f:Int}(h1:a<=b)(h:e+b<=f+a:=by simp +arith):e<=f:=by omega
theorem ad{a b:Nat}(h:b<=a):a-b+b<=a:=by omega
theorem am{a b:Nat}(h:b<=a):a<=a-b+b:=by omega
theorem ar(a b:Nat)(h:b<=a):a-b+b<=a:=ad h
theorem ay(a b:Nat):a<=a-b+b:=by omega
theorem a0(a b:Nat)(h:a<=b):a<=min a b:=by omega
theorem a1(a b:Nat)(h:b<=a):b<=min a b:=by omega
theorem a2(l r:Nat)(h:l+1<=r):l<=(l+r)/2/\(l+r)/2+1<=r:=by omega
theorem a3(l r:Nat)(h:l+1<=r):(r-l)/2+1<=r-l:=by omega
theorem a4{a b c d i j k l m n e f:Nat}(h1:a<=b)(h2:c<=d)(h3:i<=j)(h4:k<=l)(h5:m<=n)(h:e+b+d+j+l+n<=f+a+c+i+k+m:=by simp +arith):e<=f:=by omega
def wS(a b:Nat)(h:b<=a):a - b+b<=a:=ws h
def wT(a b:Nat):a<=a - b+b:=by omega
def wd(a:Nat):2 * (a / 2)<=a:=by omega
namespace L2
open PySem PySem.Spec PyProof.Rows
abbrev Key:=Sum Int be
noncomputable def tS:Key->ah->Bool
 |.inl k,v=>Value.isInt k v
 |.inr x,v=>Rf x v
noncomputable def abg(w:du):Key->Int
 |.inl k=>hashInt k
 |.inr x=>hashStr w x
def c6:∀{k:Key}{v:ah},tS k v=c_->(∃i t,k=CS i/\v=Value.int i t)\/(∃x t,k=ba x/\v=Value.str x t)
 |.inl i,v,h=>by
   obtain⟨t,e⟩:=Value.isInt_shape h;exact .inl ⟨i,t,rfl,e⟩
 |.inr x,v,h=>by
   obtain⟨t,e⟩:=Value.isStrOf_shape h;exact .inr ⟨x,t,rfl,e⟩
def IE(i:Int)(t:ES):tS (.inl i) (.int i t)=c_:=by simp[tS,Value.isInt]
def yj(x:be)(t:ES):tS (.inr x) (.str x t)=c_:=by simp[tS,Rf]
def VR(a b:Int):decide ((CS a:Key)=CS b)=(a == b):=by
 grind
def VO(a b:be):decide ((ba a:Key)=ba b)=decide (a=b):=by
 simp
def VQ(a:Int)(b:be):decide ((CS a:Key)=ba b)=d_:=decide_eq_false (λq=>nomatch q)
def VP(a:be)(b:Int):decide ((ba a:Key)=CS b)=d_:=decide_eq_false (λq=>nomatch q)
def cz(prog:cJ)(w:du):m9 prog w Key where
 is:=tS
 hash:=abg w
 inj:=λv a b ha hb=>by
  rcases c6 ha with⟨i,t,rfl,rfl⟩|⟨x,t,rfl,rfl⟩
  .rcases c6 hb with⟨j,u,rfl,e⟩|⟨y,u,rfl,e⟩
   .injection e with e1 _;rw[e1]
   .exact nomatch e
  .rcases c6 hb with⟨j,u,rfl,e⟩|⟨y,u,rfl,e⟩
   .exact nomatch e
   .injection e with e1 _;rw[e1]
 byValue:=λk v h=>by
  rcases c6 h with⟨i,t,rfl,rfl⟩|⟨x,t,rfl,rfl⟩<;>rfl
 pyHash:=λc h=>by
  rcases c6 c with⟨i,t,rfl,rfl⟩|⟨x,t,rfl,rfl⟩
  .exact wpAny_pyHash_int h
  .exact wpAny_pyHash_str h
 eqBool:=λd c h=>by
  rcases c6 d with⟨i,t,rfl,rfl⟩|⟨x,t,rfl,rfl⟩
  .rcases c6 c with⟨j,u,rfl,rfl⟩|⟨y,u,rfl,rfl⟩
   .rw[VR]at h;exact wpAny_eqBool_int h
   .rw[VQ]at h;exact SeqAt.EqAt.int_str i t y u _ _ _ _ h
  .rcases c6 c with⟨j,u,rfl,rfl⟩|⟨y,u,rfl,rfl⟩
   .rw[VP]at h;exact SeqAt.EqAt.str_int x t j u _ _ _ _ h
   .rw[VO]at h;exact wpAny_eqBool_str h
 «strs» :=λk x t v h=>by
  rcases c6 h with⟨i,u,rfl,e⟩|⟨y,u,rfl,e⟩
  .exact nomatch e
  .injection e with e1 _
   subst e1;cases v<;>rfl
def Bt(prog:cJ)(w:du)(i:Int)(t:ES):(cz prog w).is (.inl i) (.int i t)=c_:=IE i t
def Bs(prog:cJ)(w:du)(x:be)(t:ES):(cz prog w).is (.inr x) (.str x t)=c_:=yj x t
def Q3(h h':cM):Prop:=∀b o,h.get? b=a_ o->o.cls=.type "tuple"->(∃its n,o.data=.seq its n)->h'.get? b=a_ o
structure Ik(P:cJ)(w:du) where
 κ:Type
 d:Nat
 is:cM->κ->ah->Prop
 hash:κ->Int
 draw:κ->Nat
 inj:∀{h:cM}{x y:κ}{v:ah},is h x v->is h y v->x=y
 oH:∀{h h':cM}{k:κ}{v:ah},Q3 h h'->is h k v->is h' k v
 hsh:∀{A:bX}{E:ah->ak->Prop}{s:ak}{k:κ}{v:ah}{Q:Int->ak->Prop},A.units+d<=dc->is s.heap k v->Q (hash k) { s with toks:=s.toks+draw k }->aF (aG P w) A (pyHash v) Q E s
 eqb:∀{A:bX}{E:ah->ak->Prop}{s:ak}{x y:κ}{u v:ah}{Q:Bool->ak->Prop},A.units+d<=dc->is s.heap x u->is s.heap y v->(x=y->Q c_ s)->(x≠y->Q d_ s)->aF (aG P w) A (eqBool u v) Q E s
 qui:∀{A:bX}{E:ah->ak->Prop}{s:ak}{k:κ}{v:ah}{Q:Bool->ak->Prop}{n:Nat},d<=n->is s.heap k v->Q c_ s->aF (aG P w) A (eqIsQuiet n v) Q E s
 cla:∀{A:bX}{E:ah->ak->Prop}{s:ak}{k:κ}{v:ah}{Q:Bool->ak->Prop}{n:Nat},d<=n->is s.heap k v->Q d_ s->aF (aG P w) A (ofAClassStatement n v) Q E s
 hbv:∀{A:bX}{E:ah->ak->Prop}{s:ak}{k:κ}{v:ah}{Q:Bool->ak->Prop}{n:Nat},d<=n->is s.heap k v->(∀b,Q b s)->aF (aG P w) A (hashByValue n v) Q E s
section
variable{P:cJ}{w:du}{A:bX}{E:ah->ak->Prop}{z0:ak}{I:Ik P w}
def MR(B:carriedByValue v=c_)(h:Q d_ z0):aF (aG P w) A (ofAClassStatement n v) Q E z0:=by
 cases v<;>first|(cases B;done)|(exact wu9 h)|(cases n<;>(exact wu9 h))
def V5(B:carriedByValue v=c_)(h:∀b,Q b z0):aF (aG P w) A (hashByValue n v) Q E z0:=by
 cases v<;>first|(cases B;done)|(unfold hashByValue;exact wu9 (h _))|simp
abbrev IF(P:cJ)(w:du):Ik P w where
 κ:=Key
 d:=0
 is:=λ_ k v=>(cz P w).is k v=c_
 hash:=(cz P w).hash
 draw:=λ_=>1
 inj:=λex b=>(cz P w).inj _ _ _ ex b
 oH:=λ_ x=>x
 hsh:=λ_ a h=>(cz P w).pyHash a h
 eqb:=λ{A E s x y u v Q}_ ex b h1 h2=>(cz P w).eqBool ex b (by
  by_cases e:x=y
  .rw[decide_eq_true e];exact h1 e
  .rw[decide_eq_false e];exact h2 e)
 qui:=λ_ a h=>by rw[eqIsQuiet_byValue _ ((cz P w).byValue _ _ a)];exact wu9 h
 cla:=λ_ a h=>MR ((cz P w).byValue _ _ a) h
 hbv:=λ_ a h=>V5 ((cz P w).byValue _ _ a) h
inductive se (I:Ik P w) (h:cM):List I.κ->List ah->Prop
 |nil:se I h [] []
 |cons {k:I.κ} {v:ah} {ks:List I.κ} {vs:List ah}:I.is h k v->se I h ks vs->se I h (k::ks) (v::vs)
def sg(I:Ik P w)(h:cM)(ks:List I.κ)(p:aI):Prop:=∃o a n,h.get? p=a_ o/\o.cls=.type "tuple"/\o.data=.seq a n/\se I h ks a.toList
theorem se.inj(ex:se I h x vs)(B:se I h y vs):x=y:=by
 induction ex generalizing y with
 |nil=>cases B;rfl
 |cons h1 _ a=>
   cases B with
   |cons h2 b=>rw[I.inj h1 h2,a b]
theorem se.length(x:se I h ks vs):vs.length=ks.length:=by
 induction x with
 |nil=>rfl
 |cons _ _ a=>simp[a]
theorem se.oH(k:Q3 h h')(x:se I h ks vs):se I h' ks vs:=by
 induction x with
 |nil=>exact .nil
 |cons h1 _ a=>exact .cons (I.oH k h1) a
def sg.typeIs(x:sg I z0.heap ks p):z0.TypeIs (.ref p) "tuple":=let ⟨o,_,_,go,gc,_⟩:=x;⟨o,go,gc⟩
def sg.inj(ex:sg I h x p)(B:sg I h y p):x=y:=by
 refine ac λ_ j=>?_;obtain⟨o,e,n,go,_,f,g⟩:=ex;obtain⟨o',b,i,c,_,a,d⟩:=B;obtain rfl:o=o':=bG (go.symm.trans c);refine j ?_;rw[f]at a
 injection a with h1 _
 subst h1;exact g.inj d
def sg.oH(k:Q3 h h')(x:sg I h ks p):sg I h' ks p:=
 let ⟨o,its,n,h1,h2,h3,h4⟩:=x;⟨o,its,n,k p o h1 h2 ⟨_,_,h3⟩,h2,h3,h4.oH k⟩
def ZF{h h':cM}(go:h.get? d=a_ o)(B:o.cls≠.type "tuple")(k:∀b o,b≠d->h.get? b=a_ o->h'.get? b=a_ o):Q3 h h':=λb o' e c _=>
 k b o' (λz=>by
   simp_all) e
def GA(I:Ik P w)(ks:List I.κ):Int:=reduceHash (eP (ks.map I.hash))
def D9(O:A.units+(I.d+1)<=dc)(B:sg I z0.heap ks p)(h:Q (GA I ks) { z0 with toks:=z0.toks+((ks.map I.draw).sum+1) }) :
  aF (aG P w) A (pyHash (.ref p)) Q E z0:=by
 have gt:=B.typeIs;obtain⟨o,j,n,go,_,l,m⟩:=B
 first|unfold pyHashByItsType|skip
 first|refine wb9 (wpAny_cRoomFor_or (.inr (aq (aW _ _) O)) ?_)|skip
 refine wb9 (fM gt gP.lookup ?_);refine wb9 (fM gt gP.lookup ?_);refine wb9 (wpAny_callSpecialIfBoundUnlessNone?_slot gt gP (bN gP gt PySem.F.entry_tuple_hash ?_ (PySem.F.args_tuple_hash_1 _)));refine (?_ : aF _ _ (kM (.ref p) >>= _) _ _ z0);refine wb9 (km go l ?_);refine wb9 ?_;rw[<-mo]
 refine iA _
  (λtl(b)c=>∃pre a,ks=pre++a/\se I z0.heap a tl/\b.toList=pre.map I.hash/\c={ z0 with toks:=z0.toks+(pre.map I.draw).sum })
  _ ?_ ?_ _ _ ⟨[],ks,rfl,m,rfl,rfl⟩
 .rintro x tl b c ⟨pre,a,rfl,e,f,rfl⟩
  cases e with
  | @cons k _ g _ h1 i=>
    refine wb9 (I.hsh ?_ h1 ?_)
    .grind
    first
     |exact wu9 ⟨pre++[k],g,by simp,i,by simp[f],by simp[jG]⟩
     |simp
 .rintro b c ⟨pre,a,rfl,e,f,rfl⟩;refine ac λ_ q=>?_;cases e;refine q ?_;rw[aH]at h;show aF _ _ (retInt (eP b.toList)) _ _ _;rw[f];refine wpAny_ret_mkInt ?_;refine (?_ : aF _ _ (if(decide (-(2) ^ 63<=eP (pre.map I.hash)) && decide (eP (pre.map I.hash)<2 ^ 63))=c_ then _ else _) Q E _);unfold GA reduceHash at h;by_cases ge:(decide (-(2) ^ 63<=eP (pre.map I.hash)) && decide (eP (pre.map I.hash)<2 ^ 63))=c_
  .rw[if_pos ge];rw[if_pos ge]at h;exact wu9 (by simpa [jG]using h)
  .rw[if_neg ge];rw[if_neg ge]at h;exact wb9 (gh (wu9 (by simpa [jG]using h)))
def MA(Y:A.units+I.d<=dc)(ex:sg I z0.heap x p)(O:sg I z0.heap y b)(h1:x=y->R (.done (.ret (.bool c_))) z0)(h2:x≠y->R (.done (.ret (.bool d_))) z0) :
  aF (aG P w) A (fV.«tuple.__eq__» ⟨[.ref p,.ref b],[]⟩) R E z0:=by
 have l:=O.typeIs;refine ac λ_ N=>?_;obtain⟨G,xs,na,m,_,n,o⟩:=ex;obtain⟨H,ys,nb,q,_,s,t⟩:=O;refine N ?_;show aF _ _ (isInstance (.ref b) (.type "tuple") >>= _) _ _ z0;refine wb9 (dU l qJ ?_);refine wb9 (km m n ?_);refine wb9 (km q s ?_);refine wb9 ?_
 refine iA _
  (λtl r j=>r.1=b_/\j=z0/\∃x' k a c,tl=List.zip a c/\se I z0.heap x' a/\se I z0.heap k c/\(x'=k↔x=y)/\(a.length == c.length)=(xs.size == ys.size))
  _ ?_ ?_ _ _ ⟨rfl,rfl,x,y,xs.toList,ys.toList,rfl,o,t,Nt,by simp⟩
 .rintro⟨u,v⟩ tl r j ⟨ge,rfl,x',k,a,c,gz,hx',hy',gdec,glen⟩
  cases hx' with
  |nil=>simp at gz
  | @cons J K z f D g=>
    cases hy' with
    |nil=>simp at gz
    | @cons L M B h F i=>
      refine ac λ_ N=>?_;obtain⟨⟨rfl,rfl⟩,rfl⟩:=gz;refine N ?_;refine wb9 (I.eqb Y D F (λC=>?_) λC=>?_)
      .refine wu9 ⟨rfl,rfl,z,B,f,h,rfl,g,i,?_,by simpa using glen⟩
       simp_all
      .exact wb9 (wu9 (wu9 (wu9 (h2 λe=>C (eL (gdec.mpr e)).1))))
 .rintro⟨r1,r2⟩ j ⟨ge,rfl,x',k,a,c,gz,hx',hy',gdec,glen⟩;subst ge;refine wu9 ?_;show R (.done (.ret (.bool (xs.size == ys.size)))) j;rw[<-glen]
  cases hx' with
  |nil=>
    cases hy' with
    |nil=>exact h1 (gdec.mp rfl)
    |cons _ _=>simp_all
  |cons _ _=>
    cases hy' with
    |nil=>simp_all
    |cons _ _=>simp at gz
def Zo(O:A.units+(I.d+1)<=dc)(ex:sg I z0.heap x p)(B:sg I z0.heap y b)(h1:x=y->Q c_ z0)(h2:x≠y->Q d_ z0) :
  aF (aG P w) A (eqBool (.ref p) (.ref b)) Q E z0:=by
 unfold eqBool
 try with_reducible refine ck ?_
 by_cases a:(dt p == dt b)=c_
 .rw[if_pos a];have e:p=b:=by simp_all
  subst e;obtain rfl:=ex.inj B;exact wb9 (gh (wu9 (h1 rfl)))
 .rw[if_neg a]
  exact wb9 (CI ex.typeIs B.typeIs oF
   (bN oF ex.typeIs PySem.F.entry_tuple_eq (MA (by exact gm O) ex B (λe=>⟨_,rfl,(λe=>nomatch e),g9 (h1 e)⟩) λe=>⟨_,rfl,(λe=>nomatch e),g9 (h2 e)⟩) (PySem.F.args_tuple_eq_2 _ _)) (aq (aW _ _) O))
def uA(O:I.d<=n)(B:sg I z0.heap ks p)(h:Q c_ z0):aF (aG P w) A (eqIsQuiet (n+1) (.ref p)) Q E z0:=by
 have gt:=B.typeIs;obtain⟨o,e,m,go,_,f,g⟩:=B;unfold eqIsQuiet;refine wb9 (fM gt oF.lookup ?_);refine wb9 (dU gt qJ ?_);refine wb9 (dq go f ?_);refine wb9 ?_;rw[<-mo];refine iA _ (λtl r a=>r.1=b_/\a=z0/\∃l,se I z0.heap l tl) _ ?_ ?_ _ _ ⟨rfl,rfl,_,g⟩
 .rintro v tl r a ⟨ge,rfl,l,i⟩
  cases i with
  | @cons k _ b _ h1 c=>
    exact wb9 (I.qui O h1 (wu9 ⟨rfl,rfl,b,c⟩))
 .rintro⟨r1,r2⟩ a ⟨ge,rfl,_⟩;subst ge;exact wu9 h
def zT(B:I.d<=n)(O:sg I z0.heap ks p)(h:Q d_ z0):aF (aG P w) A (ofAClassStatement (n+1) (.ref p)) Q E z0:=by
 obtain⟨o,e,m,go,f,g,i⟩:=O;unfold ofAClassStatement;refine wb9 (wpAny_typeOf_ref go ?_);rw[f];refine wb9 (wu9 ?_);refine wb9 (dq go g ?_);refine wb9 ?_;rw[<-mo];refine iA _ (λtl r a=>r.1=b_/\a=z0/\∃l,se I z0.heap l tl) _ ?_ ?_ _ _ ⟨rfl,rfl,_,i⟩
 .rintro v tl r a ⟨ge,rfl,l,j⟩
  cases j with
  | @cons k _ b _ h1 c=>
    exact wb9 (I.cla B h1 (wu9 ⟨rfl,rfl,b,c⟩))
 .rintro⟨r1,r2⟩ a ⟨ge,rfl,_⟩;subst ge;exact wu9 h
def R7(O:I.d<=n)(B:sg I z0.heap ks p)(h:∀b,Q b z0):aF (aG P w) A (hashByValue (n+1) (.ref p)) Q E z0:=by
 have gt:=B.typeIs;obtain⟨o,f,m,go,q,g,i⟩:=B;refine wb9 (fM gt gP.lookup ?_);refine wb9 (dq go g ?_);refine wb9 ?_;rw[<-mo];refine iA _ (λtl r a=>r.1=b_/\a=z0/\∃l,se I z0.heap l tl) _ ?_ ?_ _ _ ⟨rfl,rfl,_,i⟩
 .rintro v tl r a ⟨ge,rfl,l,j⟩
  cases j with
  | @cons k _ c _ h1 e=>
    refine wb9 (I.hbv O h1 λb=>?_);cases b
    .exact wu9 (wu9 (h _))
    .exact wu9 ⟨rfl,rfl,c,e⟩
 .rintro⟨r1,r2⟩ a ⟨ge,rfl,_⟩;subst ge;exact wu9 (h _)
abbrev tupI(I:Ik P w):Ik P w where
 κ:=Sum Key (List I.κ)
 d:=I.d+1
 is:=λh k v=>match k with
  |.inl k=>(cz P w).is k v=c_
  |.inr ks=>∃b,v=.ref b/\sg I h ks b
 hash:=λk=>match k with
  |.inl k=>(cz P w).hash k
  |.inr ks=>GA I ks
 draw:=λk=>match k with
  |.inl _=>1
  |.inr ks=>(ks.map I.draw).sum+1
 inj:=λ{h x y v}ex c=>by
  cases x with
  |inl k=>
    cases y with
    |inl k'=>exact congrArg _ ((cz P w).inj _ _ _ ex c)
    |inr ks=>obtain⟨b,rfl,_⟩:=c;exact nomatch ((cz P w).byValue _ _ ex)
  |inr ks=>
    obtain⟨b,rfl,q⟩:=ex
    cases y with
    |inl k'=>exact nomatch ((cz P w).byValue _ _ c)
    |inr j=>obtain⟨r,e,l⟩:=c;cases e;exact congrArg _ (q.inj l)
 oH:=λ{h h' k v}q x=>by
  cases k with
  |inl k=>exact x
  |inr ks=>obtain⟨b,e,z⟩:=x;exact⟨b,e,z.oH q⟩
 hsh:=λ{A E s k v Q}g a h=>by
  cases k with
  |inl k=>exact(cz P w).pyHash a h
  |inr ks=>obtain⟨b,rfl,z⟩:=a;exact D9 g z h
 eqb:=λ{A E s x y u v Q}g ex c h1 h2=>by
  cases x with
  |inl k=>
    cases y with
    |inl k'=>exact(IF P w).eqb (by show A.units+0<=dc;exact aa (aW _ _) g) ex c (λe=>h1 (by rw[e])) λe=>h2 λz=>e (Ao z)
    |inr ks=>
      obtain⟨b,rfl,o,its,n,go,m,p,_⟩:=c;have ht:s.heap.IsTuple b its:=⟨o,go,m,n,p⟩
      rcases c6 ex with⟨i,t,rfl,rfl⟩|⟨z,t,rfl,rfl⟩
      .exact SeqAt.EqAt.int_tuple i t ht (aq (aW _ _) g) _ _ _ _ (h2 λe=>nomatch e)
      .exact SeqAt.EqAt.str_tuple z t ht (Nat.lt_of_le_of_lt (Nat.le_add_right _ _) g) _ _ _ _ (h2 λe=>nomatch e)
  |inr ks=>
    obtain⟨b,rfl,q⟩:=ex
    cases y with
    |inl k'=>
      obtain⟨o,its,n,go,m,p,_⟩:=q;have ht:s.heap.IsTuple b its:=⟨o,go,m,n,p⟩
      rcases c6 c with⟨i,t,rfl,rfl⟩|⟨z,t,rfl,rfl⟩
      .exact SeqAt.EqAt.tuple_int i t ht (by omega) _ _ _ _ (h2 λe=>nomatch e)
      .exact SeqAt.EqAt.tuple_str z t ht (by omega) _ _ _ _ (h2 λe=>nomatch e)
    |inr j=>
      obtain⟨r,rfl,l⟩:=c;exact Zo g q l (λe=>h1 (by rw[e])) λe=>h2 λz=>e (mz z)
 qui:=λ{A E s k v Q n}f a h=>by
  cases k with
  |inl k=>exact(IF P w).qui (aM _) a h
  |inr ks=>
    obtain⟨b,rfl,z⟩:=a
    cases n with
    |zero=>exact((aS f (aM _))).elim
    |succ n=>exact uA (aU f) z h
 cla:=λ{A E s k v Q n}f a h=>by
  cases k with
  |inl k=>exact(IF P w).cla (aM _) a h
  |inr ks=>
    obtain⟨b,rfl,z⟩:=a
    cases n with
    |zero=>exact ((Nat.not_le_of_lt f (Nat.zero_le _))).elim
    |succ n=>exact zT (aU f) z h
 hbv:=λ{A E s k v Q n}f a h=>by
  cases k with
  |inl k=>exact(IF P w).hbv (aM _) a h
  |inr ks=>
    obtain⟨b,rfl,z⟩:=a
    cases n with
    |zero=>omega
    |succ n=>exact R7 (aU f) z h
end
abbrev N2:=Sum Key (List Key)
abbrev NK:=Sum Key (List N2)
instance acg:DecidableEq N2:=instDecidableEqSum
instance acf:DecidableEq NK:=instDecidableEqSum
abbrev i2(P:cJ)(w:du):Ik P w:=tupI (IF P w)
abbrev i3(P:cJ)(w:du):Ik P w:=tupI (i2 P w)
abbrev nIs(P:cJ)(w:du):cM->NK->ah->Prop:=(i3 P w).is
abbrev WZ(P:cJ)(w:du):cM->List NK->List ah->Prop:=se (i3 P w)
abbrev qI(P:cJ)(w:du):cM->List NK->aI->Prop:=sg (i3 P w)
abbrev eF(P:cJ)(w:du):List NK->Int:=GA (i3 P w)
section
variable{A:bX}{z0:ak}
def Hz:(i3 P w).d<=7:=by show 2<=7;simp
def Zn(B:A.units+3<=dc)(ex:qI P w z0.heap x p)(O:qI P w z0.heap y b)(h:Q (decide (x=y)) z0) :
  aF (aG P w) A (eqBool (.ref p) (.ref b)) Q E z0:=
 Zo B ex O (λe=>by simp_all) λe=>by simp_all
end
def F6(P:cJ)(w:du):HeapKind P w (List NK) where
 is:=qI P w
 hash:=eF P w
 draws:=λks=>(ks.map (i3 P w).draw).sum+1
 room:=λA=>A.units+3<=dc
 inj:=λex c=>ex.inj c
 keeps:=λ{h h' k a d o es ep}x go j f=>x.oH λb o' e _ ⟨l,m,q⟩=>(f.2 b λz=>by
  subst z;rw[go]at e;cases e
  rw[j]at q;cases q).trans e
 pyHash:=λg i h=>D9 g i h
 eqBool:=λg ex c h=>Zn g ex c h
 quiet:=λi h=>uA Hz i h
inductive V where
 |non|bl (b:Bool)|int (i:Int)|str (x:be)|byt (b:Array UInt8)|flt (b:UInt64)|ref (a:aI)|ty (n:String)
 deriving DecidableEq
def RelV:V->ah->Prop
 |.non,u=>u=fF
 |.bl b,u=>u=Value.bool b
 |.int i,u=>∃t,u=Value.int i t
 |.str x,u=>∃t,u=Value.str x t
 |.byt b,u=>∃t,u=Value.bytes b t
 |.flt b,u=>∃t,u=Value.float b t
 |.ref a,u=>u=dt a
 |.ty n,u=>u=i6 n
abbrev c7:List V->List ah->Prop:=iC RelV
def c7.length(r:c7 xs us):xs.length=us.length:=qg r
theorem c7.get:∀{xs:List V}{us:List ah}{i:Nat}{x:V},c7 xs us->xs[i]?=a_ x->∃u,us[i]?=a_ u/\RelV x u
 |_,_,_,_,.nil,e=>by simp at e
 |_,_,0,_,.cons r _,e=>by simp at e;subst e;exact⟨_,rfl,r⟩
 |_,_,i+1,x,.cons _ t,e=>by
   obtain⟨u,h1,h2⟩:=c7.get t (by simpa using e);exact⟨u,by simpa using h1,h2⟩
theorem c7.set(r:RelV x u):∀{xs:List V}{us:List ah}(i:Nat),c7 xs us->c7 (xs.set i x) (us.set i u)
 |_,_,_,.nil=>.nil
 |_,_,0,.cons _ t=>.cons r t
 |_,_,i+1,.cons q t=>.cons q (c7.set r i t)
theorem c7.append:∀{xs ys:List V}{us ws:List ah},c7 xs us->c7 ys ws->c7 (xs++ys) (us++ws)
 |_,_,_,_,.nil,s=>s
 |_,_,_,_,.cons r t,s=>.cons r (c7.append t s)
theorem c7.take:∀{xs:List V}{us:List ah}(n:Nat),c7 xs us->c7 (xs.take n) (us.take n)
 |_,_,0,_=>.nil
 |_,_,_+1,.nil=>.nil
 |_,_,n+1,.cons r t=>.cons r (c7.take n t)
theorem c7.drop:∀{xs:List V}{us:List ah}(n:Nat),c7 xs us->c7 (xs.drop n) (us.drop n)
 |_,_,0,r=>r
 |_,_,_+1,.nil=>.nil
 |_,_,n+1,.cons _ t=>c7.drop n t
def uh:Option V->Option ah->Prop
 |some v,a_ u=>RelV v u
 |none,b_=>True
 |_,_=>False
def KV{κ:Type}:List (κ×V)->List (κ×ah)->Prop:=iC λ(p:κ×V)(q:κ×ah)=>p.1=q.1/\RelV p.2 q.2
noncomputable def kV:Key->V
 |.inl i=>.int i
 |.inr x=>.str x
inductive HO where
 |lst (xs:List V)
 |tup (xs:List V)
 |dK (k_:List (Key×V))|dT (k_:List (List Key×V))
 |set (S:Int->Bool) (n:Nat)
 |ins (C dx:aI) (fs:List (be×V))
 |own (x:aI)
 |xd (fs:List (be×V))
 |met (f x:aI)
 |rng (lo hi:Int)
 |mN (o:lA) (u:HO)
 |tbl (ps:Array ah)
 |ext (φ:cM->Prop)
abbrev Hp:=aI->Option HO
def upd(H:Hp)(a:aI)(o:HO):Hp:=λb=>if b=a then a_ o else H b
def cO:upd H a o a=a_ o:=by unfold upd;rw[if_pos rfl]
def cZ(h:b≠a):upd H a o b=H b:=by unfold upd;rw[if_neg h]
def YG{H:Hp}{a b:aI}{o u:HO}(h:H a=a_ o)(h':H b=a_ u)(d:o≠u):a≠b:=by
 intro e;simp_all
def eQ{H:Hp}{a b:aI}{o:HO}(h:H a=a_ o)(h':H b=b_):a≠b:=by
 intro e;simp_all
section
variable(P:cJ)(w:du)
def kU(H:Hp)(h:cM)(a:aI):HO->Prop
 |.lst xs=>xs.length<=aB/\∃(its:List ah) (n:Nat),c7 xs its/\h.get? a=a_ { cls:=.type "list",data:=.seq its.toArray n }
 |.tup xs=>xs.length<=aB/\∃its:List ah,c7 xs its/\Ag h a its.toArray
 |.dK k_=>k_.length<=aB/\(a == sysModules)=d_/\∃vs,KV k_ vs/\h.DictOf (cz P w) a vs
 | .dT k_=>k_.length<=aB/\(a == sysModules)=d_/\∃xs:List (List Key×aI×ah),
   iC (λ(p:List Key×V)(q:List Key×aI×ah)=>p.1=q.1/\H q.2.1=a_ (.tup (p.1.map kV))/\RelV p.2 q.2.2) k_ xs/\
   ∃o es ep,h.get? a=a_ o/\o.ExactDict/\o.data=.dict es ep/\es.toList=xs.map (entryOfKey (tupleKind (cz P w)))/\(xs.map (·.1)).Nodup
 |.set S n=>h.SetOf (intKind P w) a S n
 | .ins C dx fs=>H dx=a_ (.own a)/\fs.length<=1000/\dx≠a/\h.get? a=a_ (PySem.W.instObj C dx)/\
   ∃b,h.Ns1 dx b/\(∀f,uh (fs.lookup f) (b f))/\PySem.Within b (fs.map (·.1))
 |.own _=>∃o,h.get? a=a_ o
 |.xd fs=>∃b,h.Ns1 a b/\∀f,uh (fs.lookup f) (b f)
 |.rng lo hi=>∃t u v,h.get? a=a_ { cls:=.type "range",data:=.fields #[.int lo t,.int hi u,.int 1 v] }
 |.mN o u=>h.get? a=a_ o/\kU H h a u
 |.tbl ps=>h.get? a=a_ { cls:=.none,data:=.fields ps }
 |.met f x=>h.get? a=a_ (PySem.W.methodObj (.ref f) (.ref x))
 |.ext φ=>φ h/\(∃o,h.get? a=a_ o)/\∀h1 h2:cM,φ h1->(∀o,h1.get? a=a_ o->h2.get? a=a_ o)->φ h2
def rQ(H:Hp)(h:cM):Prop:=∀a o,H a=a_ o->kU P w H h a o
end
section
variable{P:cJ}{w:du}{H:Hp}{h h':cM}{a:aI}{o:HO}
theorem kU.lt(x:kU P w H h a o):a<h.objs.size:=by
 cases o with
 |lst xs=>obtain⟨_,_,_,_,e⟩:=x;exact hl9 e
 |tup xs=>obtain⟨_,_,_,p⟩:=x;exact p.lt
 |dK k_=>obtain⟨_,_,_,_,o,_,_,e,_⟩:=x;exact hl9 e
 |dT k_=>obtain⟨_,_,_,_,o,_,_,e,_⟩:=x;exact hl9 e
 |set S n=>obtain⟨o,_,_,_,e,_⟩:=x;exact hl9 e
 |ins C dx fs=>obtain⟨_,_,_,e,_⟩:=x;exact hl9 e
 |own y=>obtain⟨_,e⟩:=x;exact hl9 e
 |xd fs=>obtain⟨_,⟨_,_,_,e,_⟩,_⟩:=x;exact hl9 e
 |rng lo hi=>obtain⟨_,_,_,e⟩:=x;exact hl9 e
 |mN b u=>exact hl9 x.1
 |tbl ps=>exact hl9 (x)
 |met f y=>exact hl9 (x)
 |ext φ=>obtain⟨_,⟨_,e⟩,_⟩:=x;exact hl9 e
theorem Paired.Vz{α β:Type}{F G:α->β->Prop}:∀{l₁:List α}{B:List β},iC F l₁ B->(∀a b,F a b->G a b)->iC G l₁ B
 |_,_,.nil,_=>.nil
 |_,_,.cons r t,f=>.cons (f _ _ r) (Paired.Vz t f)
def kU.oH(x:kU P w H h a o)(k:∀b u,(b=a\/H b=a_ (.own a))->h.get? b=a_ u->h'.get? b=a_ u)
  (ho:∀b,H b=a_ (.own a)->H' b=a_ (.own a))(ht:∀b xs,H b=a_ (.tup xs)->H' b=a_ (.tup xs)):kU P w H' h' a o:=by
 induction o with
 |lst xs=>obtain⟨z,its,n,r,e⟩:=x;exact⟨z,its,n,r,k _ _ (.inl rfl) e⟩
 |tup xs=>obtain⟨z,its,r,g,e,c⟩:=x;exact⟨z,its,r,g,k _ _ (.inl rfl) e,c⟩
 |dK k_=>obtain⟨z,y,vs,r,g,es,ep,e,c⟩:=x;exact⟨z,y,vs,r,g,es,ep,k _ _ (.inl rfl) e,c⟩
 |dT k_=>
   obtain⟨z,y,xs,r,g,es,ep,e,c⟩:=x;exact⟨z,y,xs,Paired.Vz r λp q z=>⟨z.1,ht _ _ z.2.1,z.2.2⟩,g,es,ep,k _ _ (.inl rfl) e,c⟩
 |set S n=>obtain⟨g,es,ep,t,e,c⟩:=x;exact⟨g,es,ep,t,k _ _ (.inl rfl) e,c⟩
 |ins C dx fs=>
   obtain⟨d,z,ne,e,i,⟨od,es,ep,e2,c⟩,r⟩:=x;exact⟨ho _ d,z,ne,k _ _ (.inl rfl) e,i,⟨od,es,ep,k _ _ (.inr d) e2,c⟩,r⟩
 |own y=>obtain⟨g,e⟩:=x;exact⟨g,k _ _ (.inl rfl) e⟩
 |xd fs=>obtain⟨i,⟨od,es,ep,e,c⟩,r⟩:=x;exact⟨i,⟨od,es,ep,k _ _ (.inl rfl) e,c⟩,r⟩
 |rng lo hi=>obtain⟨t,u,v,e⟩:=x;exact⟨t,u,v,k _ _ (.inl rfl) e⟩
 |mN g u j=>exact⟨k _ _ (.inl rfl) x.1,j x.2⟩
 |tbl ps=>
   exact k a _ (.inl rfl) x
 |met f y=>
   exact k a _ (.inl rfl) x
 |ext φ=>obtain⟨p,⟨o,e⟩,st⟩:=x;exact⟨st _ _ p λo q=>k _ _ (.inl rfl) q,⟨o,k _ _ (.inl rfl) e⟩,st⟩
def rQ.lt(x:rQ P w H h)(e:H a=a_ o):a<h.objs.size:=(x a o e).lt
def rQ.fresh(x:rQ P w H h)(e:h.objs.size<=a):H a=b_:=by
 cases q:H a with
 |none=>rfl
 |some u=>exact absurd (bc (x.lt q) e) (bI _)
def rQ.kept(x:rQ P w H h)(k:∀b u,h.get? b=a_ u->h'.get? b=a_ u):rQ P w H h':=λa o e=>
 (x a o e).oH (λb u _ q=>k b u q) (λ_ q=>q) λ_ _ q=>q
def rQ.laid(x:rQ P w H h)(k:∀b u,h.get? b=a_ u->h'.get? b=a_ u)(hp:h.objs.size<=a)(new:kU P w (upd H a o) h' a o):rQ P w (upd H a o) h':=λb u e=>by
 have d:=x.fresh hp;by_cases hb:b=a
 .subst hb;rw[cO]at e;cases e;exact new
 .rw[cZ hb]at e;exact(x b u e).oH (λc v _ q=>k c v q) (λc q=>by rw[cZ (eQ q d)];exact q) λc xs q=>by rw[cZ (eQ q d)];exact q
end
def Rd(H:Hp)(a:aI)(u:HO):Prop:=H a=a_ u\/∃o,H a=a_ (.mN o u)
def Rd.ok(r:Rd H a u)(x:rQ P w H h):kU P w H h a u:=by
 rcases r with r|⟨o,r⟩
 .exact x a u r
 .exact (x a _ r).2
def ZS:Option HO->Prop
 |some (.lst _)=>True
 |some (.dK _)=>True
 |some (.dT _)=>True
 |some (.set _ _)=>True
 |some (.ins _ _ _)=>True
 |some (.ext _)=>True
 |_=>False
section
variable{h':cM}
def rQ.write(ok:rQ P w H h)(B:ZS (H x))(he:e=x\/H e=a_ (.own x))(k:∀b u,b≠e->h.get? b=a_ u->h'.get? b=a_ u)(O:∃u,h'.get? e=a_ u)
  (new:kU P w (upd H x o') h' x o'):rQ P w (upd H x o') h':=λb u q=>by
 have d:∀c y,H c=a_ (.own y)->c≠x:=λc y r z=>by subst z;rw[r]at B;exact B
 by_cases hb:b=x
 .subst hb;rw[cO]at q;cases q;exact new
 .rw[cZ hb]at q;by_cases a:b=e
  .have g:H b=a_ (.own x):=by
    rcases he with z|z
    .exact absurd (a.trans z) hb
    .rw[a];exact z
   rw[q]at g;cases g;obtain⟨v,i⟩:=O;exact⟨v,by rw[a];exact i⟩
  .refine(ok b u q).oH (λc v hc r=>k c v ?_ r) (λc r=>by rw[cZ (d c b r)];exact r) λc xs r=>by rw[cZ ((λc xs r z=>by subst z;rw[r]at B;exact B) c xs r)];exact r
   rcases hc with rfl|hc
   .exact a
   .rintro rfl
    rcases he with z|z
    .exact d c b hc z
    .rw[hc]at z;cases z;exact hb rfl
end
structure Un(fs ex:List aI)(H H':Hp)(h h':cM):Prop where
 keep:∀b o,h.get? b=a_ o->H b=b_->b∉fs->b∉ex->h'.get? b=a_ o
 slot:∀b o,h.get? b=a_ o->H b=b_->b∈fs->b∉ex->∃sl,h'.get? b=a_ { o with slots:=sl }
 free:∀b o,h.get? b=a_ o->H b=b_->b∉ex->H' b=b_
 there:∀b o,h.get? b=a_ o->b∉ex->∃o',h'.get? b=a_ o'
 tups:∀b xs,H b=a_ (.tup xs)->H' b=a_ (.tup xs)
 frzs:∀b o u,H b=a_ (.mN o u)->H' b=a_ (.mN o u)
 tbls:∀b ps,H b=a_ (.tbl ps)->∃more,H' b=a_ (.tbl (ps++more))
section
variable{h h':cM}
def Un.any(u:Un fs ex H H1 h h1)(q:h.get? b=a_ ob)(n:H b=b_)(B:b∉ex):∃sl,h1.get? b=a_ { ob with slots:=sl }:=by
 by_cases hb:b∈fs
 .exact u.slot b ob q n hb B
 .exact⟨ob.slots,u.keep b ob q n hb B⟩
def Un.kept(k:∀b u,h.get? b=a_ u->h'.get? b=a_ u):Un fs ex H H h h':=
 ⟨λb a q _ _ _=>k b a q,λb a q _ _ _=>⟨a.slots,k b a q⟩,λ_ _ _ n _=>n,λb a q _=>⟨a,k b a q⟩,λ_ _ q=>q,λ_ _ _ q=>q,λ_ ps q=>⟨#[],by rw[q];simp⟩⟩
def Un.refl:Un fs ex H H h h:=Un.kept λ_ _ q=>q
def Un.laid(k:∀b u,h.get? b=a_ u->h'.get? b=a_ u)(hp:h.objs.size<=a)(B:H a=b_):Un fs ex H (upd H a o) h h' where
 keep:=λb u q _ _ _=>k b u q
 slot:=λb u q _ _ _=>⟨u.slots,k b u q⟩
 free:=λb u q n _=>by rw[cZ (bw (bc (hl9 q) hp))];exact n
 there:=λb u q _=>⟨u,k b u q⟩
 tups:=λb xs q=>by rw[cZ (eQ q B)];exact q
 frzs:=λb u xs q=>by rw[cZ (eQ q B)];exact q
 tbls:=λb ps q=>⟨#[],by rw[cZ (eQ q B),q];simp⟩
def Un.write(B:ZS (H x))(he:e=x\/H e=a_ (.own x))(k:∀b u,b≠e->h.get? b=a_ u->h'.get? b=a_ u)(O:∃u,h'.get? e=a_ u):Un fs ex H (upd H x o) h h':=by
 have d:∀b,H b=b_->b≠x:=λb n z=>by subst z;rw[n]at B;exact B
 have hb:∀b,H b=b_->b≠e:=λb n z=>by
  subst z
  rcases he with r|r
  .exact d b n r
  .rw[n]at r;cases r
 have c:∀b u,H b=a_ u->¬ZS (a_ u)->b≠x:=λb u q nm z=>by subst z;rw[q]at B;exact nm B
 refine⟨λb u q n _ _=>k b u (hb b n) q,λb u q n _ _=>⟨u.slots,k b u (hb b n) q⟩,λb u q n _=>by rw[cZ (d b n)];exact n,λb u q _=>?_,
  λb xs q=>by rw[cZ (c b _ q λz=>z)];exact q,λb u xs q=>by rw[cZ (c b _ q λz=>z)];exact q,λb ps q=>⟨#[],by rw[cZ (c b _ q λz=>z),q];simp⟩⟩
 by_cases a:b=e
 .subst a;exact O
 .exact⟨u,k b u a q⟩
end
def ZZ(h:cM)(H:Hp):List aI:=(aO h.objs.size).filter λa=>(H a).isSome
def BN(h:cM)(H:Hp):cM:=PySem.W.hideAll h (ZZ h H)
def IM(h:cM)(H:Hp):(BN h H).objs.size=h.objs.size:=PySem.W.hideAll_size _ _
def Mf{h:cM}(e:h.get? b=a_ o)(n:H b=b_):(BN h H).get? b=a_ o:=
 PySem.W.hideAll_get _ e λa=>by
  have q :=(bJ.mp a).2;rw[n]at q;simp at q
def PF(e:(BN h H).get? b=a_ o):h.get? b=a_ o/\H b=b_:=by
 have a :=PySem.W.of_hideAll (ZZ h H) e;refine⟨a,?_⟩
 cases q:H b with
 |none=>rfl
 |some x=>
   have z:(BN h H).get? b=b_:=PySem.W.hideAll_none (ZZ h H) (bJ.mpr ⟨bq.mpr (hl9 a),by simp[q]⟩);rw[z]at e;cases e
def Q0(g h:cM)(L:aI):List (aI×lA):=(aO h.objs.size).filterMap λa=>if a=L\/(g.get? a).isSome=c_ then b_ else(h.get? a).map λo=>(a,o)
def rest(g h:cM)(L d:aI):List (aI×lA):=(Q0 g h L).filter λp=>decide (p.1≠d)
structure Mod(K:aN)(mg:be->Option ah)(base:cM):Prop where
 kin:K.In base
 glob:base.Ns mainGlobals mg
 blt:∃mb,base.Ns builtinsNs mb/\∀x:be,x≠"__name__"->mb x=bootBuiltins x
 nolimit:base.NoLimit
structure Cx where
 prog:cJ
 w:du
 K:aN
 mg:be->Option ah
 base:cM
 A:bX
 N:List be
 s₀:ak
 H₀:Hp
 env:Ri
 outer:List Ri
 stack:List Ri
 ex:List aI
 fn:be->Bool
 calm:Bool
 pn:List (aI×lA)
 xe:ah->ak->Prop
def Jy(l:List Ri):List aI:=l.filterMap (·.frame)
abbrev Cx.fs(X:Cx):List aI:=Jy X.outer
def Q2(sc:m7)(x:be):Prop:=sc.names.lookup x=a_ .local\/sc.names.lookup x=a_ .cell\/sc.names.lookup x=a_ .free
def Loc(sc:m7)(x:be):Prop:=sc.names.lookup x=a_ .local\/sc.names.lookup x=a_ .cell
def Look(env:Ri)(h:cM)(m:be->Option ah)(x:be)(u:ah):Prop:=
 (env.kindOf x=a_ .local/\m x=a_ u)\/((env.kindOf x=a_ .cell\/env.kindOf x=a_ .free)/\∃c,env.cells.lookup x=a_ c/\h.IsCell c (a_ u))
structure Cx.Ok(X:Cx):Prop where
 mod:Mod X.K X.mg X.base
 kind:X.env.scope.kind=.function
 glob:X.env.globals=mainGlobals
 blt:X.env.builtins=builtinsNs
 above:X.s₀.heap.objs.size<=X.env.locals
 inj:∀x y c,X.env.cells.lookup x=a_ c->X.env.cells.lookup y=a_ c->x=y
 has:∀x,(X.env.kindOf x=a_ .cell\/X.env.kindOf x=a_ .free)->∃c,X.env.cells.lookup x=a_ c
 cab:∀x c,X.fn x=c_->X.env.cells.lookup x=a_ c->X.s₀.heap.objs.size<=c
 hd:X.calm=c_->X.A.handled=b_
 frames:X.A.frames=a_ X.stack
 Nu:X.stack=X.outer\/(X.stack=X.env::X.outer/\X.env.frame=a_ X.env.locals)
 exf:∀b∈X.ex,b≠X.env.locals/\∀x c,X.env.cells.lookup x=a_ c->c≠b
 bs:∀b o,X.base.get? b=a_ o->X.s₀.heap.get? b=a_ o/\X.H₀ b=b_
 bsz:X.base.objs.size<=X.s₀.heap.objs.size
 noex:∀b o,X.base.get? b=a_ o->b∉X.ex
 exfs:∀b∈X.ex,b∉X.fs
 vV:X.s₀.heap.FunFrames X.base X.outer
 frf:∀b∈X.fs,X.H₀ b=b_
structure Inv(X:Cx)(h_:List (aI×lA))(σ:List (Option V))(H:Hp)(s:ak):Prop where
 ok:X.Ok
 os:s.os=X.s₀.os
 bare:oO s.gens
 base:Un X.fs X.ex X.H₀ H X.s₀.heap s.heap
 loc:∃m,s.heap.Ns X.env.locals m/\∀(i:Nat)(x:be)(v:V),X.N[i]?=a_ x->σ[i]?=a_ (a_ v)->Q2 X.env.scope x->∃u,RelV v u/\Look X.env s.heap m x u
 cell:∀x c,X.env.cells.lookup x=a_ c->∃v,s.heap.IsCell c v
 free:H X.env.locals=b_
 freeC:∀x c,X.env.cells.lookup x=a_ c->H c=b_
 pin:∀p∈X.pn++h_,s.heap.get? p.1=a_ p.2/\H p.1=b_/\p.1≠X.env.locals/\p.1∉X.fs/\∀v,p.2.data≠.cell v
 hok:rQ X.prog X.w H s.heap
 len:σ.length=X.N.length
section
variable{X:Cx}{h_:List (aI×lA)}{σ:List (Option V)}{H:Hp}{s:ak}{h':cM}
def Cx.Ok.aaU(ok:X.Ok)(e:X.base.get? b=a_ o):b∉X.fs:=λhb=>by
 have:=(ok.vV.mem hb).1
 simp_all
def Inv.bs(I:Inv X h_ σ H s):∀b o,X.base.get? b=a_ o->s.heap.get? b=a_ o/\H b=b_:=λb o e=>
 ⟨I.base.keep b o (I.ok.bs b o e).1 (I.ok.bs b o e).2 (I.ok.aaU e) (I.ok.noex b o e),I.base.free b o (I.ok.bs b o e).1 (I.ok.bs b o e).2 (I.ok.noex b o e)⟩
def Inv.bk(I:Inv X h_ σ H s):∀b o,X.base.get? b=a_ o->s.heap.get? b=a_ o:=λb o e=>(I.bs b o e).1
def Inv.mod(I:Inv X h_ σ H s):Mod X.K X.mg X.base:=I.ok.mod
def Inv.DZ(I:Inv X h_ σ H s):X.K.In s.heap:=I.ok.mod.kin.keeps I.bk
def Inv.fr(I:Inv X h_ σ H s):∃m,Fr X.base X.env.locals s.heap m:=
 let ⟨m,hn,_⟩:=I.loc
 ⟨m,hn,I.bk,aa I.ok.bsz I.ok.above⟩
def Inv.lt(I:Inv X h_ σ H s):X.env.locals<s.heap.objs.size:=let ⟨_,hn,_⟩:=I.loc;hn.lt
def Inv.sz(I:Inv X h_ σ H s):X.s₀.heap.objs.size<=s.heap.objs.size:=aa I.ok.above (aD I.lt)
def Inv.YB(I:Inv X h_ σ H s)(h:s.heap.objs.size<=a):a∉X.fs:=λhb=>by
 obtain⟨_,o,ho,_⟩:=I.ok.vV.mem hb;exact absurd (bc (hl9 ho) (aa I.sz h)) (bI _)
def Inv.Ww(I:Inv X h_ σ H s):∀x c,X.env.cells.lookup x=a_ c->c≠X.env.locals:=λx c e z=>by
 obtain⟨v,o,ho,hd⟩:=I.cell x c e;obtain⟨m,⟨o',es,ep,a,b,_⟩,_⟩:=I.loc
 grind
theorem Inv.vV(I:Inv X h_ σ H s):s.heap.FunFrames X.base X.outer:=by
 have all:∀(l:List Ri),(∀b∈Jy l,b∈X.fs)->X.s₀.heap.FunFrames X.base l->s.heap.FunFrames X.base l:=by
  intro l
  induction l with
  |nil=>intro _ _;trivial
  |cons env r c=>
    intro hs hl;obtain⟨hk,⟨L,o,hf,d,ho,hd⟩,f⟩:=hl;have a :=hs L (by unfold Jy;simp_all);obtain⟨sl,e⟩:=I.base.slot L o ho (I.ok.frf L a) a λz=>I.ok.exfs L z a;exact⟨hk,⟨L,_,hf,d,e,hd⟩,c (λb hb=>hs b (by unfold Jy;rw[jw,hf];exact ki _ hb)) f⟩
 exact all X.outer (λ_ hb=>hb) I.ok.vV
def Inv.stack(I:Inv X h_ σ H s):s.heap.FunFrames X.base X.stack:=by
 rcases I.ok.Nu with e|⟨e,hf⟩
 .rw[e];exact I.vV
 .rw[e];obtain⟨m,a,_⟩:=I.loc;exact .cons (by rw[I.ok.kind];decide) hf a (p0 (aa I.ok.bsz I.ok.above)) I.vV
def Inv.u9(I:Inv X h_ σ H s):∀b∈Jy X.stack,b∈X.env.locals::X.fs:=λb hb=>by
 rcases I.ok.Nu with e|⟨e,hf⟩
 .simp_all
 .rw[e]at hb;unfold Jy at hb;rw[jw,hf]at hb;exact hb
def Inv.E9(I:Inv X h_ σ H s):∀b∈Jy X.stack,H b=b_:=λb hb=>by
 rcases au.mp (I.u9 b hb)with e|hb
 .rw[e];exact I.free
 .obtain⟨_,o,ho,_⟩:=I.ok.vV.mem hb;exact I.base.free b o ho (I.ok.frf b hb) λz=>I.ok.exfs b z hb
def Inv.step{g':Array C5}{t':Nat}{d':Drawn}{ch:List aI}(I:Inv X h_ σ H s)
  (B:∀b∈ch,(b∈X.ex\/X.s₀.heap.objs.size<=b)/\b≠X.env.locals/\(∀x c,X.env.cells.lookup x=a_ c->c≠b)/\∀p∈X.pn++h_,p.1≠b)
  (keep:∀b o,b≠X.env.locals->b∉X.fs->b∉ch->s.heap.get? b=a_ o->H b=b_->h'.get? b=a_ o)
  (slot:∀b o,b≠X.env.locals->b∈X.fs->b∉ch->s.heap.get? b=a_ o->H b=b_->∃sl,h'.get? b=a_ { o with slots:=sl })(free:∀b o,b∉ch->s.heap.get? b=a_ o->H b=b_->H' b=b_)
  (there:∀b o,b∉ch->s.heap.get? b=a_ o->∃o',h'.get? b=a_ o')
  (tups:∀b xs,H b=a_ (.tup xs)->H' b=a_ (.tup xs))(frzs:∀b o u,H b=a_ (.mN o u)->H' b=a_ (.mN o u))(tbls:∀b ps,H b=a_ (.tbl ps)->∃more,H' b=a_ (.tbl (ps++more)))
  (ns:∀m,s.heap.Ns X.env.locals m->h'.Ns X.env.locals m)(hok:rQ X.prog X.w H' h')(O:oO g') :
  Inv X h_ σ H' { s with heap:=h',gens:=g',drawn:=d',toks:=t' }:=by
 have h:∀b o,X.s₀.heap.get? b=a_ o->b≠X.env.locals:=λb o e=>bw (bc (hl9 e) I.ok.above)
 have g:∀b o,X.s₀.heap.get? b=a_ o->b∉X.ex->b∉ch:=λb o e a hb=>by
  rcases(B b hb).1 with z|z
  .exact a z
  .exact absurd (bc (hl9 e) z) (bI _)
 have cellK:∀x c,X.env.cells.lookup x=a_ c->∀v,s.heap.IsCell c v->h'.IsCell c v:=λx c e v t=>by
  obtain⟨o,ho,hd⟩:=t;have f :=λz=>(B c z).2.2.1 x c e rfl;by_cases hc:c∈X.fs
  .obtain⟨sl,q⟩:=slot c o (I.Ww x c e) hc f ho (I.freeC x c e);exact⟨_,q,hd⟩
  .exact⟨o,keep c o (I.Ww x c e) hc f ho (I.freeC x c e),hd⟩
 refine⟨I.ok,I.os,O,⟨λb o e n hb a=>?_,λb o e n hb a=>?_,λb o e n a=>?_,λb o e a=>?_,λb xs e=>tups b xs (I.base.tups b xs e),λb o xs e=>frzs b o xs (I.base.frzs b o xs e),λb ps e=>?_⟩,?_,λx c e=>?_,?_,λx c e=>?_,λp hp=>?_,hok,I.len⟩
 .exact keep b o (h b o e) hb (g b o e a) (I.base.keep b o e n hb a) (I.base.free b o e n a)
 .obtain⟨sl,e1⟩:=I.base.slot b o e n hb a;obtain⟨j,e2⟩:=slot b _ (h b o e) hb (g b o e a) e1 (I.base.free b o e n a);exact⟨j,e2⟩
 .obtain⟨o',e1⟩:=I.base.there b o e a;exact free b o' (g b o e a) e1 (I.base.free b o e n a)
 .obtain⟨o',e1⟩:=I.base.there b o e a;exact there b o' (g b o e a) e1
 .obtain⟨m1,e1⟩:=I.base.tbls b ps e
  grind
 .obtain⟨m,y,hl⟩:=I.loc;refine⟨m,ns m y,λi x v e1 e2 e3=>?_⟩;obtain⟨u,r,l⟩:=hl i x v e1 e2 e3;refine⟨u,r,?_⟩
  rcases l with l|⟨k,c,e,z⟩
  .exact .inl l
  .exact .inr ⟨k,c,e,cellK x c e _ z⟩
 .obtain⟨v,z⟩:=I.cell x c e;exact⟨v,cellK x c e v z⟩
 .obtain⟨m,⟨o,_,_,ho,_⟩,_⟩:=I.loc;exact free _ o (λz=>(B _ z).2.1 rfl) ho I.free
 .obtain⟨v,o,ho,hd⟩:=I.cell x c e;exact free c o (λz=>(B c z).2.2.1 x c e rfl) ho (I.freeC x c e)
 .obtain⟨e,n,ne,nf,d⟩:=I.pin p hp;have f :=λz=>(B p.1 z).2.2.2 p hp rfl;exact⟨keep p.1 p.2 ne nf f e n,free p.1 p.2 f e n,ne,nf,d⟩
def Inv.un(I:Inv X h_ σ H s)(u:Un X.fs [] H H' s.heap h')(hok:rQ X.prog X.w H' h'):Inv X h_ σ H' { s with heap:=h',toks:=t' }:=by
 refine ac λ_ i=>?_;obtain⟨m,⟨o,es,ep,ho,r⟩,_⟩:=id I.loc;obtain⟨sl,d⟩:=u.any ho I.free (by simp)
 refine i ?_;exact I.step (ch:=[]) (λ_ z=>nomatch z) (λb o _ hb _ e n=>u.keep b o e n hb (by simp)) (λb o _ hb _ e n=>u.slot b o e n hb (by simp)) (λb o _ e n=>u.free b o e n (by simp)) (λb o _ e=>u.there b o e (by simp)) u.tups u.frzs u.tbls (λh f=>by
  obtain⟨o',es',c,a,g⟩:=f;rw[ho]at a;cases a
  exact⟨_,es',c,d,g⟩) hok I.bare
def Inv.call(I:Inv X h_ σ H s)(u:Un (Jy X.stack) ch H H' s.heap h')(hok:rQ X.prog X.w H' h')(O:oO g')
  (B:∀b∈ch,(b∈X.ex\/X.s₀.heap.objs.size<=b)/\b≠X.env.locals/\(∀x c,X.env.cells.lookup x=a_ c->c≠b)/\∀p∈X.pn++h_,p.1≠b) :
  Inv X h_ σ H' { s with heap:=h',gens:=g',drawn:=d',toks:=t' }:=by
 refine ac λ_ j=>?_;obtain⟨m,⟨o,es,ep,ho,r⟩,_⟩:=id I.loc;obtain⟨sl,d⟩:=u.any ho I.free λz=>(B _ z).2.1 rfl
 refine j ?_;exact I.step B (λb o d hb hc e n=>u.keep b o e n (λz=>(au.mp (I.u9 b z)).elim d hb) hc) (λb o _ _ hc e n=>u.any e n hc) (λb o hc e n=>u.free b o e n hc) (λb o hc e=>u.there b o e hc) u.tups u.frzs u.tbls (λi g=>by
  obtain⟨o',es',f,a,h⟩:=g;rw[ho]at a;cases a
  exact⟨_,es',f,d,h⟩) hok O
def Inv.turned(I:Inv X h_ σ H s)(k:∀b o,b≠it->s.heap.get? b=a_ o->h'.get? b=a_ o)(O:H it=b_)(B:it≠X.env.locals)
  (h1:it∈X.ex\/X.s₀.heap.objs.size<=it)(h2:∀x c,X.env.cells.lookup x=a_ c->c≠it)(h3:∀p∈X.pn++h_,p.1≠it):Inv X h_ σ H { s with heap:=h',toks:=t' }:=by
 have a:∀b u,H b=a_ u->b≠it:=λb u e z=>by simp_all
 refine I.step (ch:=[it]) (λb hb=>?_) (λb o _ _ hc e _=>k b o (λz=>hc (by simp[z])) e) (λb o _ _ hc e _=>⟨o.slots,k b o (λz=>hc (by simp[z])) e⟩) (λ_ _ _ _ n=>n)
  (λb o hc e=>⟨o,k b o (λz=>hc (by simp[z])) e⟩) (λ_ _ e=>e) (λ_ _ _ e=>e) (λb ps e=>⟨#[],by rw[e];simp⟩) (λm d=>?_) (λb u e=>?_) I.bare
 .have e:b=it:=by simpa using hb
  subst e;exact⟨h1,B,h2,h3⟩
 .obtain⟨o,es,ep,ho,r⟩:=d;exact⟨o,es,ep,k _ o (dR B) ho,r⟩
 .refine(I.hok b u e).oH (λc v hc q=>k c v ?_ q) (λ_ q=>q) λ_ _ q=>q
  rcases hc with z|z
  .rw[z];exact a b u e
  .exact a c _ z
def Inv.tok(I:Inv X h_ σ H s)(t:Nat):Inv X h_ σ H { s with toks:=t }:=I.un Un.refl I.hok
def Inv.kept(I:Inv X h_ σ H s)(k:∀b u,s.heap.get? b=a_ u->h'.get? b=a_ u):Inv X h_ σ H { s with heap:=h',toks:=t' }:=I.un (Un.kept k) (I.hok.kept k)
def Inv.laid(I:Inv X h_ σ H s)(k:∀b u,s.heap.get? b=a_ u->h'.get? b=a_ u)(hp:s.heap.objs.size<=a)(new:kU X.prog X.w (upd H a o) h' a o) :
  Inv X h_ σ (upd H a o) { s with heap:=h',toks:=t' }:=I.un (Un.laid k hp (I.hok.fresh hp)) (I.hok.laid k hp new)
def Inv.write(I:Inv X h_ σ H s)(O:ZS (H x))(he:e=x\/H e=a_ (.own x))(k:∀b u,b≠e->s.heap.get? b=a_ u->h'.get? b=a_ u)(B:∃u,h'.get? e=a_ u)
  (new:kU X.prog X.w (upd H x o) h' x o):Inv X h_ σ (upd H x o) { s with heap:=h',toks:=t' }:=I.un (Un.write O he k B) (I.hok.write O he k B new)
def Inv.weak{B:List (Option V)}(I:Inv X h_ σ H s)(hl:B.length=σ.length)(w:∀(i:Nat)v,B[i]?=a_ (a_ v)->σ[i]?=a_ (a_ v)):Inv X h_ B H s:=
 ⟨I.ok,I.os,I.bare,I.base,let ⟨m,hn,hl'⟩:=I.loc;⟨m,hn,λi x v e1 e2 e3=>hl' i x v e1 (w i v e2) e3⟩,I.cell,I.free,I.freeC,I.pin,I.hok,hl.trans I.len⟩
def Inv.rf(I:Inv X h_ σ H s)(h:∀p∈pins',s.heap.get? p.1=a_ p.2/\H p.1=b_/\p.1≠X.env.locals/\p.1∉X.fs/\∀v,p.2.data≠.cell v):Inv X pins' σ H s:=
 ⟨I.ok,I.os,I.bare,I.base,I.loc,I.cell,I.free,I.freeC,λp hp=>(ax.mp hp).elim (λz=>I.pin p (az _ z)) (h p),I.hok,I.len⟩
def Bn{N:List be}(B:N.Nodup){i j:Nat}{x:be}(a:N[i]?=a_ x)(b:N[j]?=a_ x):i=j:=by
 exact(List.getElem_inj B).mp ((aR.mp a).2.trans (aR.mp b).2.symm)
def HH(I:Inv X h_ σ H s)(Y:X.N.Nodup)(hi:X.N[i]?=a_ x)(B:Loc X.env.scope x)(r:RelV v u)
  (h:∀s',Inv X h_ (σ.set i (a_ v)) H s'->(∃a,cL a s.heap s'.heap/\(a=X.env.locals\/X.env.cells.lookup x=a_ a))->Q () s')(hf:X.fn x=c_\/X.env.scope.names.lookup x=a_ .local):aF M A (storeName X.env x u) Q E s:=by
 obtain⟨m,G,hl⟩:=id I.loc;have f:i<σ.length:=by rw[I.len];exact(aR.mp hi).1
 have Ww:=I.Ww
 have tracked:∀{a:aI}{h':cM},(∃o,s.heap.get? a=a_ o/\H a=b_)->cL a s.heap h'->rQ X.prog X.w H h':=λ{a h'}ha hs b W e=>by
  obtain⟨_,_,J⟩:=ha;refine(I.hok b W e).oH (λc K hc q=>(hs.2 c ?_).trans q) (λ_ q=>q) λ_ _ q=>q;rintro rfl
  simp_all
 rcases B with hk|hk
 .refine wpAny_storeName_local hk G (λh' L hs=>?_) (by rw[I.ok.kind];rfl);obtain⟨Z,_,_,O,_⟩:=id G;refine h _ ⟨I.ok,I.os,I.bare,⟨λb o e n hb B=>?_,λb o e n hb B=>?_,I.base.free,λb o e B=>?_,I.base.tups,I.base.frzs,I.base.tbls⟩,⟨_,L,λj y P e1 e2 e3=>?_⟩,λy c e=>?_,I.free,I.freeC,λp hp=>?_,tracked ⟨Z,O,I.free⟩ hs,by simpa using I.len⟩ ⟨_,hs,.inl rfl⟩
  .exact(hs.2 b (bw (bc (hl9 e) I.ok.above))).trans (I.base.keep b o e n hb B)
  .obtain⟨sl,e1⟩:=I.base.slot b o e n hb B;exact⟨sl,(hs.2 b (bw (bc (hl9 e) I.ok.above))).trans e1⟩
  .obtain⟨o',e1⟩:=I.base.there b o e B;exact⟨o',(hs.2 b (bw (bc (hl9 e) I.ok.above))).trans e1⟩
  .by_cases g:j=i
   .subst g;rw[hi]at e1;cases e1;rw[j8 f]at e2;cases e2;exact⟨u,r,.inl ⟨hk,by simp⟩⟩
   .rw[lj (dR g)]at e2;obtain⟨R,S,q⟩:=hl j y P e1 e2 e3;refine⟨R,S,?_⟩
    rcases q with⟨k,e⟩|⟨k,c,e,z⟩
    .refine .inl ⟨k,?_⟩;have:y≠x:=λe=>g (Bn Y e1 (e▸hi));simp[this,e]
    .exact .inr ⟨k,c,e,z.sameBut hs (Ww y c e)⟩
  .obtain⟨K,z⟩:=I.cell y c e;exact⟨K,z.sameBut hs (Ww y c e)⟩
  .obtain⟨e,n,ne,nf,d⟩:=I.pin p hp;exact⟨(hs.2 p.1 ne).trans e,n,ne,nf,d⟩
 .have l:X.fn x=c_:=by
   grind
  obtain⟨c,hc⟩:=I.ok.has x (.inl hk);obtain⟨K,z⟩:=I.cell x c hc;refine wpAny_storeName_cell I.ok.kind hk hc z (λh' C hs=>?_);obtain⟨oc,T,U⟩:=id z;refine h { s with heap:=h' } ⟨I.ok,I.os,I.bare,⟨λb o e n hb B=>?_,λb o e n hb B=>?_,I.base.free,λb o e B=>?_,I.base.tups,I.base.frzs,I.base.tbls⟩,⟨m,G.sameBut hs (dR (Ww x c hc)),λj y P e1 e2 e3=>?_⟩,λy F e=>?_,I.free,I.freeC,λp hp=>?_,tracked ⟨oc,T,I.freeC x c hc⟩ hs,by simpa using I.len⟩ ⟨c,hs,.inr hc⟩
  .exact(hs.2 b (bw (bc (hl9 e) (I.ok.cab x c l hc)))).trans (I.base.keep b o e n hb B)
  .obtain⟨sl,e1⟩:=I.base.slot b o e n hb B;exact⟨sl,(hs.2 b (bw (bc (hl9 e) (I.ok.cab x c l hc)))).trans e1⟩
  .obtain⟨o',e1⟩:=I.base.there b o e B;exact⟨o',(hs.2 b (bw (bc (hl9 e) (I.ok.cab x c l hc)))).trans e1⟩
  .by_cases g:j=i
   .subst g;rw[hi]at e1;cases e1;rw[j8 f]at e2;cases e2;exact⟨u,r,.inr ⟨.inl hk,c,hc,C⟩⟩
   .rw[lj (dR g)]at e2;obtain⟨R,S,q⟩:=hl j y P e1 e2 e3;refine⟨R,S,?_⟩
    rcases q with q|⟨k,F,e,z'⟩
    .exact .inl q
    .refine .inr ⟨k,F,e,z'.sameBut hs ?_⟩;rintro rfl;exact g (Bn Y e1 (I.ok.inj _ _ _ e hc▸hi))
  .by_cases D:F=c
   .subst D;exact⟨_,C⟩
   .obtain⟨w2,z2⟩:=I.cell y F e;exact⟨w2,z2.sameBut hs D⟩
  .obtain⟨e,n,ne,nf,d⟩:=I.pin p hp;refine⟨(hs.2 p.1 ?_).trans e,n,ne,nf,d⟩
   grind
def u7(I:Inv X h_ σ H s)(B:X.N.Nodup)(hi:X.N[i]?=a_ x)(O:Loc X.env.scope x)(r:RelV v u)
  (h:∀s',Inv X h_ (σ.set i (a_ v)) H s'->Q () s')(hf:X.fn x=c_\/X.env.scope.names.lookup x=a_ .local):aF M A (storeName X.env x u) Q E s:=
 HH I B hi O r (λs' I' _=>h s' I') hf
def Inv.Zw{s':ak}(I:Inv X h_ σ H s)(ho:s'.os=s.os)(u:Un (Jy X.stack) ch H H' s.heap s'.heap)(hok:rQ X.prog X.w H' s'.heap)(O:oO s'.gens)
  (B:∀b∈ch,(b∈X.ex\/X.s₀.heap.objs.size<=b)/\b≠X.env.locals/\(∀x c,X.env.cells.lookup x=a_ c->c≠b)/\∀p∈X.pn++h_,p.1≠b):Inv X h_ σ H' s':=by
 obtain⟨h',g',d',t',o'⟩:=s';subst ho;exact I.call u hok O B
end
abbrev XK:=ah->Option aI->Hp->Prop
abbrev St:=List (Option V)
abbrev VK:=V->Hp->Prop
abbrev TE:=St->Hp->VK->Prop
abbrev TT:=St->Hp->(Bool->Hp->Prop)->Prop
abbrev TA:=St->Hp->(List V->Hp->Prop)->Prop
structure Ends where
 nx:St->Hp->Prop
 rt:VK
 bk:St->Hp->Prop:=λ_ _=>False
 ct:St->Hp->Prop:=λ_ _=>False
abbrev TS:=Ends->St->Hp->Prop
def EP(X:Cx)(h_:List (aI×lA))(σ:St)(Q:VK)(u:ah)(s':ak):Prop:=∃v H',Inv X h_ σ H' s'/\RelV v u/\Q v H'
def TP(X:Cx)(h_:List (aI×lA))(σ:St)(Q:Bool->Hp->Prop)(b:Bool)(s':ak):Prop:=∃H',Inv X h_ σ H' s'/\Q b H'
def AP(X:Cx)(h_:List (aI×lA))(σ:St)(Q:List V->Hp->Prop)(us:List ah)(s':ak):Prop:=∃vs H',Inv X h_ σ H' s'/\c7 vs us/\Q vs H'
def SP(X:Cx)(h_:List (aI×lA))(D:Ends)(f:Flow)(s':ak):Prop:=
 match f with
 |.next=>∃a H',Inv X h_ a H' s'/\D.nx a H'
 |.brk=>∃a H',Inv X h_ a H' s'/\D.bk a H'
 |.cont=>∃a H',Inv X h_ a H' s'/\D.ct a H'
 |.ret u=>∃v a H',Inv X h_ a H' s'/\RelV v u/\D.rt v H'
def PE(X:Cx)(e:a8)(t:TE):Prop:=
 ∀(h_:List (aI×lA))(s:ak)(σ:St)(H:Hp)(Q:VK),Inv X h_ σ H s->t σ H Q->aF (aG X.prog X.w) X.A (eval e X.env) (EP X h_ σ Q) X.xe s
def PT(X:Cx)(e:a8)(t:TT):Prop:=
 ∀(h_:List (aI×lA))(s:ak)(σ:St)(H:Hp)(Q:Bool->Hp->Prop),Inv X h_ σ H s->t σ H Q->aF (aG X.prog X.w) X.A (isTrue e X.env (eval e X.env)) (TP X h_ σ Q) X.xe s
def PW(X:Cx)(e:a8)(t:TT):Prop:=
 ∀(whole:Av ah)(h_:List (aI×lA))(s:ak)(σ:St)(H:Hp)(Q:Bool->Hp->Prop),Inv X h_ σ H s->t σ H Q->aF (aG X.prog X.w) X.A (isTrue e X.env whole) (TP X h_ σ Q) X.xe s
def PW.pt(h:PW X e t):PT X e t:=h _
def PA(X:Cx)(es:List a8)(t:TA):Prop:=
 ∀(pos:xv)(h_:List (aI×lA))(s:ak)(σ:St)(H:Hp)(Q:List V->Hp->Prop),Inv X h_ σ H s->t σ H Q->aF (aG X.prog X.w) X.A (spliced (backTo pos (aQ es X.env))) (AP X h_ σ Q) X.xe s
def PS(X:Cx)(st:lz)(t:TS):Prop:=
 ∀(h_:List (aI×lA))(s:ak)(σ:St)(H:Hp)(D:Ends),Inv X h_ σ H s->t D σ H->aF (aG X.prog X.w) X.A (exec st X.env) (SP X h_ D) X.xe s
def An(X:Cx)(st:List lz)(t:TS):Prop:=
 ∀(h_:List (aI×lA))(s:ak)(σ:St)(H:Hp)(D:Ends),Inv X h_ σ H s->t D σ H->aF (aG X.prog X.w) X.A (execs st X.env) (SP X h_ D) X.xe s
def iR (h:aF M A t Q E s)(B:∀a s,Q a s->Q' a s):aF M A t Q' E s:=dE h B λ_ _ x=>x
section
variable{X:Cx}
def bin{a b:a8}{Y tb:TE}(ha:PE X a Y)(hb:PE X b tb){h_:List (aI×lA)}{s:ak}{σ:St}{H:Hp}{R:V->V->Hp->Prop}(I:Inv X h_ σ H s)(h:Y σ H λx O=>tb σ O λy H2=>R x y H2)
  {α:Type}{Q:α->ak->Prop}{f:ah->ah->Av α}
  (hf:∀v u s2 x y H2,Inv X h_ σ H2 s2->RelV x v->RelV y u->R x y H2->aF (aG X.prog X.w) X.A (f v u) Q X.xe s2) :
  aF (aG X.prog X.w) X.A (eval a X.env) (λv s₁=>aF (aG X.prog X.w) X.A (eval b X.env) (λu B=>aF (aG X.prog X.w) X.A (f v u) Q X.xe B) X.xe s₁) X.xe s:=by
 refine iR (ha h_ s σ H _ I h) λv s1 ⟨x,O,c,d,e⟩=>?_;exact iR (hb h_ s1 σ O _ c e) λu s2 ⟨y,H2,g,i,j⟩=>hf v u s2 x y H2 g d i j
def Dk(i:Nat):TE:=λσ H Q=>∃v,σ[i]?=a_ (a_ v)/\Q v H
def tC(v:V):TE:=λ_ H Q=>Q v H
def qo(O:X.N[i]?=a_ x)(Y:Q2 X.env.scope x)(hd:(x == ("__debug__":be))=d_)(B:(x == ("__classdict__":be))=d_):PE X (.Name x pos) (Dk i):=by
 intro h_ s σ H Q I h;obtain⟨v,e,h⟩:=h;obtain⟨m,b,hl⟩:=I.loc;obtain⟨u,r,l⟩:=hl i x v O e Y;have fin:EP X h_ σ Q u s:=⟨v,H,I,r,h⟩
 rcases l with⟨hk,d⟩|⟨hk,c,hc,a⟩
 .exact wpAny_Name (wpAny_loadName_local I.ok.kind hk b d fin) hd
 .rcases hk with hk|hk
  .exact wpAny_Name (wpAny_loadName_cell I.ok.kind hk hc a fin) hd
  .exact wpAny_Name (wpAny_loadName_free I.ok.kind hk hc a fin B) hd
def US{i j pos}:PE X (.Constant (.int i) j pos) (tC (.int i)):=λ_ _ _ H _ I h=>wpAny_Constant_int ⟨.int i,H,I.tok _,⟨_,rfl⟩,h⟩
def Yu{b j pos}:PE X (.Constant (.bool b) j pos) (tC (.bl b)):=λ_ _ _ H _ I h=>Constant_bool ⟨.bl b,H,I,rfl,h⟩
def UQ{j pos}:PE X (.Constant .none j pos) (tC .non):=λ_ _ _ H _ I h=>Constant_none ⟨.non,H,I,rfl,h⟩
def UO{x j pos}:PE X (.Constant (.str x) j pos) (tC (.str x)):=λ_ _ _ H _ I h=>Calls.Constant_str ⟨.str x,H,I.tok _,⟨_,rfl⟩,h⟩
def Gl(X:Cx)(x:be):Prop:=X.env.kindOf x=a_ .globalImplicit
def zF(I:Inv X h_ σ H s)(B:Gl X x)(O:X.mg x=a_ u)(h:Q u s)
  (hd:(x == ("__debug__":be))=d_):aF (aG X.prog X.w) X.A (eval (.Name x pos) X.env) Q E s:=
 wO I.ok.kind B (Calls.loadGlobal_global (by rw[I.ok.glob];exact I.mod.glob.keeps I.bk) O h) hd
def lW(I:Inv X h_ σ H s)(B:Gl X x)(O:X.mg x=b_)(Y:bootBuiltins x=a_ u)(h:Q u s)
  (Z:x≠"__name__":=by decide)(hd:(x == ("__debug__":be))=d_:=by decide):aF (aG X.prog X.w) X.A (eval (.Name x pos) X.env) Q E s:=by
 obtain⟨mb,h1,h2⟩:=I.mod.blt;exact wO I.ok.kind B (Calls.loadGlobal_builtin (by rw[I.ok.glob];exact I.mod.glob.keeps I.bk) O (by rw[I.ok.blt];exact h1.keeps I.bk) ((h2 x Z).trans Y) h) hd
def Pg(B:Gl X x)(O:X.mg x=a_ u)(r:RelV v u)(hd:(x == ("__debug__":be))=d_):PE X (.Name x pos) (tC v):=
 λ_ _ _ H _ I h=>zF I B O ⟨v,H,I,r,h⟩ hd
def Pn(B:Gl X x)(O:X.mg x=b_)(Y:bootBuiltins x=a_ u)(r:RelV v u)(Z:x≠"__name__")(hd:(x == ("__debug__":be))=d_):PE X (.Name x pos) (tC v):=
 λ_ _ _ H _ I h=>lW I B O Y ⟨v,H,I,r,h⟩ Z hd
variable{ta tb:TE}
def tB(t:TE):TT:=λσ H Q=>t σ H λx a=>∃c,x=.bl c/\Q c a
variable{rest:List a8}
def aaC(t u:TT):TT:=λσ H Q=>t σ H λc a=>if c=c_ then u σ a Q else Q d_ a
def tOr(t u:TT):TT:=λσ H Q=>t σ H λc a=>if c=c_ then Q c_ a else u σ a Q
def aax(t:TT):TT:=λσ H Q=>t σ H λc a=>Q (!c) a
def O7(ha:PT X a tA):PW X (.BoolOp .And [a] pos) tA:=by
 intro b h_ s σ H Q I h;refine isTrue_and (iR (ha h_ s σ H Q I h) λc s1 e=>?_)
 cases c with
 |true=>exact isTrue_and_nil e
 |false=>exact e
def UD(ha:PT X a tA):PW X (.BoolOp .Or [a] pos) tA:=by
 intro b h_ s σ H Q I h;refine isTrue_or (iR (ha h_ s σ H Q I h) λc s1 e=>?_)
 cases c with
 |false=>exact isTrue_or_nil e
 |true=>exact e
def UE(ha:PT X a tA)(hb:PW X (.BoolOp .And (b::rest) pos) tB'):PW X (.BoolOp .And (a::b::rest) pos) (aaC tA tB'):=by
 intro g h_ s σ H Q I h;refine isTrue_and (iR (ha h_ s σ H _ I h) λc s1 ⟨d,e,f⟩=>?_)
 cases c with
 |true=>exact hb g h_ s1 σ d Q e f
 |false=>exact⟨d,e,f⟩
def Yn(ha:PT X a tA)(hb:PW X (.BoolOp .Or (b::rest) pos) tB'):PW X (.BoolOp .Or (a::b::rest) pos) (tOr tA tB'):=by
 intro g h_ s σ H Q I h;refine isTrue_or (iR (ha h_ s σ H _ I h) λc s1 ⟨d,e,f⟩=>?_)
 cases c with
 |true=>exact⟨d,e,f⟩
 |false=>exact hb g h_ s1 σ d Q e f
def UH(ha:PT X a tA):PT X (.UnaryOp .Not a pos) (aax tA):=by
 intro h_ s σ H Q I h;exact isTrue_not (ha h_ s σ H (λc b=>Q (!c) b) I h)
def XQ(ta tb:TE):TE:=λσ H Q=>ta σ H λx a=>∃c,x=.bl c/\if c=c_ then tb σ a Q else Q (.bl d_) a
def aaw(ta tb:TE):TE:=λσ H Q=>ta σ H λx a=>∃c,x=.bl c/\if c=c_ then Q (.bl c_) a else tb σ a Q
def UP{op}(h:PE X a t):PE X (.BoolOp op [a] pos) t:=λh_ s σ H Q I b=>BoolOp_one (h h_ s σ H Q I b)
def UU(ha:PE X a ta)(hb:PE X (.BoolOp .And (b::rest) pos) tb):PE X (.BoolOp .And (a::b::rest) pos) (XQ ta tb):=by
 intro h_ s σ H Q I h;refine BoolOp_and (iR (ha h_ s σ H _ I h) λv s1 ⟨x,e,f,g,d⟩=>?_);obtain⟨c,rfl,d⟩:=d;cases g;refine g9 ?_
 cases c with
 |true=>exact hb h_ s1 σ e Q f d
 |false=>exact⟨.bl d_,e,f,rfl,d⟩
def Yt(ha:PE X a ta)(hb:PE X (.BoolOp .Or (b::rest) pos) tb):PE X (.BoolOp .Or (a::b::rest) pos) (aaw ta tb):=by
 intro h_ s σ H Q I h;refine BoolOp_or (iR (ha h_ s σ H _ I h) λv s1 ⟨x,e,f,g,d⟩=>?_);obtain⟨c,rfl,d⟩:=d;cases g;refine g9 ?_
 cases c with
 |false=>exact hb h_ s1 σ e Q f d
 |true=>exact⟨.bl c_,e,f,rfl,d⟩
def tIf(t:TT)(ta tb:TE):TE:=λσ H Q=>t σ H λc a=>if c=c_ then ta σ a Q else tb σ a Q
def K6(hc:PT X c tA)(ha:PE X a ta)(hb:PE X b tb):PE X (.IfExp c a b pos) (tIf tA ta tb):=by
 intro h_ s σ H Q I h;refine wpAny_IfExp (iR (hc h_ s σ H _ I h) λd s1 ⟨e,f,g⟩=>?_)
 cases d with
 |true=>exact ha h_ s1 σ e Q f g
 |false=>exact hb h_ s1 σ e Q f g
end
def nM(K:aN)(H:Hp)(a:aI)(xs:List V):Prop:=
 Rd H a (.lst xs)\/
  ∃(o:lA) (its:Array ah) (n:Nat),K.lookup a=a_ o/\o.cls=.type "list"/\o.dict=b_/\o.data=.seq its n/\its.size<=aB/\c7 xs its.toList
def tG(K:aN)(H:Hp)(a:aI)(xs:List V):Prop:=
 Rd H a (.tup xs)\/
  ∃(o:lA) (its:Array ah) (n:Nat),K.lookup a=a_ o/\o.cls=.type "tuple"/\o.data=.seq its n/\its.size<=aB/\c7 xs its.toList
noncomputable def abI:ah->Option V
 |.none=>a_ .non
 |.bool b=>a_ (.bl b)
 |.int i _=>a_ (.int i)
 |.str x _=>a_ (.str x)
 |.bytes b _=>a_ (.byt b)
 |.float b _=>a_ (.flt b)
 |.ref a=>a_ (.ref a)
 |.type n=>a_ (.ty n)
 |_=>b_
def RelV.abs(r:RelV x u):abI u=a_ x:=by
 cases x with
 |non=>cases r;rfl
 |bl _=>cases r;rfl
 |int _=>obtain⟨t,rfl⟩:=r;rfl
 |str _=>obtain⟨t,rfl⟩:=r;rfl
 |byt _=>obtain⟨t,rfl⟩:=r;rfl
 |flt _=>obtain⟨t,rfl⟩:=r;rfl
 |ref _=>cases r;rfl
 |ty _=>cases r;rfl
def RelV.inj(r:RelV x u)(q:RelV y u):x=y:=bG (r.abs.symm.trans q.abs)
theorem c7.inj:∀{xs ys:List V}{us:List ah},c7 xs us->c7 ys us->xs=ys
 |_,_,_,.nil,.nil=>rfl
 |_,_,_,.cons r t,.cons a t'=>by rw[r.inj a,c7.inj t t']
section
def nM.of{K:aN}(h:H a=a_ (.lst xs)):nM K H a xs:=.inl (.inl h)
def Inv.list(I:Inv X h_ σ H s)(h:nM X.K H a xs):∃its:List ah,c7 xs its/\PlainL s.heap a its.toArray/\xs.length<=aB:=by
 rcases h with h|⟨o,its,n,hk,hc,hd,hs,b,r⟩
 .obtain⟨z,its,n,r,e⟩:=h.ok I.hok;exact⟨its,r,⟨_,n,e,rfl,rfl,rfl⟩,z⟩
 .refine⟨its.toList,r,⟨o,n,I.DZ a o hk,hc,hd,by simpa using hs⟩,?_⟩;have e:=r.length
  simp_all
def Inv.tuple(I:Inv X h_ σ H s)(h:tG X.K H a xs):∃its:List ah,c7 xs its/\Ag s.heap a its.toArray/\xs.length<=aB:=by
 rcases h with h|⟨o,its,n,hk,hc,hs,b,r⟩
 .obtain⟨z,its,r,p⟩:=h.ok I.hok;exact⟨its,r,p,z⟩
 .refine⟨its.toList,r,⟨o,I.DZ a o hk,hc,n,by simpa using hs⟩,?_⟩;have e:=r.length
  simp_all
def Inv.nF(I:Inv X h_ σ H s)(h:nM X.K H a xs)(h':nM X.K H a ys):xs=ys:=by
 obtain⟨its,r,⟨o,n,e,_,_,d⟩,_⟩:=I.list h;obtain⟨b,f,⟨o',g,c,_,_,d'⟩,_⟩:=I.list h';rw[e]at c;cases c;rw[d]at d'
 injection d' with d1 _
 have:its=b:=by simp_all
 subst this;exact r.inj f
def Inv.nu(I:Inv X h_ σ H s)(h:tG X.K H a xs)(h':tG X.K H a ys):xs=ys:=by
 obtain⟨its,r,⟨o,e,_,n,d⟩,_⟩:=I.tuple h;obtain⟨b,f,⟨o',c,_,g,d'⟩,_⟩:=I.tuple h';rw[e]at c;cases c;rw[d]at d'
 injection d' with d1 _
 have:its=b:=by simp_all
 subst this;exact r.inj f
end
abbrev Cx.wU(X:Cx)(E:ah->ak->Prop):Cx:={ X with xe:=E }
abbrev Cx.Xf(X:Cx):Cx:=X.wU λ_ _=>False
def Cx.Ok.wU{X:Cx}(ok:X.Ok)(E:ah->ak->Prop):(X.wU E).Ok:=
 ⟨ok.mod,ok.kind,ok.glob,ok.blt,ok.above,ok.inj,ok.has,ok.cab,ok.hd,ok.frames,ok.Nu,ok.exf,ok.bs,ok.bsz,ok.noex,ok.exfs,ok.vV,ok.frf⟩
def Cx.Ok.oZ{X:Cx}(ok:(X.wU E).Ok):X.Ok:=
 ⟨ok.mod,ok.kind,ok.glob,ok.blt,ok.above,ok.inj,ok.has,ok.cab,ok.hd,ok.frames,ok.Nu,ok.exf,ok.bs,ok.bsz,ok.noex,ok.exfs,ok.vV,ok.frf⟩
section
variable{X:Cx}
def Inv.wU(I:Inv X h_ σ H s)(E:ah->ak->Prop):Inv (X.wU E) h_ σ H s:=⟨I.ok.wU E,I.os,I.bare,I.base,I.loc,I.cell,I.free,I.freeC,I.pin,I.hok,I.len⟩
def Inv.oZ(I:Inv (X.wU E) h_ σ H s):Inv X h_ σ H s:=⟨I.ok.oZ,I.os,I.bare,I.base,I.loc,I.cell,I.free,I.freeC,I.pin,I.hok,I.len⟩
theorem SP.oZ{D:Ends}(h:SP (X.wU E) h_ D f s'):SP X h_ D f s':=by
 cases f with
 |next=>obtain⟨a,H',I,q⟩:=h;exact⟨a,H',I.oZ,q⟩
 |brk=>obtain⟨a,H',I,q⟩:=h;exact⟨a,H',I.oZ,q⟩
 |cont=>obtain⟨a,H',I,q⟩:=h;exact⟨a,H',I.oZ,q⟩
 |ret u=>obtain⟨v,a,H',I,r,q⟩:=h;exact⟨v,a,H',I.oZ,r,q⟩
def An.Xf{st:List lz}(h:An X.Xf st t):An X st t:=λh_ s σ H D I a=>
 dE (h h_ s σ H D (I.wU _) a) (λ_ _ q=>q.oZ) λ_ _ z=>i7 z
end
section
variable{st:lz}{rest:List lz}{t u:TS}{te:TE}{pos:xv}
def XM:TS:=λD σ H=>D.nx σ H
def aau(t u:TS):TS:=λD σ H=>t { D with nx:=u D } σ H
def Pb:An X [] XM:=λ_ _ σ H _ I h=>Ap ⟨σ,H,I,h⟩
def KN(h1:PS X st t)(h2:An X rest u):An X (st::rest) (aau t u):=by
 intro h_ s σ H D I h;refine wpAny_execs_cons (iR (h1 h_ s σ H { D with nx:=u D } I h) λf s1 q=>?_)
 cases f with
 |next=>
   obtain⟨a,H',I',q⟩:=q;exact h2 h_ s1 a H' D I' q
 |ret v=>exact q
 |brk=>exact q
 |cont=>exact q
def Inv.quiet(I:Inv X h_ σ H s):interactive X.env=d_:=by simp[interactive,I.ok.kind]
def AK(te:TE):TS:=λD σ H=>te σ H λ_ a=>D.nx σ a
def qZ(he:PE X e te)(hs:swapsWith e b_ pos.line X.env=pure d_):PS X (.Expr e pos) (AK te):=by
 intro h_ s σ H D I h;exact wpAny_Expr_any (iR (he h_ s σ H _ I h) λv s1 ⟨x,a,b,d,c⟩=>⟨σ,a,b,c⟩) I.quiet hs
def aav(te:TE):TS:=λD σ H=>te σ H D.rt
def DG(he:PE X e te):PS X (.Return (a_ e) pos) (aav te):=by
 intro h_ s σ H D I h;exact wpAny_Return_some (iR (he h_ s σ H _ I h) λv s1 ⟨x,a,b,c,d⟩=>⟨x,σ,a,b,c,d⟩)
def aaz(c:TT)(t u:TS):TS:=λD σ H=>c σ H λb a=>if b=c_ then t D σ a else u D σ a
def Yo(hc:PT X c tc)(ha:An X a t)(hb:An X b u):PS X (.If c a b pos) (aaz tc t u):=by
 intro h_ s σ H D I h;refine wpAny_If (iR (hc h_ s σ H _ I h) λd s1 ⟨e,f,g⟩=>?_)
 cases d with
 |true=>exact ha h_ s1 σ e D f g
 |false=>exact hb h_ s1 σ e D f g
end
abbrev TG:=V->St->Hp->(St->Hp->Prop)->Prop
abbrev SH:=List V->St->Hp->(St->Hp->Prop)->Prop
def PG(X:Cx)(target:a8)(t:TG):Prop:=
 ∀(h_:List (aI×lA))(s:ak)(σ:St)(H:Hp)(v:V)(u:ah)(Q:St->Hp->Prop),Inv X h_ σ H s->RelV v u->t v σ H Q->
  aF (aG X.prog X.w) X.A (assign target X.env u) (λ_ s'=>∃a H',Inv X h_ a H' s'/\Q a H') X.xe s
def Xt(X:Cx)(B:List a8)(t:SH):Prop:=
 ∀(h_:List (aI×lA))(s:ak)(σ:St)(H:Hp)(vs:List V)(us:List ah)(Q:St->Hp->Prop),Inv X h_ σ H s->c7 vs us->t vs σ H Q->
  aF (aG X.prog X.w) X.A (assignInOrder ((assignEach B X.env).map (·.2)) us) (λ_ s'=>∃a H',Inv X h_ a H' s'/\Q a H') X.xe s
abbrev ZP:=V->V->V->Hp->(Hp->Prop)->Prop
def WX(X:Cx)(t:ZP):Prop:=
 ∀(h_:List (aI×lA))(s:ak)(σ:St)(H:Hp)(o i v:V)(a b u:ah)(Q:Hp->Prop),Inv X h_ σ H s->RelV o a->RelV i b->RelV v u->t o i v H Q->
  aF (aG X.prog X.w) X.A (setItem a b u) (λ_ s'=>∃H',Inv X h_ σ H' s'/\Q H') X.xe s
section
variable{X:Cx}{pos:xv}
def lp(i:Nat):TG:=λv σ H Q=>Q (σ.set i (a_ v)) H
def FP(B:X.N.Nodup)(hi:X.N[i]?=a_ x)(O:Loc X.env.scope x)(hf:X.fn x=c_\/X.env.scope.names.lookup x=a_ .local):PG X (.Name x pos) (lp i):=by
 intro h_ s σ H v u Q I r h;exact wpAny_assign_Name (u7 I B hi O r (λs' I'=>⟨_,H,I',h⟩) hf)
def IS:SH:=λvs σ H Q=>vs=[]/\Q σ H
def yr(t:TG)(u:SH):SH:=λvs σ H Q=>∃v r,vs=v::r/\t v σ H λa H'=>u r a H' Q
def FO:Xt X [] IS:=by
 intro h_ s σ H vs us Q I r h;obtain⟨e,h⟩:=h;subst e;cases r;exact assignInOrder_nil ⟨σ,H,I,h⟩
def Bh(h1:PG X e t)(h2:Xt X es u)
  (hs:(assignEach (e::es) X.env).map (·.2)=assign e X.env::(assignEach es X.env).map (·.2):=by rfl):Xt X (e::es) (yr t u):=by
 intro h_ s σ H vs us Q I r h;obtain⟨v,g,e1,h⟩:=h;subst e1
 cases r with
 |cons r b=>
   rw[hs];exact assignInOrder_cons (iR (h1 h_ s σ H _ _ _ I r h) λ_ s1 ⟨a,c,d,f⟩=>h2 h_ s1 a c _ _ Q d b f)
def Mj(K:aN)(n:Nat)(t:SH):TG:=λv σ H Q=>∃a xs,v=.ref a/\tG K H a xs/\xs.length=n/\t xs σ H Q
def KZ(hc:X.calm=c_)(h:Xt X es t)
  (O:(assignEach es X.env).length=n)(B:(assignEach es X.env).findIdx? (·.1)=b_):PG X (.Tuple es k pos) (Mj X.K n t):=by
 intro h_ s σ H v u Q I r c;refine ac λ_ i=>?_;obtain⟨a,xs,e1,f,hl,c⟩:=c;subst e1;cases r;obtain⟨its,d,ht,j⟩:=I.tuple f;refine i ?_;refine assign_Tuple_tuple (I.ok.hd hc) ht (by simp[O,<-hl,d.length]) B λh' g=>?_;exact h h_ _ σ H xs _ Q (I.kept λb o e=>g b o (bw (hl9 e)) e) (by simpa using d) c
def V9(to B:TE)(t:ZP):TG:=λv σ H Q=>to σ H λo a=>B σ a λi H2=>t o i v H2 λb=>Q σ b
def K1(ho:PE X o to)(hi:PE X i ti)(hs:WX X t)
  (ha:∀v,assign (.Subscript o i pos) X.env v=(do
   let B <-holding [v] (eval o X.env);let O <-holding [v,B] (eval i X.env)
   standAt pos
   holding [v,B,O] (setItem B O v)
   release [v,B,O] []):=by intro _;rfl):PG X (.Subscript o i pos) (V9 to ti t):=by
 intro h_ s σ H v u Q I r h;rw[ha];refine wb9 (ck (iR (ho h_ s σ H _ I h) λB s1 ⟨x,a,b,c,d⟩=>?_));refine wb9 (ck (iR (hi h_ s1 σ a _ b d) λO s2 ⟨y,H2,e,f,g⟩=>?_));exact wb9 (Hg (wb9 (ck (iR (hs h_ s2 σ H2 x y v B O u _ e c f r g) λ_ s3 ⟨j,k,l⟩=>wpAny_release ⟨σ,j,k,l⟩))))
def HG(te:TE)(g:TG):TS:=λD σ H=>te σ H λx a=>g x σ a D.nx
def DH(he:PE X e te)(B:PG X tg g)(hs:swapsWithSole [tg] e pos.line X.env=pure d_)(O:swappedStores [tg] e X.env=pure b_)
  (h1:(assignEach [tg] X.env).map (·.2)=[assign tg X.env]):PS X (.Assign [tg] e pos) (HG te g):=by
 intro h_ s σ H D I h;refine wpAny_Assign_stores (iR (he h_ s σ H _ I h) λv s1 ⟨x,a,b,c,d⟩=>?_) hs O;rw[h1];exact iR (B h_ s1 σ a x v _ b c d) λ_ s2 q=>q
def UI(B:X.N.Nodup)(hi:X.N[i]?=a_ x)(O:Loc X.env.scope x)(he:PE X e te)(hs:swapsWith e (a_ (.Name x pos')) pos.line X.env=pure d_)(hf:X.fn x=c_\/X.env.scope.names.lookup x=a_ .local) :
  PS X (.Assign [.Name x pos'] e pos) (HG te (lp i)):=by
 intro h_ s σ H D I h;exact wpAny_Assign_Name (iR (he h_ s σ H _ I h) λv s1 ⟨y,a,b,c,d⟩=>u7 b B hi O c (λs2 f=>⟨_,a,f,d⟩) hf) hs
end
section
variable{X:Cx}
def SY(c:TT)(tb:TS):TS:=λD σ H=>∃W:Nat->St->Hp->Prop,(∃m,W m σ H)/\∀m σ H,W m σ H->
 c σ H λb d=>if b=c_ then ∃N:St->Hp->Prop,(∀a H',N a H'->∃e,e<m/\W e a H')/\tb { D with nx:=N,ct:=N,bk:=D.nx } σ d else D.nx σ d
def KO{tb:TS}(hp:tH (aG X.prog X.w) X.A X.env X.xe)(hc:PT X c tc)(hb:An X body tb):PS X (.While c body [] pos) (SY tc tb):=by
 intro h_ s σ H D I h;obtain⟨W,⟨m0,u⟩,turn⟩:=h;refine wpAny_While (codeAny_whileLoop (λn s'=>∃e H',Inv X h_ e H' s'/\W n e H') ?_ m0 ⟨σ,H,I,u⟩);rintro n s1 ⟨d,q,x,y⟩;refine i5 hp (iR (hc h_ s1 d q _ x (turn n d q y)) λb s2 ⟨H2,r,i⟩=>?_)
 cases b with
 |true=>
   obtain⟨N,t,i⟩:=i;refine i5 hp (iR (hb h_ s2 d H2 _ r i) λf s3 j=>?_)
   cases f with
   |next=>
     obtain⟨a,g,k,l⟩:=j;obtain⟨m,o,p⟩:=t a g l;exact⟨m,o,a,g,k,p⟩
   |cont=>
     obtain⟨a,g,k,l⟩:=j;obtain⟨m,o,p⟩:=t a g l;exact⟨m,o,a,g,k,p⟩
   |brk=>exact j
   |ret v=>exact j
 |false=>
   exact Ap ⟨d,H2,r,i⟩
end
structure It where
 go:Nat->Hp->Prop
 yld:Nat->Hp->V->Hp->Prop
 stop:Nat->Hp->Prop
def rR(X:Cx)(h_:List (aI×lA))(H:Hp)(b:aI):Prop:=
 H b=b_/\b≠X.env.locals/\b∉X.fs/\(b∈X.ex\/X.s₀.heap.objs.size<=b)/\(∀x c,X.env.cells.lookup x=a_ c->c≠b)/\∀p∈X.pn++h_,p.1≠b
def Inv.xm(I:Inv X h_ σ H s)(hb:s.heap.objs.size<=b)(B:H' b=b_):rR X h_ H' b:=by
 refine⟨B,kr (bc I.lt hb),I.YB hb,.inr (aa I.sz hb),λx c e z=>?_,λp hp z=>?_⟩
 .obtain⟨v,q⟩:=I.cell x c e;exact absurd (bc q.lt (by rw[z];exact hb)) (bI _)
 .exact absurd (bc (hl9 (I.pin p hp).1) (by rw[z];exact hb)) (bI _)
structure Turn(P:cJ)(w:du)(K:aN)(tg:a8)(J:It)(fp:List aI)(it:aI)(tn:Nat->cM->Prop):Prop where
 mem:it∈fp
 obj:∀i h,tn i h->∀b∈fp,∃o,h.get? b=a_ o/\∀v,o.data≠.cell v
 keep:∀i h h',tn i h->(∀b∈fp,∀o,h.get? b=a_ o->h'.get? b=a_ o)->tn i h'
 item:∀(X:Cx),X.prog=P->X.w=w->X.K=K->X.calm=c_->∀(i:Nat)(h_:List (aI×lA))(s:ak)(σ:St)(H:Hp)(E:ah->ak->Prop),Inv X h_ σ H s->(∀b∈fp,rR X h_ H b)->tn i s.heap->J.go i H->
  aF (aG P w) X.A (pyNext (.ref it)) (λr s1=>∃u,r=a_ u/\
   aF (aG P w) X.A (letOwnedTupleGo tg (.ref it) u) (λ_ s2=>∃x H',Inv X h_ σ H' s2/\RelV x u/\J.yld i H x H'/\tn (i+1) s2.heap/\∀b∈fp,H' b=b_) E s1) E s
 done:∀(X:Cx),X.prog=P->X.w=w->X.K=K->X.calm=c_->∀(i:Nat)(h_:List (aI×lA))(s:ak)(σ:St)(H:Hp)(E:ah->ak->Prop),Inv X h_ σ H s->(∀b∈fp,rR X h_ H b)->tn i s.heap->J.stop i H->
  aF (aG P w) X.A (pyNext (.ref it)) (λr s1=>r=b_/\Inv X h_ σ H s1) E s
 self:∀(A:bX)(i:Nat)(s:ak)(Q:ah->ak->Prop)(E:ah->ak->Prop),tn i s.heap->Q (.ref it) s->aF (aG P w) A (JF (.ref it)) Q E s
abbrev TI:=St->Hp->(It->Hp->Prop)->Prop
def PIE(X:Cx)(h_:List (aI×lA))(σ:St)(tg:a8)(R:It->Hp->Prop)(itv:ah)(s2:ak):Prop:=
 ∃(it:aI) (fp:List aI) (tn:Nat->cM->Prop) (J:It) (H':Hp),itv=.ref it/\Inv X h_ σ H' s2/\Turn X.prog X.w X.K tg J fp it tn/\tn 0 s2.heap/\(∀b∈fp,rR X h_ H' b)/\R J H'
def PI(X:Cx)(tg iter:a8)(wi:TI):Prop:=
 ∀(h_:List (aI×lA))(s:ak)(σ:St)(H:Hp)(R:It->Hp->Prop),Inv X h_ σ H s->wi σ H R->
  aF (aG X.prog X.w) X.A (eval iter X.env) (λv s1=>aF (aG X.prog X.w) X.A (JF v) (PIE X h_ σ tg R) X.xe s1) X.xe s
def vR{s:ak}(ho:s.heap.get? it=a_ o)(hc:o.cls=.type n)(hd:o.data=.fields vs)
  (O:["enumerate","zip","dict_itemiterator","dict_reverseitemiterator","odict_iterator","itertools.zip_longest","itertools.pairwise"].contains n=d_)(B:Q () s):aF M A (letOwnedTupleGo tg (.ref it) u) Q E s:=by
 cases tg<;>first
  |exact wu9 B
  | (cases u<;>first
    |exact wu9 B
    | (refine wb9 (wpAny_load ho ?_)
       rw[hc,hd];show aF M A (if(["enumerate","zip","dict_itemiterator","dict_reverseitemiterator","odict_iterator","itertools.zip_longest","itertools.pairwise"].contains n && vs[0]? == a_ (rawInt _))=c_ then _ else _) Q E s;rw[if_neg (by grind)]
       exact wu9 B))
def Itl(K:aN)(a:aI):It:=
 ⟨λi H=>∃xs x,nM K H a xs/\xs[i]?=a_ x,λi H x H'=>H'=H/\∀xs,nM K H a xs->xs[i]?=a_ x,λi H=>∃xs,nM K H a xs/\xs.length<=i⟩
def Itt(K:aN)(a:aI):It:=
 ⟨λi H=>∃xs x,tG K H a xs/\xs[i]?=a_ x,λi H x H'=>H'=H/\∀xs,tG K H a xs->xs[i]?=a_ x,λi H=>∃xs,tG K H a xs/\xs.length<=i⟩
def Itr(lo:Int)(n:Nat):It:=⟨λi _=>i<n,λi H x H'=>H'=H/\x=.int (lo+i),λi _=>n<=i⟩
def HB{K:aN}(a it:aI):Turn P w K tg (Itl K a) [it] it (λi h=>h.IsListIter it a i) where
 mem:=by simp
 obj:=λi h st b hb=>by
  have e:b=it:=by simpa using hb
  subst e;obtain⟨o,e,c,d⟩:=st;exact⟨o,e,λv z=>by rw[d]at z;cases z⟩
 keep:=λi h h' st k=>st.at λo e=>k it (by simp) o e
 item:=by
  intro X l m n hc i h_ s σ H E I hf st q;subst l m n;obtain⟨xs,x,g,j⟩:=q;obtain⟨its,r,p,D⟩:=I.list g;obtain⟨u,F,G⟩:=r.get j;obtain⟨t,y,J,A,B,C⟩:=hf it (by simp);refine wpAny_pyNext_list_item st p.isList (x:=u) (by simpa using F) λh' f L=>?_;have M:Inv X h_ σ H { s with heap:=h' }:=I.turned (t':=s.toks) (λb o hb e=>(L.2 b hb).trans e) t y A B C;obtain⟨o,e,c,d⟩:=id f;exact⟨u,rfl,vR (s:={ s with heap:=h' }) e c d br ⟨x,H,M,G,⟨rfl,λys N=>by rw[I.nF N g];exact j⟩,f,λb hb=>(hf b hb).1⟩⟩
 done:=by
  intro X l m n hc i h_ s σ H E I hf st q;subst l m n;obtain⟨xs,g,j⟩:=q;obtain⟨its,r,p,D⟩:=I.list g;obtain⟨t,y,J,A,B,C⟩:=hf it (by simp);have hl:=r.length;exact wpAny_pyNext_list_end (I.ok.hd hc) st p.isList (by simp;exact aa (ae hl.symm) j) λh' O=>⟨rfl,I.turned (t':=s.toks) (λb o hb e=>O b o hb e) t y A B C⟩
 self:=λ_ _ _ _ _ st h=>wpAny_pyIter_listiter st h
def Dh{K:aN}(a it:aI):Turn P w K tg (Itt K a) [it] it (λi h=>h.IsTupleIter it a i) where
 mem:=by simp
 obj:=λi h st b hb=>by
  have e:b=it:=by simpa using hb
  subst e;obtain⟨o,e,c,d⟩:=st;exact⟨o,e,λv z=>by rw[d]at z;cases z⟩
 keep:=λi h h' st k=>st.at λo e=>k it (by simp) o e
 item:=by
  intro X l m n hc i h_ s σ H E I hf st q;subst l m n;obtain⟨xs,x,g,j⟩:=q;obtain⟨its,r,p,D⟩:=I.tuple g;obtain⟨u,F,G⟩:=r.get j;obtain⟨t,y,J,A,B,C⟩:=hf it (by simp);refine wpAny_pyNext_tuple_item st (show s.heap.IsTuple a its.toArray from p) (x:=u) (by simpa using F) λh' f L=>?_;have M:Inv X h_ σ H { s with heap:=h' }:=I.turned (t':=s.toks) (λb o hb e=>(L.2 b hb).trans e) t y A B C;obtain⟨o,e,c,d⟩:=id f;exact⟨u,rfl,vR (s:={ s with heap:=h' }) e c d br ⟨x,H,M,G,⟨rfl,λys N=>by rw[I.nu N g];exact j⟩,f,λb hb=>(hf b hb).1⟩⟩
 done:=by
  intro X l m n hc i h_ s σ H E I hf st q;subst l m n;obtain⟨xs,g,j⟩:=q;obtain⟨its,r,p,D⟩:=I.tuple g;obtain⟨t,y,J,A,B,C⟩:=hf it (by simp);have hl:=r.length;exact wpAny_pyNext_tuple_end (I.ok.hd hc) st (show s.heap.IsTuple a its.toArray from p) (by simp;exact aa (ae hl.symm) j) λh' O=>⟨rfl,I.turned (t':=s.toks) (λb o hb e=>O b o hb e) t y A B C⟩
 self:=λ_ _ _ _ _ st h=>wpAny_pyIter_tupleiter st h
def Di{K:aN}(it:aI)(lo:Int)(n:Nat):Turn P w K tg (Itr lo n) [it] it (λi h=>IsRangeIter h it (lo+(i:Nat) * 1) ((n:Int) - (i:Nat)) 1) where
 mem:=by simp
 obj:=λi h st b hb=>by
  have e:b=it:=by simpa using hb
  subst e
  exact⟨_,st,λv z=>by
   have u:Data.fields _=Data.cell v:=z
   cases u⟩
 keep:=λi h h' st k=>k it (by simp) _ st
 item:=by
  intro X c d f hc i h_ s σ H E I hf st g;subst c d f;obtain⟨j,l,x,m,p,q⟩:=hf it (by simp);have W:=Walks.range (prog:=X.prog) (w:=X.w) (I.ok.hd hc) it lo 1 n;refine W.item i s _ _ g st λv h' r y a kk=>?_;obtain⟨t,rfl⟩:=y;have A:Inv X h_ σ H { s with heap:=h',toks:=r }:=I.turned (λb o hb e=>kk b o (by simpa using hb) e) j l m p q;refine⟨_,rfl,vR (s:={ s with heap:=h',toks:=r }) (n:="range_iterator") a rfl rfl br ⟨.int (lo+i),H,A,⟨t,?_⟩,⟨rfl,rfl⟩,a,λb hb=>(hf b hb).1⟩⟩;rw[Int.mul_one]
 done:=by
  intro X c d f hc i h_ s σ H E I hf st g;subst c d f;obtain⟨j,l,x,m,p,q⟩:=hf it (by simp);exact JC (I.ok.hd hc) st (by have:n<=i:=g;omega) λh' B=>⟨rfl,I.turned (t':=s.toks) (λb o hb e=>B b o hb e) j l m p q⟩
 self:=λ_ _ _ _ _ st h=>JD st h
section
variable{X:Cx}
def Zb(K:aN)(tl:TE):TI:=λσ H R=>tl σ H λx b=>∃a,x=.ref a/\(∃xs,nM K b a xs)/\R (Itl K a) b
def abp(K:aN)(tl:TE):TI:=λσ H R=>tl σ H λx b=>∃a,x=.ref a/\(∃xs,tG K b a xs)/\R (Itt K a) b
def FN(hl:PE X l tl):PI X tg l (Zb X.K tl):=by
 intro h_ s σ H R I h;refine iR (hl h_ s σ H _ I h) λv s1 ⟨x,d,c,f,g⟩=>?_;refine ac λ_ m=>?_;obtain⟨a,e,⟨xs,i⟩,q⟩:=g;subst e;cases f;obtain⟨its,j,p,k⟩:=c.list i;refine m ?_;refine wK p.isList ?_;refine⟨s1.heap.objs.size,[s1.heap.objs.size],_,_,d,rfl,c.kept λb o e=>hp9 _ e,HB a _,⟨_,aK _ rfl,rfl,rfl⟩,λb hb=>?_,q⟩;have e:b=s1.heap.objs.size:=by simpa using hb
 subst e;exact c.xm (ao _) (c.hok.fresh (ao _))
def KW(hl:PE X l tl):PI X tg l (abp X.K tl):=by
 intro h_ s σ H R I h;refine iR (hl h_ s σ H _ I h) λv s1 ⟨x,d,c,f,g⟩=>?_;refine ac λ_ m=>?_;obtain⟨a,e,⟨xs,i⟩,q⟩:=g;subst e;cases f;obtain⟨its,j,p,k⟩:=c.tuple i;refine m ?_;refine wpAny_pyIter_tuple (p) ?_;refine⟨s1.heap.objs.size,[s1.heap.objs.size],_,_,d,rfl,c.kept λb o e=>hp9 _ e,Dh a _,⟨_,aK _ rfl,rfl,rfl⟩,λb hb=>?_,q⟩;have e:b=s1.heap.objs.size:=by simpa using hb
 subst e;exact c.xm (ao _) (c.hok.fresh (ao _))
def KG{lo:Int}(I:Inv X h_ σ H s)(h1:-(2 ^ 62)<=lo)(h2:lo<2 ^ 62)(h3:-(2 ^ 62)<=hi)(B:hi<2 ^ 62)
  (q:R (Itr lo (hi - lo).toNat) H):aF (aG X.prog X.w) X.A (JF (.ref s.heap.objs.size)) (PIE X h_ σ tg R) E { s with heap:=s.heap.push { cls:=.type "range",data:=.fields #[.int lo t,.int hi u,.int 1 v] },toks:=tk }:=by
 refine wpAny_pyIter_range (Rh ..) (small_one h1 h2 h3 B) ?_;have a:Inv X h_ σ H { s with heap:=s.heap.push { cls:=.type "range",data:=.fields #[.int lo t,.int hi u,.int 1 v] },toks:=tk }:=I.kept λb o e=>hp9 _ e
 refine⟨(s.heap.push { cls:=.type "range",data:=.fields #[.int lo t,.int hi u,.int 1 v] }).objs.size,[(s.heap.push { cls:=.type "range",data:=.fields #[.int lo t,.int hi u,.int 1 v] }).objs.size],_,_,H,rfl,
  a.kept λb o e=>hp9 _ e,Di _ lo (hi - lo).toNat,?_,λb hb=>?_,q⟩
 .have e1:lo+((0:Nat)) * 1=lo:=by simp
  have e2:(((hi - lo).toNat)) - ((0:Nat))=je lo hi 1:=by rw[rangeSize_one];split<;>omega
  rw[e1,e2];exact aK _ rfl
 .have e:b=(s.heap.push { cls:=.type "range",data:=.fields #[.int lo t,.int hi u,.int 1 v] }).objs.size:=by simpa using hb
  subst e;exact a.xm (ao _) (a.hok.fresh (ao _))
def Y9(B:TA):TI:=λσ H R=>B σ H λvs a=>∃j:Int,vs=[.int j]/\-(2 ^ 62)<=j/\j<2 ^ 62/\R (Itr 0 j.toNat) a
def Ip(B:Gl X "range")(O:X.mg "range"=b_)(ha:PA X [a] ta)(hs:aQ [a] X.env=[(d_,eval a X.env)]):PI X tg (.Call (.Name "range" p) [a] [] pos) (Y9 ta):=by
 intro h_ s σ H R I h;refine Call_ (lW I B O boot_range (dz (iR (ha pos h_ s σ H _ I h) λus s1 ⟨vs,i,c,d,b⟩=>?_) hs rfl));obtain⟨j,e,b,f,q⟩:=b;subst e
 cases d with
 |cons r g=>
   cases g;obtain⟨t,rfl⟩:=r;exact call_range_1 (KG c (by simp) (by simp) b f (by simpa using q))
def aaA(wi:TI)(g:TG)(tb:TS):TS:=λD σ H=>wi σ H λJ c=>∃W:Nat->Nat->St->Hp->Prop,(∃m,W 0 m σ c)/\∀i m σ H,W i m σ H->
 (J.stop i H/\D.nx σ H)\/(J.go i H/\∃N:St->Hp->Prop,(∀a H',N a H'->∃b,b<m/\W (i+1) b a H')/\∀x H',J.yld i H x H'->g x σ H' λσ2 H2=>tb { D with nx:=N,ct:=N,bk:=D.nx } σ2 H2)
def mU(fp:List aI)(h:cM):List (aI×lA):=fp.filterMap λb=>(h.get? b).map λo=>(b,o)
def n9{h:cM}(hb:b∈fp)(e:h.get? b=a_ o):(b,o)∈mU fp h:=fS.mpr ⟨b,hb,by rw[e];rfl⟩
def x6(hp:p∈mU fp h):p.1∈fp/\h.get? p.1=a_ p.2:=by
 obtain⟨b,hb,e⟩:=fS.mp hp
 cases q:h.get? b with
 |none=>rw[q]at e;cases e
 |some o=>
   rw[q]at e;have a :=bG e;subst a;exact⟨hb,q⟩
def Inv.pinned(I:Inv X h_ σ H s)(hf:∀b∈fp,rR X h_ H b)(ho:∀b∈fp,∃o,s.heap.get? b=a_ o/\∀v,o.data≠.cell v):Inv X (h_++mU fp s.heap) σ H s:=
 I.rf λp hp=>(ax.mp hp).elim (λz=>I.pin p (ai _ z)) λz=>by
  refine ac λ_ h=>?_;obtain⟨hb,e⟩:=x6 z;obtain⟨a,c,f,_⟩:=hf p.1 hb;obtain⟨o,g,d⟩:=ho p.1 hb
  refine h ?_;simp_all
def Inv.nr(I:Inv X (h_++pl) σ H s):Inv X h_ σ H s:=I.rf λp hp=>I.pin p (ai _ (az _ hp))
def KP{iter:a8}{tb:TS}(hp:tH (aG X.prog X.w) X.A X.env X.xe)(hc:X.calm=c_)(hi:PI X tg iter wi)(Y:PG X tg g)(hb:An X body tb)
  (hs:∀x,foldedSetIterable iter X.env x=pure x):PS X (.For tg iter body [] pos) (aaA wi g tb):=by
 intro h_ s σ H D I h;refine wpAny_For (iR (hi h_ s σ H _ I h) λv s1 h1=>iR h1 λitv s2 h2=>?_) hs;refine ac λ_ K=>?_;obtain⟨it,fp,tn,J,H2,e,S,T,E,O,W,⟨m0,U⟩,turn⟩:=h2;subst e;refine K ?_;have c:∀{H':Hp},(∀b∈fp,H' b=b_)->∀b∈fp,rR X h_ H' b:=λV b hb=>⟨V b hb,(O b hb).2⟩
 refine codeAny_forLoop_any (λn s'=>∃i j H',Inv X h_ j H' s'/\tn i s'.heap/\(∀b∈fp,H' b=b_)/\W i n j H') ?_ m0 ⟨0,σ,H2,S,E,λb hb=>(O b hb).1,U⟩;rintro n s3 ⟨i,k,C,P,y,z,Z⟩
 rcases turn i n k C Z with⟨stop,qn⟩|⟨go,N,hN,step⟩
 .refine i5 hp (iR (T.done X rfl rfl rfl hc i h_ s3 k C X.xe P (c z) y stop) λr s4 ⟨F,I4⟩=>?_);subst F;exact Ap ⟨k,C,I4,qn⟩
 .refine i5 hp (iR (T.item X rfl rfl rfl hc i h_ s3 k C X.xe P (c z) y go) λr s4 ⟨u,F,h4⟩=>?_);subst F;refine i5 hp (iR h4 λ_ Q ⟨x,R,I5,r5,y5,t,G⟩=>?_);refine i5 hp (iR (Y _ Q k R x u _ (I5.pinned (c G) (T.obj _ _ t)) r5 (step x R y5)) λ_ s6 ⟨L,H6,I6,q6⟩=>?_);refine i5 hp (iR (hb _ s6 L H6 _ I6 q6) λf M q=>?_)
  have again:∀{a:St}{l:Hp},Inv X (h_++mU fp Q.heap) a l M->N a l->∃m,m<n/\∃i j H',Inv X h_ j H' M/\tn i M.heap/\(∀b∈fp,H' b=b_)/\W i m j H':=λ{a l}p B=>by
   obtain⟨m',hm,w7⟩:=hN a l B;refine⟨m',hm,i+1,a,l,p.nr,T.keep _ _ _ t λb hb o e=>(p.pin (b,o) (ai _ (ai _ (n9 hb e)))).1,λb hb=>?_,w7⟩;obtain⟨o,e,d⟩:=T.obj _ _ t b hb;exact(p.pin (b,o) (ai _ (ai _ (n9 hb e)))).2.1
  cases f with
  |next=>obtain⟨a,l,p,B⟩:=q;exact again p B
  |cont=>obtain⟨a,l,p,B⟩:=q;exact again p B
  |brk=>obtain⟨a,l,p,q⟩:=q;exact⟨a,l,p.nr,q⟩
  |ret v=>refine ac λ_ K=>?_;obtain⟨x7,a,l,p,r7,q⟩:=q;refine K ?_;exact⟨x7,a,l,p.nr,r7,q⟩
end
abbrev R2:=V->V->Hp->VK->Prop
def j2(X:Cx)(f:ah->ah->Av ah)(r:R2):Prop:=
 ∀(h_:List (aI×lA))(s:ak)(σ:St)(H:Hp)(x y:V)(v u:ah)(Q:VK),Inv X h_ σ H s->RelV x v->RelV y u->r x y H Q->
  aF (aG X.prog X.w) X.A (f v u) (EP X h_ σ Q) X.xe s
def UnR(X:Cx)(f:ah->Av ah)(r:V->Hp->VK->Prop):Prop:=
 ∀(h_:List (aI×lA))(s:ak)(σ:St)(H:Hp)(x:V)(v:ah)(Q:VK),Inv X h_ σ H s->RelV x v->r x H Q->
  aF (aG X.prog X.w) X.A (f v) (EP X h_ σ Q) X.xe s
def kj(X:Cx)(f:ah)(r:List V->Hp->VK->Prop):Prop:=
 ∀(h_:List (aI×lA))(s:ak)(σ:St)(H:Hp)(xs:List V)(us:List ah)(Q:VK),Inv X h_ σ H s->c7 xs us->r xs H Q->
  aF (aG X.prog X.w) X.A (call f us) (EP X h_ σ Q) X.xe s
def abK(X:Cx)(r:V->Hp->(Bool->Hp->Prop)->Prop):Prop:=
 ∀(h_:List (aI×lA))(s:ak)(σ:St)(H:Hp)(x:V)(v:ah)(Q:Bool->Hp->Prop),Inv X h_ σ H s->RelV x v->r x H Q->
  aF (aG X.prog X.w) X.A (truthy v) (TP X h_ σ Q) X.xe s
def RB(r:R2)(B tb:TE):TE:=λσ H Q=>B σ H λx a=>tb σ a λy H2=>r x y H2 Q
def tUn(r:V->Hp->VK->Prop)(B:TE):TE:=λσ H Q=>B σ H λx a=>r x a Q
def rI(C:Int->Int->Prop)(g:Int->Int->V):R2:=λx y H Q=>∃i j,x=.int i/\y=.int j/\C i j/\Q (g i j) H
def O4(g:Int->Int->V):R2:=λx y H Q=>∃i j,x=.int i/\y=.int j/\Q (g i j) H
def rU(g:Int->V):V->Hp->VK->Prop:=λx H Q=>∃i,x=.int i/\Q (g i) H
section
variable{X:Cx}{tb:TE}
def WM(ha:PE X a ta)(hb:PE X b tb){h_:List (aI×lA)}{s:ak}{σ:St}{H:Hp}{R:V->V->Hp->Prop}(I:Inv X h_ σ H s)
  (h:ta σ H λx O=>tb σ O λy H2=>R x y H2){Q:ah->ak->Prop}{f:ah->ah->Av ah}
  (hf:∀v u s2 x y H2,Inv X h_ σ H2 s2->RelV x v->RelV y u->R x y H2->aF (aG X.prog X.w) X.A (f v u) Q X.xe s2) :
  aF (aG X.prog X.w) X.A (eval a X.env) (λv s₁=>aF (aG X.prog X.w) X.A (eval b X.env) (λu B=>aF (aG X.prog X.w) X.A (f v u) Q X.xe B) X.xe s₁) X.xe s:=by
 refine iR (ha h_ s σ H _ I h) λv s1 ⟨x,O,c,d,e⟩=>?_;exact iR (hb h_ s1 σ O _ c e) λu s2 ⟨y,H2,g,i,j⟩=>hf v u s2 x y H2 g d i j
def RL(ho:j2 X (binaryOp op) r)(ha:PE X a ta)(hb:PE X b tb):PE X (.BinOp a op b pos) (RB r ta tb):=by
 intro h_ s σ H Q I h;exact wpAny_BinOp (WM ha hb I h λv u s2 x y H2 c d e q=>ho h_ s2 σ H2 x y v u Q c d e q)
def Ys(ho:UnR X (unaryOp op) r)(ha:PE X a ta):PE X (.UnaryOp op a pos) (tUn r ta):=by
 intro h_ s σ H Q I h;exact UnaryOp_ (iR (ha h_ s σ H _ I h) λv s1 ⟨x,b,c,d,e⟩=>ho h_ s1 σ b x v Q c d e)
def Z4{f:ah->ah->Av ah}{C:Int->Int->Prop}{g:Int->Int->Int}
  (rule:∀(i j:Int)(t u:ES)(s:ak)(Q:ah->ak->Prop)(E:ah->ak->Prop),C i j->Q (.int (g i j) s.toks) { s with toks:=s.toks+1 }->aF (aG X.prog X.w) X.A (f (.int i t) (.int j u)) Q E s) :
  j2 X f (rI C λi j=>.int (g i j)):=by
 intro h_ s σ H x y v u Q I a b h;obtain⟨i,j,rfl,rfl,hc,q⟩:=h;obtain⟨t,rfl⟩:=a;obtain⟨t',rfl⟩:=b;exact rule i j t t' s _ _ hc ⟨.int (g i j),H,I.tok _,⟨_,rfl⟩,q⟩
def Va{f:ah->ah->Av ah}{g:Int->Int->Int}
  (rule:∀(i j:Int)(t u:ES)(s:ak)(Q:ah->ak->Prop)(E:ah->ak->Prop),Q (.int (g i j) s.toks) { s with toks:=s.toks+1 }->aF (aG X.prog X.w) X.A (f (.int i t) (.int j u)) Q E s) :
  j2 X f (O4 λi j=>.int (g i j)):=by
 intro h_ s σ H x y v u Q I a b h;obtain⟨i,j,rfl,rfl,q⟩:=h;obtain⟨t,rfl⟩:=a;obtain⟨t',rfl⟩:=b;exact rule i j t t' s _ _ ⟨.int (g i j),H,I.tok _,⟨_,rfl⟩,q⟩
def Yy{f:ah->ah->Av ah}{g:Int->Int->Bool}
  (rule:∀(i j:Int)(t u:ES)(s:ak)(Q:ah->ak->Prop)(E:ah->ak->Prop),Q (.bool (g i j)) s->aF (aG X.prog X.w) X.A (f (.int i t) (.int j u)) Q E s) :
  j2 X f (O4 λi j=>.bl (g i j)):=by
 intro h_ s σ H x y v u Q I a b h;obtain⟨i,j,rfl,rfl,q⟩:=h;obtain⟨t,rfl⟩:=a;obtain⟨t',rfl⟩:=b;exact rule i j t t' s _ _ ⟨.bl (g i j),H,I,rfl,q⟩
def Rb(i j:Int):Prop:=0<j/\j<1073741824
def Ra(i j:Int):Prop:=0<=j/\j<=1000000/\i.natAbs<2 ^ 64
def Jm(i j:Int):Prop:=(-(2 ^ 64)<i/\i<2 ^ 64)\/(-(2 ^ 64)<j/\j<2 ^ 64)
def Jm.ok(h:Jm i j):IntMulOk i j:=by
 rcases h with⟨h1,h2⟩|⟨h1,h2⟩
 .exact .of_left (intBits_le_64 h1 h2)
 .exact .of_right (intBits_le_64 h1 h2)
def Dg(k:Nat):(0:Int)<=2 ^ k:=by
 exact Int.natCast_nonneg _
def U9:j2 X (binaryOp .Add) (O4 λi j=>.int (i+j)):=Va λ_ _ _ _ _ _ _ q=>add_int q
def UX:j2 X (binaryOp .Sub) (O4 λi j=>.int (i - j)):=Va λ_ _ _ _ _ _ _ q=>sub_int q
def U0:j2 X (binaryOp .Mult) (rI Jm λi j=>.int (i * j)):=Z4 λ_ _ _ _ _ _ _ hc q=>mul_int q hc.ok
def Px:j2 X (binaryOp .FloorDiv) (rI Rb λi j=>.int (i / j)):=Z4 λi j _ _ _ _ _ hc q=>by
 have h1 :=hc.1;have h2 :=hc.2;exact floordiv_int (Dc h1) (by rw[yY i (ue h1)];exact q) (.inl (yW (by omega)))
def U1:j2 X (binaryOp .Mod) (rI (λ_ j=>0<j) λi j=>.int (i % j)):=Z4 λi j _ _ _ _ _ hc q=>by
 have h1 :=hc;exact mod_int' (Dc h1) (by rw[Int.fmod_eq_emod_of_nonneg i (ue h1)];exact q)
def UY:j2 X (binaryOp .RShift) (rI (λ_ j=>0<=j) λi j=>.int (i / 2 ^ j.toNat)):=Z4 λi j _ _ _ _ _ hc q=>
 rshift_int hc (by rw[yY i (Dg _)];exact q)
def U8:j2 X (binaryOp .BitAnd) (O4 λi j=>.int (uR i j)):=Va λ_ _ _ _ _ _ _ q=>and_int q
def unI{f:ah->Av ah}{g:Int->Int}
  (rule:∀(i:Int)(t:ES)(s:ak)(Q:ah->ak->Prop)(E:ah->ak->Prop),Q (.int (g i) s.toks) { s with toks:=s.toks+1 }->aF (aG X.prog X.w) X.A (f (.int i t)) Q E s) :
  UnR X f (rU λi=>.int (g i)):=by
 intro h_ s σ H x v Q I a h;obtain⟨i,rfl,q⟩:=h;obtain⟨t,rfl⟩:=a;exact rule i t s _ _ ⟨.int (g i),H,I.tok _,⟨_,rfl⟩,q⟩
def SV:UnR X (unaryOp .USub) (rU λi=>.int (-i)):=unI λ_ _ _ _ _ q=>neg_int q
end
section
variable{b:a8}{tb:TE}
def Ej(I:Inv X h_ σ H s)(q:Q (.bl k) H)(e:k=k'):EP X h_ σ Q (.bool k') s:=by
 subst e;exact⟨.bl k,H,I,rfl,q⟩
def Yw:j2 X (compareOp .Lt) (O4 λi j=>.bl (decide (i<j))):=Yy λ_ _ _ _ _ _ _ q=>ox q
def Yx:j2 X (compareOp .Gt) (O4 λi j=>.bl (decide (j<i))):=Yy λ_ _ _ _ _ _ _ q=>gt_int q
def Ir:j2 X (compareOp .In) (λx y H Q=>∃i j,x=.str i/\y=.str j/\Q (.bl (!(jh j i 0 j.length 1).isEmpty)) H):=by
 intro h_ s σ H x y v u Q I a c h;obtain⟨i,j,rfl,rfl,q⟩:=h;obtain⟨t,rfl⟩:=a;obtain⟨t',rfl⟩:=c;exact in_str (Ej I q rfl)
def U3:j2 X (compareOp .Is) (λx y H Q=>y=.non/\Q (.bl (decide (x=.non))) H):=by
 intro h_ s σ H x y v u Q I a c h;obtain⟨rfl,q⟩:=h;cases c;refine is_none_gen (Ej I q ?_)
 cases x<;>first
  |(cases a;rfl)
  |(obtain⟨t,rfl⟩:=a;rfl)
def Pq:j2 X (compareOp .IsNot) (λx y H Q=>y=.non/\Q (.bl (!decide (x=.non))) H):=by
 intro h_ s σ H x y v u Q I a c h;obtain⟨rfl,q⟩:=h;cases c;refine isnot_none_gen (Ej I q ?_)
 cases x<;>first
  |(cases a;rfl)
  |(obtain⟨t,rfl⟩:=a;rfl)
def Pj(ho:j2 X (compareOp op) r)(ha:PE X a ta)(hb:PE X b tb)(B:behindInMarks op b=d_):PE X (.Compare a [op] [b] pos) (RB r ta tb):=by
 intro h_ s σ H Q I h;exact wpAny_Compare1 (WM ha hb I h λv u s2 x y H2 c d e q=>ho h_ s2 σ H2 x y v u Q c d e q) B
def XH(t:TE):TT:=λσ H Q=>t σ H λx H'=>∃k,x=.bl k/\Q k H'
def Pa(ho:j2 X (compareOp op) r)(ha:PE X a ta)(hb:PE X b tb)(B:behindInMarks op b=d_):PT X (.Compare a [op] [b] pos) (XH (RB r ta tb)):=by
 intro h_ s σ H Q I h
 refine wpAny_isTrue_Compare1 (iR (ha h_ s σ H _ I h) λv s1 ⟨x,d,f,g,i⟩=>iR (hb h_ s1 σ d _ f i) λu s2 ⟨y,H2,j,l,m⟩=>
  iR (ho h_ s2 σ H2 x y v u _ j g l m) λc s3 ⟨z,n,o,p,k,e,q⟩=>?_) B
 subst e;cases p;exact g9 ⟨n,o,q⟩
def WU(K:aN)(x:V)(H:Hp)(k:Bool):Prop:=
 match x with
 |.non=>k=d_
 |.bl b=>k=b
 |.int i=>k=(i != 0)
 |.str y=>y.length<=aB/\k=((y.length:Int) != 0)
 |.byt y=>y.size<=aB/\k=((y.size:Int) != 0)
 |.ref p=>(∃xs,nM K H p xs/\k=!xs.isEmpty)\/(∃xs,tG K H p xs/\k=!xs.isEmpty)\/∃k_,H p=a_ (.dK k_)/\k=!k_.isEmpty
 |_=>False
def D4{κ:Type}{k_:List (κ×V)}{vs:List (κ×ah)}(r:KV k_ vs):(!vs.isEmpty)=!k_.isEmpty:=by
 cases r<;>rfl
def vO(r:c7 xs its):(!its.toArray.isEmpty)=!xs.isEmpty:=by
 cases r<;>simp
def td:(aB:Nat)<2 ^ 63:=br
def JY:abK X (λx H Q=>∃k,WU X.K x H k/\Q k H):=by
 intro h_ s σ H x v Q I c h;obtain⟨k,e,q⟩:=h;have hs :=iP
 cases x with
 |non=>
   cases c;subst e;exact truthy_none ⟨H,I,q⟩
 |bl b=>
   cases c;subst e;exact g9 ⟨H,I,q⟩
 |int i=>
   obtain⟨t,rfl⟩:=c;subst e;exact PySem.P.truthy_int ⟨H,I,q⟩
 |str y=>
   obtain⟨t,rfl⟩:=c;obtain⟨f,a⟩:y.length<=aB/\k=((y.length:Int) != 0):=e;subst a;exact PySem.P.truthy_str (by omega) ⟨H,I.tok _,q⟩
 |byt y=>
   obtain⟨t,rfl⟩:=c;obtain⟨f,a⟩:y.size<=aB/\k=((y.size:Int) != 0):=e;subst a;exact PySem.W.truthy_bytes (aa f br) ⟨H,I.tok _,q⟩
 |ref p=>
   cases c;have a :=e
   rcases a with⟨xs,d,a⟩|⟨xs,d,a⟩|⟨k_,d,a⟩
   .subst a;obtain⟨its,r,pl,g⟩:=I.list d;have hlen:=r.length;exact wpAny_truthy_list pl.isList (by simp only[bD];omega) ⟨H,I.tok _,by rw[vO r];exact q⟩
   .subst a;obtain⟨its,r,pl,g⟩:=I.tuple d;have hlen:=r.length;exact truthy_tuple pl (by simp only[bD];omega) ⟨H,I.tok _,by rw[vO r];exact q⟩
   .subst a;obtain⟨g,j,vs,r,m⟩:k_.length<=aB/\(p == sysModules)=d_/\∃vs,KV k_ vs/\s.heap.DictOf (cz X.prog X.w) p vs:=I.hok p _ d;have hlen :=qg r;exact wpAny_truthy_dict j m (by omega) ⟨H,I.tok _,by rw[D4 r];exact q⟩
 |_=>exact(e).elim
def KL(ha:PE X a ta)(he:∀whole,isTrue a X.env whole=(do let v <-whole;standAt a.pos;holding [v] (truthy v))) :
  PT X a (λσ H Q=>ta σ H λx H'=>∃k,WU X.K x H' k/\Q k H'):=by
 intro h_ s σ H Q I h;exact isTrue_plain (iR (ha h_ s σ H _ I h) λv s1 ⟨x,c,d,e,f⟩=>JY h_ s1 σ c x v Q d e f) (he _)
def DM:j2 X (binaryOp .Add) (λx y H Q=>∃i j,x=.str i/\y=.str j/\i.length+j.length<=aB/\Q (.str (i++j)) H):=by
 intro h_ s σ H x y v u Q I a c h;obtain⟨i,j,rfl,rfl,d,q⟩:=h;obtain⟨t,rfl⟩:=a;obtain⟨t',rfl⟩:=c;exact add_str (λt' e=>⟨.str (i++j),H,I.tok _,⟨_,rfl⟩,q⟩) d
def vals1(r:c7 [x] us):∃u,us=[u]/\RelV x u:=by
 cases r with
 |cons a c=>cases c;exact⟨_,rfl,a⟩
def vals2(r:c7 [x,y] us):∃u B,us=[u,B]/\RelV x u/\RelV y B:=by
 cases r with
 |cons a c=>
   cases c with
   |cons d e=>cases e;exact⟨_,_,rfl,a,d⟩
def Jg:kj X (.type "int") (λxs H Q=>(∃i,xs=[.int i]/\Q (.int i) H)\/∃k,xs=[.bl k]/\Q (.int (if k then 1 else 0)) H):=by
 intro h_ s σ H xs us Q I r h
 rcases h with⟨i,rfl,q⟩|⟨k,rfl,q⟩
 .obtain⟨u,rfl,t,rfl⟩:=vals1 r;exact call_int_int ⟨.int i,H,I,⟨_,rfl⟩,q⟩
 .obtain⟨u,rfl,a⟩:=vals1 r;cases a;exact call_int_bool ⟨.int (if k then 1 else 0),H,I.tok _,⟨_,rfl⟩,q⟩
def zV:kj X (.type "str") (λxs H Q=>∃i,xs=[.int i]/\i.natAbs.log2<1920/\Q (.str (toString i)) H):=by
 intro h_ s σ H xs us Q I r h;obtain⟨i,rfl,a,q⟩:=h;obtain⟨u,rfl,t,rfl⟩:=vals1 r;exact PySem.P.str_of_int a ⟨.str _,H,I.tok _,⟨_,rfl⟩,q⟩
end
section
variable{K:aN}
end
noncomputable def sG(f:be)(v:V):List (be×V)->List (be×V)
 |[]=>[(f,v)]
 |(g,x)::r=>if g=f then(g,v)::r else(g,x)::sG f v r
def uh.some_of(r:uh (a_ v) o):∃u,o=a_ u/\RelV v u:=by
 cases o with
 |none=>exact(r).elim
 |some u=>exact⟨u,rfl,r⟩
section
end
section
end
section
end
section
end
structure nN(k:Nat)(A:bX):Prop where
 hd:A.handled=b_
 dp:A.depth+3 * k+5<recursionLimit
 un:A.units+16 * k+200<dc
def nN.deeper(r:nN (k+1) A)(env:Ri):nN k (A.deeper env):=
 ⟨r.hd,by refine (?_ : A.depth+1+3 * k+5<_);exact gm r.dp,by exact gm r.un⟩
def nN.depth(r:nN k A):A.depth<recursionLimit:=gm r.dp
def nN.units(r:nN k A):A.units+64<dc:=gm r.un
def XJ:TA:=λ_ H Q=>Q [] H
def XN(B:TE)(tr:TA):TA:=λσ H Q=>B σ H λx a=>tr σ a λxs H2=>Q (x::xs) H2
section
variable{t:TA}
def vy:PA X [] XJ:=λ_ _ _ _ H Q I h=>sx ⟨[],H,I,.nil,h⟩
def n5(ha:PE X e te)(B:PA X es t)(hs:aQ (e::es) X.env=(d_,eval e X.env)::aQ es X.env:=by rfl):PA X (e::es) (XN te t):=by
 intro pos h_ s σ H Q I h;rw[hs];exact Hr (iR (ha h_ s σ H _ I h) λu s1 ⟨x,a,b,c,d⟩=>iR (B pos h_ s1 σ a _ b d) λus s2 ⟨xs,H2,f,g,i⟩=>⟨x::xs,H2,f,.cons c g,i⟩)
def aat(t:TA):TE:=λσ H Q=>t σ H λxs a=>xs.length<=aB/\∀p,a p=b_->Q (.ref p) (upd a p (.tup xs))
def aay(t:TA):TE:=λσ H Q=>t σ H λxs a=>xs.length<=aB/\∀p,a p=b_->Q (.ref p) (upd a p (.lst xs))
def K4{x1}(h:PA X es t):PE X (.Tuple es x1 pos) (aat t):=by
 intro h_ s σ H Q I c;refine wpAny_Tuple_spliced (iR (h pos h_ s σ H _ I c) λus s1 ⟨xs,d,a,r,z,q⟩=>⟨by rw[<-r.length];exact z,?_⟩);have hf :=a.hok.fresh (ao _);exact ⟨.ref s1.heap.objs.size,upd d s1.heap.objs.size (.tup xs),a.laid (λb u e=>hp9 _ e) (ao _) (⟨z,us,r,⟨_,aK _ rfl,rfl,_,rfl⟩⟩),rfl,q _ hf⟩
def UR(h:PA X es t):PE X (.List es pos) (aay t):=by
 intro h_ s σ H Q I c;refine wpAny_List_spliced (iR (h pos h_ s σ H _ I c) λus s1 ⟨xs,d,a,r,z,q⟩=>⟨by rw[<-r.length];exact z,?_⟩);have hf :=a.hok.fresh (ao _);exact ⟨.ref s1.heap.objs.size,upd d s1.heap.objs.size (.lst xs),a.laid (λb u e=>hp9 _ e) (ao _) ⟨z,us,0,r,aK _ rfl⟩,rfl,q _ hf⟩
end
abbrev Sp:=List V->Hp->VK->XK->Prop
abbrev Xv:=List Ri->Hp->ak->XK->ah->ak->Prop
structure iy(P:cJ)(w:du)(K:aN)(mg:be->Option ah)(base:cM)(A:bX)(outer:List Ri)(s:ak)(H:Hp):Prop where
 frames:A.frames=a_ outer
 mod:Mod K mg base
 bs:∀b o,base.get? b=a_ o->s.heap.get? b=a_ o/\H b=b_
 bsz:base.objs.size<=s.heap.objs.size
 vV:s.heap.FunFrames base outer
 frf:∀b∈Jy outer,H b=b_
 hok:rQ P w H s.heap
 bare:oO s.gens
def CE(outer:List Ri)(P:cJ)(w:du)(H:Hp)(s:ak)(Q:VK)(u:ah)(s':ak):Prop:=
 ∃v H',s'.os=s.os/\oO s'.gens/\Un (Jy outer) [] H H' s.heap s'.heap/\rQ P w H' s'.heap/\RelV v u/\Q v H'
def CR(CX:Xv)(outer:List Ri)(P:cJ)(w:du)(H:Hp)(s:ak)(Q:VK)(E:XK)(r:Result)(s':ak):Prop:=
 match r with
 |.ok (.ret u)=>CE outer P w H s Q u s'
 |.ok _=>False
 |.error e=>CX outer H s E e s'
structure ot(P:cJ)(w:du)(K:aN)(mg:be->Option ah)(base:cM)(CX:Xv)(k:Nat)(f:aI)(fd:j4)(ps:List be)(sp:Sp):Prop where
 len:∀vs H Q E,sp vs H Q E->vs.length=ps.length
 run:∀(A:bX)(outer:List Ri)(s:ak)(H:Hp)(args:Args)(us:List ah)(vs:List V)(Q:VK)(E:XK),nN k A->iy P w K mg base A outer s H->CJ s fd args (ps.zip us)->c7 vs us->sp vs H Q E->
  codeAny (aG P w) A (.call (.ref f) args) (CR CX outer P w H s Q E) s
def ot.imp{K:aN}{base:cM}(F:ot P w K mg base CX k f fd ps sp)
  (h:∀vs H Q E,sp' vs H Q E->sp vs H Q E):ot P w K mg base CX k f fd ps sp':=
 ⟨λvs H Q E q=>F.len vs H Q E (h _ _ _ _ q),λA outer s H args us vs Q E a he hb b hs=>F.run A outer s H args us vs Q E a he hb b (h _ _ _ _ hs)⟩
section
def Inv.abv(I:Inv X h_ σ H s):iy X.prog X.w X.K X.mg X.base X.A X.stack s H:=
 ⟨I.ok.frames,I.ok.mod,I.bs,aa I.ok.bsz I.sz,I.stack,I.E9,I.hok,I.bare⟩
def Inv.after(I:Inv X h_ σ H s)(h:CE X.stack X.prog X.w H s Q u s'):EP X h_ σ Q u s':=by
 obtain⟨v,H',os,bare,un,hok,r,q⟩:=h;obtain⟨hh,g,d,t,a⟩:=s';obtain rfl:a=s.os:=os;exact⟨v,H',I.call un hok bare (λb z=>absurd z (by simp)),r,q⟩
end
def RC(sp:Sp)(B:List V)(E:XK)(t:TA):TE:=λσ H Q=>t σ H λvs a=>sp (vs++B) a Q E
def Binds(K:aN)(fd:j4)(ps:List be)(ds:List ah):Prop:=
 ∀(s:ak)(us:List ah),K.In s.heap->(us++ds).length=ps.length->CJ s fd ⟨us,[]⟩ (ps.zip (us++ds))
def Binds.all{K:aN}{ps:List be}(h:∀us:List ah,us.length=ps.length->bindArgs fd ⟨us,[]⟩=pure (ps.zip us)):Binds K fd ps []:=λs us _ hl=>by
 rw[aH]at hl ⊢;exact .of_eq (h us hl)
def Ad(CX:Xv)(X:Cx)(E:XK):Prop:=∀(h_:List (aI×lA))(σ:St)(H:Hp)(s:ak)(e:ah)(s':ak),Inv X h_ σ H s->CX X.stack H s E e s'->X.xe e s'
section
variable{X:Cx}{f C:aI}
def Kw(F:ot X.prog X.w X.K X.mg X.base CX k f fd ps sp)(B:nN k X.A)(hb:Binds X.K fd ps ds)(hd:c7 dvs ds)(O:Ad CX X E)
  (I:Inv X h_ σ H s)(r:c7 vs us)(h:sp (vs++dvs) H Q E):aF (aG X.prog X.w) X.A (call (.ref f) us) (EP X h_ σ Q) X.xe s:=by
 have b :=r.append hd;refine wpAny_call (kX (F.run X.A X.stack s H ⟨us,[]⟩ (us++ds) (vs++dvs) Q E B I.abv (hb s us I.DZ (by rw[<-b.length];exact F.len _ _ _ _ h)) b h) λr s' a=>?_)
 cases r with
 |error e=>exact O h_ σ H s e s' I a
 |ok fl=>
   cases fl with
   |ret u=>exact I.after a
   |next=>exact i7 a
   |brk=>exact i7 a
   |cont=>exact i7 a
def Pl(F:ot X.prog X.w X.K X.mg X.base CX k f fd ps sp)(Y:nN k X.A)(Z:Gl X x)(hm:X.mg x=a_ (.ref f))(hk:gJ X.K (.ref f)=c_)(hb:Binds X.K fd ps ds)(hd:c7 dvs ds)(hx:Ad CX X E)
  (ha:PA X (e::es) t)(B:(x == ("__debug__":be))=d_)(he:aQ (e::es) X.env=(d_,eval e X.env)::aQ es X.env)(O:(backTo pos (aQ es X.env)).any (·.1)=d_) :
  PE X (.Call (.Name x p) (e::es) [] pos) (RC sp dvs E t):=by
 intro h_ s σ H Q I h;refine fB (zF I Z hm ?_ B);exact PySem.W.callWith_K I.ok.mod.kin hk (iR (ha pos h_ s σ H _ I h) λus s1 ⟨vs,b,a,r,q⟩=>⟨a.DZ,(Kw F Y hb hd hx a r q)⟩) he O
def K8(F:ot X.prog X.w X.K X.mg X.base CX k f fd ps sp)(O:nN k X.A)(Y:Gl X x)(Z:X.mg x=a_ (.ref f))(hk:gJ X.K (.ref f)=c_)(hb:Binds X.K fd ps ds)(hd:c7 dvs ds)(hx:Ad CX X E)
  (B:(x == ("__debug__":be))=d_):PE X (.Call (.Name x p) [] [] pos) (RC sp dvs E XJ):=by
 intro h_ s σ H Q I h;exact fB (zF I Y Z (PySem.W.callWith_K0 I.DZ hk (Kw F O hb hd hx I .nil h)) B)
structure Mk(K:aN)(C f:aI):Prop where
 makes:PySem.W.makesIn K C=c_
 init:PySem.W.findIn K (.ref C) "__init__"=a_ (a_ (.ref f))
 fn:PySem.W.isFn K (.ref f)=c_
 kp:gJ K (.ref C)=c_
end
section
end
structure rS(N P:List be)(sc:m7):Prop where
 kind:sc.kind=.function
 co:sc.isCoroutine=d_
 gen:sc.isGenerator=d_
 nd:N.Nodup
 pre:N.take P.length=P
 par:∀x∈P,sc.names.lookup x=a_ .local\/sc.names.lookup x=a_ .cell
 nofree:∀y∈sc.names,y.2≠.free
theorem yH{kindOf:be->Option kZ}:∀{binds:List (be×ah)}{m:be->Option ah},(∀v,(x,v)∉binds)->bindL kindOf binds m x=m x
 |[],_,_=>rfl
 |(n,v)::r,m,h=>by
   unfold bindL;rw[yH λw a=>h w (ki _ a)];split
   .grind
   .rfl
theorem yJ{kindOf:be->Option kZ}:∀{binds:List (be×ah)}{m:be->Option ah},(∀v,(x,v)∉binds)->bindC kindOf binds m x=m x
 |[],_,_=>rfl
 |(n,v)::r,m,h=>by
   unfold bindC;rw[yJ λw a=>h w (ki _ a)];split
   .rfl
   grind
theorem yI{kindOf:be->Option kZ}:∀{P:List be} {vs:List ah} {i:Nat} {m:be->Option ah},P.Nodup->P[i]?=a_ x->vs[i]?=a_ v->kindOf x=a_ .local->
  bindL kindOf (P.zip vs) m x=a_ v
 |[],_,_,_,_,h,_,_=>by simp at h
 |_::_,[],_,_,_,_,h,_=>by simp at h
 |p::P,w::vs,0,m,nd,h1,h2,hk=>by
   simp at h1 h2;subst h1;subst h2;show bindL kindOf ((p,w)::P.zip vs) m p=_;unfold bindL;rw[yH λv a=>(aX.mp nd).1 (iJ a).1,if_pos hk];simp
 |p::P,w::vs,i+1,m,nd,h1,h2,hk=>by
   show bindL kindOf ((p,w)::P.zip vs) m x=_;exact yI (aX.mp nd).2 (by simpa using h1) (by simpa using h2) hk
theorem yK{kindOf:be->Option kZ}:∀{P:List be} {vs:List ah} {i:Nat} {m:be->Option ah},P.Nodup->P[i]?=a_ x->vs[i]?=a_ v->kindOf x≠a_ .local->
  bindC kindOf (P.zip vs) m x=a_ v
 |[],_,_,_,_,h,_,_=>by simp at h
 |_::_,[],_,_,_,_,h,_=>by simp at h
 |p::P,w::vs,0,m,nd,h1,h2,hk=>by
   simp at h1 h2;subst h1;subst h2;show bindC kindOf ((p,w)::P.zip vs) m p=_;unfold bindC;rw[yJ λv a=>(aX.mp nd).1 (iJ a).1,if_neg hk];simp
 |p::P,w::vs,i+1,m,nd,h1,h2,hk=>by
   show bindC kindOf ((p,w)::P.zip vs) m x=_;exact yK (aX.mp nd).2 (by simpa using h1) (by simpa using h2) hk
def start(N:List be)(vs:List V):St:=vs.map a_++dZ (N.length - vs.length) b_
noncomputable def Cf(CX:Xv)(P:cJ)(w:du)(K:aN)(mg:be->Option ah)(base:cM)(N:List be)(qual:be)(scope:m7)(f:aI)(B:ah)(A:bX)(outer:List Ri)(s:ak)(H:Hp)(E:XK):Cx where
 prog:=P
 w:=w
 K:=K
 mg:=mg
 base:=base
 A:=A.deeper (envOfC qual scope s.heap.objs.size f B)
 N:=N
 s₀:=s
 H₀:=H
 env:=envOfC qual scope s.heap.objs.size f B
 outer:=outer
 stack:=envOfC qual scope s.heap.objs.size f B::outer
 ex:=[]
 calm:=c_
 fn:=λ_=>c_
 pn:=[]
 xe:=λe s'=>aF (aG P w) (A.deeper (envOfC qual scope s.heap.objs.size f B)) (leaving (envOfC qual scope s.heap.objs.size f B) e) (λ_ a=>CX outer H s E e a) (λb a=>CX outer H s E b a) s'
def Ck{sc:m7}(h:sc.names.lookup x=a_ .cell):∃c,(cellsFrom n sc.names []).lookup x=a_ c:=by
 exact jv.mp (yQ sc.names n [] (.inl h))
def IL{K:aN}{base:cM}{A:bX}{s1:ak}{vs:List V}
  (S:rS N ps scope)(hd:A.handled=b_)(B:iy P w K mg base A outer s H)(hl:vs.length=ps.length)(r:c7 vs us)
  (x:InCallC s s.heap.objs.size (bindL (envOfC qual scope s.heap.objs.size f cd).kindOf (ps.zip us) λ_=>b_) (cellsFrom (s.heap.objs.size+1) scope.names []) (bindC (envOfC qual scope s.heap.objs.size f cd).kindOf (ps.zip us) λ_=>b_) s1) :
  Inv (Cf CX P w K mg base N qual scope f cd A outer s H E) [] (start N vs) H s1:=by
 obtain⟨h1,n,rfl,hk⟩:=x.done;have a:∀b:aI,b∉(Cf CX P w K mg base N qual scope f cd A outer s H E).ex:=λb z=>absurd (show b∈([])from z) (by simp)
 refine⟨⟨B.mod,S.kind,rfl,rfl,ao _,λy z c h1 h2=>?_,λy d=>?_,λy c _ h=>?_,λ_=>hd,Around.frames_deeper B.frames,.inr ⟨rfl,rfl⟩,λb z=>absurd z (a b),B.bs,B.bsz,λb _ _=>a b,λb z=>absurd z (a b),B.vV,B.frf⟩,
  rfl,B.bare,Un.kept hk,⟨_,x.toInCall.ns,λi y v h1 h2 h3=>?_⟩,λy c h=>⟨_,x.cell y c h⟩,B.hok.fresh (ao _),λy c h=>?_,λp hp=>absurd (show p∈([])from hp) (by simp),B.hok.kept hk,?_⟩
 .exact name_of_addr x.apart (g8 h1) (g8 h2)
 .rcases d with d|d
  .exact Ck d
  .exact absurd rfl (S.nofree _ (g8 d))
 .exact aD (x.above y c (g8 h))
 .have hi:i<vs.length:=by
   unfold start at h2;by_cases hi:i<vs.length
   .exact hi
   .rw[aT (by simpa using hi)]at h2;rw[eK]at h2
    grind
  have ha:vs[i]?=a_ v:=by
   unfold start at h2;rw[a9 (by simpa using hi),aP]at h2
   simp_all
  obtain⟨u,l,m⟩:=r.get ha
  have hp:ps[i]?=a_ y:=by
   rw[<-S.pre,List.getElem?_take_of_lt (aa hi (ae hl))];exact h1
  have g:ps.Nodup:=by rw[<-S.pre];exact S.nd.sublist (iU _ _)
  refine⟨u,m,?_⟩
  rcases S.par y (aV hp)with k|k
  .exact .inl ⟨k,yI g hp l k⟩
  .obtain⟨c,e⟩:=Ck k;refine .inr ⟨.inl k,c,e,?_⟩;have q:=x.cell y c e;rw[yK g hp l (by show scope.names.lookup y≠_;rw[k];decide)]at q;exact q
 .exact B.hok.fresh (aD (x.above y c (g8 h)))
 .unfold start;rw[ag,aw,iQ];exact gD (aa (ae hl) (by have:=congrArg fA S.pre;rw[dQ]at this;exact aa (ae this.symm) (hJ _ _)))
def Zg{K:aN}{base:cM}{kV:ah}
  (Y:K.lookup f=a_ ⟨oc,od,.func (qK name qual params body scope dV kV doc pm an cdv ct),osl⟩)(O:uO K cdv qual=c_)(S:rS N ps scope)
  (len:∀vs H Q E,sp vs H Q E->vs.length=ps.length)
  (B:∀(A:bX)(outer:List Ri)(s:ak)(H:Hp)(vs:List V)(Q:VK)(E:XK),nN k (A.deeper (envOfC qual scope s.heap.objs.size f cdv))->sp vs H Q E->
   ∃t,An (Cf CX P w K mg base N qual scope f cdv A outer s H E) body t/\t { nx:=λ_ H'=>Q .non H',rt:=Q } (start N vs) H) :
  ot P w K mg base CX (k+1) f (qK name qual params body scope dV kV doc pm an cdv ct) ps sp:=by
 refine⟨len,λA outer s H args us vs Q E h d hb r g=>?_⟩;have hl:=len _ _ _ _ g;have l :=d.mod.kin.keeps λb o e=>(d.bs b o e).1;have c:∀y∈ps.zip us,scope.names.lookup y.1=a_ .local\/(scope.names.lookup y.1=a_ .cell/\((cellsFrom (s.heap.objs.size+1) scope.names []).lookup y.1).isSome=c_):=λm p=>by
  rcases S.par m.1 (iJ p).1 with q|q
  .exact .inl q
  .exact .inr ⟨q,yQ _ _ _ (.inl q)⟩
 refine codeAny_call_function h.depth (l _ _ Y) rfl S.co S.gen rfl (PySem.W.codeRec_of l O) (hb _ _ _ _ ?_);refine wpAny_newFunctionEnv_cells S.kind c λenv he s1 x=>?_;subst he;refine⟨(d.mod.nolimit.keeps λb o e=>(d.bs b o e).1).keeps x.toInCall.keep,codeAny_func ?_⟩;obtain⟨t,ht,z⟩:=B A outer s H vs Q E (h.deeper _) g;refine dE (ht [] s1 (start N vs) H _ (IL S h.hd d hl r x) z) (λfl s' hs=>?_) λe s' hs=>hs
 have fin:∀{a:St}{H':Hp}{v:V}{u:ah},Inv (Cf CX P w K mg base N qual scope f cdv A outer s H E) [] a H' s'->RelV v u->Q v H'->CE outer P w H s Q u s':=
  λ{a H' v u}J j q=>⟨v,H',J.os,J.bare,J.base,J.hok,j,q⟩
 cases fl with
 |ret u=>
   obtain⟨v,a,H',J,j,q⟩:=hs;exact fin J j q
 |next=>
   obtain⟨a,H',J,q⟩:=hs;exact fin (v:=V.non) J rfl q
 |brk=>
   obtain⟨_,_,_,q⟩:=hs;exact i7 q
 |cont=>
   obtain⟨_,_,_,q⟩:=hs;exact i7 q
section
variable{t:TA}{id T:String}{r:List V->Hp->VK->Prop}
def tCB(r:List V->Hp->VK->Prop)(t:TA):TE:=λσ H Q=>t σ H λvs a=>r vs a Q
def vt(hc:kj X (.builtin id) r)(Y:Gl X x)(Z:X.mg x=b_)(hv:bootBuiltins x=a_ (.builtin id))(ha:PA X (e::es) t)(hn:x≠"__name__")(B:(x == ("__debug__":be))=d_)
  (he:aQ (e::es) X.env=(d_,eval e X.env)::aQ es X.env)(O:(backTo pos (aQ es X.env)).any (·.1)=d_):PE X (.Call (.Name x p) (e::es) [] pos) (tCB r t):=by
 intro h_ s σ H Q I h;exact fB (lW I Y Z hv (p3 (iR (ha pos h_ s σ H _ I h) λus s1 ⟨vs,a,b,c,d⟩=>hc h_ s1 σ a vs us Q b c d) he O) hn B)
def Iq(hc:kj X (.type T) r)(Y:Gl X x)(Z:X.mg x=b_)(hv:bootBuiltins x=a_ (.type T))(ha:PA X (e::es) t)(hn:x≠"__name__")(B:(x == ("__debug__":be))=d_)
  (he:aQ (e::es) X.env=(d_,eval e X.env)::aQ es X.env)(O:(backTo pos (aQ es X.env)).any (·.1)=d_):PE X (.Call (.Name x p) (e::es) [] pos) (tCB r t):=by
 intro h_ s σ H Q I h;exact fB (lW I Y Z hv (dz (iR (ha pos h_ s σ H _ I h) λus s1 ⟨vs,a,b,c,d⟩=>hc h_ s1 σ a vs us Q b c d) he O) hn B)
end
end L2
namespace HT
open PySem PyProof.Rows
section
open PySem.SeqAt
open PySem.AutoSeq1 (wpAny_loadPart')
open PySem.MeetsSeq PySem.MeetsSeq2 PySem.MeetsSeq3
end
section
variable{s:ak}
def QJ{vs ws:List ah}(ht:Ag s.heap t vs.toArray)(hb:Ag s.heap b ws.toArray)(B:vs≠[])
  (h1:ws=[]->Q (.ref t) s)(h2:ws≠[]->Q (.ref s.heap.objs.size) { s with heap:=s.heap.push { cls:=.type "tuple",data:=.seq (vs++ws).toArray } })
  (hsz:vs.length+ws.length<=aB):aF (aG prog w) A (binaryOp .Add (.ref t) (.ref b)) Q E s:=by
 refine ac λ_ k=>?_;obtain⟨⟨cls,h,data,sl⟩,ho,hc,n,hd⟩:=id ht;obtain⟨⟨i,c,data2,zj⟩,a,f,j,g⟩:=id hb;subst hc hd f g;refine k ?_;have e:vs.toArray++ws.toArray=(vs++ws).toArray:=by simp
 by_cases d:ws=[]
 .exact wM ⟨_,ho,rfl⟩ ⟨_,a,rfl⟩ yP Hk nV nc (mQ _ _)
   (tuple_addW1 t b vs.toArray ws.toArray n j h c sl zj (by simpa using B) (by simp[d])) ⟨ho,a,h1 d⟩
 .refine wM ⟨_,ho,rfl⟩ ⟨_,a,rfl⟩ yP Hk nV nc (mQ _ _)
   (tuple_addW2 t b vs.toArray ws.toArray n j h c sl zj (by simpa using B) (by simpa using d) (by exact hsz)) ⟨ho,a,?_⟩
  rw[e];exact h2 d
noncomputable def iW(n d:Nat):Option Int->Nat
 |none=>d
 |some v=>if v<0 then(v+(n:Int)).toNat else min v.toNat n
def A5(n d:Nat):iW n d b_=d:=rfl
def G1(v:Int)(n d:Nat):(if v<0 then max (v+(n:Int)) 0 else min v (n:Int))=((iW n d (a_ v):Nat):Int):=by
 show(if v<0 then max (v+(n)) 0 else min v (n))=(((if v<0 then(v+(n)).toNat else min v.toNat n):Nat))
 grind
def EK(lo hi:Option Int)(n:Nat):rV lo hi 1 (n:Int)=(((iW n 0 lo:Nat):Int),((iW n n hi:Nat):Int)):=by
 refine EY ?_ ?_
 .cases lo with
  |none=>rfl
  |some v=>exact G1 v n 0
 .cases hi with
  |none=>rfl
  |some v=>exact G1 v n n
def DJ(i j:Nat):iG (i:Int) (j:Int) 1=j - i:=by
 unfold iG
 grind
def vd(p:sr v o)(h:Q o s):aF (aG prog w) A (Builtin.Slice.slicePartIndex v) Q E s:=by
 cases p with
 |none=>exact slicePart_none h
 |int i t=>exact slicePart_int h
def nv{sl:aI}{B O:ah}{lo hi:Option Int}{n:Nat}{Q:Int×Int×Nat->ak->Prop}(hs:s.heap.IsSliceOf sl B O .none)(pl:sr B lo)(Y:sr O hi)
  (h:Q (((iW n 0 lo:Nat):Int),1,iW n n hi - iW n 0 lo) s):aF (aG prog w) A (Builtin.Slice.sliceApplied (.ref sl) (pure (n:Int))) Q E s:=by
 obtain⟨os,a,c,b⟩:=id hs;refine wb9 (wb9 (dm a b (x:=B) rfl (wb9 (dm a b (x:=O) rfl (wb9 (dm a b rfl (wu9 ?_)))))));refine wb9 (slicePart_none ?_);refine wb9 (vd pl (wb9 (vd Y (wb9 (wu9 ?_)))));show aF _ _ (match rV lo hi 1 (n)with|(lo,hi)=>pure (lo,(1:Int),iG lo hi 1)) _ _ s;rw[EK lo hi n];show aF _ _ (pure (((iW n 0 lo):Int),(1),iG ((iW n 0 lo)) ((iW n n hi)) 1)) _ _ s;rw[DJ];exact wu9 h
def KU(xs:Array ah)(i k:Nat):((aO k).filterMap λ(m:Nat)=>xs[((i:Int)+(m:Int) * 1).toNat]?).toArray=((xs.toList.drop i).take k).toArray:=by
 have e:(λ(m:Nat)=>xs[((i:Int)+(m) * 1).toNat]?)=λm=>xs[i+m]? :=by
  funext m
  grind
 rw[e];have:=pick_run xs i k;have e2:((λx=>xs[x]?) ∘ λx=>i+x)=λm=>xs[i+m]? :=rfl
 simp_all
def rC{sl:aI}{lo:Option Int}(ht:Ag s.heap t items)(hs:s.heap.IsSliceOf sl vl vu .none)(pl:sr vl lo)(B:sr vu hi)
  (O:¬(iW items.size 0 lo=0/\iW items.size items.size hi=items.size))
  (h:Q (.ref s.heap.objs.size) { s with heap:=s.heap.push { cls:=.type "tuple",data:=.seq ((items.toList.drop (iW items.size 0 lo)).take (iW items.size items.size hi - iW items.size 0 lo)).toArray } })
  (hsz:items.size<=aB):aF (aG prog w) A (getItem (.ref t) (.ref sl)) Q E s:=by
 have a:sizeOk (.seq ((items.toList.drop (iW items.size 0 lo)).take (iW items.size items.size hi - iW items.size 0 lo)).toArray):=by
  show((items.toList.drop (iW items.size 0 lo)).take (iW items.size items.size hi - iW items.size 0 lo)).toArray.size<=aB;rw[bD,dQ,dh,bf];omega
 obtain⟨os,b,c,f⟩:=id hs;unfold getItem
 try with_reducible refine ck ?_
 first|grind|skip
 refine wb9 (wpAny_sequenceKey ht.typeIs br ?_)
 refine wb9 (cU ht.typeIs dC
  (bN dC ht.typeIs entry_tuple_getitem ?_ (args_tuple_getitem _ _)))
 show aF _ _ (kM (.ref t) >>= _) _ _ s;refine wb9 (tupleItemsOf_ ht ?_);refine wb9 (iT ⟨os,b,c⟩ ?_);refine wb9 (nv hs pl B ?_)
 have e:¬((((iW items.size 0 lo):Int) == 0 && (1:Int) == 1 && (iW items.size items.size hi - iW items.size 0 lo) == items.size)=c_):=by
  simp_all
 show aF _ _ (if(((iW items.size 0 lo):Int) == 0 && (1) == 1 && (iW items.size items.size hi - iW items.size 0 lo) == items.size)=c_ then _ else _) _ _ s;rw[if_neg e,KU]
 first
  |exact wb9 (dI (wu9 ⟨_,rfl,wu9 h⟩) a)
  |simp
  |simp
  |simp
end
end HT
namespace L2
open PySem PySem.Spec PyProof.Rows
abbrev TO:=St->Hp->(Option Int->Hp->Prop)->Prop
def PO(X:Cx)(e:Option a8)(t:TO):Prop:=
 ∀(h_:List (aI×lA))(s:ak)(σ:St)(H:Hp)(Q:Option Int->Hp->Prop),Inv X h_ σ H s->t σ H Q->
  aF (aG X.prog X.w) X.A (evalPart e X.env) (λu s'=>∃o H',Inv X h_ σ H' s'/\sr u o/\Q o H') X.xe s
def Od:TO:=λ_ H Q=>Q b_ H
def XI(t:TE):TO:=λσ H Q=>t σ H λx a=>∃i,x=.int i/\Q (a_ i) a
section
variable{X:Cx}{te:TE}{lo hi:Option a8}{tl th:TO}
def Pe:PO X b_ Od:=by
 intro h_ s σ H Q I h;exact wu9 ⟨b_,H,I,.none,h⟩
def Pd(h:PE X e te):PO X (a_ e) (XI te):=by
 intro h_ s σ H Q I a;refine iR (h h_ s σ H _ I a) λu s1 ⟨x,b,c,d,f⟩=>?_;obtain⟨i,rfl,q⟩:=f;obtain⟨t,rfl⟩:=d;exact⟨a_ i,b,c,.int i t,q⟩
def SlR(X:Cx)(r:V->Option Int->Option Int->Hp->VK->Prop):Prop:=
 ∀(h_:List (aI×lA))(s:ak)(σ:St)(H:Hp)(x:V)(v a b:ah)(lo hi:Option Int)(sl:aI)(Q:VK),Inv X h_ σ H s->RelV x v->s.heap.IsSliceOf sl a b .none->sr a lo->sr b hi->r x lo hi H Q->
  ∃T c,typeLookup (.type T) "__getitem__"=pure (a_ (.builtin c))/\s.TypeIs v T/\aF (aG X.prog X.w) X.A (getItem v (.ref sl)) (EP X h_ σ Q) X.xe s
def tSl(r:V->Option Int->Option Int->Hp->VK->Prop)(te:TE)(tl th:TO):TE:=λσ H Q=>te σ H λx a=>tl σ a λl H2=>th σ H2 λu b=>r x l u b Q
def K5(B:SlR X r)(he:PE X e te)(hl:PO X lo tl)(O:PO X hi th):PE X (.Subscript e (.Slice lo hi b_ p2) pos) (tSl r te tl th):=by
 intro h_ s σ H Q I h;refine Subscript_ (iR (he h_ s σ H _ I h) λv s1 ⟨x,f,g,i,j⟩=>?_);refine wpAny_Slice (iR (hl h_ s1 σ f _ g j) λa s2 ⟨l,H2,k,pl,m⟩=>iR (O h_ s2 σ H2 _ k m) λc s3 ⟨u,d,n,o,p⟩=>?_);refine wu9 ?_;obtain⟨T,A,w,ht,y⟩:=B h_ { s3 with heap:=s3.heap.push { cls:=.type "slice",data:=.fields #[a,c,.none] } } σ d x v a c l u s3.heap.objs.size Q (n.kept λb z q=>hp9 _ q) i (Heap.IsSliceOf.new ..) pl o p;exact NQ ht w y (by with_unfolding_all rfl)
def Ew(xs:List V)(lo hi:Option Int):List V:=(xs.drop (HT.iW xs.length 0 lo)).take (HT.iW xs.length xs.length hi - HT.iW xs.length 0 lo)
def t4(xs:List V)(lo hi:Option Int):(Ew xs lo hi).length<=xs.length:=by
 unfold Ew;rw[dQ,dh];exact aa (hJ _ _) (oS _ _)
def aaL(K:aN):V->Option Int->Option Int->Hp->VK->Prop:=λx lo hi H Q=>∃a xs,x=.ref a/\tG K H a xs/\
 ¬(HT.iW xs.length 0 lo=0/\HT.iW xs.length xs.length hi=xs.length)/\∀p,H p=b_->Q (.ref p) (upd H p (.tup (Ew xs lo hi)))
def TR:SlR X (aaL X.K):=by
 intro h_ s σ H x v i j lo hi sl Q I d hs pl e h;refine ac λ_ l=>?_;obtain⟨a,xs,rfl,f,g,q⟩:=h;cases d;obtain⟨its,r,ht,c⟩:=I.tuple f;refine l ?_;have hlen:its.toArray.size=xs.length:=by exact r.length.symm
 refine⟨"tuple",_,dC.lookup,ht.typeIs,?_⟩;refine HT.rC ht hs pl e (by rw[hlen];exact g) ?_ (by rw[hlen];exact c);rw[hlen];refine⟨.ref s.heap.objs.size,_,I.laid (λb k q=>hp9 _ q) (ao _) ?_,rfl,q _ (I.hok.fresh (ao _))⟩;exact⟨aa (t4 xs lo hi) c,_,(r.drop (HT.iW xs.length 0 lo)).take (HT.iW xs.length xs.length hi - HT.iW xs.length 0 lo),JJ _ _⟩
def Yl(K:aN):R2:=λx y H Q=>∃a b xs ys,x=.ref a/\y=.ref b/\tG K H a xs/\tG K H b ys/\xs≠[]/\xs.length+ys.length<=aB/\
 (ys=[]->Q (.ref a) H)/\(ys≠[]->∀p,H p=b_->Q (.ref p) (upd H p (.tup (xs++ys))))
def c7.zu(r:c7 xs us):us=[]↔xs=[]:=by
 cases r with
 |nil=>simp
 |cons _ _=>simp
def Py:j2 X (binaryOp .Add) (Yl X.K):=by
 intro h_ s σ H x y v u Q I e f h;refine ac λ_ p=>?_;obtain⟨a,b,xs,ys,rfl,rfl,ha,hb,g,i,j,k⟩:=h;cases e;cases f;obtain⟨its,d,l,_⟩:=I.tuple ha;obtain⟨n,c,m,_⟩:=I.tuple hb;refine p ?_;refine HT.QJ l m (λz=>g (d.zu.mp z)) (λz=>⟨.ref a,H,I,rfl,j (c.zu.mp z)⟩) (λz=>?_) (by rw[<-d.length,<-c.length];exact i);refine⟨.ref s.heap.objs.size,_,I.laid (λb o q=>hp9 _ q) (ao _) ?_,rfl,k (λw=>z (c.zu.mpr w)) _ (I.hok.fresh (ao _))⟩;exact⟨by simp_all,_,d.append c,JJ _ _⟩
end
def yk(n:Nat)(i:Int):Option Nat:=if 0<=i then(if i<n then a_ i.toNat else b_)else if -(n:Int)<=i then a_ (i+n).toNat else b_
def qH{α:Type}(xs:List α)(i:Int):Option α:=(yk xs.length i).bind λj=>xs[j]?
def zG(h:yk n i=a_ j):seqIndex? i n=a_ j/\j<n/\-(n:Int)<=i/\i<n:=by
 unfold yk at h;by_cases h0:0<=i
 .rw[if_pos h0]at h;by_cases h1:i<n
  .rw[if_pos h1]at h;have e :=bG h;exact⟨by rw[NJ h0 h1,e],by omega,by omega,h1⟩
  simp_all
 .rw[if_neg h0]at h;by_cases h1:-(n)<=i
  .rw[if_pos h1]at h;have e :=bG h;exact⟨by rw[JE (mS.mp h0) h1,e],by omega,h1,fN (mS.mp h0) (gG _)⟩
  simp_all
def zZ (h:qH xs i=a_ v):∃j,seqIndex? i xs.length=a_ j/\xs[j]?=a_ v/\j<xs.length/\-(xs.length:Int)<=i/\i<xs.length:=by
 unfold qH at h
 cases e:yk xs.length i with
 |none=>rw[e]at h;cases h
 |some j=>
   rw[e]at h;obtain⟨h1,h2,h3,a⟩:=zG e;exact⟨j,h1,h,h2,h3,a⟩
def jX{α:Type}{xs:List α}{j:Nat}{v:α}(h:xs[j]?=a_ v):qH xs (j:Int)=a_ v:=by
 have a :=(aR.mp h).1
 have e:yk xs.length (j)=a_ j:=by
  unfold yk
  simp_all
 unfold qH;rw[e];exact h
def Ac(b:a8):Prop:=∀o i,subscripted b d_ o i=operate [o,i] (getItem o i)
def W1(X:Cx)(r:R2):Prop:=
 ∀(value slice:a8)(h_:List (aI×lA))(s:ak)(σ:St)(H:Hp)(x y:V)(v u:ah)(Q:VK),Inv X h_ σ H s->RelV x v->RelV y u->r x y H Q->
  subscripted slice d_ v u=operate [v,u] (getItem v u)->aF (aG X.prog X.w) X.A (subscriptTail value slice v u) (EP X h_ σ Q) X.xe s
def Q5(X:Cx)(B:String)(r:V->List V->Hp->VK->Prop):Prop:=
 ∀(h_:List (aI×lA))(s:ak)(σ:St)(H:Hp)(x:V)(xs:List V)(v:ah)(us:List ah)(Q:VK),Inv X h_ σ H s->RelV x v->c7 xs us->r x xs H Q->
  aF (aG X.prog X.w) X.A (call (.builtin B) (v::us)) (EP X h_ σ Q) X.xe s
section
variable{a:a8}{tb:TE}
def FQ(B:W1 X r)(ha:PE X a ta)(hb:PE X b tb)(hs:Ac b):PE X (.Subscript a b pos) (RB r ta tb):=by
 intro h_ s σ H Q I h;exact Subscript_ (WM ha hb I h λv u s2 x y H2 c d e q=>B a b h_ s2 σ H2 x y v u Q c d e q (hs _ _))
def Yi(K:aN):R2:=λx y H Q=>∃p xs i v,x=.ref p/\y=.int i/\nM K H p xs/\qH xs i=a_ v/\Q v H
def Yh(K:aN):R2:=λx y H Q=>∃p xs i v,x=.ref p/\y=.int i/\tG K H p xs/\qH xs i=a_ v/\Q v H
def aaO:R2:=λx y H Q=>∃z i c,x=.str z/\y=.int i/\z.length<=aB/\qH z.cps.toList i=a_ c/\Q (.str ⟨#[c]⟩) H
def Gp:W1 X (Yi X.K):=by
 intro value slice h_ s σ H x y v u Q I e f h hs;refine ac λ_ a=>?_;obtain⟨p,xs,i,z,rfl,rfl,g,he,q⟩:=h;cases e;obtain⟨t,rfl⟩:=f;obtain⟨its,r,pl,k⟩:=I.list g;obtain⟨j,h1,h2,h3,l,h5⟩:=zZ he;obtain⟨w,d,b⟩:=r.get h2;refine a ?_;have hl:=r.length;have m:=td;have fin:EP X h_ σ Q w s:=⟨z,H,I,b,q⟩
 by_cases h0:0<=i
 .have c:i.toNat=j:=by
   rw[NJ h0 h5]at h1
   simp_all
  exact item_listR pl.isList h0 (fN h5 (fN (eU.mpr k) br)) (by rw[c];simpa using d) fin hs
 .have c:(i+(its.toArray.size)).toNat=j:=by
   rw[JE (mS.mp h0) l]at h1
   simp_all
  exact JI pl.isList.typeIs slot_list_getitem.lookup
   (wpAny_getItem_list_neg pl.isList (mS.mp h0) (by simp_all) (by omega) (by rw[c];simpa using d) ⟨rfl,fin⟩) hs
def LR:W1 X (Yh X.K):=by
 intro value slice h_ s σ H x y v u Q I c d h hs;refine ac λ_ a=>?_;obtain⟨p,xs,i,z,rfl,rfl,e,he,q⟩:=h;cases c;obtain⟨t,rfl⟩:=d;obtain⟨its,r,pl,f⟩:=I.tuple e;obtain⟨j,h1,h2,h3,k,h5⟩:=zZ he;obtain⟨w,g,b⟩:=r.get h2;refine a ?_;have l:=td;exact JI pl.typeIs slot_tuple_getitem.lookup
  (rW pl (by omega) (fN h5 (fN (eU.mpr f) br)) (by rw[bD,<-r.length];exact h1) (by simpa using g) ⟨rfl,⟨z,H,I,b,q⟩⟩) hs
def VV:W1 X aaO:=by
 intro value slice h_ s σ H x y v u Q I b d h hs;refine ac λ_ a=>?_;obtain⟨z,i,c,rfl,rfl,f,he,q⟩:=h;obtain⟨t,rfl⟩:=b;obtain⟨t',rfl⟩:=d;obtain⟨j,h1,h2,h3,e,h5⟩:=zZ he;refine a ?_;have hl:z.cps.toList.length=z.length:=by simp[Str.length]
 rw[hl]at h1 e h5;have g:=td
 exact NQ (typeIs_str s z t) slot_str_getitem.lookup (getItem_str (by
  grind) (by rw[h1];simpa using h2) ⟨.str ⟨#[c]⟩,H,I.tok _,⟨_,rfl⟩,q⟩) hs
def DU(its:List ah)(n j:Nat)(u:ah):fo (·.setIfInBounds j u) { cls:=.type "list",data:=.seq its.toArray n }={ cls:=.type "list",data:=.seq (its.set j u).toArray n }:=by
 simp[fo]
def Inv.lst(I:Inv X h_ σ H s)(h:H p=a_ (.lst xs)) :
  ∃(its:List ah) (n:Nat),c7 xs its/\s.heap.get? p=a_ { cls:=.type "list",data:=.seq its.toArray n }/\xs.length<=aB:=by
 obtain⟨z,its,n,r,e⟩:=I.hok p _ h;exact⟨its,n,r,e,z⟩
def Inv.VE{its B:List ah}(I:Inv X h_ σ H s)(h:H p=a_ (.lst xs))
  (ho:s.heap.get? p=a_ { cls:=.type "list",data:=.seq its.toArray n })(hf:f { cls:=.type "list",data:=.seq its.toArray n }={ cls:=.type "list",data:=.seq B.toArray n' })(r:c7 ys B)(O:ys.length<=aB)(t:Nat) :
  Inv X h_ σ (upd H p (.lst ys)) { s with heap:=s.heap.update p f,toks:=t }:=by
 have e:(s.heap.update p f).get? p=a_ { cls:=.type "list",data:=.seq B.toArray n' }:=by
  rw[fe f ho (by rw[hf]<;>rfl),hf]
 exact I.write (by rw[h];trivial) (.inl rfl) (λb u hb q=>(dO _ _ (dR hb)).trans q) ⟨_,e⟩ ⟨O,B,n',r,e⟩
def FD:V->V->V->Hp->(Hp->Prop)->Prop:=λo i v H Q=>∃p xs k j,o=.ref p/\i=.int k/\H p=a_ (.lst xs)/\yk xs.length k=a_ j/\Q (upd H p (.lst (xs.set j v)))
def set_list:WX X FD:=by
 intro h_ s σ H o i v l m u Q I c d e h;refine ac λ_ a=>?_;obtain⟨p,xs,k,j,rfl,rfl,hp,f,q⟩:=h;cases c;obtain⟨t,rfl⟩:=d;obtain⟨its,n,r,ho,g⟩:=I.lst hp;obtain⟨h1,h2,h3,b⟩:=zG f;refine a ?_;have hl:=r.length;have w:=td
 have I' :=
  I.VE hp ho (DU its n j u) (r.set e j) (by simp_all) s.toks
 by_cases h0:0<=k
 .have hk:k.toNat=j:=by
   rw[NJ h0 b]at h1
   simp_all
  exact PySem.W.ki_setAt ho h0 (fN b (fN (eU.mpr g) br)) (by simp_all) (by rw[hk];exact⟨_,I',q⟩)
 .have hk:(k+(its.toArray.size)).toNat=j:=by
   rw[JE (mS.mp h0) h3]at h1
   simp_all
  exact PySem.W.ki_setBack ho (mS.mp h0) (by simp_all) (by omega) (by rw[hk];exact⟨_,I',q⟩)
def zi(lo hi:Option Int)(n:Nat):(sliceBounds lo hi b_ n).1=((HT.iW n 0 lo:Nat):Int)/\(sliceBounds lo hi b_ n).2.1=((HT.iW n n hi:Nat):Int)/\(sliceBounds lo hi b_ n).2.2=1:=by
 refine⟨?_,?_,rfl⟩
 .cases lo with
  |none=>simp[sliceBounds,HT.iW]
  |some i=>
    simp only[sliceBounds,HT.iW,Jo,show(1:Int) > 0 by decide,if_true];by_cases h:i<0
    .simp only[h,if_true]<;>omega
    .simp only[h,if_false]<;>omega
 .cases hi with
  |none=>simp[sliceBounds,HT.iW]
  |some i=>
    simp only[sliceBounds,HT.iW,Jo,show(1:Int) > 0 by decide,if_true];by_cases h:i<0
    .simp only[h,if_true]<;>omega
    .simp only[h,if_false]<;>omega
def wW(its:List ah)(lo hi:Option Int):slicePick its.toArray lo hi b_=((its.drop (HT.iW its.length 0 lo)).take (HT.iW its.length its.length hi - HT.iW its.length 0 lo)).toArray:=by
 obtain⟨h1,h2,h3⟩:=zi lo hi its.toArray.size;unfold slicePick;rw[h1,h2,h3];simp only[sliceRange_one,pick_run,bD]<;>rfl
def aaM(K:aN):V->Option Int->Option Int->Hp->VK->Prop:=λx lo hi H Q=>∃a xs,x=.ref a/\nM K H a xs/\∀p,H p=b_->Q (.ref p) (upd H p (.lst (Ew xs lo hi)))
def OB:SlR X (aaM X.K):=by
 intro h_ s σ H x v g i lo hi sl Q I c hs pl d h;refine ac λ_ k=>?_;obtain⟨a,xs,rfl,e,q⟩:=h;cases c;obtain⟨its,r,ht,f⟩:=I.list e;refine k ?_;have hlen:=r.length;refine⟨"list",_,slot_list_getitem.lookup,ht.isList.typeIs,?_⟩;refine wpAny_getItem_list_slice ht.isList hs pl d .none (by simp) ?_ (by simp_all);rw[wW,<-hlen];refine⟨.ref s.heap.objs.size,_,I.laid (λb j q=>hp9 _ q) (ao _) ?_,rfl,q _ (I.hok.fresh (ao _))⟩;exact⟨aa (t4 xs lo hi) f,_,0,(r.drop (HT.iW xs.length 0 lo)).take (HT.iW xs.length xs.length hi - HT.iW xs.length 0 lo),aK _ rfl⟩
def zr:j2 X (compareOp .NotIn) (λx y H Q=>∃i j,x=.str i/\y=.str j/\Q (.bl (!(!(jh j i 0 j.length 1).isEmpty))) H):=by
 intro h_ s σ H x y v u Q I b c h;obtain⟨i,j,rfl,rfl,q⟩:=h;obtain⟨t,rfl⟩:=b;obtain⟨t',rfl⟩:=c;exact notIn_str ⟨.bl _,H,I,rfl,q⟩
def rN:kj X (.builtin "len") (λxs H Q=>∃p ys,xs=[.ref p]/\(nM X.K H p ys\/tG X.K H p ys)/\Q (.int ys.length) H):=by
 intro h_ s σ H xs us Q I r h;obtain⟨p,ys,rfl,b,q⟩:=h;obtain⟨u,rfl,d⟩:=vals1 r;cases d;have f:=td
 rcases b with b|b
 .obtain⟨its,c,pl,e⟩:=I.list b;have hlen:=c.length;exact Calls.call_len_list pl.isList (by simp only[bD]<;>omega) ⟨.int ys.length,H,I.tok _,⟨s.toks+1,by rw[bD,hlen]⟩,q⟩
 .obtain⟨its,c,pl,e⟩:=I.tuple b;have hlen:=c.length;exact uq pl (by simp only[bD]<;>omega) ⟨.int ys.length,H,I.tok _,⟨s.toks+1,by rw[bD,hlen]⟩,q⟩
def zX:kj X (.builtin "len") (λxs H Q=>∃z,xs=[.str z]/\z.length<=aB/\Q (.int z.length) H):=by
 intro h_ s σ H xs us Q I r h;obtain⟨z,rfl,b,q⟩:=h;obtain⟨u,rfl,t,rfl⟩:=vals1 r;have c:=td;exact len_str (by omega) ⟨.int z.length,H,I.tok _,⟨_,rfl⟩,q⟩
def qb:kj X (.type "tuple") (λxs H Q=>∃p ys,xs=[.ref p]/\((nM X.K H p ys/\∀l,H l=b_->Q (.ref l) (upd H l (.tup ys)))\/(tG X.K H p ys/\Q (.ref p) H))):=by
 intro h_ s σ H xs us Q I r h;obtain⟨p,ys,rfl,h⟩:=h;obtain⟨u,rfl,i⟩:=vals1 r;cases i
 rcases h with⟨c,q⟩|⟨c,q⟩
 .obtain⟨its,d,pl,f⟩:=I.list c;have hlen:=d.length;refine call_tuple_list pl.isList (λh' kp=>?_) (by grind);have g:Inv X h_ σ H { s with heap:=h' }:=I.kept kp
  have j:Inv X h_ σ (upd H h'.objs.size (.tup ys)) { s with heap:=h'.push { cls:=.type "tuple",data:=.seq its.toArray } }:=
   g.laid (λb o e=>hp9 _ e) (ao _) (⟨f,its,d,JJ _ _⟩)
  exact⟨.ref h'.objs.size,_,j,rfl,q _ (g.hok.fresh (ao _))⟩
 .obtain⟨its,d,pl,f⟩:=I.tuple c;exact call_tuple_same pl ⟨.ref p,H,I,rfl,q⟩
def tyV(K:aN)(T:String)(x:V)(H:Hp):Prop:=match x with
 |.str _=>T="str"
 |.int _=>T="int"
 | .ref p=>(T="list"/\∃xs,nM K H p xs)\/(T="tuple"/\∃o,K.lookup p=a_ o/\o.cls=.type "tuple"/\o.dict=b_)\/
   (T="dict"/\((∃k_,H p=a_ (.dK k_))\/∃k_,H p=a_ (.dT k_)))\/(T="set"/\∃S n,H p=a_ (.set S n))
 |_=>False
def JU{T:String}(I:Inv X h_ σ H s)(r:RelV x v)(ty:tyV X.K T x H) :
  s.TypeIs v T/\∀a,v=.ref a->∃B,s.heap.get? a=a_ B/\B.dict=b_:=by
 cases x with
 |str z=>
   obtain⟨t,rfl⟩:=r;cases(ty);exact⟨typeIs_str s z t,λ_ e=>nomatch e⟩
 |int i=>
   obtain⟨t,rfl⟩:=r;cases(ty);exact⟨typeIs_int s i t,λ_ e=>nomatch e⟩
 |ref p=>
   cases r
   rcases ty with⟨rfl,xs,b⟩|⟨rfl,o,hk,hc,hd⟩|⟨rfl,hk⟩|⟨rfl,S,n,hk⟩
   .obtain⟨its,_,pl,_⟩:=I.list b;refine⟨pl.isList.typeIs,λa e=>?_⟩;cases e;obtain⟨o,n,e,c,hd,_⟩:=pl;exact⟨o,e,hd⟩
   .refine⟨⟨o,I.DZ p o hk,hc⟩,λa e=>?_⟩;cases e;exact⟨o,I.DZ _ o hk,hd⟩
   .have z:∃o,s.heap.get? p=a_ o/\o.ExactDict:=by
     rcases hk with⟨k_,hk⟩|⟨k_,hk⟩
     .obtain⟨_,_,_,_,o,_,_,e,ex,_⟩:=I.hok p _ hk;exact⟨o,e,ex⟩
     .obtain⟨_,_,_,_,o,_,_,e,ex,_⟩:=I.hok p _ hk;exact⟨o,e,ex⟩
    obtain⟨o,e,ex⟩:=z;refine⟨⟨o,e,ex.1⟩,λa e2=>?_⟩;cases e2;exact⟨o,e,ex.2.1⟩
   .refine ac λ_ d=>?_;obtain⟨o,_,_,_,e,ex,_⟩:=I.hok p _ hk;refine d ?_;refine⟨⟨o,e,ex.1⟩,λa e2=>?_⟩;cases e2;exact⟨o,e,ex.2.1⟩
 |_=>exact i7 ty
def XO(K:aN)(T:String)(r:V->List V->Hp->VK->Prop)(to:TE):TE:=λσ H Q=>to σ H λx b=>tyV K T x b/\r x [] b Q
def S5(K:aN)(T:String)(r:V->List V->Hp->VK->Prop)(to:TE)(t:TA):TE:=λσ H Q=>to σ H λx b=>tyV K T x b/\t σ b λxs H2=>r x xs H2 Q
variable{apos cpos:xv}{T id:String}
def UT(Z:PlainAttrs T)(slot:NN T name id)(Y:typeOf (.builtin id)=pure (.type "method_descriptor"))(hm:Q5 X id r)(ho:PE X o to)
  (B:attributeBase o name X.env (eval o X.env)=eval o X.env)(O:(apos.endLine == cpos.line)=c_):PE X (.Call (.Attribute o name apos) [] [] cpos) (XO X.K T r to):=by
 intro h_ s σ H Q I h;refine wpAny_Call_method0_late B O (iR (ho h_ s σ H _ I h) λv s1 ⟨x,d,b,c,ty,e⟩=>?_);exact⟨T,id,Z,slot,Y,(JU b c ty).1,(JU b c ty).2,Ax rfl (PySem.evalArgs_none (hm h_ s1 σ d x [] v [] Q b c .nil e))⟩
def vv(pa:PlainAttrs T)(slot:NN T name id)(hty:typeOf (.builtin id)=pure (.type "method_descriptor"))(hm:Q5 X id r)(ho:PE X o to)(ha:PA X (e::es) t)
  (O:attributeBase o name X.env (eval o X.env)=eval o X.env)
  (Z:((backTo cpos (aQ (e::es) X.env)).all (λx=>!x.1) && (backToKw cpos (keywordEach [] X.env)).all (λx=>x.1.isSome)
   && decide ((e::es).length+([]:List Keyword).length+(if([]:List Keyword).isEmpty then 0 else 1)<30))=c_:=by rfl)
  (Y:(apos.endLine == cpos.line)=c_:=by rfl)(hs:aQ (e::es) X.env=(d_,eval e X.env)::aQ es X.env:=by rfl)(B:(backTo cpos (aQ es X.env)).any (·.1)=d_:=by rfl) :
  PE X (.Call (.Attribute o name apos) (e::es) [] cpos) (S5 X.K T r to t):=by
 intro h_ s σ H Q I h;refine wpAny_Call_method_late O Z Y rfl (iR (ho h_ s σ H _ I h) λv s1 ⟨x,f,b,c,ty,g⟩=>?_);refine⟨T,id,pa,slot,hty,(JU b c ty).1,(JU b c ty).2,?_⟩;have d:=ha cpos h_ s1 σ f _ b g;rw[hs]at d ⊢;exact Ax (by show(d_ || (backTo cpos (aQ es X.env)).any (·.1))=d_;rw[B]<;>rfl) (Calls.evalArgs_plain (iR d λus s2 ⟨vs,H2,i,j,k⟩=>hm h_ s2 σ H2 x vs v us Q i c j k))
end
def MtM(X:Cx)(B:String)(r:V->List V->Hp->VK->Prop):Prop:=
 ∀(h_:List (aI×lA))(s:ak)(σ:St)(H:Hp)(x:V)(xs:List V)(v:ah)(us:List ah)(Q:VK),Inv X h_ σ H s->RelV x v->c7 xs us->r x xs H Q->
  aF (aG X.prog X.w) X.A (call (.builtin B) (v::us)) (EP X h_ σ Q) X.xe s
def c7.one:∀{x:V}{us:List ah},c7 [x] us->∃u,us=[u]/\RelV x u
 |_,_,.cons r .nil=>⟨_,rfl,r⟩
section
def Inv.VF{its B:List ah}(I:Inv X h_ σ H s)(O:H l=a_ (.lst xs))
  (e:s.heap.get? l=a_ { cls:=.type "list",data:=.seq its.toArray n })(hf:f its.toArray=B.toArray)(Y:c7 ys B)(Z:ys.length<=aB) :
  Inv X h_ σ (upd H l (.lst ys)) { s with heap:=s.heap.update l (fo f),toks:=t' }:=by
 have q:=PySem.IsL.update e f;rw[hf]at q;exact I.write (by rw[O];exact trivial) (.inl rfl) (λb u hb a=>(dO s.heap (fo f) (dR hb)).trans a) ⟨_,q⟩ ⟨Z,B,_,Y,q⟩
def Inv.YR(I:Inv X h_ σ H s)(B:c7 ys its)(O:ys.length<=aB) :
  Inv X h_ σ (upd H s.heap.objs.size (.lst ys)) { s with heap:=s.heap.push { cls:=.type "list",data:=.seq its.toArray },toks:=t' }:=
 I.laid (λ_ _ q=>hp9 _ q) (ao _) ⟨O,its,0,B,aK _ rfl⟩
def Inv.fresh(I:Inv X h_ σ H s):H s.heap.objs.size=b_:=I.hok.fresh (ao _)
def Inv.ID(I:Inv X h_ σ H s)(B:H l=a_ (.lst xs)):xs.length<=aB/\∃(its:List ah) (n:Nat),c7 xs its/\xs.length=its.length/\s.heap.get? l=a_ { cls:=.type "list",data:=.seq its.toArray n }:=by
 obtain⟨z,its,n,r,e⟩:=I.hok l _ B;exact⟨z,its,n,r,r.length,e⟩
def Bm(h:n<=aB):fQ n=d_:=by
 exact decide_eq_false (λz=>(aS z h))
end
section
def FE:V->List V->Hp->VK->Prop:=λx vs H Q=>∃l xs y,x=.ref l/\vs=[y]/\H l=a_ (.lst xs)/\xs.length<aB/\Q .non (upd H l (.lst (xs++[y])))
def sV:MtM X "list.append" FE:=by
 intro h_ s σ H x vs v us Q I b c h;refine ac λ_ g=>?_;obtain⟨l,xs,y,rfl,rfl,a,d,q⟩:=h;cases b;obtain⟨u,rfl,f⟩:=c.one;obtain⟨z,its,n,r,hl,e⟩:=I.ID a;refine g ?_;refine C0 jm ⟨_,e,rfl⟩ F.entry_list_append (F.args_list_append_2 _ _) (PySem.list_append l its.toArray n u (by simp_all)) ⟨e,?_⟩;refine⟨.non,_,I.VF a e (by simp) (r.append (.cons f .nil)) ?_,rfl,q⟩;rw[ag];exact d
def aaQ:R2:=λx y H Q=>∃l b xs a,x=.ref l/\y=.ref b/\H l=a_ (.lst xs)/\H b=a_ (.lst a)/\xs.length+a.length<=aB/\∀p,H p=b_->Q (.ref p) (upd H p (.lst (xs++a)))
def U7:j2 X (binaryOp .Add) aaQ:=by
 intro h_ s σ H x y v u Q I c d h;refine ac λ_ w=>?_;obtain⟨l,b,xs,m,rfl,rfl,f,g,o,q⟩:=h;cases c;cases d;obtain⟨z,its,n,r,hl,e⟩:=I.ID f;obtain⟨p,a,t,i,j,e2⟩:=I.ID g;refine w ?_;refine PySem.P.add_list e e2 ?_ (by simp_all);have k:its.toArray++a.toArray=(its++a).toArray:=by simp
 rw[k];exact⟨.ref _,_,I.YR (r.append i) (by rw[ag];omega),rfl,q _ I.fresh⟩
end
section
end
section
end
end L2
namespace Att
open PySem PySem.W PySem.Calls PyProof.Rows
def ug:∀(ns:List Int)(vs:List ah),WellAll P h vs (ns.map WData.int)->CK vs ns:=by
 intro ns
 induction ns with
 |nil=>
   intro vs w;cases w;exact .nil
 |cons n ns c=>
   intro vs w
   cases w with
   |cons a b=>
     cases a;exact .cons _ _ (c _ b)
def HP{l:ju}(Y:l.most=a_ n)
  (B:l.row.toRowW.claim.pre args=c_)(O:WellAll P h vals args) :
  ∃a vs ns,vals=[dt a]/\args=[WData.list (ns.map WData.int)]/\h.get? a=a_ { cls:=.type "list",data:=.seq vs.toArray }/\CK vs ns/\ns.length<=n:=by
 obtain⟨d,r,rfl,h1,h2⟩:=hasAllW_cons ((pre_splitW B).1);obtain rfl:=hasAllW_nil h2;obtain⟨xs,rfl,h3⟩:=hasW_list h1;obtain⟨ns,rfl⟩:=items_int h3
 have hlen:ns.length<=n:=by
  have c:(WTm.not (.lt (.lit (.int (n))) (.len (.arg 0)))).holds [] { args:=[.list (ns.map .int)] }=c_:=by
   have c:=(holds_andW ((pre_splitW B).2)).1;rw[Y]at c;exact c
  have h5:=condW_of c (w_not (w_lt w_lit (w_len_list (w_arg rfl))))
  simp_all
 cases O with
 |cons e f=>
   cases f
   cases e with
   |list ho b=>exact⟨_,_,ns,rfl,rfl,ho,ug ns _ b,hlen⟩
def Im(l:ju)(args:List WData):l.row.toRowW.claim.post args (.bool c_) args=c_:=
 postW_of
  (by first|rfl|decide|simp)
  (w_eq_bool (w_res rfl) w_lit) rfl
def CA{l:ju}{d:DefRec}
  (hn:l.most=a_ n)(Z:d.params.defaults=[])
  (call:∀(w:du)(s₀ s₁:ak)(mg mb:be->Option ah)(B:aI)(o:lA)(pm O doc:ah)(a:aI)(vs:List ah)(ns:List Int),
   Ground q loose [] XP w s₀ mg mb s₁.heap->YP w s₁.heap->
   s₁.heap.get? B=a_ o->o.data=.func (docDef d.name d.params d.body d.scope pm O doc)->s₁.heap.CodeRec O d.name->mg d.name=a_ (.ref B)->
   s₁.heap.get? a=a_ { cls:=.type "list",data:=.seq vs.toArray }->CK vs ns->ns.length<=n->s₁.gens=#[]->
   codeAny (aG l.prog w) callerA (.call (.ref B) ⟨[.ref a],[]⟩) (λr s'=>r=.ok (.ret (.bool c_))/\OldK s₁.heap s'.heap/\s'.os=s₁.os/\oO s'.gens) s₁) :
  wN q loose XP YP l.row.toRowW d [] (λf vs=>Hl f vs):=by
 intro w s₀ s₁ mg mb G Y B o pm O doc k kV ho hd e i g m args vals as b j p h s;refine ac λ_ x=>?_;obtain rfl:k=.none:=Dflts.none i Z;obtain rfl:kV=.none:=Dflts.noKw i;obtain⟨a,vs,ns,rfl,rfl,c,hints,hlen⟩:=HP hn b h;refine x ?_;refine enter_call (kX (call w s₀ s₁ mg mb B o pm O doc a vs ns G Y ho (fd_plain hd) e g c hints hlen m) λr s' t=>?_);obtain⟨rfl,h2,h3,u⟩:=t;exact⟨.inl ⟨.bool c_,.bool c_,[],rfl,λ_=>rfl,.bool c_,Im l _,λ_=>⟨xI,λ_ v=>(nomatch v)⟩⟩,h2,h3,u⟩
section
variable{K:aN}
end
end Att
namespace L2
open PySem PySem.Spec PyProof.Rows
theorem xK:∀{vs:List ah}{ns:List Int},CK vs ns->c7 (ns.map V.int) vs
 |_,_,.nil=>.nil
 |_,_,.cons n t h=>.cons ⟨t,rfl⟩ (xK h)
def WY(H:Hp):Prop:=∀b,H b=b_\/∃o xs,H b=a_ (.mN o (.lst xs))
def LP{K:aN}{s₁:ak}{vs:List ah}
  (KX:K.In s₁.heap)(O:s₁.heap.Ns mainGlobals mg)(hb:s₁.heap.Ns builtinsNs mb)(Z:∀x:be,x≠"__name__"->mb x=bootBuiltins x)(Y:s₁.heap.NoLimit)(hg:s₁.gens=#[])
  (ha:s₁.heap.get? a=a_ { cls:=.type "list",data:=.seq vs.toArray })(hi:CK vs ns)(hl:ns.length<=aB)(hr:nN k callerA)
  (F:∀base:cM,K.In base->base.Ns mainGlobals mg->ot P w K mg base CX k fa fd [x] sp)(B:∀(s:ak)(u:ah),CJ s fd ⟨[u],[]⟩ [(x,u)])
  (hsp:∀H:Hp,WY H->nM K H a (ns.map V.int)->sp [.ref a] H (λv _=>v=.bl c_) λ_ _ _=>False)
  (hCX:∀H e s',CX [] H s₁ (λ_ _ _=>False) e s'->False) :
  codeAny (aG P w) callerA (.call (.ref fa) ⟨[.ref a],[]⟩) (λr s'=>r=.ok (.ret (.bool c_))/\OldK s₁.heap s'.heap/\s'.os=s₁.os/\oO s'.gens) s₁:=by
 have y:=xK hi;have core:∀H:Hp,WY H->nM K H a (ns.map V.int)->rQ P w H s₁.heap->(∀b,H b≠b_->b=a)->(H a≠b_->K.lookup a=b_)->
   codeAny (aG P w) callerA (.call (.ref fa) ⟨[.ref a],[]⟩) (λr s'=>r=.ok (.ret (.bool c_))/\OldK s₁.heap s'.heap/\s'.os=s₁.os/\oO s'.gens) s₁:=by
  intro H A D hok C E;have c:∀{b:aI}{o:lA},s₁.heap.get? b=a_ o->H b=b_->(BN s₁.heap H).get? b=a_ o:=λe n=>Mf e n
  have l:∀{b:aI}{o:lA}{es:Array DictEntry}{ep:Nat},s₁.heap.get? b=a_ o->o.data=.dict es ep->H b=b_:=λ{b o es ep}e d=>by
   cases q:H b with
   |none=>rfl
   |some u=>
     have p :=C b (by rw[q];simp);subst p;rw[ha]at e;cases e;cases d
  have f:∀{b:aI}{m:be->Option ah},s₁.heap.Ns b m->(BN s₁.heap H).Ns b m:=λ{b m} ⟨o,es,ep,e,d,r⟩=>⟨o,es,ep,c e (l e d),d,r⟩
  have i :=λb o e=>c (KX b o e) (by
   cases q:H b with
   |none=>rfl
   |some u=>
     have p :=C b (by rw[q];simp);subst p
     rw[E (by rw[q];simp)]at e;cases e)
  have G:Mod K mg (BN s₁.heap H):=⟨i,f O,⟨mb,f hb,Z⟩,let ⟨mc,h1,h2⟩:=Y;⟨mc,f h1,h2⟩⟩
  refine kX ((F _ i (f O)).run callerA [] s₁ H ⟨[.ref a],[]⟩ [.ref a] [.ref a] _ _ hr ⟨rfl,G,λb o e=>PF e,ae (IM _ _),trivial,λb hb=>absurd (show b∈([])from hb) (by simp),hok,.of_eq hg⟩ (B s₁ (.ref a)) (.cons rfl .nil) (hsp H A D)) λr s' h=>?_
  cases r with
  |error e=>exact(hCX H e s' h).elim
  |ok fl=>
    cases fl with
    |next=>exact i7 h
    |brk=>exact i7 h
    |cont=>exact i7 h
    |ret u=>
      refine ac λ_ g=>?_;obtain⟨v,H',os,bare,un,j,J,q⟩:=h;subst q;obtain rfl:u=Value.bool c_:=J;refine g ?_;refine⟨rfl,OldK.of_keep λb o e=>?_,os,bare⟩
      cases q:H b with
      |none=>exact un.keep b o e q (by intro z;exact absurd (show b∈([])from z) (by simp)) (by simp)
      |some u=>
        rcases A b with z|⟨M,xs,z⟩
        .rw[q]at z;cases z
        .have N:=un.frzs b M _ z;obtain⟨e1,_⟩:=hok b _ z;rw[e]at e1;cases e1;exact (j b _ N).1
 cases hk:K.lookup a with
 |some o=>
   have e:=KX a o hk;rw[ha]at e;refine ac λ_ g=>?_;cases e;refine g ?_;refine core (λ_=>b_) (λ_=>.inl rfl) (.inr ⟨_,vs.toArray,_,hk,rfl,rfl,rfl,by rw[bD,hi.length];exact hl,by simpa using y⟩) (λb u z=>by cases z) (λb z=>absurd rfl z) λz=>absurd rfl z
 |none=>
   refine core (λb=>if b=a then a_ (.mN { cls:=.type "list",data:=.seq vs.toArray } (.lst (ns.map V.int)))else b_) (λb=>?_) (.inl (.inr ⟨{ cls:=.type "list",data:=.seq vs.toArray },if_pos rfl⟩)) (λb u z=>?_) (λb z=>?_) λ_=>hk
   .by_cases hb:b=a
    .exact .inr ⟨_,_,if_pos hb⟩
    .exact .inl (if_neg hb)
   .by_cases hb:b=a
    .have t:=(if_pos hb).symm.trans z;cases t;subst hb;exact⟨ha,by simp_all,vs,_,y,ha⟩
    simp_all
   simp_all
abbrev KOf{K:aN}{h:cM}(_:K.In h):aN:=K
def N6{l:ju}{n k:Nat}{q:cJ}{loose:List be}{XP:(be->Option ah)->cM->Prop}{YP:du->cM->Prop}{d:DefRec}{K:Params->aN}{CX:du->Xv}{sp:du->Sp}{x:be}
  (hn:l.most=a_ n)(O:n<=aB)(Z:d.params.defaults=[])(hr:nN k callerA)
  (hY:∀(w:du)(h:cM),YP w h->(K w.params).In h)
  (F:∀(w:du)(mg:be->Option ah)(B:aI)(h:cM),(K w.params).In h->h.Ns mainGlobals mg->mg d.name=a_ (.ref B)->
   ∃fd:j4,(∀(s:ak)(u:ah),CJ s fd ⟨[u],[]⟩ [(x,u)])/\
    ∀base:cM,(K w.params).In base->base.Ns mainGlobals mg->ot l.prog w (K w.params) mg base (CX w) k B fd [x] (sp w))
  (hsp:∀(w:du)(H:Hp)(a:aI)(ns:List Int),ns.length<=n->WY H->nM (K w.params) H a (ns.map V.int)->sp w [.ref a] H (λv _=>v=.bl c_) λ_ _ _=>False)
  (hCX:∀(w:du)(H:Hp)(s:ak)(e:ah)(s':ak),CX w [] H s (λ_ _ _=>False) e s'->False) :
  wN q loose XP YP l.row.toRowW d [] (λf vs=>Hl f vs):=by
 refine Att.CA hn Z λw s₀ s₁ mg mb B o pm z doc a vs ns G Y ho hd m i c hints hlen p=>?_;have j:=hY w _ Y;obtain⟨fd,hb,r⟩:=F w mg B _ j G.T.g i;exact LP j G.T.g G.T.b G.T.builtins G.T.nolimit p c hints (aa hlen O) hr r hb (λH t y=>hsp w H a ns hlen t y) λH e s'=>hCX w H s₁ e s'
end L2
namespace L2
open PySem PySem.Spec PyProof.Rows
noncomputable def zQ(s:lz):Arguments:=match s with
 |.FunctionDef _ a _ _ _ _ _ _ _ _=>a
 |_=>{ posonlyargs:=[],args:=[],vararg:=b_,kwonlyargs:=[],kw_defaults:=[],kwarg:=b_,defaults:=[] }
noncomputable def pL(s:lz):List lz:=match s with
 |.FunctionDef _ _ b _ _ _ _ _ _ _=>b
 |_=>[]
noncomputable def eD(s:lz):m7:=match s with
 |.FunctionDef _ _ _ _ _ _ sc _ _ _=>sc
 |_=>{ kind:=.function,names:=[],isGenerator:=d_,isCoroutine:=d_ }
abbrev Jl:Xv:=λ_ _ _ _ _ _=>False
abbrev E0:XK:=λ_ _ _=>False
def RM:Ad Jl X E0:=λ_ _ _ _ _ _ _ h=>h.elim
structure Fun(K:aN)(x qual:be)(st:lz)(f:aI)(fd:j4):Prop where
 ex:∃(oc:ah) (od:Option aI) (kV doc pm:ah) (an:Option aI) (cdv ct:ah) (osl:Array (Option ah)),
  fd=qK x qual (zQ st) (pL st) (eD st) .none kV doc pm an cdv ct/\K.lookup f=a_ ⟨oc,od,.func fd,osl⟩/\uO K cdv qual=c_
 kp:gJ K (.ref f)=c_
section
variable{K:aN}{base:cM}
def Fun.ok{st:lz}(F:Fun K x qual st f fd)(S:rS N ps (eD st))(len:∀vs H Q E,sp vs H Q E->vs.length=ps.length)
  (B:∀(cdv:ah)(A:bX)(outer:List Ri)(s:ak)(H:Hp)(vs:List V)(Q:VK)(E:XK),nN k (A.deeper (envOfC qual (eD st) s.heap.objs.size f cdv))->sp vs H Q E->
   ∃t,An (Cf Jl P w K mg base N qual (eD st) f cdv A outer s H E).Xf (pL st) t/\t { nx:=λ_ H'=>Q .non H',rt:=Q } (start N vs) H):ot P w K mg base Jl (k+1) f fd ps sp:=by
 refine ac λ_ e=>?_;obtain⟨oc,od,kV,doc,pm,an,cdv,ct,osl,rfl,c,a⟩:=F.ex;refine e ?_;refine Zg c a S len λA outer s H vs Q E d b=>?_;obtain⟨t,h,q⟩:=B cdv A outer s H vs Q E d b;exact⟨t,h.Xf,q⟩
end
section
end
def D2{A B:Prop}(h:B):if d_=c_ then A else B:=by
 exact h
def D1{A B:Prop}(h:A):if c_=c_ then A else B:=by
 exact h
def cj(H H':Hp):Prop:=∀b o,H b=a_ o->H' b=a_ o
def cj.refl(H:Hp):cj H H:=λ_ _ h=>h
def cj.trans(a:cj H H1)(b:cj H1 H2):cj H H2:=λc o h=>b c o (a c o h)
def cj.free(e:cj H H')(h:H' l=Option.none):H l=Option.none:=by
 cases q:H l with
 |none=>rfl
 |some o=>
   rw[e l o q]at h;cases h
def cj.seq{K:aN}(e:cj H H')(h:nM K H a xs):nM K H' a xs:=by
 rcases h with(h|⟨o,h⟩)|h
 .exact .inl (.inl (e _ _ h))
 .exact .inl (.inr ⟨o,e _ _ h⟩)
 .exact .inr h
section
variable{κ:Type}[DecidableEq κ]
def lM(k_:List (κ×V))(k:κ):Option V:=(k_.find? λa=>decide (a.1=k)).map (·.2)
noncomputable def putK(k_:List (κ×V))(k:κ)(v:V):List (κ×V):=
 if(k_.any λa=>decide (a.1=k))=c_ then k_.map (λa=>if a.1=k then(a.1,v)else a)else k_++[(k,v)]
def qQ{p:κ×V}{r:List (κ×V)}{k:κ}(e:p.1=k):lM (p::r) k=a_ p.2:=by simp[lM,e]
def oX{p:κ×V}{r:List (κ×V)}{k:κ}(e:¬p.1=k):lM (p::r) k=lM r k:=by simp[lM,e]
theorem AI(k:κ):∀k_:List (κ×V),(k_.any λB=>decide (B.1=k))=(lM k_ k).isSome
 |[]=>rfl
 |p::r=>by
   rw[nR];by_cases e:p.1=k
   .simp only[qQ e,decide_eq_true e,Bool.true_or,Option.isSome_some]
   .rw[oX e,decide_eq_false e];exact AI k r
def tR(k_:List (κ×V))(k:κ)(v:V):(putK k_ k v).length<=k_.length+1:=by
 unfold putK;split
 .simp
 simp
def uh.nH(r:uh o u):o.isSome=u.isSome:=by
 cases o with
 | none=>cases u with
   |none=>rfl
   |some _=>exact(r).elim
 | some _=>cases u with
   |none=>exact(r).elim
   |some _=>rfl
theorem uh.getD(r:uh o u)(B:RelV d d'):RelV (o.getD d) (u.getD d'):=by
 cases o with
 | none=>cases u with
   |none=>exact B
   |some _=>exact(r).elim
 | some _=>cases u with
   |none=>exact(r).elim
   |some _=>exact r
def KV.val(r:KV k_ vs)(k:κ):uh (lM k_ k) (valueAt vs k):=by
 induction r with
 |nil=>exact kW
 | @cons p q ps a h t d=>
   obtain⟨h1,h2⟩:=h;by_cases e:p.1=k
   .have c :=h1.symm.trans e;have b:valueAt (q::a) k=a_ q.2:=by simp[valueAt,c]
    rw[qQ e,b];exact h2
   .have c:¬q.1=k:=λz=>e (h1.trans z);have b:valueAt (q::a) k=valueAt a k:=by simp[valueAt,c]
    rw[oX e,b];exact d
theorem KV.any(r:KV k_ vs)(k:κ):(k_.any λB=>decide (B.1=k))=vs.any λB=>decide (B.1=k):=by
 induction r with
 |nil=>rfl
 |cons h t a=>simp_all
def KV.UC(r:KV k_ vs)(k:κ)(O:RelV y u) :
  KV (k_.map λB=>if B.1=k then(B.1,y)else B) (vs.map λB=>if B.1=k then(B.1,u)else B):=by
 induction r with
 |nil=>exact .nil
 | @cons p q ps b h t a=>
   rw[aA];refine .cons ?_ a;by_cases e:p.1=k
   .simp_all
   simp_all
def KV.put(r:KV k_ vs)(k:κ)(B:RelV y u):KV (putK k_ k y) (stored vs k u):=by
 unfold putK stored;rw[r.any k];by_cases e:(vs.any λa=>decide (a.1=k))=c_
 .rw[if_pos e,if_pos e];exact r.UC k B
 .rw[if_neg e,if_neg e];exact Paired.snoc r ⟨rfl,B⟩
def KV.length{k_:List (κ×V)}{vs:List (κ×ah)}(r:KV k_ vs):k_.length=vs.length:=qg r
end
def rA(r:RelV (kV k) u):(cz P w).is k u=c_:=by
 cases k with
 |inl i=>obtain⟨t,e⟩:=(r);subst e;exact Bt P w i t
 |inr x=>obtain⟨t,e⟩:=(r);subst e;exact Bs P w x t
theorem yn:∀{ks:List Key}{us:List ah},c7 (ks.map kV) us->ItemsAre (cz P w) ks us
 |[],_,r=>by cases r;exact .nil
 |k::ks,_,r=>by
   cases r with
   |cons h t=>exact .cons (rA h) (yn t)
abbrev KT(H:Hp):List (List Key×V)->List (List Key×aI×ah)->Prop:=iC λp q=>p.1=q.1/\H q.2.1=a_ (.tup (p.1.map kV))/\RelV p.2 q.2.2
def KT.val(r:KT H k_ xs)(k:List Key):uh (lM k_ k) ((atKey xs k).map (·.2)):=by
 induction r with
 |nil=>exact kW
 | @cons p q ps a h t d=>
   obtain⟨h1,_,h2⟩:=h;by_cases e:p.1=k
   .have c :=h1.symm.trans e;have b:atKey (q::a) k=a_ q.2:=by simp[atKey,c]
    rw[qQ e,b];exact h2
   .have c:¬q.1=k:=λz=>e (h1.trans z);have b:atKey (q::a) k=atKey a k:=by simp[atKey,c]
    rw[oX e,b];exact d
def KT.UC(r:KT H k_ xs)(k:List Key)(O:RelV y u) :
  KT H (k_.map λB=>if B.1=k then(B.1,y)else B) (xs.map (putAt k u)):=by
 induction r with
 |nil=>exact .nil
 | @cons p q ps b h t a=>
   rw[aA];refine .cons ?_ a;obtain⟨h1,h2,h3⟩:=h;unfold putAt;by_cases e:p.1=k
   .rw[if_pos e,if_pos (h1.symm.trans e)];exact⟨h1,h2,O⟩
   .rw[if_neg e,if_neg (λz=>e (h1.trans z))];exact⟨h1,h2,h3⟩
def KT.put(r:KT H k_ xs)(k:List Key)(hb:H b=a_ (.tup (k.map kV)))(B:RelV y u) :
  KT H (putK k_ k y) (storedH xs k b u):=by
 have e:(k_.any λa=>decide (a.1=k))=(atKey xs k).isSome:=by
  rw[AI,(r.val k).nH,rX]
 unfold putK storedH;rw[e];by_cases q:(atKey xs k).isSome=c_
 .rw[if_pos q,if_pos q];exact r.UC k B
 .rw[if_neg q,if_neg q];exact Paired.snoc r ⟨rfl,hb,B⟩
def KT.keeps(r:KT H k_ xs)(ht:∀b ys,H b=a_ (.tup ys)->H' b=a_ (.tup ys)):KT H' k_ xs:=
 Paired.Vz r λ_ _ z=>⟨z.1,ht _ _ z.2.1,z.2.2⟩
section
def RI(ok:rQ P w H h)(e:Rd H a u):kU P w H h a u:=e.ok ok
def v5(ok:rQ P w H h)(e:Rd H a (.dK k_)):k_.length<=aB/\(a == sysModules)=d_/\∃vs,KV k_ vs/\h.DictOf (cz P w) a vs:=
 RI ok e
def Sj(ok:rQ P w H h)(e:H a=a_ (.dK k_)):k_.length<=aB/\(a == sysModules)=d_/\∃vs,KV k_ vs/\h.DictOf (cz P w) a vs:=v5 ok (.inl e)
def tf{ks:List Key}(ok:rQ P w H h)(e:H a=a_ (.tup (ks.map kV))):(tupleKind (cz P w)).is h ks a:=by
 refine ac λ_ b=>?_;obtain⟨_,its,r,o,h1,h2,n,h3⟩:=(ok a _ e)
 refine b ?_;exact⟨o,its.toArray,n,h1,h2,h3,by simpa using yn r⟩
def yA(ok:rQ P w H h)(e:Rd H a (.dT k_)):k_.length<=aB/\(a == sysModules)=d_/\
  ∃xs,KT H k_ xs/\h.DictOfH (tupleKind (cz P w)) a xs:=by
 refine ac λ_ i=>?_;obtain⟨z,y,xs,r,o,es,ep,h1,h2,h3,c,h5⟩:=(RI ok e)
 refine i ?_;refine⟨z,y,xs,r,o,es,ep,h1,h2,h3,c,λx b=>?_,h5⟩
 have all:∀{l:List (List Key×V)}{m:List (List Key×aI×ah)},KT H l m->∀x∈m,(tupleKind (cz P w)).is h x.1 x.2.1:=by
  intro l m q
  induction q with
  |nil=>simp
  | @cons p q ps f g t d=>
    intro x b
    rcases au.mp b with e|b
    .exact tf ok (by simp_all)
    .exact d x b
 exact all r x b
def Zs(ok:rQ P w H h)(e:H a=a_ (.dT k_)):k_.length<=aB/\(a == sysModules)=d_/\
  ∃xs,KT H k_ xs/\h.DictOfH (tupleKind (cz P w)) a xs:=yA ok (.inl e)
end
def qC(H:Hp)(a:aI)(y:V)(r:Option V):Prop:=
 (∃k_ k,Rd H a (.dK k_)/\y=kV k/\r=lM k_ k)\/∃k_ k b,Rd H a (.dT k_)/\y=.ref b/\H b=a_ (.tup (k.map kV))/\r=lM k_ k
def Q9(H:Hp)(a:aI)(y v:V)(H':Hp):Prop:=
 (∃k_ k,H a=a_ (.dK k_)/\y=kV k/\k_.length<aB/\H'=upd H a (.dK (putK k_ k v)))\/
 ∃k_ k b,H a=a_ (.dT k_)/\y=.ref b/\H b=a_ (.tup (k.map kV))/\k_.length<aB/\H'=upd H a (.dT (putK k_ k v))
def qC.k{H:Hp}{a:aI}{k_:List (Key×V)}{k:Key}(e:H a=a_ (.dK k_)):qC H a (kV k) (lM k_ k):=.inl ⟨k_,k,.inl e,rfl,rfl⟩
def Q9.k{H:Hp}{a:aI}{k_:List (Key×V)}{k:Key}{v:V}(e:H a=a_ (.dK k_))(hl:k_.length<aB):Q9 H a (kV k) v (upd H a (.dK (putK k_ k v))):=.inl ⟨k_,k,e,rfl,hl,rfl⟩
section
variable{A:bX}
def Inv.big(I:Inv X h_ σ H s):sysModules<s.heap.objs.size:=by
 exact cY br ((I.mod.glob.keeps I.bk).lt)
def yB(Y:A.units+1<dc)(I:Inv X h_ σ H s)(g:qC H a y (a_ v))(O:RelV y u)(h:∀B s',Inv X h_ σ H s'->RelV v B->Q B s') :
  aF (aG X.prog X.w) A (getItem (.ref a) u) Q E s:=by
 rcases g with⟨k_,k,e,d,l⟩|⟨k_,k,b,e,d,m,l⟩
 .subst d;obtain⟨z,hd,vs,rel,f⟩:=v5 I.hok e;obtain⟨B,i,c⟩:=uh.some_of (by rw[l];exact rel.val k);exact wpAny_getItem_of (rA O) f.mapOf i (h B _ (I.tok _) c)
 .refine ac λ_ n=>?_;subst d;cases(O);obtain⟨z,hd,xs,rel,f⟩:=yA I.hok e;obtain⟨B,i,c⟩:=uh.some_of (by rw[l];exact rel.val k);obtain⟨p,hp,j⟩:=dY i;refine n ?_;refine wpAny_getItem_heap (kn Y) (tf I.hok m) f hp ?_;rw[j];exact h B _ (I.tok _) c
def abx(O:A.units+1<dc)(I:Inv X h_ σ H s)(g:qC H a y o)(B:RelV y u)(h:∀s',Inv X h_ σ H s'->Q (.bool o.isSome) s') :
  aF (aG X.prog X.w) A (compareOp .In u (.ref a)) Q E s:=by
 rcases g with⟨k_,k,e,c,l⟩|⟨k_,k,b,e,c,f,l⟩
 .subst c;obtain⟨z,hd,vs,rel,d⟩:=v5 I.hok e;refine wpAny_in_of (rA B) hd d.mapOf ?_;rw[<-(rel.val k).nH,<-l];exact h _ (I.tok _)
 .subst c;cases(B);obtain⟨z,hd,xs,rel,d⟩:=yA I.hok e;refine Hi (kn O) (tf I.hok f) hd d ?_;have q:=(rel.val k).nH;rw[rX]at q;rw[<-q,<-l];exact h _ (I.tok _)
def QI(O:A.units+1<dc)(I:Inv X h_ σ H s)(g:qC H a y o)(B:RelV y u)(h:∀s',Inv X h_ σ H s'->Q (.bool (!o.isSome)) s') :
  aF (aG X.prog X.w) A (compareOp .NotIn u (.ref a)) Q E s:=by
 rcases g with⟨k_,k,e,c,l⟩|⟨k_,k,b,e,c,f,l⟩
 .subst c;obtain⟨z,hd,vs,rel,d⟩:=v5 I.hok e;refine wpAny_notIn_of (rA B) hd d.mapOf ?_;rw[<-(rel.val k).nH,<-l];exact h _ (I.tok _)
 .subst c;cases(B);obtain⟨z,hd,xs,rel,d⟩:=yA I.hok e;refine wpAny_notIn_heap (kn O) (tf I.hok f) hd d ?_;have q:=(rel.val k).nH;rw[rX]at q;rw[<-q,<-l];exact h _ (I.tok _)
def GU(I:Inv X h_ σ H s)(B:ZS (H a))(hs:cL a s.heap h')(he:∃q,h'.get? a=a_ q)(new:kU X.prog X.w (upd H a ob) h' a ob) :
  Inv X h_ σ (upd H a ob) { s with heap:=h',toks:=t' }:=
 I.write B (.inl rfl) (λb q hb z=>(hs.2 b hb).trans z) he new
def Wl{h':cM}{k_:List (Key×V)}(z:k_.length<=aB)(hd:(a == sysModules)=d_)(rel:KV k_ vs)(B:h'.DictOf (cz P w) a vs) :
  kU P w H' h' a (.dK k_):=⟨z,hd,vs,rel,B⟩
def IX(Y:A.units+1<dc)(I:Inv X h_ σ H s)(g:Q9 H a y v H')(B:RelV y u)(O:RelV v r)(h:∀s',Inv X h_ σ H' s'->Q () s') :
  aF (aG X.prog X.w) A (setItem (.ref a) u r) Q E s:=by
 rcases g with⟨k_,k,e,i,l,j⟩|⟨k_,k,b,e,i,n,l,j⟩
 .subst i j;obtain⟨z,hd,vs,rel,m⟩:=Sj I.hok e;have p:vs.length<=aB:=by rw[<-rel.length];exact z
  refine wpAny_setItem_pairs (rA B) m λh' d hs=>h _ ?_;exact GU I (by rw[e];exact kW) hs (let ⟨q,_,_,f,_⟩:=d;⟨q,f⟩) (Wl (aa (tR k_ k v) l) hd (rel.put k O) d)
 .subst i j;cases(B);obtain⟨z,hd,xs,rel,m⟩:=Zs I.hok e;have p:xs.length<=aB:=by rw[<-qg rel];exact z
  refine wpAny_setItem_heap (kn Y) (tf I.hok n) m λh' d hs=>h _ ?_;refine ac λ_ x=>?_;obtain⟨q,es,ep,f,h2,h3,t,_,h5⟩:=d;refine x ?_;refine GU I (by rw[e];exact kW) hs ⟨q,f⟩ ⟨(aa (tR k_ k v) l),hd,_,(rel.put k n O).keeps λc ys o=>?_,q,es,ep,f,h2,h3,t,h5⟩;rw[cZ (YG o e (λz=>nomatch z))];exact o
end
section
def Zt(I:Inv X h_ σ H s)(e:Rd H a (.dK k_))(h:∀t s',Inv X h_ σ H s'->Q (.int k_.length t) s'):aF (aG X.prog X.w) A (call (.builtin "len") [.ref a]) Q E s:=by
 obtain⟨z,hd,vs,rel,b⟩:=v5 I.hok e;refine call_len_dict hd b (by rw[<-rel.length];exact eE (eU.mpr z) br) ?_;rw[<-rel.length];exact h _ _ (I.tok _)
end
def tZ(I:Inv X h_ σ H s)(g:qC H a y o):s.TypeIs (.ref a) "dict":=by
 rcases g with⟨k_,k,e,_,_⟩|⟨k_,k,b,e,_,_,_⟩
 .obtain⟨_,_,vs,_,c⟩:=v5 I.hok e;exact c.typeIs
 .obtain⟨_,_,xs,_,c⟩:=yA I.hok e;exact c.typeIs
section
end
def MG(h:cM)(hb:sysModules<h.objs.size):kU P w H (h.push { cls:=.type "dict",data:=.dict #[] }) h.objs.size (.dK []):=
 ⟨aM _,beq_eq_false_iff_ne.mpr (dR (bw hb)),[],.nil,Heap.DictOf.new h⟩
def S4:TE:=λ_ H Q=>∀p,H p=b_->Q (.ref p) (upd H p (.dK []))
section
def K7:PE X (.Dict [] [] pos) S4:=λh_ s σ H Q I h=>
 wpAny_Dict_empty ⟨.ref s.heap.objs.size,_,I.laid (λ_ _ q=>hp9 _ q) (ao _) (MG s.heap I.big),rfl,h _ (I.hok.fresh (ao _))⟩
end
section
variable{A:bX}
def Wq(Z:A.units+1<dc)(I:Inv X h_ σ H s)(g:qC H a y o)(B:RelV y u)(O:RelV d r)(h:∀Y s',Inv X h_ σ H s'->RelV (o.getD d) Y->Q Y s') :
  aF (aG X.prog X.w) A (call (.builtin "dict.get") [.ref a,u,r]) Q E s:=by
 rcases g with⟨k_,k,e,f,l⟩|⟨k_,k,b,e,f,i,l⟩
 .subst f;obtain⟨z,hd,vs,rel,c⟩:=v5 I.hok e;refine call_meetsIn oG c.typeIs yV (xC _ _ _) (meets_dict_get_default (cz X.prog X.w) a (rA B) hd r) ⟨_,c.mapOf,h _ _ (I.tok _) ?_⟩;rw[l];exact(rel.val k).getD O
 .subst f;cases(B);obtain⟨z,hd,xs,rel,c⟩:=yA I.hok e;refine call_meetsIn oG c.typeIs yV (xC _ _ _) (meetsH_dict_get_default (tupleKind (cz X.prog X.w)) a b hd r) ⟨kn Z,k,xs,tf I.hok i,c,h _ _ (I.tok _) ?_⟩;rw[l];exact(rel.val k).getD O
end
section
end
section
end
section
end
end L2
namespace M
open PySem PySem.Spec PyProof.Rows L2
set_option genInjectivity true in
inductive Dat where
 |non|bl (b:Bool)|int (i:Int)|str (x:be)|tup (xs:List Dat)|lst (xs:List Dat)|dct (ks:List Key) (vs:List Dat)
 deriving Inhabited
abbrev Fg:=aN
def Tq(K:Fg)(F:Hp)(a:aI)(vs:List V):Prop:=F a=a_ (.tup vs)\/∃(o:lA) (its:Array ah) (n:Nat),K.lookup a=a_ o/\o.cls=.type "tuple"/\o.data=.seq its n/\its.size<=aB/\c7 vs its.toList
def Tq.sq{K:Fg}(h:Tq K F a vs):tG K F a vs:=by
 rcases h with h|h
 .exact .inl (.inl h)
 .exact .inr h
def Tq.mono{K:Fg}(s:cj F F')(h:Tq K F a vs):Tq K F' a vs:=by
 rcases h with h|h
 .exact .inl (s _ _ h)
 .exact .inr h
def NH(K:Fg)(F:Hp):List N2->List V->Prop
 |[],vs=>vs=[]
 |.inl k::ks,vs=>∃r,vs=kV k::r/\NH K F ks r
 |.inr q::ks,vs=>∃b r,vs=.ref b::r/\Tq K F b (q.map kV)/\NH K F ks r
def NG(K:Fg)(F:Hp):List NK->List V->Prop
 |[],vs=>vs=[]
 |.inl k::ks,vs=>∃r,vs=kV k::r/\NG K F ks r
 |.inr q::ks,vs=>∃b r us,vs=.ref b::r/\Tq K F b us/\NH K F q us/\NG K F ks r
def NKy(K:Fg)(F:Hp)(k:List NK)(a:aI):Prop:=∃vs,Tq K F a vs/\NG K F k vs
def EN(K:Fg)(F:Hp)(ks:List (List NK))(xs:List (List NK×aI)):Prop:=xs.map (·.1)=ks/\∀x∈xs,NKy K F x.1 x.2
theorem NH.imp{K:Fg}(f:∀b vs,Tq K F b vs->Tq K F' b vs):∀{ks:List N2}{vs:List V},NH K F ks vs->NH K F' ks vs
 |[],_,h=>h
 |.inl k::ks,_,h=>by obtain⟨r,e,h⟩:=h;exact⟨r,e,NH.imp f h⟩
 |.inr q::ks,_,h=>by obtain⟨b,r,e,t,h⟩:=h;exact⟨b,r,e,f _ _ t,NH.imp f h⟩
theorem NG.imp{K:Fg}(f:∀b vs,Tq K F b vs->Tq K F' b vs):∀{ks:List NK}{vs:List V},NG K F ks vs->NG K F' ks vs
 |[],_,h=>h
 |.inl k::ks,_,h=>by obtain⟨r,e,h⟩:=h;exact⟨r,e,NG.imp f h⟩
 |.inr q::ks,_,h=>by obtain⟨b,r,us,e,t,u,h⟩:=h;exact⟨b,r,us,e,f _ _ t,u.imp f,NG.imp f h⟩
def EN.imp{K:Fg}(f:∀b vs,Tq K F b vs->Tq K F' b vs)(h:EN K F ks xs):EN K F' ks xs:=
 ⟨h.1,λx a=>let ⟨vs,t,r⟩:=h.2 x a;⟨vs,f _ _ t,r.imp f⟩⟩
mutual
def Rep(K:Fg)(F:Hp):Dat->V->Prop
 |.non,v=>v=.non
 |.bl b,v=>v=.bl b
 |.int i,v=>v=.int i
 |.str x,v=>v=.str x
 |.tup ds,v=>∃a vs,v=.ref a/\Tq K F a vs/\c9 K F ds vs
 |.lst ds,v=>∃a vs,v=.ref a/\nM K F a vs/\c9 K F ds vs
 |.dct ks ds,v=>∃a k_,v=.ref a/\F a=a_ (.dK k_)/\k_.map (·.1)=ks/\c9 K F ds (k_.map (·.2))
def c9(K:Fg)(F:Hp):List Dat->List V->Prop
 |[],vs=>vs=[]
 |d::ds,vs=>∃v r,vs=v::r/\Rep K F d v/\c9 K F ds r
end
mutual
theorem Rep.mono{K:Fg}(s:cj F F'):∀(d:Dat){v:V},Rep K F d v->Rep K F' d v
 |.non,_,h=>h
 |.bl _,_,h=>h
 |.int _,_,h=>h
 |.str _,_,h=>h
 |.tup ds,_,⟨a,vs,e,t,r⟩=>⟨a,vs,e,t.mono s,c9.mono s ds r⟩
 |.lst ds,_,⟨a,vs,e,t,r⟩=>⟨a,vs,e,s.seq t,c9.mono s ds r⟩
 |.dct _ ds,_,⟨a,k_,e,t,k,r⟩=>⟨a,k_,e,s _ _ t,k,c9.mono s ds r⟩
theorem c9.mono{K:Fg}(s:cj F F'):∀(ds:List Dat){vs:List V},c9 K F ds vs->c9 K F' ds vs
 |[],_,h=>h
 |d::ds,_,⟨v,r,e,h1,h2⟩=>⟨v,r,e,Rep.mono s d h1,c9.mono s ds h2⟩
end
theorem c9.length{K:Fg}:∀{ds:List Dat}{vs:List V},c9 K F ds vs->vs.length=ds.length
 |[],_,h=>by rw[h];rfl
 |d::ds,_,a=>by obtain⟨v,r,e,_,h2⟩:=a;rw[e,bx,bx,c9.length h2]
theorem c9.get{K:Fg}:∀{ds:List Dat}{vs:List V}{i:Nat}{d:Dat},c9 K F ds vs->ds[i]?=a_ d->∃v,vs[i]?=a_ v/\Rep K F d v
 |[],_,_,_,_,e=>by simp at e
 |d::ds,_,0,_,a,z=>by obtain⟨v,r,e,h1,_⟩:=a;simp at z;subst z;subst e;exact⟨v,rfl,h1⟩
 |d::ds,_,i+1,_,a,z=>by
   obtain⟨v,r,e,_,h2⟩:=a;subst e;obtain⟨w,b,c⟩:=c9.get h2 (by simpa using z);exact⟨w,by simpa using b,c⟩
theorem c9.append{K:Fg}:∀{ds es:List Dat}{vs us:List V},c9 K F ds vs->c9 K F es us->c9 K F (ds++es) (vs++us)
 |[],_,_,_,h,h'=>by rw[h];exact h'
 |d::ds,_,_,_,a,h'=>by obtain⟨v,r,e,h1,h2⟩:=a;subst e;exact⟨v,r++_,rfl,h1,c9.append h2 h'⟩
def c9.one{K:Fg}(h:Rep K F d v):c9 K F [d] [v]:=⟨v,[],rfl,h,rfl⟩
theorem c9.take{K:Fg}:∀(n:Nat){ds:List Dat}{vs:List V},c9 K F ds vs->c9 K F (ds.take n) (vs.take n)
 |0,_,_,_=>by simp[c9]
 |n+1,[],_,h=>by rw[h];exact rfl
 |n+1,d::ds,_,a=>by obtain⟨v,r,e,h1,h2⟩:=a;subst e;exact⟨v,r.take n,rfl,h1,c9.take n h2⟩
theorem c9.drop{K:Fg}:∀(n:Nat){ds:List Dat}{vs:List V},c9 K F ds vs->c9 K F (ds.drop n) (vs.drop n)
 |0,_,_,h=>h
 |n+1,[],_,h=>by rw[h];exact rfl
 |n+1,d::ds,_,a=>by obtain⟨v,r,e,h1,h2⟩:=a;subst e;exact c9.drop n h2
mutual
noncomputable def im:Dat->Bool
 |.lst _=>d_
 |.dct _ _=>d_
 |.tup ds=>kC ds
 |_=>c_
noncomputable def kC:List Dat->Bool
 |[]=>c_
 |d::ds=>im d && kC ds
end
structure Good(F H:Hp):Prop where
 sub:cj F H
 tup:∀a vs,H a=a_ (.tup vs)->F a=a_ (.tup vs)
structure Step(F H F' H':Hp):Prop where
 good:Good F' H'
 ff:cj F F'
 hh:cj H H'
 un:∀a o,H a=a_ o->F a=b_->F' a=b_
def Step.refl(g:Good F H):Step F H F H:=⟨g,cj.refl _,cj.refl _,λ_ _ _ n=>n⟩
def Step.trans{F1:Hp}(a:Step F H F1 H1)(b:Step F1 H1 F2 H2):Step F H F2 H2:=
 ⟨b.good,a.ff.trans b.ff,a.hh.trans b.hh,λx o h n=>b.un x o (a.hh x o h) (a.un x o h n)⟩
def cj.upd(hp:H p=b_):cj H (upd H p o):=λb u e=>by rw[cZ (eQ e hp)];exact e
def Step.alloc(g:Good F H)(hp:H p=b_):Step F H (upd F p o) (upd H p o):=by
 have c:F p=b_:=by
  cases q:F p with
  |none=>rfl
  |some u=>rw[g.sub p u q]at hp;cases hp
 refine⟨⟨λb u e=>?_,λa vs e=>?_⟩,cj.upd c,cj.upd hp,λa u h n=>?_⟩
 .by_cases hb:b=p
  .subst hb;rw[cO]at e ⊢;exact e
  .rw[cZ hb]at e ⊢;exact g.sub b u e
 .by_cases hb:a=p
  .subst hb;rw[cO]at e ⊢;exact e
  .rw[cZ hb]at e ⊢;exact g.tup a vs e
 .rw[cZ (eQ h hp)];exact n
noncomputable def shr(F H F1:Hp):Hp:=λa=>match F a,H a with
 |none,a_ _=>b_
 |_,_=>F1 a
def T4{F1:Hp}(h:shr F H F1 a=a_ o):F1 a=a_ o:=by
 unfold shr at h
 cases q:F a with
 |none=>
   cases b:H a with
   |none=>simp_all
   |some u=>simp_all
 |some u=>rw[q]at h;exact h
def Du{F1:Hp}(h:F a≠b_\/H a=b_):shr F H F1 a=F1 a:=by
 unfold shr
 cases q:F a with
 |none=>
   simp_all
 |some u=>rfl
def Step.shrink{F1:Hp}(g:Good F H)(s:cj F Fp)(st:Step Fp H F1 H1):Step F H (shr F H F1) H1:=by
 refine⟨⟨λa o e=>st.good.sub a o (T4 e),λa vs e=>?_⟩,λa o e=>?_,st.hh,λa o h n=>?_⟩
 .rw[Du ?_]
  .exact (st.good.tup a vs e)
  .cases q:H a with
   |none=>exact .inr rfl
   |some u=>
     have:=st.hh a u q;rw[e]at this;cases this;exact .inl (by rw[g.tup a vs q];simp)
 .rw[Du (.inl (by rw[e];simp))];exact st.ff a o (s a o e)
 .unfold shr;rw[n,h]
def Tq.shrink{K:Fg}{F1:Hp}(g:Good F H)(st:Step Fp H F1 H1)(h:Tq K F1 a vs):Tq K (shr F H F1) a vs:=by
 rcases h with h|h
 .refine .inl ?_;rw[Du ?_]
  .exact h
  .cases q:H a with
   |none=>exact .inr rfl
   |some u=>
     have:=st.hh a u q;rw[st.good.sub a _ h]at this;cases this;exact .inl (by rw[g.tup a vs q];simp)
 .exact .inr h
mutual
theorem Rep.shrink{K:Fg}{F1:Hp}(g:Good F H)(st:Step Fp H F1 H1):∀(d:Dat){v:V},im d=c_->Rep K F1 d v->Rep K (shr F H F1) d v
 |.non,_,_,h=>h
 |.bl _,_,_,h=>h
 |.int _,_,_,h=>h
 |.str _,_,_,h=>h
 |.tup ds,_,m,⟨a,vs,e,t,r⟩=>⟨a,vs,e,t.shrink g st,c9.shrink g st ds m r⟩
 |.lst ds,_,m,_=>nomatch m
 |.dct _ _,_,m,_=>nomatch m
theorem c9.shrink{K:Fg}{F1:Hp}(g:Good F H)(st:Step Fp H F1 H1):∀(ds:List Dat){vs:List V},kC ds=c_->c9 K F1 ds vs->c9 K (shr F H F1) ds vs
 |[],_,_,h=>h
 |d::ds,_,m,b=>by
   obtain⟨v,r,e,h1,h2⟩:=b;have a:im d=c_/\kC ds=c_:=by simpa [kC]using m
   exact⟨v,r,e,Rep.shrink g st d a.1 h1,c9.shrink g st ds a.2 h2⟩
end
mutual
def my(K:Fg)(H:Hp):Dat->V->List aI->Prop
 |.non,v,S=>v=.non/\S=[]
 |.bl b,v,S=>v=.bl b/\S=[]
 |.int i,v,S=>v=.int i/\S=[]
 |.str x,v,S=>v=.str x/\S=[]
 |.tup ds,v,S=>∃a vs,v=.ref a/\Tq K H a vs/\df K H ds vs S
 |.lst ds,v,S=>∃a vs S',v=.ref a/\H a=a_ (.lst vs)/\df K H ds vs S'/\S=a::S'
 |.dct ks ds,v,S=>∃a k_ S',v=.ref a/\H a=a_ (.dK k_)/\k_.map (·.1)=ks/\df K H ds (k_.map (·.2)) S'/\S=a::S'
def df(K:Fg)(H:Hp):List Dat->List V->List aI->Prop
 |[],vs,S=>vs=[]/\S=[]
 |d::ds,vs,S=>∃v r a b,vs=v::r/\my K H d v a/\df K H ds r b/\S=a++b
end
mutual
theorem my.mono{K:Fg}(s:cj H H'):∀(d:Dat){v:V}{S:List aI},my K H d v S->my K H' d v S
 |.non,_,_,h=>h
 |.bl _,_,_,h=>h
 |.int _,_,_,h=>h
 |.str _,_,_,h=>h
 |.tup ds,_,_,⟨a,vs,e,t,r⟩=>⟨a,vs,e,t.mono s,df.mono s ds r⟩
 |.lst ds,_,_,⟨a,vs,S',e,t,r,q⟩=>⟨a,vs,S',e,s _ _ t,df.mono s ds r,q⟩
 |.dct _ ds,_,_,⟨a,k_,S',e,t,k,r,q⟩=>⟨a,k_,S',e,s _ _ t,k,df.mono s ds r,q⟩
theorem df.mono{K:Fg}(s:cj H H'):∀(ds:List Dat){vs:List V}{S:List aI},df K H ds vs S->df K H' ds vs S
 |[],_,_,h=>h
 |d::ds,_,_,⟨v,r,a,b,e,h1,h2,q⟩=>⟨v,r,a,b,e,my.mono s d h1,df.mono s ds h2,q⟩
end
def Jj:HO->Prop
 |.lst _=>True
 |.dK _=>True
 |_=>False
mutual
theorem my.v3{K:Fg}:∀(d:Dat){v:V}{S:List aI},my K H d v S->∀a∈S,∃o,H a=a_ o/\Jj o
 |.non,_,_,h=>by rw[h.2];intro a m;cases m
 |.bl _,_,_,h=>by rw[h.2];intro a m;cases m
 |.int _,_,_,h=>by rw[h.2];intro a m;cases m
 |.str _,_,_,h=>by rw[h.2];intro a m;cases m
 |.tup ds,_,_,⟨a,vs,e,t,r⟩=>df.v3 ds r
 |.lst ds,_,_,c=>by
   obtain⟨a,vs,S',e,t,r,q⟩:=c;subst q;intro b m
   rcases au.mp m with rfl|m
   .exact⟨_,t,trivial⟩
   .exact df.v3 ds r b m
 |.dct _ ds,_,_,c=>by
   obtain⟨a,k_,S',e,t,k,r,q⟩:=c;subst q;intro b m
   rcases au.mp m with rfl|m
   .exact⟨_,t,trivial⟩
   .exact df.v3 ds r b m
theorem df.v3{K:Fg}:∀(ds:List Dat){vs:List V}{S:List aI},df K H ds vs S->∀a∈S,∃o,H a=a_ o/\Jj o
 |[],_,_,h=>by rw[h.2];intro a m;cases m
 |d::ds,_,_,c=>by
   obtain⟨v,r,f,g,e,h1,h2,q⟩:=c;subst q;intro b m
   rcases ax.mp m with m|m
   .exact my.v3 d h1 b m
   .exact df.v3 ds h2 b m
end
def fz(F H:Hp)(S:List aI):Hp:=λa=>if a∈S then H a else F a
def BV(h:a∈S):fz F H S a=H a:=if_pos h
def qu(h:a∉S):fz F H S a=F a:=if_neg h
def Wb(g:cj F H):cj (fz F H S) H:=λa o e=>by
 by_cases m:a∈S
 .rw[BV m]at e;exact e
 .rw[qu m]at e;exact g a o e
def qt(g:cj F H):cj F (fz F H S):=λa o e=>by
 by_cases m:a∈S
 .rw[BV m];exact g a o e
 .rw[qu m];exact e
def uI(g:Good F H):Good (fz F H S) H:=⟨Wb g.sub,λa vs e=>qt g.sub a _ (g.tup a vs e)⟩
mutual
theorem my.mN{K:Fg}(g:Good F H):∀(d:Dat){v:V}{S T:List aI},my K H d v S->(∀a∈S,a∈T)->Rep K (fz F H T) d v
 |.non,_,_,_,h,_=>h.1
 |.bl _,_,_,_,h,_=>h.1
 |.int _,_,_,_,h,_=>h.1
 |.str _,_,_,_,h,_=>h.1
 |.tup ds,_,_,_,c,m=>by
   obtain⟨a,vs,e,t,r⟩:=c;refine⟨a,vs,e,?_,df.mN g ds r m⟩
   rcases t with t|t
   .exact .inl (qt g.sub _ _ (g.tup _ _ t))
   .exact .inr t
 |.lst ds,_,_,_,c,m=>by
   obtain⟨a,vs,S',e,t,r,q⟩:=c;subst q;refine⟨a,vs,e,.inl (.inl ?_),df.mN g ds r λb hb=>m b (ki _ hb)⟩;rw[BV (m a jy)];exact t
 |.dct _ ds,_,_,_,c,m=>by
   obtain⟨a,k_,S',e,t,k,r,q⟩:=c;subst q;refine⟨a,k_,e,?_,k,df.mN g ds r λb hb=>m b (ki _ hb)⟩;rw[BV (m a jy)];exact t
theorem df.mN{K:Fg}(g:Good F H):∀(ds:List Dat){vs:List V}{S T:List aI},df K H ds vs S->(∀a∈S,a∈T)->c9 K (fz F H T) ds vs
 |[],_,_,_,h,_=>h.1
 |d::ds,_,_,_,b,m=>by
   obtain⟨v,r,c,f,e,h1,h2,q⟩:=b;subst q;exact⟨v,r,e,my.mN g d h1 λa ha=>m a (az _ ha),df.mN g ds h2 λa ha=>m a (ai _ ha)⟩
end
mutual
theorem my.kT{K:Fg}(g:cj F H):∀(d:Dat){v:V},im d=c_->Rep K F d v->my K H d v []
 |.non,_,_,h=>⟨h,rfl⟩
 |.bl _,_,_,h=>⟨h,rfl⟩
 |.int _,_,_,h=>⟨h,rfl⟩
 |.str _,_,_,h=>⟨h,rfl⟩
 |.tup ds,_,m,⟨a,vs,e,t,r⟩=>⟨a,vs,e,t.mono g,df.kT g ds m r⟩
 |.lst ds,_,m,_=>nomatch m
 |.dct _ _,_,m,_=>nomatch m
theorem df.kT{K:Fg}(g:cj F H):∀(ds:List Dat){vs:List V},kC ds=c_->c9 K F ds vs->df K H ds vs []
 |[],_,_,h=>⟨h,rfl⟩
 |d::ds,_,m,b=>by
   obtain⟨v,r,e,h1,h2⟩:=b;have a:im d=c_/\kC ds=c_:=by simpa [kC]using m
   exact⟨v,r,[],[],e,my.kT g d a.1 h1,df.kT g ds a.2 h2,rfl⟩
end
mutual
theorem my.upd{K:Fg}(hp:∀vs,H p≠a_ (.tup vs)):∀(d:Dat){v:V}{S:List aI},my K H d v S->p∉S->my K (upd H p o) d v S
 |.non,_,_,h,_=>h
 |.bl _,_,_,h,_=>h
 |.int _,_,_,h,_=>h
 |.str _,_,_,h,_=>h
 |.tup ds,_,_,f,n=>by
   obtain⟨a,vs,e,t,r⟩:=f;refine⟨a,vs,e,?_,df.upd hp ds r n⟩
   rcases t with t|t
   .refine .inl ?_;rw[cZ (λz=>hp vs (by rw[<-z];exact t))];exact t
   .exact .inr t
 |.lst ds,_,_,f,n=>by
   obtain⟨a,vs,S',e,t,r,q⟩:=f;subst q;have c:a≠p:=λz=>n (z▸jy);exact⟨a,vs,S',e,(cZ c).trans t,df.upd hp ds r (λm=>n (ki _ m)),rfl⟩
 |.dct _ ds,_,_,f,n=>by
   obtain⟨a,k_,S',e,t,k,r,q⟩:=f;subst q;have c:a≠p:=λz=>n (z▸jy);exact⟨a,k_,S',e,(cZ c).trans t,k,df.upd hp ds r (λm=>n (ki _ m)),rfl⟩
theorem df.upd{K:Fg}(hp:∀vs,H p≠a_ (.tup vs)):∀(ds:List Dat){vs:List V}{S:List aI},df K H ds vs S->p∉S->df K (upd H p o) ds vs S
 |[],_,_,h,_=>h
 |d::ds,_,_,a,n=>by
   obtain⟨v,r,b,c,e,h1,h2,q⟩:=a;subst q;exact⟨v,r,b,c,e,my.upd hp d h1 (λm=>n (az _ m)),df.upd hp ds h2 (λm=>n (ai _ m)),rfl⟩
end
theorem df.length{K:Fg}:∀{ds:List Dat}{vs:List V}{S:List aI},df K H ds vs S->vs.length=ds.length
 |[],_,_,h=>by rw[h.1];rfl
 |d::ds,_,_,a=>by obtain⟨v,r,b,c,e,_,h2,_⟩:=a;rw[e,bx,bx,df.length h2]
theorem df.append{K:Fg}:∀{ds es:List Dat}{vs us:List V}{S T:List aI},df K H ds vs S->df K H es us T->df K H (ds++es) (vs++us) (S++T)
 |[],_,_,_,_,_,h,h'=>by rw[h.1,h.2];exact h'
 |d::ds,_,_,_,_,_,a,h'=>by obtain⟨v,r,b,c,e,h1,h2,q⟩:=a;subst e q;exact⟨v,r++_,b,c++_,rfl,h1,df.append h2 h',by rw[aJ]⟩
def df.one{K:Fg}(h:my K H d v S):df K H [d] [v] S:=⟨v,[],S,[],rfl,h,⟨rfl,rfl⟩,by simp⟩
abbrev St:=L2.St
abbrev iy:=List (Option Dat)
def nO(K:Fg)(F:Hp)(σ:St)(ρ:iy):Prop:=∀(i:Nat)d,ρ[i]?=a_ (a_ d)->∃v,σ[i]?=a_ (a_ v)/\Rep K F d v
def nO.mono{K:Fg}(s:cj F F')(h:nO K F σ ρ):nO K F' σ ρ:=λi d e=>let ⟨v,q1,q2⟩:=h i d e;⟨v,q1,q2.mono s⟩
def gf(K:Fg)(H H':Hp)(d:Dat)(v:V):Prop:=∃S:List aI,S.Nodup/\(∀a∈S,H a=b_)/\my K H' d v S
def fJ(K:Fg)(H H':Hp)(ds:List Dat)(vs:List V):Prop:=∃S:List aI,S.Nodup/\(∀a∈S,H a=b_)/\df K H' ds vs S
def gf.back{K:Fg}{F:Hp}(s:cj H0 H)(h:gf K H H' d v):gf K H0 H' d v:=by
 obtain⟨S,n,e,r⟩:=h;exact⟨S,n,λa m=>s.free (e a m),r⟩
def fJ.back{K:Fg}{F:Hp}(s:cj H0 H)(h:fJ K H H' ds vs):fJ K H0 H' ds vs:=by
 obtain⟨S,n,e,r⟩:=h;exact⟨S,n,λa m=>s.free (e a m),r⟩
def gf.kT{K:Fg}(g:Good F H')(m:im d=c_)(r:Rep K F d v):gf K H H' d v:=⟨[],ee,(λa z=>by cases z),my.kT g.sub d m r⟩
def fJ.kT{K:Fg}(g:Good F H')(m:kC ds=c_)(r:c9 K F ds vs):fJ K H H' ds vs:=⟨[],ee,(λa z=>by cases z),df.kT g.sub ds m r⟩
def fJ.cons{K:Fg}{H B H2:Hp}{d:Dat}{ds:List Dat}{v:V}{vs:List V}(s:cj H B)(s':cj B H2)(h:gf K H B d v)(hs:fJ K B H2 ds vs):fJ K H H2 (d::ds) (v::vs):=by
 obtain⟨S,n,e,r⟩:=h;obtain⟨T,c,f,g⟩:=hs;refine⟨S++T,cC.mpr ⟨n,c,λa ha b hb z=>?_⟩,λa m=>?_,v,vs,S,T,rfl,r.mono s',g,rfl⟩
 .subst z;obtain⟨o,ho,_⟩:=r.v3 _ a ha
  grind
 .rcases ax.mp m with m|m
  .exact e a m
  .exact s.free (f a m)
def fJ.snoc{K:Fg}(s:cj H H1)(s':cj H1 H2)(hs:fJ K H H1 ds vs)(h:gf K H1 H2 d v):fJ K H H2 (ds++[d]) (vs++[v]):=by
 refine ac λ_ i=>?_;obtain⟨S,n,e,r⟩:=hs;obtain⟨T,c,f,g⟩:=h;refine i ?_;refine⟨S++T,cC.mpr ⟨n,c,λa ha b hb z=>?_⟩,λa m=>?_,(r.mono s').append (.one g)⟩
 .subst z;obtain⟨o,ho,_⟩:=r.v3 _ a ha
  grind
 .rcases ax.mp m with m|m
  .exact e a m
  .exact s.free (f a m)
def fJ.mono{K:Fg}(s:cj H1 H')(h:fJ K H H1 ds vs):fJ K H H' ds vs:=by
 obtain⟨S,n,e,r⟩:=h;exact⟨S,n,e,r.mono s⟩
def fJ.nil{K:Fg}:fJ K H H1 [] []:=⟨[],ee,(λa z=>by cases z),rfl,rfl⟩
def gf.lst{K:Fg}(s:cj H H1)(hp:H1 p=b_)(h:fJ K H H1 ds vs):gf K H (L2.upd H1 p (.lst vs)) (.lst ds) (.ref p):=by
 obtain⟨S,n,e,r⟩:=h;refine⟨p::S,aX.mpr ⟨λm=>?_,n⟩,λa m=>?_,p,vs,S,rfl,cO,r.mono (cj.upd hp),rfl⟩
 .obtain⟨o,ho,_⟩:=r.v3 _ p m;rw[hp]at ho;cases ho
 .rcases au.mp m with rfl|m
  .exact s.free hp
  .exact e a m
def gf.tup{K:Fg}(hp:H1 p=b_)(h:fJ K H H1 ds vs):gf K H (L2.upd H1 p (.tup vs)) (.tup ds) (.ref p):=by
 obtain⟨S,n,e,r⟩:=h;exact⟨S,n,e,p,vs,rfl,.inl cO,r.mono (cj.upd hp)⟩
def tE(K:Fg)(ρ:iy)(d:Dat)(fr:Bool):TE:=λσ H Q=>∃F,Good F H/\nO K F σ ρ/\∀v F' H',Step F H F' H'->Rep K F' d v->(fr=c_->gf K H H' d v)->Q v H'
def tEs(K:Fg)(ρ:iy)(ds:List Dat):TA:=λσ H Q=>∃F,Good F H/\nO K F σ ρ/\∀vs F' H',Step F H F' H'->c9 K F' ds vs->Q vs H'
def tT(K:Fg)(ρ:iy)(b:Bool):TT:=λσ H Q=>∃F,Good F H/\nO K F σ ρ/\∀F' H',Step F H F' H'->Q b H'
def tFs(K:Fg)(ρ:iy)(ds:List Dat)(al:Bool):TA:=λσ H Q=>∃F,Good F H/\nO K F σ ρ/\∀vs F' H',Step F H F' H'->c9 K F' ds vs->(al=c_->fJ K H H' ds vs)->Q vs H'
def rD(K:Fg)(da B:Dat)(d:Dat)(fr:Bool):R2:=λx y H Q=>∃F,Good F H/\Rep K F da x/\Rep K F B y/\∀v F' H',Step F H F' H'->Rep K F' d v->(fr=c_->gf K H H' d v)->Q v H'
def rDs(K:Fg)(ds:List Dat)(d:Dat)(fr:Bool):List V->Hp->VK->Prop:=λxs H Q=>∃F,Good F H/\c9 K F ds xs/\∀v F' H',Step F H F' H'->Rep K F' d v->(fr=c_->gf K H H' d v)->Q v H'
section
def PE.imp(h:PE X e t)(f:∀σ H Q,t' σ H Q->t σ H Q):PE X e t':=λh_ s σ H Q I q=>h h_ s σ H Q I (f _ _ _ q)
def PT.imp(h:PT X e t)(f:∀σ H Q,t' σ H Q->t σ H Q):PT X e t':=λh_ s σ H Q I q=>h h_ s σ H Q I (f _ _ _ q)
def PA.imp(h:PA X e t)(f:∀σ H Q,t' σ H Q->t σ H Q):PA X e t':=λp h_ s σ H Q I q=>h p h_ s σ H Q I (f _ _ _ q)
def PS.imp(h:PS X e t)(f:∀D σ H,t' D σ H->t D σ H):PS X e t':=λh_ s σ H D I q=>h h_ s σ H D I (f _ _ _ q)
def An.imp(h:An X e t)(f:∀D σ H,t' D σ H->t D σ H):An X e t':=λh_ s σ H D I q=>h h_ s σ H D I (f _ _ _ q)
def j2.imp(h:j2 X f r)(g:∀x y H Q,r' x y H Q->r x y H Q):j2 X f r':=λh_ s σ H x y v u Q I a b q=>h h_ s σ H x y v u Q I a b (g _ _ _ _ q)
end
end M
namespace L2
open PySem PySem.Spec PyProof.Rows
def CF(xs:Array Nat):Prop:=xs.toList.Pairwise (·< ·)
def CF.get(h:CF xs)(O:j<xs.size)(B:i<j):xs[i]'(cY B O)<xs[j]:=by
 have:=(eZ.mp h) i j (by simpa using(by exact Nat.lt_trans B O)) (by simpa using O) B;simpa using this
theorem EI(hs:CF xs):∀(fuel lo hi:Nat),lo<=hi->hi<=xs.size->hi - lo<=fuel->(∀i (h:i<xs.size),i<lo->xs[i]<j)->(∀i (h:i<xs.size),hi<=i->j<=xs[i])->
  kY xs j fuel lo hi<=xs.size/\(∀i(h:i<xs.size),i<kY xs j fuel lo hi->xs[i]<j)/\∀i(h:i<xs.size),kY xs j fuel lo hi<=i->j<=xs[i]
 |0,lo,hi,h1,h2,h3,c,h5=>by
   have e:lo=hi:=aC (gm h1) (jJ (wt h1) h3);subst e;exact⟨h2,c,h5⟩
 |fuel+1,lo,hi,h1,h2,h3,c,h5=>by
   simp only[kY];by_cases hl:lo<hi
   .rw[if_pos hl];have d:(lo+hi) / 2<xs.size:=jJ (a2 lo hi (gm hl)).2 h2
    have f:xs.getD ((lo+hi) / 2) j=xs[(lo+hi) / 2]:=by simp_all
    rw[f];by_cases b:xs[(lo+hi) / 2]<j
    .rw[if_pos b];refine EI hs fuel _ hi (gm (a2 lo hi (gm hl)).2) h2 (Nat.sub_le_of_le_add (pY (am (Nat.le_of_lt hl)) h3 (a2 lo hi (gm hl)).1)) (λi h q=>?_) h5;by_cases a:i=(lo+hi) / 2
     .subst a;exact b
     .exact cY (hs.get d (bC (gm q) a)) b
    .rw[if_neg b];refine EI hs fuel lo _ (gm (a2 lo hi (gm hl)).1) (aD d) (Nat.sub_le_of_le_add (pY (a2 lo hi (gm hl)).2 (am (Nat.le_of_lt hl)) h3)) c (λi h q=>?_);by_cases a:(lo+hi) / 2=i
     .subst a;simp_all
     .exact aD (aa (cB b) (hs.get h ((bC q a))))
   .rw[if_neg hl];have e :=aC h1 (bT hl);subst e;exact⟨h2,c,h5⟩
def M6(hs:CF xs)(j:Nat):aL xs j<=xs.size/\(∀i(h:i<xs.size),i<aL xs j->xs[i]<j)/\∀i(h:i<xs.size),aL xs j<=i->j<=xs[i]:=
 EI hs xs.size 0 xs.size (aM _) (ao _) (by simp) (λi _ q=>absurd q (pC _)) (λi h q=>((aS h q)).elim)
def M4(hs:CF xs):aL xs 0=0:=by
 cases q:aL xs 0 with
 |zero=>rfl
 |succ n=>exact absurd ((M6 hs 0).2.1 0 (aa (aq (aM _) (ae q.symm)) (M6 hs 0).1) (aq (aM _) (ae q.symm))) (pC _)
def M5(hs:CF xs)(hi:i<xs.size):aL xs (xs[i]+1)=i+1:=by
 obtain⟨h1,h2,h3⟩:=M6 hs (xs[i]+1)
 rcases nQ (aL xs (xs[i]+1)) (i+1)with h|h|h
 .exact(aa9 (h3 i hi (aU h))).elim
 .exact h
 .have b:=hs.get  (aa h h1) (ao _);exact(Qa b (h2 (i+1) (aa h h1) h)).elim
def OY(hs:CF xs)(B:xs[aL xs j]?≠a_ j):CF (de xs (aL xs j) j):=by
 obtain⟨h1,h2,h3⟩:=M6 hs j;unfold CF;rw[e9];have g :=hs;refine eG.mpr ⟨g.sublist (iU _ _),cH.mpr ⟨λy h=>?_,g.sublist (fH _ _)⟩,λx p y h=>?_⟩
 .obtain⟨k,hk,rfl⟩:=cV.mp h;have d:aL xs j+k<xs.size:=by grind
  have i:xs[aL xs j+k]≠j:=by
   intro e
   cases k with
   |zero=>exact B (by rw[aY (by simpa using d)];simpa using e)
   |succ k=>
     exact aS (hs.get d ((bb (aW _ _)))) (aa (ae e) (h3 (aL xs j) (aq (aW _ _) d) (ao _)))
  have:=bC (gm (h3 (aL xs j+k) d (aW _ _))) (dR i);simpa using this
 .obtain⟨k,hk,rfl⟩:=cV.mp p;rw[List.getElem_take];have f:k<aL xs j:=by simp at hk;simp_all
  have n:xs.toList[k]'(by exact aa f h1)<j:=by simpa using (h2 k (aa f h1) f)
  rcases au.mp h with rfl|h
  .exact n
  .obtain⟨m,o,rfl⟩:=cV.mp h;have b:=h3 (aL xs j+m) (by simp at o;exact jJ (ws h1) o) (aW _ _);exact aa n (by simpa using b)
structure qe(led:Bool)(t:bE):Prop where
 d:t.dummies=#[]
 r:CF t.place
 l:t.led=led
def Ie(n:Nat):CF (Array.range n):=by
 unfold CF;rw[Array.toList_range];exact oP
def qe.fresh(led:Bool):qe led (.fresh 0 0 led):=⟨rfl,by exact xI,rfl⟩
def qe.qS(h:qe led t)(n:Nat):qe led (t.standIn n):=⟨rfl,Ie n,h.l⟩
def qe.off(h:qe led t):qe led { t with plain:=d_ }:=⟨h.d,h.r,h.l⟩
def GB(j:Nat):xu #[] j=d_:=by simp[xu]
def vc{t:bE}(hd:t.dummies=#[])(h:t.slot j=.empty):t.place[aL t.place j]?≠a_ j:=by
 intro e;unfold mD at h
 simp_all
def lN{t:bE}(hd:t.dummies=#[])(h:t.slot j=.dummy):False:=by
 unfold mD at h;rw[hd,GB]at h
 grind
def tF{t:bE}{p:bK}(h:p.dummy=b_):(t.advance p).dummy=b_:=by
 unfold eA;split
 .exact h
 .exact h
theorem vo{t:bE}(hd:t.dummies=#[]):∀(fuel:Nat) (p:bK) {j:Nat} {d:Option Nat},p.dummy=b_->bV t ha hh fuel p=a_ (.empty j d)->
  d=b_/\t.place[aL t.place j]?≠a_ j
 |0,_,_,_,_,h=>by cases h
 |fuel+1,p,j,d,hp,h=>by
   simp only[bV]at h
   cases q:t.slot p.j with
   |empty=>
     rw[q]at h
     injection h with h
     injection h with h1 h2
     subst h1;subst h2;exact⟨hp,vc hd q⟩
   |dummy=>exact(lN hd q).elim
   |live i=>
     rw[q]at h;dsimp only at h;split at h
     .grind
     .exact vo hd fuel _ (tF hp) h
set_option tactic.hygienic true
def Qv{t:bE}(hd:t.dummies=#[])(h:t.freeSlot hh=a_ (j,b)):t.place[aL t.place j]?≠a_ j:=by
 unfold SetTable.freeSlot at h;split at h
 .rename_i j' d a;have:=vo hd _ _ (by rfl) a
  grind
 .cases h
def qe.put(h:qe led t)(B:t.place[aL t.place j]?≠a_ j):qe led (t.put j).1:=by
 refine⟨?_,OY h.r B,h.l⟩;show(if xu t.dummies j then _ else t.dummies)=_;rw[h.d];rfl
def qe.or(h:qe led t)(n:Nat):qe led (t.orStandIn n):=by
 unfold SetTable.orStandIn;split
 .exact h
 .exact h.qS n
def qe.lay(h:qe led t)(es:Array (Int×ah))(hh:Int)(x:ah):qe led (layNew t es hh x).2.1:=by
 unfold layNew;split
 .rename_i j b a;exact(h.put (Qv h.d a)).or _
 .exact h.qS _
def qe.laid(h:mE mask f m led pl hs=a_ (t,o)):qe led t:=by
 unfold mE at h;simp only[Option.bind_eq_bind,yX]at h;obtain⟨ow,h1,h⟩:=h
 injection h with h
 injection h with h2 h3
 subst h2;refine⟨rfl,?_,rfl⟩;show(Rn _ _).toArray.toList.Pairwise _;rw[fG,Ay];refine oT ?_ oP
 simp_all
def qe.Yb(h:qe led t)(es:Array (Int×ah))(n:Nat):qe led (relayAll t es n).2.1:=by
 unfold relayAll;split
 .rename_i t' o a;dsimp only;split
  .unfold Hm at a;rw[h.l]at a;exact qe.laid a
  .exact h.qS _
 .exact h.qS _
set_option tactic.hygienic false
end L2
namespace L2
open PySem
noncomputable def uf(mask:Nat):Nat->Nat->Nat->Nat×Nat
 |0,i,p=>(i,p)
 |n+1,i,p=>uf mask n (ie mask i p).1 (ie mask i p).2
theorem uE(mask:Nat):∀(a b i p:Nat),uf mask (a+b) i p=uf mask b (uf mask a i p).1 (uf mask a i p).2
 |0,b,i,p=>by rw[jo];rfl
 |a+1,b,i,p=>by rw[(jN _ _ _)];exact uE mask a b _ _
theorem vM(mask:Nat):∀(n i p:Nat),(uf mask n i p).2=p / 32 ^ n
 |0,i,p=>by simp[uf]
 |n+1,i,p=>by
   rw[uf,vM mask n,ie,Nat.div_div_eq_div_mul,Nat.pow_succ,Nat.mul_comm]
theorem LJ(mask:Nat):∀(n i p:Nat),i<mask+1->(uf mask n i p).1<mask+1
 |0,i,p,h=>h
 |n+1,i,p,h=>LJ mask n _ _ (jM _ (by simp))
noncomputable def Z3(mask:Nat):Nat->Nat->List Nat
 |0,i=>[i]
 |n+1,i=>i::Z3 mask n ((i * 5+1) % (mask+1))
theorem FU(mask:Nat):∀(n i j:Nat),j∈Z3 mask n i->∃m,m<=n/\(uf mask m i 0).1=j
 |0,i,j,h=>by
   simp[Z3]at h;exact⟨0,by simp,h.symm⟩
 |n+1,i,j,h=>by
   rcases au.mp h with h|h
   .exact⟨0,aM _,h.symm⟩
   .obtain⟨m,a,e⟩:=FU mask n _ j h;refine⟨m+1,bb a,?_⟩;rw[uf];simpa [ie]using e
def MJ(mask:Nat):Bool:=(aO (mask+1)).all λj=>(Z3 mask mask 0).any λx=>Nat.beq x j
def abz:MJ 7=c_:=by decide +kernel
def Zu:MJ 31=c_:=by decide +kernel
def Wu:MJ 127=c_:=by decide +kernel
def Ws:MJ 511=c_:=by decide +kernel
def aaR:(uf 7 8 0 0).1=0:=by decide +kernel
def Yr:(uf 31 32 0 0).1=0:=by decide +kernel
def UN:(uf 127 128 0 0).1=0:=by decide +kernel
def UM:(uf 511 512 0 0).1=0:=by decide +kernel
def MI(h:mask=7\/mask=31\/mask=127\/mask=511):MJ mask=c_/\(uf mask (mask+1) 0 0).1=0:=by
 rcases h with rfl|rfl|rfl|rfl
 .exact⟨abz,aaR⟩
 .exact⟨Zu,Yr⟩
 .exact⟨Wu,UN⟩
 .exact⟨Ws,UM⟩
def Hx(mask n i:Nat):(uf mask n i 0).2=0:=by rw[vM,Nat.zero_div]
def vL(mask a b i:Nat):(uf mask (a+b) i 0).1=(uf mask b (uf mask a i 0).1 0).1:=by rw[uE,Hx]
def Sf(h:mask=7\/mask=31\/mask=127\/mask=511)(B:j<mask+1):∃n,n<=mask/\(uf mask n 0 0).1=j:=by
 obtain⟨x,a,e⟩:=oA.mp (bF.mp (MI h).1 j (bq.mpr B));have e:=Nat.eq_of_beq_eq_true e;subst e;exact FU mask mask 0 x a
def Gj(h:mask=7\/mask=31\/mask=127\/mask=511)(hi:i<mask+1)(hp:p<2 ^ 64)(B:j<mask+1):∃n,n<=mask+13/\(uf mask n i p).1=j:=by
 have c:(uf mask 13 i p).2=0:=by
  rw[vM];exact Nat.div_eq_of_lt (aa hp br)
 obtain⟨a,ha,f⟩:=Sf h (LJ mask 13 i p hi);obtain⟨b,hb,g⟩:=Sf h B;by_cases e:a<=b
 .refine⟨13+(b - a),jJ (oS b a) hb,?_⟩;rw[uE,c,<-f,<-vL,(gD e)];exact g
 .refine⟨13+(mask+1 - a+b),by omega,?_⟩;rw[uE,c,<-f,<-vL,show a+(mask+1 - a+b)=(mask+1)+b by omega,vL,((MI h).2)];exact g
structure yM(t:bE)(p:bK):Prop where
 j:p.j=p.i
 m:p.more=dW t.mask p.i - p.i
 d:p.dummy=b_
def vi(h:yM t p):p.more<=9:=by
 rw[h.m];unfold dW;split<;>simp
set_option tactic.hygienic true
theorem zI{t:bE}(hd:t.dummies=#[]):∀(k f:Nat) (p:bK),p.more=k->p.dummy=b_->bV t ha hh (k+1+f) p=b_->
  t.slot p.j≠.empty/\∃q:bK,bV t ha hh f q=b_/\yM t q/\q.i=(ie t.mask p.i p.perturb).1/\q.perturb=(ie t.mask p.i p.perturb).2
 |0,f,p,hk,hp,h=>by
   rw[(Nat.add_comm _ _),bV]at h
   cases hs:t.slot p.j with
   |empty=>rw[hs]at h;cases h
   |dummy=>exact(lN hd hs).elim
   |live i=>
     rw[hs]at h;dsimp only at h;split at h
     .cases h
     rename_i a;refine⟨by simp,_,h,?_,?_,?_⟩
     .unfold eA;rw[if_neg (λz=>(aS z (ae hk)))];exact⟨rfl,rfl,hp⟩
     .unfold eA;rw[if_neg (λz=>(aS z (ae hk)))]
     .unfold eA;rw[if_neg (fun z => (Nat.not_le_of_lt z (Nat.le_of_eq hk)))]
 |k+1,f,p,hk,hp,h=>by
   rw[(jN _ _ _),bV]at h
   cases hs:t.slot p.j with
   |empty=>rw[hs]at h;cases h
   |dummy=>exact(lN hd hs).elim
   |live i=>
     rw[hs]at h;dsimp only at h;split at h
     .cases h
     rename_i a;have e:t.advance p={ p with j:=p.j+1,more:=p.more - 1 }:=by unfold eA;simp_all
     rw[e]at h;obtain⟨_,q,h1,h2,h3,b⟩:=zI hd k f { p with j:=p.j+1,more:=p.more - 1 } (by grind) hp h;exact⟨by simp,q,h1,h2,h3,b⟩
theorem uH:∀(f g:Nat)(p:bK),bV t ha hh (f+g) p=b_->bV t ha hh f p=b_
 |0,g,p,h=>rfl
 |f+1,g,p,h=>by
   rw[(jN _ _ _),bV]at h;rw[bV]
   cases hs:t.slot p.j with
   |empty=>rw[hs]at h;cases h
   |dummy=>rw[hs]at h;exact uH f g _ h
   |live i=>
     rw[hs]at h;simp only at h ⊢;split
     .grind
     .rename_i q;rw[if_neg q]at h;exact uH f g _ h
set_option tactic.hygienic false
theorem BP{t:bE}(hd:t.dummies=#[]):∀(m:Nat)(p:bK),yM t p->bV t ha hh (10 * (m+1)) p=b_->∀n≤m,t.slot (uf t.mask n p.i p.perturb).1≠.empty
 |m,p,hp,h,0,_=>by
   obtain⟨h1,_⟩:=zI hd p.more (10 * (m+1) - (p.more+1)) p rfl hp.d (by rw[show p.more+1+(10 * (m+1) - (p.more+1))=10 * (m+1)from(gD (bb (Nat.le_add_left_of_le (vi hp))))];exact h);rw[hp.j]at h1;exact h1
 |0,p,hp,h,n+1,a=>(λz=>(aS a (aM _)))
 |m+1,p,hp,h,n+1,a=>by
   have b:=vi hp;obtain⟨_,q,h1,h2,h3,c⟩:=zI hd p.more (10 * (m+1+1) - (p.more+1)) p rfl hp.d (by rw[show p.more+1+(10 * (m+1+1) - (p.more+1))=10 * (m+1+1)from(aC (gm (wS (10 * (m+1+1)) (p.more+1) (gm b))) (gm (wT (10 * (m+1+1)) (p.more+1))))];exact h);have:=BP hd m q h2 (uH (10 * (m+1)) (9 - p.more) q (by rw[show 10 * (m+1)+(9 - p.more)=10 * (m+1+1) - (p.more+1)from(aC (jJ (wT (10 * (m+1+1)) (p.more+1)) (ws b)) (jJ (wS (10 * (m+1+1)) (p.more+1) (gm b)) (wt b)))];exact h1)) n (aU a);rw[h3,c]at this;exact this
def xV(t:bE)(h:Int):yM t (t.probeStart h):=⟨rfl,rfl,rfl⟩
structure wq(t:bE)(p:bK):Prop where
 m:p.more<=9
 i:p.i<t.mask+1
 q:p.perturb<2 ^ 64
 d:p.dummy=b_
def xU(t:bE)(h:Int):wq t (t.probeStart h):=
 ⟨vi (xV t h),jM _ (by simp),by show eN h<_;unfold eN;omega,rfl⟩
def wq.adv(h:wq t p):wq t (t.advance p):=by
 unfold eA;split
 .exact⟨by exact aa (oS _ _) h.m,h.i,h.q,h.d⟩
 .refine⟨?_,jM _ (by simp),?_,h.d⟩
  .show dW t.mask _ - _<=9;unfold dW;split<;>simp
  .exact aq (Rk _ _) h.q
def tP{t:bE}(B:t.mask=7\/t.mask=31\/t.mask=127\/t.mask=511)(hd:t.dummies=#[])(hp:wq t p)(O:j<t.mask+1)(he:t.slot j=.empty) :
  ∃m,t.probe ha hh p=a_ m:=by
 cases q:t.probe ha hh p with
 |some m=>exact⟨m,rfl⟩
 |none=>
   exfalso;have a:=hp.m;have c:=hp.q;obtain⟨_,r,h1,h2,h3,b⟩:=zI hd p.more (10 * (t.mask+15) - (p.more+1)) p rfl hp.d (by rw[show p.more+1+(10 * (t.mask+15) - (p.more+1))=10 * (t.mask+15)from(aC (gm (wS (10 * (t.mask+15)) (p.more+1) (gm a))) (gm (wT (10 * (t.mask+15)) (p.more+1))))];exact q);obtain⟨n,e1,e2⟩:=Gj B (i:=r.i) (p:=r.perturb) (by rw[h3];exact jM _ (by simp)) (by rw[b];show p.perturb / 32<2 ^ 64;omega) O;have:=BP hd (t.mask+13) r h2 (uH (10 * (t.mask+14)) (9 - p.more) r (by rw[show 10 * (t.mask+14)+(9 - p.more)=10 * (t.mask+15) - (p.more+1)from(aC (jJ (wT (10 * (t.mask+15)) (p.more+1)) (ws a)) (jJ (wS (10 * (t.mask+15)) (p.more+1) (gm a)) (wt a)))];exact h1)) n e1;rw[e2]at this;exact this he
noncomputable def way(t:bE):Nat->bK->bK
 |0,p=>p
 |n+1,p=>way t n (t.advance p)
theorem lD(t:bE):∀(a b:Nat)(p:bK),way t (a+b) p=way t b (way t a p)
 |0,b,p=>by rw[jo];rfl
 |a+1,b,p=>by rw[(Nat.add_right_comm _ _ _)];exact lD t a b _
theorem JO:∀(n:Nat){p:bK},wq t p->wq t (way t n p)
 |0,p,h=>h
 |n+1,p,h=>JO n h.adv
set_option tactic.hygienic true
theorem x4{t:bE}(hd:t.dummies=#[]):∀(fuel:Nat) (p:bK) {m:Nj},p.dummy=b_->bV t ha hh fuel p=a_ m->
  ∃n,(∀k<n,∃i,t.slot (way t k p).j=.live i/\ha i≠hh)/\((m=.empty (way t n p).j b_/\t.slot (way t n p).j=.empty)\/∃i,m=.candidate (way t n p).j i (way t (n+1) p)/\t.slot (way t n p).j=.live i/\ha i=hh)
 |0,p,m,_,h=>by cases h
 |fuel+1,p,m,hp,h=>by
   rw[bV]at h
   cases hs:t.slot p.j with
   |empty=>
     rw[hs]at h
     injection h with h
     exact⟨0,λk hk=>((aS hk (aM _))).elim,.inl ⟨by rw[<-h,hp];rfl,hs⟩⟩
   |dummy=>exact(lN hd hs).elim
   |live i=>
     rw[hs]at h;dsimp only at h;split at h
     .rename_i e
      injection h with h
      exact⟨0,λk hk=>((aS hk (aM _))).elim,.inr ⟨i,h.symm,hs,by simpa using e⟩⟩
     .rename_i e;obtain⟨n,h1,h2⟩:=x4 hd fuel _ (tF hp) h;refine⟨n+1,λk hk=>?_,h2⟩
      cases k with
      |zero=>exact⟨i,hs,by simpa using e⟩
      |succ k=>exact h1 k (aU hk)
def PH(hs:CF xs)(h:j∈xs.toList):xs[aL xs j]?=a_ j:=by
 obtain⟨i,hi,e⟩:=cV.mp h;have c:i<xs.size:=by simpa using hi
 obtain⟨h1,h2,h3⟩:=M6 hs j
 have hb:aL xs j<=i:=by
  rcases jr i (aL xs j)with hl|hl
  .have:=h2 i c hl;simp_all
  .exact hl
 have f:aL xs j=i:=by
  rcases jr (aL xs j) i with hl|hl
  .exact((aS (hs.get c hl) (aa (ae (by simpa using e)) (h3 (aL xs j) (aq hb c) (ao _))))).elim
  .exact aC hb hl
 simp_all
def AQ{t:bE}(B:CF t.place)(h:j∈t.place.toList):t.slot j=.live (aL t.place j):=by
 unfold mD;simp only[PH B h,beq_self_eq_true,if_true]
def Li{t:bE}(hd:t.dummies=#[])(h:t.slot j≠.empty):j∈t.place.toList:=by
 unfold mD at h;dsimp only at h;split at h
 .rename_i e;have e:t.place[aL t.place j]?=a_ j:=by simpa using e
  exact cV.mpr ⟨_,by simpa using (bW.mp e).1,by simpa using (bW.mp e).2⟩
 .rw[hd,GB]at h;simp at h
set_option tactic.hygienic false
def Qe{t:bE}(h:t.slot j=.live i):t.place[i]?=a_ j:=by
 unfold mD at h;dsimp only at h;split at h
 .simp_all
 grind
def Nd{t t':bE}(h:t.mask=t'.mask)(p:bK):t.advance p=t'.advance p:=by
 unfold eA;rw[h]
theorem oW{t t':bE}(h:t.mask=t'.mask):∀(n:Nat)(p:bK),way t n p=way t' n p
 |0,p=>rfl
 |n+1,p=>by rw[way,way,Nd h,oW h n]
def va{t t':bE}(h:t.mask=t'.mask)(x:Int):t.probeStart x=t'.probeStart x:=by
 unfold SetTable.probeStart;rw[h]
def nL(t:bE)(x:Int)(j:Nat):Prop:=∃n,(way t n (t.probeStart x)).j=j/\∀k<n,(way t k (t.probeStart x)).j∈t.place.toList
def nL.mono{t t':bE}(h:t.mask=t'.mask)(hs:∀j∈t.place.toList,j∈t'.place.toList)(y:nL t x j):nL t' x j:=by
 obtain⟨n,h1,h2⟩:=y;refine⟨n,?_,λk hk=>?_⟩
 .rw[<-va h,<-oW h];exact h1
 .rw[<-va h,<-oW h];exact hs _ (h2 k hk)
def Gc{t:bE}:a∈(t.put j).1.place.toList↔a=j\/a∈t.place.toList:=by
 show a∈(de t.place _ j).toList↔_;rw[e9];have e:=bh (aL t.place j) t.place.toList;constructor
 .grind
 grind
def nL.new(h:∀k<n,(way t k (t.probeStart x)).j∈t.place.toList):nL (t.put (way t n (t.probeStart x)).j).1 x (way t n (t.probeStart x)).j:=by
 exact nL.mono (t:=t)  rfl (λj a=>Gc.mpr (.inr a)) ⟨n,rfl,h⟩
def Q8(t:bE)(p:bK):Prop:=p.j+p.more<=t.mask
def Kv(h:i<mask+1):i+(dW mask i - i)<=mask:=by
 unfold dW;split<;>omega
def Q8.start(t:bE)(x:Int):Q8 t (t.probeStart x):=Kv (jM _ (by simp))
def Q8.adv(h:Q8 t p):Q8 t (t.advance p):=by
 unfold Q8 at h ⊢;unfold eA;split
 .grind
 .exact Kv (jM _ (by simp))
theorem JP:∀(n:Nat){p:bK},Q8 t p->Q8 t (way t n p)
 |0,p,h=>h
 |n+1,p,h=>JP n h.adv
def Dd(n:Nat)(x:Int):(way t n (t.probeStart x)).j<=t.mask:=by
 exact aa (aW _ _) (JP n (Q8.start t x))
theorem qP:∀(k:Nat)(p:bK),k<=p.more->way t k p={ p with j:=p.j+k,more:=p.more - k }
 |0,p,h=>rfl
 |k+1,p,h=>by
   rw[way];have e:t.advance p={ p with j:=p.j+1,more:=p.more - 1 }:=by unfold eA;rw[if_pos (aq (aM _) h)]
   rw[e,qP k _ (by exact Ht h)]
   grind
abbrev CP(ow:Array (Option Nat))(j:Nat):Bool:=(ow.getD j (a_ 0)).isSome
set_option tactic.hygienic true
theorem BX{ow:Array (Option Nat)}:∀(fuel:Nat) (p:bK) {j:Nat},yM t p->dB t.mask ow fuel p.i p.perturb=a_ j->
  ∃n,(way t n p).j=j/\(∀k<n,CP ow (way t k p).j=c_)/\ow.getD j (a_ 0)=b_
 |0,p,j,_,h=>by cases h
 |fuel+1,p,j,hp,h=>by
   have b:dW t.mask p.i+1 - p.i=p.more+1:=by rw[hp.m];exact Nat.sub_add_comm (by unfold dW;split<;>simp)
   rw[dB,b]at h;split at h
   .rename_i k hk
    injection h with h
    subst h;obtain⟨h1,h2,h3⟩:=List.find?_range_eq_some.mp hk;have h2 :=bq.mp h2;refine⟨k,?_,λm e=>?_,by simpa using h1⟩
    .rw[qP k p (aU h2)];rw[hp.j]
    .rw[qP m p (aU (cY e h2))];rw[hp.j];simpa [CP]using (h3 m e)
   .rename_i hk;have hk:=Ak.mp hk;have f:way t (p.more+1) p=t.advance (way t p.more p):=by rw[lD];rfl
    have l:yM t (way t (p.more+1) p)/\(way t (p.more+1) p).i=(ie t.mask p.i p.perturb).1/\(way t (p.more+1) p).perturb=(ie t.mask p.i p.perturb).2:=by
     rw[f,(qP (t:=t) p.more p (ao _))];unfold eA;rw[if_neg (by simp)];exact⟨⟨rfl,rfl,hp.d⟩,rfl,rfl⟩
    obtain⟨o,q,r⟩:=l;dsimp only at h;rw[<-q,<-r]at h;obtain⟨n,s,u,v⟩:=BX fuel _ o h;refine⟨p.more+1+n,by rw[lD];exact s,λk c=>?_,v⟩
    rcases jr k (p.more+1)with hl|hl
    .rw[qP k p (aU hl)];rw[hp.j];simpa [CP]using (hk k hl)
    .have:=u (k - (p.more+1)) (jJ (ws hl) c);rw[<-lD,(gD hl)]at this;exact this
def Ng(t:bE)(ow:Array (Option Nat))(x:Int)(j:Nat):Prop:=∃n,(way t n (t.probeStart x)).j=j/\∀k<n,CP ow (way t k (t.probeStart x)).j=c_
structure Lay(t:bE)(hs:List Int)(ow:Array (Option Nat))(c:Nat):Prop where
 sz:ow.size=t.mask+1
 st:∀j k:Nat,ow[j]?=a_ (a_ k)->k<c/\Ng t ow (hs.getD k 0) j
 ex:∀k<c,∃j:Nat,ow[j]?=a_ (a_ k)
 un:∀j j' k:Nat,ow[j]?=a_ (a_ k)->ow[j']?=a_ (a_ k)->j=j'
def getD_none{ow:Array (Option Nat)}(h:ow.getD j (a_ 0)=b_):ow[j]?=a_ b_:=by
 unfold Hv at h;split at h
 .simp_all
 .cases h
def Vc{ow:Array (Option Nat)}(h:CP ow a=c_):CP (ow.setIfInBounds j (a_ c)) a=c_:=by
 unfold CP Hv at h ⊢;by_cases ha:a<ow.size
 .rw[dif_pos ha]at h;rw[dif_pos (by simpa using ha)];by_cases e:j=a
  .subst e;simp
  simp_all
 .rw[dif_neg (by simpa using ha)];rfl
def Ng.set{ow:Array (Option Nat)}(h:Ng t ow x a):Ng t (ow.setIfInBounds j (a_ c)) x a:=
 let ⟨n,h1,h2⟩:=h
 ⟨n,h1,λk hk=>Vc (h2 k hk)⟩
def get_set{ow:Array (Option Nat)}(B:j<ow.size):(ow.setIfInBounds j (a_ c))[a]?=if j=a then a_ (a_ c)else ow[a]? :=by
 rw[Array.getElem?_setIfInBounds];split
 .simp
 .rfl
def Lay.step{ow:Array (Option Nat)}(y:Lay t hs ow c)(h:dB t.mask ow (lG t.mask) (eN (hs.getD c 0) % (t.mask+1)) (eN (hs.getD c 0))=a_ j):Lay t hs (ow.setIfInBounds j (a_ c)) (c+1):=by
 obtain⟨n,h1,h2,h3⟩:=BX _ (t.probeStart (hs.getD c 0)) (xV t _) h;have h3:=getD_none h3;have d :=(bW.mp h3).1;refine⟨by simpa using y.sz,λa k ha=>?_,λk hk=>?_,λa f k ha b=>?_⟩
 .rw[get_set d]at ha;split at ha
  .rename_i e;subst e
   injection ha with ha
   injection ha with ha
   subst ha;exact⟨ao _,Ng.set ⟨n,h1,h2⟩⟩
  .obtain⟨g,i⟩:=y.st a k ha;exact⟨cc g,i.set⟩
 .rcases jr k c with hl|hl
  .obtain⟨a,ha⟩:=y.ex k hl;refine⟨a,?_⟩;rw[get_set d,if_neg (λe=>by grind)];exact ha
  .refine⟨j,?_⟩;rw[get_set d,if_pos rfl,(aC (aU hk) hl)]
 .rw[get_set d]at ha b;split at ha<;>split at b
  .grind
  .injection ha with ha
   injection ha with ha
   have:=(y.st f k b).1
   simp_all
  .injection b with b
   injection b with b
   exact((aS ((y.st a k ha).1) (ae b))).elim
  .exact y.un a f k ha b
theorem yu{ow:Array (Option Nat)}:∀(fuel i p:Nat),dB mask ow fuel i p=b_->∀n<fuel,CP ow (uf mask n i p).1=c_
 |0,i,p,h,n,a=>((Nat.not_le_of_lt a (Nat.zero_le _))).elim
 |fuel+1,i,p,h,n,a=>by
   have b:i<=dW mask i:=by unfold dW;split<;>simp
   rw[dB]at h;split at h
   .cases h
   .rename_i hk;have hk:=Ak.mp hk
    cases n with
    |zero=>
      show CP ow i=c_;simpa [CP]using (hk 0 (by omega))
    |succ n=>exact yu fuel _ _ h n (aU a)
set_option tactic.hygienic false
def Qw(B:mask=7\/mask=31\/mask=127\/mask=511){ow:Array (Option Nat)}(O:j<mask+1)(he:CP ow j=d_):∃a,dB mask ow (lG mask) (eN x % (mask+1)) (eN x)=a_ a:=by
 cases q:dB mask ow (lG mask) (eN x % (mask+1)) (eN x)with
 |some a=>exact⟨a,rfl⟩
 |none=>
   exfalso;obtain⟨n,h1,h2⟩:=Gj B (p:=eN x) (jM _ (by simp)) (by unfold eN;omega) O;have:=yu _ _ _ q n (by exact cc (bb h1));rw[h2,he]at this;cases this
def Ll{l:List Nat}(B:l.Nodup)(h:∀x∈l,x<c):l.length<=c:=by
 have hp:l.Perm ((aO c).filter λx=>decide (x∈l)):=by
  rw[fR B (Al Hu fO)]
  simp_all
 rw[hp.length_eq];exact aa (c8 _ _) (by simp)
def FV{ow:Array (Option Nat)}(B:j<ow.size)(h:CP ow j=c_):∃k,ow[j]?=a_ (a_ k):=by
 unfold CP Hv at h;rw[dif_pos B]at h;obtain⟨k,hk⟩:=jv.mp h
 simp_all
def Lay.room{ow:Array (Option Nat)}(y:Lay t hs ow c)(hc:c<t.mask+1):∃j,j<t.mask+1/\CP ow j=d_:=by
 rcases JL (∃j,j<t.mask+1/\CP ow j=d_)with h|h
 .exact h
 .exfalso
  have g:∀j,j<t.mask+1->∃k:Nat,ow[j]?=a_ (a_ k):=λj f=>FV (by rw[y.sz];exact f) (by
   cases q:CP ow j with
   |true=>rfl
   |false=>exact absurd ⟨j,f,q⟩ h)
  have hk:∀j,j<t.mask+1->ow[j]?=a_ (a_ ((ow.getD j b_).getD 0)):=λj f=>by
   obtain⟨k,e⟩:=g j f
   simp_all
  have l:((aO (t.mask+1)).map λj=>(ow.getD j b_).getD 0).Nodup:=by
   refine List.Pairwise.map _ (R:=λa b=>a∈aO (t.mask+1)/\b∈aO (t.mask+1)/\a≠b) ?_ ?_
   .rintro a b ⟨ha,hb,d⟩ e;have i:=hk a (bq.mp ha);rw[e]at i;exact d (y.un _ _ _ i (hk b (bq.mp hb)))
   .exact iV (λha hb d=>⟨ha,hb,d⟩) fO
  have:=Ll l (λx n=>by
   obtain⟨j,f,rfl⟩:=bQ.mp n
   exact(y.st j _ (hk j (bq.mp f))).1)
  rw[aw,bo]at this;exact aS hc this
noncomputable def Gi(mask:Nat)(B:Option (Array (Option Nat)×Nat))(h:Int):Option (Array (Option Nat)×Nat):=do
 let (owner,k) <-B;let j <-dB mask owner (lG mask) (eN h % (mask+1)) (eN h)
 pure (owner.setIfInBounds j (a_ k),k+1)
theorem BA{t:bE}(O:t.mask=7\/t.mask=31\/t.mask=127\/t.mask=511){hs:List Int}(hl:hs.length<=t.mask):∀(rest pre:List Int)(ow:Array (Option Nat)),hs=pre++rest->Lay t hs ow pre.length->∃B,rest.foldl (Gi t.mask) (a_ (ow,pre.length))=a_ (B,hs.length)/\Lay t hs B hs.length
 |[],pre,ow,e,y=>⟨ow,by simp_all,by grind⟩
 |x::rest,pre,ow,e,y=>by
   obtain⟨g,h1,h2⟩:=y.room (cc (aa (by rw[e];simp) hl));have c:hs.getD pre.length 0=x:=by rw[e];simp
   obtain⟨a,ha⟩:=Qw O h1 h2;obtain⟨B,d,f⟩:=BA O hl rest (pre++[x]) _ (by simp_all) (by rw[ag];exact (y.step (by rw[c];exact ha)));refine⟨B,?_,f⟩;rw[NY]
   have:Gi t.mask (a_ (ow,pre.length)) x=a_ (ow.setIfInBounds a (a_ pre.length),(pre++[x]).length):=by
    unfold Gi
    simp_all
   rw[this];exact d
def KC{n j k:Nat}(h:(uX n (b_:Option Nat))[j]?=a_ (a_ k)):False:=by
 rw[Array.getElem?_replicate]at h
 simp_all
def Lay.nil(t:bE)(hs:List Int):Lay t hs (uX (t.mask+1) b_) 0:=
 ⟨by simp,λj k h=>(KC h).elim,λk hk=>by omega,λj j' k h _=>(KC h).elim⟩
def Qf{t:bE}(B:t.mask=7\/t.mask=31\/t.mask=127\/t.mask=511){hs:Array Int}(hl:hs.size<=t.mask):∃ow,C1 t.mask hs=a_ ow/\Lay t hs.toList ow hs.size:=by
 obtain⟨ow,h1,h2⟩:=BA B (by simpa using hl) hs.toList [] _ rfl (Lay.nil t _);refine⟨ow,?_,by simpa using h2⟩;unfold C1;rw[<-Array.foldl_toList]
 have e:(hs.toList.foldl (Gi t.mask) (a_ (uX (t.mask+1) b_,0))).map (·.1)=a_ ow:=by
  simp_all
 exact e
def Qg{hs:Array Int}(B:mask=7\/mask=31\/mask=127\/mask=511)(hl:hs.size<=mask) :
  ∃t o,mE mask f m led pl hs=a_ (t,o)/\t.mask=mask/\t.led=led/\o.toList.Perm (aO hs.size)/\t.place.size=o.size/\(∀j∈t.place.toList,j<=mask)/\∀(i:Nat)(h:i<o.size)(h':i<t.place.size),nL t (hs.toList.getD o[i] 0) t.place[i]:=by
 let d:bE:={ mask,place:=#[],dummies:=#[],finger:=f,led,moves:=m,plain:=pl }
 obtain⟨ow,h1,y⟩:=Qf (t:=d) B hl;have hsz :=y.sz;let live:=(aO (mask+1)).filterMap λj=>(ow.getD j b_).map (j,·)
 have c:∀j k,(j,k)∈live↔ow[j]?=a_ (a_ k):=λj k=>by
  simp only[live,fS,bq,Ah,wQ];constructor
  .rintro⟨a,ha,b,hb,rfl,rfl⟩;rw[wG]at hb;rw[aY (aa ha (ae hsz.symm))]at hb ⊢;exact congrArg a_ hb
  .intro h;exact⟨j,aa ((bW.mp h).1) (ae hsz),k,by rw[wG,h];rfl,rfl,rfl⟩
 let t:bE:={ mask,place:=(live.map (·.1)).toArray,dummies:=#[],finger:=f,led,moves:=m,plain:=pl }
 refine⟨t,(live.map (·.2)).toArray,?_,rfl,rfl,?_,by simp[t],λj g=>?_,λi hi v=>?_⟩
 .unfold mE;rw[h1];rfl
 .have l:(live.map (·.2)).Nodup:=by
   have hp:live.Pairwise λa b=>a.1≠b.1:=by
    refine Ay.mpr (oT ?_ oP);intro a b p x w z A;obtain⟨_,_,rfl⟩:=dY w;obtain⟨_,_,rfl⟩:=dY A;exact bw p
   refine fG.mpr (iV ?_ hp);intro a b ha hb q e;have u:=(c a.1 a.2).mp ha;rw[e]at u;exact q (y.un _ _ _ u ((c b.1 b.2).mp hb))
  rw[fR l fO];intro k;rw[bQ,bq];constructor
  .rintro⟨a,ha,rfl⟩;exact(y.st _ _ ((c a.1 a.2).mp ha)).1
  .intro hk;obtain⟨j,g⟩:=y.ex k hk;exact⟨(j,k),(c j k).mpr g,rfl⟩
 .obtain⟨a,ha,rfl⟩:=bQ.mp g;exact aU (aa ((bW.mp ((c a.1 a.2).mp ha)).1) (ae hsz))
 .have r:i<live.length:=by simpa using hi
  have e1:(live.map (·.2)).toArray[i]=live[i].2:=by simp
  have e2:t.place[i]=live[i].1:=by simp[t]
  rw[e1,e2];obtain⟨_,n,D,E⟩:=y.st _ _ ((c live[i].1 live[i].2).mp (bA r));refine⟨n,?_,λk hk=>?_⟩
  .rw[oW (t:=t) (t':=d) rfl];exact D
  .rw[oW (t:=t) (t':=d) rfl];obtain⟨b,hb⟩:=FV (aq (Dd k _) (ae hsz.symm)) (E k hk);exact bQ.mpr ⟨(_,b),(c _ b).mpr hb,rfl⟩
theorem BR{t:bE}(hd:t.dummies=#[])(B:∀i,ha i≠hh):∀(fuel:Nat)(p:bK){m:Nj},p.dummy=b_->bV t ha hh fuel p=a_ m->∃n,n<fuel/\t.slot (way t n p).j=.empty/\∀k<n,t.slot (way t k p).j≠.empty
 |0,p,m,_,h=>by cases h
 |fuel+1,p,m,hp,h=>by
   rw[bV]at h
   cases hs:t.slot p.j with
   |empty=>exact⟨0,by simp,hs,λk hk=>by omega⟩
   |dummy=>exact(lN hd hs).elim
   |live i=>
     rw[hs]at h;dsimp only at h;rw[if_neg (by simpa using B i)]at h;obtain⟨n,h1,h2,h3⟩:=BR hd B fuel _ (tF hp) h;refine⟨n+1,bb h1,h2,λk hk=>?_⟩
     cases k with
     |zero=>show t.slot p.j≠_;rw[hs];simp
     |succ k=>exact h3 k (aU hk)
def Eh{t:bE}(B:t.mask=7\/t.mask=31\/t.mask=127\/t.mask=511)(hd:t.dummies=#[])(x:Int)(O:j<t.mask+1)(he:t.slot j=.empty) :
  ∃N,N<6000/\t.slot (way t N (t.probeStart x)).j=.empty/\∀k<N,t.slot (way t k (t.probeStart x)).j≠.empty:=by
 obtain⟨m,h⟩:=tP B hd (ha:=λ_=>x+1) (xU t x) O he;obtain⟨n,h1,h2,h3⟩:=BR hd (λ_=>(λz=>(k7 (oU z) (Int.le_refl _)))) _ _ rfl h;refine⟨n,?_,h2,h3⟩;unfold lG at h1;omega
def Dx{t:bE}(O:t.mask=7\/t.mask=31\/t.mask=127\/t.mask=511)(hd:t.dummies=#[])(h1:t.slot (way t N (t.probeStart x)).j=.empty)(h2:∀k<N,t.slot (way t k (t.probeStart x)).j≠.empty)(B:a<=N) :
  (t.probe ha x (way t a (t.probeStart x))=a_ (.empty (way t N (t.probeStart x)).j b_)/\∀k,a<=k->k<N->∃i,t.slot (way t k (t.probeStart x)).j=.live i/\ha i≠x)\/
  ∃b i,a<=b/\b<N/\t.probe ha x (way t a (t.probeStart x))=a_ (.candidate (way t b (t.probeStart x)).j i (way t (b+1) (t.probeStart x)))/\t.slot (way t b (t.probeStart x)).j=.live i/\ha i=x/\∀k,a<=k->k<b->∃i,t.slot (way t k (t.probeStart x)).j=.live i/\ha i≠x:=by
 have g :=JO a (xU t x);obtain⟨m,h⟩:=tP O hd g (bb (Dd (t:=t) N x)) h1;obtain⟨c,u,l⟩:=x4 hd _ _ g.d h
 have f:∀k,a<=k->k<a+c->∃i,t.slot (way t k (t.probeStart x)).j=.live i/\ha i≠x:=λk n q=>by
  have:=u (k - a) (jJ (ws n) q);rw[<-lD,(gD n)]at this;exact this
 have r:a+c<=N:=by
  rcases jr N (a+c)with hl|hl
  .obtain⟨i,e,_⟩:=f N B hl
   grind
  .exact hl
 rcases l with⟨l,o⟩|⟨i,l,o,v⟩
 .rw[<-lD]at l o
  have:a+c=N:=by
   rcases jr (a+c) N with hl|hl
   .simp_all
   .exact aC r hl
  refine .inl ⟨by rw[h,l,this],λk n q=>f k n (aa q (ae this.symm))⟩
 .rw[<-lD]at o
  have s:a+c<N:=by
   grind
  refine .inr ⟨a+c,i,aW _ _,s,?_,o,v,f⟩;rw[h,l,<-lD,<-lD];rfl
end L2
namespace L2
open PySem PySem.Spec PyProof.Rows
structure kF(led:Bool)(h:cM)(S:aI)(es:Array (Int×ah))(ep:Nat)(t:bE):Prop where
 obj:h.get? S=a_ { cls:=.type "set",dict:=b_,data:=.set es ep t }
 fits:t.fits es.size=c_
 ok:qe led t
def kF.keep{h':cM}(y:kF led h S es ep t)(k:∀o,h.get? S=a_ o->h'.get? S=a_ o):kF led h' S es ep t:=⟨k _ y.obj,y.fits,y.ok⟩
noncomputable abbrev oJ(w:du):Bool:=!w.params.followText "set-order"
def mK{α β:Type}{R:α->β->Prop}{l l':List α}(p:l'.Perm l):∀{ks:List β},iC R l ks->∃B,iC R l' B/\B.Perm ks:=by
 induction p with
 |nil=>intro ks h;cases h;exact⟨[],.nil,.nil⟩
 | cons x p g=>intro ks h;cases h with
   |cons a b=>obtain⟨B,c,d⟩:=g b;exact⟨_::B,.cons a c,d.cons _⟩
 | swap x y l=>intro ks h;cases h with
   | cons a b=>cases b with
     |cons c d=>exact⟨_,.cons c (.cons a d),.swap _ _ _⟩
 |trans p q e f=>
   intro ks h;obtain⟨j,a,b⟩:=f h;obtain⟨i,c,d⟩:=e a;exact⟨i,c,d.trans b⟩
theorem o8{α β:Type}{R:α->β->Prop}{x:α}{y:β}(h:R x y):∀{l:List α}{ks:List β},iC R l ks->iC R (l++[x]) (ks++[y])
 |_,_,.nil=>.cons h .nil
 |_,_,.cons a b=>.cons a (o8 h b)
theorem lR{α β:Type}{R:α->β->Prop}:∀{l:List α}{ks:List β},iC R l ks->l.length=ks.length
 |_,_,.nil=>rfl
 |_,_,.cons a b=>by rw[bx,bx,lR b]
theorem mL{α β:Type}{R:α->β->Prop}{x:α}:∀{l:List α}{ks:List β},iC R l ks->x∈l->∃y∈ks,R x y
 |_,_,.nil,h=>by cases h
 |_,_,.cons a b,h=>by
   rcases au.mp h with rfl|h
   .exact⟨_,.head _,a⟩
   .obtain⟨y,c,d⟩:=mL b h;exact⟨y,.tail _ c,d⟩
theorem n4{α β:Type}{R:α->β->Prop}{y:β}:∀{l:List α}{ks:List β},iC R l ks->y∈ks->∃x∈l,R x y
 |_,_,.nil,h=>by cases h
 |_,_,.cons a b,h=>by
   rcases au.mp h with rfl|h
   .exact⟨_,.head _,a⟩
   .obtain⟨x,c,d⟩:=n4 b h;exact⟨x,.tail _ c,d⟩
section
variable{prog:cJ}{w:du}{K:Type}[DecidableEq K]{knd:m9 prog w K}{s:ak}
def qT{es':Array (Int×ah)}{t':bE}(y:kF led s.heap S es ep t)(f:t'.fits es'.size=c_)(o:qe led t')(B:es'.size<=aB)
  (k:∀h',cL S s.heap h'->kF led h' S es' (ep+1) t'->Q () { s with heap:=h' }):aF (aG prog w) A (storeSet S es' t') Q E s:=by
 refine wpAny_storeSet_of y.obj rfl (k _ (ou ..) ⟨?_,f,o⟩) B;exact (fe (Obj.putSet es' t') y.obj (by rfl))
def Fc{g:Bool->Av Unit}(hg:∀(c:Bool) (s1:ak) (R:Unit->ak->Prop),R () s1->aF (aG prog w) A (g c) R E s1){B:Array (Int×ah)}{O:bE}{d:Bool}{R:Option Bool->ak->Prop}
  (y:kF led s.heap S es ep t)(f:O.fits B.size=c_)(o:qe led O)(Z:B.size<yO)
  (k:∀h' es' Y t',cL S s.heap h'->kF led h' S es' Y t'->es'.toList.Perm B.toList->R (a_ c_) { s with heap:=h' }) :
  aF (aG prog w) A (do
      storeSet S B O
      if(!d && O.tooFull)=c_ then do
         g (relayAll O B (dS B.size)).2.2
         storeSet S (relayAll O B (dS B.size)).1 (relayAll O B (dS B.size)).2.1
         pure (a_ c_)
       else pure (a_ c_)) R E s:=by
 refine wb9 (qT y f o (fits_of_scanBound Z) λh1 a b=>?_);split
 .have hp:=relayAll_perm O B (dS B.size);have sz:(relayAll O B (dS B.size)).1.size=B.size:=by rw[<-bf,hp.length_eq,bf]
  exact wb9 (hg _ _ _ (wb9 (qT b (relayAll_fits ..) (o.Yb ..) (by rw[sz];exact fits_of_scanBound Z) λh2 A0 e=>wu9 (k h2 _ _ _ (a.trans A0) e hp))))
 .exact wu9 (k h1 _ _ _ a b (.refl _))
def To(hk:knd.is k x=c_)(Y:x.scannable=c_)(y:kF led s.heap S es ep t)(el:Rj knd es.toList)(room:es.size+1<yO)
  (O:∀b,(∃e∈es.toList,knd.is k e.2=c_)->Q b s)
  (new:∀b h' es' B t',(¬ ∃e∈es.toList,knd.is k e.2=c_)->cL S s.heap h'->kF led h' S es' B t'->es'.toList.Perm (es.toList++[(knd.hash k,x)])->Q b { s with heap:=h' }) :
  aF (aG prog w) A (setAddHashed S x (knd.hash k)) Q E s:=by
 refine ck (wb9 (dH y.obj rfl y.fits ?_));dsimp only;rw[byScan_of Y (ud room) el];refine wb9 (wb9 (gh (wb9 (wpAny_setScan_of hk y.obj rfl y.fits el ?_))))
 cases q:List.findIdx? (λe=>knd.is k e.2) es.toList with
 |some j=>
   obtain⟨o,hp,_⟩:=List.findIdx?_eq_some_iff_getElem.mp q;exact wu9 (wu9 (O _ ⟨es.toList[j],bA o,hp⟩))
 |none=>
   have p:¬ ∃e∈es.toList,knd.is k e.2=c_:=by
    rintro⟨e,he,hp⟩;have:=List.findIdx?_eq_none_iff.mp q e he
    simp_all
   have m:∀(c:Bool)(s1:ak)(R:Unit->ak->Prop),R () s1->aF (aG prog w) A (match c with|true=>rule "set.scan.the-table-gave-way"|false=>pure ()) R E s1:=by
    intro c s1 R h;cases c
    .exact wu9 h
    .exact gh h
   have f:=layNew_perm t es (knd.hash k) x;have g:=layNew_fits t es (knd.hash k) x;have i:=y.ok.lay es (knd.hash k) x;generalize layNew t es (knd.hash k) x=L at f g i ⊢;obtain⟨l,r,d,u⟩:=L;rw[Jv]at f;have n:l.size=es.size+1:=by rw[<-bf,f.length_eq,ag];rfl
   refine wb9 (m _ _ _ ?_);have fin:∀h' es' B t',cL S s.heap h'->kF led h' S es' B t'->es'.toList.Perm l.toList->Q c_ { s with heap:=h' }:=λh' es' B t' a b c=>new _ h' es' B t' p a b (c.trans f);split
   .refine wb9 ?_;rw[hashByValue_scannable 8 Y];refine wu9 ?_;refine Fc m y ?_ ?_ (aq (ae n) room) λh' es' B t' a b c=>wu9 (fin h' es' B t' a b c)
    .split
     .exact g
     .exact SetTable.fits_plain_off g
    .split
     .exact i
     .exact i.off
   .exact wb9 (wu9 (Fc m y g i (aq (ae n) room) λh' es' B t' a b c=>wu9 (fin h' es' B t' a b c)))
end
def oo{prog:cJ}{w:du}{K:Type}[DecidableEq K](knd:m9 prog w K)(led:Bool)(h:cM)(S:aI)(n:Nat)(M:K->Prop):Prop:=
 ∃es ep t ks,kF led h S es ep t/\Rj knd es.toList/\iC (λ(e:Int×ah)k=>knd.is k e.2=c_) es.toList ks/\ks.Nodup/\ks.length<=n/\∀q,q∈ks↔M q
section
variable{prog:cJ}{w:du}{K:Type}[DecidableEq K]{knd:m9 prog w K}{A:bX}{G:Array C5->Array C5->Prop}{St:Nat->ak->Prop}
def oo.keep{h':cM}(y:oo knd led h S n M)(k:∀o,h.get? S=a_ o->h'.get? S=a_ o):oo knd led h' S n M:=
 let ⟨es,ep,t,ks,a,r⟩:=y
 ⟨es,ep,t,ks,a.keep k,r⟩
def vK{val:Nat->K}{i:Nat}{q:K}:(∃j,j<i+1/\val j=q)↔(∃j,j<i/\val j=q)\/val i=q:=by
 constructor
 .rintro⟨j,h,e⟩;by_cases a:j=i
  .subst a;exact .inr e
  .exact .inl ⟨j,bC (aU h) a,e⟩
 .rintro(⟨j,h,e⟩|e)
  .exact⟨j,cc h,e⟩
  .exact⟨i,ao _,e⟩
def JR(W:WalksS prog w A.in1 I fp wr G n P St)(S:aI)(O:S∉fp)(val:Nat->K)(Y:∀i v,P i v->knd.is (val i) v=c_/\v.scannable=c_)(hb:n+1<yO) :
  ∀(k i:Nat)(s:ak),n - i=k->i<=n->St i s->oo knd led s.heap S i (λq=>∃j,j<i/\val j=q)->
   (∀s',Moved (S::wr) G s s'->oo knd led s'.heap S n (λq=>∃j,j<n/\val j=q)->R (.ok (.ret .none)) s')->
   codeAny (aG prog w) A (.builtin "set.update.loop" ⟨[.ref S,.ref I],[]⟩) R s:=by
 have g :=λh=>O (W.sub _ h);have sub:∀b∈wr,b∈S::wr:=λb m=>ki _ m;intro k
 induction k with
 |zero=>
   intro i s hk hi d y C;obtain rfl:i=n:=aC (gm hi) (jJ (wt hi) (ae hk));refine eM fh ?_;exact wb9 (W.done s _ _ d λs' m=>wu9 (C s' (m.mono sub) (y.keep λo e=>m.heap S o g e)))
 |succ k T=>
   intro i s hk hi d y C;refine eM fh ?_;refine wb9 (W.item i s _ _ (jJ (ws hi) (ae hk.symm)) d λv s' U l m=>?_);refine ac fun Pq kq => ?_; obtain⟨x,L⟩:=Y i v U;obtain⟨es,ep,t,ks,M,D,r,N,E,Q⟩:=y.keep λo e=>m.heap S o g e;refine kq ?_; refine wb9 (ck ?_);refine ck (wb9 (knd.pyHash x ?_));have len:=lR r;have has:(∃e∈es.toList,knd.is (val i) e.2=c_)↔val i∈ks:=by
    constructor
    .rintro⟨e,e1,e2⟩;obtain⟨q,V,X⟩:=mL r e1;rw[knd.inj _ _ _ e2 X];exact V
    .intro q;obtain⟨e,e1,e2⟩:=n4 r q;exact⟨e,e1,e2⟩
   have go:∀h',cL S s'.heap h'->oo knd led h' S (i+1) (λq=>∃j,j<i+1/\val j=q)->
     aF (aG prog w) A.in1 (again (.builtin "set.update.loop" ⟨[.ref S,.ref I],[]⟩)) (λfin c=>match fin with | .done f=>R (.ok f) c | .again c'=>c'.quiet=c_/\codeAny (aG prog w) A c' R c) (λe c=>R (.error e) c) { s' with heap:=h',toks:=s'.toks+1 }:=by
    intro h' B F;refine wu9 ⟨fX iH _,T (i+1) _ (by omega) (jJ (ws hi) (ae hk.symm)) (W.frame _ s' _ _ l (wC _) λb hb o e=>?_) F λs2 m2 Z=>?_⟩
    .rw[B.2 b λz=>O (z▸hb)];exact e
    .refine C s2 (Moved.trans W.gtrans ((m.mono sub).then_heap (wC _) λb o hb e=>?_) m2) Z;rw[B.2 b λz=>hb (z▸jy)];exact e
   refine To x L M D (Nx (ae len) hb E hi) (λb H=>?_) (λb h' es' J t' H B F p=>?_)
   .refine go s'.heap (yR ..) ⟨es,ep,t,ks,M,D,r,N,cc E,λq=>?_⟩;show q∈ks↔∃j,j<i+1/\val j=q;rw[vK,show(∃j,j<i/\val j=q)↔q∈ks from(Q q).symm];refine⟨.inl,λz=>z.elim id λe=>?_⟩;rw[<-e];exact has.mp H
   .obtain⟨u,c1,c2⟩:=mK p (o8 (R:=λ(e)k=>knd.is k e.2=c_) x r);have nk :=λz=>H (has.mpr z);refine go h' B ⟨es',J,t',u,F,(D.push x L).perm p,c1,?_,?_,λq=>?_⟩
    .refine c2.nodup_iff.mpr (cC.mpr ⟨N,aX.mpr ⟨by simp,ee⟩,λa ha b hb=>?_⟩)
     grind
    .rw[c2.length_eq,ag];exact bb E
    .show q∈u↔∃j,j<i+1/\val j=q;rw[c2.mem_iff,ax,aE,vK,show(∃j,j<i/\val j=q)↔q∈ks from(Q q).symm];exact⟨λz=>z.imp id pG,λz=>z.imp id pG⟩
end
section
variable{z0:ak}
def MK{st:List ah}(B:qI P w z0.heap ks p)(hs:∀v∈st,∃l b,v=.ref b/\qI P w z0.heap l b)(h:Q d_ z0):aF (aG P w) A (searchCouldBeSeen (.ref p) st) Q E z0:=by
 refine wb9 ?_;refine iA _ (λtl r d=>r.1=b_/\d=z0/\∀v∈tl,∃l b,v=.ref b/\qI P w z0.heap l b) _ ?_ ?_ _ _ ⟨rfl,rfl,hs⟩
 .rintro v tl r d ⟨ge,rfl,a⟩;obtain⟨l,b,rfl,e⟩:=a v jy;dsimp only;split
  .exact wu9 ⟨rfl,rfl,λu c=>a u (ki _ c)⟩
  .refine wb9 (uA Hz B ?_);refine wb9 (uA Hz e ?_);refine wb9 (zT Hz B ?_);exact wb9 (zT Hz e (wu9 ⟨rfl,rfl,λu c=>a u (ki _ c)⟩))
 .rintro⟨r1,r2⟩ d ⟨ge,rfl,_⟩;subst ge;exact wu9 h
end
def below_at(hs:CF xs)(hi:i<xs.size):aL xs xs[i]=i:=by
 obtain⟨h1,h2,h3⟩:=M6 hs xs[i]
 rcases nQ (aL xs xs[i]) i with hl|hl|hl
 .exact((aS (hs.get hi hl) (h3 (aL xs xs[i]) (cY hl hi) (ao _)))).elim
 .exact hl
 .exact((aS (h2 i hi hl) (ao _))).elim
def Oz{t:bE}(B:CF t.place)(hi:i<t.place.size):t.slot t.place[i]=.live i:=by
 rw[AQ B (by simp),below_at B hi]
abbrev hAt(es:Array (Int×ah))(i:Nat):Int:=(es[i]?.map (·.1)).getD 0
section
variable{P:cJ}{w:du}{A:bX}{s:ak}{es:Array (Int×ah)}{t:bE}
structure ZR(P:cJ)(w:du)(h:cM)(es:Array (Int×ah))(t:bE)(kf:Nat->List NK):Prop where
 mask:t.mask=7\/t.mask=31\/t.mask=127\/t.mask=511
 el:∀(i:Nat)(hi:i<es.size),∃b,es[i].2=.ref b/\qI P w h (kf i) b/\es[i].1=eF P w (kf i)
 std:∀(i:Nat)(hi:i<es.size)(hp:i<t.place.size),nL t es[i].1 t.place[i]
 le:∀j∈t.place.toList,j<=t.mask
theorem AZ(Y:A.units+3<=dc)(y:kF led s.heap S es ep t)(z:ZR P w s.heap es t kf)(O:qI P w s.heap ks p)
  (h1:t.slot (way t N (t.probeStart (eF P w ks))).j=.empty)(h2:∀k<N,t.slot (way t k (t.probeStart (eF P w ks))).j≠.empty)
  (B:∀i,i<es.size->kf i=ks->Q (.there b_) s)(new:(∀i,i<es.size->kf i≠ks)->Q (.free (way t N (t.probeStart (eF P w ks))).j d_) s) :
  ∀(fuel a:Nat)(qS:Option bK),a<=N->N - a<fuel->qS.getD (t.probeStart (eF P w ks))=way t a (t.probeStart (eF P w ks))->(∀k<a,∀i,t.slot (way t k (t.probeStart (eF P w ks))).j=.live i->kf i≠ks)->
   aF (aG P w) A (setSearchFrom S (.ref p) (eF P w ks) c_ fuel qS) Q E s
 |0,a,qS,ha,hf,_,_=>((aS hf (aM _))).elim
 |fuel+1,a,qS,ha,hf,G,o=>by
   have hsz:t.place.size=es.size:=by
    have:=y.fits;simp only[mF,aj,beq_iff_eq]at this;exact this.1
   have g:=z.mask
   have U:t.gaveWay=d_:=by
    unfold SetTable.gaveWay
    rcases g with e|e|e|e<;>rw[e]<;>rfl
   have l:∀{j i:Nat},t.slot j=.live i->∃hi:i<es.size,hAt es i=es[i].1:=λ{j i}e=>by
    have hi:=(bW.mp (Qe e)).1;refine⟨aa hi (ae hsz),?_⟩;unfold hAt;simp[aY ((aa hi (ae hsz)))]
   refine wb9 (dH y.obj rfl y.fits ?_);dsimp only;rw[U];simp only[if_false,bS];rw[G]
   rcases Dx g y.ok.d (ha:=hAt es) h1 h2 ha with⟨H,D⟩|⟨b,i,b1,b2,H,D,g3,V⟩
   .erw [H]
    refine wu9 (new λi hi e=>?_);obtain⟨n,R,T⟩:=z.std i hi (aa hi (ae hsz.symm));have hh:es[i].1=eF P w ks:=by obtain⟨_,_,_,q⟩:=z.el i hi;rw[q,e]
    rw[hh]at R T;have f:t.slot (way t n (t.probeStart (eF P w ks))).j=.live i:=by rw[R];exact Oz y.ok.r (aa hi (ae hsz.symm))
    have I:n<N:=by
     rcases nQ n N with hl|hl|hl
     .exact hl
     .simp_all
     .have:=T N hl;rw[AQ y.ok.r this]at h1;cases h1
    rcases jr n a with hl|hl
    .exact o n hl i f e
    .obtain⟨h,e1,e2⟩:=D n hl I;rw[f]at e1
     injection e1 with e1
     subst e1;obtain⟨_,e3⟩:=l f
     simp_all
   .erw [H]
    dsimp only;obtain⟨hi,e3⟩:=l D;obtain⟨c,c1,c2,c3⟩:=z.el i hi
    have u:es[i]?=a_ (es[i].1,.ref c):=by
     rw[aY hi,<-c1]
    have next:aF (aG P w) A (do
      let a_ (_,v):=es[i]? | unsupported "internal:set-entry"
      let equal <-holding [v] (eqBool v (.ref p));let (es',_,t') <-setState S
      if(c_ && equal)=c_ then return .there b_
      let a_ same:=t'.sameMemory t.moves t.mask|unsupported "set.changed-during-lookup:is-the-new-block-at-the-old-address"
      let still <-match(if same=c_ then t'.slot (way t b (t.probeStart (eF P w ks))).j else .empty)with
       | .live h=>match es'[h]? with
         |some (_,W)=>do pure (if(<-isSame W v)=c_ then a_ h else b_)
         |none=>pure b_
       |_=>pure b_
      match still with
      |none=>rule "set.search.anew";setSearchFrom S (.ref p) (eF P w ks) c_ fuel b_
      |some h=>if equal=c_ then return .there (a_ h)else setSearchFrom S (.ref p) (eF P w ks) c_ fuel (a_ (way t (b+1) (t.probeStart (eF P w ks))))) Q E s:=by
     rw[u];dsimp only;refine wb9 (ck (Zn Y c2 O ?_));refine wb9 (dH y.obj rfl y.fits ?_);by_cases e:kf i=ks
     .rw[decide_eq_true e];exact wu9 (B i hi e)
     .rw[decide_eq_false e];have J:t.sameMemory t.moves t.mask=a_ c_:=by unfold SetTable.sameMemory;simp
      rw[J];simp only[if_true];rw[D];dsimp only;rw[u];refine wb9 (wpAny_isSame_ref_self (wb9 (wu9 ?_)));refine AZ Y y z O h1 h2 B new fuel (b+1) _ (b2) (Nx (ws b2) (wt ha) hf b1) rfl λk hk h K L=>?_
      rcases nQ k b with hl|hl|hl
      .rcases jr k a with m|m
       .exact o k m h K L
       .obtain⟨i2,F,q2⟩:=V k m hl;rw[K]at F
        injection F with F
        subst F;obtain⟨M,q3⟩:=l K;obtain⟨_,_,_,q4⟩:=z.el h M
        simp_all
      .simp_all
      .exact aS hk hl
    split
    .refine wb9 (MK O (λv X=>?_) ?_)
     .obtain⟨x,C,rfl⟩:=bQ.mp X;have C:=Array.mem_toList_iff.mp C;obtain⟨k,hk,rfl⟩:=Array.mem_iff_getElem.mp (Array.mem_filter.mp C).1;obtain⟨Z,d1,d2,_⟩:=z.el k hk;exact⟨_,Z,d1,d2⟩
     .exact next
    .exact next
end
section
variable{z0:ak}
def Zc(B:qI P w z0.heap ks p)(h:∀b,Q b z0):aF (aG P w) A (hashByValue 8 (.ref p)) Q E z0:=R7 Hz B h
end
section
variable{P:cJ}{w:du}{A:bX}{s:ak}{es:Array (Int×ah)}{t:bE}
def _root_.L2.sg.keepsC(x:sg I h ks p)(go:h.get? d=a_ o)(B:o.cls≠.type "tuple")(O:cL d h h'):sg I h' ks p:=
 x.oH (ZF go B λb o n e=>(O.2 b n).trans e)
structure EM(P:cJ)(w:du)(h:cM)(es:Array (Int×ah))(t:bE):Prop where
 mask:t.mask=7\/t.mask=31\/t.mask=127\/t.mask=511
 el:∀e∈es.toList,∃l b,e.2=.ref b/\qI P w h l b/\e.1=eF P w l
 std:∀q∈es.toList.zip t.place.toList,nL t q.1.1 q.2
 le:∀j∈t.place.toList,j<=t.mask
 nf:t.place.size * 5<t.mask * 3
def EM.toN(z:EM P w h es t):∃kf,ZR P w h es t kf:=by
 refine⟨λi=>if hi:i<es.size then(z.el es[i] (by simp)).choose else [],z.mask,λi hi=>?_,λi hi hp=>?_,z.le⟩
 .obtain⟨b,h1,h2,h3⟩:=(z.el es[i] (by simp)).choose_spec;refine⟨b,h1,?_,?_⟩
  .rw[dif_pos hi];exact h2
  .rw[dif_pos hi];exact h3
 .refine z.std (es[i],t.place[i]) ?_;refine cV.mpr ⟨i,by simp;omega,by simp⟩
def sQ{l l':List Nat}(O:l.Nodup)(B:l'.Nodup)(h:∀x∈l,x∈l'):l.length<=l'.length:=by
 have hp:l.Perm (l'.filter λx=>decide (x∈l)):=by
  rw[fR O (Al Hu B)]
  simp_all
 rw[hp.length_eq];exact c8 _ _
def Wc(B:CF t.place)(hf:t.place.size<t.mask+1)(hd:t.dummies=#[]):∃j,j<t.mask+1/\t.slot j=.empty:=by
 rcases JL (∃j,j<t.mask+1/\t.slot j=.empty)with h|h
 .exact h
 .exfalso;have:=sQ fO (oT (λh=>(bw h)) B) λj(b)=>Li hd λe=>h ⟨j,bq.mp b,e⟩;rw[bo]at this;exact aS hf this
def Dy(O:A.units+3<=dc)(y:kF led s.heap S es ep t)(z:EM P w s.heap es t)(Y:qI P w s.heap ks p)
  (B:(∃e∈es.toList,∃b,e.2=.ref b/\qI P w s.heap ks b)->Q (.there b_) s)
  (new:∀j,(¬ ∃e∈es.toList,∃b,e.2=.ref b/\qI P w s.heap ks b)->t.slot j=.empty->j<=t.mask->nL (t.put j).1 (eF P w ks) j->Q (.free j d_) s) :
  aF (aG P w) A (setSearch S (.ref p) (eF P w ks) c_) Q E s:=by
 refine ac λ_ x=>?_;obtain⟨kf,n⟩:=z.toN;have f:=z.nf;obtain⟨j,l,he⟩:=Wc y.ok.r (by rcases z.mask with e|e|e|e<;>rw[e]at f ⊢<;>omega) y.ok.d;obtain⟨N,m,h1,h2⟩:=Eh z.mask y.ok.d (eF P w ks) l he;refine x ?_;refine AZ O y n Y h1 h2 (λi hi e=>B ?_) (λg=>new _ ?_ h1 (Dd N _) ?_) 100000 0 b_ (aM _) (aa m br) rfl λk hk=>((aS hk (aM _))).elim
 .obtain⟨b,a,h,_⟩:=n.el i hi;exact⟨es[i],by simp,b,a,e▸h⟩
 .rintro⟨e,he,b,a,h⟩;obtain⟨i,hi,rfl⟩:=cV.mp he;have c:i<es.size:=by simpa using hi
  obtain⟨u,o,q,_⟩:=n.el i c;rw[pV]at a;rw[o]at a;cases a;exact g i c (q.inj h)
 .exact nL.new λk hk=>Li y.ok.d (h2 k hk)
end
section
variable{s:ak}
def O2(y:kF led s.heap S es ep t)(B:fL wanted<=aB)(hl:t.relaid (es.map (·.1)) wanted=a_ (t',o))(hs:(o.filterMap (es[·]?)).size=es.size)
  (f:t'.fits (o.filterMap (es[·]?)).size=c_)(ok:qe led t')(O:es.size<=aB)(k:∀h',cL S s.heap h'->kF led h' S (o.filterMap (es[·]?)) (ep+1) t'->Q () { s with heap:=h' }) :
  aF (aG P w) A (setRelay S wanted) Q E s:=by
 refine wb9 (dH y.obj rfl y.fits ?_);dsimp only;rw[if_neg (λz=>(aS z B)),hl];refine wb9 ?_;change aF _ _ (if((o.filterMap (es[·]?)).size != es.size)=c_ then(unsupported "internal:set-table-lost-an-element" >>= λ_=>pure (o.filterMap (es[·]?),t'))else pure (o.filterMap (es[·]?),t')) _ _ _;rw[if_neg (by simp[hs])];exact wu9 (qT y f ok (by rw[hs];exact O) k)
end
theorem filterMap_map{α β:Type}{f:α->Option β}{g:α->β}:∀{l:List α},(∀k∈l,f k=a_ (g k))->l.filterMap f=l.map g
 |[],_=>rfl
 |a::l,h=>by rw[jw,h a jy,aA,filterMap_map λk hk=>h k (ki _ hk)]
def Ij(es:Array (Int×ah)):(aO es.size).map (λk=>(es[k]?).getD (0,.none))=es.toList:=by
 apply jj
 .simp
 simp_all
section
variable{es:Array (Int×ah)}
def Bj{o:Array Nat}(hp:o.toList.Perm (aO es.size)):(o.filterMap (es[·]?)).toList=o.toList.map (λk=>(es[k]?).getD (0,.none)):=by
 rw[Array.toList_filterMap];refine filterMap_map λk hk=>?_;have :=bq.mp (hp.mem_iff.mp hk)
 simp_all
def vz{o:Array Nat}(hp:o.toList.Perm (aO es.size)):(o.filterMap (es[·]?)).toList.Perm es.toList:=by
 rw[Bj hp];have:=hp.map (λk=>(es[k]?).getD (0,fF));rw[Ij]at this;exact this
def O3{h:cM}(B:mask=7\/mask=31\/mask=127\/mask=511)(O:es.size<=mask)(Y:es.size * 5<mask * 3)(el:∀e∈es.toList,∃l b,e.2=.ref b/\qI P w h' l b/\e.1=eF P w l) :
  ∃t' o,mE mask f m led pl (es.map (·.1))=a_ (t',o)/\(o.filterMap (es[·]?)).size=es.size/\t'.fits (o.filterMap (es[·]?)).size=c_/\qe led t'/\(o.filterMap (es[·]?)).toList.Perm es.toList/\EM P w h' (o.filterMap (es[·]?)) t':=by
 obtain⟨t',o,h1,h2,h3,a,h5,k,n⟩:=Qg (hs:=es.map (·.1)) B (by simpa using O);have a:o.toList.Perm (aO es.size):=by simpa using a
 have hp:=vz a;have hsz:(o.filterMap (es[·]?)).size=es.size:=by rw[<-bf,hp.length_eq,bf]
 have p:o.size=es.size:=by rw[<-bf,a.length_eq,bo]
 have ok:=qe.laid h1;refine⟨t',o,h1,hsz,?_,ok,hp,?_⟩
 .simp only[mF,pT,aj,beq_iff_eq,decide_eq_true_eq,ok.d]
  simp_all
 .refine⟨by rw[h2];exact B,λe he=>el e (hp.mem_iff.mp he),λq r=>?_,λj s=>by rw[h2];exact k j s,Nx (Nat.mul_le_mul_left 5 (Nat.le_of_eq h5)) Y (Nat.mul_le_mul_left 5 (Nat.le_of_eq p)) (Nat.mul_le_mul_left 3 (Nat.le_of_eq h2.symm))⟩;obtain⟨i,hi,rfl⟩:=cV.mp r;rw[wD]at hi;have c:i<o.size:=by simp at hi;omega
  have hk:o[i]<es.size:=bq.mp (a.mem_iff.mp (by simp))
  have e1:(o.filterMap (es[·]?)).toList[i]'(by exact aa hi (iL _ _))=es[o[i]]:=by
   simp only[Bj a,uu,pV,aY hk,tK]
  have h8:=n i c (aa c (ae h5.symm))
  simp_all
end
def Gu{α:Type}(xs:Array α)(hp:p<=xs.size)(x:α):(de xs p x).size=xs.size+1:=by
 rw[<-bf,e9,ag,bx,dQ,dh];exact Nat.le_antisymm (jJ (Nat.min_le_left p xs.size) (ad hp)) (jJ (am hp) (a0 p xs.size (gm hp)))
def BJ{α:Type}(xs:Array α)(p:Nat)(x:α):(de xs p x).toList.Perm (xs.toList++[x]):=by
 rw[e9];refine Nq.trans ?_;rw[bh];exact dX (l₁:=[x])
def Qm{α β:Type}(xs:Array α)(ys:Array β)(h:xs.size=ys.size){p:Nat}(hp:p<=xs.size)(x:α)(y:β){q:α×β}(B:q∈(de xs p x).toList.zip (de ys p y).toList):q=(x,y)\/q∈xs.toList.zip ys.toList:=by
 rw[e9,e9,NU (by simp;exact Nat.le_antisymm (jJ (Nat.min_le_left p xs.size) (a0 p ys.size (jJ hp (Nat.le_of_eq h)))) (jJ (Nat.min_le_left p ys.size) (a0 p xs.size (gm hp))))]at B
 have a:xs.toList.zip ys.toList=(xs.toList.take p).zip (ys.toList.take p)++(xs.toList.drop p).zip (ys.toList.drop p):=by
  rw[<-NU (by simp;omega),bh,bh]
 rw[a]
 rcases ax.mp B with B|B
 .simp_all
 .rcases au.mp B with B|B
  .exact .inl B
  .exact .inr (ax.mpr (.inr B))
section
def AF{c:Prop}[Decidable c]{m O:Av Bool}{k:Bool->Av Bool}{Q:Bool->ak->Prop}(h:∀b,aF (aG P w) A (k b) Q E s)(Y:∀{Q':Bool->ak->Prop},(∀b,Q' b s)->aF (aG P w) A m Q' E s)(B:∀{Q':Bool->ak->Prop},(∀b,Q' b s)->aF (aG P w) A O Q' E s) :
  aF (aG P w) A (if c then m >>= k else O >>= k) Q E s:=by
 split
 .exact wb9 (Y h)
 .exact wb9 (B h)
def nL.plain(h:nL t x j):nL { t with plain:=b } x j:=
 nL.mono (t:=t)  rfl (λ_ h=>h) h
def Qq(B:mask=7\/mask=31\/mask=127\/mask=511)(h0:n * 5<mask * 3)(h1:(n+1) * 5>=mask * 3)(O:n<300):(fL (dS (n+1)) - 1=31\/fL (dS (n+1)) - 1=127\/fL (dS (n+1)) - 1=511)/\n+1<=fL (dS (n+1)) - 1/\(n+1) * 5<(fL (dS (n+1)) - 1) * 3/\fL (dS (n+1))<=512:=by
 rcases B with rfl|rfl|rfl|rfl
 .obtain rfl:n=4:=by omega
  decide +kernel
 .obtain rfl:n=18:=by omega
  decide +kernel
 .obtain rfl:n=76:=by omega
  decide +kernel
 .exact ⟨(.inl (Qa h1 (Nat.mul_le_mul_left 5 O)).elim),⟨(Qa h1 (Nat.mul_le_mul_left 5 O)).elim,⟨(Qa h1 (Nat.mul_le_mul_left 5 O)).elim,(Qa h1 (Nat.mul_le_mul_left 5 O)).elim⟩⟩⟩
end
section
variable{s:ak}{A:bX}
set_option tactic.hygienic true in
def add_n(i_:A.units+3<=dc)(y:kF led s.heap S es ep t)(z:EM P w s.heap es t)(O:qI P w s.heap ks p)(room:es.size<300)
  (Y:∀b,(∃e∈es.toList,∃b,e.2=.ref b/\qI P w s.heap ks b)->Q b s)
  (new:∀b h' es' Z t',(¬ ∃e∈es.toList,∃b,e.2=.ref b/\qI P w s.heap ks b)->cL S s.heap h'->kF led h' S es' Z t'->EM P w h' es' t'->es'.toList.Perm (es.toList++[(eF P w ks,.ref p)])->Q b { s with heap:=h' }) :
  aF (aG P w) A (setAddHashed S (.ref p) (eF P w ks)) Q E s:=by
 have hsz:t.place.size=es.size:=by
  have:=y.fits;simp only[mF,aj,beq_iff_eq]at this;exact this.1
 refine ck ?_;refine wb9 (dH y.obj rfl y.fits ?_);dsimp only;refine wb9 (Dy i_ y z O (λh=>?_) (λj F hs N R=>?_))
 .exact wu9 (Y _ h)
 .refine wb9 (dH y.obj rfl y.fits ?_);refine AF (λb=>?_) (λq=>Zc O q) (λq=>wu9 (q _));have i :=(M6 y.ok.r j).1
  have n:({ cls:=.type "set",dict:=b_,data:=.set es ep t }:lA).cls≠.type "tuple":=by
   simp
  generalize m:(if b=c_ then(t.put j).1 else { (t.put j).1 with plain:=d_ })=t1;have T:t1.place=de t.place (aL t.place j) j:=by rw[<-m];split<;>rfl
  have L:t1.mask=t.mask:=by rw[<-m];split<;>rfl
  have G:qe led t1:=by
   have:=y.ok.put (vc y.ok.d hs);rw[<-m];split
   .exact this
   .exact this.off
  have q4:∀x a,nL (t.put j).1 x a->nL t1 x a:=λx a h=>by
   rw[<-m];split
   .exact h
   .exact h.plain
  have C:t1.place.size=es.size+1:=by rw[T,Gu _ i,hsz]
  have g:(de es (aL t.place j) (eF P w ks,dt p)).size=es.size+1:=Gu _ (aa i (ae hsz)) _;have c:=BJ es (aL t.place j) (eF P w ks,dt p)
  have u:∀e,e∈(de es (aL t.place j) (eF P w ks,dt p)).toList->e∈es.toList\/e=(eF P w ks,dt p):=λe he=>by
   rcases ax.mp (c.mem_iff.mp he)with h|h
   .exact .inl h
   .exact .inr (aE.mp h)
  have H:=z.nf
  have v:t1.fits (de es (aL t.place j) (eF P w ks,dt p)).size=c_:=by
   simp only[mF,pT,aj,beq_iff_eq,decide_eq_true_eq,G.d];refine⟨aC (aa (ae C) (ae g.symm)) (aa (ae g) (ae C.symm)),?_⟩;show t1.place.size+0<=t1.mask;rw[L]
   rcases z.mask with e|e|e|e<;>rw[e]at H ⊢<;>omega
  have I:∀a∈t1.place.toList,a<=t1.mask:=λa ha=>by
   rw[T]at ha;rw[L]
   rcases ax.mp ((BJ t.place (aL t.place j) j).mem_iff.mp ha)with h|h
   .exact z.le a h
   .rw[aE.mp h];exact N
  have k:∀q∈(de es (aL t.place j) (eF P w ks,dt p)).toList.zip t1.place.toList,nL t1 q.1.1 q.2:=λq hq=>by
   rw[T]at hq
   rcases Qm es t.place hsz.symm (aa i (ae hsz)) _ _ hq with h|h
   .rw[h];exact q4 _ _ R
   .exact q4 _ _ (nL.mono (t:=t)  rfl (λa ha=>Gc.mpr (.inr ha)) (z.std q h))
  rw[show(t.put j).2=aL t.place j from rfl];generalize de es (aL t.place j) (eF P w ks,dt p)=es1 at g c u v k ⊢;refine wb9 (qT y v G (by rw[g];exact aa room br) λh1 M U=>?_)
  have B:∀h',cL S s.heap h'->∀e∈es1.toList,∃l b,e.2=.ref b/\qI P w h' l b/\e.1=eF P w l:=λh' J e he=>by
   rcases u e he with h|h
   .obtain⟨l,b,V,W,X⟩:=z.el e h;exact⟨l,b,V,W.keepsC y.obj n J,X⟩
   .rw[h];exact⟨ks,p,rfl,O.keepsC y.obj n J,rfl⟩
  split
  .rename_i f
   have f:(es.size+1) * 5>=t.mask * 3:=by
    simp only[Rt,Bool.true_and,EU,pT,G.d,decide_eq_true_eq]at f;have:(#[]:Array Nat).size=0:=rfl;exact Nx (Nat.mul_le_mul_left 3 (Nat.le_of_eq L.symm)) f (Nat.mul_le_mul_left 5 (Nat.le_of_eq C)) (Nat.mul_le_mul_left 5 (Nat.le_of_eq this))
   refine ac fun Pq kq => ?_; obtain⟨m1,m2,m3,m4⟩:=Qq z.mask (by rw[<-hsz];exact H) f room;obtain⟨t',o,V,W,X,r4,r5,K⟩:=O3 (h:=s.heap) (.inr m1) (aa (ae g) m2) (jJ (Nat.mul_le_mul_left 5 (Nat.le_of_eq g)) m3) (B h1 M)
   refine kq ?_; have hrl:t1.relaid (es1.map (·.1)) (dS (es.size+1))=a_ (t',o):=by
    unfold Hm;rw[G.l];exact V
   refine wb9 (O2 U (by exact aa m4 br) hrl W X r4 (by rw[g];exact aa room br) λh2 A0 y2=>?_)
   have D:({ cls:=.type "set",dict:=b_,data:=.set es1 (ep+1) t1 }:lA).cls≠.type "tuple":=by
    simp
   refine wu9 (new _ h2 _ _ _ F (M.trans A0) y2 ⟨K.mask,λe he=>?_,K.std,K.le,K.nf⟩ (r5.trans c));obtain⟨l,b,s1,s2,s3⟩:=K.el e he;exact⟨l,b,s1,s2.keepsC U.obj D A0,s3⟩
  .rename_i f
   have f:(es.size+1) * 5<t.mask * 3:=by
    simp only[Rt,Bool.true_and,EU,pT,G.d,decide_eq_true_eq]at f;exact pY (Nat.mul_le_mul_left 5 (Nat.le_of_eq C.symm)) (Nat.lt_of_not_le f) (Nat.mul_le_mul_left 3 (Nat.le_of_eq L))
   exact wu9 (new _ h1 _ _ _ F M U ⟨by rw[L];exact z.mask,B h1 M,k,I,by rw[L,C];exact f⟩ c)
end
section
variable{prog:cJ}{w:du}{A:bX}{s:ak}
abbrev qV(w:du):lA:={ cls:=.type "set",dict:=b_,data:=.set #[] 0 (.fresh 0 0 (oJ w)) }
def Fn(a:ah)(k:Q (.ref s.heap.objs.size) { s with heap:=s.heap.push (qV w) }):codeAny (aG prog w) A (.call (.builtin "set.__new__") ⟨[.type "set",a],[]⟩) (wants Q E) s:=by
 refine mf PySem.F.plain_set_new PySem.F.entry_set_new (kH (PySem.F.newCall_set_1 a) ?_);have b:=sub_set_self;obtain⟨hp,g,d,c,os⟩:=s
 wp_walk
 refine yN ?_;exact wu9 (wb9 (wpAny_alloc (wu9 (wu9 k))))
def rO{T:String}(O:TypeCalled T nI iI)(ct:checkTypeCall T ⟨args,[]⟩=pure ())(eI:entryFor table iI=a_ B)
  (Z:codeAny (aG prog w) A.in1 (.call (.builtin nI) ⟨.type T::args,[]⟩) (wants Q1 E) s)
  (hx:∀Y s1,Q1 Y s1->s1.TypeIs Y T/\codeAny (aG prog w) A.in1 (.call (.builtin iI) ⟨Y::args,[]⟩) (wants (λr s2=>r=.none/\Q Y s2) E) s1) :
  aF (aG prog w) A (call (.type T) args) Q E s:=by
 obtain⟨c,tl,e1⟩:=O.mro;have e2:=O.made;have e3:=O.sub;refine wpAny_call (codeAny_of_tree ?_);refine wu9 (uY (Code.quiet_builtin _ (by decide +kernel)) (eM PySem.F.entry_type_call ?_));have h:=O.notType;have e5:=O.canCreate
 repeat any_goals first|assumption|wp_step
 refine kX Z λr s1 b=>?_
 cases r with
 |error e=>exact b
 |ok fl=>
   cases fl with
   |ret Y=>
     obtain⟨i,f⟩:=hx _ _ b;have j:=O.init.lookup;have k:=O.init.bind Y
     repeat any_goals first|assumption|wp_step
     refine kX f λg s2 a=>?_
     cases g with
     |error e=>exact a
     |ok d=>
       cases d with
       |ret r=>
         obtain⟨rfl,l⟩:=a
         repeat any_goals first|assumption|wp_step
       |_=>exact a.elim
   |_=>exact b.elim
def yL{T:String}(ty:s.TypeIs v T)(a:isSubtype (.type T) (.type "set")=pure d_)(b:isSubtype (.type T) (.type "frozenset")=pure d_)(k:Q d_ s):aF M A (NP v) Q E s:=by
 exact wb9 (dU ty a (dU ty b k))
variable{K:Type}[DecidableEq K]{knd:m9 prog w K}
def He(prog:cJ)(w:du)(h:cM)(v:ah)(n:Nat)(P:Nat->ah->Prop):Prop:=
 ∀(c:bX)(d:ah->ak->Prop)(s1:ak)(Q1:ah->ak->Prop),h.objs.size<s1.heap.objs.size->(∀b o,h.get? b=a_ o->s1.heap.get? b=a_ o)->
  (∀(o:lA)(fp:List aI)(St:Nat->cM->Prop),(∀a,a.handled=b_->Walks prog w a s1.heap.objs.size fp [s1.heap.objs.size] n P St)->(∀b∈fp,b=s1.heap.objs.size\/b<h.objs.size)->St 0 (s1.heap.push o)->
   Q1 (.ref s1.heap.objs.size) { s1 with heap:=s1.heap.push o })->aF (aG prog w) c (JF v) Q1 d s1
def Km{T:String}(hh:A.handled=b_)(ty:∀s1:ak,(∀b o,s.heap.get? b=a_ o->s1.heap.get? b=a_ o)->s1.TypeIs v T)
  (a:isSubtype (.type T) (.type "set")=pure d_)(b:isSubtype (.type T) (.type "frozenset")=pure d_)(nd:(i6 T == i6 "dict")=d_)(B:He prog w s.heap v n P)
  (val:Nat->K)(O:∀i v,P i v->knd.is (val i) v=c_/\v.scannable=c_)(hb:n+1<yO)
  (k:∀h' Y,oo knd (oJ w) h' s.heap.objs.size n (λq=>∃j,j<n/\val j=q)->(∀b o,s.heap.get? b=a_ o->h'.get? b=a_ o)->Q (.ref s.heap.objs.size) { s with heap:=h',toks:=Y }) :
  aF (aG prog w) A (call (.type "set") [v]) Q E s:=by
 refine rO (Q1:=λg s1=>g=.ref s.heap.objs.size/\s1={ s with heap:=s.heap.push (qV w) }) lJ (yS v) jL (Fn v ⟨rfl,rfl⟩) ?_;rintro g s1 ⟨rfl,rfl⟩;have gS:(s.heap.push (qV w)).get? s.heap.objs.size=a_ (qV w):=aK _ rfl;have h:qf { s with heap:=s.heap.push (qV w) } (.ref s.heap.objs.size) "set":=⟨_,gS,rfl⟩
 refine⟨h,mf lJ.init.plain jL (check_set_init_1 h ?_)⟩;have e1:∀b o,s.heap.get? b=a_ o->(s.heap.push (qV w)).get? b=a_ o:=λb o e=>hp9 _ e;unfold fV.«set.__init__» noKeywords;generalize p:oR=U
 wp_walk
 subst p;refine wb9 (yL (ty _ e1) a b ?_);refine wb9 (iT (ty _ e1) ?_);rw[nd];have sz:(s.heap.push (qV w)).objs.size=s.heap.objs.size+1:=eR ..;refine wb9 (B _ _ _ _ (by simp) e1 λo fp St W c st=>?_);refine wb9 (sj ?_);refine JR (led:=oJ w) (W _ (by simp[hh])).toS s.heap.objs.size (λm=>?_) val O hb n 0 _ rfl (aM _) st ?_ ?_
 .rcases c _ m with q|q
  .have l :=q;rw[sz]at l;exact absurd l (bw (jq _))
  .exact absurd q (bI _)
 .refine⟨#[],0,_,[],⟨hp9 _ gS,by rfl,qe.fresh _⟩,λe he=>by simp at he,.nil,ee,ao _,λq=>?_⟩;simp
 .intro s' m y;refine wu9 ?_;obtain⟨h',g',d',d,f⟩:=s';obtain rfl:g'=s.gens:=m.gens;obtain rfl:d'=s.drawn:=m.drawn;obtain rfl:f=s.os:=m.os;refine wu9 ⟨rfl,k h' d y λb o e=>m.heap b o (λz=>?_) (hp9 _ (hp9 _ e))⟩;have lt:=hl9 e;simp only[au,bu,or_false]at z
  rcases z with z|z
  .rw[z]at lt;exact absurd lt (bI _)
  .rw[z,sz]at lt;exact absurd (ud lt) (bI _)
end
section
variable{P:cJ}{w:du}
def _root_.L2.sg.mono{h':cM}(x:sg I h ks p)(k:∀b o,h.get? b=a_ o->h'.get? b=a_ o):sg I h' ks p:=x.oH λb o e _ _=>k b o e
def CH(P:cJ)(w:du)(led:Bool)(h:cM)(S:aI)(kf:Nat->List NK)(B:Nat->aI)(i:Nat):Prop:=
 ∃es ep t js,kF led h S es ep t/\EM P w h es t/\iC (λ(e:Int×ah)j=>e.2=.ref (B j)) es.toList js/\(js.map kf).Nodup/\(∀j∈js,j<i)/\∀j,j<i->kf j∈js.map kf
variable{kf:Nat->List NK}{av:Nat->aI}
def CH.keep{h':cM}(y:CH P w led h S kf av i)(k:∀o,h.get? S=a_ o->h'.get? S=a_ o)(a:∀j,j<i->qI P w h (kf j) (av j))(b:∀j,j<i->qI P w h' (kf j) (av j)):CH P w led h' S kf av i:=by
 refine ac λ_ r=>?_;obtain⟨es,ep,t,js,n,c,f,p,d,q⟩:=y;refine r ?_;refine⟨es,ep,t,js,n.keep k,⟨c.mask,λe he=>?_,c.std,c.le,c.nf⟩,f,p,d,q⟩;refine ac λ_ r=>?_;obtain⟨l,b0,e1,e2,e3⟩:=c.el e he;obtain⟨j,g,m⟩:=mL f he;refine r ?_;rw[m]at e1;cases e1;rw[e2.inj (a j (d j g))]at e3;exact⟨kf j,av j,m,b j (d j g),e3⟩
variable{A:bX}{G:Array C5->Array C5->Prop}{St:Nat->ak->Prop}
def Qp{h:cM}{es:Array (Int×ah)}{js:List Nat}{i m:Nat}(B:iC (λ(e:Int×ah) j=>e.2=.ref (av j)) es.toList js)(O:∀j∈js,j<i)(a:∀j,j<m->qI P w h (kf j) (av j))(hi:i<m) :
  (∃e∈es.toList,∃b,e.2=.ref b/\qI P w h (kf i) b)↔kf i∈js.map kf:=by
 constructor
 .rintro⟨e,he,b,e1,e2⟩;obtain⟨j,d,f⟩:=mL B he;rw[f]at e1;cases e1;rw[e2.inj (a j (cY (O j d) hi))];exact cP d
 .intro q;obtain⟨j,d,e⟩:=bQ.mp q;obtain⟨x,g,f⟩:=n4 B d;exact⟨x,g,av j,f,e▸a j (cY (O j d) hi)⟩
def Hy(W:WalksS P w A.in1 I fp wr G n Pv St)(S:aI)(Z:S∉fp)(hv:∀i v,Pv i v->v=.ref (av i))(h0:cM)(hk:∀j,j<n->qI P w h0 (kf j) (av j))(O:h0.get? S=b_)(Y:∀b∈wr,h0.get? b=b_)
  (hb:n<=300)(i_:A.in1.units+3<=dc) :
  ∀(k i:Nat)(s:ak),n - i=k->i<=n->St i s->(∀b o,h0.get? b=a_ o->s.heap.get? b=a_ o)->CH P w led s.heap S kf av i->
   (∀s',Moved (S::wr) G s s'->CH P w led s'.heap S kf av n->R (.ok (.ret .none)) s')->
   codeAny (aG P w) A (.builtin "set.update.loop" ⟨[.ref S,.ref I],[]⟩) R s:=by
 have x :=λh=>Z (W.sub _ h);have sub:∀b∈wr,b∈S::wr:=λb m=>ki _ m;have kin:∀(h:cM),(∀b o,h0.get? b=a_ o->h.get? b=a_ o)->∀j,j<n->qI P w h (kf j) (av j):=λh q j d=>(hk j d).mono q;intro k
 induction k with
 |zero=>
   intro i s g hi r B y K;obtain rfl:i=n:=aC (gm hi) (jJ (wt hi) (ae g));refine eM fh ?_;refine wb9 (W.done s _ _ r λs' m=>?_);exact wu9 (K s' (m.mono sub) (y.keep (λo e=>m.heap S o x e) (kin _ B) (kin _ (λb o e=>m.heap b o (λz=>by simp_all) (B b o e)))))
 |succ k ih=>
   intro i s g hi r B y K;refine eM fh ?_;rw[Around.under_plainId iH];refine wb9 (W.item i s _ _ (jJ (ws hi) (ae g.symm)) r λv s' hP C m=>?_);have u :=λb o e=>m.heap b o (λz=>by rw[Y b z]at e;cases e) (B b o e);refine ac fun Pq kq => ?_; obtain rfl:=hv i v hP;have c:i<n:=jJ (ad hi) (Nat.le_of_eq g.symm)
   obtain⟨es,ep,t,js,V,X,H,L,J,yf⟩:=y.keep (λo e=>m.heap S o x e) (λj d=>kin _ B j (aa d hi)) (λj d=>kin _ u j (aa d hi));refine kq ?_; refine wb9 (ck ?_);refine ck (wb9 (D9 i_ (kin _ u i c) ?_));have len:=lR H;have M:js.length<=i:=by
    have:=sQ ((fG.mp L).imp λh e=>h (congrArg kf e)) fO λj d=>bq.mpr (J j d)
    simp_all
   have has:=Qp H J (kin _ u) c
   have go:∀h' N,cL S s'.heap h'->s'.toks<=N->CH P w led h' S kf av (i+1)->
     aF (aG P w) A.in1 (again (.builtin "set.update.loop" ⟨[.ref S,.ref I],[]⟩)) (λfin l=>match fin with | .done f=>R (.ok f) l | .again c'=>c'.quiet=c_/\codeAny (aG P w) A c' R l) (λe l=>R (.error e) l) { s' with heap:=h',toks:=N }:=by
    intro h' N D E Q;refine wu9 ⟨fX iH _,ih (i+1) _ (aC (pY (ws c) (wt (aD c)) (ae g)) (pY (ae g.symm) (ws (aD c)) (wt c))) (c) (W.frame _ s' _ _ C E λb hb o e=>?_) (λb o e=>?_) Q λs2 m2 y2=>?_⟩
    .rw[D.2 b λz=>Z (z▸hb)];exact e
    .rw[D.2 b λz=>by rw[z,O]at e;cases e];exact u b o e
    .refine K s2 (Moved.trans W.gtrans ((m.mono sub).then_heap E λb o hb e=>?_) m2) y2;rw[D.2 b λz=>hb (z▸jy)];exact e
   refine add_n i_ V X (kin _ u i c) (Nx (ae len) M c hb) (λb T=>?_) (λb h' es' U t' T D Q z' p=>?_)
   .refine go s'.heap _ (yR ..) (aW _ _) ⟨es,ep,t,js,V,X,H,L,λj d=>ku (J j d),λj d=>?_⟩;by_cases e:j=i
    .subst e;exact has.mp T
    .exact yf j (bC (gm d) e)
   .obtain⟨F,c1,c2⟩:=mK p (o8 (R:=λ(e)j=>e.2=.ref (av j)) rfl H);have c3:(F.map kf).Perm (js.map kf++[kf i]):=by
     have:=c2.map kf
     rwa [dJ]at this
    refine go h' _ D (aW _ _) ⟨es',U,t',F,Q,z',c1,?_,λj d=>?_,λj d=>?_⟩
    .refine c3.nodup_iff.mpr (cC.mpr ⟨L,aX.mpr ⟨by simp,ee⟩,λa ha b hb=>?_⟩);rw[aE]at hb;subst hb;exact λz=>(λz=>T (has.mpr z)) (z▸ha)
    .rcases ax.mp (c2.mem_iff.mp d)with h|h
     .exact ku (J j h)
     .rw[aE.mp h];simp
    .rw[c3.mem_iff];by_cases e:j=i
     .grind
     .exact az _ (yf j (Nat.lt_of_le_of_ne (gm d) e))
end
section
variable{A:bX}{s:ak}
def HN{T:String}(hh:A.handled=b_)(ty:∀s1:ak,(∀b o,s.heap.get? b=a_ o->s1.heap.get? b=a_ o)->s1.TypeIs v T)
  (a:isSubtype (.type T) (.type "set")=pure d_)(b:isSubtype (.type T) (.type "frozenset")=pure d_)(nd:(i6 T == i6 "dict")=d_)(B:He P w s.heap v n Pv)
  (O:∀i v,Pv i v->v=.ref (av i))(hk:∀j,j<n->qI P w s.heap (kf j) (av j))(hb:n<=300)(Y:A.in1.in1.in1.units+3<=dc)
  (k:∀h' Z,CH P w (oJ w) h' s.heap.objs.size kf av n->(∀b o,s.heap.get? b=a_ o->h'.get? b=a_ o)->Q (.ref s.heap.objs.size) { s with heap:=h',toks:=Z }) :
  aF (aG P w) A (call (.type "set") [v]) Q E s:=by
 refine rO (Q1:=λl s1=>l=.ref s.heap.objs.size/\s1={ s with heap:=s.heap.push (qV w) }) lJ (yS v) jL (Fn v ⟨rfl,rfl⟩) ?_;rintro l s1 ⟨rfl,rfl⟩;have gS:(s.heap.push (qV w)).get? s.heap.objs.size=a_ (qV w):=aK _ rfl;have p:qf { s with heap:=s.heap.push (qV w) } (.ref s.heap.objs.size) "set":=⟨_,gS,rfl⟩
 refine⟨p,mf lJ.init.plain jL (check_set_init_1 p ?_)⟩;have e1:∀b o,s.heap.get? b=a_ o->(s.heap.push (qV w)).get? b=a_ o:=λb o e=>hp9 _ e;unfold fV.«set.__init__» noKeywords;generalize t:oR=U
 wp_walk
 subst t;refine wb9 (yL (ty _ e1) a b ?_);refine wb9 (iT (ty _ e1) ?_);rw[nd];have sz:(s.heap.push (qV w)).objs.size=s.heap.objs.size+1:=eR ..;refine wb9 (B _ _ _ _ (by simp) e1 λo fp St W d st=>?_);refine wb9 (sj ?_);refine Hy (led:=oJ w) (W _ (by simp[hh])).toS s.heap.objs.size (λm=>?_) O s.heap hk (p0 (ao _)) (λb hb=>?_) hb Y n 0 _ rfl (aM _) st (λb o e=>hp9 _ (e1 b o e)) ?_ ?_
 .rcases d _ m with q|q
  .have r :=q;rw[sz]at r;exact absurd r (bw (jq _))
  .exact absurd q (bI _)
 .have f:b=(s.heap.push (qV w)).objs.size:=by simpa using hb
  rw[f,sz];exact p0 (wC _)
 .refine⟨#[],0,_,[],⟨hp9 _ gS,by rfl,qe.fresh _⟩,⟨.inl rfl,λe he=>by simp at he,λq u=>by simp at u,λj c=>?_,by show 0 * 5<7 * 3;decide⟩,.nil,ee,λj c=>by simp at c,λj c=>((aS c (aM _))).elim⟩;simp[SetTable.fresh]at c
 .intro s' m y;refine wu9 ?_;obtain⟨h',g',d',g,h⟩:=s';obtain rfl:g'=s.gens:=m.gens;obtain rfl:d'=s.drawn:=m.drawn;obtain rfl:h=s.os:=m.os;refine wu9 ⟨rfl,k h' g y λb o e=>m.heap b o (λz=>?_) (hp9 _ (hp9 _ e))⟩;have lt:=hl9 e;simp only[au,bu,or_false]at z
  rcases z with z|z
  .rw[z]at lt;exact absurd lt (bI _)
  .rw[z,sz]at lt;exact absurd (ud lt) (bI _)
end
end L2
local macro_rules | `(tactic| walk_at $s:str) => if s.getString.startsWith "u " then do let n := Lean.mkIdent (Lean.mkPrivateNameCore `PySem.Builtin.List.W1All (`PySem.Builtin ++ (s.getString.drop 2).toString.toName)); `(tactic| delta $n:ident) else Lean.Macro.throwUnsupported
namespace L2
open PySem PySem.W PySem.Spec PyProof.Rows
structure Lt(lt:Nat->Nat->Bool):Prop where
 tr:∀i j k,lt i j=c_->lt j k=c_->lt i k=c_
 co:∀i j,i≠j->lt i j=d_->lt j i=c_
 as:∀i j,lt i j=c_->lt j i=d_
def zK:Bool->jI->Array jI->Nat->Nat->Nat->StateT bO Av (Option Nat):=sortPriv% PySem.Builtin.gallop
def Bv:Array jI->Array jI->StateT bO Av (Array jI):=sortPriv% PySem.Builtin.mergeLo
def Bw:Array jI->Array jI->StateT bO Av (Array jI):=sortPriv% PySem.Builtin.mergeHi
section
variable{P:cJ}{w:du}{A:bX}{E:ah->ak->Prop}{s:ak}{κ:pU}{it:Nat->jI}{lt:Nat->Nat->Bool}{N:Nat}
def Wt(P:cJ)(w:du)(A:bX)(E:ah->ak->Prop)(s:ak){α:Type}(m:StateT bO Av α)(G:α->bO->Prop)(st:bO):Prop:=
 kasC (aG P w) A E m (λr a s'=>G r a/\s'=s) st s
variable{α β:Type}{G:β->bO->Prop}{st:bO}
def Wt.pure(h:G b st):Wt P w A E s (pure b) G st:=kasC_pure ⟨h,rfl⟩
def Wt.bind(h:Wt P w A E s m (λa B=>Wt P w A E s (f a) G B) st):Wt P w A E s (m >>= f) G st:=
 kasC_bind (dE h (λ_ _ z=>by obtain⟨z,rfl⟩:=z;exact z) λ_ _ e=>e)
def Wt.mono(h:Wt P w A E s m G' st)(f:∀b B,G' b B->G b B):Wt P w A E s m G st:=
 dE h (λ_ _ z=>⟨f _ _ z.1,z.2⟩) λ_ _ e=>e
def Wt.get{G:bO->bO->Prop}(h:G st st):Wt P w A E s (get:StateT bO Av bO) G st:=kasC_get ⟨h,rfl⟩
def Wt.modify{G:PUnit->bO->Prop}(h:G ⟨⟩ (f st)):Wt P w A E s (modify f:StateT bO Av PUnit) G st:=kasC_modify ⟨h,rfl⟩
def Wt.set{G:PUnit->bO->Prop}(h:G ⟨⟩ st'):Wt P w A E s (MonadStateOf.set st':StateT bO Av PUnit) G st:=by
 exact wu9 ⟨h,rfl⟩
def Wt.rule{G:Unit->bO->Prop}(h:G () st):Wt P w A E s (liftM (rule n):StateT bO Av Unit) G st:=kasC_lift (gh ⟨h,rfl⟩)
abbrev ZQ(G I:β->bO->Prop):ForInStep β->bO->Prop
 |.done b,st=>G b st
 |.yield b,st=>I b st
def Wt.loop{l:List Nat}{b:β}{f:Nat->β->StateT bO Av (ForInStep β)}(I:Nat->β->bO->Prop)(h0:I 0 b st)
  (hb:∀j x b st,l[j]?=a_ x->I j b st->Wt P w A E s (f x b) (ZQ G (I (j+1))) st)(he:∀b st,I l.length b st->G b st):Wt P w A E s (forIn l b f) G st:=by
 have go:∀(r:List Nat)(j:Nat)(b:β)(st:bO),j+r.length=l.length->(∀k,r[k]?=l[j+k]?)->I j b st->Wt P w A E s (forIn r b f) G st:=by
  intro r
  induction r with
  |nil=>
    intro j b st a _ hi;exact kasC_nil ⟨he b st (by rw[<-a];exact hi),rfl⟩
  |cons x r i=>
    intro j b st a g hi;refine kasC_cons (dE (hb j x b st ((g 0).symm) hi) (λc s' z=>?_) λ_ _ e=>e);obtain⟨c,d⟩:=c;obtain⟨z,rfl⟩:=z
    cases c with
    |done h=>exact⟨z,rfl⟩
    |yield h=>
      exact i (j+1) h d (by exact aC (gm (ae a)) (gm (ae a.symm))) (λk=>by have:=g (k+1);grind) z
 simp_all
def Wt.range(I:Nat->β->bO->Prop)(h0:I 0 c st)
  (hb:∀j B st,j<b - a->I j B st->Wt P w A E s (f (a+j) B) (ZQ G (I (j+1))) st)(he:∀B st,I (b - a) B st->G B st):Wt P w A E s (forIn [a:b] c f) G st:=
 kasC_range (Wt.loop I h0 (λj x B st d hi=>by
  have e:j<b - a:=by simpa using ((aR.mp d).1)
  rw[List.getElem?_range' e]at d;cases d
  simp_all) λB st hi=>he B st (by simp_all))
def uk(P:cJ)(w:du)(A:bX)(s:ak)(κ:pU)(it:Nat->jI)(lt:Nat->Nat->Bool)(N:Nat):Prop:=
 ∀i j,i<N->j<N->∀C:Bool->ak->Prop,C (lt i j) s->aF (aG P w) A (keyLt' κ (it i).1 (it j).1) C (λ_ _=>False) s
def Wt.ask{G:Option Bool->bO->Prop}(h:uk P w A s κ it lt N)(hk:kindOf st=κ)(hi:i<N)(B:j<N)(g:G (a_ (lt i j)) st):Wt P w A E s (lt' (it i) (it j)) G st:=by
 rw[lt'_eq];refine kasC_bind (kasC_get ?_);refine kasC_bind (kasC_lift (jd ?_));rw[hk];exact dE (h i j hi B (λc s'=>c=lt i j/\s'=s) ⟨rfl,rfl⟩) (λc s' ⟨e1,e2⟩=>by subst e1 e2;exact kasC_pure ⟨g,rfl⟩) λ_ _ z=>z.elim
abbrev Ar(it:Nat->jI)(l:List Nat):Array jI:=(l.map it).toArray
def Wt.elem{G:jI->bO->Prop}(h:l[i]?=a_ x)(g:G (it x) st):Wt P w A E s (elem' (Ar it l) i) G st:=by
 rw[elem'_eq];have:(Ar it l)[i]?=a_ (it x):=by simp[h]
 rw[this];exact .pure g
end
section
variable{st:bO}
abbrev GSt:=Option (Option Nat)×Nat×Nat
def GC{lo:Nat}(h1:lo<=k)(h2:k<=hi)(h3:hi<=n)
  (hf:∀x lo hi(G':ForInStep GSt->bO->Prop),lo<=k->k<=hi->hi<=n->(lo>=hi->G' (.done (b_,lo,hi)) st)->(lo<hi->lo+(hi - lo) / 2<k->G' (.yield (b_,lo+(hi - lo) / 2+1,hi)) st)->
   (lo<hi->¬lo+(hi - lo) / 2<k->G' (.yield (b_,lo,lo+(hi - lo) / 2)) st)->Wt P w A E s (f x (b_,lo,hi)) G' st) :
  Wt P w A E s (forIn [0:n] ((b_,lo,hi):GSt) f) (λb B=>B=st/\∃lo,b=(b_,lo,k)) st:=by
 refine Wt.range (λj b B=>B=st/\∃lo hi,b=(b_,lo,hi)/\lo<=k/\k<=hi/\hi<=n/\hi - lo<=n - j) ⟨rfl,lo,hi,rfl,h1,h2,h3,aa (oS _ _) h3⟩ (λj b B i z=>?_) λb B z=>by grind
 refine ac λ_ m=>?_;obtain⟨e,lo,hi,e1,a,c,d,l⟩:=z;subst e e1;refine m ?_;refine hf _ lo hi _ a c d (λq=>?_) (λh g=>?_) λh g=>?_
 .exact⟨rfl,lo,by congr;exact aC (aa q a) c⟩
 .exact⟨rfl,_,_,rfl,g,c,d,a4 (ar hi (lo + (hi - lo) / 2 + 1) (jJ g c)) (am (Nat.le_of_lt h)) l (ad (Nat.le_of_lt i)) (am i)⟩
 .exact⟨rfl,_,_,rfl,a,bT g,pY (ws (aD h)) (wd (hi - lo)) d,a4 (ar (lo + (hi - lo) / 2) lo (lw0)) (a3 lo hi (gm h)) l (ad (Nat.le_of_lt i)) (am i)⟩
def IP{left:Bool}{x:Nat}{l:List Nat}{base n hint k:Nat}{g:Nat->Nat}{G:Option Nat->bO->Prop}(as:uk P w A s κ it lt N)(hk:kindOf st=κ)(O:x<N)(hl:∀i,i<n->l[base+i]?=a_ (g i)/\g i<N)
  (Y:∀i,i<n->(if left=c_ then lt (g i) x else !(lt x (g i)))=decide (i<k))(B:k<=n)(hh:hint<n)(q:G (a_ k) st):Wt P w A E s (zK left (it x) (Ar it l) base n hint) G st:=by
 have hb:∀i,i<n->∀{G':Option Bool->bO->Prop},G' (a_ (decide (i<k))) st->Wt P w A E s (do
   let y <-elem' (Ar it l) (base+i)
   if left=c_ then lt' y (it x)else do
    let b <-lt' (it x) y
    pure (b.map λz=>!z)) G' st:=by
  intro i hi G' D;obtain⟨e1,e2⟩:=hl i hi;refine .bind (.elem e1 ?_)
  cases left with
  |true=>
    refine Wt.ask as hk e2 O ?_
    simp_all
  |false=>
    refine .bind (Wt.ask as hk O e2 (.pure ?_))
    simp_all
 unfold zK;walk_at "u gallop";refine .bind (hb hint hh ?_);by_cases c:hint<k
 .rw[decide_eq_true c]
  refine .bind (Wt.mono (Wt.range (G:=λb a=>a=st/\∃lo of:Nat,b=((b_,lo,of))/\hint+lo<k/\lo<of/\(k<=hint+of\/n - hint<=of)) (λj b a=>a=st/\∃lo of:Nat,b=((b_,lo,of))/\hint+lo<k/\lo<of/\j+1<=of)
   ⟨rfl,0,1,rfl,by omega,by simp,br⟩ (λj b a C z=>?_) λb a z=>by obtain⟨e,lo,of,e1,f,h,m⟩:=z;exact⟨e,lo,of,e1,f,h,.inl (pY B (wT n 0) m)⟩) λb a z=>?_)
  .refine ac λ_ t=>?_;obtain⟨e,lo,of,e1,f,h,m⟩:=z;subst e e1;refine t ?_;by_cases d:of>=n - hint
   .rw[if_pos d];exact .pure ⟨rfl,lo,of,rfl,f,h,.inr d⟩
   .rw[if_neg d];refine .bind (hb (hint+of) (jJ (ws (aD hh)) (cB d)) ?_);by_cases d':hint+of<k
    .rw[decide_eq_true d'];exact .pure ⟨rfl,of,2 * of+1,rfl,d',lw0,gm m⟩
    .rw[decide_eq_false d'];exact .pure ⟨rfl,lo,of,rfl,f,h,.inl (bT d')⟩
  .obtain⟨e,lo,of,e1,f,h,m⟩:=z;subst e e1;refine .bind (Wt.mono (GC (hi:=hint+min of (n - hint)) (f) (by omega) (jJ (ad (Nat.le_of_lt hh)) (Nat.min_le_right of (n - hint))) λy lo hi G' f h m p r v=>?_) λb a z=>by refine ac λ_ t=>?_;obtain⟨e,lo,e1⟩:=z;subst e e1;refine t ?_;exact .pure q);by_cases c:lo>=hi
   .rw[if_pos c];exact .pure (p c)
   .rw[if_neg c];refine .bind (hb (lo+(hi - lo) / 2) (pY (ad (Nat.le_of_lt (Nat.lt_of_not_le c))) (a3 lo hi (gm (Nat.lt_of_not_le c))) m) ?_);by_cases d:lo+(hi - lo) / 2<k
    .rw[decide_eq_true d];exact .pure (r (cB c) d)
    .rw[decide_eq_false d];exact .pure (v (cB c) d)
 .rw[decide_eq_false c]
  refine .bind (Wt.mono (Wt.range (G:=λb a=>a=st/\∃lo of:Nat,b=((b_,lo,of))/\k<=hint - lo/\lo<=hint/\lo<of/\(hint - of<k/\of<=hint\/hint+1<=of)) (λj b a=>a=st/\∃lo of:Nat,b=((b_,lo,of))/\k<=hint - lo/\lo<=hint/\lo<of/\j+1<=of)
   ⟨rfl,0,1,rfl,bT c,aM _,by simp,by decide⟩ (λj b a C z=>?_) λb a z=>by obtain⟨e,lo,of,e1,o,f,h,m⟩:=z;exact⟨e,lo,of,e1,o,f,h,.inr (cY hh m)⟩) λb a z=>?_)
  .obtain⟨e,lo,of,e1,o,f,h,m⟩:=z;subst e e1;by_cases d:of>=hint+1
   .rw[if_pos d];exact .pure ⟨rfl,lo,of,rfl,o,f,h,.inr d⟩
   .rw[if_neg d];refine .bind (hb (hint - of) (NS hh) ?_);by_cases d':hint - of<k
    .rw[decide_eq_true d'];exact .pure ⟨rfl,lo,of,rfl,o,f,h,.inl ⟨d',bT d⟩⟩
    .rw[decide_eq_false d'];exact .pure ⟨rfl,of,2 * of+1,rfl,bT d',bT d,lw0,gm m⟩
  .obtain⟨e,lo,of,e1,o,f,h,m⟩:=z;subst e e1;refine .bind (Wt.mono (GC (k:=k) (lo:=hint+1 - min of (hint+1)) (by omega) (by omega) (aD (NS hh)) λy lo hi G' f h m p r v=>?_) λb a z=>by obtain⟨e,lo,e1⟩:=z;subst e e1;exact .pure q);by_cases c:lo>=hi
   .rw[if_pos c];exact .pure (p c)
   .rw[if_neg c];refine .bind (hb (lo+(hi - lo) / 2) (pY (ad (Nat.le_of_lt (Nat.lt_of_not_le c))) (a3 lo hi (gm (Nat.lt_of_not_le c))) m) ?_);by_cases d:lo+(hi - lo) / 2<k
    .rw[decide_eq_true d];exact .pure (r (Nat.lt_of_not_le c) d)
    .rw[decide_eq_false d];exact .pure (v (by omega) d)
end
def RG:Nat->StateT bO Av Unit:=sortPriv% PySem.Builtin.setMinGallop
section
variable{st:bO}{β:Type}{G:β->bO->Prop}
def Wt.OG{G:Unit->bO->Prop}(h:G () (l9 (kindOf st) (arrOf st) (pendingOf st) g (failedOf st))):Wt P w A E s (RG g) G st:=by
 unfold RG;walk_at "u setMinGallop";exact .modify h
def Wt.wy(Q:(StateT bO Av β->Prop)->Prop)(h1:Q λm=>Wt P w A E s m G st)(h2:(Q λm=>Wt P w A E s m G st)->Wt P w A E s m G st):Wt P w A E s m G st:=h2 h1
def Wt.Y3{c:Prop}[Decidable c](h:c)(x:Wt P w A E s m G st):Wt P w A E s (if c then m else m') G st:=by rw[if_pos h];exact x
def Wt.Gr{c:Prop}[Decidable c](h:¬c)(x:Wt P w A E s m' G st):Wt P w A E s (if c then m else m') G st:=by rw[if_neg h];exact x
def Wt.ite{c:Prop}[Decidable c](x:c->Wt P w A E s m G st)(y:¬c->Wt P w A E s m' G st):Wt P w A E s (if c then m else m') G st:=by
 by_cases h:c
 .exact .Y3 h (x h)
 .exact .Gr h (y h)
end
abbrev eW(lt:Nat->Nat->Bool)(l:List Nat):Prop:=l.Pairwise λx y=>lt x y=c_
section
variable{lt:Nat->Nat->Bool}{a b out:List Nat}{ia ib:Nat}
structure ML(lt:Nat->Nat->Bool)(a b out:List Nat)(ia ib:Nat):Prop where
 so:eW lt out
 M6:∀x∈out,∀y,y∈a.drop ia\/y∈b.drop ib->lt x y=c_
 pm:(out++(a.drop ia++b.drop ib)).Perm (a++b)
def ML.swap(h:ML lt a b out ia ib):ML lt b a out ib ia:=
 ⟨h.so,λx c y d=>h.M6 x c y d.symm,((jZ _ dX).trans h.pm).trans dX⟩
def ML.start:ML lt a b [] 0 0:=⟨.nil,λx c=>by simp at c,by simp⟩
def ML.p4(h:ML lt a b out ia ib)(B:eW lt b)(k:Nat)(hc:∀y∈(b.drop ib).take k,∀x∈a.drop ia,lt y x=c_):ML lt a b (out++(b.drop ib).take k) ia (ib+k):=by
 have e:b.drop ib=(b.drop ib).take k++b.drop (ib+k):=by rw[<-kh];exact(bh k _).symm
 have f:eW lt (b.drop ib):=B.sublist (fH _ _);rw[e]at f;refine⟨eG.mpr ⟨h.so,(eG.mp f).1,λx d y c=>h.M6 x d y (.inr (cy c))⟩,λx d y c=>?_,?_⟩
 .rcases ax.mp d with d|d
  .refine h.M6 x d y (c.imp id λc=>?_);rw[e];exact ai _ c
  .rcases c with c|c
   .exact hc x d y c
   .exact (eG.mp f).2.2 x d y c
 .refine E2 ?_ h.pm
  conv=>rhs;rw[e]
  rw[aJ];refine jZ _ ?_;rw[<-aJ,<-aJ];exact List.Perm.append_right _ dX
def ML.xP(h:ML lt a b out ia ib)(sa:eW lt a)(k:Nat)(hc:∀y∈(a.drop ia).take k,∀x∈b.drop ib,lt y x=c_):ML lt a b (out++(a.drop ia).take k) (ia+k) ib:=
 (h.swap.p4 sa k hc).swap
def ML.fin(h:ML lt a b out ia ib)(sa:eW lt a)(hb:b.length<=ib):eW lt (out++a.drop ia++b.drop ib)/\(out++a.drop ia++b.drop ib).Perm (a++b):=by
 refine⟨?_,by rw[aJ];exact h.pm⟩;rw[(kg hb),aH];exact eG.mpr ⟨h.so,sa.sublist (fH _ _),λx c y d=>h.M6 x c y (.inl d)⟩
def jV{l:List Nat}{i x:Nat}(h:l[i]?=a_ x):l.drop i=x::l.drop (i+1):=by
 rw[e8 (aR.mp h).1,(aR.mp h).2]
def take_one{l:List Nat}{i x:Nat}(h:l[i]?=a_ x):(l.drop i).take 1=[x]:=by rw[jV h];rfl
def rJ(o:Lt lt)(sl:eW lt l)(h:l[i]?=a_ x)(c:lt y x=c_):∀z∈l.drop i,lt y z=c_:=λz d=>by
 rw[jV h]at d;have e:=sl.sublist (fH i _);rw[jV h]at e
 rcases au.mp d with rfl|d
 .exact c
 .exact o.tr _ _ _ c ((cH.mp e).1 z d)
def ML.rK(h:ML lt a b out ia ib)(sa:eW lt a)(B:eW lt b)(hc:∀y∈b.drop ib,∀x∈a.drop ia,lt y x=c_):eW lt (out++b.drop ib++a.drop ia)/\(out++b.drop ib++a.drop ia).Perm (a++b):=by
 have q:=(h.p4 B b.length (λy c=>hc y (cy c))).fin sa (lK _ _);rw[dP (by simp)]at q;rw[(kg (lK _ _)),aH]at q;exact q
def mO:(Ar it l).push (it x)=Ar it (l++[x]):=by simp
def mZ:Ar it l++(Ar it b).extract i j=Ar it (l++(b.drop i).take (j - i)):=by
 simp
def cG:(Ar it l).size=l.length:=by simp
def iu{l:List Nat}:(l.drop i).take (l.length - i)=l.drop i:=dP (by simp)
def FR(o:Lt lt)(sl:eW lt l)(y:Nat):∃k,k<=l.length/\∀i x,l[i]?=a_ x->lt x y=decide (i<k):=by
 induction l with
 |nil=>simp
 |cons a l e=>
   obtain⟨s1,s2⟩:=cH.mp sl;obtain⟨k,h1,h2⟩:=e s2
   cases c:lt a y with
   |true=>
     refine⟨k+1,by simpa using h1,λi x h=>?_⟩
     cases i with
     |zero=>cases h;rw[c];simp
     |succ i=>rw[h2 i x (by simpa using h)];simp
   |false=>
     refine⟨0,by simp,λi x h=>?_⟩
     cases i with
     |zero=>cases h;rw[c];simp
     |succ i=>
       cases d:lt x y with
       |false=>simp
       |true=>rw[o.tr _ _ _ (s1 x (aV (by simpa using h))) d]at c;cases c
section
def tu(o:Lt lt)(as:uk P w A s κ it lt N){l:List Nat}{base:Nat}(Y:base+n<=l.length)(sl:eW lt ((l.drop base).take n))(B:∀x∈(l.drop base).take n,x<N/\x≠y)(O:y<N) :
  ∃k,k<=n/\(∀z∈((l.drop base).take n).take k,lt z y=c_)/\(∀z∈((l.drop base).take n).drop k,lt y z=c_)/\
   ∀{E:ah->ak->Prop}(left:Bool)(hint:Nat){G:Option Nat->bO->Prop}{st:bO},kindOf st=κ->hint<n->G (a_ k) st->Wt P w A E s (zK left (it y) (Ar it l) base n hint) G st:=by
 generalize r:(l.drop base).take n=L at sl B;have d:L.length=n:=by grind
 have f:∀i,i<n->L[i]?=l[base+i]? :=λi hi=>by grind
 obtain⟨k,m,p⟩:=FR o sl y;refine⟨k,aa m (ae d),λz h=>?_,λz h=>?_,λleft hint G st hk hh q=>?_⟩
 .obtain⟨i,hi⟩:=gC h;rw[dv]at hi
  grind
 .obtain⟨i,hi⟩:=gC h;rw[rZ]at hi;refine o.co _ _ (B z (aV hi)).2 ?_;rw[p _ z hi,decide_eq_false (by simp)]
 .refine IP (g:=λi=>L.getD i 0) as hk O (λi hi=>?_) (λi hi=>?_) (aa m (ae d)) hh q
  .have e:=af ((aa hi (ae d.symm)));refine⟨by rw[<-f i hi];simp[e],?_⟩;simpa [e]using ((B _ (aV e)).1)
  .have e:=af ((aa hi (ae d.symm)));have e2:=p i _ e;have e3:L.getD i 0=L[i]:=by simp[e]
   rw[e3]
   cases left with
   |true=>exact e2
   |false=>
     rw[<-e2]
     cases c:lt L[i] y with
     |true=>rw[o.as _ _ c];rfl
     |false=>rw[o.co _ _ ((B _ (aV e)).2) c];rfl
end
end
section
variable{it:Nat->jI}{lt:Nat->Nat->Bool}
abbrev wH(st:bO)(g:Nat):bO:=l9 (kindOf st) (arrOf st) (pendingOf st) g (failedOf st)
def Res(it:Nat->jI)(lt:Nat->Nat->Bool)(l:List Nat)(r:Array jI):Prop:=∃R,r=Ar it R/\eW lt R/\R.Perm l
structure Mid(lt:Nat->Nat->Bool)(a b out:List Nat)(ia ib m:Nat):Prop where
 ml:ML lt a b out ia ib
 ha:ia+1<a.length
 hb:ib<b.length
 m:m<=ia+ib
def Wt.rg{τ τ' R β' γ:Type}{a b:Nat}{f:Nat->Option R×β'->StateT bO Av (ForInStep (Option R×β'))}{k:Option R×β'->StateT bO Av γ}{G:γ->bO->Prop}{Q:R->Prop}{t:τ->bO}{I':List Nat->Nat->Nat->Prop}{z:List Nat->Nat->Nat->τ->β'}{out:List Nat}{ia ib:Nat}{r:τ}(I:Nat->List Nat->Nat->Nat->Prop)(O:List Nat->Nat->Nat->τ'->β')(t':τ'->bO)(h0:I 0 out ia ib)(he:∀out ia ib,¬I (b - a) out ia ib)
  (Y:∀r x B,Q r->Wt P w A E s (k (a_ r,x)) G (t' B))(Z:∀out ia ib r,I' out ia ib->Wt P w A E s (k (b_,O out ia ib r)) G (t' r))
  (hb:∀j out ia ib r,j<b - a->I j out ia ib->Wt P w A E s (f (a+j) (b_,z out ia ib r)) (ZQ (λb st=>(∃r x B,b=(a_ r,x)/\st=t' B/\Q r)\/∃out ia ib r,b=(b_,O out ia ib r)/\st=t' r/\I' out ia ib) λb st=>∃out ia ib r,b=(b_,z out ia ib r)/\st=t r/\I (j+1) out ia ib) (t r)) :
  Wt P w A E s (forIn [a:b] (b_,z out ia ib r) f >>= k) G (t r):=
 .bind (Wt.mono (Wt.range (λj b st=>∃out ia ib r,b=(b_,z out ia ib r)/\st=t r/\I j out ia ib) ⟨out,ia,ib,r,rfl,rfl,h0⟩ (λj b st c q=>by refine ac λ_ d=>?_;obtain⟨_,_,_,_,rfl,rfl,h⟩:=q;refine d ?_;exact hb _ _ _ _ _ c h) λb st q=>by simp_all) λb st q=>by
  rcases q with⟨_,_,_,rfl,rfl,h⟩|⟨_,_,_,_,rfl,rfl,h⟩
  .exact Y _ _ _ h
  .exact Z _ _ _ _ h)
def DQ{st:bO}{G:Array jI->bO->Prop}(o:Lt lt)(as:uk P w A s κ it lt N)(hk:kindOf st=κ)(na:∀x∈a,x<N)(nb:∀x∈b,x<N)(sa:eW lt a)(Y:eW lt b)(GQ:∀x∈a,x∉b)
  (h0:0<a.length)(O:b[0]?=a_ y0)(hf:∀x∈a,lt y0 x=c_)(hl:∀y∈b,∀x∈a.drop (a.length - 1),lt y x=c_)
  (q:∀r g,Res it lt (a++b) r->G r (wH st g)):Wt P w A E s (Bv (Ar it a) (Ar it b)) G st:=by
 have W :=(aR.mp O).1
 have v:∀{out:List Nat}{ia ib:Nat},ML lt a b out ia ib->b.length<=ib->Res it lt (a++b) (Ar it out++(Ar it a).extract ia (Ar it a).size++(Ar it b).extract ib (Ar it b).size):=λh hb=>by
  obtain⟨F,I⟩:=h.fin sa hb;exact⟨_,by rw[mZ,mZ,cG,cG,iu,iu],F,I⟩
 have J:∀{out:List Nat}{ia ib:Nat},ML lt a b out ia ib->a.length<=ia->Res it lt (a++b) (Ar it out++(Ar it a).extract ia (Ar it a).size++(Ar it b).extract ib (Ar it b).size):=λ{out ia ib}h ha=>by
  obtain⟨F,I⟩:=h.swap.fin Y ha;have e :=kg ha;rw[e,aH]at F I;refine⟨out++b.drop ib,by rw[mZ,mZ,cG,cG,iu,iu,e,aH],F,I.trans dX⟩
 have rK:∀{out:List Nat}{ia ib:Nat},ML lt a b out ia ib->ia+1=a.length->Res it lt (a++b) (Ar it out++(Ar it b).extract ib (Ar it b).size++(Ar it a).extract ia (Ar it a).size):=λ{out ia ib}h ha=>by
  obtain⟨F,I⟩:=h.rK sa Y λy hy x M=>hl y (eJ hy) x (by rw[show a.length - 1=ia from(aC (jJ (ws h0) (ae ha.symm)) (jJ (ae ha) (wt h0)))];exact M);exact⟨_,by rw[mZ,mZ,cG,cG,iu,iu],F,I⟩
 have C:∀{ib:Nat},ib<b.length->∃y,b[ib]?=a_ y/\y<N/\y∉a:=λ{ib}h=>⟨b[ib],af h,nb _ (bA h),λz=>GQ _ z (bA h)⟩
 have H:∀{ia:Nat},ia<a.length->∃x,a[ia]?=a_ x/\x<N/\x∉b:=λ{ia}h=>⟨a[ia],af h,na _ (bA h),λz=>GQ _ (bA h) z⟩
 have X:∀{ia ib x y:Nat},a[ia]?=a_ x->b[ib]?=a_ y->x≠y:=λh1 h2 e=>GQ _ (aV h1) (e▸aV h2)
 have tB:∀{out:List Nat}{ia ib x y:Nat},ML lt a b out ia ib->a[ia]?=a_ x->b[ib]?=a_ y->lt y x=c_->ML lt a b (out++[y]) ia (ib+1):=λ{out ia ib x y}h h1 h2 c=>by
  have:=h.p4 Y 1 (λz p=>by rw[take_one h2,aE]at p;subst p;exact rJ o sa h1 c);rw[take_one h2]at this;exact this
 have tA:∀{out:List Nat}{ia ib x y:Nat},ML lt a b out ia ib->a[ia]?=a_ x->b[ib]?=a_ y->lt x y=c_->ML lt a b (out++[x]) (ia+1) ib:=λ{out ia ib x y}h h1 h2 c=>by
  have:=h.xP sa 1 (λz p=>by rw[take_one h1,aE]at p;subst p;exact rJ o Y h2 c);rw[take_one h1]at this;exact this
 unfold Bv;walk_at "u mergeLo";refine .bind (.rule (.bind (.elem O ?_)))
 have m0:ML lt a b [y0] 0 1:=by
  have:=(ML.start ).p4 Y 1 (λz p x M=>by rw[take_one O,aE]at p;subst p;exact hf x M);rw[take_one O]at this;exact this
 refine .ite (λc=>.pure (q _ (gallopOf st) (v m0 (by have c:=beq_iff_eq.mp c;rw[cG]at c;exact ae c.symm)))) λc1=>?_;refine .ite (λc=>.pure (q _ (gallopOf st) (rK m0 (by have c:=beq_iff_eq.mp c;rw[cG]at c;omega)))) λc2=>?_;refine .bind (.get ?_);have b1:1<b.length:=by have c :=λe=>c1 (beq_iff_eq.mpr e);rw[cG]at c;exact bC W c
 have b2:0+1<a.length:=by have c :=λe=>c2 (beq_iff_eq.mpr e);rw[cG]at c;exact bC h0 c
 refine Wt.rg (I':=λ_ _ _=>False) (r:=(_,gallopOf st)) (t:=λr:Nat×Nat=>wH st r.2) (z:=λout ia ib r=>(Ar it out,ia,ib,r.1)) (λj out ia ib=>Mid lt a b out ia ib (j+1)) (λout ia ib r=>(Ar it out,ia,ib,r.1)) (λr:Nat×Nat=>wH st r.2) ⟨m0,b2,b1,br⟩
  (λout ia ib f=>by have h1:=f.m;have h2:=f.ha;have h3:=f.hb;rw[cG,cG]at h1;exact VB h3 (wT (a.length+b.length) 0) h1 h2) (λr _ g e=>.pure (q r g.2 e)) (λ_ _ _ _ h=>h.elim) λj out ia ib V hj f=>?_
 refine Wt.rg (I':=λout ia ib=>Mid lt a b out ia ib (j+1+1)) (r:=(0,0)) (t:=λ_:Nat×Nat=>wH st V.2) (z:=λout ia ib r=>(Ar it out,ia,ib,r.1,r.2)) (λi out ia ib=>Mid lt a b out ia ib (j+1+i)) (λout ia ib r=>(Ar it out,ia,ib,r.1,r.2)) (λ_:Nat×Nat=>wH st V.2) f
  (λout ia ib f=>by have h1:=f.m;have h2:=f.ha;have h3:=f.hb;rw[cG,cG]at h1;exact VB h3 (wT (a.length+b.length) 0) h1 h2) (λr _ _ e=>.pure (.inl ⟨r,_,(0,V.2),rfl,rfl,e⟩)) (λout ia ib Z f=>?_) λi out ia ib Z hi f=>?_
 rotate_left
 .obtain⟨y,D,y2,y3⟩:=C f.hb;obtain⟨x,x1,x2,x3⟩:=H (aD f.ha);have B:=f.m;refine .bind (.elem D (.bind (.elem x1 (.bind (Wt.ask as hk y2 x2 ?_)))))
  cases c:lt y x with
  |true=>
    refine .bind (.elem D ?_);have m2:=tB f.ml x1 D c;rw[mO];refine .ite (λd=>.pure (.inl ⟨_,_,(0,0),rfl,rfl,v m2 (by simp_all)⟩)) λd=>?_;have d:ib+1<b.length:=by have c :=λe=>d (beq_iff_eq.mpr e);rw[cG]at c;have:=f.hb;exact bC this c
    exact .ite (λ_=>.pure (.inr ⟨_,ia,ib+1,(_,_),rfl,rfl,m2,f.ha,d,gm B⟩)) λ_=>.pure ⟨_,ia,ib+1,(_,_),rfl,rfl,m2,f.ha,d,bb B⟩
  |false=>
    refine .bind (.elem x1 ?_);have m2:=tA f.ml x1 D (o.co _ _ (X x1 D).symm c);rw[mO];refine .ite (λd=>.pure (.inl ⟨_,_,(0,0),rfl,rfl,rK m2 (by simp_all)⟩)) λd=>?_;have d:ia+1+1<a.length:=by have c :=λe=>d (beq_iff_eq.mpr e);rw[cG]at c;have:=f.ha;exact bC this c
    exact .ite (λ_=>.pure (.inr ⟨_,ia+1,ib,(_,_),rfl,rfl,m2,d,f.hb,gm B⟩)) λ_=>.pure ⟨_,ia+1,ib,(_,_),rfl,rfl,m2,d,f.hb,gm B⟩
 refine .bind (.rule (Wt.rg (r:=(_,Z.1,Z.2,V.2)) (t:=λr:Nat×Nat×Nat×Nat=>wH st r.2.2.2) (z:=λout ia ib r=>(Ar it out,ia,ib,r.1,r.2.1,r.2.2.1)) (λi out ia ib=>Mid lt a b out ia ib (j+1+1+i)) (λout ia ib r=>(Ar it out,ia,ib,r.1,r.2.1,r.2.2.1)) (λr:Nat×Nat×Nat×Nat=>wH st r.2.2.2) f
  (λout ia ib f=>by have h1:=f.m;have h2:=f.ha;have h3:=f.hb;rw[cG,cG]at h1;exact VB h3 (wT (a.length+b.length) 0) h1 h2) (λr _ g e=>.pure (.inl ⟨r,_,(0,g.2.2.2),rfl,rfl,e⟩)) (λout ia ib r f=>.bind (.OG (.pure ⟨out,ia,ib,(_,_),rfl,rfl,f⟩))) λi out ia ib r2 hi f=>?_))
 extract_lets s1 o1 s2 ia1 s3 ib1 s4 mg1 s5 ac1 bc1 ib2 jp mg2
 refine Wt.wy (λR=>∀mg,R (jp () mg)) ?_ λh=>?_
 rotate_left
 .exact .ite (λ_=>h _) λ_=>h _
 intro mg;have B:=f.m;refine ac fun Pq kq => ?_; obtain⟨y,D,y2,y3⟩:=C f.hb;obtain⟨k,k1,k2,Q,k4⟩:=tu o as (l:=a) (base:=ia) (n:=a.length - ia) (gm (wS a.length ia (gm f.ha))) (by rw[iu];exact sa.sublist (fH _ _)) (λx M=>by rw[iu]at M;have:=eJ M;exact⟨na x this,λe=>y3 (e▸this)⟩) y2;refine kq ?_; rw[iu]at k2 Q;rw[<-cG ]at k4;refine .bind (.OG (.bind (.elem D (.bind (k4 d_ 0 hk (by rw[cG];have:=f.ha;exact jJ this (wT a.length ia)) ?_)))));have K :=f.ml.xP sa k λz p=>rJ o Y D (k2 z p);rw[kh]at Q;dsimp -zeta -zetaHave only
 extract_lets +onlyGivenNames ac1 jp2
 refine Wt.wy (λR=>∀out ia,ML lt a b out ia ib->ia+1<a.length->(∀z∈a.drop ia,lt y z=c_)->j+1+1+i<=ia+ib->R (jp2 () (Ar it out) ia)) ?_ λh=>?_
 rotate_left
 .refine .ite (λ_=>?_) λc=>?_
  .rw[mZ,(di _ _)];refine .ite (λd=>.pure (.inl ⟨_,_,(0,0,0,_),rfl,rfl,rK K (by have d:=beq_iff_eq.mp d;rw[cG]at d;omega)⟩)) λd=>?_;refine .ite (λd=>.pure (.inl ⟨_,_,(0,0,0,_),rfl,rfl,J K (by have d:=beq_iff_eq.mp d;rw[cG]at d;exact ae d.symm)⟩)) λd'=>?_;have c1:¬ia+k+1=(Ar it a).size:=λe=>d (beq_iff_eq.mpr e);have c2:¬ia+k=(Ar it a).size:=λe=>d' (beq_iff_eq.mpr e);rw[cG]at c1 c2;exact h (out++(a.drop ia).take k) (ia+k) K (by omega) Q (gm B)
  .obtain rfl:k=0:=aC (bT c) (aM _);rw[mH,aH]at K;exact h out ia K f.ha Q B
 intro out ia K U Q B;obtain⟨x,x1,x2,x3⟩:=H ((aD U));have yx :=Q x (by rw[jV x1];simp);have m2:=tB K x1 D yx;refine .bind (.elem D ?_);rw[mO];refine .ite (λd=>.pure (.inl ⟨_,_,(0,0,0,_),rfl,rfl,v m2 (by simp_all)⟩)) λd=>?_;have d:ib+1<b.length:=by have c :=λe=>d (beq_iff_eq.mpr e);rw[cG]at c;have:=f.hb;exact bC this c
 refine ac fun Pq kq => ?_; obtain⟨k',l1,l2,S,l4⟩:=tu o as (l:=b) (base:=ib+1) (n:=b.length - (ib+1)) (gm (ws (aD d))) (by rw[iu];exact Y.sublist (fH _ _)) (λz p=>by rw[iu]at p;have:=eJ p;exact⟨nb z this,λe=>x3 (e▸this)⟩) x2;refine kq ?_; rw[iu]at l2 S;rw[<-cG ]at l4;refine .bind (.elem x1 (.bind (l4 c_ 0 hk (by rw[cG];exact jJ d (wt (aD d))) ?_)));have T :=m2.p4 Y k' λz p=>rJ o sa x1 (l2 z p);rw[kh]at S;dsimp -zeta -zetaHave only
 extract_lets +onlyGivenNames bc1 ia2 jp3
 refine Wt.wy (λR=>∀out ib',ML lt a b out ia ib'->ib'<b.length->(∀z∈b.drop ib',lt x z=c_)->j+1+1+i+1<=ia+ib'->R (jp3 () (Ar it out) ib')) ?_ λh=>?_
 rotate_left
 .refine .ite (λ_=>?_) λc=>?_
  .rw[mZ,(di _ _)];refine .ite (λd=>.pure (.inl ⟨_,_,(0,0,0,_),rfl,rfl,v T (by simp_all)⟩)) λd'=>?_;have c2:¬ib+1+k'=(Ar it b).size:=λe=>d' (beq_iff_eq.mpr e);rw[cG]at c2;exact h (out++[y]++(b.drop (ib+1)).take k') (ib+1+k') T (bC (jJ (ws (aD d)) l1) c2) S (gm B)
  .obtain rfl:k'=0:=aC (bT c) (aM _);rw[mH,aH]at T;exact h (out++[y]) (ib+1) T d S (bb B)
 intro out ib' T L S B;refine ac fun Pq kq => ?_; obtain⟨z,F,I,z3⟩:=C L;refine kq ?_; have m3:=tA T x1 F (S z (by rw[jV F];simp));refine .bind (.elem x1 ?_);rw[mO];refine .ite (λd=>.pure (.inl ⟨_,_,(0,0,0,_),rfl,rfl,rK m3 (by simp_all)⟩)) λd=>?_;have d:ia+1+1<a.length:=by have c :=λe=>d (beq_iff_eq.mpr e);rw[cG]at c;exact bC U c
 exact .ite (λ_=>.pure (.inr ⟨_,ia+1,ib',(_,_,_,_),rfl,rfl,m3,d,L,gm B⟩)) λ_=>.pure ⟨_,ia+1,ib',(_,_,_,_),rfl,rfl,m3,d,L,gm B⟩
end
section
variable{lt:Nat->Nat->Bool}{a b out:List Nat}{na nb:Nat}
abbrev V6(lt:Nat->Nat->Bool):Nat->Nat->Bool:=λx y=>lt y x
def eW.rev(h:eW lt a):eW (V6 lt) a.reverse:=kN.mpr h
structure MH(lt:Nat->Nat->Bool)(a b out:List Nat)(na nb:Nat):Prop where
 ml:ML (V6 lt) a.reverse b.reverse out (a.length - na) (b.length - nb)
 la:na<=a.length
 lb:nb<=b.length
def MH.swap(h:MH lt a b out na nb):MH lt b a out nb na:=⟨h.ml.swap,h.lb,h.la⟩
def lO{l:List Nat}:l.reverse.drop (l.length - n)=(l.take n).reverse:=by rw[List.reverse_take]
def MH.p4(h:MH lt a b out na nb)(B:eW lt b)(ht:at_<=nb)(hc:∀y∈(b.drop at_).take (nb - at_),∀x∈a.take na,lt x y=c_):MH lt a b (out++((b.drop at_).take (nb - at_)).reverse) na at_:=by
 have hb:=h.lb
 have e:(b.reverse.drop (b.length - nb)).take (nb - at_)=((b.drop at_).take (nb - at_)).reverse:=by
  rw[lO,List.take_reverse,dQ,eB hb,show nb - (nb - at_)=at_ by omega,xH]
 have:=h.ml.p4 B.rev (nb - at_) (λy c x d=>by
  rw[lO]at d
  simp_all)
 rw[e,show b.length - nb+(nb - at_)=b.length - at_ from(aC (pY (ws hb) (ws ht) (wT b.length at_)) (pY (wS b.length at_ (jJ ht hb)) (wt hb) (wt ht)))]at this;exact⟨this,h.la,aa ht hb⟩
def MH.xP(h:MH lt a b out na nb)(sa:eW lt a)(ht:at_<=na)(hc:∀y∈(a.drop at_).take (na - at_),∀x∈b.take nb,lt x y=c_):MH lt a b (out++((a.drop at_).take (na - at_)).reverse) at_ nb:=
 (h.swap.p4 sa ht hc).swap
def MH.fin(h:MH lt a b out na nb)(B:eW lt b)(O:na=0):eW lt (a.take na++b.take nb++out.reverse)/\(a.take na++b.take nb++out.reverse).Perm (a++b):=by
 obtain⟨c,d⟩:=h.ml.swap.fin B.rev (by simp_all)
 have e:(a.take na++b.take nb++out.reverse)=(out++b.reverse.drop (b.length - nb)++a.reverse.drop (a.length - na)).reverse:=by
  rw[lO,lO];simp
 rw[e];exact ⟨kN.mpr c,((gr _).trans d).trans (((gr b).append (gr a)).trans dX)⟩
def MH.rK(h:MH lt a b out na nb)(sa:eW lt a)(B:eW lt b)(hc:∀y∈a.take na,∀x∈b.take nb,lt x y=c_):eW lt (b.take nb++a.take na++out.reverse)/\(b.take nb++a.take na++out.reverse).Perm (a++b):=by
 obtain⟨c,d⟩:=h.ml.swap.rK B.rev sa.rev (λy f x g=>by
  rw[lO]at f g
  simp_all)
 have e:(b.take nb++a.take na++out.reverse)=(out++a.reverse.drop (a.length - na)++b.reverse.drop (b.length - nb)).reverse:=by
  rw[lO,lO];simp
 rw[e];exact ⟨kN.mpr c,((gr _).trans d).trans (((gr b).append (gr a)).trans dX)⟩
def lS{l:List Nat}{n x:Nat}(h:l[n]?=a_ x):(l.drop n).take (n+1 - n)=[x]:=by rw[(di _ _)];exact take_one h
set_option tactic.hygienic true in
def rz(o:Lt lt)(sl:eW lt l)(h:l[n]?=a_ x)(c:lt x y=c_):∀z∈l.take (n+1),lt z y=c_:=λz f=>by
 obtain⟨i,hi⟩:=gC f;rw[dv]at hi;split at hi
 .rename_i d;by_cases e:i=n
  .grind
  .obtain⟨g,j⟩:=aR.mp hi;obtain⟨k,m⟩:=aR.mp h;have:=eZ.mp sl i n g k (bC (gm d) e);rw[j,m]at this;exact o.tr _ _ _ this c
 .cases hi
def EJ:(Ar it l).extract 0 i++(Ar it m).extract 0 j++(Ar it n).reverse=Ar it (l.take i++m.take j++n.reverse):=by
 simp[Aj]
def Ha:Ar it l++((Ar it b).extract i j).reverse=Ar it (l++((b.drop i).take (j - i)).reverse):=by
 simp
structure Q6(lt:Nat->Nat->Bool)(a b out:List Nat)(na nb m:Nat):Prop where
 mh:MH lt a b out na nb
 ha:0<na
 hb:1<nb
 m:m+na+nb<=a.length+b.length
end
section
def DR{st:bO}{G:Array jI->bO->Prop}(o:Lt lt)(as:uk P w A s κ it lt N)(hk:kindOf st=κ)(na:∀x∈a,x<N)(nb:∀x∈b,x<N)(sa:eW lt a)(O:eW lt b)(GQ:∀x∈a,x∉b)
  (hb0:0<b.length)(Z:a.length=n+1)(Y:a[n]?=a_ y0)(hf:∀x∈b,lt x y0=c_)(hl:∀y∈a,∀x∈b.take 1,lt x y=c_)
  (q:∀r g,Res it lt (a++b) r->G r (wH st g)):Wt P w A E s (Bw (Ar it a) (Ar it b)) G st:=by
 have v:∀{out:List Nat}{ia ib:Nat},MH lt a b out ia ib->ia=0->Res it lt (a++b) ((Ar it a).extract 0 ia++(Ar it b).extract 0 ib++(Ar it out).reverse):=λh p=>by
  exact⟨_,EJ,(h.fin O p).1,(h.fin O p).2⟩
 have K:∀{out:List Nat}{ia ib:Nat},MH lt a b out ia ib->ib=0->Res it lt (a++b) ((Ar it a).extract 0 ia++(Ar it b).extract 0 ib++(Ar it out).reverse):=λ{out ia ib}h p=>by
  obtain⟨H,T⟩:=h.swap.fin sa p;subst p;exact⟨a.take ia++out.reverse,by rw[EJ,mH,aH],H,T.trans dX⟩
 have rK:∀{out:List Nat}{ia ib:Nat},MH lt a b out ia ib->ib=1->Res it lt (a++b) ((Ar it b).extract 0 ib++(Ar it a).extract 0 ia++(Ar it out).reverse):=λ{out ia ib}h p=>by
  subst p;obtain⟨H,T⟩:=h.rK sa O λy hy x hx=>hl y (cy hy) x hx;exact⟨_,EJ,H,T⟩
 have D:∀{ib:Nat},ib<b.length->∃y,b[ib]?=a_ y/\y<N/\y∉a:=λ{ib}h=>⟨b[ib],af h,nb _ (bA h),λz=>GQ _ z (bA h)⟩
 have I:∀{ia:Nat},ia<a.length->∃x,a[ia]?=a_ x/\x<N/\x∉b:=λ{ia}h=>⟨a[ia],af h,na _ (bA h),λz=>GQ _ (bA h) z⟩
 have nex:∀{ia ib x y:Nat},a[ia]?=a_ x->b[ib]?=a_ y->x≠y:=λh1 h2 e=>GQ _ (aV h1) (e▸aV h2)
 have tB:∀{out:List Nat}{ia ib x y:Nat},MH lt a b out (ia+1) (ib+1)->a[ia]?=a_ x->b[ib]?=a_ y->lt x y=c_->MH lt a b (out++[y]) (ia+1) ib:=λ{out ia ib x y}h h1 h2 c=>by
  have:=h.p4 O (at_:=ib) (by simp) (λz p=>by rw[lS h2,aE]at p;subst p;exact rz o sa h1 c);rw[lS h2]at this;exact this
 have tA:∀{out:List Nat}{ia ib x y:Nat},MH lt a b out (ia+1) (ib+1)->a[ia]?=a_ x->b[ib]?=a_ y->lt y x=c_->MH lt a b (out++[x]) ia (ib+1):=λ{out ia ib x y}h h1 h2 c=>by
  have:=h.xP sa (at_:=ia) (by simp) (λz p=>by rw[lS h1,aE]at p;subst p;exact rz o O h2 c);rw[lS h1]at this;exact this
 have m0:MH lt a b [y0] n b.length:=by
  have h:MH lt a b [] (n+1) b.length:=⟨by rw[Z,mj,mj];exact ML.start,ae Z.symm,ao _⟩
  have:=h.xP sa (at_:=n) (by simp) (λz p x hx=>by rw[lS Y,aE]at p;simp_all);rw[lS Y]at this;exact this
 have hsz:(Ar it a).size - 1=n:=by rw[cG];exact aC (jJ (wS a.length 1 (gm (ae Z.symm))) (ae Z)) (jJ (ae Z.symm) (wT a.length 1))
 unfold Bw;walk_at "u mergeHi";rw[hsz];refine .bind (.rule (.bind (.elem Y ?_)));have L:MH lt a b [y0] n (Ar it b).size:=by rw[cG];exact m0
 refine .ite (λc=>.pure (q _ (gallopOf st) (v L (beq_iff_eq.mp c)))) λc1=>?_;refine .ite (λc=>.pure (q _ (gallopOf st) (rK L (beq_iff_eq.mp c)))) λc2=>?_;refine .bind (.get ?_);have b1:0<n:=by exact cg (λe=>c1 (beq_iff_eq.mpr e))
 refine Wt.rg (I':=λ_ _ _=>False) (r:=(_,gallopOf st)) (t:=λr:Nat×Nat=>wH st r.2) (z:=λout ia ib r=>(ia,ib,Ar it out,r.1)) (λj out ia ib=>Q6 lt a b out ia ib (j+1)) (λout ia ib r=>(ia,ib,Ar it out,r.1)) (λr:Nat×Nat=>wH st r.2) ⟨L,b1,(by grind),by exact gm (ae Z.symm)⟩
  (λout ia ib f=>by have h1:=f.m;grind) (λr _ g e=>.pure (q r g.2 e)) (λ_ _ _ _ h=>h.elim) λj out ia ib r0 hj f=>?_
 refine Wt.rg (I':=λout ia ib=>Q6 lt a b out ia ib (j+1+1)) (r:=(0,0)) (t:=λ_:Nat×Nat=>wH st r0.2) (z:=λout ia ib r=>(ia,ib,Ar it out,r.1,r.2)) (λi out ia ib=>Q6 lt a b out ia ib (j+1+i)) (λout ia ib r=>(ia,ib,Ar it out,r.1,r.2)) (λ_:Nat×Nat=>wH st r0.2) f
  (λout ia ib f=>by have h1:=f.m;exact Qa h1 (wT (a.length+b.length) 0)) (λr _ _ e=>.pure (.inl ⟨r,_,(0,r0.2),rfl,rfl,e⟩)) (λout ia ib r1 f=>?_) λi out ia ib r1 hi f=>?_
 rotate_left
 .have C:=f.m;refine ac λ_ l=>?_;obtain⟨ia,rfl⟩:∃k,ia=k+1:=⟨ia - 1,pG (mR f.ha)⟩
  obtain⟨ib,rfl⟩:∃k,ib=k+1:=⟨ib - 1,by have:=f.hb;exact aC (gm (wt (aD this))) (gm (ws (aD this)))⟩
  obtain⟨y,F,y2,y3⟩:=D (f.mh.lb);obtain⟨x,x1,x2,x3⟩:=I (f.mh.la);refine l ?_;refine .bind (.elem F (.bind (.elem x1 (.bind (Wt.ask as hk y2 x2 ?_)))))
  cases c:lt y x with
  |true=>
    refine .bind (.elem x1 ?_);have m2:=tA f.mh x1 F c;rw[mO];refine .ite (λd=>.pure (.inl ⟨_,_,(0,0),rfl,rfl,v m2 (beq_iff_eq.mp d)⟩)) λd=>?_;have d:0<ia:=by exact cg (λe=>d (beq_iff_eq.mpr e))
    exact .ite (λ_=>.pure (.inr ⟨_,ia,ib+1,(_,_),rfl,rfl,m2,d,f.hb,gm C⟩)) λ_=>.pure ⟨_,ia,ib+1,(_,_),rfl,rfl,m2,d,f.hb,gm C⟩
  |false=>
    refine .bind (.elem F ?_);have m2:=tB f.mh x1 F (o.co _ _ (nex x1 F).symm c);rw[mO];refine .ite (λd=>.pure (.inl ⟨_,_,(0,0),rfl,rfl,rK m2 (beq_iff_eq.mp d)⟩)) λd=>?_;have d:1<ib:=by have c:=λe=>d (beq_iff_eq.mpr e);exact bC (gm f.hb) (dR c)
    exact .ite (λ_=>.pure (.inr ⟨_,ia+1,ib,(_,_),rfl,rfl,m2,f.ha,d,gm C⟩)) λ_=>.pure ⟨_,ia+1,ib,(_,_),rfl,rfl,m2,f.ha,d,gm C⟩
 refine .bind (.rule (Wt.rg (r:=(_,r1.1,r1.2,r0.2)) (t:=λr:Nat×Nat×Nat×Nat=>wH st r.2.2.2) (z:=λout ia ib r=>(ia,ib,Ar it out,r.1,r.2.1,r.2.2.1)) (λi out ia ib=>Q6 lt a b out ia ib (j+1+1+i)) (λout ia ib r=>(ia,ib,Ar it out,r.1,r.2.1,r.2.2.1)) (λr:Nat×Nat×Nat×Nat=>wH st r.2.2.2) f
  (λout ia ib f=>by have h1:=f.m;exact Qa h1 (wT (a.length+b.length) 0)) (λr _ g e=>.pure (.inl ⟨r,_,(0,g.2.2.2),rfl,rfl,e⟩)) (λout ia ib r f=>.bind (.OG (.pure ⟨out,ia,ib,(_,_),rfl,rfl,f⟩))) λi out ia ib r2 hi f=>?_))
 extract_lets s1 o1 s2 ia1 s3 ib1 s4 mg1 s5 U V ib2 jp mg2
 subst s1 o1 s2 ia1 s3 ib1 s4 mg1 s5 U V ib2 mg2;refine Wt.wy (λR=>∀mg,R (jp () mg)) ?_ λh=>?_
 rotate_left
 .exact .ite (λ_=>h _) λ_=>h _
 intro mg;have C:=f.m;have la:=f.mh.la;have lb:=f.mh.lb;have Q:=f.ha;obtain⟨ib,rfl⟩:∃k,ib=k+1:=⟨ib - 1,by have:=f.hb;exact aC (gm (wt (aD this))) (gm (ws (aD this)))⟩
 obtain⟨y,F,y2,y3⟩:=D (lb);obtain⟨k,k1,W,k3,k4⟩:=tu o as (fD la (aM _)) (by exact sa.sublist (iU _ _)) (λx hx=>by have:=cy hx;exact⟨na x this,λe=>y3 (e▸this)⟩) y2;rw[xH]at k3;rw[j7,eB k1]at W;refine .bind (.OG (.bind (.elem F (.bind (k4 d_ (ia - 1) hk (fD Q (ao _)) ?_)))));have S :=f.mh.xP sa k1 λz p=>rz o O F (k3 z p);dsimp -zeta -zetaHave only
 extract_lets +onlyGivenNames ka U jp2
 refine Wt.wy (λR=>∀out ia,MH lt a b out ia (ib+1)->0<ia->(∀z∈a.take ia,lt z y=c_)->j+1+1+i+ia+(ib+1)<=a.length+b.length->R (jp2 () ia (Ar it out))) ?_ λh=>?_
 rotate_left
 .refine .ite (λ_=>?_) λc=>?_
  .rw[Ha];refine .ite (λd=>.pure (.inl ⟨_,_,(0,0,0,_),rfl,rfl,v S (beq_iff_eq.mp d)⟩)) λd=>?_;exact h (out++((a.drop k).take (ia - k)).reverse) k S (cg (λe=>d (beq_iff_eq.mpr e))) W (jJ C k1)
  .obtain rfl:k=ia:=by omega
   rw[mj,mH,Nn,aH]at S;exact h out k S f.ha W C
 intro out ia S Q W C;obtain⟨ia,rfl⟩:∃k,ia=k+1:=⟨ia - 1,pG (mR Q)⟩
 obtain⟨x,x1,x2,x3⟩:=I (S.la);have m2:=tB S x1 F (W x (aV (by rw[dv,if_pos (jq _)];exact x1)));refine .bind (.elem F ?_);rw[mO];refine .ite (λd=>.pure (.inl ⟨_,_,(0,0,0,_),rfl,rfl,rK m2 (beq_iff_eq.mp d)⟩)) λd=>?_;have d:1<ib:=by have c:=λe=>d (beq_iff_eq.mpr e);exact bC (gm f.hb) (dR c)
 refine ac λ_ l=>?_;obtain⟨k',l1,X,l3,l4⟩:=tu o as  (base:=0) (n:=ib) (gm lb) (by exact O.sublist (iU _ _)) (λz p=>by have:=cy p;exact⟨nb z this,λe=>x3 (e▸this)⟩) x2;refine l ?_;rw[xH]at l3;rw[j7,eB l1]at X;refine .bind (.elem x1 (.bind (l4 c_ (ib - 1) hk (gm (ws (aD d))) ?_)));have J :=m2.p4 O l1 λz p=>rz o sa x1 (l3 z p);dsimp -zeta -zetaHave only
 extract_lets +onlyGivenNames kb V ia2 jp3
 refine Wt.wy (λR=>∀out ib',MH lt a b out (ia+1) ib'->1<ib'->(∀z∈b.take ib',lt z x=c_)->j+1+1+i+1+(ia+1)+ib'<=a.length+b.length->R (jp3 () ib' (Ar it out))) ?_ λh=>?_
 rotate_left
 .refine .ite (λ_=>?_) λc=>?_
  .rw[Ha];refine .ite (λd=>.pure (.inl ⟨_,_,(0,0,0,_),rfl,rfl,rK J (beq_iff_eq.mp d)⟩)) λd=>?_;refine .ite (λd=>.pure (.inl ⟨_,_,(0,0,0,_),rfl,rfl,K J (beq_iff_eq.mp d)⟩)) λd'=>?_;have c1:=λe=>d (beq_iff_eq.mpr e);have c2:=λe=>d' (beq_iff_eq.mpr e);exact h (out++[y]++((b.drop k').take (ib - k')).reverse) k' J (bC (gm (cg c2)) (dR c1)) X (jJ C l1)
  .obtain rfl:k'=ib:=by omega
   rw[mj,mH,Nn,aH]at J;exact h (out++[y]) k' J d X (gm C)
 intro out ib' J B X C;refine ac λ_ l=>?_;obtain⟨ib',rfl⟩:∃k,ib'=k+1:=⟨ib' - 1,aC (gm (wt (aD B))) (gm (ws (aD B)))⟩
 obtain⟨z,H,T,z3⟩:=D (J.lb);refine l ?_;have m3:=tA J x1 H (X z (aV (by rw[dv,if_pos (jq _)];exact H)));refine .bind (.elem x1 ?_);rw[mO];refine .ite (λd=>.pure (.inl ⟨_,_,(0,0,0,_),rfl,rfl,v m3 (beq_iff_eq.mp d)⟩)) λd=>?_;have d:0<ia:=by exact cg (λe=>d (beq_iff_eq.mpr e))
 exact .ite (λ_=>.pure (.inr ⟨_,ia,ib'+1,(_,_,_,_),rfl,rfl,m3,d,B,gm C⟩)) λ_=>.pure ⟨_,ia,ib'+1,(_,_,_,_),rfl,rfl,m3,d,B,gm C⟩
end
abbrev p5(κ:pU)(it:Nat->jI)(l:List Nat)(B:List (Nat×Nat×Nat))(g:Nat):bO:=l9 κ (Ar it l) B.toArray g b_
section
theorem Bf:∀(R B u v:List Nat)(c n:Nat),B.length=R.length->c+n=u.length->((R.map it).zipIdx n).foldl (λ(a:Array jI)(x:jI×Nat)=>a.setIfInBounds (c+x.2) x.1) (Ar it (u++B++v))=Ar it (u++R++v)
 |[],[],u,v,c,n,_,_=>rfl
 |r::R,p::B,u,v,c,n,hl,hc=>by
   rw[aA,ur,NY]
   have e:(Ar it (u++(p::B)++v)).setIfInBounds (c+n) (it r)=Ar it ((u++[r])++B++v):=by
    simp_all
   rw[e,Bf R B (u++[r]) v c (n+1) (by simpa using hl) (by simp;grind)];simp
def nA(ha:eW lt a)(hb:eW lt b)(h:∀x∈a,∀y∈b,lt x y=c_):eW lt (a++b):=eG.mpr ⟨ha,hb,h⟩
def DS{pre:List Nat}{G:Bool->bO->Prop}(o:Lt lt)(as:uk P w A s κ it lt N)(sB:eW lt B)(Z:eW lt C)(nB:0<B.length)(nC:0<C.length)(lB:∀x∈B,x<N)(lC:∀x∈C,x<N)(GQ:∀x∈B,x∉C)
  (q:∀M g,eW lt M->M.Perm (B++C)->G c_ (p5 κ it (pre++M++post) (O++(pre.length,B.length+C.length,pw)::Y) g)) :
  Wt P w A E s (mergeAt' O.length) G (p5 κ it (pre++(B++C)++post) (O++(pre.length,B.length,pw)::(pre.length+B.length,C.length,pw')::Y) g):=by
 generalize D:pre++(B++C)++post=L;have K:∃y,C[0]?=a_ y:=⟨C[0],af nC⟩
 refine ac fun Pq kq => ?_; obtain⟨y,K⟩:=K;have H:∃x,B[B.length - 1]?=a_ x:=⟨_,af (fD nB (ao _))⟩
 obtain⟨x,H⟩:=H;have yC:=aV K;have xB:=aV H;have I:(L.drop pre.length).take B.length=B:=by rw[<-D,aJ,jf,aJ,xG]
 have zj:(L.drop (pre.length+B.length)).take C.length=C:=by
  rw[<-D,<-kh,aJ,jf,aJ,jf,xG]
 have Q:pre.length+B.length+C.length<=L.length:=by rw[<-D];exact lw0
 have gy:L[pre.length+B.length]?=a_ y:=by
  rw[<-D,aJ,aT (aW _ _),aJ,aT (by simp),a9 (by omega)];rw[(EZ (ae (di _ _)))];exact K
 have gx:L[pre.length+B.length - 1]?=a_ x:=by
  rw[<-D,aJ,aT (Ht (eX nB _)),aJ,a9 (by omega)];rw[show pre.length+B.length - 1 - pre.length=B.length - 1 by omega];exact H
 obtain⟨k,J,k2,k3,k4⟩:=tu o as (aa (aW _ _) Q) (by rw[I];exact sB) (λz d=>by rw[I]at d;exact⟨lB z d,λe=>GQ z d (e▸yC)⟩) (lC y yC);obtain⟨m,m1,m2,m3,m4⟩:=tu o as (by omega) (by rw[zj];exact Z) (λz d=>by rw[zj]at d;exact⟨lC z d,λe=>GQ x xB (e▸d)⟩) (lB x xB);refine kq ?_; rw[I]at k2 k3;rw[zj]at m2 m3
 have p:∀z∈C,z=y\/lt y z=c_:=λz d=>by
  have e:=jV K;rw[Rq]at e;rw[e]at d Z
  rcases au.mp d with h|h
  .exact .inl h
  .exact .inr ((cH.mp Z).1 z h)
 have S:∀z∈B,z=x\/lt z x=c_:=λz d=>by
  obtain⟨i,hi⟩:=gC d;obtain⟨O,Y⟩:=aR.mp hi;by_cases e:i=B.length - 1
  .subst e;rw[H]at hi;cases hi;exact .inl rfl
  .have:=eZ.mp sB i (B.length - 1) O (aR.mp H).1 (bC (jJ O (wt nB)) e);rw[Y,(aR.mp H).2]at this;exact .inr this
 have low:∀u,(∀z∈C,z=y\/lt y z=c_)->lt u y=c_->∀z∈C,lt u z=c_:=λu _ h z d=>by
  rcases p z d with rfl|h'
  .exact h
  .exact o.tr _ _ _ h h'
 have high:∀u,lt x u=c_->∀z∈B,lt z u=c_:=λu h z d=>by
  rcases S z d with rfl|h'
  .exact h
  .exact o.tr _ _ _ h' h
 unfold mergeAt';walk_at "u mergeAt";refine .bind (.get ?_)
 have e1:(pendingOf (p5 κ it L (O++(pre.length,B.length,pw)::(pre.length+B.length,C.length,pw')::Y) g))[O.length]?=a_ (pre.length,B.length,pw):=by
  rw[kO,aT (ao _),mj];rfl
 have e2:(pendingOf (p5 κ it L (O++(pre.length,B.length,pw)::(pre.length+B.length,C.length,pw')::Y) g))[O.length+1]?=a_ (pre.length+B.length,C.length,pw'):=by
  rw[kO,aT (by simp),(di _ _)];rfl
 rw[e1,e2]
 have e3:((pendingOf (p5 κ it L (O++(pre.length,B.length,pw)::(pre.length+B.length,C.length,pw')::Y) g)).setIfInBounds O.length (pre.length,B.length+C.length,pw)).eraseIdxIfInBounds (O.length+1)=(O++(pre.length,B.length+C.length,pw)::Y).toArray:=by
  rw[List.setIfInBounds_toArray,List.set_append_right (h:=ao _),mj];unfold Array.eraseIdxIfInBounds;rw[dif_pos (by simp)];rw[List.eraseIdx_toArray,List.eraseIdx_append_of_length_le (by simp),(di _ _)];rfl
 refine .bind (.set ?_);rw[e3];refine .bind (.elem gy (.bind (k4 d_ 0 rfl nB ?_)));refine .ite (λc=>?_) λc=>?_
 .refine .pure ?_;rw[<-D];refine q (B++C) g (nA sB Z λu n=>low u p (k2 u ?_)) (.refl _);rw[dP (jJ (wt J) (ae (beq_iff_eq.mp c)))];exact n
 have c:=λe=>c (beq_iff_eq.mpr e);refine .bind (.elem (by rw[show pre.length+k+(B.length - k) - 1=pre.length+B.length - 1 from(aC (pY (wS (pre.length+k+(B.length - k)) 1 (gm (cg c))) (wT (pre.length+B.length) 1) (ws J)) (pY (wS (pre.length+B.length) 1 (gm nB)) (wT (pre.length+k+(B.length - k)) 1) (wt J)))];exact gx) (.bind (m4 c_ (C.length - 1) rfl (fD nC (ao _)) ?_)));refine .ite (λc=>?_) λc'=>?_
 .have c :=beq_iff_eq.mp c;subst c;refine .pure ?_;rw[<-D];exact q (B++C) g (nA sB Z λu n z d=>high z (m3 z d) u n) (.refl _)
 have c':0<m:=by exact cg (λe=>c' (beq_iff_eq.mpr e))
 have ex:(Ar it L).extract (pre.length+k) (pre.length+B.length)=Ar it (B.drop k):=by
  have:(L.drop (pre.length+k)).take (pre.length+B.length - (pre.length+k))=B.drop k:=by
   rw[<-D,<-kh,aJ,jf,aJ,uV J,show pre.length+B.length - (pre.length+k)=(B.drop k).length by simp;omega,xG]
  have h:=mZ (it:=it) (l:=[]) (b:=L) (i:=pre.length+k) (j:=pre.length+B.length);rw[this]at h;simpa using h
 have ey:(Ar it L).extract (pre.length+B.length) (pre.length+B.length+m)=Ar it (C.take m):=by
  have:(L.drop (pre.length+B.length)).take (pre.length+B.length+m - (pre.length+B.length))=C.take m:=by
   rw[<-D,<-kh,aJ,jf,aJ,jf,(di _ _),uS m1]
  have h:=mZ (it:=it) (l:=[]) (b:=L) (i:=pre.length+B.length) (j:=pre.length+B.length+m);rw[this]at h;simpa using h
 have T:eW lt (B.drop k):=sB.sublist (fH _ _);have U:eW lt (C.take m):=Z.sublist (iU _ _)
 have fin:∀r g',Res it lt (B.drop k++C.take m) r->G c_ (l9 κ (r.toList.zipIdx.foldl (λ(a)(x)=>a.setIfInBounds (pre.length+k+x.2) x.1) (Ar it L)) (O++(pre.length,B.length+C.length,pw)::Y).toArray g' b_):=by
  rintro r g' ⟨R,rfl,sR,pR⟩
  have hLs:L=(pre++B.take k)++(B.drop k++C.take m)++(C.drop m++post):=by
   rw[<-D]
   conv=>lhs;rw[<-bh k B,<-bh m C]
   grind
  rw[hLs,(Bf (it:=it) R (B.drop k++C.take m) (pre++B.take k) (C.drop m++post) (pre.length+k) 0 pR.length_eq.symm (by simp;exact pG (eB J)))];have:=q (B.take k++R++C.drop m) g' ?_ ?_
  .simpa only[aJ]using this
  .refine nA (nA (sB.sublist (iU _ _)) sR λu n z d=>?_) (Z.sublist (fH _ _)) λu n z d=>?_
   .rcases ax.mp (pR.mem_iff.mp d)with h|h
    .have:=sB;rw[<-bh k B]at this;exact(eG.mp this).2.2 u n z h
    .exact low u p (k2 u n) z (cy h)
   .have V:=m3 z d
    rcases ax.mp n with h|h
    .exact high z V u (cy h)
    .rcases ax.mp (pR.mem_iff.mp h)with h|h
     .exact high z V u (eJ h)
     .have:=Z;rw[<-bh m C]at this;exact(eG.mp this).2.2 u h z d
  .conv=>rhs;rw[<-bh k B,<-bh m C]
   simpa only[aJ]using ((pR.append_left (B.take k)).append_right (C.drop m))
 have W:∀x∈B.drop k,x<N:=λz h=>lB z (eJ h);have X:∀x∈C.take m,x<N:=λz h=>lC z (cy h);have F:∀x∈B.drop k,x∉C.take m:=λz h h'=>GQ z (eJ h) (cy h');have t:(B.drop k).length=B.length - k:=by simp
 have hlC:(C.take m).length=m:=by simp;exact eB m1
 have v:(B.drop k)[B.length - k - 1]?=a_ x:=by rw[rZ,show k+(B.length - k - 1)=B.length - 1 from(aC (pY (ws J) (ws (cg c)) (wt nB)) (pY (ws nB) (wt J) (wt (cg c))))];exact H
 have f:(C.take m)[0]?=a_ y:=by rw[dv,if_pos c'];exact K
 extract_lets +onlyGivenNames lx ly jp
 subst lx ly
 have h:∀r g',Res it lt (B.drop k++C.take m) r->Wt P w A E s (jp r) G (l9 κ (Ar it L) (O++(pre.length,B.length+C.length,pw)::Y).toArray g' b_):=by
  intro r g' hr;exact .bind (.modify (.bind (.get (.pure (fin r g' hr)))))
 refine .ite (λ_=>?_) λ_=>?_
 .refine .bind ?_;rw[ex,ey];refine DQ o as rfl W X T U F (aa (cg c) (ae t.symm)) f k3 (λz d u n=>?_) λr g' hr=>h r g' hr;rw[t,jV v]at n;rw[(kg (jJ (ae t) (wt (cg c)))),aE]at n
  grind
 .refine .bind ?_;rw[ex,ey];refine DR o as rfl W X T U F (aa c' (ae hlC.symm)) (aC (jJ (ae t) (wt (cg c))) (jJ (ws (cg c)) (ae t.symm))) v m2 (λz d u n=>?_) λr g' hr=>h r g' hr;have e:=take_one f
  simp_all
end
section
def Wt.YO{G:Option Bool->bO->Prop}(as:uk P w A s κ it lt N)(B:l[i]?=a_ x)(O:l[j]?=a_ y)(nx:x<N)(Y:y<N)(h:G (a_ (lt x y)) (p5 κ it l pd g)):Wt P w A E s (ltAt' i j) G (p5 κ it l pd g):=by
 exact .bind (.get (.bind (.elem B (.bind (.elem O (Wt.ask as rfl nx Y h))))))
set_option tactic.hygienic true
def Bu(pre X Y:List Nat):mirror (Ar it (pre++X++Y)) pre.length (pre.length+X.length) ((pre.length+X.length - pre.length) / 2)=Ar it (pre++X.reverse++Y):=by
 apply Hw;intro k;rw[getElem?_mirror_all (by simp)];simp only[kO,aP];split
 .rename_i h;rw[aJ,aJ,aT (by omega),a9 (by omega),aT (h.1),a9 (by simp;exact jJ (ws h.1) h.2),C8 (jJ (ad h.1) h.2)]
  congr 2;omega
 grind
def Cu(p V Y:List Nat)(x:Nat):bubble (Ar it (p++(V++x::Y))) (p.length+V.length) V.length=Ar it (p++(x::V++Y)):=by
 apply Hw;intro k;rw[getElem?_bubble (by rw[cG];simp) _ (lK _ _)];simp only[kO,aP];by_cases c:k<p.length
 .rw[if_neg (λz=>(P9 c (wT (p.length+V.length) V.length) (ae z.symm))),if_neg (λz=>(P9 z.1 c (wT (p.length+V.length) V.length))),a9 c,a9 c]
 .obtain⟨m,rfl⟩:∃m,k=p.length+m:=⟨k - p.length,pG (gD (bT c))⟩
  clear c;have ap:∀(Z:List Nat)(i:Nat),(p++Z)[p.length+i]?=Z[i]? :=λZ i=>by rw[aT (aW _ _),di]
  rw[ap (V++x::Y) m,ap,ap];split
  .simp_all
  cases m with
  |zero=>simp_all
  |succ m=>
    split
    .rename_i h h';have a :=Ai h'.2;rw[show p.length+(m+1) - 1=p.length+m from rfl,ap,a9 a,oz,dF,a9 a]
    .rename_i h h';have a:V.length<=m:=by omega
     rw[aT (cc a),oz,dF,aT a,Nat.succ_sub a,dF]
set_option tactic.hygienic false
def sD(o:Lt lt){l:List Nat}(h:eW lt (l.take (n+1)))(O:l[n]?=a_ u)(B:l[n+1]?=a_ v)(c:lt u v=c_):eW lt (l.take (n+1+1)):=by
 rw[List.take_succ,B];refine nA h (oy _ _) λz b y a=>?_;have a:y=v:=by simpa using a
 subst a;have:=rz o h (n:=n) (by grind) c z;rw[j7,C6]at this;exact this b
abbrev ASt:=Option (Option Nat)×Nat
def Fx{rest:List Nat}{st:bO}(o:Lt lt)(nd:rest.Nodup)(ha:1<=a)(hb:a<=rest.length)(h:eW lt (rest.take a))
  (hf:∀x n u v(G':ForInStep ASt->bO->Prop),rest[n]?=a_ u->rest[n+1]?=a_ v->(lt v u=c_->G' (.done (b_,n+1)) st)->(lt v u=d_->G' (.yield (b_,n+1+1)) st)->Wt P w A E s (f x (b_,n+1)) G' st) :
  Wt P w A E s (forIn [a:rest.length] ((b_,a):ASt) f) (λb B=>B=st/\∃n,b=(b_,n)/\a<=n/\n<=rest.length/\eW lt (rest.take n)/\∀k u v,n=k+1->rest[k]?=a_ u->rest[k+1]?=a_ v->lt v u=c_) st:=by
 refine Wt.range (λj b B=>B=st/\b=(b_,a+j)/\eW lt (rest.take (a+j))) ⟨rfl,rfl,h⟩ (λj b B i z=>?_) λb B z=>⟨z.1,_,z.2.1,aW _ _,ae (gD hb),z.2.2,λk u v hk _ g=>by simp_all⟩
 obtain⟨e,e1,l⟩:=z;subst e e1;obtain⟨n,d⟩:∃n,a+j=n+1:=⟨a+j - 1,aC (gm (wT (a+j) 1)) (gm (wS (a+j) 1 (gm ha)))⟩
 rw[d]at l ⊢;have m:=af (show n<rest.length from(pY (ae d.symm) (ws hb) i));have g:=af (show n+1<rest.length from(pY (ae d.symm) i (ws hb)))
 refine hf _ n _ _ _ m g (λc=>⟨rfl,n+1,rfl,aa (aW _ _) (ae d),pY (ae d.symm) (ws hb) i,l,λk u v hk p q=>by
  obtain rfl:n=k:=Nat.add_right_cancel hk
  simp_all⟩) λc=>⟨rfl,by rw[show a+(j+1)=n+1+1 from(aC (bb (ae d)) (bb (ae d.symm)))],?_⟩
 rw[show a+(j+1)=n+1+1 from(aC (bb (ae d)) (bb (ae d.symm)))];refine sD o l m g (o.co _ _ (λe=>?_) c);have:=(j9 (pY (Nat.le_of_eq d.symm) i (ad hb)) nd).mp (g.trans (by rw[e];exact m.symm))
 grind
def uB{pre rest:List Nat}:(pre++rest)[pre.length+n]?=rest[n]? :=by rw[aT (aW _ _)];simp
def Cg{pre rest:List Nat}{G:Option Nat->bO->Prop}(o:Lt lt)(as:uk P w A s κ it lt N)(Y:0<rest.length)(O:∀x∈rest,x<N)(nd:rest.Nodup)
  (q:∀n rest',1<=n->n<=rest.length->rest'.Perm rest->eW lt (rest'.take n)->G (a_ n) (p5 κ it (pre++rest') pd g)):Wt P w A E s (countRun' pre.length rest.length) G (p5 κ it (pre++rest) pd g):=by
 have ask:∀{rest':List Nat}{i j x y:Nat}{G':Option Bool->bO->Prop},rest'.Perm rest->rest'[i]?=a_ x->rest'[j]?=a_ y->G' (a_ (lt x y)) (p5 κ it (pre++rest') pd g)->Wt P w A E s (ltAt' (pre.length+i) (pre.length+j)) G' (p5 κ it (pre++rest') pd g):=λhp J K h=>
  Wt.YO as (uB.trans J) (uB.trans K) (O _ (hp.mem_iff.mp (aV J))) (O _ (hp.mem_iff.mp (aV K))) h
 unfold countRun';walk_at "u countRun"
 refine .bind (Wt.mono (Fx o nd (ao 1) Y (by
  cases rest with
  |nil=>exact .nil
  |cons z r=>exact oy _ _) λx n u v G' f l C D=>?_) λb d z=>?_)
 .refine .bind (ask (.refl _) l f ?_)
  cases c:lt v u with
  |true=>exact .pure (C c)
  |false=>exact .pure (D c)
 obtain⟨e,n,e1,h1,h2,B,hs⟩:=z;subst e e1;refine .ite (λc=>.pure (q n rest h1 h2 (.refl _) B)) λc=>?_;have c:n<rest.length:=by exact bC h2 (λe=>c (beq_iff_eq.mpr e))
 extract_lets +onlyGivenNames T U L
 refine Wt.wy (λR=>n=1->R (L ())) ?_ λh=>?_
 rotate_left
 .refine .ite (λc1=>?_) λc1=>h (by exact aC (bT c1) h1);obtain⟨k,rfl⟩:∃k,n=k+1:=⟨n - 1,pG (mR h1)⟩
  refine .bind (ask (i:=0) (.refl _) (af (show 0<rest.length by omega)) (af (h2)) ?_)
  have:lt rest[0] rest[k]=c_:=by
   have:=eZ.mp B 0 k (by exact gm (a0 (k + 1) rest.length (gm c))) (by simp;exact gm (a0 (k + 1) rest.length (gm c))) (aU c1);simpa using this
  rw[this];exact .pure (q (k+1) rest h1 h2 (.refl _) B)
 rintro rfl;have l:=af (by omega);have f:=af (show 0<rest.length by omega);have o':Lt (V6 lt):=⟨λi j k a b=>o.tr _ _ _ b a,λi j a b=>o.co _ _ (dR a) b,λi j a=>o.as _ _ a⟩
 have M:eW (V6 lt) (rest.take 2):=by
  refine sD o' ?_ f l (hs 0 _ _ rfl f l)
  cases rest with
  |nil=>exact .nil
  |cons z r=>exact oy _ _
 refine .bind (.rule (.bind (Wt.mono (Wt.range (G:=λ(b)d=>d=p5 κ it (pre++rest) pd g/\∃m,b=(b_,m,0)/\2<=m/\m<=rest.length/\eW (V6 lt) (rest.take m))
  (λj b d=>d=p5 κ it (pre++rest) pd g/\b=(b_,j+2,0)/\eW (V6 lt) (rest.take (j+2))) ⟨rfl,rfl,M⟩ (λj b d F z=>?_) λb d z=>⟨z.1,_,z.2.1,by simp,fD c (ao _),z.2.2⟩) λb d z=>?_)))
 .obtain⟨e,e1,hd⟩:=z;subst e e1;have f:=af (show j+1<rest.length from(aD (qk F)));have l:=af (show j+2<rest.length from(qk F));refine .bind (ask (.refl _) l f ?_)
  cases c:lt rest[j+2] rest[j+1]with
  |true=>
    refine .pure ⟨rfl,rfl,?_⟩;have H:=hd;exact (sD o' H f (l) c)
  |false=>
    have I:rest[j+2]≠rest[j+1]:=λe=>by
     have:=(j9 (by omega) nd).mp (l.trans (by rw[e];exact f.symm))
     simp_all
    refine .bind (ask (.refl _) f l ?_);rw[o.co _ _ I c];exact .pure ⟨rfl,j+2,rfl,lK _ _,aD (qk F),hd⟩
 obtain⟨e,m,e1,m1,m2,hd⟩:=z;subst e e1;have p:((rest.take m).reverse++rest.drop m).Perm rest:=by
  conv=>rhs;rw[<-bh m rest]
  exact(gr _).append_right _
 refine .bind ?_;show Wt P w A E s (reverseSlice' pre.length (pre.length+m)) _ _;rw[reverseSlice'_eq];refine .modify ?_
 have Q:mirror (Ar it (pre++rest)) pre.length (pre.length+m) ((pre.length+m - pre.length) / 2)=Ar it (pre++((rest.take m).reverse++rest.drop m)):=by
  have:=Bu (it:=it) pre (rest.take m) (rest.drop m)
  simp_all
 rw[Q];have t :=p.length_eq;generalize S:(rest.take m).reverse++rest.drop m=rest' at p t;have ht:rest'.take m=(rest.take m).reverse:=by grind
 rw[<-t];refine .bind (Wt.mono (Fx o (p.nodup_iff.mpr nd) ((aD m1)) (aa m2 (ae t.symm)) (by rw[ht];exact kN.mpr hd) λx n u v G' f l C D=>?_) λb d z=>?_)
 .refine .bind (ask p l f ?_)
  cases c:lt v u with
  |true=>exact .pure (C c)
  |false=>exact .pure (D c)
 .obtain⟨e,n,e1,h1,h2,B,_⟩:=z;subst e e1;exact .pure (q n rest' (aD (aa m1 h1)) (aa h2 (ae t)) p B)
end
section
set_option tactic.hygienic true in
def xr{pre rest:List Nat}{G:Bool->bO->Prop}(o:Lt lt)(as:uk P w A s κ it lt N)(h1:1<=ok)(h2:ok<=n)(hn:n<=rest.length)(Y:∀x∈rest,x<N)(nd:rest.Nodup)(Z:eW lt (rest.take ok))
  (q:∀rest',rest'.Perm rest->eW lt (rest'.take n)->G c_ (p5 κ it (pre++rest') pd g)):Wt P w A E s (binarySort' pre.length n ok) G (p5 κ it (pre++rest) pd g):=by
 unfold binarySort';walk_at "u binarySort";rw[Nat.max_eq_left h1]
 refine .bind (Wt.mono (Wt.range (G:=λ(b)a=>b=(b_,())/\∃rest',a=p5 κ it (pre++rest') pd g/\rest'.Perm rest/\eW lt (rest'.take n))
  (λj b a=>b=(b_,())/\∃rest',a=p5 κ it (pre++rest') pd g/\rest'.Perm rest/\eW lt (rest'.take (ok+j))) ⟨rfl,rest,rfl,.refl _,Z⟩ (λj b a S z=>?_) λb a z=>by simp_all) λb a z=>by obtain⟨e1,rest',e,hp,f⟩:=z;subst e e1;exact .pure (q rest' hp f))
 refine ac λ_ V=>?_;obtain⟨e1,rest',e,hp,f⟩:=z;subst e e1;refine V ?_;generalize hk:ok+j=k at f;have B:k<rest'.length:=a4 (Nat.le_of_eq hk.symm) S (ad h2) hn (Nat.le_of_eq hp.length_eq.symm)
 have C:=af B;generalize rest'[k]=x at C;have mem:∀{i z:Nat},rest'[i]?=a_ z->z<N:=λh=>Y _ (hp.mem_iff.mp (aV h));obtain⟨t,p,M⟩:=FR o f x;have p:t<=k:=by simp at p;exact aa p (iL _ _)
 have less:∀m,m<k->∃z,rest'[m]?=a_ z/\lt x z=decide (¬m<t):=λm F=>by
  have v:=af ((cY F B));refine⟨_,v,?_⟩;have e:=M m _ (by rw[dv,if_pos F];exact v)
  have I:rest'[m]≠x:=λe=>by
   exact aS F (ae ((j9 ((cY F B)) (hp.nodup_iff.mpr nd)).mp (v.trans (by rw[e];exact C.symm))).symm)
  by_cases c:m<t
  .rw[decide_eq_true c]at e;rw[decide_eq_false (λz=>(z c))];exact o.as _ _ e
  .rw[decide_eq_false c]at e;rw[decide_eq_true c];exact o.co _ _ I e
 refine .bind (Wt.mono (Wt.range (G:=λ(b)a=>a=p5 κ it (pre++rest') pd g/\∃r,b=(b_,t,r))
  (λi b a=>a=p5 κ it (pre++rest') pd g/\∃l r,b=(b_,l,r)/\l<=t/\t<=r/\r<=k/\r - l<=k - i) ⟨rfl,0,k,rfl,aM _,p,ao _,by simp⟩ (λi b a hi z=>?_) λb a z=>by refine ac λ_ V=>?_;obtain⟨e,l,r,e1,H,J,K,Q⟩:=z;refine V ?_;grind) λb a z=>?_)
 .refine ac λ_ V=>?_;obtain⟨e,l,r,e1,H,J,K,Q⟩:=z;subst e e1;refine V ?_;refine .ite (λc=>.pure ⟨rfl,r,by rw[(aC (aa J c) H)]⟩) λc=>?_;have c:=c;obtain⟨z,L,O⟩:=less ((l+r) / 2) (jJ (a2 l r (gm (Nat.lt_of_not_le c))).2 K);refine .bind (Wt.YO as (uB.trans C) (uB.trans L) (mem C) (mem L) ?_);rw[O];by_cases d:(l+r) / 2<t
  .rw[decide_eq_false (λz=>(z d))];exact .pure ⟨rfl,(l+r) / 2+1,r,rfl,d,J,K,Nat.sub_le_of_le_add (a4 (am (Nat.le_of_lt (Nat.lt_of_not_le c))) Q (a2 l r (gm (Nat.lt_of_not_le c))).1 (ad (Nat.le_of_lt hi)) (am hi))⟩
  .rw[decide_eq_true d];exact .pure ⟨rfl,l,(l+r) / 2,rfl,H,bT d,Nx (wd (l+r)) H K (cB d),Nat.sub_le_of_le_add (a4 (a2 l r (gm (Nat.lt_of_not_le c))).2 (am (Nat.le_of_lt (Nat.lt_of_not_le c))) Q (ad (Nat.le_of_lt hi)) (am hi))⟩
 obtain⟨e,r,e1⟩:=z;subst e e1;refine .bind ?_;show Wt P w A E s (moveDown' (pre.length+k) (pre.length+t)) _ _;rw[moveDown'_eq];refine .modify (.pure ⟨rfl,rest'.take t++(x::(rest'.take k).drop t++rest'.drop (k+1)),?_,?_,?_⟩)
 .have hb:=Cu (it:=it) (pre++rest'.take t) ((rest'.take k).drop t) (rest'.drop (k+1)) x
  have e1:rest'.take t++(rest'.take k).drop t=rest'.take k:=by
   conv=>rhs;rw[<-bh t (rest'.take k)]
   rw[j7,eB p]
  have e2:rest'=rest'.take k++x::rest'.drop (k+1):=by rw[<-jV C,bh]
  have e3:pre++rest'.take t++((rest'.take k).drop t++x::rest'.drop (k+1))=pre++rest':=by
   rw[aJ,<-aJ (rest'.take t),e1,<-e2]
  have R:(pre++rest'.take t).length+((rest'.take k).drop t).length=pre.length+k:=by simp;omega
  have e5:((rest'.take k).drop t).length=pre.length+k - (pre.length+t):=by simp;omega
  rw[e3,R,e5,aJ]at hb;rw[hb]
 .refine E2 ?_ hp
  have e2:rest'=rest'.take t++((rest'.take k).drop t++x::rest'.drop (k+1)):=by
   rw[<-aJ]
   have e1:rest'.take t++(rest'.take k).drop t=rest'.take k:=by
    conv=>rhs;rw[<-bh t (rest'.take k)]
    rw[j7,eB p]
   rw[e1,<-jV C,bh]
  conv=>rhs;rw[e2]
  exact jZ _ Nq.symm
 .have e1:rest'.take t++(rest'.take k).drop t=rest'.take k:=by
   conv=>rhs;rw[<-bh t (rest'.take k)]
   rw[j7,eB p]
  have e2:(rest'.take t++(x::(rest'.take k).drop t++rest'.drop (k+1))).take (ok+(j+1))=rest'.take t++(x::(rest'.take k).drop t):=by
   rw[<-aJ,uS (by simp;exact Nx (Nat.le_of_eq hk) (a0 k rest'.length (gm B)) (ay (min k rest'.length) t) (a0 t rest'.length (jJ p B))),dP (by simp;omega)]
  rw[e2];have D:=f;rw[<-e1]at D;have lo:∀z∈rest'.take t,lt z x=c_:=λz v=>by
   obtain⟨i,hi⟩:=gC v;rw[dv]at hi;split at hi
   .rename_i c;rw[M i z (by rw[dv,if_pos (bc c p)];exact hi),decide_eq_true c]
   .cases hi
  have hi:∀z∈(rest'.take k).drop t,lt x z=c_:=λz v=>by
   obtain⟨i,hi⟩:=gC v;rw[rZ,dv]at hi;split at hi
   .rename_i c;obtain⟨T,L,O⟩:=less (t+i) c
    simp_all
   .cases hi
  refine nA (eG.mp D).1 (cH.mpr ⟨hi,(eG.mp D).2.1⟩) λz v y U=>?_
  grind
end
inductive l8 (lt:Nat->Nat->Bool):Nat->List (Nat×Nat×Nat)->List (List Nat)->Prop
 |nil {o:Nat}:l8 lt o [] []
 |cons {o pw:Nat} {R:List Nat} {ps:List (Nat×Nat×Nat)} {Rs:List (List Nat)}:0<R.length->eW lt R->l8 lt (o+R.length) ps Rs->l8 lt o ((o,R.length,pw)::ps) (R::Rs)
section
def l8.split(h:l8 lt o pd Rs):∀{i:Nat},i+1<pd.length->∃Z pw Y p2 O B C R2,pd=Z++(o+(O.flatten:List Nat).length,B.length,pw)::(o+O.flatten.length+B.length,C.length,Y)::p2/\Rs=O++B::C::R2/\Z.length=i/\
  0<B.length/\0<C.length/\eW lt B/\eW lt C/\∀M:List Nat,M.length=B.length+C.length->eW lt M->l8 lt o (Z++(o+O.flatten.length,B.length+C.length,pw)::p2) (O++M::R2):=by
 induction h with
 |nil=>intro i hi;simp at hi
 | @cons o pw R ps Rs h1 h2 h3 c=>
   intro i hi
   cases i with
   |zero=>
     cases h3 with
     |nil=>simp at hi
     | @cons _ Y C ps Rs d f g=>
       refine⟨[],pw,Y,ps,[],R,C,Rs,rfl,rfl,rfl,h1,d,h2,f,λM a b=>?_⟩;have:=l8.cons (pw:=pw) (aa (NT _ h1) (ae a.symm)) b (by rw[a,<-jG];exact g)
       simp_all
   |succ i=>
     refine ac λ_ l=>?_;obtain⟨Z,j,k,p2,O,B,C,R2,e1,e2,e3,b1,b2,b3,b4,b5⟩:=c (by simpa using hi);refine l ?_;have e:o+(R::O).flatten.length=o+R.length+O.flatten.length:=by simp;exact pG (jG _ _ _)
     refine⟨(o,R.length,pw)::Z,j,k,p2,R::O,B,C,R2,by rw[e,e1];rfl,by rw[e2];rfl,by simp[e3],b1,b2,b3,b4,λM a b=>?_⟩;rw[e];exact .cons h1 h2 (b5 M a b)
def l8.push{R:List Nat}(h:l8 lt o pd Rs)(h1:0<R.length)(h2:eW lt R):l8 lt o (pd++[(o+Rs.flatten.length,R.length,x)]) (Rs++[R]):=by
 induction h with
 |nil=>exact .cons h1 h2 .nil
 | @cons o pw a ps Rs b c e d=>
   refine .cons b c ?_;rw[show o+(a::Rs).flatten.length=o+a.length+Rs.flatten.length by simp;exact pG (jG _ _ _)];exact d
def l8.mod(hf:∀a b c,∃d,f (a,b,c)=(a,b,d))(h:l8 lt o pd Rs):∀k,l8 lt o (pd.modify k f) Rs:=by
 induction h with
 |nil=>intro k;simp;exact .nil
 | @cons o g l ps Rs i j m n=>
   intro k
   cases k with
   |zero=>
     obtain⟨d,e⟩:=hf o l.length g;rw[List.modify_zero_cons,e];exact .cons i j m
   |succ k=>exact .cons i j (n k)
def l8.len(h:l8 lt o pd Rs):pd.length<=Rs.flatten.length:=by
 induction h with
 |nil=>exact ao _
 |cons b c d a=>simp at a ⊢;exact jJ a b
end
section
variable{κ:pU}{it:Nat->jI}{lt:Nat->Nat->Bool}
def vI{Rs:List (List Nat)}{rest:List Nat}{G:Bool->bO->Prop}(o:Lt lt)(as:uk P w A s κ it lt N)(O:∀x∈l,x<N)(nd:l.Nodup)(hl:l=Rs.flatten++rest)(hp:l8 lt 0 pd Rs)(hi:i+1<pd.length)
  (q:∀l' pd' g' Rs',l'=Rs'.flatten++rest->l8 lt 0 pd' Rs'->l'.Perm l->Rs'.flatten.length=Rs.flatten.length->pd'.length+1=pd.length->G c_ (p5 κ it l' pd' g')):Wt P w A E s (mergeAt' i) G (p5 κ it l pd g):=by
 refine ac λ_ r=>?_;obtain⟨n,pw,e,p,c,B,C,R2,e1,e2,e3,b1,b2,b3,b4,b5⟩:=hp.split hi;refine r ?_;rw[jo]at e1 b5;have el:l=c.flatten++(B++C)++(R2.flatten++rest):=by rw[hl,e2];simp
 have f:∀x∈B,x∈l:=λx a=>by rw[el];simp[a]
 have h:∀x∈C,x∈l:=λx a=>by rw[el];simp[a]
 have GQ :=λx j k=>by
  rw[el]at nd;exact(cC.mp ((cC.mp (cC.mp nd).1).2.1)).2.2 x j x k rfl
 subst e3;rw[e1,el];refine DS o as b3 b4 b1 b2 (λx a=>O x (f x a)) (λx a=>O x (h x a)) GQ λM g' m d=>?_;have b:M.length=B.length+C.length:=by rw[d.length_eq];simp
 refine q _ _ g' (c++M::R2) (by simp) (b5 M b m) ?_ (by rw[e2];simp;exact aC (gm (ae b)) (gm (ae b.symm))) (by rw[e1];simp;rfl);rw[el];exact(d.append_left _).append_right _
abbrev W5(κ:pU)(it:Nat->jI)(lt:Nat->Nat->Bool)(O:List Nat)(n:Nat)(b:Option Unit×Nat)(B:bO):Prop:=∃l a g Rs,b=(b_,n)/\B=p5 κ it l a g/\l=(Rs:List (List Nat)).flatten/\l8 lt 0 a Rs/\l.Perm O
abbrev W3(κ:pU)(it:Nat->jI)(lt:Nat->Nat->Bool)(O:List Nat)(j:Nat)(b:Option Unit×Nat)(B:bO):Prop:=∃l a g Rs rest,b=(b_,(Rs.flatten:List Nat).length)/\B=p5 κ it l a g/\l=Rs.flatten++rest/\l8 lt 0 a Rs/\l.Perm O/\(rest=[]\/j<=Rs.flatten.length)
def ite_le{c:Prop}[Decidable c]:(if c then a - 1 else a)<=a:=by split<;>simp
def AO{G:Unit->bO->Prop}(o:Lt lt)(as:uk P w A s κ it lt N)(O:∀x∈l0,x<N)(Y:l0.Nodup)(q:∀l B g,l.Perm l0->eW lt l->G () (p5 κ it l B g)):Wt P w A E s sortRuns' G (p5 κ it l0 [] g0):=by
 have L:∀{l:List Nat},l.Perm l0->∀x∈l,x<N:=λh x H=>O x (h.mem_iff.mp H);have nd:∀{l:List Nat},l.Perm l0->l.Nodup:=λh=>h.nodup_iff.mpr Y;unfold sortRuns';walk_at "u sortRuns";refine .bind (.get ?_);have hsz:(arrOf (p5 κ it l0 [] g0)).size=l0.length:=cG;rw[hsz];generalize M:l0.length=n
 refine .bind (Wt.mono (Wt.range (G:=W5 κ it lt l0 n) (W3 κ it lt l0) ⟨l0,[],g0,[],l0,rfl,rfl,rfl,.nil,.refl _,.inr (ao _)⟩
  (λj b f W z=>?_) λb f z=>?_) λb f z=>?_)
 rotate_left
 .refine ac fun Pq kq => ?_; obtain⟨l,B,g,Rs,rest,e1,e2,hl,hp,e,v⟩:=z;have h1:=e.length_eq
  have Q:rest=[]:=by
   rcases v with h|h
   .exact h
   .rw[hl,ag]at h1;exact jP.mp (Nat.le_antisymm (pY (Nat.le_of_eq h1) (Nat.le_of_eq M) h) (lw0))
  subst Q;refine kq ?_; rw[aH]at hl;refine⟨l,B,g,Rs,?_,e2,hl,hp,e⟩
  simp_all
 .refine ac fun Pq kq => ?_; obtain⟨l,B,g,Rs,e1,e2,hl,hp,e⟩:=z;subst e1 e2
  refine kq ?_; refine .bind (Wt.mono (Wt.range (G:=λ(b)f=>∃l B g Rs,b=(b_,())/\f=p5 κ it l B g/\l=(Rs).flatten/\l8 lt 0 B Rs/\l.Perm l0/\B.length<=1)
   (λj b f=>∃l B g Rs,b=(b_,())/\f=p5 κ it l B g/\l=(Rs).flatten/\l8 lt 0 B Rs/\l.Perm l0/\(B.length<=1\/B.length+j<=n)) ⟨l,B,g,Rs,rfl,rfl,hl,hp,e,.inr (by have:=hp.len;rw[<-hl,e.length_eq]at this;simp_all)⟩
   (λj b f W z=>?_) λb f z=>by refine ac fun Pq kq => ?_; obtain⟨l,B,g,Rs,e1,e2,hl,hp,e,v⟩:=z;refine kq ?_; exact⟨l,B,g,Rs,e1,e2,hl,hp,e,by omega⟩) λb f z=>?_)
  .refine ac fun Pq kq => ?_; obtain⟨l,B,g,Rs,e1,e2,hl,hp,e,v⟩:=z;subst e1 e2;refine kq ?_; refine .bind (.get ?_);refine .ite (λc=>.pure ⟨l,B,g,Rs,rfl,rfl,hl,hp,e,by exact c⟩) λc=>?_;have c:¬B.length<=1:=by exact c
   refine .bind (vI o as (L e) (nd e) (by rw[aH];exact hl) hp (aq (bb (ite_le (a:=B.length - 2))) (gm (ws (cB c)))) λl' pd' g' Rs' X R S Z k5=>?_)
   .refine .Gr (by simp) (.pure ⟨l',pd',g',Rs',rfl,rfl,by simp_all,R,S.trans e,.inr (by omega)⟩)
  .obtain⟨l,B,g,Rs,e1,e2,hl,hp,e,v⟩:=z;subst e1 e2;refine .pure (q l B g e ?_);rw[hl]
   match B,Rs,hp,v with
   |_,_,.nil,_=>exact .nil
   |_,_,.cons h1 h2 .nil,_=>simpa using h2
   |_,_,.cons h1 h2 (.cons _ _ _),v=>simp at v
 obtain⟨l,B,g,Rs,rest,e1,e2,hl,hp,e,v⟩:=z;subst e1 e2;have hlen:=e.length_eq;have k:Rs.flatten.length+rest.length=n:=by simp_all
 refine .ite (λc=>?_) λc=>?_
 .have Q :=jP.mp (aC (Ai (aa (ae k) c)) (aM _));subst Q;rw[aH]at hl;refine .pure ⟨l,B,g,Rs,?_,rfl,hl,hp,e⟩;rw[<-hl,hlen,M]
 have I :=λx H=>L e x (by rw[hl];exact ai _ H);have J :=(cC.mp (hl▸nd e)).2.1;refine .bind ?_;rw[show n - Rs.flatten.length=rest.length from(aC (jJ (ws (aD (cB c))) (ae k.symm)) (jJ (ae k) (wt (aD (cB c))))),hl];refine Cg o as (jJ (cB c) (ae k.symm)) I J λm d m1 m2 y K=>?_;have C:=y.length_eq;dsimp -zeta -zetaHave only
 extract_lets +onlyGivenNames n1 jp
 suffices h:∀m d g,1<=m->m<=rest.length->(d).Perm rest->eW lt (d.take m)->Wt P w A E s (jp () m) (ZQ (W5 κ it lt l0 n) (W3 κ it lt l0 (j+1))) (p5 κ it (Rs.flatten++d) B g) by
  refine .ite (λc1=>?_) λ_=>h m d g m1 m2 y K;refine .bind (.rule (.bind (xr o as m1 ?_ (aa (iL _ _) (ae C.symm)) (λx H=>I x (y.mem_iff.mp H)) (y.nodup_iff.mpr J) K λF p2 r2=>?_)))
  .omega
  .exact .Gr (by simp) (h _ F g (by omega) (iL _ _) (p2.trans y) r2)
 intro m d g m1 m2 y K;have C:=y.length_eq;refine .bind (.get ?_)
 extract_lets +onlyGivenNames lo T
 subst lo
 have h:∀l B g(Rs':List (List Nat)),l=Rs'.flatten++d->l8 lt 0 B Rs'->l.Perm l0->Rs'.flatten.length=Rs.flatten.length->Wt P w A E s (T ()) (ZQ (W5 κ it lt l0 n) (W3 κ it lt l0 (j+1))) (p5 κ it l B g):=by
  intro l B g Rs' p r i t;refine .bind (.modify (.pure ⟨l,B++[(Rs.flatten.length,m,0)],g,Rs'++[d.take m],d.drop m,?_,?_,?_,?_,i,?_⟩))
  .simp_all
  .rw[List.push_toArray]
  .rw[p];simp
  .have:=r.push (x:=0) (by simp;exact jJ m1 (a0 m d.length (jJ m2 (Nat.le_of_eq C.symm)))) K
   grind
  .refine .inr ?_
   grind
 have D :=(y.append_left _).trans (hl▸e)
 cases hb:B.toArray.back? with
 |none=>exact h _ _ _ Rs rfl hp D rfl
 |some z=>
   obtain⟨s1,n1,z3⟩:=z
   refine .bind (Wt.mono (Wt.range
    (λj b f=>∃l B g Rs',b=(b_,())/\f=p5 κ it l B g/\l=(Rs').flatten++d/\l8 lt 0 B Rs'/\l.Perm l0/\Rs'.flatten.length=Rs.flatten.length) ⟨_,B,g,Rs,rfl,rfl,rfl,hp,D,rfl⟩
    (λj b f W z=>?_) λb f h=>h) λb f z=>?_)
   .refine ac fun Pq kq => ?_; obtain⟨l,B,g,Rs',e1,e2,p,r,i,t⟩:=z;subst e1 e2;refine kq ?_; refine .bind (.get ?_);dsimp only;rw[bD];by_cases c2:B.length > 1
    .rw[if_pos c2]
     have hz:B.toArray[B.length - 2]?=a_ B[B.length - 2]:=by
      simp
     rw[hz];generalize B[B.length - 2]=z;obtain⟨za,zb,zc⟩:=z;refine .ite (λ_=>.pure ⟨l,B,g,Rs',rfl,rfl,p,r,i,t⟩) λ_=>?_;refine .bind (vI o as (L i) (nd i) p r (gm (ws c2)) λl2 U g2 V X R S Z k5=>?_);exact .Gr (by simp) (.pure ⟨l2,U,g2,V,rfl,rfl,X,R,S.trans i,Z.trans t⟩)
    .rw[if_neg c2];exact .pure ⟨l,B,g,Rs',rfl,rfl,p,r,i,t⟩
   .refine ac fun Pq kq => ?_; obtain⟨l,B,g,Rs',e1,e2,p,r,i,t⟩:=z;subst e1 e2;refine kq ?_; refine .bind (.modify ?_);rw[List.modify_toArray];exact h l _ g Rs' p (r.mod (λa b c=>⟨_,rfl⟩) _) i t
end
section
variable{lt:Nat->Nat->Bool}{n:Nat}
structure Q4(lt:Nat->Nat->Bool)(n:Nat):Prop where
 tr:∀i j k,i<n->j<n->k<n->lt i j=c_->lt j k=c_->lt i k=c_
 co:∀i j,i<n->j<n->i≠j->lt i j=d_->lt j i=c_
 as:∀i j,i<n->j<n->lt i j=c_->lt j i=d_
abbrev pg(p:Array Nat)(k:Nat):Nat:=p.getD k 0
structure Pm(p:Array Nat)(n:Nat):Prop where
 sz:p.size=n
 lt:∀k,k<n->pg p k<n
 inj:∀i j,i<n->j<n->pg p i=pg p j->i=j
 pm:p.toList.Perm (aO n)
def K3{p:Array Nat}(h:k<p.size):p[k]?=a_ (pg p k):=by
 simp_all
def Yq(h:p[k]?=a_ x):pg p k=x:=by
 simp_all
def Pm.of{p:Array Nat}(h:p.toList.Perm (aO n)):Pm p n:=by
 have sz:p.size=n:=by rw[<-bf,h.length_eq,bo]
 refine⟨sz,λk hk=>?_,λi j hi c e=>?_,h⟩
 .have:pg p k∈p.toList:=by
   simp_all
  exact bq.mp (h.mem_iff.mp this)
 .have a:=K3 (aa hi (ae sz.symm));have b:=K3 (aa c (ae sz.symm));rw[<-iN]at a b;rw[e]at a;exact(j9 (by simp_all) (h.nodup_iff.mpr fO)).mp (a.trans b.symm)
def Up(lt:Nat->Nat->Bool)(p:Array Nat)(m:Nat):Prop:=∀i j,i<j->j<m->lt (pg p i) (pg p j)=c_
def VD(lt:Nat->Nat->Bool)(n i j:Nat):Bool:=if i<n then(if j<n then lt i j else c_)else if j<n then d_ else decide (i<j)
def LH(hi:i<n)(B:j<n):VD lt n i j=lt i j:=by unfold VD;simp_all
def VC(o:Q4 lt n):Lt (VD lt n):=by
 refine⟨λi j k a b=>?_,λi j ne a=>?_,λi j a=>?_⟩
 .unfold VD at a b ⊢;by_cases hi:i<n<;>by_cases c:j<n<;>by_cases hk:k<n<;>simp only[hi,c,hk,if_true,if_false,bS,decide_eq_true_eq]at a b ⊢
  .exact o.tr i j k hi c hk a b
  .exact cY a b
 .unfold VD at a ⊢;by_cases hi:i<n<;>by_cases c:j<n<;>simp only[hi,c,if_true,if_false,Bool.true_eq_false,decide_eq_false_iff_not,decide_eq_true_eq]at a ⊢
  .exact o.co i j hi c ne a
  .omega
 .unfold VD at a ⊢;by_cases hi:i<n<;>by_cases c:j<n<;>simp only[hi,c,if_true,if_false,bS,decide_eq_false_iff_not,decide_eq_true_eq]at a ⊢
  .exact o.as i j hi c a
  .exact λz=>(aS z (aD a))
end
section
def Ke{vs:List ah}(o:Q4 lt vs.length)(hc:∀i j,i<vs.length->j<vs.length->∀C:Bool->ak->Prop,C (lt i j) s->aF (aG P w) A (keyLt' κ (vs.getD i .none) (vs.getD j .none)) C (λ_ _=>False) s) :
  aF (aG P w) A ((sortRuns').run (l9 κ (vs.toArray.zip vs.toArray) #[] 7 b_)) (λr s'=>s'=s/\∃p:Array Nat,Pm p vs.length/\Up lt p vs.length/\arrOf r.2=p.map (NM (vs.toArray.zip vs.toArray))/\failedOf r.2=b_) E s:=by
 have as:uk P w A s κ (NM (vs.toArray.zip vs.toArray)) (VD lt vs.length) vs.length:=λi j hi b C f=>by
  rw[LH hi b]at f;have e:=kas_item_eq vs;unfold pairsOf at e;rw[e i,e j];exact hc i j hi b C f
 have d:l9 κ (vs.toArray.zip vs.toArray) #[] 7 b_=p5 κ (NM (vs.toArray.zip vs.toArray)) (aO vs.length) [] 7:=by
  have e:=kas_range (vs.toArray.zip vs.toArray)
  grind
 rw[d]
 have run:=AO (E:=E) (g0:=7) (G:=λ_ c=>∃p:Array Nat,Pm p vs.length/\Up lt p vs.length/\arrOf c=p.map (NM (vs.toArray.zip vs.toArray))/\failedOf c=b_)
  (VC o) as (λx h=>bq.mp h) fO λl m g hp k=>by
   have pm:Pm l.toArray vs.length:=.of hp;refine⟨l.toArray,pm,λi j a b=>?_,by rw[List.map_toArray],rfl⟩;have hl:l.length=vs.length:=by simpa using hp.length_eq
   have e1:pg l.toArray i=l[i]:=by simp[pg,show i<l.length by omega]
   have e2:pg l.toArray j=l[j]:=by simp_all
   rw[e1,e2,<-LH (lt:=lt) (e1▸pm.lt i (cY a b)) (e2▸pm.lt j (by omega))];exact (eZ.mp k i j (aa (cY a b) (ae hl.symm)) (aa b (ae hl.symm)) a)
 exact dE run (λr s' z=>⟨z.2,z.1⟩) λ_ _ e=>e
end
noncomputable def rn{α:Type}[DecidableEq α](f:α->α->Bool):List α->List α->Bool
 |[],[]=>d_
 |[],_::_=>c_
 |_::_,[]=>d_
 |x::xs,y::ys=>if x=y then rn f xs ys else f x y
structure LO{α:Type}(f:α->α->Bool):Prop where
 tr:∀a b c,f a b=c_->f b c=c_->f a c=c_
 co:∀a b,a≠b->f a b=d_->f b a=c_
 ir:∀a,f a a=d_
def LO.as (h:LO f)(x:f a b=c_):f b a=d_:=by
 cases q:f b a with
 |false=>rfl
 |true=>have:=h.tr _ _ _ x q;rw[h.ir]at this;cases this
def LO.int:LO (λi j:Int=>decide (i<j)):=
 ⟨λa b c x y=>by simp only[decide_eq_true_eq]at *;exact ue (eE x y),λa b n x=>by grind,λa=>by simp⟩
section
variable{α:Type}[DecidableEq α]{f:α->α->Bool}
def lV{x y:α}{xs ys:List α}:rn f (x::xs) (y::ys)=if x=y then rn f xs ys else f x y:=rfl
def LO.lex(h:LO f):LO (rn f):=by
 refine⟨λa=>?_,λa=>?_,λa=>?_⟩
 .induction a with
  |nil=>
    intro b c x y
    cases b with
    |nil=>cases x
    | cons _ _=>cases c with
      |nil=>cases y
      |cons _ _=>rfl
  |cons p a d=>
    intro b c x y
    cases b with
    |nil=>cases x
    |cons q b=>
      cases c with
      |nil=>cases y
      |cons r c=>
        rw[lV]at x y ⊢;by_cases e1:p=q
        .subst e1
         grind
        .rw[if_neg e1]at x;by_cases e2:q=r
         .simp_all
         .rw[if_neg e2]at y;have z:=h.tr _ _ _ x y;rw[if_neg λe=>by rw[<-e]at z;rw[h.ir]at z;cases z];exact z
 .induction a with
  |nil=>
    intro b n x
    cases b with
    |nil=>exact absurd rfl n
    |cons _ _=>cases x
  |cons p a d=>
    intro b n x
    cases b with
    |nil=>rfl
    |cons q b=>
      rw[lV]at x ⊢;by_cases e:p=q
      .grind
      .rw[if_neg e]at x;rw[if_neg λz=>e z.symm];exact h.co _ _ e x
 .induction a with
  |nil=>rfl
  |cons p a d=>rw[lV,if_pos rfl];exact d
end
abbrev LI:List Int->List Int->Bool:=rn λi j=>decide (i<j)
abbrev YN:List (List Int)->List (List Int)->Bool:=rn LI
abbrev xg:List (List (List Int))->List (List (List Int))->Bool:=rn YN
def Qc:LO LI:=LO.int.lex
def og:LO xg:=LO.int.lex.lex.lex
def Qd:LI [i] [j]=decide (i<j):=by
 show(if i=j then d_ else decide (i<j))=decide (i<j);by_cases e:i=j
 .rw[e];simp
 .rw[if_neg e]
theorem zB:∀l l':List Nat,LI (l.map fu) (l'.map fu)=decide (l<l')
 |[],[]=>by simp[LI,rn]
 |[],_::_=>by simp[LI,rn]
 |_::_,[]=>by simp[LI,rn]
 |a::l,b::l'=>by
   have c:=zB l l';show(if fu a=fu b then LI (l.map fu) (l'.map fu)else decide (fu a<fu b))=_;by_cases e:a=b
   .simp_all
   .rw[if_neg λz=>e (Ju z)];refine decide_eq_decide.mpr ?_;rw[List.cons_lt_cons_iff]
    simp_all
noncomputable def cK:Key->List Int
 |.inl i=>[i]
 |.inr x=>x.cps.toList.map fu
noncomputable def iK:Key->Int
 |.inl i=>i
 |.inr _=>0
noncomputable def sK:Key->Bool
 |.inl _=>c_
 |.inr _=>d_
def c2:N2->List Int
 |.inl k=>cK k
 |.inr ks=>ks.map iK
def s2:N2->Nat
 |.inl (.inl _)=>0
 |.inl (.inr _)=>1
 |.inr ks=>if ks.all sK=c_ then 2 else 3
def sI:N2->Bool
 |.inl k=>sK k
 |.inr _=>d_
def Xk:N2->Int
 |.inl k=>iK k
 |.inr _=>0
def cN:NK->List (List Int)
 |.inl k=>[cK k]
 |.inr ks=>if ks.all sI=c_ then [ks.map Xk]else ks.map c2
def sN:NK->List Nat
 |.inl (.inl _)=>[0]
 |.inl (.inr _)=>[1]
 |.inr ks=>if ks.all sI=c_ then [2]else 3::ks.map s2
noncomputable def Bl:List Nat->Bool
 |3::l=>l.all λn=>decide (n<3)
 |_=>c_
theorem Ma:∀{x y:List Key},x.all sK=c_->y.all sK=c_->x.map iK=y.map iK->x=y
 |[],[],_,_,_=>rfl
 |[],_::_,_,_,h=>by cases h
 |_::_,[],_,_,h=>by cases h
 |.inl i::x,.inl j::y,a,b,h=>by
   simp only[aA,fT,iK]at h;simp only[eh,aj]at a b;rw[h.1,Ma a.2 b.2 h.2]
 |.inr _::_,_::_,a,_,_=>by simp[sK]at a
 |_::_,.inr _::_,_,b,_=>by simp[sK]at b
def MZ(hs:sK x=sK y)(h:cK x=cK y):x=y:=by
 cases x with
 |inl i=>
   cases y with
   |inl j=>simp only[cK,fT,and_true]at h;rw[h]
   |inr b=>cases hs
 |inr a=>
   cases y with
   |inl j=>cases hs
   |inr b=>
     have:=(Jr (λ_ _ z=>Ju z)).mp h;cases a;simp_all
def M2(hs:s2 x=s2 y)(h3:s2 x<3)(h:c2 x=c2 y):x=y:=by
 cases x with
 |inl a=>
   cases y with
   |inl b=>rw[MZ (by cases a<;>cases b<;>first|rfl|cases hs) h]
   |inr ks=>cases a<;>(simp only[s2]at hs;grind)
 |inr ks=>
   cases y with
   |inl b=>cases b<;>(simp only[s2]at hs;grind)
   |inr c=>
     simp only[s2]at hs h3;by_cases c1:ks.all sK=c_
     .by_cases c2:c.all sK=c_
      .rw[Ma c1 c2 h]
      grind
     simp_all
theorem Mb:∀{x y:List N2},x.all sI=c_->y.all sI=c_->x.map Xk=y.map Xk->x=y
 |[],[],_,_,_=>rfl
 |[],_::_,_,_,h=>by cases h
 |_::_,[],_,_,h=>by cases h
 |.inl (.inl i)::x,.inl (.inl j)::y,a,b,h=>by
   simp only[aA,fT,Xk,iK]at h;simp only[eh,aj]at a b;rw[h.1,Mb a.2 b.2 h.2]
 |.inl (.inr _)::_,_::_,a,_,_=>by simp[sI,sK]at a
 |.inr _::_,_::_,a,_,_=>by simp[sI]at a
 |_::_,.inl (.inr _)::_,_,b,_=>by simp[sI,sK]at b
 |_::_,.inr _::_,_,b,_=>by simp[sI]at b
theorem G6:∀{x y:List N2},x.map s2=y.map s2->(∀n∈x.map s2,n<3)->x.map c2=y.map c2->x=y
 |[],[],_,_,_=>rfl
 |[],_::_,h,_,_=>by cases h
 |_::_,[],h,_,_=>by cases h
 |a::x,b::y,h,h3,e=>by
   simp only[aA,fT]at h e;rw[M2 h.1 (h3 _ (by simp)) e.1,G6 h.2 (λn c=>h3 n (by exact ki _ c)) e.2]
def Lh(h:Bl (3::l)=c_):∀n∈l,n<3:=λn a=>by
 have:=bF.mp (h) n a;simpa using this
def vh(hs:sN x=sN y)(h3:Bl (sN x)=c_):(∃a b,x=.inl a/\y=.inl b/\sK a=sK b)\/(∃a b,x=.inr a/\y=.inr b/\a.all sI=c_/\b.all sI=c_)\/
  ∃a b,x=.inr a/\y=.inr b/\¬a.all sI=c_/\¬b.all sI=c_/\a.map s2=b.map s2/\∀n∈a.map s2,n<3:=by
 cases x with
 |inl a=>
   cases y with
   |inl b=>exact .inl ⟨a,b,rfl,rfl,by cases a<;>cases b<;>first|rfl|(simp[sN]at hs)⟩
   |inr ks=>exfalso;cases a<;>(simp only[sN]at hs;split at hs<;>simp at hs)
 |inr a=>
   cases y with
   |inl b=>exfalso;cases b<;>(simp only[sN]at hs;split at hs<;>simp at hs)
   |inr b=>
     simp only[sN]at hs h3;by_cases d:a.all sI=c_
     .by_cases c:b.all sI=c_
      .exact .inr (.inl ⟨a,b,rfl,rfl,d,c⟩)
      simp_all
     .rw[if_neg d]at hs h3;by_cases c:b.all sI=c_
      .simp_all
      .rw[if_neg c]at hs;exact .inr (.inr ⟨a,b,rfl,rfl,d,c,(eL hs).2,Lh h3⟩)
def MX(hs:sN x=sN y)(h3:Bl (sN x)=c_)(h:cN x=cN y):x=y:=by
 rcases vh hs h3 with⟨a,b,rfl,rfl,q⟩|⟨a,b,rfl,rfl,c,d⟩|⟨a,b,rfl,rfl,c,d,e,f⟩
 .rw[MZ q (eL h).1]
 .simp only[cN]at h;rw[if_pos c,if_pos d]at h;rw[Mb c d (eL h).1]
 .simp only[cN]at h;rw[if_neg c,if_neg d]at h;rw[G6 e f h]
section
variable{A:bX}{z0:ak}
def LF{I:Ik P w}{α:Type}[DecidableEq α]{f:α->α->Bool}{c:I.κ->α}{R:I.κ->I.κ->Prop}{x y:List I.κ}{p b:aI}{G:Fin->ak->Prop}(Y:A.units+I.d<=dc)(ex:sg I z0.heap x p)(O:sg I z0.heap y b)
  (Z:∀q∈x.zip y,R q.1 q.2)(ci:∀a b,R a b->c a=c b->a=b)
  (lt:∀(E:ah->ak->Prop)(a b:I.κ)(u v:ah)(Q:ah->ak->Prop),R a b->I.is z0.heap a u->I.is z0.heap b v->Q (.bool (f (c a) (c b))) z0->aF (aG P w) A (compareOp .Lt u v) Q E z0)
  (h:G (.done (.ret (.bool (rn f (x.map c) (y.map c))))) z0):aF (aG P w) A (fV.«tuple.__lt__» ⟨[.ref p,.ref b],[]⟩) G E z0:=by
 have s:=O.typeIs;refine ac λ_ W=>?_;obtain⟨S,xs,na,t,_,z,B⟩:=ex;obtain⟨T,ys,nb,C,_,D,F⟩:=O;refine W ?_;show aF _ _ (isInstance (.ref b) (.type "tuple") >>= _) _ _ z0;refine wb9 (dU s qJ ?_);refine wb9 (km t z ?_);refine wb9 (km C D ?_);refine wb9 ?_
 refine iA _
  (λtl r o=>r.1=b_/\o=z0/\∃x' j g i,tl=List.zip g i/\se I z0.heap x' g/\se I z0.heap j i/\(∀q∈x'.zip j,R q.1 q.2)/\
   rn f (x'.map c) (j.map c)=rn f (x.map c) (y.map c)/\decide (g.length<i.length)=decide (xs.size<ys.size))
  _ ?_ ?_ _ _ ⟨rfl,rfl,x,y,xs.toList,ys.toList,rfl,B,F,Z,rfl,by simp⟩
 .rintro⟨u,v⟩ tl r o ⟨ge,rfl,x',j,g,i,gz,hx',hy',hr,gdec,glen⟩
  cases hx' with
  |nil=>simp at gz
  | @cons L U H k h1 l=>
    cases hy' with
    |nil=>simp at gz
    | @cons M V J m h2 n=>
      simp only[wQ,fT,Jp]at gz;obtain⟨⟨rfl,rfl⟩,rfl⟩:=gz;rw[aA,aA,lV]at gdec;refine wb9 (I.eqb Y h1 h2 (λK=>?_) λK=>?_)
      .refine wu9 ⟨rfl,rfl,H,J,k,m,rfl,l,n,λq N=>hr q (ki _ N),?_,by simpa using glen⟩
       simp_all
      .rw[if_neg λe=>K (ci _ _ (hr _ jy) e)]at gdec;rw[<-gdec]at h;exact wb9 (gh (wb9 (lt _ L M _ _ _ (hr _ jy) h1 h2 (wb9 (wu9 (wu9 (wu9 h)))))))
 .rintro⟨r1,r2⟩ o ⟨ge,rfl,x',j,g,i,gz,hx',hy',hr,gdec,glen⟩;subst ge;refine wu9 ?_;show G (.done (.ret (.bool (decide (xs.size<ys.size))))) o;rw[<-gdec,]at h;rw[<-glen]
  cases hx' with
  |nil=>
    cases hy' with
    |nil=>exact h
    |cons _ _=>exact h
  |cons _ _=>
    cases hy' with
    |nil=>exact h
    |cons _ _=>simp at gz
def zA{I:Ik P w}{α:Type}[DecidableEq α]{f:α->α->Bool}{c:I.κ->α}{R:I.κ->I.κ->Prop}{x y:List I.κ}{p b:aI}{Q:ah->ak->Prop}(i_:A.units+(I.d+1)<=dc)(ex:sg I z0.heap x p)(B:sg I z0.heap y b)
  (Y:∀q∈x.zip y,R q.1 q.2)(Z:∀a b,R a b->c a=c b->a=b)
  (lt:∀(O:bX)(E:ah->ak->Prop)(a b:I.κ)(u v:ah)(Q:ah->ak->Prop),O.units=A.units+1->R a b->I.is z0.heap a u->I.is z0.heap b v->Q (.bool (f (c a) (c b))) z0->aF (aG P w) O (compareOp .Lt u v) Q E z0)
  (h:Q (.bool (rn f (x.map c) (y.map c))) z0):aF (aG P w) A (compareOp .Lt (.ref p) (.ref b)) Q E z0:=by
 show aF _ _ (richCompare .Lt (.ref p) (.ref b)) _ _ _
 exact CI ex.typeIs B.typeIs Ae
  (bN Ae ex.typeIs PySem.F.entry_tuple_lt (LF (by exact gm i_) ex B Y Z (λE a b u v Q=>lt _ E a b u v Q rfl) ⟨_,rfl,(λe=>nomatch e),h⟩) (PySem.F.args_tuple_lt_2 _ _)) (Nat.lt_of_le_of_lt (Nat.le_add_right _ _) i_)
def uD(h:(cz P w).is k v=c_)(hs:sK k=c_):∃t,v=.int (iK k) t:=by
 cases k with
 |inl i=>
   rcases c6 (k:=.inl i) h with⟨a,t,e,rfl⟩|⟨x,t,e,_⟩
   .cases e;exact⟨t,rfl⟩
   .cases e
 |inr x=>cases hs
def LD(hs:sK a=sK b)(ex:(cz P w).is a u=c_)(B:(cz P w).is b v=c_)(h:Q (.bool (LI (cK a) (cK b))) z0):aF (aG P w) A (compareOp .Lt u v) Q E z0:=by
 cases a with
 |inl i=>
   cases b with
   |inr _=>cases hs
   |inl j=>
     obtain⟨d,rfl⟩:=uD ex rfl;obtain⟨f,rfl⟩:=uD B rfl;refine ox ?_;rw[show cK (.inl i)=[i]from rfl,show cK (.inl j)=[j]from rfl,Qd]at h;exact h
 |inr a=>
   cases b with
   |inl _=>cases hs
   |inr c=>
     rcases c6 (k:=.inr a) ex with⟨g,t,e,_⟩|⟨x1,d,e1,rfl⟩
     .cases e
     .rcases c6 (k:=.inr c) B with⟨g,t,e,_⟩|⟨l,f,e2,rfl⟩
      .cases e
      .cases e1;cases e2;refine PyProof.Rows.lt_str ?_;rw[show cK (.inr a)=a.cps.toList.map fu from rfl,show cK (.inr c)=c.cps.toList.map fu from rfl,(zB a.cps.toList c.cps.toList)]at h;exact h
def Gh(ha:sK a=c_)(hb:sK b=c_)(ex:(cz P w).is a u=c_)(B:(cz P w).is b v=c_)(h:Q (.bool (decide (iK a<iK b))) z0):aF (aG P w) A (compareOp .Lt u v) Q E z0:=by
 obtain⟨c,rfl⟩:=uD ex ha;obtain⟨d,rfl⟩:=uD B hb;exact ox h
def Hb{α:Type}{p:α->Bool}{x y:List α}(B:x.all p=c_)(O:y.all p=c_):∀q∈x.zip y,p q.1=c_/\p q.2=c_:=λq a=>
 ⟨bF.mp B _ (iJ a).1,bF.mp O _ (iJ a).2⟩
def LG{x y:N2}{u v:ah}{Q:ah->ak->Prop}(O:A.units+1<=dc)(ex:(i2 P w).is z0.heap x u)(B:(i2 P w).is z0.heap y v)(hs:s2 x=s2 y)(h3:s2 x<3)(h:Q (.bool (LI (c2 x) (c2 y))) z0) :
  aF (aG P w) A (compareOp .Lt u v) Q E z0:=by
 cases x with
 |inl a=>
   cases y with
   |inl b=>exact LD (by cases a<;>cases b<;>first|rfl|cases hs) ex B h
   |inr ks=>cases a<;>(simp only[s2]at hs;split at hs<;>cases hs)
 |inr ks=>
   cases y with
   |inl b=>cases b<;>(simp only[s2]at hs;split at hs<;>cases hs)
   |inr d=>
     obtain⟨p,rfl,q⟩:=ex;obtain⟨b,rfl,f⟩:=B;simp only[s2]at hs h3;by_cases c1:ks.all sK=c_
     .by_cases c2:d.all sK=c_
      .exact zA (R:=λa b=>sK a=c_/\sK b=c_) O q f (Hb c1 c2) (λa b c e=>by
         match a,b,c,e with
         |.inl i,.inl j,_,e=>exact congrArg _ e) (λk l a b u v Q _ c e1 e2 g=>Gh c.1 c.2 e1 e2 g) h
      simp_all
     simp_all
def zC:YN [a] [b]=LI a b:=by
 rw[YN,lV];by_cases e:a=b
 .rw[if_pos e,e,Qc.ir];rfl
 .rw[if_neg e]
theorem Gg{α β:Type}{f:α->β}:∀{x y:List α},x.map f=y.map f->∀q∈x.zip y,f q.1=f q.2
 |[],_,_,_,h=>by simp at h
 |_::_,[],_,_,h=>by simp at h
 |a::x,b::y,h,q,c=>by
   rcases au.mp c with rfl|c
   .exact (eL h).1
   .exact Gg (eL h).2 q c
def Qb(O:A.units+2<=dc)(ex:nIs P w z0.heap x u)(B:nIs P w z0.heap y v)(hs:sN x=sN y)(h3:Bl (sN x)=c_)(h:Q (.bool (YN (cN x) (cN y))) z0) :
  aF (aG P w) A (compareOp .Lt u v) Q E z0:=by
 rcases vh hs h3 with⟨a,b,rfl,rfl,q⟩|⟨a,b,rfl,rfl,f,g⟩|⟨a,b,rfl,rfl,f,g,l,m⟩
 .simp only[cN]at h;rw[zC]at h;exact LD q ex B h
 .simp only[cN]at h;rw[if_pos f,if_pos g,zC]at h;obtain⟨p,rfl,r⟩:=ex;obtain⟨b,rfl,k⟩:=B;refine zA (R:=λa b=>sI a=c_/\sI b=c_) O r k (Hb f g) (λa b c e=>?_) (λn o a b u v Q _ c e1 e2 d=>?_) h
  .match a,b,c,e with
   |.inl (.inl i),.inl (.inl j),_,e=>exact congrArg _ (congrArg _ e)
  .match a,b,c,e1,e2,d with
   |.inl a,.inl b,c,e1,e2,d=>exact Gh c.1 c.2 e1 e2 d
 .simp only[cN]at h;rw[if_neg f,if_neg g]at h;obtain⟨p,rfl,r⟩:=ex;obtain⟨b,rfl,k⟩:=B;refine zA (R:=λa b=>s2 a=s2 b/\s2 a<3) O r k (λq d=>⟨Gg l q d,m _ (cP (iJ d).1)⟩) (λa b c e=>M2 c.1 c.2 e) (λn o a b u v Q s c e1 e2 d=>?_) h;exact LG (by rw[s];omega) e1 e2 c.1 c.2 d
end
end L2
namespace L2
open PySem PySem.Spec PyProof.Rows
def Cb:entryFor table "set.__iter__"=a_ fV.«frozenset.__iter__» :=CZ (id':="frozenset.__iter__") (by kernel_rfl) rfl (by decide +kernel) (by kernel_rfl)
def p9:entryFor table "set_iterator.__next__"=a_ fV.«set_iterator.__next__» :=entryFor_of_tree (by kernel_rfl)
def fK:NN "set_iterator" "__next__" "set_iterator.__next__":=.of (owner:="set_iterator") (n:="__next__") (by kernel_rfl) (by decide +kernel) (by decide +kernel) (by decide +kernel) (.inl (by decide +kernel)) (by kernel_rfl)
def qc(a:ah):argsOk "set_iterator.__next__" ⟨[a],[]⟩:=by
 kernel_rfl
theorem qw{α:Type}:∀{xs:List α}{i:Nat}(h:i<xs.length),(xs[i]::xs.eraseIdx i).Perm xs
 |x::r,0,_=>by simp
 |x::r,i+1,h=>by
   exact(List.Perm.swap _ _ _).trans ((qw (by simpa using h)).cons x)
theorem FL{α:Type}(nx:Nat->Nat):∀(fuel k:Nat)(left:List α)(out:Array α),left.length<=fuel->(wL nx fuel k left out).toList.Perm (out.toList++left)
 |0,k,left,out,h=>by
   obtain rfl:left=[]:=jP.mp (aC h (aM _));simp only[wL,aH];exact .refl _
 |fuel+1,k,left,out,h=>by
   simp only[wL]
   cases q:left[nx k % left.length]? with
   |none=>
     have:left=[]:=by
      cases left with
      |nil=>rfl
      |cons x r=>
        rw[af (jM _ (by simp))]at q;cases q
     subst this;simp
   |some x=>
     obtain⟨a,e⟩:=aR.mp q;refine (FL nx fuel (k+1) (left.eraseIdx (nx k % left.length)) (out.push x) (by grind)).trans ?_;rw[Jv,aJ];refine jZ _ ?_;rw[<-e];exact qw a
def sH{α:Type}(nx:Nat->Nat)(xs:Array α):(pickOrder nx xs).toList.Perm xs.toList:=by
 simpa [pickOrder]using (FL nx xs.size 0 xs.toList #[] (by simp))
section
def Ja(B:n≠0)(k:∀i d,i<n->Q i { s with drawn:=d }):aF (aG prog w) A (choose src n) Q E s:=λΓ p _=>by
 exact⟨B,k _ _ (jM _ (cg B))⟩
theorem GP{α:Type}:∀(n:Nat)(xs:List α)(s:ak){Q:List α->ak->Prop},xs.length<=n->(∀ys d,ys.Perm xs->Q ys { s with drawn:=d })->aF (aG prog w) A (drawOrder n xs) Q E s
 |0,xs,s,Q,h,k=>by
   obtain rfl:xs=[]:=jP.mp (aC h (aM _));exact wu9 (k [] s.drawn (.refl _))
 |n+1,[],s,Q,h,k=>wu9 (k [] s.drawn (.refl _))
 |n+1,x::r,s,Q,h,k=>by
   refine wb9 (Ja (by simp) λi d a=>?_);rw[af a];exact wb9 (GP n ((x::r).eraseIdx i) _ (by grind) λys d pm=>wu9 (k _ d ((pm.cons _).trans (qw a))))
end
inductive Mode where
 |tx|dr (T:aI) (ps:List Nat)|pl
noncomputable def slotAt(t:bE):Nat->Nat
 |0=>0
 |i+1=>t.place.getD i 0+1
def Mode.first(t:bE)(i:Nat):Mode->ah
 |.tx=>rawInt 0
 |.dr T _=>.ref T
 |.pl=>rawInt (slotAt t i)
def Mode.Ok(w:du)(es:Array (Int×ah))(t:bE)(h:cM)(I:aI):Mode->Prop
 |.tx=>w.params.followText "set-order"=c_
 |.dr T ps=>T≠I/\ps.Perm (aO es.size)/\h.get? T=a_ { cls:=.type "tuple",data:=.seq (ps.map λ(p:Nat)=>rawInt p).toArray }
 |.pl=>w.params.followText "set-order"=d_/\(!t.plain && decide (es.size > 1))=d_
noncomputable def Mode.ord(w:du)(S:aI)(es:Array (Int×ah))(ep:Nat):Mode->List ah
 |.tx=>(pickOrder (w.params.setOrder S ep) es).toList.map (·.2)
 |.dr _ ps=>ps.map λp=>(es[p]?.map (·.2)).getD .none
 |.pl=>es.toList.map (·.2)
def Mode.vz:∀{m:Mode},m.Ok w es t h I->(m.ord w S es ep).Perm (es.toList.map (·.2))
 |.tx,_=>(sH _ _).map _
 |.dr T ps,h=>by
   refine(h.2.1.map _).trans ?_;rw[show(aO es.size).map (λp=>(es[p]?.map (·.2)).getD fF)=es.toList.map (·.2)from ?_];apply jj (by simp);intro n h1 h2;simp at h1 h2;simp[h1]
 |.pl,_=>.refl _
structure CD(w:du)(h:cM)(I S:aI)(es:Array (Int×ah))(ep:Nat)(t:bE)(m:Mode)(i:Nat):Prop where
 it:h.get? I=a_ { cls:=.type "set_iterator",data:=.fields #[m.first t i,rawInt i,.ref S,rawInt es.size,rawInt ep] }
 st:kF (oJ w) h S es ep t
 md:m.Ok w es t h I
 ne:S≠I
section
variable{w:du}{s:ak}{m:Mode}
def Mode.Ok.keep{h':cM}(y:m.Ok w es t h I)(k:∀b o,b≠I->h.get? b=a_ o->h'.get? b=a_ o):m.Ok w es t h' I:=by
 cases m with
 |dr T ps=>exact⟨y.1,y.2.1,k _ _ y.1 y.2.2⟩
 |_=>exact y
def pP(k:Q (w.params.followText "set-order") s):aF (aG prog w) A setsByText Q E s:=by
 exact wb9 (yN (wu9 k))
def N5(y:kF (oJ w) s.heap S es ep t)(h:w.params.followText "set-order"=c_)(k:Q (pickOrder (w.params.setOrder S ep) es) s):aF (aG prog w) A (setWalk S) Q E s:=by
 refine wb9 (dH y.obj rfl y.fits ?_);refine wb9 (pP ?_);rw[h];exact wb9 (yN (wu9 k))
def vq(y:kF (oJ w) s.heap S es ep t):t.place.size=es.size:=by
 have:=y.fits;simp only[mF,aj,beq_iff_eq]at this;exact this.1
def FY(y:kF (oJ w) s.heap S es ep t)(h:w.params.followText "set-order"=d_)(hd:(!t.plain && decide (es.size > 1))=d_)(hi:i<=es.size)
  (k:Q (match es[i]? with|some x=>a_ (x.2,slotAt t (i+1))|none=>b_) s):aF (aG prog w) A (setNext S (slotAt t i) g e) Q E s:=by
 refine wb9 (dH y.obj rfl y.fits ?_);refine wb9 (pP ?_);rw[h];show aF (aG prog w) A (if(!t.plain && decide (es.size > 1))=c_ then _ else _) Q E s;rw[hd];show aF (aG prog w) A ((if(!t.led && !es.isEmpty)=c_ then _ else pure ()) >>= _) Q E s;rw[y.ok.l,oJ,h];refine wb9 (wu9 (wu9 ?_))
 have hb:aL t.place (slotAt t i)=i:=by
  cases i with
  |zero=>exact M4 y.ok.r
  |succ j=>
    have c:j<t.place.size:=by rw[vq y];exact hi
    show aL t.place (t.place.getD j 0+1)=j+1;rw[show t.place.getD j 0=t.place[j] by simp_all];exact M5 y.ok.r c
 rw[hb]
 cases q:es[i]? with
 |none=>rw[q]at k;exact k
 |some x=>
   rw[q]at k
   have b:i<es.size:=by
    rcases bW.mp q with⟨a,_⟩;exact a
   have hp:t.place[i]?=a_ (t.place[i]'(by rw[vq y];exact b)):=aY _;rw[hp];simp only[slotAt]at k
   simp_all
def FX{sl:Nat}(y:kF (oJ w) s.heap S es ep t)(h:w.params.followText "set-order"=c_)(k:Q (((pickOrder (w.params.setOrder S ep) es)[i]?).map λe=>(e.2,sl)) s):aF (aG prog w) A (setNext S sl i ep) Q E s:=by
 refine wb9 (dH y.obj rfl y.fits ?_);refine wb9 (pP ?_);rw[h];simp only[bne_self_eq_false,bS,if_false];exact wb9 (N5 y h (wu9 k))
def PL(y:kF (oJ w) s.heap S es ep t)(B:es[p]?=a_ x)(k:Q x.2 s):aF (aG prog w) A (setNextDrawn S p ep) Q E s:=by
 refine wb9 (dH y.obj rfl y.fits ?_);simp only[bne_self_eq_false,bS,if_false];rw[B];exact wu9 k
def LW{c:ah}(y:CD w s.heap I S es ep t m i)(k:∀h',CD w h' I S es ep t m (i+1)->cL I s.heap h'->Q (.done (.ret r)) { s with heap:=h' })(hf:a=m.first t (i+1))(hb:b=rawInt ((i:Int)+1)) :
  aF (aG prog w) A (do setField (.ref I) 0 a;setField (.ref I) 1 b;ret r) Q E s:=by
 subst hf;subst hb;refine wb9 (bM y.it (by simp) λh1 d s1=>wb9 (bM d (by simp) λh2 f s2=>wu9 ?_));have kp:∀b o,b≠I->s.heap.get? b=a_ o->h2.get? b=a_ o:=λb o n e=>s2.extBut _ _ n (s1.extBut _ _ n e);refine k h2 ⟨?_,y.st.keep λo e=>kp _ _ y.ne e,y.md.keep kp,y.ne⟩ (s1.trans s2);rw[f];simp
end
section
variable{A:bX}{s:ak}
def Fi(y:CD w s.heap I S es ep t m i)
  (k:aF (aG prog w) A (if let .int slot _:=m.first t i then do
    match <-setNext S slot.toNat (i:Int).toNat (ep:Int).toNat with
    |some (x,next)=>do setField (.ref I) 0 (rawInt next);setField (.ref I) 1 (rawInt ((i:Int)+1));ret x
    |none=>do setField (.ref I) 2 .none;raiseNew (<-newExc (.type "StopIteration") [])
   else do
    let a_ places <-seqItems? (m.first t i)|unsupported "internal:set_iterator"
    match places[(i:Int).toNat]? with
    |some (.int place _)=>do let x <-setNextDrawn S place.toNat (ep:Int).toNat;setField (.ref I) 1 (rawInt ((i:Int)+1));ret x
    |some _=>unsupported "internal:set_iterator"
    |none=>do setField (.ref I) 0 (rawInt 0);setField (.ref I) 2 .none;raiseNew (<-newExc (.type "StopIteration") [])) Q E s) :
  aF (aG prog w) A (fV.«set_iterator.__next__» ⟨[.ref I],[]⟩) Q E s:=by
 show aF (aG prog w) A (fieldsOf (.ref I) >>= _) Q E s;refine wb9 (wpAny_fieldsOf y.it rfl ?_);refine wb9 (Rc y.st.obj rfl y.st.fits ?_);simp only[bne_self_eq_false,bS,if_false];exact k
def uy{α:Type}{Q:α->ak->Prop}(B:A.handled=b_)(k:∀h' e,(∀b o,s.heap.get? b=a_ o->h'.get? b=a_ o)->(∃o,h'.get? e=a_ o/\o.cls=.type "StopIteration")->E (.ref e) { s with heap:=h' }) :
  aF (aG prog w) A (do raiseNew (<-newExc (.type "StopIteration") []):Av α) Q E s:=by
 refine wb9 ?_;refine wb9 (dI (wb9 (kH (by first|rfl|(rfl)) (dI ?_ (by size_fits)))) (by size_fits));refine wb9 (wpAny_handled ?_);rw[B];exact wb9 (wu9 (wpAny_throw (k _ _ (λb o e=>hp9 _ (hp9 _ e)) ⟨_,aK _ rfl,rfl⟩)))
def Oy{Q:ah->ak->Prop}(y:CD w s.heap I S es ep t m i)(hi:i<es.size)(k:∀h' v,(m.ord w S es ep)[i]?=a_ v->CD w h' I S es ep t m (i+1)->cL I s.heap h'->Q v { s with heap:=h' }) :
  aF (aG prog w) A (fV.«set_iterator.__next__» ⟨[.ref I],[]⟩) (λf s'=>∃v,f=.done (.ret v)/\Q v s') E s:=by
 refine Fi y ?_
 cases m with
 |tx=>
   refine (?_ : aF (aG prog w) A (setNext S 0 i ep >>= _) _ E s);refine wb9 (FX y.st y.md ?_)
   have j:(pickOrder (w.params.setOrder S ep) es).size=es.size:=by
    simpa using ((sH (w.params.setOrder S ep) es).length_eq)
   rw[aY (by rw[j];exact hi)];refine LW (c:=.none) y (λh' d g=>⟨_,rfl,k h' _ ?_ d g⟩) rfl rfl;simp only[Mode.ord,aP,iN]
   simp_all
 |dr T ps=>
   obtain⟨u,h,l⟩:=id y.md;refine wb9 (dq l rfl ?_);have hl:ps.length=es.size:=by rw[h.length_eq,bo]
   have a:i<ps.length:=aa hi (ae hl.symm);have hp :=bq.mp (h.mem_iff.mp (bA a));have q:((ps.map λ(p:Nat)=>rawInt p).toArray)[(i:Int).toNat]?=a_ (rawInt (ps[i])):=by simp[a]
   dsimp only;rw[q];refine wb9 (PL y.st (aY hp) ?_);refine wb9 (bM y.it (by simp) λh1 r s1=>wu9 ⟨_,rfl,k h1 _ ?_ ⟨?_,y.st.keep λo e=>s1.extBut _ _ y.ne e,y.md.keep λb o n e=>s1.extBut _ _ n e,y.ne⟩ s1⟩)
   .simp only[Mode.ord,aP]
    simp_all
   .rw[r];simp[Mode.first,rawInt]
 |pl=>
   refine wb9 (FY y.st y.md.1 y.md.2 (aD hi) ?_);rw[aY hi];refine LW (c:=.none) y (λh' d g=>⟨_,rfl,k h' _ ?_ d g⟩) rfl rfl;simp[Mode.ord,hi]
def TQ(B:A.handled=b_)(y:CD w s.heap I S es ep t m es.size)(k:∀h' e,(∀b o,b≠I->s.heap.get? b=a_ o->h'.get? b=a_ o)->(∃o,h'.get? e=a_ o/\o.cls=.type "StopIteration")->E (.ref e) { s with heap:=h' }) :
  aF (aG prog w) A (fV.«set_iterator.__next__» ⟨[.ref I],[]⟩) Q E s:=by
 refine Fi y ?_
 cases m with
 |tx=>
   refine (?_ : aF (aG prog w) A (setNext S 0 es.size ep >>= _) _ E s);refine wb9 (FX y.st y.md ?_)
   have c:(pickOrder (w.params.setOrder S ep) es).size=es.size:=by
    simpa using ((sH (w.params.setOrder S ep) es).length_eq)
   rw[ik (ae c)];exact wb9 (bM y.it (by simp) λh1 a s1=>uy B λh' e kp he=>k h' e (λb o n q=>kp _ _ (s1.extBut _ _ n q)) he)
 |dr T ps=>
   refine wb9 (dq (id y.md).2.2 rfl ?_);have hl:ps.length=es.size:=by rw[(id y.md).2.1.length_eq,bo]
   dsimp only;rw[ik (by simp[hl])];exact wb9 (bM y.it (by simp) λh1 a s1=>wb9 (bM a (by simp) λh2 h s2=>uy B λh' e kp he=>k h' e (λb o n q=>kp _ _ (s2.extBut _ _ n (s1.extBut _ _ n q))) he))
 |pl=>
   refine wb9 (FY y.st y.md.1 y.md.2 (ao _) ?_);rw[ik (ao _)];exact wb9 (bM y.it (by simp) λh1 a s1=>uy B λh' e kp he=>k h' e (λb o n q=>kp _ _ (s1.extBut _ _ n q)) he)
def CD.ty(y:CD w s.heap I S es ep t m i):s.TypeIs (.ref I) "set_iterator":=⟨_,y.it,rfl⟩
def Ou(y:CD w s.heap I S es ep t m i)(hi:i<es.size)(k:∀h' v,(m.ord w S es ep)[i]?=a_ v->CD w h' I S es ep t m (i+1)->cL I s.heap h'->Q (a_ v) { s with heap:=h' }) :
  aF (aG prog w) A (pyNext (.ref I)) Q E s:=by
 exact wb9 (jd (cU y.ty fK (bN fK y.ty p9 (Oy y hi λh' v a b c=>wu9 (k h' v a b c)) (qc _))))
def TL(B:A.handled=b_)(y:CD w s.heap I S es ep t m es.size)(k:∀h',(∀b o,b≠I->s.heap.get? b=a_ o->h'.get? b=a_ o)->Q b_ { s with heap:=h' }) :
  aF (aG prog w) A (pyNext (.ref I)) Q E s:=by
 refine wb9 (jd (cU y.ty fK (bN fK y.ty p9 (TQ B y λh' e kp he=>?_) (qc _))));obtain⟨o,ho,hc⟩:=he;exact wb9 (dU ⟨o,ho,hc⟩ CY (wu9 (k _ kp)))
end
def xq:entryFor table "set_iterator.__iter__"=a_ fV.«dict_keyiterator.__iter__» :=CZ (id':="dict_keyiterator.__iter__") (by kernel_rfl) rfl (by decide +kernel) (by kernel_rfl)
def p6:NN "set_iterator" "__iter__" "set_iterator.__iter__":=.of (owner:="set_iterator") (n:="__iter__") (by kernel_rfl) (by decide +kernel) (by decide +kernel) (by decide +kernel) (.inl (by decide +kernel)) (by kernel_rfl)
def xt(a:ah):argsOk "set_iterator.__iter__" ⟨[a],[]⟩:=by
 kernel_rfl
noncomputable def Mode.fp:Mode->List aI
 |.dr T _=>[T]
 |_=>[]
section
variable{A:bX}{s:ak}{es:Array (Int×ah)}{m:Mode}
def CD.frame{h':cM}(y:CD w h I S es ep t m i)(k:∀b∈I::S::m.fp,∀o,h.get? b=a_ o->h'.get? b=a_ o):CD w h' I S es ep t m i:=by
 refine⟨k I (.head _) _ y.it,y.st.keep λo e=>k S (.tail _ (.head _)) o e,?_,y.ne⟩
 cases m with
 |dr T ps=>exact⟨y.md.1,y.md.2.1,k T (.tail _ (.tail _ (.head _))) _ y.md.2.2⟩
 |tx=>exact y.md
 |pl=>exact y.md
def AV(hh:A.handled=b_):Walks prog w A I (I::S::m.fp) [I] es.size (λi v=>(m.ord w S es ep)[i]?=a_ v) (λi h=>CD w h I S es ep t m i) where
 sub:=λb hb=>by rw[aE.mp hb];exact .head _
 frame:=λi h h' st k=>st.frame k
 item:=λi s Q E hi st k=>Ou st hi λh' v a b c=>k v h' s.toks a b λb o hb e=>c.extBut _ _ (λz=>hb (z▸aE.mpr rfl)) e
 done:=λs Q E st k=>TL hh st λh' kp=>k h' s.toks λb o hb e=>kp b o (λz=>hb (z▸aE.mpr rfl)) e
 self:=λi s Q E st k=>by
  refine wJ st.ty p6 (bN p6 st.ty xq ?_ (xt _));show aF _ _ (ret (.ref I)) _ _ s;exact wu9 ⟨_,rfl,"set_iterator",_,st.ty,fK.lookup,k⟩
def DE(y:kF (oJ w) s.heap S es ep t)(B:es.size<=aB)
  (k:∀(h1:cM)d I m,s.heap.objs.size<=I->(∀b∈m.fp,s.heap.objs.size<=b)->(∀b o,s.heap.get? b=a_ o->h1.get? b=a_ o)->CD w h1 I S es ep t m 0->Q (.ref I) { s with heap:=h1,drawn:=d }) :
  aF (aG prog w) A (JF (.ref S)) Q E s:=by
 have ty:s.TypeIs (.ref S) "set":=⟨_,y.obj,rfl⟩
 refine wJ ty Af (bN Af ty Cb ?_ (PySem.F.args_set_iter_1 _));refine (?_ : aF (aG prog w) _ (NO S >>= _) _ _ s);refine wb9 (wb9 (Rc y.obj rfl y.fits (wu9 ?_)))
 have dr:∀{c:bX}{g:ah->ak->Prop}{Q1:Bool->ak->Prop},Q1 (!w.params.followText "set-order" && (!t.plain && decide (es.size > 1))) s->aF (aG prog w) c (setDrawn S) Q1 g s:=by
  intro c g Q1 h;exact wb9 (dH y.obj rfl y.fits (wb9 (pP (wu9 h))))
 have one:∀{c:bX} {g:ah->ak->Prop} {Q1:Fin->ak->Prop} {m:Mode} (s1:ak) (f:ah),f=m.first t 0->m.Ok w es t s1.heap s1.heap.objs.size->s.heap.objs.size<=s1.heap.objs.size->(∀b o,s.heap.get? b=a_ o->s1.heap.get? b=a_ o)->
   (∀h1,h1=s1.heap.push { cls:=.type "set_iterator",data:=.fields #[m.first t 0,rawInt (0),.ref S,rawInt es.size,rawInt ep] }->CD w h1 s1.heap.objs.size S es ep t m 0->Q1 (.done (.ret (.ref s1.heap.objs.size))) { s1 with heap:=h1 })->
   aF (aG prog w) c (do ret (<-newFields "set_iterator" [f,rawInt 0,.ref S,rawInt es.size,rawInt (<-setEpoch S)])) Q1 g s1:=by
  intro c g Q1 m s1 f hf ok le ex h;have a:=y.keep λo e=>ex _ _ e;refine wb9 (wpAny_setEpoch_of a.obj rfl a.fits ?_);refine wb9 ?_;refine dI ?_ (by size_fits);subst hf;exact wu9 (h _ rfl ⟨aK _ rfl,a.keep λo e=>hp9 _ e,ok.keep λb o n e=>hp9 _ e,bw (bc (hl9 y.obj) le)⟩)
 refine wb9 (dr ?_)
 cases hb:w.params.followText "set-order" with
 |true=>
   refine wb9 (wu9 ?_);refine one (m:=.tx) s _ rfl hb (ao _) (λb o e=>e) λh1 e1 a=>⟨_,rfl,"set_iterator",_,a.ty ,fK.lookup,?_⟩
   subst e1;exact k _ s.drawn _ .tx (ao _) (λb h=>by cases h) (λb o e=>hp9 _ e) a
 |false=>
   cases hd:(!t.plain && decide (es.size > 1))with
   |false=>
     refine wb9 (wu9 ?_);refine one (m:=.pl) s _ rfl ⟨hb,hd⟩ (ao _) (λb o e=>e) λh1 e1 a=>⟨_,rfl,"set_iterator",_,a.ty ,fK.lookup,?_⟩
     subst e1;exact k _ s.drawn _ .pl (ao _) (λb h=>by cases h) (λb o e=>hp9 _ e) a
   |true=>
     refine wb9 (GP es.size (aO es.size) s (by simp) λps d pm=>?_);have hl:ps.length=es.size:=by rw[pm.length_eq,bo]
     refine wb9 (CW ?_ (by simp_all));refine one (m:=.dr s.heap.objs.size ps) _ _ rfl ⟨?_,pm,?_⟩ ?_ ?_ ?_
     .simp
     .exact aK _ rfl
     .simp
     .exact λb o e=>hp9 _ e
     .intro h1 e1 a;refine⟨_,rfl,"set_iterator",_,a.ty ,fK.lookup,?_⟩;subst e1;refine k _ d _ _ ?_ ?_ ?_ a
      .simp
      .intro b hb;rw[aE.mp hb];exact ao _
      .exact λb o e=>hp9 _ (hp9 _ e)
end
section
variable{A:bX}{s:ak}
def S9:isSubtype (.type "str") (.type "str")=pure c_:=by kernel_rfl
def Me(ty:s.TypeIs v "set")(k:Q d_ s):aF M A (qM v) Q E s:=by
 refine wb9 (fM ty PySem.F.slot_set_len.lookup ?_);refine wb9 (dU ty sub_set_self ?_);exact wb9 (iT ty (wu9 k))
def Md(ty:s.TypeIs v "str")(k:Q d_ s):aF M A (qM v) Q E s:=by
 refine wb9 (fM ty PySem.F.slot_str_len.lookup ?_);refine wb9 (dU ty S9 ?_);exact wb9 (iT ty (wu9 k))
def D0{ord:List ah}(h:ItemsOf (λi v=>ord[i]?=a_ v) acc ord.length):acc.toList=ord:=by
 obtain⟨h1,h2⟩:=h;apply kc;intro i;by_cases hi:i<acc.size
 .have:=h2 i acc[i] (aY hi)
  simp_all
 simp_all
def t6(hh:A.handled=b_)(y:kF (oJ w) s.heap S es ep t)(B:es.size<=aB)
  (k:∀h1 d O vs,(∀b o,s.heap.get? b=a_ o->h1.get? b=a_ o)->s.heap.objs.size<=h1.objs.size->vs.Perm (es.toList.map (·.2))->Q vs { s with heap:=h1,drawn:=d,toks:=O }):aF (aG prog w) A (collect (.ref S)) Q E s:=by
 refine wb9 (sj (eM uo ?_));refine wb9 (dI ?_);refine wu9 (uY (fX xw _) (eM xx ?_));have lt:=hl9 y.obj;generalize f:s.heap.objs.size=L;generalize g:({ cls:=.type "list",data:=.seq ([]).toArray }:lA)=lo;have x:kF (oJ w) (s.heap.push lo) S es ep t:=y.keep λo e=>hp9 _ e;have gL:(s.heap.push lo).get? L=a_ { cls:=.type "list",data:=.seq (#[]) }:=by rw[<-f];exact(aK _ (by rw[<-g];rfl)).trans (by rw[<-g])
 have j:(s.heap.push lo).objs.size=L+1:=by rw[eR,f]
 have ne:L≠S:=by rw[<-f];exact kr lt
 have ty:qf { s with heap:=s.heap.push lo } (.ref S) "set":=⟨_,x.obj,rfl⟩
 refine (?_ : aF _ A.in1 (qN (.ref L) (.ref S) (.ref L)) _ _ { s with heap:=s.heap.push lo });refine wb9 (iT ty ?_);have b1:tJ (.ref L) (.ref S)=d_:=by simp[tJ,ne]
 have b2:(i6 "set" == i6 "list")=d_:=br;have b3:(i6 "set" == i6 "tuple")=d_:=br;simp only[b1,b2,b3,Bool.or_false,bS,if_false];refine wb9 (DE x B λh1 d I m F H ex it=>?_);have l:qf { s with heap:=h1,drawn:=d } (.ref S) "set":=⟨_,it.st.obj,rfl⟩
 refine wb9 (ck (Me l ?_));refine wb9 (gh ?_);have C:=ex _ _ gL;refine wb9 ?_;refine wb9 (iZ C rfl ?_);have D:=fe (fo (·.push fF)) C rfl;refine iZ D rfl ?_;have G:=fe (fo (·.pop)) D rfl
 have h:∀b o,b≠L->h1.get? b=a_ o->((h1.update L (fo (·.push fF))).update L (fo (·.pop))).get? b=a_ o:=
  λb o n e=>(dO _ _ (dR n)).trans ((dO _ _ (dR n)).trans e)
 have p:L<I:=by have :=F;rw[j]at this;exact this
 have nf:L∉I::S::m.fp:=by
  intro z
  rcases au.mp z with z|z
  .simp_all
  grind
 have W:=(AV (prog:=prog) (w:=w) (A:=A.in1) (I:=I) (S:=S) (es:=es) (ep:=ep) (t:=t) (m:=m) (by simp[hh])).toS;refine wu9 (uY (fX wz _) (NL W B _ nf _ es.size 0 _ _ _ rfl (aM _) (it.frame λb hb o e=>h b o (λz=>nf (z▸hb)) e) G (Rg _) λs' r c i gS a=>?_));refine wb9 (wpAny_load gS ?_);have hp:=Mode.vz (S:=S) (ep:=ep) it.md;have hl:(m.ord w S es ep).length=es.size:=by rw[hp.length_eq,aw,bf]
 rw[<-hl]at a;have e:=D0 a;refine (?_ : aF _ A (pure r.toList) _ _ s');rw[e];obtain⟨h',g',d',u,v⟩:=s';obtain rfl:g'=s.gens:=i.gens;obtain rfl:d'=d:=i.drawn;obtain rfl:v=s.os:=i.os;refine wu9 (k h' _ u _ (λb o q=>i.heap b o (λz=>?_) (h b o (λz=>?_) (ex _ _ (hp9 _ q)))) (by rw[f];exact aD (hl9 gS)) hp)
 .have lb:=hl9 q
  rcases au.mp z with z|z
  .simp_all
  .rw[aE.mp z,f]at lb;exact absurd (cY lb p) (bI _)
 .have lb:=hl9 q
  simp_all
def Ci{x:be}(hh:A.handled=b_)(O:x.cps.size<=aB)
  (k:∀h1 Y B,(∀b o,s.heap.get? b=a_ o->h1.get? b=a_ o)->s.heap.objs.size<=h1.objs.size->ItemsOf (SignAt x) B x.cps.size->Q B.toList { s with heap:=h1,toks:=Y }):aF (aG prog w) A (collect (.str x tx)) Q E s:=by
 refine wb9 (sj (eM uo ?_));refine wb9 (dI ?_);refine wu9 (uY (fX xw _) (eM xx ?_));generalize f:s.heap.objs.size=L;generalize a:({ cls:=.type "list",data:=.seq ([]).toArray }:lA)=lo;have gL:(s.heap.push lo).get? L=a_ { cls:=.type "list",data:=.seq (#[]) }:=by rw[<-f];exact(aK _ (by rw[<-a];rfl)).trans (by rw[<-a])
 have g:(s.heap.push lo).objs.size=L+1:=by rw[eR,f]
 have ty:∀s1:ak,s1.TypeIs (.str x tx) "str":=λs1=>rfl;refine (?_ : aF _ A.in1 (qN (.ref L) (.str x tx) (.ref L)) _ _ { s with heap:=s.heap.push lo });refine wb9 (iT (ty _) ?_);refine wb9 (wpAny_pyIter_str λo St W st=>?_);refine wb9 (ck (Md (ty _) ?_));have nf:L∉[(s.heap.push lo).objs.size]:=by
  rw[g];simp
 refine wu9 (uY (fX wz _) (NL (W A.in1 (by simp[hh])).toS O _ nf _ x.cps.size 0 _ _ _ rfl (aM _) st (hp9 _ gL) (Rg _) λs' B c e gS d=>?_));refine wb9 (wpAny_load gS ?_);obtain⟨h',g',d',h,i⟩:=s';obtain rfl:g'=s.gens:=e.gens;obtain rfl:d'=s.drawn:=e.drawn;obtain rfl:i=s.os:=e.os;refine wu9 (k h' h _ (λb o q=>e.heap b o (λz=>?_) (hp9 _ (hp9 _ q))) (by rw[f];exact aD (hl9 gS)) d);have lb:=hl9 q
 grind
end
section
variable{prog:cJ}{w:du}{A:bX}{s:ak}
def EO(prog:cJ)(w:du)(A:bX)(s:ak)(v:ah)(Gd:List ah->Prop):Prop:=
 ∀(a:bX)(c:ah->ak->Prop)(Q':List ah->ak->Prop),a.handled=A.handled->(∀vs h1 d e,(∀b o,s.heap.get? b=a_ o->h1.get? b=a_ o)->s.heap.objs.size<=h1.objs.size->Gd vs->Q' vs { s with heap:=h1,drawn:=d,toks:=e })->
  aF (aG prog w) a (collect v) Q' c s
def Kd{B:List be}(O:B.length<64)(hc:EO prog w A s v (λvs=>∃ss',qi vs ss'/\ss'.Perm B))
  (k:∀h' d Y l(out:List ah)ss' e,(∀b o,s.heap.get? b=a_ o->h'.get? b=a_ o)->s.heap.objs.size<=l->h'.get? l=a_ (seqObj "list" out.toArray e)->qi out ss'->ss'.Perm B->sortedS ss'=c_->Q (.ref l) { s with heap:=h',drawn:=d,toks:=Y }) :
  aF (aG prog w) A (call (.builtin "sorted") [v]) Q E s:=by
 refine xD kind_sorted plain_sorted entry_sorted (args_sorted1 _) ?_;refine wb9 (wu9 ?_);refine wb9 (hc _ _ _ (by rfl) λvs h1 d Y ex sz ⟨c,a,i2⟩=>?_);have hl:vs.length<64:=by rw[show vs.length=c.length by rw[<-a.strs,aw],i2.length_eq];exact O
 refine wb9 (Hh ?_ (by exact aD (aa hl br)));have f:(h1.push (seqObj "list" vs.toArray 0)).get? h1.objs.size=a_ (seqObj "list" vs.toArray 0):=aK _ rfl;refine wb9 (ck (bN slot_list_sort ⟨_,f,rfl⟩ entry_list_sort (list_sort_treeK strKind_oneLt f a.keysOf (λh i r e=>keyKind_strs (by rw[<-e];exact a)) hl λg hp hs=>⟨_,rfl,?_⟩) (args_list_sort _)));refine ac λ_ p=>?_;obtain⟨ss',j,m,n⟩:=sorted_out_str a hp hs;obtain⟨e,he⟩:=sortedHeap_at f;refine p ?_;refine wu9 ⟨_,rfl,k _ d Y _ ((arrOf g).map (·.2)).toList ss' e (λb o q=>?_) ?_ (by exact he) j (m.trans i2) n⟩
 .have lb:=hl9 (ex b o q);exact(sortedHeap_old (bw lb) (by rw[size_push'];exact ku lb)).trans (hp9 _ (ex b o q))
 .exact sz
end
end L2
namespace L2
open PySem PySem.W PySem.Spec PyProof.Rows
section
variable{A:bX}{s:ak}
def _root_.L2.se.first(x:se I h ks vs):(ks=[]/\vs=[])\/∃k v B O,ks=k::B/\vs=v::O/\I.is h k v/\se I h B O:=by
 cases x with
 |nil=>exact .inl ⟨rfl,rfl⟩
 |cons a b=>exact .inr ⟨_,_,_,_,rfl,rfl,a,b⟩
def IG{fin:Bool}(O:A.units+2<=dc)(Y:se (i3 P w) s.heap kx xs):∀{B:List (i3 P w).κ} {ys:List ah} (i:Nat),se (i3 P w) s.heap B ys->kx.map sN=B.map sN->(∀k∈kx,Bl (sN k)=c_)->
  (b=c_->i=0->∀k,kx.head? = a_ k->sN k=[1])->Q (if kx=B then fin else xg (kx.map cN) (B.map cN)) s->KatLex P w A b fin Q (xs.zip ys) i s:=by
 induction Y with
 |nil=>
   intro B ys i d hs _ _ h
   cases d with
   |nil=>exact kat_nil (by simpa using h)
   |cons _ _=>cases hs
 | @cons f u kx xs h1 Y n=>
   intro B ys i d hs h3 h0 h
   cases d with
   |nil=>cases hs
   | @cons m v B ys h2 d=>
     simp only[aA,fT]at hs;refine kat_cons ((i3 P w).eqb O h1 h2 (λe=>?_) λe=>?_)
     .subst e;refine kat_yes (n (i+1) d hs.2 (λk hk=>h3 k (ki _ hk)) (λ_ z=>((aS (ae z) (aM _))).elim) ?_);by_cases e2:kx=B
      .simp_all
      .rw[if_neg e2];rw[if_neg λz=>e2 (eL z).2,aA,aA]at h;rw[show xg (cN f::kx.map cN) (cN f::B.map cN)=xg (kx.map cN) (B.map cN) by rw[xg,lV,if_pos rfl]]at h;exact h
     .have l :=λz=>e (MX hs.1 (h3 _ jy) z);rw[if_neg λz=>e (eL z).1,aA,aA]at h;rw[show xg (cN f::kx.map cN) (cN m::B.map cN)=YN (cN f) (cN m) by rw[xg,lV,if_neg l]]at h;refine kat_no ?_;by_cases j:(b && i == 0)=c_
      .rw[j];simp only[aj,beq_iff_eq]at j;have g:=h0 j.1 j.2 f rfl
       rcases vh hs.1 (h3 _ jy)with⟨a,c,rfl,rfl,q⟩|⟨a,c,rfl,rfl,q1,q2⟩|⟨a,c,rfl,rfl,q1,q2,q3,q4⟩
       .cases a with
        |inl _=>simp[sN]at g
        |inr a=>
          cases c with
          |inl _=>cases q
          |inr c=>
            rcases c6 (k:=.inr a) h1 with⟨_,_,e1,_⟩|⟨x1,o,e1,rfl⟩
            .cases e1
            .rcases c6 (k:=.inr c) h2 with⟨_,_,e2,_⟩|⟨p,r,e2,rfl⟩
             .cases e2
             .cases e1;cases e2;refine oneLt_str ?_;have:=zB a.cps.toList c.cps.toList;simp only[cN]at h;rw[zC,show cK (.inr a)=a.cps.toList.map fu from rfl,show cK (.inr c)=c.cps.toList.map fu from rfl,this]at h;exact h
       .simp only[sN]at g;simp_all
       .simp only[sN]at g;simp_all
      .rw[Bool.eq_false_iff.mpr j];refine kat_one _ _ (Qb O h1 h2 hs.1 (h3 _ jy) ?_);exact h
def abb(B:A.units+2<=dc)(ex:qI P w s.heap x p)(O:qI P w s.heap y c)(hs:x.map sN=y.map sN)(h3:∀k∈x,Bl (sN k)=c_)(h1:b=c_->∀k,x.head? = a_ k->sN k=[1])
  (h:Q (xg (x.map cN) (y.map cN)) s):aF (aG P w) A (keyLt' (tuples' b) (.ref p) (.ref c)) Q E s:=by
 refine ac λ_ n=>?_;obtain⟨l,xs,na,f,_,g,a⟩:=ex;obtain⟨m,ys,nb,i,_,j,d⟩:=O;refine n ?_;refine kat_lt f g i j (IG B a 0 d hs h3 (λz _=>h1 z) ?_)
 have hl:xs.size=ys.size:=by
  have e:=congrArg fA hs;simp only[aw]at e;rw[<-bf,<-bf,a.length,d.length,e]
 by_cases e:x=y
 .rw[if_pos e,hl];rw[e,og.ir]at h;simpa using h
 simp_all
noncomputable def R6(B:List (List Nat)):Option Bool:=match B.head? with
 |some [1]=>a_ c_
 |some [2]=>a_ d_
 |some (3::_)=>a_ d_
 |_=>b_
def Mq(q:nIs P w s.heap k v)(hb:R6 (sN k::sh)=a_ b):∃T:ah,(T=if b=c_ then .type "str" else .type "tuple")/\∀M,Looks M s.heap (typeOf v) T:=by
 cases k with
 |inl k=>
   cases k with
   |inl i=>simp[R6,sN]at hb
   |inr a=>
     have e:b=c_:=by simpa [R6,sN]using hb.symm
     subst e
     rcases c6 (k:=.inr a) q with⟨_,_,z,_⟩|⟨x1,f,_,rfl⟩
     .cases z
     .exact⟨_,rfl,λM=>Looks.of_pure rfl⟩
 |inr ks=>
   have e:b=d_:=by
    simp only[R6,sN,NX]at hb;by_cases c:ks.all sI=c_
    .simp_all
    simp_all
   subst e;obtain⟨p,rfl,o,its,n,go,d,_⟩:=q;exact ⟨_,rfl,λM=>d▸(Looks.ld go).andThen .now⟩
def VN{js:List Nat}{kf:Nat->List NK}{O:Nat->aI}{Y:List (List Nat)}{b:Bool}{Q:pU->ak->Prop}(hk:∀j∈js,qI P w s.heap (kf j) (O j))(h1:∀j∈js,(kf j).map sN=Y)(hb:R6 Y=a_ b)(B:0<js.length)(h:Q (tuples' b) s) :
  aF (aG P w) A (keyKind' (js.map λj=>dt (O j)).toArray) Q E s:=by
 have fs:∃fs,KatTups s.heap (js.map λj=>dt (O j)) fs/\fs.length=js.length/\∀v∈fs,Looks (aG P w) s.heap (typeOf v) (if b=c_ then .type "str" else .type "tuple"):=by
  clear h B
  induction js with
  |nil=>exact⟨[],KatTups.nil,rfl,λv a=>by cases a⟩
  |cons j js k=>
    obtain⟨fs,d,e,f⟩:=k (λj g=>hk j (ki _ g)) (λj g=>h1 j (ki _ g));obtain⟨o,its,n,e1,e2,e3,l⟩:=hk j jy;have c:=h1 j jy
    rcases l.first with⟨z,_⟩|⟨u,i,m,p,z,hl,q,x⟩
    .rw[z]at c;rw[<-c]at hb;cases hb
    .rw[z]at c;rw[<-c]at hb;obtain⟨T,r,t⟩:=Mq q hb;refine⟨i::fs,KatTups.cons e1 e2 e3 (by rw[<-iN,hl];rfl) d,by simp[e],λv a=>?_⟩
     rcases au.mp a with rfl|a
     .rw[<-r];exact t _
     .exact f v a
 obtain⟨fs,d,e,f⟩:=fs;refine kat_kind d (aa B (ae e.symm)) f (by cases b<;>decide) ?_
 cases b with
 |true=>exact h
 |false=>exact h
end
section
variable{s:ak}
def HJ{vs:List ah}(h:vs.length<2):((vs.toArray.zip vs.toArray).map λx=>x.2)=((aO vs.length).toArray.toList.map λi=>vs.getD i fF).toArray:=by
 grind
def Kf(h:n<2):Pm (aO n).toArray n:=by
 have a:∀k,k<n->pg (aO n).toArray k=k:=λk hk=>Yq (by simp[hk]);exact⟨by simp,λk hk=>by rw[a k hk];exact hk,λi j hi b e=>(aC (jJ hi h) (jJ b h)),by simp⟩
def DY{vs:List ah}(ho:s.heap.get? a=a_ (seqObj "list" vs.toArray n))(B:vs.length<=300)(o:Q4 lt vs.length)
  (O:2<=vs.length->∀(h':cM)(Y:ah->ak->Prop)(Q:pU->ak->Prop),(∀b o,b≠a->s.heap.get? b=a_ o->h'.get? b=a_ o)->Q (tuples' b) { s with heap:=h' }->aF (aG P w) A (keyKind' vs.toArray) Q Y { s with heap:=h' })
  (Z:∀(h':cM)(Y:ah->ak->Prop)(Q:Bool->ak->Prop)i j,i<vs.length->j<vs.length->(∀b o,b≠a->s.heap.get? b=a_ o->h'.get? b=a_ o)->Q (lt i j) { s with heap:=h' }->
   aF (aG P w) A (keyLt' (tuples' b) (vs.getD i .none) (vs.getD j .none)) Q Y { s with heap:=h' })
  (h:∀p:Array Nat,Pm p vs.length->Up lt p vs.length->R (.done (.ret .none)) { s with heap:=sortedHeap s.heap a vs (p.toList.map λi=>vs.getD i .none).toArray }) :
  aF (aG P w) A (fV.«list.sort» ⟨[.ref a],[]⟩) R E s:=by
 rw[list_sort_plain];refine wb9 (listItems_at ho rfl (wb9 (Hs ho rfl ?_ (by exact aa B br) (aM _))));obtain⟨e1,k⟩:∃e1,(s.heap.update a (fo λ_=>(#[]))).get? a=a_ (seqObj "list" #[] e1):=⟨_,get?_update_seq ho λ_=>#[]⟩
 refine wb9 (NR k rfl (wb9 (CW ?_ (by exact aa B (by decide)))));refine wb9 (Hh ?_ (aM _));refine ck ?_;have g:(((s.heap.update a (fo λ_=>(#[]))).push (seqObj "tuple" vs.toArray 0)).push (seqObj "list" #[] 0)).get? a=a_ (seqObj "list" #[] e1):=hp9 _ (hp9 _ k)
 have kp:∀b o,b≠a->s.heap.get? b=a_ o->(((s.heap.update a (fo λ_=>(#[]))).push (seqObj "tuple" vs.toArray 0)).push (seqObj "list" #[] 0)).get? b=a_ o:=λb o nb e=>
  hp9 _ (hp9 _ ((Heap.get?_update_ne _ _ _ _ nb).trans e))
 generalize l:((s.heap.update a (fo λ_=>(#[]))).push (seqObj "tuple" vs.toArray 0)).push (seqObj "list" #[] 0)=h6 at g kp ⊢;by_cases c:vs.toArray.size<2
 .rw[if_pos c,if_pos c];refine wb9 (wu9 ?_);refine wb9 (wu9 ?_);have hl:vs.length<2:=by exact c
  have hh:=h (aO vs.length).toArray (Kf hl) (λi j h1 h2=>(P9 h2 hl h1).elim);refine wb9 (NR g rfl (wb9 (Hs g rfl ?_ (aM _) (by show((vs.toArray.zip vs.toArray).map λx=>x.2).size<=_;simp;exact aa B br))));simp only[bne_self_eq_false,bS,if_false];unfold sortedHeap at hh;rw[l]at hh;rw[<-(HJ hl)]at hh;exact wu9 hh
 rw[if_neg c,if_neg c];refine wb9 (O (by simp_all) h6 _ _ kp ?_);refine wb9 (dE (Ke (E:=E) o λi j hi m C q=>Z h6 _ C i j hi m kp q) ?_ λ_ _ e=>e);rintro⟨⟨⟩,st'⟩ s' ⟨rfl,p,p1,p2,f,hf⟩;have d:=kat_snds rfl f;have hsz:(p.toList.map λi=>vs.getD i fF).length=vs.length:=by rw[aw,bf,p1.sz]
 refine wb9 (NR g rfl (wb9 (Hs g rfl ?_ (aM _) (by rw[d];show(p.toList.map λi=>vs.getD i fF).length<=_;rw[hsz];exact aa B br))));rw[hf];simp only[bne_self_eq_false,bS,if_false];have:=h p p1 p2;unfold sortedHeap at this;rw[l]at this;rw[d];exact wu9 this
end
section
variable{P:cJ}{w:du}{A:bX}{E:ah->ak->Prop}{s:ak}{kf:Nat->List NK}{av:Nat->aI}{n:Nat}
def DL{js:List Nat}:∀{vs:List ah},iC (λv j=>v=dt (av j)) vs js->vs=js.map λj=>dt (av j):=by
 induction js with
 |nil=>intro vs h;cases h;rfl
 | cons j js c=>intro vs h;cases h with
   |cons a b=>rw[a,c b];rfl
def DK{js:List Nat}:∀{es:List (Int×ah)},iC (λ(e:Int×ah)j=>e.2=dt (av j)) es js->iC (λv j=>v=dt (av j)) (es.map (·.2)) js:=by
 induction js with
 |nil=>intro es h;cases h;exact .nil
 | cons j js c=>intro es h;cases h with
   |cons a b=>exact .cons a (c b)
structure Sel(kf:Nat->List NK)(n:Nat)(js:List Nat):Prop where
 nd:(js.map kf).Nodup
 lt:∀j∈js,j<n
 all:∀j,j<n->kf j∈js.map kf
def Sel.perm{B:List Nat}(h:Sel kf n js)(p:B.Perm js):Sel kf n B:=
 ⟨(p.map kf).nodup_iff.mpr h.nd,λj a=>h.lt j (p.mem_iff.mp a),λj a=>(p.map kf).mem_iff.mpr (h.all j a)⟩
def Sel.len(h:Sel kf n js):js.length<=n:=by
 have:=sQ ((fG.mp h.nd).imp λx e=>x (congrArg kf e)) fO λj b=>bq.mpr (h.lt j b)
 simp_all
def IZ(hh:A.handled=b_)(y:CH P w (oJ w) s.heap S kf av n)(B:n<=300) :
  EO P w A s (.ref S) (λvs=>∃js,vs=js.map (λj=>dt (av j))/\Sel kf n js):=by
 refine ac λ_ r=>?_;obtain⟨es,ep,t,js,c,o,b,f,g,h⟩:=y;refine r ?_;have sl:Sel kf n js:=⟨f,g,h⟩
 have len:=lR b;intro p q Q' e k;refine t6 (e.trans hh) c (by rw[iP];exact pY (ae len) sl.len B) λh1 d i vs ex sz pm=>k vs h1 d i ex sz ?_;obtain⟨a,l,m⟩:=mK pm (DK b);exact⟨a,DL l,sl.perm m⟩
abbrev codeN(k:List NK):List (List (List Int)):=k.map cN
theorem code_inj:∀{x y:List NK},x.map sN=y.map sN->(∀k∈x,Bl (sN k)=c_)->codeN x=codeN y->x=y
 |[],[],_,_,_=>rfl
 |[],_::_,h,_,_=>by cases h
 |_::_,[],h,_,_=>by cases h
 |a::x,b::y,h,h3,e=>by
   simp only[aA,fT]at h e;rw[MX h.1 (h3 _ jy) e.1,code_inj h.2 (λk hk=>h3 k (ki _ hk)) e.2]
set_option tactic.hygienic true in
def sorted_N{v:ah}{O:List (List Nat)}{b:Bool}{Q:ah->ak->Prop}(Z:A.in1.in1.units+2<=dc)(hk:∀j,j<n->qI P w s.heap (kf j) (av j))(hsh:∀j,j<n->(kf j).map sN=O)(h3:∀x∈O,Bl x=c_)(h1:R6 O=a_ b)
  (hc:EO P w A s v (λvs=>∃js,vs=js.map (λj=>dt (av j))/\Sel kf n js/\js.length<=300))
  (k:∀h' d Y l js e,(∀b o,s.heap.get? b=a_ o->h'.get? b=a_ o)->s.heap.objs.size<=l->h'.get? l=a_ (seqObj "list" (js.map λj=>dt (av j)).toArray e)->Sel kf n js->
   (js.map λj=>codeN (kf j)).Pairwise (λa b=>xg a b=c_)->Q (.ref l) { s with heap:=h',drawn:=d,toks:=Y }) :
  aF (aG P w) A (call (.builtin "sorted") [v]) Q E s:=by
 have t:∀j,j<n->∀k∈kf j,Bl (sN k)=c_:=λj c k hk=>h3 _ (by rw[<-hsh j c];exact cP hk)
 have F:b=c_->∀j,j<n->∀k,(kf j).head? = a_ k->sN k=[1]:=λhb j c k hk=>by
  have:=hsh j c
  cases q:kf j with
  |nil=>rw[q]at hk;cases hk
  |cons x r=>
    rw[q]at this hk;cases hk;rw[<-this,hb]at h1;simp only[R6,NX]at h1;split at h1
    .rename_i z;exact bG z
    .cases h1
    .cases h1
    .cases h1
 refine xD kind_sorted plain_sorted entry_sorted (args_sorted1 _) ?_;refine wb9 (wu9 ?_);refine wb9 (hc _ _ _ (by rfl) λvs g d Y ex sz ⟨js,u,sl,B⟩=>?_);have hl:vs.length=js.length:=by simp_all
 refine wb9 (Hh ?_ (by exact aa (ae hl) (aa B br)));have G:(g.push (seqObj "list" vs.toArray 0)).get? g.objs.size=a_ (seqObj "list" vs.toArray 0):=aK _ rfl
 have at_:∀i,i<vs.length->vs.getD i fF=.ref (av (js.getD i 0))/\js.getD i 0<n:=λi hi=>by
  have f:i<js.length:=aa hi (ae hl);constructor
  .rw[u];simp[f]
  .rw[show js.getD i 0=js[i] by simp[f]];exact sl.lt _ (bA f)
 have h:∀h',(∀b o,b≠g.objs.size->(g.push (seqObj "list" vs.toArray 0)).get? b=a_ o->h'.get? b=a_ o)->∀j,j<n->qI P w h' (kf j) (av j):=λh' q j c=>
  (hk j c).mono λb o e=>by
   have e1:=ex b o e;exact q b o (bw (hl9 e1)) (hp9 _ e1)
 have C :=λi j hi c e=>by
  have a:=at_ i hi
  have b:=at_ j c
  have f:i<js.length:=aa hi (ae hl);have m:j<js.length:=aa c (ae hl);have e1:(js.map kf)[i]?=a_ (kf (js.getD i 0)):=by simp[f]
  have e2:(js.map kf)[j]?=a_ (kf (js.getD j 0)):=by simp[m]
  rw[(code_inj ((hsh _ a.2).trans (hsh _ b.2).symm) (t _ a.2) e)]at e1;exact(j9 (by simp_all) sl.nd).mp (e1.trans e2.symm)
 have N:Q4 (λi j=>xg (codeN (kf (js.getD i 0))) (codeN (kf (js.getD j 0)))) vs.length:=
  ⟨λi j k _ _ _ x y=>og.tr _ _ _ x y,λi j hi c ne x=>og.co _ _ (λz=>ne (C i j hi c z)) x,λi j _ _ x=>og.as x⟩
 refine wb9 (ck (bN slot_list_sort ⟨_,G,rfl⟩ entry_list_sort (DY (b:=b) G (aa (ae hl) B) N (λh2 h' R Q' q H=>?_) (λh' R Q' i j hi c q H=>?_) λp I S=>⟨_,rfl,?_⟩) (args_list_sort _)))
 .rw[u];exact VN (λj c=>h h' q j (sl.lt j c)) (λj c=>hsh j (sl.lt j c)) h1 (aD (aa h2 (ae hl))) H
 .obtain⟨T,D⟩:=at_ i hi
  obtain⟨b1,b2⟩:=at_ j c
  rw[T,b1];exact abb Z (h h' q _ D) (h h' q _ b2) ((hsh _ D).trans (hsh _ b2).symm) (t _ D) (λz=>F z _ D) H
 .obtain⟨e,he⟩:=sortedHeap_at (out:=(p.toList.map λi=>vs.getD i fF).toArray) G
  have L:(p.toList.map λi=>vs.getD i fF)=(p.toList.map λi=>js.getD i 0).map λj=>dt (av j):=by
   rw[cv];exact cQ λi hi=>(at_ i ((bq.mp (I.pm.mem_iff.mp hi)))).1
  rw[L]at he
  have U:(p.toList.map λi=>js.getD i 0).Perm js:=by
   refine (I.pm.map λi=>js.getD i 0).trans ?_;rw[hl];refine List.Perm.of_eq ?_;apply kc;intro i;by_cases hi:i<js.length
   .simp[hi]
   .simp[hi]
  refine wu9 ⟨_,rfl,k _ d Y _ (p.toList.map λi=>js.getD i 0) e (λb o q=>?_) sz ?_ (sl.perm U) ?_⟩
  .have lb:=hl9 (ex b o q);exact(sortedHeap_old (bw lb) (by rw[size_push'];exact ku lb)).trans (hp9 _ (ex b o q))
  .rw[L];exact he
  .rw[cv,fG,eZ];intro i j hi c J;have:=S i j J (by rw[bf,I.sz]at c;exact c)
   have e1:∀x(K:x<p.toList.length),p.toList[x]=pg p x:=λx K=>by
    have:=K3 (by simpa using K);rw[<-iN,af K]at this;exact bG this
   rw[e1 i hi,e1 j c];exact this
end
end L2
namespace M
open PySem PySem.Spec PyProof.Rows L2
inductive Xw|add|sub|mul|fdiv|mod|shr|shl|band|bor|pow|mn|mx
inductive ZV|eq|ne|lt|le|gt|ge|isin|nin|isn|nisn
inductive Ty|int|bool|str|tuple|list
inductive ZW|len|list|tuple|all|any|isi (t:Ty)|listrev|int|str|min|max|sorted|sset|abs|sum
inductive Mth|join|split|upper|lower|find|index|count|get|startswith|isalpha|tindex
inductive JB|app|ext|ins|pop|clr|seti|dput
mutual
noncomputable def oQ:Dat->Dat->Bool
 | .non,c=>match c with
   |.non=>c_
   |_=>d_
 | .bl a,c=>match c with
   |.bl b=>a == b
   |.int j=>(if a then 1 else 0) == j
   |_=>d_
 | .int i,c=>match c with
   |.bl b=>i == (if b then 1 else 0)
   |.int j=>i == j
   |_=>d_
 | .str x,c=>match c with
   |.str y=>x == y
   |_=>d_
 | .tup xs,c=>match c with
   |.tup ys=>nK xs ys
   |_=>d_
 | .lst xs,c=>match c with
   |.lst ys=>nK xs ys
   |_=>d_
 |_,_=>d_
noncomputable def nK:List Dat->List Dat->Bool
 |[],[]=>c_
 |x::xs,y::ys=>oQ x y && nK xs ys
 |_,_=>d_
end
mutual
noncomputable def hV:Nat->Dat->Bool
 |_,.dct _ _=>d_
 |0,.tup _=>d_
 |0,.lst _=>d_
 |n+1,.tup xs=>eT n xs
 |n+1,.lst xs=>eT n xs
 |_,_=>c_
noncomputable def eT:Nat->List Dat->Bool
 |_,[]=>c_
 |n,x::xs=>hV n x && eT n xs
end
noncomputable def fW:Dat->Option Bool
 |.non=>a_ d_
 |.bl b=>a_ b
 |.int i=>a_ (i != 0)
 |.str x=>if x.length<=aB then a_ ((x.length:Int) != 0)else b_
 |.tup xs=>a_ (!xs.isEmpty)
 |.lst xs=>a_ (!xs.isEmpty)
 |.dct ks _=>a_ (!ks.isEmpty)
noncomputable instance (i j:Int):Decidable (Jm i j):=by unfold Jm;infer_instance
noncomputable instance (i j:Int):Decidable (Rb i j):=by unfold Rb;infer_instance
noncomputable instance (i j:Int):Decidable (Ra i j):=by unfold Ra;infer_instance
noncomputable instance (x:be) (j:Int):Decidable (C3 x j):=by unfold C3;infer_instance
abbrev g_:=Option (Dat×Bool)
noncomputable def Cz(f:Int->Int->g_):Dat->Dat->g_
 |.int i,.int j=>f i j
 |_,_=>b_
def M8:Dat->Dat->g_
 | .int i,a=>match a with
   |.int j=>a_ (.int (i+j),d_)
   |_=>b_
 | .str x,a=>match a with
   |.str y=>if x.length+y.length<=aB then a_ (.str (x++y),d_)else b_
   |_=>b_
 | .lst xs,a=>match a with
   |.lst ys=>if xs.length+ys.length<=aB then a_ (.lst (xs++ys),kC (xs++ys))else b_
   |_=>b_
 | .tup xs,a=>match a with
   |.tup ys=>if xs.length+ys.length<=aB then a_ (.tup (xs++ys),d_)else b_
   |_=>b_
 |_,_=>b_
noncomputable def M7:Dat->Dat->g_
 | .int i,a=>match a with
   |.int j=>if Jm i j then a_ (.int (i * j),d_)else b_
   |_=>b_
 | .str x,a=>match a with
   |.int j=>if C3 x j then a_ (.str (PySem.Txt.mul x j),d_)else b_
   |_=>b_
 |_,_=>b_
def gp:Xw->Dat->Dat->g_
 |.add,a,b=>M8 a b
 |.sub,a,b=>Cz (λi j=>a_ (.int (i - j),d_)) a b
 |.mul,a,b=>M7 a b
 |.mn,a,b=>Cz (λi j=>a_ (.int (if j<i then j else i),d_)) a b
 |.mx,a,b=>Cz (λi j=>a_ (.int (if i<j then j else i),d_)) a b
 |.fdiv,a,b=>Cz (λi j=>if Rb i j then a_ (.int (i / j),d_)else b_) a b
 |.mod,a,b=>Cz (λi j=>if 0<j then a_ (.int (i % j),d_)else b_) a b
 |.shr,a,b=>Cz (λi j=>if 0<=j then a_ (.int (i / 2 ^ j.toNat),d_)else b_) a b
 |.shl,a,b=>Cz (λi j=>if Ra i j then a_ (.int (i * 2 ^ j.toNat),d_)else b_) a b
 |.band,a,b=>Cz (λi j=>a_ (.int (uR i j),d_)) a b
 |.bor,a,b=>Cz (λi j=>a_ (.int (Nk i j),d_)) a b
 |.pow,a,b=>Cz (λi j=>if Ra i j then a_ (.int (i ^ j.toNat),d_)else b_) a b
noncomputable def pZ:Dat->Option Key
 |.int i=>a_ (.inl i)
 |.str x=>a_ (.inr x)
 |_=>b_
instance ab4 (k:List NK) (ks:List (List NK)):Decidable (k∈ks):=@List.instDecidableMemOfLawfulBEq _ instBEqOfDecidableEq inferInstance k ks
def BC:List Dat->Option (List Key)
 |[]=>a_ []
 |d::ds=>(pZ d).bind λk=>(BC ds).map λr=>k::r
def n2I:Dat->Option N2
 |.int i=>a_ (.inl (.inl i))
 |.str x=>a_ (.inl (.inr x))
 |.tup ds=>(BC ds).map .inr
 |_=>b_
def RT:List Dat->Option (List N2)
 |[]=>a_ []
 |d::ds=>(n2I d).bind λk=>(RT ds).map λr=>k::r
def nkI:Dat->Option NK
 |.int i=>a_ (.inl (.inl i))
 |.str x=>a_ (.inl (.inr x))
 |.tup ds=>(RT ds).map .inr
 |_=>b_
def Xg:List Dat->Option (List NK)
 |[]=>a_ []
 |d::ds=>(nkI d).bind λk=>(Xg ds).map λr=>k::r
def DN:Dat->Option (List NK)
 |.tup ds=>Xg ds
 |_=>b_
def wY:List Dat->Option (List (List NK))
 |[]=>a_ []
 |d::ds=>(DN d).bind λk=>(wY ds).map λr=>k::r
noncomputable def RP:List Key->Bool
 |[]=>c_
 |k::ks=>!(ks.any λj=>decide (j=k)) && RP ks
noncomputable def f7(k:Key):List Key->List Dat->Option Dat
 |j::ks,v::vs=>if j=k then a_ v else f7 k ks vs
 |_,_=>b_
noncomputable def vB(k:Key):List Key->Bool
 |[]=>c_
 |j::ks=>if j=k then !(ks.any λi=>decide (i=k))else vB k ks
noncomputable def putD(k:Key)(d:Dat):List Key->List Dat->List Key×List Dat
 |j::ks,v::vs=>if j=k then(j::ks,d::vs)else((j::(putD k d ks vs).1),(v::(putD k d ks vs).2))
 |_,_=>([k],[d])
noncomputable def So(f:Int->Int->Bool):Dat->Dat->Option Bool
 |.int i,.int j=>a_ (f i j)
 |_,_=>b_
def cIn(a:Dat):Dat->Option Bool
 | .str y=>match a with
   |.str x=>a_ (!(jh y x 0 y.length 1).isEmpty)
   |_=>b_
 |.lst ys=>if hV 20 a && eT 20 ys then a_ (ys.any λy=>oQ y a)else b_
 |.tup ys=>if hV 20 a && eT 20 ys then a_ (ys.any λy=>oQ y a)else b_
 |.dct ks vs=>(pZ a).map λk=>(f7 k ks vs).isSome
 |_=>b_
def WB(a:Dat):Dat->Option Bool
 | .str y=>match a with
   |.str x=>a_ (!(!(jh y x 0 y.length 1).isEmpty))
   |_=>b_
 |.lst ys=>if hV 20 a && eT 20 ys then a_ (!(ys.any λy=>oQ y a))else b_
 |.tup ys=>if hV 20 a && eT 20 ys then a_ (!(ys.any λy=>oQ y a))else b_
 |.dct ks vs=>(pZ a).map λk=>!(f7 k ks vs).isSome
 |_=>b_
noncomputable def cIs(b:Bool)(a:Dat):Dat->Option Bool
 |.non=>a_ (match a with | .non=>b|_=>!b)
 |_=>b_
def gn:ZV->Dat->Dat->Option Bool
 |.eq,a,b=>if hV 20 a && hV 20 b then a_ (oQ a b)else b_
 |.ne,a,b=>if hV 20 a && hV 20 b then a_ (!oQ a b)else b_
 |.lt,a,b=>So (λi j=>decide (i<j)) a b
 |.le,a,b=>So (λi j=>decide (i<=j)) a b
 |.gt,a,b=>So (λi j=>decide (j<i)) a b
 |.ge,a,b=>So (λi j=>decide (j<=i)) a b
 |.isin,a,b=>cIn a b
 |.nin,a,b=>WB a b
 |.isn,a,b=>cIs c_ a b
 |.nisn,a,b=>cIs d_ a b
def tU:Dat->Dat->Option Dat
 | .lst xs,a=>match a with
   |.int i=>qH xs i
   |_=>b_
 | .tup xs,a=>match a with
   |.int i=>qH xs i
   |_=>b_
 | .str z,a=>match a with
   |.int i=>if z.length<=aB then(qH z.cps.toList i).map λc=>.str ⟨#[c]⟩else b_
   |_=>b_
 |.dct ks vs,k=>(pZ k).bind λk=>f7 k ks vs
 |_,_=>b_
noncomputable def Bi(r:g_):Option (Option Int):=r.bind λx=>match x.1 with
 |.int i=>a_ (a_ i)
 |_=>b_
def cutD{α:Type}(xs:List α)(lo hi:Option Int):List α:=(xs.drop (HT.iW xs.length 0 lo)).take (HT.iW xs.length xs.length hi - HT.iW xs.length 0 lo)
def Dt:Dat->Option Int->Option Int->g_
 |.str x,lo,hi=>if x.length<=aB then a_ (.str (bY x lo hi),d_)else b_
 |.lst xs,lo,hi=>a_ (.lst (cutD xs lo hi),kC (cutD xs lo hi))
 |.tup xs,lo,hi=>a_ (.tup (cutD xs lo hi),d_)
 |_,_,_=>b_
noncomputable def LY:Ty->Dat->Bool
 |.int,.int _=>c_
 |.int,.bl _=>c_
 |.bool,.bl _=>c_
 |.str,.str _=>c_
 |.tuple,.tup _=>c_
 |.list,.lst _=>c_
 |_,_=>d_
noncomputable def EF:List Dat->Option (List Bool)
 |[]=>a_ []
 |.bl b::ds=>(EF ds).map λr=>b::r
 |_::_=>b_
noncomputable def xS:List Dat->Option (List be)
 |[]=>a_ []
 |.str x::ds=>(xS ds).map λr=>x::r
 |_::_=>b_
noncomputable def tV:List Dat->Option (List Int)
 |[]=>a_ []
 |.int x::ds=>(tV ds).map λr=>x::r
 |_::_=>b_
noncomputable def vP{α:Type}(lt:α->α->Bool)(x:α):List α->List α
 |[]=>[x]
 |y::ys=>if lt x y=c_ then x::y::ys else if lt y x=c_ then y::vP lt x ys else y::ys
def ip{α:Type}(lt:α->α->Bool):List α->List α
 |[]=>[]
 |x::xs=>vP lt x (ip lt xs)
noncomputable def xj{α:Type}(lt:α->α->Bool)(x:α):List α->List α
 |[]=>[x]
 |y::ys=>if lt y x=c_ then y::xj lt x ys else x::y::ys
def oB{α:Type}(lt:α->α->Bool):List α->List α
 |[]=>[]
 |x::xs=>xj lt x (oB lt xs)
def wI(x y:be):Bool:=decide (x.cps.toList<y.cps.toList)
def eV(x:be):List be:=x.cps.toList.map λc=>⟨#[c]⟩
noncomputable def QG:Nat->List Int->Dat
 |0,l=>.int (l.headD 0)
 |1,l=>.str ⟨(l.map uW).toArray⟩
 |_,l=>.tup (l.map .int)
def Wo:List Nat->List (List Int)->Dat
 |[],_=>.non
 |n::a,c=>if n=3 then .tup (tL QG a c)else QG n (c.headD [])
def Eu(B:List (List Nat))(c:List (List (List Int))):Dat:=.tup (tL Wo B c)
def Jw(kk:List (List NK)):List (List Nat):=(kk.headD []).map sN
def Lf(kk:List (List NK)):Prop:=(R6 (Jw kk)).isSome=c_/\(Jw kk).all Bl=c_/\(kk.all λk=>decide (k.map sN=Jw kk))=c_/\(ip xg (kk.map codeN)).length<=300
instance (kk:List (List NK)):Decidable (Lf kk):=inferInstanceAs (Decidable (_/\_))
def xW(kk:List (List NK)):g_:=
 if kk.length<=300/\Lf kk then a_ (.lst ((ip xg (kk.map codeN)).map (Eu (Jw kk))),c_)else b_
def Fd(B:List be):g_:=if B.length<4000/\(ip wI B).length<64 then a_ (.lst ((ip wI B).map .str),c_)else b_
def Ff(B:List be):g_:=if B.length<64 then a_ (.lst ((oB wI B).map .str),c_)else b_
noncomputable def mxI:Int->List Int->Int
 |i,[]=>i
 |i,j::r=>mxI (if i<j then j else i) r
noncomputable def b1(f:Dat->g_):List Dat->g_
 |[d]=>f d
 |_=>b_
noncomputable def WQ:Dat->g_
 |.lst xs=>a_ (.int xs.length,d_)
 |.tup xs=>a_ (.int xs.length,d_)
 |.str x=>if x.length<=aB then a_ (.int x.length,d_)else b_
 |.dct ks _=>a_ (.int ks.length,d_)
 |_=>b_
def Sy:Dat->g_
 |.lst xs=>a_ (.lst xs,kC xs)
 |.tup xs=>a_ (.lst xs,kC xs)
 |_=>b_
def ZL:Dat->g_
 |.lst xs=>a_ (.lst xs.reverse,kC xs.reverse)
 |.tup xs=>if xs.length<=1000000 then a_ (.lst xs.reverse,kC xs.reverse)else b_
 |.str x=>if x.length<=1000000 then a_ (.lst ((eV x).reverse.map .str),c_)else b_
 |_=>b_
noncomputable def ZK:Dat->g_
 |.lst xs=>a_ (.tup xs,d_)
 |.tup xs=>a_ (.tup xs,d_)
 |_=>b_
noncomputable def bL(f:List Dat->g_):Dat->g_
 |.lst xs=>f xs
 |_=>b_
noncomputable def WR(f:List Dat->g_)(g:be->g_):Dat->g_
 |.lst xs=>f xs
 |.str x=>g x
 |_=>b_
noncomputable def ZM:Dat->g_
 |.int i=>a_ (.int i,d_)
 |.bl b=>a_ (.int (if b then 1 else 0),d_)
 |.str x=>if x.length<=640 then(PySem.intText? x).map λi=>(.int i,d_)else b_
 |_=>b_
noncomputable def WO:Dat->g_
 |.int i=>if i.natAbs.log2<1920 then a_ (.str (toString i),d_)else b_
 |_=>b_
def gZ:ZW->List Dat->g_
 |.len,l=>b1 WQ l
 |.list,l=>b1 Sy l
 |.listrev,l=>b1 ZL l
 |.tuple,l=>b1 ZK l
 |.all,l=>b1 (bL λxs=>(EF xs).map λbs=>(.bl (bs.all id),d_)) l
 |.any,l=>b1 (bL λxs=>(EF xs).map λbs=>(.bl (bs.any id),d_)) l
 |.isi t,l=>b1 (λd=>a_ (.bl (LY t d),d_)) l
 |.sset,l=>b1 (WR (λds=>(wY ds).bind xW) λx=>Fd (eV x)) l
 |.sorted,l=>b1 (WR (λ_=>b_) λx=>Ff (eV x)) l
 |.int,l=>b1 ZM l
 |.sum,l=>b1 (bL λds=>(tV ds).map λis=>(.int is.sum,d_)) l
 | .max,l=>b1 (bL λds=>(tV ds).bind λis=>match is with
   |[]=>b_
   |i::r=>a_ (.int (mxI i r),d_)) l
 |.str,l=>b1 WO l
 |.min,_=>b_
 |.abs,_=>b_
noncomputable def kB:Dat->Option (List Dat)
 |.lst xs=>a_ xs
 |.tup xs=>a_ xs
 |.str x=>a_ (x.cps.toList.map λc=>Dat.str ⟨#[c]⟩)
 |_=>b_
noncomputable def aaH:Dat->Option (List Dat)
 |.str x=>a_ (x.cps.toList.map λc=>Dat.str ⟨#[c]⟩)
 |_=>b_
noncomputable def DD:List Dat->Option (List Dat)
 |[.int j]=>if j<=1000000/\-1000000<=j then a_ ((aO j.toNat).map λk:Nat=>Dat.int k)else b_
 |[.int i,.int j]=>if -1000000<=i/\i<=1000000/\-1000000<=j/\j<=1000000 then a_ ((aO (j - i).toNat).map λk:Nat=>Dat.int (i+k))else b_
 |[.int i,.int j,.int c]=>if c=-1/\-1000000<=i/\i<=1000000/\-1000000<=j/\j<=1000000 then a_ ((aO (i - j).toNat).map λk:Nat=>Dat.int (i - k))else b_
 |_=>b_
noncomputable def oV:List Dat->List Dat->List Dat
 |x::xs,y::ys=>.tup [x,y]::oV xs ys
 |_,_=>[]
noncomputable def xp:Nat->List Dat->List Dat
 |_,[]=>[]
 |k,x::xs=>.tup [.int k,x]::xp (k+1) xs
def sZ(f:Dat->Option g_):List Dat->Option (List Dat×Bool)
 |[]=>a_ ([],c_)
 | d::ds=>(f d).bind λo=>(sZ f ds).map λr=>match o with
   |some y=>(y.1::r.1,(y.2 || im y.1) && r.2)
   |none=>r
noncomputable def zl:Nat->List Dat->iy->iy
 |_,[],ρ=>ρ
 |k,d::ds,ρ=>zl (k+1) ds (ρ.set k (a_ d))
def G8(nt:Nat)(one:Bool)(d:Dat)(ρ:iy):Option iy:=match one with
 |true=>a_ (ρ.set 0 (a_ d))
 | false=>match d with
   |.tup ds=>if ds.length=nt then a_ (zl 0 ds ρ)else b_
   |_=>b_
def jW(nt:Nat)(caps:List Nat)(ρ:iy):iy:=dZ nt b_++caps.map λj=>(ρ[j]?).join
def findD(d:Dat):List Dat->Nat->Option Nat
 |[],_=>b_
 |x::xs,k=>if oQ x d=c_ then a_ k else findD d xs (k+1)
noncomputable def Z6(f:be->g_):Dat->List Dat->g_
 | .str x,a=>match a with
   |[]=>f x
   |_=>b_
 |_,_=>b_
noncomputable def mSS(f:be->be->g_):Dat->List Dat->g_
 | .str x,a=>match a with
   |[.str y]=>f x y
   |_=>b_
 |_,_=>b_
noncomputable def mSL(f:be->List Dat->g_):Dat->List Dat->g_
 | .str x,a=>match a with
   |[.lst ds]=>f x ds
   |_=>b_
 |_,_=>b_
noncomputable def mSw:Dat->List Dat->g_
 |.str x,[.str y,.int i]=>a_ (.bl (ic x y i),d_)
 |_,_=>b_
def aa5:Dat->List Dat->g_
 | .tup ds,a=>match a with
   |[d]=>if hV 20 d && eT 20 ds then(findD d ds 0).map λk=>(.int k,d_)else b_
   |_=>b_
 |_,_=>b_
def aa8:Dat->List Dat->g_
 |.lst ds,[.str y]=>(xS ds).bind λxs=>(xs.findIdx? (·== y)).map λj=>(.int (j:Nat),d_)
 |_,_=>b_
def VA:Dat->List Dat->g_
 |.dct ks vs,[k,d]=>(pZ k).map λk=>((f7 k ks vs).getD d,d_)
 |_,_=>b_
def iE:Mth->Dat->List Dat->g_
 |.join,a,l=>mSL (λx ds=>(xS ds).bind λys=>if(ys.map (·.length)).sum+ys.length * x.length<=1000000 then a_ (.str (uc x ys),d_)else b_) a l
 |.split,a,l=>mSS (λx y=>if 0<y.length/\x.length<=1000000 then a_ (.lst ((PySem.Txt.split x y).map Dat.str),c_)else b_) a l
 |.upper,a,l=>Z6 (λx=>if x.length<=1000000 then a_ (.str (sk x),d_)else b_) a l
 |.lower,a,l=>Z6 (λx=>if x.length<=1000000 then a_ (.str (PySem.Txt.lower x),d_)else b_) a l
 |.find,a,l=>mSS (λx y=>a_ (.int (PySem.Txt.find x y),d_)) a l
 |.index,a,l=>aa8 a l
 |.count,a,l=>mSS (λx y=>a_ (.int (PySem.Txt.count x y),d_)) a l
 |.startswith,a,l=>mSw a l
 |.tindex,a,l=>aa5 a l
 |.isalpha,a,l=>Z6 (λx=>a_ (.bl (PySem.Txt.isalpha x),d_)) a l
 |.get,a,l=>VA a l
def insI{α:Type}(x:α)(i:Int)(xs:List α):List α:=xs.take (HT.iW xs.length 0 (a_ i))++x::xs.drop (HT.iW xs.length 0 (a_ i))
def T6{α:Type}(x:α)(i:Int)(xs:List α):Option (List α):=(yk xs.length i).map λk=>xs.set k x
noncomputable def XD:Dat->List Dat->Option Dat
 |.lst ds,[d]=>if ds.length<aB then a_ (.lst (ds++[d]))else b_
 |_,_=>b_
noncomputable def SX:Dat->List Dat->Option Dat
 | .lst ds,l=>match l with
   |[.lst es]=>if ds.length+es.length<=aB then a_ (.lst (ds++es))else b_
   |[.tup es]=>if ds.length+es.length<=aB then a_ (.lst (ds++es))else b_
   |_=>b_
 |_,_=>b_
def XC:Dat->List Dat->Option Dat
 | .lst ds,l=>match l with
   |[.int i,d]=>if ds.length<aB/\-1000000<=i/\i<=1000000 then a_ (.lst (insI d i ds))else b_
   |_=>b_
 |_,_=>b_
def XB:Dat->List Dat->Option Dat
 | .lst ds,l=>match l with
   |[d,.int i]=>if -1000000<=i/\i<=1000000 then(T6 d i ds).map .lst else b_
   |_=>b_
 | .dct ks vs,l=>match l with
   |[d,k]=>(pZ k).bind λk=>if ks.length<aB/\vB k ks=c_ then a_ (.dct (putD k d ks vs).1 (putD k d ks vs).2)else b_
   |_=>b_
 |_,_=>b_
def jx:JB->Dat->List Dat->Option Dat
 |.app,a,l=>XD a l
 |.ext,a,l=>SX a l
 |.ins,a,l=>XC a l
 |.seti,a,l=>XB a l
 |.dput,_,_=>b_
 |_,_,_=>b_
abbrev Fs:=Nat->List Dat->g_
structure Ex where
 fv:List Nat
 ev:Fs->iy->g_
noncomputable def bp(C:Fs)(e:Ex)(ρ:iy):g_:=e.ev C ρ
def mY(C:Fs):List Ex->iy->Option (List Dat)
 |[],_=>a_ []
 |e::es,ρ=>(bp C e ρ).bind λx=>(mY C es ρ).map λr=>x.1::r
def oK(C:Fs):List Ex->iy->Option (List Dat×Bool)
 |[],_=>a_ ([],c_)
 |e::es,ρ=>(bp C e ρ).bind λx=>(oK C es ρ).map λr=>(x.1::r.1,(x.2 || im x.1) && r.2)
def B7(C:Fs):List Ex->iy->Option Bool
 |[],_=>a_ c_
 |e::es,ρ=>(bp C e ρ).bind λx=>(fW x.1).bind λz=>if z=c_ then B7 C es ρ else a_ d_
noncomputable def Qt(es:List Ex):List Nat:=es.flatMap (·.fv)
inductive Iw where
 |itv (a:Ex)|rng (es:List Ex)|zip (es:List Ex)|enu (a:Ex)|rev (a:Ex)
noncomputable def aaK:Dat->Option (List Dat)
 |.tup ds=>a_ ds.reverse
 |_=>b_
def fvI:Iw->List Nat
 |.itv a=>a.fv
 |.rng _=>[]
 |.zip es=>Qt es
 |.enu a=>a.fv
 |.rev a=>a.fv
def zip2(a b:Dat):Option (List Dat):=match a with
 | .str x=>match b with
   |.tup ys=>a_ (oV ((eV x).map .str) ys)
   |_=>b_
 |_=>b_
def Ry(ds:List Dat):Option (List Dat):=match ds with
 |[a,b]=>zip2 a b
 |_=>b_
def zN(C:Fs)(it:Iw)(ρ:iy):Option (List Dat):=match it with
 |.itv a=>(bp C a ρ).bind λx=>kB x.1
 |.rng es=>(mY C es ρ).bind DD
 |.zip es=>(mY C es ρ).bind Ry
 |.enu a=>(bp C a ρ).bind λx=>(aaH x.1).map λxs=>xp 0 xs
 |.rev a=>(bp C a ρ).bind λx=>aaK x.1
def ZJ(C:Fs)(ρ:iy):Option Ex->Option (Option Int)
 |none=>a_ b_
 |some e=>Bi (bp C e ρ)
noncomputable def aaW:Dat->g_
 |.int i=>a_ (.int (-i),d_)
 |_=>b_
noncomputable def abF(k:g_):Dat->g_
 |.bl b=>if b=c_ then k else a_ (.bl d_,d_)
 |_=>b_
noncomputable def orD(k:g_):Dat->g_
 |.bl b=>if b=c_ then a_ (.bl c_,d_)else k
 |_=>b_
def qa(C:Fs)(nt:Nat)(one:Bool)(ρ0:iy)(ifs:List Ex)(elt:Ex)(d:Dat):Option g_:=
 (G8 nt one d ρ0).bind λρ1=>(B7 C ifs ρ1).bind λb=>if b=c_ then(bp C elt ρ1).map a_ else a_ b_
namespace Ex
def con(d:Dat):Ex:=⟨[],λ_ _=>a_ (d,d_)⟩
abbrev e_(i:Int):Ex:=con (.int i)
abbrev f_(x:be):Ex:=con (.str x)
def v(i:Nat):Ex:=⟨[i],λ_ ρ=>((ρ[i]?).join).map λd=>(d,d_)⟩
def bin(o:Xw)(a b:Ex):Ex:=⟨a.fv++b.fv,λC ρ=>(bp C a ρ).bind λx=>(bp C b ρ).bind λy=>gp o x.1 y.1⟩
def neg(a:Ex):Ex:=⟨[],λC ρ=>(bp C a ρ).bind λx=>aaW x.1⟩
def cmp(o:ZV)(a b:Ex):Ex:=⟨[],λC ρ=>(bp C a ρ).bind λx=>(bp C b ρ).bind λy=>(gn o x.1 y.1).map λr=>(.bl r,d_)⟩
def and(a b:Ex):Ex:=⟨a.fv++b.fv,λC ρ=>(bp C a ρ).bind λx=>abF (bp C b ρ) x.1⟩
def or(a b:Ex):Ex:=⟨a.fv++b.fv,λC ρ=>(bp C a ρ).bind λx=>orD (bp C b ρ) x.1⟩
def not(a:Ex):Ex:=⟨[],λC ρ=>(bp C a ρ).bind λx=>(fW x.1).map λb=>(.bl (!b),d_)⟩
def ite(c a b:Ex):Ex:=⟨c.fv++a.fv++b.fv,λC ρ=>(bp C c ρ).bind λx=>(fW x.1).bind λz=>if z=c_ then bp C a ρ else bp C b ρ⟩
def tup(es:List Ex):Ex:=⟨Qt es,λC ρ=>(oK C es ρ).bind λx=>if x.1.length<=1000000 then a_ (.tup x.1,x.2)else b_⟩
def lst(es:List Ex):Ex:=⟨Qt es,λC ρ=>(oK C es ρ).bind λx=>if x.1.length<=1000000 then a_ (.lst x.1,x.2)else b_⟩
def ix(a b:Ex):Ex:=⟨a.fv++b.fv,λC ρ=>(bp C a ρ).bind λx=>(bp C b ρ).bind λy=>(tU x.1 y.1).map λd=>(d,d_)⟩
noncomputable def ofv(o:Option Ex):List Nat:=match o with
 |none=>[]
 |some e=>e.fv
def sl(a:Ex)(lo hi:Option Ex):Ex:=⟨a.fv++ofv lo++ofv hi,λC ρ=>(bp C a ρ).bind λx=>(ZJ C ρ lo).bind λl=>(ZJ C ρ hi).bind λh=>Dt x.1 l h⟩
def call(f:Nat)(es:List Ex):Ex:=⟨Qt es,λC ρ=>(mY C es ρ).bind λds=>C f ds⟩
def blt(b:ZW)(es:List Ex):Ex:=⟨Qt es,λC ρ=>(mY C es ρ).bind λds=>gZ b ds⟩
def iF(m:Mth)(o:Ex)(es:List Ex):Ex:=⟨o.fv++Qt es,λC ρ=>(bp C o ρ).bind λx=>(mY C es ρ).bind λds=>iE m x.1 ds⟩
def qy:Ex:=⟨[],λ_ _=>a_ (.dct [] [],c_)⟩
def GQ(ks:List Key)(es:List Ex):Ex:=⟨Qt es,λC ρ=>(mY C es ρ).bind λds=>if ks.length=ds.length/\RP ks=c_/\ks.length<=15 then a_ (.dct ks ds,d_)else b_⟩
def comp(nt:Nat)(one:Bool)(caps:List Nat)(it:Iw)(ifs:List Ex)(elt:Ex):Ex:=⟨caps++fvI it,λC ρ=>(zN C it ρ).bind λitems=>if items.length<=1000000 then
 (sZ (qa C nt one (jW nt caps ρ) ifs elt) items).map λys=>(.lst ys.1,ys.2)else b_⟩
end Ex
abbrev dG:=List g_
set_option genInjectivity true in
inductive Out where
 |nx (ρ:dG)|rt (d:Dat) (fr:Bool)|bk (ρ:dG)|ct (ρ:dG)
noncomputable def AG(ρ:dG):iy:=ρ.map λo=>match o with
 |some (d,d_)=>a_ d
 |_=>b_
def full(ρ:dG):iy:=ρ.map λo=>o.map (·.1)
def tw(ρ:dG):dG:=ρ.map λo=>o.map λs=>(s.1,d_)
def De(ρ:dG):AG (tw ρ)=full ρ:=by
 unfold AG tw full;rw[cv];exact cQ λo _=>by cases o<;>rfl
def mN(is:List Nat)(ρ:dG):dG:=is.foldl (λρ i=>ρ.modify i λo=>o.map λs=>(s.1,d_)) ρ
def NB(C:Fs)(e:Ex)(ρ:dG):Option (Dat×Bool×dG):=(bp C e (full ρ)).bind λx=>if(im x.1 || x.2)=c_ then a_ (x.1,x.2,ρ)
 else(bp C e (AG (mN e.fv ρ))).map λy=>(y.1,y.2,mN e.fv ρ)
def Zj(C:Fs)(it:Iw)(ρ:dG):Option (List Dat×dG):=match it with
 |.itv a=>(NB C a ρ).bind λx=>(kB x.1).map λds=>(ds,x.2.2)
 |.rng es=>(zN C (.rng es) (full ρ)).map λds=>(ds,ρ)
 |.zip es=>(zN C (.zip es) (AG (mN (Qt es) ρ))).map λds=>(ds,mN (Qt es) ρ)
 |.enu a=>(zN C (.enu a) (AG (mN a.fv ρ))).map λds=>(ds,mN a.fv ρ)
 |.rev a=>(zN C (.rev a) (AG (mN a.fv ρ))).map λds=>(ds,mN a.fv ρ)
noncomputable def pJ:List Nat->List Dat->dG->dG
 |i::is,d::ds,ρ=>pJ is ds (ρ.set i (a_ (d,d_)))
 |_,_,ρ=>ρ
def iw(one:Bool)(B:List Nat)(d:Dat)(ρ:dG):Option dG:=match one with
 | true=>match B with
   |[i]=>a_ (ρ.set i (a_ (d,d_)))
   |_=>b_
 | false=>match d with
   |.tup ds=>if ds.length=B.length then a_ (pJ B ds ρ)else b_
   |_=>b_
noncomputable def xO(k:dG->Option Out):Out->Option Out
 |.nx ρ=>k ρ
 |.ct ρ=>k ρ
 |.bk ρ=>a_ (.nx ρ)
 |.rt d fr=>a_ (.rt d fr)
def wV(test:dG->Option Bool)(body:dG->Option Out):Nat->dG->Option Out
 |0,_=>b_
 |n+1,ρ=>(test ρ).bind λb=>if b=c_ then(body ρ).bind (xO (wV test body n))else a_ (.nx ρ)
def mJ:Nat:=1000000
def jS(B:Dat->dG->Option dG)(body:dG->Option Out):List Dat->dG->Option Out
 |[],ρ=>a_ (.nx ρ)
 |d::ds,ρ=>(B d ρ).bind λρ1=>(body ρ1).bind (xO (jS B body ds))
structure Sx where
 ex:Fs->dG->Option Out
def oE(C:Fs)(s:Sx)(ρ:dG):Option Out:=s.ex C ρ
noncomputable def X1(k:dG->Option Out):Out->Option Out
 |.nx ρ=>k ρ
 |o=>a_ o
def eC(C:Fs):List Sx->dG->Option Out
 |[],ρ=>a_ (.nx ρ)
 |s::a,ρ=>(oE C s ρ).bind (X1 (eC C a))
def aap(B:List Nat)(ρ:dG):Dat->Option Out
 |.tup ds=>if ds.length=B.length then a_ (.nx (pJ B ds ρ))else b_
 |_=>b_
def YJ(op:JB)(i:Nat)(ρ:dG)(ds:List Dat):g_->Option Out
 |some (d,c_)=>(jx op d ds).map λd'=>.nx (ρ.set i (a_ (d',c_)))
 |_=>b_
namespace Sx
def set(i:Nat)(e:Ex):Sx:={ ex:=λC ρ=>(NB C e ρ).map λx=>.nx (x.2.2.set i (a_ (x.1,x.2.1 && !im x.1))) }
def Xz(B:List Nat)(e:Ex):Sx:={ ex:=λC ρ=>(NB C e ρ).bind λx=>aap B x.2.2 x.1 }
def exp(e:Ex):Sx:={ ex:=λC ρ=>(bp C e (full ρ)).map λ_=>.nx ρ }
def ret(e:Ex):Sx:={ ex:=λC ρ=>(bp C e (full ρ)).map λx=>.rt x.1 x.2 }
def oI(i:Nat):Sx:={ ex:=λ_ ρ=>((ρ[i]?).join).map λx=>.rt x.1 x.2 }
def Nu:Sx:={ ex:=λ_ _=>b_ }
def brk:Sx:={ ex:=λ_ ρ=>a_ (.bk ρ) }
def ifs(c:Ex)(a b:List Sx):Sx:={ ex:=λC ρ=>(bp C c (full ρ)).bind λx=>(fW x.1).bind λz=>if z=c_ then eC C a ρ else eC C b ρ }
def loop(one:Bool)(B:List Nat)(it:Iw)(body:List Sx):Sx:={ ex:=λC ρ=>(Zj C it ρ).bind λx=>jS (iw one B) (eC C body) x.1 x.2 }
def Xx(c:Ex)(body:List Sx):Sx:={ ex:=λC ρ=>wV (λρ=>(bp C c (full ρ)).bind λx=>fW x.1) (eC C body) mJ ρ }
def «mut» (op:JB)(i:Nat)(es:List Ex):Sx:={ ex:=λC ρ=>(oK C es (full ρ)).bind λx=>if x.2=c_ then YJ op i ρ x.1 (ρ[i]?).join else b_ }
end Sx
noncomputable def abw:Out->g_
 |.nx _=>a_ (.non,d_)
 |.rt d fr=>a_ (d,fr)
 |_=>b_
def QA(C:Fs)(B O:Nat)(body:List Sx)(ds:List Dat):g_:=
 if ds.length=B then(eC C body (ds.map (λd=>a_ (d,d_))++dZ (O - B) b_)).bind abw else b_
def gE(K:Fg)(C:Fs)(x:Ex):TE:=λσ H Q=>∃ρ d fr,bp C x ρ=a_ (d,fr)/\tE K ρ d fr σ H Q
def gA(K:Fg)(C:Fs)(xs:List Ex):TA:=λσ H Q=>∃ρ ds,mY C xs ρ=a_ ds/\tEs K ρ ds σ H Q
def gF(K:Fg)(C:Fs)(xs:List Ex):TA:=λσ H Q=>∃ρ ds al,oK C xs ρ=a_ (ds,al)/\tFs K ρ ds al σ H Q
def gT(K:Fg)(C:Fs)(x:Ex):TT:=λσ H Q=>∃ρ d fr b,bp C x ρ=a_ (d,fr)/\fW d=a_ b/\tT K ρ b σ H Q
abbrev SE(X:Cx)(C:Fs)(e:a8)(x:Ex):Prop:=PE X e (gE X.K C x)
abbrev SA(X:Cx)(C:Fs)(es:List a8)(xs:List Ex):Prop:=PA X es (gA X.K C xs)
abbrev SF(X:Cx)(C:Fs)(es:List a8)(xs:List Ex):Prop:=PA X es (gF X.K C xs)
abbrev ST(X:Cx)(C:Fs)(e:a8)(x:Ex):Prop:=PT X e (gT X.K C x)
def gB(K:Fg)(f:Dat->Dat->g_):R2:=λx y H Q=>∃da a d fr,f da a=a_ (d,fr)/\rD K da a d fr x y H Q
def gL(K:Fg)(f:List Dat->g_):List V->Hp->VK->Prop:=λxs H Q=>∃ds d fr,f ds=a_ (d,fr)/\rDs K ds d fr xs H Q
section
variable{X:Cx}{C:Fs}{e:a8}
def aZ{K:Fg}:(d_=c_->gf K H H' d v):=λh=>nomatch h
def T7(i:Nat)(O:X.N[i]?=a_ x)(Y:Q2 X.env.scope x)(hd:(x == ("__debug__":be))=d_)
  (B:(x == ("__classdict__":be))=d_):SE X C (.Name x pos) (.v i):=
 PE.imp (qo O Y hd B) λσ H Q b=>by
  obtain⟨ρ,d,fr,h,F,g,R,k⟩:=b;obtain⟨d',h1,h2⟩:=dY h;cases h2
  have a:ρ[i]?=a_ (a_ d):=by
   cases q:ρ[i]? with
   |none=>rw[q]at h1;cases h1
   |some z=>simp_all
  obtain⟨v,e1,r⟩:=R i d a;exact⟨v,e1,k v F H (Step.refl g) r aZ⟩
def ve(h:PE X e (tC v))(hd:∀F,Rep X.K F d v):SE X C e (.con d):=
 PE.imp h λσ H Q a=>by
  obtain⟨ρ,d',fr,h,F,g,R,k⟩:=a;cases h;exact k v F H (Step.refl g) (hd _) aZ
def Uh{j}:SE X C (.Constant (.int i) j pos) (.con (.int i)):=ve US λ_=>rfl
def X8{b:Bool}{j}:SE X C (.Constant (.bool b) j pos) (.con (.bl b)):=ve Yu λ_=>rfl
def Ua{j}:SE X C (.Constant .none j pos) (.con .non):=ve UQ λ_=>rfl
def T9{j}:SE X C (.Constant (.str x) j pos) (.con (.str x)):=ve UO λ_=>rfl
def OJ(O:Gl X x)(Y:X.mg x=a_ u)(r:RelV v u)(B:∀F,Rep X.K F d v)(hd:(x == ("__debug__":be))=d_):SE X C (.Name x pos) (.con d):=ve (Pg O Y r hd) B
def Cv{α β γ:Type}{o:Option α}{o':Option β}{f:α->β->Option γ}{z:γ}(h:(o.bind λx=>o'.bind λy=>f x y)=a_ z):∃x y,o=a_ x/\o'=a_ y/\f x y=a_ z:=by
 obtain⟨x,h1,h⟩:=c5 h;obtain⟨y,h2,h⟩:=c5 h;exact⟨x,y,h1,h2,h⟩
def y7(B:∀ρ d fr,bp C x ρ=a_ (d,fr)->∃p q,bp C xa ρ=a_ p/\bp C xb ρ=a_ q/\f p.1 q.1=a_ (d,fr)) :
  ∀σ H Q,gE X.K C x σ H Q->RB (gB X.K f) (gE X.K C xa) (gE X.K C xb) σ H Q:=λσ H Q j=>by
 refine ac λ_ e=>?_;obtain⟨ρ,d,fr,h,F,g,R,k⟩:=j;obtain⟨⟨da,l⟩,⟨i,m⟩,h1,h2,h3⟩:=B ρ d fr h;refine e ?_;exact ⟨ρ,da,l,h1,F,g,R,λv F1 D a n _=>⟨ρ,i,m,h2,F1,a.good,R.mono a.ff,λw o H2 b r _=>⟨da,i,d,fr,h3,o,b.good,n.mono b.ff,r,λu s t c y A=>k u s t ((a.trans b).trans c) y λz=>(A z).back (F:=F) (a.hh.trans b.hh)⟩⟩⟩
def Uo(ho:j2 X (binaryOp op) (gB X.K (gp o)))(ha:SE X C a xa)(hb:SE X C b xb):SE X C (.BinOp a op b pos) (.bin o xa xb):=
 PE.imp (RL ho ha hb) (y7 λρ d fr h=>Cv h)
def rM(o:ZV)(x y:Dat):g_:=(gn o x y).map λr=>(.bl r,d_)
def Ul(ho:j2 X (compareOp op) (gB X.K (rM o)))(ha:SE X C a xa)(hb:SE X C b xb)(B:behindInMarks op b=d_):SE X C (.Compare a [op] [b] pos) (.cmp o xa xb):=
 PE.imp (Pj ho ha hb B) (y7 λρ d fr h=>Cv h)
def Tn(ho:j2 X (compareOp op) (gB X.K (rM o)))(ha:SE X C a xa)(hb:SE X C b xb)(B:behindInMarks op b=d_):ST X C (.Compare a [op] [b] pos) (.cmp o xa xb):=
 PT.imp (Pa ho ha hb B) λσ H Q c=>by
  refine ac λ_ e=>?_;obtain⟨ρ,d,fr,b,h,hb,F,g,R,k⟩:=c;refine e ?_;refine y7 (x:=.cmp o xa xb) (f:=rM o) (λρ d fr h=>Cv h) σ H _ ⟨ρ,d,fr,h,F,g,R,λv F1 i st r _=>?_⟩;refine ac λ_ e=>?_;obtain⟨p,q,_,_,h3⟩:=Cv h;obtain⟨z,_,j⟩:=dY h3;cases j;cases hb;refine e ?_;exact⟨_,r,k F1 i st⟩
def X7(B:W1 X (gB X.K λx y=>(tU x y).map λd=>(d,d_)))(ha:SE X C a xa)(hb:SE X C b xb)(hs:Ac b):SE X C (.Subscript a b pos) (.ix xa xb):=
 PE.imp (FQ B ha hb hs) (y7 λρ d fr h=>Cv h)
def Ub(ha:SE X C a xa):SE X C (.UnaryOp .USub a pos) (.neg xa):=
 PE.imp (Ys SV ha) λσ H Q c=>by
  refine ac λ_ e=>?_;obtain⟨ρ,d,fr,h,F,g,R,k⟩:=c;obtain⟨⟨da,f⟩,h1,h⟩:=c5 h;refine e ?_;refine⟨ρ,da,f,h1,F,g,R,λv F1 j b l _=>?_⟩
  cases da with
  |int i=>cases h;exact⟨i,l,k _ F1 j b rfl aZ⟩
  |_=>cases h
set_option tactic.hygienic true in
def E5{K:Fg}{F H:Hp}{d:Dat}{v:V}{b:Bool}(g:Good F H)(r:Rep K F d v)(h:fW d=a_ b):WU K v H b:=by
 cases d with
 |non=>rw[r];cases h;exact rfl
 |bl c=>rw[r];cases h;exact rfl
 |int i=>rw[r];cases h;exact rfl
 |str x=>
   rw[r];simp only[fW]at h;split at h
   .rename_i a;cases h;exact⟨a,rfl⟩
   .cases h
 |tup ds=>
   obtain⟨p,vs,rfl,t,r⟩:=r;cases h
   have e:(!ds.isEmpty)=!vs.isEmpty:=by
    have:=r.length
    cases ds<;>cases vs<;>first|rfl|cases this
   rw[e];exact .inr (.inl ⟨vs,(t.mono g.sub).sq,rfl⟩)
 |lst ds=>
   obtain⟨p,vs,rfl,t,r⟩:=r;cases h
   have e:(!ds.isEmpty)=!vs.isEmpty:=by
    have:=r.length
    cases ds<;>cases vs<;>first|rfl|cases this
   rw[e];exact .inl ⟨vs,g.sub.seq t,rfl⟩
 |dct ks ds=>
   obtain⟨p,k_,rfl,t,kk,r⟩:=r;cases h
   have e:(!ks.isEmpty)=!k_.isEmpty:=by
    rw[<-kk];cases k_<;>rfl
   rw[e];exact .inr (.inr ⟨k_,g.sub _ _ t,rfl⟩)
def k8(h:SE X C e xa)(he:∀whole,isTrue e X.env whole=(do let v <-whole;standAt e.pos;holding [v] (truthy v)):=by intro _;rfl):ST X C e xa:=
 PT.imp (KL h he) λσ H Q ⟨ρ,d,fr,b,h,hb,F,g,R,k⟩=>⟨ρ,d,fr,h,F,g,R,λv F1 c a f _=>⟨b,E5 a.good f hb,k F1 c a⟩⟩
abbrev SW(X:Cx)(C:Fs)(e:a8)(x:Ex):Prop:=PW X e (gT X.K C x)
def Oe(ha:ST X C a xa):SW X C (.BoolOp .And [a] pos) xa:=O7 ha
def S6(ha:ST X C a xa):SW X C (.BoolOp .Or [a] pos) xa:=UD ha
def PW.imp(h:PW X e t)(f:∀σ H Q,t' σ H Q->t σ H Q):PW X e t':=λa h_ s σ H Q I q=>h a h_ s σ H Q I (f _ _ _ q)
def S7{rest:List a8}(ha:ST X C a xa)(hb:SW X C (.BoolOp .And (b::rest) pos) xb):SW X C (.BoolOp .And (a::b::rest) pos) (.and xa xb):=
 PW.imp (UE ha hb) λσ H Q n=>by
  refine ac λ_ e=>?_;obtain⟨ρ,d,fr,z,h,j,F,g,R,k⟩:=n;obtain⟨⟨da,l⟩,h1,h⟩:=c5 h
  refine e ?_;cases da with
  |bl c=>
    cases c with
    |true=>exact⟨ρ,_,l,c_,h1,rfl,F,g,R,λF1 m f=>by
      exact D1 ⟨ρ,d,fr,z,h,j,F1,f.good,R.mono f.ff,λo H2 i=>k o H2 (f.trans i)⟩⟩
    |false=>
      cases h;cases j
      exact⟨ρ,_,l,d_,h1,rfl,F,g,R,λF1 m f=>by
       exact D2 (k F1 m f)⟩
  |_=>cases h
def XR{rest:List a8}(ha:ST X C a xa)(hb:SW X C (.BoolOp .Or (b::rest) pos) xb):SW X C (.BoolOp .Or (a::b::rest) pos) (.or xa xb):=
 PW.imp (Yn ha hb) λσ H Q n=>by
  refine ac λ_ e=>?_;obtain⟨ρ,d,fr,z,h,j,F,g,R,k⟩:=n;obtain⟨⟨da,l⟩,h1,h⟩:=c5 h
  refine e ?_;cases da with
  |bl c=>
    cases c with
    |false=>exact⟨ρ,_,l,d_,h1,rfl,F,g,R,λF1 m f=>by
      exact D2 ⟨ρ,d,fr,z,h,j,F1,f.good,R.mono f.ff,λo H2 i=>k o H2 (f.trans i)⟩⟩
    |true=>
      cases h;cases j
      exact⟨ρ,_,l,c_,h1,rfl,F,g,R,λF1 m f=>by
       exact D1 (k F1 m f)⟩
  |_=>cases h
def Th(ha:ST X C a xa):ST X C (.UnaryOp .Not a pos) (.not xa):=
 PT.imp (UH ha) λσ H Q b=>by
  refine ac λ_ e=>?_;obtain⟨ρ,d,fr,z,h,c,F,g,R,k⟩:=b;obtain⟨⟨da,f⟩,h1,h⟩:=c5 h;obtain⟨i,hb,h⟩:=dY h;cases h;cases c;refine e ?_;exact⟨ρ,da,f,i,h1,hb,F,g,R,k⟩
def Fu{op}(ha:SE X C a xa):SE X C (.BoolOp op [a] pos) xa:=UP ha
def Uq{rest:List a8}(ha:SE X C a xa)(hb:SE X C (.BoolOp .And (b::rest) pos) xb):SE X C (.BoolOp .And (a::b::rest) pos) (.and xa xb):=
 PE.imp (UU ha hb) λσ H Q j=>by
  refine ac λ_ e=>?_;obtain⟨ρ,d,fr,h,F,g,R,k⟩:=j;obtain⟨⟨da,l⟩,h1,h⟩:=c5 h
  refine e ?_;cases da with
  |bl c=>
    refine⟨ρ,_,l,h1,F,g,R,λv F1 m f n _=>⟨c,n,?_⟩⟩
    cases c with
    |true=>
      exact D1 ⟨ρ,d,fr,h,F1,f.good,R.mono f.ff,λv o H2 i p q=>k v o H2 (f.trans i) p λz=>(q z).back (F:=F) f.hh⟩
    |false=>
      cases h;exact D2 (k _ F1 m f rfl aZ)
  |_=>cases h
def X3{rest:List a8}(ha:SE X C a xa)(hb:SE X C (.BoolOp .Or (b::rest) pos) xb):SE X C (.BoolOp .Or (a::b::rest) pos) (.or xa xb):=
 PE.imp (Yt ha hb) λσ H Q j=>by
  refine ac λ_ e=>?_;obtain⟨ρ,d,fr,h,F,g,R,k⟩:=j;obtain⟨⟨da,l⟩,h1,h⟩:=c5 h
  refine e ?_;cases da with
  |bl c=>
    refine⟨ρ,_,l,h1,F,g,R,λv F1 m f n _=>⟨c,n,?_⟩⟩
    cases c with
    |false=>
      exact D2 ⟨ρ,d,fr,h,F1,f.good,R.mono f.ff,λv o H2 i p q=>k v o H2 (f.trans i) p λz=>(q z).back (F:=F) f.hh⟩
    |true=>
      cases h;exact D1 (k _ F1 m f rfl aZ)
  |_=>cases h
def Ue{Jz:a8}(hc:ST X C Jz xc)(ha:SE X C a xa)(hb:SE X C b xb):SE X C (.IfExp Jz a b pos) (.ite xc xa xb):=
 PE.imp (K6 hc ha hb) λσ H Q m=>by
  refine ac λ_ e=>?_;obtain⟨ρ,d,fr,h,F,g,R,k⟩:=m;obtain⟨⟨da,n⟩,h1,h⟩:=c5 h;obtain⟨z,o,h⟩:=c5 h;refine e ?_;refine⟨ρ,da,n,z,h1,o,F,g,R,λF1 p c=>?_⟩
  cases z with
  |true=>
    exact D1 ⟨ρ,d,fr,h,F1,c.good,R.mono c.ff,λv i H2 f j l=>k v i H2 (c.trans f) j λz=>(l z).back (F:=F) c.hh⟩
  |false=>
    exact D2 ⟨ρ,d,fr,h,F1,c.good,R.mono c.ff,λv i H2 f j l=>k v i H2 (c.trans f) j λz=>(l z).back (F:=F) c.hh⟩
def o6:SA X C [] []:=PA.imp vy λσ H Q a=>by
 obtain⟨ρ,ds,h,F,g,R,k⟩:=a;cases h;exact k [] F H (Step.refl g) rfl
def jQ(ha:SE X C e B)(O:SA X C es xs)(hs:aQ (e::es) X.env=(d_,eval e X.env)::aQ es X.env):SA X C (e::es) (B::xs):=
 PA.imp (n5 ha O hs) λσ H Q c=>by
  refine ac λ_ m=>?_;obtain⟨ρ,ds,h,F,g,R,k⟩:=c;obtain⟨⟨d,fr⟩,h1,h⟩:=c5 h;obtain⟨r,h2,h⟩:=dY h;cases h;refine m ?_;exact⟨ρ,d,fr,h1,F,g,R,λv F1 l a f _=>⟨ρ,r,h2,F1,a.good,R.mono a.ff,λvs i H2 b j=>k _ i H2 (a.trans b) ⟨v,vs,rfl,f.mono b.ff,j⟩⟩⟩
def oh(h:n<=1000000):n<=aB:=by exact aa h br
def Kl:SF X C [] []:=PA.imp vy λσ H Q b=>by
 obtain⟨ρ,ds,al,h,F,g,R,k⟩:=b;cases h;exact k [] F H (Step.refl g) rfl λ_=>⟨[],ee,(λa z=>by cases z),rfl,rfl⟩
def Fl(ha:SE X C e B)(O:SF X C es xs)(hs:aQ (e::es) X.env=(d_,eval e X.env)::aQ es X.env):SF X C (e::es) (B::xs):=
 PA.imp (n5 ha O hs) λσ H Q i=>by
  refine ac λ_ q=>?_;obtain⟨ρ,ds,al,h,F,g,R,k⟩:=i;obtain⟨⟨d,fr⟩,h1,h⟩:=c5 h;obtain⟨⟨r,j⟩,h2,h⟩:=dY h;cases h;refine q ?_;refine⟨ρ,d,fr,h1,F,g,R,λv F1 p a f l=>⟨ρ,r,j,h2,F1,a.good,R.mono a.ff,λvs m H2 b n o=>k _ m H2 (a.trans b) ⟨v,vs,rfl,f.mono b.ff,n⟩ λz=>?_⟩⟩;simp only[aj,lH]at z;refine fJ.cons a.hh b.hh ?_ (o z.2)
  rcases z.1 with c|c
  .exact l c
  .exact .kT a.good c f
set_option tactic.hygienic true
def T8{x1}(h:SF X C es xs):SE X C (.Tuple es x1 pos) (.tup xs):=
 PE.imp (K4 h) λσ H Q c=>by
  refine ac λ_ e=>?_;obtain⟨ρ,d,fr,h,F,g,R,k⟩:=c;obtain⟨⟨ds,al⟩,h1,h⟩:=c5 h;refine e ?_;dsimp only at h;split at h
  .rename_i f;cases h;exact ⟨ρ,ds,_,h1,F,g,R,λvs F1 j a b i=>⟨by rw[b.length];exact oh f,λp hp=>k _ _ _ (a.trans (Step.alloc a.good hp)) ⟨p,vs,rfl,.inl cO,b.mono (cj.upd (a.good.sub.free hp))⟩ λz=>.tup hp (i z)⟩⟩
  .cases h
def Ud(h:SF X C es xs):SE X C (.List es pos) (.lst xs):=
 PE.imp (UR h) λσ H Q c=>by
  refine ac λ_ e=>?_;obtain⟨ρ,d,fr,h,F,g,R,k⟩:=c;obtain⟨⟨ds,al⟩,h1,h⟩:=c5 h;refine e ?_;dsimp only at h;split at h
  .rename_i f;cases h;refine⟨ρ,ds,_,h1,F,g,R,λvs F1 l a b i=>⟨by rw[b.length];exact oh f,λp hp=>?_⟩⟩;exact k _ _ _ (a.trans (Step.alloc a.good hp)) ⟨p,vs,rfl,.inl (.inl cO),(b.mono (cj.upd (o:=.lst vs) (a.good.sub.free hp)))⟩ λz=>.lst a.hh hp (i z)
  .cases h
set_option tactic.hygienic false
def TM(K:Fg)(n:Nat)(f:List Dat->g_):Sp:=λvs H Q _=>vs.length=n/\gL K f vs H Q
def pS(B:∀ρ d fr,bp C x ρ=a_ (d,fr)->∃ds,mY C xs ρ=a_ ds/\f ds=a_ (d,fr)) :
  ∀σ H Q,gE X.K C x σ H Q->tCB (gL X.K f) (gA X.K C xs) σ H Q:=λσ H Q c=>by
 refine ac λ_ e=>?_;obtain⟨ρ,d,fr,h,F,g,R,k⟩:=c;obtain⟨ds,h1,h2⟩:=B ρ d fr h;refine e ?_;refine⟨ρ,ds,h1,F,g,R,λvs F1 n a i=>⟨ds,d,fr,h2,F1,a.good,i,λv j H2 b l m=>k v j H2 (a.trans b) l λz=>(m z).back (F:=F) a.hh⟩⟩
theorem nJ:∀{xs:List Ex}{ρ:iy}{ds:List Dat},mY C xs ρ=a_ ds->ds.length=xs.length
 |[],ρ,ds,h=>by cases h;rfl
 |x::xs,ρ,ds,h=>by
   obtain⟨d,_,h⟩:=c5 h;obtain⟨r,h2,h⟩:=dY h;cases h;rw[bx,bx,nJ h2]
def OM(j n:Nat)(G:ot X.prog X.w X.K X.mg X.base Jl k f fd ps (TM X.K n (C j)))(Z:nN k X.A)(hg:Gl X x)(hm:X.mg x=a_ (.ref f))(hk:gJ X.K (.ref f)=c_)(hb:Binds X.K fd ps [])
  (ha:SA X C (e::es) (B::xs))(hn:(B::xs).length=n)(O:(x == ("__debug__":be))=d_)(he:aQ (e::es) X.env=(d_,eval e X.env)::aQ es X.env)(Y:(backTo pos (aQ es X.env)).any (·.1)=d_) :
  SE X C (.Call (.Name x p) (e::es) [] pos) (.call j (B::xs)):=
 PE.imp (Pl G Z hg hm hk hb .nil RM ha O he Y) λσ H Q h=>by
  refine ac λ_ i=>?_;obtain⟨ρ,ds,h1,F,g,R,k⟩:=(pS (x:=.call j (B::xs)) (λρ d fr h=>c5 h) σ H Q h);refine i ?_;refine⟨ρ,ds,h1,F,g,R,λvs F1 b a c=>?_⟩;show TM X.K n (C j) (vs++[]) b Q E0;rw[aH];exact⟨by rw[c.length,nJ h1,hn],k vs F1 b a c⟩
def Ft{Y:String}(hc:kj X (.builtin Y) (gL X.K (gZ bt)))(Z:Gl X x)(hm:X.mg x=b_)(hv:bootBuiltins x=a_ (.builtin Y))(ha:SA X C (e::es) xs)(hn:x≠"__name__")(B:(x == ("__debug__":be))=d_)
  (he:aQ (e::es) X.env=(d_,eval e X.env)::aQ es X.env)(O:(backTo pos (aQ es X.env)).any (·.1)=d_):SE X C (.Call (.Name x p) (e::es) [] pos) (.blt bt xs):=
 PE.imp (vt hc Z hm hv ha hn B he O) (pS λρ d fr h=>c5 h)
def zm{T:String}(hc:kj X (.type T) (gL X.K (gZ bt)))(Y:Gl X x)(Z:X.mg x=b_)(hv:bootBuiltins x=a_ (.type T))(ha:SA X C (e::es) xs)(hn:x≠"__name__")(B:(x == ("__debug__":be))=d_)
  (he:aQ (e::es) X.env=(d_,eval e X.env)::aQ es X.env)(O:(backTo pos (aQ es X.env)).any (·.1)=d_):SE X C (.Call (.Name x p) (e::es) [] pos) (.blt bt xs):=
 PE.imp (Iq hc Y Z hv ha hn B he O) (pS λρ d fr h=>c5 h)
end
section
variable{a b:a8}{xs:List Ex}{s:ak}
theorem pI:∀{n:Nat}{ds:List Dat}{j:Nat}{d:Dat},eT n ds=c_->ds[j]?=a_ d->hV n d=c_
 |_,[],_,_,_,e=>by simp at e
 |n,x::xs,0,d,h,e=>by
   simp only[eT,aj]at h;simp at e;subst e;exact h.1
 |n,x::xs,j+1,d,h,e=>by
   simp only[eT,aj]at h;exact pI h.2 (by simpa using e)
theorem qx:∀xs ys:List Dat,nK xs ys=((aO (min xs.length ys.length)).all (λj=>oQ (xs.getD j .non) (ys.getD j .non)) && xs.length == ys.length)
 |[],[]=>by simp[nK]
 |[],y::ys=>by simp[nK]
 |x::xs,[]=>by simp[nK]
 |x::xs,y::ys=>by
   simp only[nK,bx,Nat.succ_min_succ,Nat.succ_eq_add_one];rw[(qx xs ys),CM];simp[Function.comp_def,Rv]
def _root_.L2.Inv.lstR{a:aI}{vs:List V}(I:Inv X h_ σ H s)(g:Good F H)(h:nM X.K F a vs):∃its:List ah,c7 vs its/\PlainL s.heap a its.toArray/\vs.length<=aB:=I.list (g.sub.seq h)
def _root_.L2.Inv.tupR{a:aI}{vs:List V}(I:Inv X h_ σ H s)(g:Good F H)(h:Tq X.K F a vs):∃its:List ah,c7 vs its/\Ag s.heap a its.toArray/\vs.length<=aB:=I.tuple (h.mono g.sub).sq
def _root_.L2.Inv.noLT{a:aI}{vs ws:List V}(I:Inv X h_ σ H s)(g:Good F H)(h:nM X.K F a vs)(h':Tq X.K F a ws):False:=by
 obtain⟨its,_,⟨o,n,e,c,_⟩,_⟩:=I.lstR g h;obtain⟨d,_,⟨o',f,i,_⟩,_⟩:=I.tupR g h'
 grind
mutual
noncomputable def x8:Dat->Bool
 |.dct _ _=>d_
 |.tup xs=>lT xs
 |.lst xs=>lT xs
 |_=>c_
noncomputable def lT:List Dat->Bool
 |[]=>c_
 |x::xs=>x8 x && lT xs
end
mutual
theorem vE:∀(n:Nat)(d:Dat),hV n d=c_->x8 d=c_
 |n,.non,_=>rfl
 |n,.bl _,_=>rfl
 |n,.int _,_=>rfl
 |n,.str _,_=>rfl
 |0,.tup _,h=>by simp[hV]at h
 |0,.lst _,h=>by simp[hV]at h
 |n+1,.tup xs,h=>sS n xs (by simpa [hV]using h)
 |n+1,.lst xs,h=>sS n xs (by simpa [hV]using h)
 |n,.dct _ _,h=>by cases n<;>simp[hV]at h
theorem sS:∀(n:Nat)(ds:List Dat),eT n ds=c_->lT ds=c_
 |n,[],_=>rfl
 |n,d::ds,h=>by
   have h':hV n d=c_/\eT n ds=c_:=by cases n<;>simpa [eT]using h
   simp only[lT,vE n d h'.1,sS n ds h'.2,qO]
end
mutual
theorem Ba(I:Inv X h_ σ H s)(g:Good F H):∀(da B:Dat){x:V},x8 da=c_->x8 B=c_->Rep X.K F da x->Rep X.K F B x->da=B
 |.non,B,x,na,nb,f,d=>by
   rw[f]at d;cases B<;>first|rfl|(cases d;done)|(obtain⟨_,_,z,_⟩:=d;cases z)
 |.bl b,B,x,na,nb,f,d=>by
   rw[f]at d;cases B<;>first|(cases d;done)|(cases d;rfl)|(obtain⟨_,_,z,_⟩:=d;cases z)
 |.int b,B,x,na,nb,f,d=>by
   rw[f]at d;cases B<;>first|(cases d;done)|(cases d;rfl)|(obtain⟨_,_,z,_⟩:=d;cases z)
 |.str b,B,x,na,nb,f,d=>by
   rw[f]at d;cases B<;>first|(cases d;done)|(cases d;rfl)|(obtain⟨_,_,z,_⟩:=d;cases z)
 |.dct _ _,_,_,na,_,_,_=>nomatch na
 |.tup ds,B,x,na,nb,k,d=>by
   obtain⟨p,vs,e,t,r⟩:=k;subst e
   cases B with
   |tup es=>
     obtain⟨q,us,h,t',j⟩:=d;cases h;have ev :=I.nu (t.mono g.sub).sq (t'.mono g.sub).sq;subst ev;rw[sE I g ds es na nb r j]
   |lst es=>
     obtain⟨q,us,h,t',j⟩:=d;cases h;exact(I.noLT g t' t).elim
   |dct _ _=>exact nomatch nb
   |_=>cases d
 |.lst ds,B,x,na,nb,k,d=>by
   obtain⟨p,vs,e,t,r⟩:=k;subst e
   cases B with
   |lst es=>
     obtain⟨q,us,h,t',j⟩:=d;cases h;have ev :=I.nF (g.sub.seq t) (g.sub.seq t');subst ev;rw[sE I g ds es na nb r j]
   |tup es=>
     obtain⟨q,us,h,t',j⟩:=d;cases h;exact(I.noLT g t t').elim
   |dct _ _=>exact nomatch nb
   |_=>cases d
theorem sE(I:Inv X h_ σ H s)(g:Good F H):∀(ds es:List Dat){vs:List V},lT ds=c_->lT es=c_->c9 X.K F ds vs->c9 X.K F es vs->ds=es
 |[],es,vs,na,nb,h,h'=>by
   rw[show vs=[]from h]at h'
   cases es with
   |nil=>rfl
   |cons _ _=>obtain⟨_,_,z,_⟩:=h';cases z
 |d::ds,es,vs,na,nb,l,h'=>by
   obtain⟨v,r,e,h1,h2⟩:=l;subst e
   cases es with
   |nil=>exact nomatch (show v::r=[]from h')
   |cons f fs=>
     obtain⟨n,o,m,j,k⟩:=h';cases m;simp only[lT,aj]at na nb;rw[Ba I g d f na.1 nb.1 h1 j,sE I g ds fs na.2 nb.2 h2 k]
end
mutual
theorem a6:∀d,x8 d=c_->oQ d d=c_
 |.non,_=>rfl
 |.bl _,_=>by simp[oQ]
 |.int _,_=>by simp[oQ]
 |.str _,_=>by simp[oQ]
 |.tup ds,h=>a7 ds h
 |.lst ds,h=>a7 ds h
 |.dct _ _,h=>nomatch h
theorem a7:∀ds,lT ds=c_->nK ds ds=c_
 |[],_=>rfl
 |d::ds,h=>by
   simp only[lT,aj]at h;simp only[nK,aj];exact⟨a6 d h.1,a7 ds h.2⟩
end
theorem a5(I:Inv X h_ σ H s)(g:Good F H){da B:Dat}{x:V}(na:x8 da=c_)(nb:x8 B=c_)(a:Rep X.K F da x)(b:Rep X.K F B x):oQ da B=c_:=by rw[Ba I g da B na nb a b];exact a6 _ nb
def E4(r:c7 vs its)(h:j<its.toArray.size):∃v,vs[j]?=a_ v/\RelV v its.toArray[j]:=by
 have hl:=r.length;have c:j<vs.length:=by simp_all
 obtain⟨u,e,d⟩:=r.get (af c);refine⟨_,af c,?_⟩
 have:its.toArray[j]=u:=by
  have h':j<its.length:=by simpa using h
  simp_all
 rw[this];exact d
def Vf(h:hV n (.dct ks vs)=c_):False:=by
 cases n<;>simp[hV]at h
inductive Vw (s:ak):Dat->ah->Prop
 |non:Vw s .non .none
 |bl (b:Bool):Vw s (.bl b) (.bool b)
 |int (i:Int) (t:ES):Vw s (.int i) (.int i t)
 |str (x:be) (t:ES):Vw s (.str x) (.str x t)
 |tup {ds:List Dat} {p:aI} {its:Array ah}:s.heap.IsTuple p its->Vw s (.tup ds) (.ref p)
 |lst {ds:List Dat} {p:aI} {its:Array ah}:s.heap.IsList p its->Vw s (.lst ds) (.ref p)
def vw(I:Inv X h_ σ H s)(g:Good F H)(sa:hV n da=c_)(B:Rep X.K F da x)(O:RelV x u):Vw s da u:=by
 cases da with
 |non=>cases B;rw[O];exact .non
 |bl b=>cases B;rw[O];exact .bl b
 |int i=>cases B;obtain⟨t,rfl⟩:=O;exact .int i t
 |str z=>cases B;obtain⟨t,rfl⟩:=O;exact .str z t
 |tup ds=>
   obtain⟨p,vs,rfl,t,r⟩:=B;obtain⟨its,c,pl,_⟩:=I.tupR g t;rw[O];exact .tup pl
 |lst ds=>
   obtain⟨p,vs,rfl,t,r⟩:=B;obtain⟨its,c,pl,_⟩:=I.lstR g t;rw[O];exact .lst pl.isList
 |dct _ _=>exact(Vf sa).elim
noncomputable def isT:Dat->Bool
 |.tup _=>c_
 |_=>d_
noncomputable def Ql:Dat->Bool
 |.lst _=>c_
 |_=>d_
def Nc(a b:Dat):Bool:=match a with
 |.tup _=>isT b
 |.lst _=>Ql b
 |_=>d_
def Eq3(A:bX)(s:ak)(u w:ah)(b:Bool):Prop:=Ho A s u w b/\Hn A s u w b/\Au A s u w (!b)
def Mz{A:bX}(B:A.units<dc)(a:Vw s da u)(b:Vw s db w)(h:Nc da db=d_):Eq3 A s u w (oQ da db):=by
 cases a with
 |non=>
   cases b with
   |non=>exact⟨.same _,.none_none,.none_none⟩
   |bl _=>exact⟨.none_bool _,.none_bool _,.none_bool _⟩
   |int _ _=>exact⟨.none_int _ _,.none_int _ _,.none_int _ _⟩
   |str _ _=>exact⟨.none_str _ _,.none_str _ _,.none_str _ _⟩
   |tup q=>exact⟨.none_tuple q B,.none_tuple q B,.none_tuple q B⟩
   |lst q=>exact⟨.none_list q B,.none_list q B,.none_list q B⟩
 |bl _=>
   cases b with
   |non=>exact⟨.bool_none _,.bool_none _,.bool_none _⟩
   |bl _=>exact⟨.bool_bool _ _,.bool_bool _ _,.bool_bool _ _⟩
   |int _ _=>exact⟨.bool_int _ _ _,.bool_int _ _ _,.bool_int _ _ _⟩
   |str _ _=>exact⟨.bool_str _ _ _,.bool_str _ _ _,.bool_str _ _ _⟩
   |tup q=>exact⟨.bool_tuple _ q B,.bool_tuple _ q B,.bool_tuple _ q B⟩
   |lst q=>exact⟨.bool_list _ q B,.bool_list _ q B,.bool_list _ q B⟩
 |int _ _=>
   cases b with
   |non=>exact⟨.int_none _ _,.int_none _ _,.int_none _ _⟩
   |bl _=>exact⟨.int_bool _ _ _,.int_bool _ _ _,.int_bool _ _ _⟩
   |int _ _=>exact⟨.int_int _ _ _ _,.int_int _ _ _ _,.int_int _ _ _ _⟩
   |str _ _=>exact⟨.int_str _ _ _ _,.int_str _ _ _ _,.int_str _ _ _ _⟩
   |tup q=>exact⟨.int_tuple _ _ q B,.int_tuple _ _ q B,.int_tuple _ _ q B⟩
   |lst q=>exact⟨.int_list _ _ q B,.int_list _ _ q B,.int_list _ _ q B⟩
 |str _ _=>
   cases b with
   |non=>exact⟨.str_none _ _,.str_none _ _,.str_none _ _⟩
   |bl _=>exact⟨.str_bool _ _ _,.str_bool _ _ _,.str_bool _ _ _⟩
   |int _ _=>exact⟨.str_int _ _ _ _,.str_int _ _ _ _,.str_int _ _ _ _⟩
   |str _ _=>exact⟨.str_str _ _ _ _,.str_str _ _ _ _,.str_str _ _ _ _⟩
   |tup q=>exact⟨.str_tuple _ _ q B,.str_tuple _ _ q B,.str_tuple _ _ q B⟩
   |lst q=>exact⟨.str_list _ _ q B,.str_list _ _ q B,.str_list _ _ q B⟩
 |tup p=>
   cases b with
   |non=>exact⟨.tuple_none p B,.tuple_none p B,.tuple_none p B⟩
   |bl _=>exact⟨.tuple_bool _ p B,.tuple_bool _ p B,.tuple_bool _ p B⟩
   |int _ _=>exact⟨.tuple_int _ _ p B,.tuple_int _ _ p B,.tuple_int _ _ p B⟩
   |str _ _=>exact⟨.tuple_str _ _ p B,.tuple_str _ _ p B,.tuple_str _ _ p B⟩
   |tup q=>cases h
   |lst q=>exact⟨.tuple_list p q B,.tuple_list p q B,.tuple_list p q B⟩
 |lst p=>
   cases b with
   |non=>exact⟨.list_none p B,.list_none p B,.list_none p B⟩
   |bl _=>exact⟨.list_bool _ p B,.list_bool _ p B,.list_bool _ p B⟩
   |int _ _=>exact⟨.list_int _ _ p B,.list_int _ _ p B,.list_int _ _ p B⟩
   |str _ _=>exact⟨.list_str _ _ p B,.list_str _ _ p B,.list_str _ _ p B⟩
   |tup q=>exact⟨.list_tuple p q B,.list_tuple p q B,.list_tuple p q B⟩
   |lst q=>cases h
def vZ(I:Inv X h_ σ H s)(g:Good F H):∀(n:Nat) (A:bX) (da B:Dat) {x y:V} {u w:ah},A.units+n<dc->hV n da=c_->hV n B=c_->Rep X.K F da x->Rep X.K F B y->RelV x u->RelV y w->
  Eq3 A s u w (oQ da B):=by
 intro n
 induction n with
 |zero=>
   intro A da B x y u w E sa i k l C D;exact Mz E (vw I g sa k C) (vw I g i l D) (by cases da<;>first|rfl|(cases sa;done))
 |succ n S=>
   intro A da B x y u w E sa i k l C D;have c :=aq (aW _ _) E;by_cases hk:Nc da B=d_
   .exact Mz c (vw I g sa k C) (vw I g i l D) hk
   have items:∀{ds es:List Dat} {vs us:List V} {its f:List ah},eT n ds=c_->eT n es=c_->c9 X.K F ds vs->c9 X.K F es us->c7 vs its->c7 us f->
     (∀j(h1:j<its.toArray.size)(h2:j<f.toArray.size),Ho A.in1 s its.toArray[j] f.toArray[j] (oQ (ds.getD j .non) (es.getD j .non)))/\its.toArray.size=ds.length/\f.toArray.size=es.length:=by
    intro ds es vs us its f s1 s2 J L m o;refine⟨λj h1 h2=>?_,by rw[bD,<-m.length,J.length],by rw[bD,<-o.length,L.length]⟩;refine ac λ_ a=>?_;obtain⟨v,e1,T⟩:=E4 m h1;obtain⟨v',e2,U⟩:=E4 o h2;have M:j<ds.length:=by have:=J.length;have:=(aR.mp e1).1;omega
    have N:j<es.length:=by have:=L.length;have:=(aR.mp e2).1;omega
    obtain⟨z1,P,W⟩:=J.get (af M);obtain⟨z2,Q,Y⟩:=L.get (af N);refine a ?_;rw[e1]at P;cases P;rw[e2]at Q;cases Q;have Z:ds.getD j .non=ds[j]:=by simp[List.getD,M]
    have g2:es.getD j .non=es[j]:=by simp[List.getD,N]
    rw[Z,g2];exact(S A.in1 _ _ (by grind) (pI s1 (af M)) (pI s2 (af N)) W Y T U).1
   have both:∀{p q:aI},x=.ref p->y=.ref q->Hn A s (.ref p) (.ref q) (oQ da B)->Au A s (.ref p) (.ref q) (!oQ da B)->Eq3 A s u w (oQ da B):=by
    intro p q e1 e2 h h';subst e1 e2;obtain rfl:u=.ref p:=C;obtain rfl:w=.ref q:=D;refine⟨?_,h,h'⟩;by_cases z:p=q
    .subst z;rw[a5 I g (vE _ _ sa) (vE _ _ i) k l];exact .same _
    .exact .of_refs z h
   cases da with
   |tup ds=>
     cases B with
     |tup es=>
       obtain⟨p,vs,rfl,t,r⟩:=id k;obtain⟨its,m,pl,_⟩:=I.tupR g t;obtain⟨q,us,rfl,t',O⟩:=id l;obtain⟨f,o,d,_⟩:=I.tupR g t';obtain⟨hi,e1,e2⟩:=items sa i r O m o;have h1:=SeqAt.RcAt.tuples pl d c hi;have h2:=SeqAt.RcNeAt.tuples pl d c hi;rw[e1,e2,<-qx]at h1 h2;exact both rfl rfl h1 h2
     |_=>exact absurd rfl hk
   |lst ds=>
     cases B with
     |lst es=>
       obtain⟨p,vs,rfl,t,r⟩:=id k;obtain⟨its,m,pl,_⟩:=I.lstR g t;obtain⟨q,us,rfl,t',O⟩:=id l;obtain⟨f,o,d,_⟩:=I.lstR g t';obtain⟨hi,e1,e2⟩:=items sa i r O m o;have e:=qx ds es;by_cases hsz:its.toArray.size=f.toArray.size
       .have h1:=SeqAt.RcAt.lists pl.isList d.isList hsz c hi;have h2:=SeqAt.RcNeAt.lists pl.isList d.isList hsz c hi;have e3:(ds.length == es.length)=c_:=by simp_all
        rw[e3,iM,<-e1,<-e2,<-hsz,C6]at e;rw[<-e]at h1 h2;exact both rfl rfl h1 h2
       .have R:(its.toArray.size != f.toArray.size)=c_:=by simpa using hsz
        have h1:=SeqAt.RcAt.lists_lengths pl.isList d.isList R c;have e3:(ds.length == es.length)=d_:=by grind
        rw[e3,Ru]at e;refine both rfl rfl ?_ ?_
        .show Hn _ _ _ _ (nK ds es);rw[e];exact h1
        .show Au _ _ _ _ (!nK ds es);rw[e];exact (SeqAt.RcNeAt.lists_lengths pl.isList d.isList R c)
     |_=>exact absurd rfl hk
   |_=>exact absurd rfl hk
end
section
variable{X:Cx}
def Fh (h:a_ (a,b)=a_ (a',b')):a=a'/\b=b':=by simp_all
def Lb:j2 X (binaryOp .Add) (λx y H Q=>∃a b ys,x=.ref a/\y=.ref b/\tG X.K H a []/\tG X.K H b ys/\Q (.ref b) H):=by
 intro h_ s σ H x y v u Q I i j h;refine ac λ_ w=>?_;obtain⟨a,b,ys,rfl,rfl,ha,hb,q⟩:=h;cases i;cases j;obtain⟨its,k,l,_⟩:=I.tuple ha;obtain⟨m,t,o,_⟩:=I.tuple hb;cases k;obtain⟨⟨cls,p,data,sl⟩,ho,hc,n,hd⟩:=id l;obtain⟨⟨g,d,data2,zj⟩,c,e,r,f⟩:=id o;subst hc hd e f;refine w ?_;exact wM ⟨_,ho,rfl⟩ ⟨_,c,rfl⟩ yP Hk nV nc (mQ _ _) (tuple_addW0 a b _ m.toArray n r p d sl zj rfl) ⟨ho,c,.ref b,H,I,rfl,q⟩
set_option tactic.hygienic true
def PD:j2 X (binaryOp .Add) (gB X.K (gp .add)):=by
 intro h_ s σ H x y v u Q I c f h;refine ac λ_ E=>?_;obtain⟨da,N,d,fr,h,F,g,j,m,k⟩:=h;refine E ?_;cases da<;>cases N<;>simp only[gp,M8,reduceCtorEq]at h
 .obtain⟨rfl,rfl⟩:=Fh h;exact U9 h_ s σ H _ _ v u Q I c f ⟨_,_,j,m,k _ F H (Step.refl g) rfl aZ⟩
 .split at h
  .rename_i b;obtain⟨rfl,rfl⟩:=Fh h;exact DM h_ s σ H _ _ v u Q I c f ⟨_,_,j,m,b,k _ F H (Step.refl g) rfl aZ⟩
  .cases h
 .split at h
  .rename_i xs ys b;refine ac λ_ E=>?_;obtain⟨rfl,rfl⟩:=Fh h;obtain⟨p,vs,rfl,t,r⟩:=j;obtain⟨q,us,rfl,t',a⟩:=m;refine E ?_;by_cases G:vs=[]
   .subst G;have e :=uU r.length.symm;subst e;exact Lb h_ s σ H _ _ v u Q I c f ⟨p,q,us,rfl,rfl,(t.mono g.sub).sq,(t'.mono g.sub).sq,k _ F H (Step.refl g) ⟨q,us,rfl,t',a⟩ aZ⟩
   refine Py h_ s σ H _ _ v u Q I c f ⟨p,q,vs,us,rfl,rfl,(t.mono g.sub).sq,(t'.mono g.sub).sq,G,?_,?_,?_⟩
   .rw[r.length,a.length];exact b
   .intro z;subst z;have e :=uU a.length.symm;refine k _ F H (Step.refl g) ⟨p,vs,rfl,t,?_⟩ aZ
    simp_all
   .intro _ l hl;exact k _ _ _ (Step.alloc g hl) ⟨l,vs++us,rfl,.inl cO,(r.append a).mono (cj.upd (g.sub.free hl))⟩ aZ
  .cases h
 .split at h
  .rename_i xs ys b;refine ac λ_ E=>?_;obtain⟨rfl,rfl⟩:=Fh h;obtain⟨p,vs,rfl,t,r⟩:=j;obtain⟨q,us,rfl,t',a⟩:=m;obtain⟨its,J,pl,_⟩:=I.lstR g t;obtain⟨w,L,A,_⟩:=I.lstR g t';obtain rfl:v=.ref p:=c;obtain rfl:u=.ref q:=f;obtain⟨⟨cls,O,data,sl⟩,ho,hc,n,hd⟩:=pl.isList;obtain⟨⟨M,B,data2,zj⟩,i,C,P,D⟩:=A.isList;subst hc hd C D;refine E ?_;refine wM ⟨_,ho,rfl⟩ ⟨_,i,rfl⟩ noFill_list_add seq_list_add PySem.F.slot_list_add PySem.F.entry_list_add (PySem.F.args_list_add_2 _ _) (list_addW p q its.toArray w.toArray n P O B sl zj (by rw[bD,bD,<-J.length,<-L.length,r.length,a.length];exact b)) ⟨ho,i,?_⟩;have R:its.toArray++w.toArray=(its++w).toArray:=by simp
   rw[R];exact⟨.ref _,_,I.YR (J.append L) (by rw[ag,r.length,a.length];exact b),rfl,k _ _ _ (Step.alloc g I.fresh) ⟨_,vs++us,rfl,.inl (.inl cO),((r.append a).mono (cj.upd (o:=.lst (vs++us)) (g.sub.free I.fresh)))⟩ λz=>.lst (cj.refl _) I.fresh (.kT g z (r.append a))⟩
  .cases h
def Lc{op:C2}{o:Xw}{O:Int->Int->Prop}{f:Int->Int->Int}(h:j2 X (binaryOp op) (rI O λi j=>.int (f i j)))
  (hb:∀da B d fr,gp o da B=a_ (d,fr)->∃i j,da=.int i/\B=.int j/\O i j/\d=.int (f i j)/\fr=d_):j2 X (binaryOp op) (gB X.K (gp o)):=
 j2.imp h λx y H Q a=>by
  refine ac λ_ e=>?_;obtain⟨da,B,d,fr,h,F,g,b,c,k⟩:=a;obtain⟨i,j,rfl,rfl,hc,rfl,rfl⟩:=hb da B d fr h;refine e ?_;exact⟨i,j,b,c,hc,k _ F H (Step.refl g) rfl aZ⟩
def Ld{op:C2}{o:Xw}{f:Int->Int->Int}(h:j2 X (binaryOp op) (O4 λi j=>.int (f i j)))
  (hb:∀da B d fr,gp o da B=a_ (d,fr)->∃i j,da=.int i/\B=.int j/\d=.int (f i j)/\fr=d_):j2 X (binaryOp op) (gB X.K (gp o)):=
 j2.imp h λx y H Q a=>by
  refine ac λ_ e=>?_;obtain⟨da,B,d,fr,h,F,g,b,c,k⟩:=a;obtain⟨i,j,rfl,rfl,rfl,rfl⟩:=hb da B d fr h;refine e ?_;exact⟨i,j,b,c,k _ F H (Step.refl g) rfl aZ⟩
def Po:j2 X (binaryOp .Sub) (gB X.K (gp .sub)):=Ld UX λda a d fr h=>by
 cases da<;>cases a<;>simp only[gp,Cz,reduceCtorEq]at h
 simp_all
def PC:j2 X (binaryOp .BitAnd) (gB X.K (gp .band)):=Ld U8 λda a d fr h=>by
 cases da<;>cases a<;>simp only[gp,Cz,reduceCtorEq]at h
 grind
def Pt:j2 X (binaryOp .Mult) (gB X.K (gp .mul)):=by
 intro h_ s σ H x y v u Q I a b h;obtain⟨da,i,d,fr,h,F,g,e,f,k⟩:=h;cases da<;>cases i<;>simp only[gp,M7,reduceCtorEq]at h
 .split at h
  .rename_i c;cases h;exact U0 h_ s σ H _ _ v u Q I a b ⟨_,_,e,f,c,k _ F H (Step.refl g) rfl aZ⟩
  .cases h
 .split at h
  .rename_i z j c;cases h;rw[e]at a;rw[f]at b;obtain⟨t,rfl⟩:=a;obtain⟨t',rfl⟩:=b;exact PySem.SB.mul c λl m=>⟨.str _,H,I.tok m,⟨l,rfl⟩,k _ F H (Step.refl g) rfl aZ⟩
  .cases h
def La:j2 X (binaryOp .FloorDiv) (gB X.K (gp .fdiv)):=Lc Px λda a d fr h=>by
 cases da<;>cases a<;>simp only[gp,Cz,M8,M7,reduceCtorEq]at h
 simp_all
def Pu:j2 X (binaryOp .Mod) (gB X.K (gp .mod)):=Lc U1 λda a d fr h=>by
 cases da<;>cases a<;>simp only[gp,Cz,reduceCtorEq]at h
 simp_all
def Pp:j2 X (binaryOp .RShift) (gB X.K (gp .shr)):=Lc UY λda a d fr h=>by
 cases da<;>cases a<;>simp only[gp,Cz,reduceCtorEq]at h
 simp_all
def kE(h:rM o da db=a_ (d,fr)):∃b,gn o da db=a_ b/\d=.bl b/\fr=d_:=by
 obtain⟨b,h1,h2⟩:=dY h
 grind
def MQ{op:CmpOp}{o:ZV}{f:Int->Int->Bool}(h:j2 X (compareOp op) (O4 λi j=>.bl (f i j)))(hb:∀da B b,gn o da B=a_ b->∃i j,da=.int i/\B=.int j/\b=f i j):j2 X (compareOp op) (gB X.K (rM o)):=
 j2.imp h λx y H Q a=>by
  refine ac λ_ l=>?_;obtain⟨da,B,d,fr,h,F,g,c,e,k⟩:=a;obtain⟨b,hd,rfl,rfl⟩:=kE h;obtain⟨i,j,rfl,rfl,rfl⟩:=hb da B b hd;refine l ?_;exact⟨i,j,c,e,k _ F H (Step.refl g) rfl aZ⟩
def U2:j2 X (compareOp .Lt) (gB X.K (rM .lt)):=MQ Yw λda a b h=>by
 cases da<;>cases a<;>simp only[gn,So,reduceCtorEq]at h
 simp_all
def U5:j2 X (compareOp .Gt) (gB X.K (rM .gt)):=MQ Yx λda a b h=>by
 cases da<;>cases a<;>simp only[gn,So,reduceCtorEq]at h
 simp_all
def U6(B:X.A.units+20<dc):j2 X (compareOp .Eq) (gB X.K (rM .eq)):=λh_ s σ H x y v u Q I c e a=>by
 refine ac λ_ l=>?_;obtain⟨da,f,d,fr,h,F,g,i,j,k⟩:=a;obtain⟨b,hd,rfl,rfl⟩:=kE h;refine l ?_;simp only[gn]at hd;split at hd
 .rename_i hs;cases hd;simp only[aj]at hs;exact(vZ I g 20 X.A da f B hs.1 hs.2 i j c e).2.1 X.prog X.w _ _ ⟨.bl _,H,I,rfl,k _ F H (Step.refl g) rfl aZ⟩
 .cases hd
set_option tactic.hygienic false
end
structure Ow(K:Fg)(H₀ F H:Hp)(σ:St)(ρ:dG)(Ss:Nat->List aI):Prop where
 own:∀(i:Nat)d,ρ[i]?=a_ (a_ (d,c_))->∃v,σ[i]?=a_ (a_ v)/\my K H d v (Ss i)/\(Ss i).Nodup/\∀a∈Ss i,F a=b_/\H₀ a=b_
 sep:∀(i j:Nat)d d',i≠j->ρ[i]?=a_ (a_ (d,c_))->ρ[j]?=a_ (a_ (d',c_))->∀a∈Ss i,a∉Ss j
structure Rl(K:Fg)(Fz H₀ F H:Hp)(σ:St)(ρ:dG):Prop where
 step:Step Fz H₀ F H
 len:σ.length=ρ.length
 val:∀(i:Nat)d,ρ[i]?=a_ (a_ (d,d_))->∃v,σ[i]?=a_ (a_ v)/\Rep K F d v
 ow:∃Ss,Ow K H₀ F H σ ρ Ss
section
variable{K:Fg}{F:Hp}{σ:St}{ρ:dG}
def N7{i:Nat}{d:Dat}(h:(AG ρ)[i]?=a_ (a_ d)):ρ[i]?=a_ (a_ (d,d_)):=by
 unfold AG at h;rw[aP]at h
 cases q:ρ[i]? with
 |none=>rw[q]at h;cases h
 |some o=>
   rw[q]at h;have h':=bG h
   cases o with
   |none=>cases h'
   |some z=>
     obtain⟨d',b⟩:=z
     cases b with
     |true=>cases h'
     |false=>cases h';rfl
def Rl.AG(R:Rl K Fz H₀ F H σ ρ):nO K F σ (AG ρ):=λi d e=>R.val i d (N7 e)
def Ow.moved(O:Ow K H₀ F H σ ρ Ss)(st:Step F H F' H'):Ow K H₀ F' H' σ ρ Ss where
 own:=λi d e=>by
  obtain⟨v,f,b,g,c⟩:=O.own i d e;refine⟨v,f,b.mono st.hh,g,λa m=>⟨?_,(c a m).2⟩⟩;obtain⟨o,ho,_⟩:=b.v3 _ a m;exact st.un a o ho (c a m).1
 sep:=O.sep
def Rl.moved(R:Rl K Fz H₀ F H σ ρ)(st:Step F H F' H'):Rl K Fz H₀ F' H' σ ρ where
 step:=R.step.trans st
 len:=R.len
 val:=λi d e=>let ⟨v,q1,q2⟩:=R.val i d e;⟨v,q1,q2.mono st.ff⟩
 ow:=let ⟨Ss,O⟩:=R.ow;⟨Ss,O.moved st⟩
def F9(i j:Nat)(f:g_->g_):(ρ.modify i f)[j]?=if i=j then(ρ[j]?).map f else ρ[j]? :=by
 by_cases h:i=j
 .simp_all
 simp_all
def jD(q:(ρ.modify i λo=>o.map λs=>(s.1,d_))[j]?=a_ (a_ (d,b))):(i=j/\b=d_/\∃B,ρ[j]?=a_ (a_ (d,B)))\/(i≠j/\ρ[j]?=a_ (a_ (d,b))):=by
 rw[F9]at q;by_cases h:i=j
 .rw[if_pos h]at q;refine .inl ⟨h,?_⟩
  cases z:ρ[j]? with
  |none=>rw[z]at q;cases q
  |some o=>
    rw[z]at q
    cases o with
    |none=>cases q
    |some s=>grind
 .rw[if_neg h]at q;exact .inr ⟨h,q⟩
def Rl.Qu(R:Rl K Fz H₀ F H σ ρ)(i:Nat):∃F',cj F F'/\Rl K Fz H₀ F' H σ (ρ.modify i λo=>o.map λs=>(s.1,d_)):=by
 obtain⟨Ss,O⟩:=R.ow;by_cases ho:∃d,ρ[i]?=a_ (a_ (d,c_))
 .refine ac λ_ B=>?_;obtain⟨d,ho⟩:=ho;obtain⟨v,e1,e2,e3,A⟩:=O.own i d ho;refine B ?_;have g:cj F (fz F H (Ss i)):=qt R.step.good.sub;refine⟨fz F H (Ss i),g,⟨⟨uI R.step.good,R.step.ff.trans g,R.step.hh,λa o q n=>?_⟩,?_,λj d' q=>?_,Ss,λj d' q=>?_,λj k d1 d2 c h l=>?_⟩⟩
  .rw[qu λm=>?_]
   .exact R.step.un a o q n
   simp_all
  .rw[Js];exact R.len
  .rcases jD q with⟨rfl,_,u,b⟩|⟨_,b⟩
   .rw[ho]at b;cases b;exact⟨v,e1,e2.mN R.step.good d λa m=>m⟩
   .obtain⟨w,p,r⟩:=R.val j d' b;exact⟨w,p,r.mono g⟩
  .rcases jD q with⟨_,z,_⟩|⟨t,b⟩
   .cases z
   .obtain⟨w,p,r,y,x⟩:=O.own j d' b;refine⟨w,p,r,y,λa m=>⟨?_,(x a m).2⟩⟩;rw[qu (O.sep j i d' d (dR t) b ho a m)];exact(x a m).1
  .rcases jD h with⟨_,z,_⟩|⟨_,e⟩
   .cases z
   .rcases jD l with⟨_,z,_⟩|⟨_,f⟩
    .cases z
    .exact O.sep j k d1 d2 c e f
 .refine⟨F,cj.refl _,⟨R.step,by rw[Js];exact R.len,λj d' q=>?_,Ss,λj d' q=>?_,λj k d1 d2 c h l=>?_⟩⟩
  .rcases jD q with⟨rfl,_,u,b⟩|⟨_,b⟩
   .cases u with
    |true=>exact absurd ⟨_,b⟩ ho
    |false=>exact R.val _ d' b
   .exact R.val j d' b
  .rcases jD q with⟨_,z,_⟩|⟨_,b⟩
   .cases z
   .exact O.own j d' b
  .rcases jD h with⟨_,z,_⟩|⟨_,e⟩
   .cases z
   .rcases jD l with⟨_,z,_⟩|⟨_,f⟩
    .cases z
    .exact O.sep j k d1 d2 c e f
def Rl.freeze(R:Rl K Fz H₀ F H σ ρ):∀is:List Nat,∃F',cj F F'/\Rl K Fz H₀ F' H σ (mN is ρ):=by
 intro is
 induction is generalizing F ρ with
 |nil=>exact⟨F,cj.refl _,R⟩
 |cons i is a=>
   obtain⟨F1,s1,b⟩:=R.Qu i;obtain⟨c,s2,R2⟩:=a b;exact⟨c,s1.trans s2,R2⟩
theorem GH:∀(is:List Nat)(ρ:dG)(j:Nat),(mN is ρ)[j]?=if j∈is then(ρ[j]?).map (λo=>o.map λs=>(s.1,d_))else ρ[j]?
 |[],ρ,j=>by simp[mN]
 |i::is,ρ,j=>by
   have e:mN (i::is) ρ=mN is (ρ.modify i λo=>o.map λs=>(s.1,d_)):=rfl;rw[e,GH is,F9];by_cases h:i=j
   .subst h;rw[if_pos rfl,if_pos (jy)];by_cases m:i∈is
    .rw[if_pos m]
     cases ρ[i]? with
     |none=>rfl
     |some o=>cases o<;>rfl
    .rw[if_neg m]
   grind
def IU:mN (aO ρ.length) ρ=tw ρ:=by
 apply kc;intro j;rw[GH];unfold tw
 simp_all
def Rl.jb(R:Rl K Fz H₀ F H σ ρ):∃F',cj F F'/\Rl K Fz H₀ F' H σ (tw ρ):=by
 obtain⟨F',s,a⟩:=R.freeze (aO ρ.length);rw[IU]at a;exact⟨F',s,a⟩
def i8(q:(ρ.set i x)[j]?=a_ (a_ (d,b))):(i=j/\x=a_ (d,b))\/(i≠j/\ρ[j]?=a_ (a_ (d,b))):=by
 rw[ng]at q;by_cases h:i=j
 .simp_all
 .rw[if_neg h]at q;exact .inr ⟨h,q⟩
def Rx(hl:i<σ.length):(σ.set i (a_ v))[i]?=a_ (a_ v):=j8 hl
def yh(q:(ρ.set i x)[i]?=a_ y):i<ρ.length:=by
 rw[ng]at q
 simp_all
def Rl.Dv(R:Rl K Fz H₀ F H σ ρ)(r:Rep K F d v):Rl K Fz H₀ F H (σ.set i (a_ v)) (ρ.set i (a_ (d,d_))):=by
 obtain⟨Ss,O⟩:=R.ow;refine⟨R.step,by simpa using R.len,λj d' q=>?_,Ss,λj d' q=>?_,λj k d1 d2 a l m=>?_⟩
 .rcases i8 q with⟨rfl,e⟩|⟨b,c⟩
  .cases e;exact⟨v,Rx (by rw[R.len];exact yh q),r⟩
  .obtain⟨w,n,f⟩:=R.val j d' c;exact⟨w,by simp_all,f⟩
 .rcases i8 q with⟨rfl,e⟩|⟨b,c⟩
  .cases e
  .obtain⟨w,n,f⟩:=O.own j d' c;exact⟨w,by simp_all,f⟩
 .rcases i8 l with⟨_,e⟩|⟨_,g⟩
  .cases e
  .rcases i8 m with⟨_,e⟩|⟨_,h⟩
   .cases e
   .exact O.sep j k d1 d2 a g h
def Rl.T5(R:Rl K Fz H₀ F H σ ρ)(O:Ow K H₀ F H σ ρ Ss)(o:my K H d v S)(nd:S.Nodup)(Y:∀a∈S,F a=b_/\H₀ a=b_)
  (B:∀(j:Nat)d',i≠j->ρ[j]?=a_ (a_ (d',c_))->∀a∈Ss j,a∉S):Rl K Fz H₀ F H (σ.set i (a_ v)) (ρ.set i (a_ (d,c_))):=by
 refine⟨R.step,by simpa using R.len,λj d' q=>?_,λj=>if j=i then S else Ss j,λj d' q=>?_,λj k d1 d2 f n p=>?_⟩
 .rcases i8 q with⟨rfl,e⟩|⟨b,g⟩
  .cases e
  .obtain⟨w,r,h⟩:=R.val j d' g;exact⟨w,by simp_all,h⟩
 .rcases i8 q with⟨rfl,e⟩|⟨b,g⟩
  .cases e;rw[if_pos rfl];exact⟨v,Rx (by rw[R.len];exact yh q),o,nd,Y⟩
  .obtain⟨w,r,h⟩:=O.own j d' g;rw[if_neg (dR b)];exact⟨w,by simp_all,h⟩
 .intro a m
  rcases i8 n with⟨rfl,e⟩|⟨h1,c⟩
  .grind
  .rw[if_neg (dR h1)]at m
   rcases i8 p with⟨rfl,e⟩|⟨h2,l⟩
   .rw[if_pos rfl];exact B j d1 h1 c a m
   .rw[if_neg (dR h2)];exact O.sep j k d1 d2 f c l a m
def Rl.full{K:Fg}(R:Rl K Fz H₀ F H σ (tw ρ)):nO K F σ (M.full ρ):=by rw[<-De];exact R.AG
def uz(F:Hp)(S:List aI):Hp:=λa=>if a∈S then b_ else F a
def xM(h:a∈S):uz F S a=b_:=if_pos h
def oY(h:a∉S):uz F S a=F a:=if_neg h
def Step.aaq(st:Step F H F' H')(g:Good F H)(B:∀a∈S,H a=b_)(o:my K H' d v S):Step F H (uz F' S) H':=by
 refine⟨⟨λa o' q=>?_,λa vs q=>?_⟩,λa o' q=>?_,st.hh,λa o' q n=>?_⟩
 .by_cases m:a∈S
  .rw[xM m]at q;cases q
  .rw[oY m]at q;exact st.good.sub a o' q
 .rw[oY λm=>?_]
  .exact st.good.tup a vs q
  .obtain⟨u,b,c⟩:=o.v3 _ a m;rw[q]at b;cases b;exact c
 .rw[oY λm=>?_]
  .exact st.ff a o' q
  .rw[g.sub.free (B a m)]at q;cases q
 .by_cases m:a∈S
  .exact xM m
  .rw[oY m];exact st.un a o' q n
def GK(R:Rl K Fz H₀ F H σ ρ)(h:NB C e ρ=a_ (d,fr,ρ'))
  (k:∀v Fm F' H',cj F Fm->Rl K Fz H₀ Fm H σ ρ'->Step Fm H F' H'->Rep K F' d v->(fr=c_->gf K H H' d v)->Q v H'):∃B,bp C e B=a_ (d,fr)/\tE K B d fr σ H Q:=by
 obtain⟨⟨d1,s⟩,h2,h⟩:=c5 h;dsimp only at h;by_cases c:(im d1 || s)=c_
 .rw[if_pos c]at h;have hh:d=d1/\fr=s/\ρ'=ρ:=by grind
  obtain⟨i,j,l⟩:=hh;subst i j l;obtain⟨x,sp,t⟩:=R.jb;refine⟨_,h2,x,t.step.good,t.full,λv F1 g st r f=>?_⟩;have b:=Step.shrink R.step.good sp st
  cases hi:im d with
  |true=>exact k v F (shr F H F1) g (cj.refl _) R b (r.shrink R.step.good st d hi) f
  |false=>
    rw[hi]at c;obtain⟨S,n,e1,o⟩:=f c;have p:Step F H (fz (shr F H F1) g S) g:=by
     refine⟨(uI (S:=S) b.good),b.ff.trans (qt b.good.sub),b.hh,λa u q nn=>?_⟩;rw[qu λm=>?_]
     .exact b.un a u q nn
     grind
    exact k v F _ g (cj.refl _) R p (o.mN b.good d λa m=>m) f
 .rw[if_neg c]at h;obtain⟨⟨d2,z⟩,h3,h⟩:=dY h;cases h;obtain⟨w,s2,R2⟩:=R.freeze e.fv;exact⟨_,h3,w,R2.step.good,R2.AG,λv F' H' st r f=>k v w F' H' s2 R2 st r f⟩
def zM(R:Rl K Fz H₀ F H σ ρ)(h:NB C e ρ=a_ (d,fr,ρ'))
  (k:∀v Fm F' H',cj F Fm->Rl K Fz H₀ Fm H σ ρ'->Step Fm H F' H'->Rep K F' d v->(fr=c_->gf K H H' d v)->Q v H'):gE K C e σ H Q:=
 let ⟨ρe,h1,h2⟩:=GK R h k;⟨ρe,d,fr,h1,h2⟩
end
def vU(K:Fg)(Fz H₀ F:Hp)(D:Ends):Out->Prop
 |.nx ρ'=>∀F' H' a,cj F F'->Rl K Fz H₀ F' H' a ρ'->D.nx a H'
 |.bk ρ'=>∀F' H' a,cj F F'->Rl K Fz H₀ F' H' a ρ'->D.bk a H'
 |.ct ρ'=>∀F' H' a,cj F F'->Rl K Fz H₀ F' H' a ρ'->D.ct a H'
 |.rt d fr=>∀v F' H',Step Fz H₀ F' H'->Rep K F' d v->(fr=c_->gf K H₀ H' d v)->D.rt v H'
def vU.mono{K:Fg}{F1:Hp}{D:Ends}(s:cj F F1)(h:vU K Fz H₀ F D o):vU K Fz H₀ F1 D o:=by
 cases o with
 |nx ρ'=>exact λF' H' a s' R=>h F' H' a (s.trans s') R
 |bk ρ'=>exact λF' H' a s' R=>h F' H' a (s.trans s') R
 |ct ρ'=>exact λF' H' a s' R=>h F' H' a (s.trans s') R
 |rt d fr=>exact h
def gS(K:Fg)(C:Fs)(x:Sx):TS:=λD σ H=>∃Fz H₀ F ρ out,oE C x ρ=a_ out/\Rl K Fz H₀ F H σ ρ/\vU K Fz H₀ F D out
def gSs(K:Fg)(C:Fs)(xs:List Sx):TS:=λD σ H=>∃Fz H₀ F ρ out,eC C xs ρ=a_ out/\Rl K Fz H₀ F H σ ρ/\vU K Fz H₀ F D out
abbrev SS(X:Cx)(C:Fs)(st:lz)(x:Sx):Prop:=PS X st (gS X.K C x)
abbrev NC(X:Cx)(C:Fs)(st:List lz)(xs:List Sx):Prop:=An X st (gSs X.K C xs)
section
variable{X:Cx}{Jz:a8}{st:lz}{pos:xv}
def Oi:NC X C [] []:=An.imp Pb λD σ H a=>by
 obtain⟨Fz,H₀,F,ρ,out,h,R,k⟩:=a;cases h;exact k F H σ (cj.refl _) R
def J7(h1:SS X C st x)(h2:NC X C sts xs):NC X C (st::sts) (x::xs):=An.imp (KN h1 h2) λD σ H a=>by
 refine ac λ_ f=>?_;obtain⟨Fz,H₀,F,ρ,out,h,R,k⟩:=a;obtain⟨o,ho,h⟩:=c5 h;refine f ?_;refine⟨Fz,H₀,F,ρ,o,ho,R,?_⟩
 cases o with
 |nx ρ1=>exact λF1 e b s1 c=>⟨Fz,H₀,F1,ρ1,out,h,c,k.mono s1⟩
 |bk ρ1=>cases h;exact k
 |ct ρ1=>cases h;exact k
 |rt d fr=>cases h;exact k
def Ts{st:lz}:SS X C st .Nu:=λh_ s σ H D I a=>by
 obtain⟨Fz,H₀,F,ρ,out,h,R,k⟩:=a;cases h
def Tu(he:SE X C e xe):SS X C (.Return (a_ e) pos) (.ret xe):=PS.imp (DG he) λD σ H b=>by
 refine ac λ_ g=>?_;obtain⟨Fz,H₀,F,ρ,out,h,R,k⟩:=b;obtain⟨⟨d,fr⟩,h1,h⟩:=dY h;cases h;obtain⟨c,sp,a⟩:=R.jb;refine g ?_;exact⟨_,d,fr,h1,c,a.step.good,a.full,λv F' H' st r f=>k v F' H' (a.step.trans st) r λz=>(f z).back (F:=F) R.step.hh⟩
def Om{i:Nat}{x:be}{p:xv}(Y:X.N[i]?=a_ x)(Z:Q2 X.env.scope x)(hd:(x == ("__debug__":be))=d_)(B:(x == ("__classdict__":be))=d_):SS X C (.Return (a_ (.Name x p)) pos) (.oI i):=
 PS.imp (DG (qo Y Z hd B)) λD σ H e=>by
  obtain⟨Fz,H₀,F,ρ,out,h,R,k⟩:=e;obtain⟨⟨d,b⟩,h1,h⟩:=dY h;cases h
  have c:ρ[i]?=a_ (a_ (d,b)):=by
   cases q:ρ[i]? with
   |none=>rw[q]at h1;cases h1
   |some z=>simp_all
  cases b with
  |false=>
    obtain⟨v,e1,r⟩:=R.val i d c;exact⟨v,e1,k v F H R.step r aZ⟩
  |true=>
    obtain⟨Ss,O⟩:=R.ow;obtain⟨v,e1,e2,e3,f⟩:=O.own i d c;have st:Step Fz H₀ (fz F H (Ss i)) H:=by
     refine⟨uI R.step.good,R.step.ff.trans (qt R.step.good.sub),R.step.hh,λa o q n=>?_⟩;rw[qu λm=>?_]
     .exact R.step.un a o q n
     simp_all
    exact⟨v,e1,k v _ H st (e2.mN R.step.good d λa m=>m) λ_=>⟨Ss i,e3,λa m=>(f a m).2,e2⟩⟩
def TC(he:SE X C e xe)(hs:swapsWith e b_ pos.line X.env=pure d_):SS X C (.Expr e pos) (.exp xe):=PS.imp (qZ he hs) λD σ H b=>by
 refine ac λ_ i=>?_;obtain⟨Fz,H₀,F,ρ,out,h,R,k⟩:=b;obtain⟨⟨d,fr⟩,h1,h⟩:=dY h;cases h;obtain⟨c,sp,a⟩:=R.jb;refine i ?_;exact⟨_,d,fr,h1,c,a.step.good,a.full,λv F1 g st r f=>k (shr F H F1) g σ (Step.shrink R.step.good sp st).ff (R.moved (Step.shrink R.step.good sp st))⟩
def XX(hc:ST X C Jz xc)(ha:NC X C sa ya)(hb:NC X C sb yb):SS X C (.If Jz sa sb pos) (.ifs xc ya yb):=PS.imp (Yo hc ha hb) λD σ H c=>by
 refine ac λ_ i=>?_;obtain⟨Fz,H₀,F,ρ,out,h,R,k⟩:=c;obtain⟨⟨d,fr⟩,h1,h⟩:=c5 h;obtain⟨z,e,h⟩:=c5 h;obtain⟨f,sp,b⟩:=R.jb;refine i ?_;refine⟨_,d,fr,z,h1,e,f,b.step.good,b.full,λF1 g st=>?_⟩;have a:=Step.shrink R.step.good sp st
 cases z with
 |true=>
   exact D1 ⟨Fz,H₀,_,ρ,out,h,R.moved a,k.mono a.ff⟩
 |false=>
   exact D2 ⟨Fz,H₀,_,ρ,out,h,R.moved a,k.mono a.ff⟩
def HM{D:Ends}(R:Rl X.K Fz H₀ F H σ ρ)(h1:NB C xe ρ=a_ (d,fr,ρ'))(k:vU X.K Fz H₀ F D (.nx (ρ'.set i (a_ (d,fr && !im d))))) :
  ∃B,bp C xe B=a_ (d,fr)/\tE X.K B d fr σ H (λv H'=>D.nx (σ.set i (a_ v)) H'):=by
 refine GK R h1 λv Fm F' H' h c st r f=>?_;have k' :=k
 cases e:fr && !im d with
 |false=>
   rw[e]at k';exact k' F' H' _ (h.trans st.ff) ((c.moved st).Dv r)
 |true=>
   rw[e]at k';simp only[aj]at e;obtain⟨S,nd,e1,o⟩:=f e.1;have b:=Step.aaq st c.step.good e1 o;obtain⟨n,l⟩:=c.ow;refine k' (uz F' S) H' _ (h.trans b.ff) ((c.moved b).T5 (l.moved b) o nd (λa m=>⟨xM m,R.step.hh.free (e1 a m)⟩) λj d2 _ q a m1 m2=>?_);obtain⟨s,p,g,_,_⟩:=l.own j d2 q;obtain⟨u,t,_⟩:=g.v3 _ a m1
   simp_all
def AW(B:∀σ H Q,gE X.K C xe σ H Q->te σ H Q):∀D σ H,gS X.K C (.set i xe) D σ H->HG te (lp i) D σ H:=λD σ H b=>by
 refine ac λ_ c=>?_;obtain⟨Fz,H₀,F,ρ,out,h,R,k⟩:=b;obtain⟨⟨d,fr,ρ'⟩,h1,h⟩:=dY h;cases h;obtain⟨a,e1,e2⟩:=HM R h1 k;refine c ?_;exact B _ _ _ ⟨a,d,fr,e1,e2⟩
def Ka{i:Nat}{x:be}(B:X.N.Nodup)(hi:X.N[i]?=a_ x)(O:Loc X.env.scope x)(he:SE X C e xe)(hs:swapsWith e (a_ (.Name x pos')) pos.line X.env=pure d_)
  (hf:X.fn x=c_\/X.env.scope.names.lookup x=a_ .local):SS X C (.Assign [.Name x pos'] e pos) (.set i xe):=
 PS.imp (UI B hi O he hs hf) (AW λ_ _ _ h=>h)
end
end M
namespace L2
open PySem PySem.Spec PyProof.Rows
noncomputable def fx(X:Cx)(scope:m7)(cl:List (be×aI))(N:List be)(B:ak)(O:Hp)(C:aI)(ex:List aI):Cx:=
 { X with N:=N,s₀:=B,H₀:=O,env:=compEnvC scope cl C X.env,outer:=X.stack,stack:=X.stack,ex:=ex,fn:=λ_=>d_,pn:=[],xe:=λ_ _=>False }
def ND(X:Cx)(ifs:List a8)(t:TT):Prop:=
 ∀(h_:List (aI×lA))(s:ak)(σ:St)(H:Hp)(Q:Bool->Hp->Prop),Inv X h_ σ H s->t σ H Q->
  aF (aG X.prog X.w) X.A (forIn ifs c_ λc r=>if r=c_ then do let ok <-isTrue c X.env (eval c X.env);pure (jk ok)else pure (jk r)) (TP X h_ σ Q) X.xe s
def O9:ND X [] (λ_ H Q=>Q c_ H):=λ_ _ _ H _ I h=>wpAny_tests_nil ⟨H,I,h⟩
def O8(h:PT X c t):ND X [c] t:=λh_ s σ H Q I a=>wpAny_tests_one (h h_ s σ H Q I a)
def iX(nt:Nat)(caps:List Nat)(σ:St):St:=dZ nt b_++caps.map λj=>(σ[j]?).join
def J3(wi:TI)(nt:Nat)(caps:List Nat)(g:TG)(B:TT)(te:TE):TE:=λσ H Q=>wi σ H λJ d=>∃W:Nat->Nat->List V->Hp->Prop,(∃m,W 0 m [] d)/\∀i m ys H,W i m ys H->
 (J.stop i H/\ys.length<=aB/\∀p,H p=b_->Q (.ref p) (upd H p (.lst ys)))\/
 (J.go i H/\ys.length<aB/\∀x H',J.yld i H x H'->g x (iX nt caps σ) H' λσ2 H2=>B σ2 H2 λb c=>
  if b=c_ then te σ2 c λy H4=>∃a,a<m/\W (i+1) a (ys++[y]) H4 else ∃a,a<m/\W (i+1) a ys c)
structure jF(X:Cx)(scope:m7)(tn cn:List be)(caps:List Nat):Prop where
 kind:scope.kind=.function
 nocell:∀y∈scope.names,y.2≠.cell
 locs:∀y∈scope.names,y.2=.local->scope.names.lookup y.1=a_ .local
 frees:∀y∈scope.names,y.2=.free->X.env.kindOf y.1=a_ .cell\/X.env.kindOf y.1=a_ .free
 nofree:∀x,scope.names.lookup x=a_ .free->(x,eO)∈scope.names
 caps:caps.map (λj=>X.N[j]?)=cn.map a_
 capk:∀x∈cn,X.env.kindOf x=a_ .cell\/X.env.kindOf x=a_ .free
 capn:∀x∈cn,scope.names.lookup x=a_ .free
theorem vm{env:Ri}(x:be):∀names:List (be×kZ),(names.map λ(n,k)=>if(k == eO && env.scope.kind == .function && env.kindOf n == a_ .cell)then(n,mG)else(n,k)).lookup x =
  (names.lookup x).map λk=>if(k == eO && env.scope.kind == .function && env.kindOf x == a_ .cell)then mG else k
 |[]=>rfl
 |(n,k)::r=>by
   by_cases a:x=n
   .subst a;simp only[aA,List.lookup_cons_self,cA];split<;>simp
   .have hb:(x == n)=d_:=by simpa using a
    rw[fP,hb,<-vm x r,aA];dsimp only;split<;>rw[fP,hb]
def o7(x:be):(relabel scope env).names.lookup x=(scope.names.lookup x).map λk=>if(k == eO && env.scope.kind == .function && env.kindOf x == a_ .cell)then mG else k:=vm x scope.names
def zp{scope:m7}(hc:∀y∈scope.names,y.2≠mG)(h:(relabel scope env).names.lookup x=a_ .cell\/(relabel scope env).names.lookup x=a_ .free):scope.names.lookup x=a_ .free:=by
 rw[o7]at h
 cases q:scope.names.lookup x with
 |none=>rw[q]at h;simp at h
 |some k=>
   rw[q]at h;simp only[cA,hZ]at h;by_cases hk:k=.free
   .rw[hk]
   .have hb:(k == eO)=d_:=by simpa using hk
    rw[hb]at h
    rcases h with h|h
    .subst h;exact absurd rfl (hc (x,.cell) (g8 q))
    .exact absurd h hk
def qY{scope:m7}(h:scope.names.lookup x=a_ .free):(relabel scope env).names.lookup x≠a_ .local:=by
 rw[o7,h];simp only[cA,ne_eq,hZ];split<;>(intro z;cases z)
section
variable{X:Cx}{h_:List (aI×lA)}{σ:St}{H:Hp}
theorem qz{env:Ri}:∀(names:List (be×kZ)) (cs:List (be×aI)),(∀y∈names,y.2=.free->∃c,env.cells.lookup y.1=a_ c)->(∀n c,cs.lookup n=a_ c->env.cells.lookup n=a_ c)->
  ∃cl:List (be×aI),(forIn (m:=Av) names cs λx r=>if(x.2 == eO)=c_ then do let a <-cellOf env x.1;pure (jk ((x.1,a)::r))else pure (jk r))=pure cl/\(∀n c,cl.lookup n=a_ c->env.cells.lookup n=a_ c)/\
   (∀n c,cs.lookup n=a_ c->∃B,cl.lookup n=a_ B)/\∀n,(n,eO)∈names->∃c,cl.lookup n=a_ c
 |[],cs,_,h2=>⟨cs,rfl,h2,λn c e=>⟨c,e⟩,λn z=>nomatch z⟩
 |(n,k)::r,cs,h1,h2=>by
   by_cases hk:k=.free
   .refine ac λ_ o=>?_;subst hk;obtain⟨c,hc⟩:=h1 (n,.free) jy rfl
    have b:cellOf env n=pure c:=by
     unfold cellOf;rw[hc]
    obtain⟨cl,e,f,g,h⟩:=qz r ((n,c)::cs) (λy i=>h1 y (ki _ i)) (λm d e=>by
     grind)
    refine o ?_;refine⟨cl,?_,f,λm d hd=>?_,λm j=>?_⟩
    .rw[wF];simp only[beq_self_eq_true,if_true,b,pure_bind];exact e
    .by_cases l:m=n
     .simp_all
     .have:(m == n)=d_:=by simpa using l
      exact g m d (by rw[fP,this];exact hd)
    .rcases au.mp j with z|z
     .simp_all
     .exact h m z
   .obtain⟨cl,e,f,g,h⟩:=qz r cs (λy i=>h1 y (ki _ i)) h2;refine⟨cl,?_,f,g,λm j=>?_⟩
    .simp_all
    .rcases au.mp j with z|z
     .grind
     .exact h m z
def v9(ok:X.Ok)(S:jF X scope tn cn caps):∃cl:List (be×aI),closureFor scope X.env=pure cl/\(∀n c,cl.lookup n=a_ c->X.env.cells.lookup n=a_ c)/\∀n,(n,eO)∈scope.names->∃c,cl.lookup n=a_ c:=by
 obtain⟨cl,e,a,_,b⟩:=qz scope.names [] (λy d hk=>ok.has y.1 (S.frees y d hk)) (λn c e=>by simp at e);refine⟨cl,?_,a,b⟩;unfold closureFor;rw[bind_pure];exact e
def Inv.JZ{D:aI}(I:Inv X h_ σ H s)(B:rR X h_ H D)(hs:X.s₀.heap.objs.size<=D)(new:kU X.prog X.w (upd H D o) s.heap D o):Inv X h_ σ (upd H D o) s:=by
 obtain⟨d,h,hf,_,hc,hp⟩:=B
 have g:∀b a,X.s₀.heap.get? b=a_ a->b≠D:=λb a e z=>by
  subst z;exact absurd (bc (hl9 e) hs) (bI _)
 refine⟨I.ok,I.os,I.bare,⟨I.base.keep,I.base.slot,λb a e n i=>?_,I.base.there,λb xs e=>?_,λb a u e=>?_,λb ps e=>?_⟩,I.loc,I.cell,?_,λx c e=>?_,λp f=>?_,λb u e=>?_,I.len⟩
 .rw[cZ (g b a e)];exact I.base.free b a e n i
 .rw[cZ (eQ (I.base.tups b xs e) d)];exact I.base.tups b xs e
 .rw[cZ (eQ (I.base.frzs b a u e) d)];exact I.base.frzs b a u e
 .obtain⟨m,q⟩:=I.base.tbls b ps e;exact⟨m,by rw[cZ (eQ q d)];exact q⟩
 .rw[cZ (dR h)];exact I.free
 .rw[cZ (hc x c e)];exact I.freeC x c e
 .obtain⟨j,k,l,r,t⟩:=I.pin p f;exact⟨j,by rw[cZ (hp p f)];exact k,l,r,t⟩
 .by_cases hb:b=D
  .subst hb;rw[cO]at e;cases e;exact new
  .rw[cZ hb]at e;exact(I.hok b u e).oH (λ_ _ _ q=>q) (λc q=>by rw[cZ (eQ q d)];exact q) λc xs q=>by rw[cZ (eQ q d)];exact q
def pq{iter:a8}{ifs:List a8}(J:Nat->ak->Prop)
  (turn:∀n s,J n s->aF (aG prog w) A (pyNext it) (λr s₁=>match r with
   |none=>R (.ok .next) s₁
   |some v=>aF (aG prog w) A (letOwnedTupleGo target it v) (λ_ B=>aF (aG prog w) A (assign target env v) (λ_ Y=>
     aF (aG prog w) A (forIn ifs c_ λc r=>if r=c_ then do let ok <-isTrue c env (eval c env);pure (jk ok)else pure (jk r)) (λok O=>
      if ok=c_ then aF (aG prog w) A (eval elt env) (λx Z=>
       aF (aG prog w) A (call (.builtin "list.append") [acc,x]) (λ_ s₅=>∃m,m<n/\J m s₅) (λ_ _=>False) Z) (λ_ _=>False) O
      else ∃m,m<n/\J m O) (λ_ _=>False) Y) (λ_ _=>False) B) (λ_ _=>False) s₁) (λ_ _=>False) s)
  (n:Nat)(h:J n s) :
  codeAny (aG prog w) A (.compLoop (.ListComp elt [⟨target,iter,ifs,0⟩] scope pos) 0 it acc env) R s:=by
 refine codeAny_loop rfl J (λn s i=>?_) n h;refine wpAny_noted ?_;rw[compTurn_list];refine wb9 (Hg (wb9 (dE (turn n s i) (λr s₁ a=>?_) λ_ _ h'=>h'.elim)))
 cases r with
 |none=>exact wu9 a
 |some v=>
   refine wb9 (dE a (λ_ B d=>?_) λ_ _ h'=>h'.elim);refine wb9 (dE d (λ_ Y e=>wb9 (dE e (λok O b=>?_) λ_ _ h'=>h'.elim)) λ_ _ h'=>h'.elim)
   cases ok with
   |false=>exact wu9 ⟨rfl,b⟩
   |true=>
     exact wb9 (wb9 (dE b (λx Z f=>wb9 (dE f (λ_ s₅ g=>wu9 (wu9 ⟨rfl,g⟩)) λ_ _ h'=>h'.elim)) λ_ _ h'=>h'.elim))
def qd(nt:Nat)(g:TG):Prop:=∀x σ H Q,g x σ H Q->g x σ H λσ2 H2=>Q σ2 H2/\σ2.length=σ.length/\∀i,nt<=i->σ2[i]?=σ[i]?
def uZ(h:i<nt):qd nt (lp i):=λx σ H Q q=>by
 refine⟨q,by simp,λj a=>?_⟩;rw[lj (λz=>(aS h (aa a (ae z.symm))))]
def wo(nt:Nat)(g:SH):Prop:=∀xs σ H Q,g xs σ H Q->g xs σ H λσ2 H2=>Q σ2 H2/\σ2.length=σ.length/\∀i,nt<=i->σ2[i]?=σ[i]?
def HF:wo nt IS:=λxs σ H Q ⟨e,q⟩=>⟨e,q,rfl,λ_ _=>rfl⟩
def Dj(mono:∀x σ H Q Q',(∀σ2 H2,Q σ2 H2->Q' σ2 H2)->t x σ H Q->t x σ H Q')(B:∀x σ H Q Q',(∀σ2 H2,Q σ2 H2->Q' σ2 H2)->u x σ H Q->u x σ H Q')(ht:qd nt t)(O:wo nt u):wo nt (yr t u):=λxs σ H Q a=>by
 obtain⟨v,r,e,q⟩:=a;refine⟨v,r,e,?_⟩;exact mono _ _ _ _ _ (λσ2 H2 ⟨b,c,s2⟩=>B _ _ _ _ _ (λd h ⟨f,g,s3⟩=>⟨f,g.trans c,λi hi=>(s3 i hi).trans (s2 i hi)⟩) (O _ _ _ _ b)) (ht _ _ _ _ q)
def HE{K:aN}(B:wo nt u):qd nt (Mj K n u):=λx σ H Q ⟨a,xs,e,h1,h2,q⟩=>⟨a,xs,e,h1,h2,B _ _ _ _ q⟩
def vT:∀x σ H Q Q',(∀σ2 H2,Q σ2 H2->Q' σ2 H2)->lp i x σ H Q->lp i x σ H Q':=λ_ _ _ _ _ h q=>h _ _ q
def IQ:∀x σ H Q Q',(∀σ2 H2,Q σ2 H2->Q' σ2 H2)->IS x σ H Q->IS x σ H Q':=λ_ _ _ _ _ h q=>⟨q.1,h _ _ q.2⟩
def Ef(B:∀x σ H Q Q',(∀σ2 H2,Q σ2 H2->Q' σ2 H2)->t x σ H Q->t x σ H Q')(O:∀x σ H Q Q',(∀σ2 H2,Q σ2 H2->Q' σ2 H2)->u x σ H Q->u x σ H Q') :
  ∀x σ H Q Q',(∀σ2 H2,Q σ2 H2->Q' σ2 H2)->yr t u x σ H Q->yr t u x σ H Q':=λ_ _ _ _ _ h ⟨v,r,e,q⟩=>⟨v,r,e,B _ _ _ _ _ (λ_ _ a=>O _ _ _ _ _ h a) q⟩
def BE(X:Cx)(h_:List (aI×lA))(σ:St)(Q:VK)(B:ah)(C:aI)(r:Result)(s':ak):Prop:=
 r=.ok .next/\∃D H',B=.ref D/\(∃m,s'.heap.Ns C m)/\Inv X h_ σ H' s'/\rR X h_ H' C/\Q (.ref D) H'
def v8{iter:a8}{ifs:List a8}{cl:List (be×aI)}
  (hcalm:X.calm=c_)(S:jF X scope tn cn caps)(O:∀n c,cl.lookup n=a_ c->X.env.cells.lookup n=a_ c)(hhas:∀n,(n,eO)∈scope.names->∃c,cl.lookup n=a_ c)
  (hg:∀(cl:List (be×aI))(B:ak)(Z:Hp)(C:aI)(ex:List aI),PG (fx X scope cl (tn++cn) B Z C ex) tg g)(touch:qd tn.length g)
  (ht:∀(cl:List (be×aI))(B:ak)(Z:Hp)(C:aI)(ex:List aI),ND (fx X scope cl (tn++cn) B Z C ex) ifs tt)
  (he:∀(cl:List (be×aI))(B:ak)(Z:Hp)(C:aI)(ex:List aI),PE (fx X scope cl (tn++cn) B Z C ex) elt te)
  (hi:PIE X h_ σ tg (λJ H1=>∃W:Nat->Nat->List V->Hp->Prop,(∃m,W 0 m [] H1)/\∀i m ys H,W i m ys H->
   (J.stop i H/\ys.length<=aB/\∀p,H p=b_->Q (.ref p) (upd H p (.lst ys)))\/
   (J.go i H/\ys.length<aB/\∀x H',J.yld i H x H'->g x (iX tn.length caps σ) H' λσ2 H2=>tt σ2 H2 λb H3=>
    if b=c_ then te σ2 H3 λy H4=>∃m',m'<m/\W (i+1) m' (ys++[y]) H4 else ∃m',m'<m/\W (i+1) m' ys H3)) itv B) :
  aF (aG X.prog X.w) X.A (newList []) (λacc s₃=>aF (aG X.prog X.w) X.A (newFunctionEnv scope X.env.globals cl [] X.env.qual b_ .none (a_ X.env)) (λcenv s₄=>
   codeAny (aG X.prog X.w) X.A (.compStart (.ListComp elt [⟨tg,iter,ifs,0⟩] scope pos) 0 itv acc { cenv with scope:=relabel scope X.env }) (BE X h_ σ Q acc cenv.locals) s₄) E s₃) E B:=by
 refine ac fun Pq kq => ?_; obtain⟨it,fp,tnn,J,H2,e,f,T,st2,f2,W,⟨m0,w0⟩,turn⟩:=hi;subst e;refine kq ?_; refine dI (wpAny_newFunctionEnv S.nocell (by intro y hy;simp at hy) (λh₁ L t=>?_) S.kind);generalize hH2:B.heap.push { cls:=.type "list",dict:=b_,data:=.seq ([]).toArray }=G2 at L t ⊢;have hC:G2.objs.size=B.heap.objs.size+1:=by rw[<-hH2,eR]
 have hDC:B.heap.objs.size≠G2.objs.size:=by rw[hC];exact bw (jq _)
 have old :=λb o e=>t.extBut b o (by rw[hC];exact bw (ku (hl9 e))) (hp9 _ (hH2▸hp9 _ e));have hacc :=t.extBut _ _ hDC (hp9 _ (hH2▸aK _ rfl));generalize s:B.heap.objs.size=D at *;generalize hCd:G2.objs.size=C at *;have R:D<C:=by rw[hC];exact jq _
 have hDD :=s;have wI:∀b o,B.heap.get? b=a_ o->b<D:=λb o e=>s▸hl9 e;have fresh:∀a,D<=a->H2 a=b_:=λa h=>f.hok.fresh (s▸h);have M:∀b∈fp,b<D:=λb hb=>by obtain⟨o,e,_⟩:=T.obj 0 _ st2 b hb;exact wI b o e
 have frL:∀b∈Jy X.stack,b<D:=λb hb=>by
  obtain⟨_,o,ho,_⟩:=f.stack.mem hb;exact wI b o ho
 have clL:∀x c,cl.lookup x=a_ c->c<D:=λx c e=>by
  obtain⟨v,q⟩:=f.cell x c (O x c e);exact s▸q.lt
 let Y :=fx X scope cl (tn++cn) B H2 C fp
 have okY:Y.Ok:=by
  refine⟨f.ok.mod,S.kind,f.ok.glob,f.ok.blt,?_,λx y c h1 h2=>f.ok.inj x y c (O x c h1) (O y c h2),λx hx=>?_,(λx c h=>nomatch h),f.ok.hd,f.ok.frames,.inl rfl,λb hb=>⟨?_,λx c e=>?_⟩,λb o e=>f.bs b o e,?_,λb o e hb=>?_,λb hb z=>?_,f.stack,f.E9⟩
  .exact aD (aq (ae hDD) R)
  .have hx' :=hx;exact hhas x (S.nofree x (zp S.nocell hx'))
  .exact bw (cY (M b hb) R)
  .exact(f2 b hb).2.2.2.2.1 x c (O x c e)
  .exact aa f.ok.bsz f.sz
  .rcases(f2 b hb).2.2.2.1 with z|z
   .exact f.ok.noex b o e z
   .exact absurd (bc (bc (hl9 e) f.ok.bsz) z) (bI _)
  .have hb':=f2 b hb
   rcases au.mp (f.u9 b z)with q|q
   .exact hb'.2.1 q
   .exact hb'.2.2.1 q
 have invY:∀(s':ak) (m:be->Option ah),s'.os=B.os->oO s'.gens->(∀b o,B.heap.get? b=a_ o->s'.heap.get? b=a_ o)->s'.heap.Ns C m->(∀(i:Nat) (x:be) (v:V),(tn++cn)[i]?=a_ x->(iX tn.length caps σ)[i]?=a_ (a_ v)->Q2 Y.env.scope x->∃u,RelV v u/\Look Y.env s'.heap m x u)->
   Inv Y (X.pn++h_) (iX tn.length caps σ) H2 s':=λs' m ho hb hk hn hl=>by
  refine⟨okY,ho,hb,Un.kept hk,⟨m,hn,hl⟩,λx c e=>?_,fresh C (aD R),λx c e=>f.freeC x c (O x c e),λp hp=>?_,f.hok.kept hk,?_⟩
  .obtain⟨v,q⟩:=f.cell x c (O x c e);exact⟨v,q.keeps hk⟩
  .obtain⟨q1,q2,q3,q4,q5⟩:=f.pin p (by simpa [Y,fx]using hp);refine⟨hk _ _ q1,q2,?_,λz=>?_,q5⟩
   .exact bw (cY (wI _ _ q1) R)
   .rcases au.mp (f.u9 p.1 z)with w|w
    .exact q3 w
    .exact q4 w
  .show(iX tn.length caps σ).length=(tn++cn).length;have e:=congrArg fA S.caps;simp only[aw]at e;simp[iX,e]
 have loop:∀s₃:ak,s₃={ B with heap:=h₁,toks:=B.toks+([]:List (be×ah)).length }->
   codeAny (aG X.prog X.w) X.A (.compLoop (.ListComp elt [⟨tg,iter,ifs,0⟩] scope pos) 0 (.ref it) (.ref D) (compEnvC scope cl C X.env)) (BE X h_ σ Q (.ref D) C) s₃:=by
  rintro s₃ rfl
  have I3:Inv Y (X.pn++h_) (iX tn.length caps σ) H2 { B with heap:=h₁,toks:=B.toks+([]:List (be×ah)).length }:=by
   refine invY _ _ rfl f.bare old L λi x v e1 e2 e3=>?_
   have hi:tn.length<=i:=by
    by_cases hi:tn.length<=i
    .exact hi
    .unfold iX at e2;rw[a9 (by simpa using hi),eK]at e2;split at e2<;>cases e2
   unfold iX at e2;rw[aT (by simpa using hi),iQ]at e2;rw[aT hi]at e1;rw[aP]at e2
   cases hj:caps[i - tn.length]? with
   |none=>rw[hj]at e2;cases e2
   |some j=>
     rw[hj]at e2;have e2':(σ[j]?).join=a_ v:=bG e2
     have hσ:σ[j]?=a_ (a_ v):=by
      cases q:σ[j]? with
      |none=>rw[q]at e2';cases e2'
      | some z=>rw[q]at e2';cases z with
        |none=>cases e2'
        |some z=>exact congrArg a_ e2'
     have hN:X.N[j]?=a_ x:=by
      have e:=congrArg (λl=>l[i - tn.length]?) S.caps;simp only[aP,hj,e1,cA]at e;exact bG e
     have hk:=S.capk x (aV e1);obtain⟨m,hn,hl⟩:=f.loc;obtain⟨u,ru,l⟩:=hl j x v hN hσ (hk.elim (λz=>.inr (.inl z)) λz=>.inr (.inr z));refine⟨u,ru,.inr ?_⟩
     rcases l with⟨k,_⟩|⟨k,c,ec,hcell⟩
     .rw[k]at hk;rcases hk with z|z<;>cases z
     .
      rcases e3 with z|z|z
      .
       exact absurd z (qY (S.capn x (aV e1)))
      .obtain⟨c',I⟩:=okY.has x (.inl z);have ecc :=bG ((O x c' I).symm.trans ec);rw[ecc]at I;exact⟨.inl z,c,I,hcell.keeps old⟩
      .obtain⟨c',I⟩:=okY.has x (.inr z);have ecc :=bG ((O x c' I).symm.trans ec);rw[ecc]at I;exact⟨.inr z,c,I,hcell.keeps old⟩
  have pinD:∀{F:St} {H':Hp} {s':ak} {its:List ah} {n:Nat},Inv Y (X.pn++h_) F H' s'->H' D=b_->s'.heap.get? D=a_ { cls:=.type "list",data:=.seq its.toArray n }->
    Inv Y ((X.pn++h_)++[(D,{ cls:=.type "list",data:=.seq its.toArray n })]) F H' s':=λ{F H' s' its n}I' hn hd=>by
   refine I'.rf λp hp=>?_
   rcases ax.mp hp with z|z
   .exact I'.pin p (ai _ z)
   .have e:=aE.mp z;subst e;exact ⟨hd,hn,hDC,λz=>absurd (frL D z) (bI _),(λv z=>nomatch z)⟩
  have fpD:∀{H':Hp},H' D=b_->∀b,b=D->rR Y (X.pn++h_) H' b:=λ{H'}hn b hb=>by
   subst hb;refine⟨hn,hDC,λz=>absurd (frL b z) (bI _),.inr (ae s),λx c e z=>?_,λp hp z=>?_⟩
   .have:=clL x c e;rw[z]at this;exact absurd this (bI _)
   .have:=wI _ _ (f.pin p (by simpa [Y,fx]using hp)).1;rw[z]at this;exact absurd this (bI _)
  have stat:∀{H':Hp}{pl:List (aI×lA)},(∀b∈fp,H' b=b_)->(∀p∈pl,p.1=D)->∀b∈fp,rR Y ((X.pn++h_)++pl) H' b:=λ{H' pl}hn hpl b hb=>by
   obtain⟨g0,g1,g2,g3,g4,g5⟩:=f2 b hb;refine⟨hn b hb,?_,λz=>?_,.inl hb,λx c e=>g4 x c (O x c e),λp hp z=>?_⟩
   .exact bw (cY (M b hb) R)
   .rcases au.mp (f.u9 b z)with w|w
    .exact g1 w
    .exact g2 w
   .have G:p∈(X.pn++h_)++pl:=by simpa [Y,fx]using hp
    rcases ax.mp G with w|w
    .exact g5 p w z
    .have h2:=M b hb;rw[<-z,(hpl p w)]at h2;exact absurd h2 (bI _)
  refine pq (λn s'=>∃(i:Nat) (ys:List V) (its:List ah) (k:Nat) (H':Hp),Inv Y (X.pn++h_) (iX tn.length caps σ) H' s'/\H' D=b_/\s'.heap.get? D=a_ { cls:=.type "list",data:=.seq its.toArray k }/\c7 ys its/\
   tnn i s'.heap/\(∀b∈fp,H' b=b_)/\W i n ys H') ?_ m0 ⟨0,[],[],0,H2,I3,fresh D (ao _),hacc,.nil,T.keep _ _ _ st2 λb hb o e=>old b o e,λb hb=>(f2 b hb).1,w0⟩
  rintro n s4 ⟨i,ys,its,k,H4,I4,hD4,ho4,rv4,st4,fr4,w4⟩;have I4':=pinD I4 hD4 ho4
  have pl1:∀p∈[((D,{ cls:=.type "list",data:=.seq its.toArray k }):aI×lA)],p.1=D:=λp hp=>by
   rw[aE.mp hp]
  rcases turn i n ys H4 w4 with⟨stop,hz,qn⟩|⟨go,hz,step⟩
  .
   refine iR (T.done Y rfl rfl rfl hcalm i _ s4 _ H4 _ I4' (stat fr4 pl1) st4 stop) λr s5 ⟨hr,I5⟩=>?_;subst hr;have hd5:=(I5.pin (D,{ cls:=.type "list",data:=.seq its.toArray k }) (ai _ (ai _ (aE.mpr rfl)))).1;have U :=I5.nr;have J5 :=f.Zw U.os U.base U.hok U.bare λb hb=>⟨(f2 b hb).2.2.2.1,(f2 b hb).2.1,(f2 b hb).2.2.2.2.1,(f2 b hb).2.2.2.2.2⟩
   have up:∀a,D<=a->H4 a=b_->rR X h_ H4 a:=λa ha hn=>by
    refine⟨hn,?_,λz=>?_,.inr ?_,λx c e z=>?_,λp hp z=>?_⟩
    .have h1:=f.lt;intro z;rw[<-z,s]at h1;exact absurd (bc h1 ha) (bI _)
    .exact f.YB (by rw[s];exact ha) z
    .exact aa f.sz (by rw[s];exact ha)
    .obtain⟨v,q⟩:=f.cell x c e;have h1:=q.lt;rw[z,s]at h1;exact absurd (bc h1 ha) (bI _)
    .have h1:=wI _ _ (f.pin p hp).1;rw[z]at h1;exact absurd (bc h1 ha) (bI _)
   have J6:Inv X h_ σ (upd H4 D (.lst ys)) s5:=J5.JZ (up D (ao _) hD4) (by have h1:=f.sz;rw[s]at h1;exact h1) ⟨hz,its,k,rv4,hd5⟩;obtain⟨m5,hn5,_⟩:=U.loc;refine⟨rfl,D,upd H4 D (.lst ys),rfl,⟨m5,hn5⟩,J6,?_,qn D hD4⟩;obtain⟨u0,u1,u2,u3,u4,u5⟩:=up C (aD R) U.free;exact⟨by rw[cZ (dR hDC)];exact u0,u1,u2,u3,u4,u5⟩
  .refine iR (T.item Y rfl rfl rfl hcalm i _ s4 _ H4 _ I4' (stat fr4 pl1) st4 go) λr s5 ⟨u,hr,h5⟩=>?_;subst hr;refine iR h5 λ_ s6 ⟨x,H6,I6,r6,y6,st6,fr6⟩=>?_;refine iR (hg cl B H2 C fp _ s6 _ H6 x u _ (I6.pinned (stat fr6 pl1) (T.obj _ _ st6)) r6 (touch _ _ _ _ (step x H6 y6))) λ_ s7 ⟨σ7,H7,I7,q7,l7,e7⟩=>?_
   have back:∀{H':Hp} {s':ak} {ys':List V} {P:List ah} {k':Nat} {n':Nat},Inv Y (X.pn++h_++mU fp s6.heap) σ7 H' s'->H' D=b_->s'.heap.get? D=a_ { cls:=.type "list",data:=.seq P.toArray k' }->c7 ys' P->W (i+1) n' ys' H'->
     ∃(i:Nat) (ys:List V) (its:List ah) (k:Nat) (H':Hp),Inv Y (X.pn++h_) (iX tn.length caps σ) H' s'/\H' D=b_/\s'.heap.get? D=a_ { cls:=.type "list",data:=.seq its.toArray k }/\c7 ys its/\tnn i s'.heap/\(∀b∈fp,H' b=b_)/\W i n' ys H':=
    λ{H' s' ys' P k' n'}I' hd ho rv w=>by
     refine⟨i+1,ys',P,k',H',(I'.nr).weak (by rw[l7]) (λj v hj=>?_),hd,ho,rv,T.keep _ _ _ st6 λb hb o e=>(I'.pin (b,o) (ai _ (ai _ (n9 hb e)))).1,λb hb=>?_,w⟩
     .have hj':tn.length<=j:=by
       by_cases hj':tn.length<=j
       .exact hj'
       .unfold iX at hj;rw[a9 (by simpa using hj'),eK]at hj;split at hj<;>cases hj
      rw[e7 j hj'];exact hj
     .obtain⟨o,e,d⟩:=T.obj _ _ st6 b hb;exact(I'.pin (b,o) (ai _ (ai _ (n9 hb e)))).2.1
   have K:∀{F:St}{H':Hp}{s':ak},Inv Y (((X.pn++h_)++[(D,{ cls:=.type "list",data:=.seq its.toArray k })])++mU fp s6.heap) F H' s'->s'.heap.get? D=a_ { cls:=.type "list",data:=.seq its.toArray k }/\H' D=b_:=λI'=>by
    obtain⟨q1,q2,_⟩:=I'.pin (D,{ cls:=.type "list",data:=.seq its.toArray k }) (ai _ (az _ (ai _ (aE.mpr rfl))));exact⟨q1,q2⟩
   have dropD:∀{F:St}{H':Hp}{s':ak},Inv Y (((X.pn++h_)++[(D,{ cls:=.type "list",data:=.seq its.toArray k })])++mU fp s6.heap) F H' s'->Inv Y (X.pn++h_++mU fp s6.heap) F H' s':=λI'=>
    I'.rf λp hp=>I'.pin p (ai _ (by
     rcases ax.mp hp with z|z
     .exact az _ (az _ z)
     .exact ai _ z))
   refine iR (ht cl B H2 C fp _ s7 σ7 H7 _ I7 q7) λb s8 ⟨H8,I8,q8⟩=>?_
   cases b with
   |false=>
     obtain⟨m',hm,w8⟩:=q8;exact⟨m',hm,back (dropD I8) (K I8).2 (K I8).1 rv4 w8⟩
   |true=>
     refine iR (he cl B H2 C fp _ s8 σ7 H8 _ I8 q8) λv s9 ⟨y,H9,I9,r9,m',hm,w9⟩=>?_;obtain⟨ho9,hD9⟩:=K I9;refine wpAny_list_append_plain (hsz:=aD (aq (ae rv4.length.symm) hz)) ⟨k,ho9⟩ λh' hl' hs'=>?_;obtain⟨k',hk'⟩:=hl';have I10:Inv Y (X.pn++h_++mU fp s6.heap) σ7 H9 { s9 with heap:=h' }:=by
      refine (dropD I9).turned (λb o hb e=>hs'.extBut b o hb e) hD9 hDC (.inr (ae s)) (fpD hD9 D rfl).2.2.2.2.1 λp hp=>?_;have G:p∈X.pn++h_++mU fp s6.heap:=by simpa [Y,fx]using hp
      rcases ax.mp G with z|z
      .exact bw (wI _ _ (f.pin p z).1)
      .exact bw (M _ (x6 z).1)
     refine⟨m',hm,back (k':=k') I10 hD9 ?_ (rv4.append (.cons r9 .nil)) w9⟩;simpa using hk'
 exact codeAny_compStart_list (loop _ rfl) (T.self X.A 0 _ _ _ (T.keep _ _ _ st2 λb hb o e=>old b o e) (loop _ rfl))
def Ph{iter:a8}{ifs:List a8}
  (Y:X.calm=c_)(S:jF X scope tn cn caps)(hi:PI X tg iter wi)
  (hg:∀(cl:List (be×aI))(B:ak)(O:Hp)(C:aI)(ex:List aI),PG (fx X scope cl (tn++cn) B O C ex) tg g)(Z:qd tn.length g)
  (ht:∀(cl:List (be×aI))(B:ak)(O:Hp)(C:aI)(ex:List aI),ND (fx X scope cl (tn++cn) B O C ex) ifs tt)
  (he:∀(cl:List (be×aI))(B:ak)(O:Hp)(C:aI)(ex:List aI),PE (fx X scope cl (tn++cn) B O C ex) elt te)
  (hs:∀x,foldedSetIterable iter X.env x=pure x):PE X (.ListComp elt [⟨tg,iter,ifs,0⟩] scope pos) (J3 wi tn.length caps g tt te):=by
 intro h_ s σ H Q I h;obtain⟨cl,c,h1,h2⟩:=v9 I.ok S;refine Hj rfl hs c S.kind S.locs (iR (hi h_ s σ H _ I h) λv s1 j=>iR j λitv s2 d=>?_);refine dE (v8 Y S h1 h2 hg Z ht he d) (λk s3 l=>dE l (λi u n=>kX n λr w p=>?_) λ_ _ z=>z) λ_ _ z=>z;obtain⟨rfl,D,H',rfl,⟨m,t⟩,J,a,q⟩:=p;exact ⟨m,t,λh' f=>⟨.ref D,H',(J.turned (λb o hb e=>f.extBut b o hb e) a.1 a.2.1 a.2.2.2.1 a.2.2.2.2.1 a.2.2.2.2.2),rfl,q⟩⟩
def DF{iter:a8}{ifs:List a8}{Y:xv}(hN:X.N.Nodup)(hi':X.N[i]?=a_ x)(hx:Loc X.env.scope x)
  (Z:X.calm=c_)(S:jF X scope tn cn caps)(hi:PI X tg iter wi)
  (hg:∀(cl:List (be×aI))(B:ak)(O:Hp)(C:aI)(ex:List aI),PG (fx X scope cl (tn++cn) B O C ex) tg g)(touch:qd tn.length g)
  (ht:∀(cl:List (be×aI))(B:ak)(O:Hp)(C:aI)(ex:List aI),ND (fx X scope cl (tn++cn) B O C ex) ifs tt)
  (he:∀(cl:List (be×aI))(B:ak)(O:Hp)(C:aI)(ex:List aI),PE (fx X scope cl (tn++cn) B O C ex) elt te)
  (hsw:swapsWith (.ListComp elt [⟨tg,iter,ifs,0⟩] scope pos) (a_ (.Name x pos')) Y.line X.env=pure c_)
  (hs:∀x,foldedSetIterable iter X.env x=pure x)(hf:X.fn x=c_\/X.env.scope.names.lookup x=a_ .local) :
  PS X (.Assign [.Name x pos'] (.ListComp elt [⟨tg,iter,ifs,0⟩] scope pos) Y) (HG (J3 wi tn.length caps g tt te) (lp i)):=by
 intro h_ s σ H D I h;obtain⟨cl,j,h1,h2⟩:=v9 I.ok S;rw[exec_Assign_Name_used _ _ _ _ hsw];refine wb9 (Hg (wb9 ?_));refine wb9 (dE (Hj rfl hs j S.kind S.locs (iR (hi h_ s σ H _ I h) λv s1 w=>iR w λitv s2 k=>?_)) (λ_ s' y=>wu9 (wu9 y)) λ_ _ e=>e);refine dE (v8 (Q:=λx A=>lp i x σ A D.nx) Z S h1 h2 hg touch ht he k) (λE s3 F=>dE F (λa U G=>kX G λr K L=>?_) λ_ _ z=>z) λ_ _ z=>z;obtain⟨rfl,M,H',rfl,⟨m,P⟩,J,c,q⟩:=L;refine wpAny_assign_Name ?_;refine ac λ_ W=>?_;obtain⟨f,es,ep,l,d,n⟩:=id P
 refine W ?_;have R:Inv X (h_++[(a.locals,f)]) σ H' K:=J.rf λp hp=>by
  rcases ax.mp hp with z|z
  .exact J.pin p (ai _ z)
  .have e:p=(a.locals,f):=by simpa using z
   subst e;exact⟨l,c.1,c.2.1,c.2.2.1,λv z=>by rw[d]at z;cases z⟩
 refine u7 R hN hi' hx (v:=.ref M) rfl (λV u=>?_) hf;have T:=(u.pin (a.locals,f) (by simp)).1;exact ⟨m,⟨f,es,ep,T,d,n⟩,λh' t=>⟨_,H',((u.nr).turned (λb o hb e=>t.extBut b o hb e) c.1 c.2.1 c.2.2.2.1 c.2.2.2.2.1 c.2.2.2.2.2),q⟩⟩
end
end L2
namespace M
open PySem PySem.Spec PyProof.Rows L2
def kG(K:Fg)(F1:Hp)(J:It)(items:List Dat):Prop:=∀F H,Good F H->cj F1 F->
 (∀(i:Nat)d,items[i]?=a_ d->J.go i H/\∀x H',J.yld i H x H'->∃F',Step F H F' H'/\Rep K F' d x)/\∀i,items.length<=i->J.stop i H
noncomputable def vW(x:Iw)(F:Hp):Hp:=match x with
 |.rng _=>λ_=>b_
 |_=>F
def BW(h:cj F F'):cj (vW x F) F':=by
 unfold vW;split
 .intro a o e;cases e
 .exact h
def gI(K:Fg)(C:Fs)(x:Iw):TI:=λσ H R=>∃ρ items F,zN C x ρ=a_ items/\Good F H/\nO K F σ ρ/\∀J F1 a,Step F H F1 a->kG K (vW x F1) J items->R J a
abbrev SI(X:Cx)(C:Fs)(tg iter:a8)(x:Iw):Prop:=PI X tg iter (gI X.K C x)
def ZT(x:be):It:=⟨λi _=>i<x.cps.size,λi H v H'=>H'=H/\∃c,x.cps[i]?=a_ c/\v=V.str ⟨#[c]⟩,λi _=>x.cps.size<=i⟩
def JX{K:aN}(x:be)(t:ES)(it:aI):Turn P w K tg (ZT x) [it] it (λi h=>h.IsStrIter it "str_ascii_iterator" x t i) where
 mem:=by simp
 obj:=λi h st b hb=>by
  have e:b=it:=by simpa using hb
  subst e;obtain⟨o,e,c,d⟩:=st;exact⟨o,e,λv z=>by rw[d]at z;cases z⟩
 keep:=λi h h' st k=>by
  obtain⟨o,e,c,d⟩:=st;exact⟨o,k it (by simp) o e,c,d⟩
 item:=by
  intro X g j l hc i h_ s σ H E I hf st a;subst g j l;obtain⟨m,n,A,p,q,r⟩:=hf it (by simp);have y:x.cps[i]?=a_ (x.cps[i]'a):=aY a;refine wpAny_pyNext_ascii_item st y λh' f B=>?_;have C:Inv X h_ σ H { s with heap:=h',toks:=s.toks+1 }:=I.turned (λb o hb e=>(B.2 b hb).trans e) m n p q r;obtain⟨o,e,c,d⟩:=id f;exact⟨_,rfl,vR (s:={ s with heap:=h',toks:=s.toks+1 }) e c d br ⟨.str ⟨#[x.cps[i]'a]⟩,H,C,⟨_,rfl⟩,⟨rfl,_,y,rfl⟩,f,λb hb=>(hf b hb).1⟩⟩
 done:=by
  intro X g j l hc i h_ s σ H E I hf st a;subst g j l;obtain⟨m,n,A,p,q,r⟩:=hf it (by simp);have u:x.cps.size<=i:=a;exact wpAny_pyNext_ascii_end (I.ok.hd hc) st (ik u) λh' D=>⟨rfl,I.turned (t':=s.toks) (λb o hb e=>D b o hb e) m n p q r⟩
 self:=λ_ _ _ _ _ st h=>wpAny_pyIter_striter_ascii st h
def JV{K:aN}(x:be)(t:ES)(it:aI):Turn P w K tg (ZT x) [it] it (λi h=>h.IsStrIter it "str_iterator" x t i) where
 mem:=by simp
 obj:=λi h st b hb=>by
  have e:b=it:=by simpa using hb
  subst e;obtain⟨o,e,c,d⟩:=st;exact⟨o,e,λv z=>by rw[d]at z;cases z⟩
 keep:=λi h h' st k=>by
  obtain⟨o,e,c,d⟩:=st;exact⟨o,k it (by simp) o e,c,d⟩
 item:=by
  intro X g j l hc i h_ s σ H E I hf st a;subst g j l;obtain⟨m,n,A,p,q,r⟩:=hf it (by simp);have y:x.cps[i]?=a_ (x.cps[i]'a):=aY a;refine wpAny_pyNext_wide_item st y λh' f B=>?_;have C:Inv X h_ σ H { s with heap:=h',toks:=s.toks+1 }:=I.turned (λb o hb e=>(B.2 b hb).trans e) m n p q r;obtain⟨o,e,c,d⟩:=id f;exact⟨_,rfl,vR (s:={ s with heap:=h',toks:=s.toks+1 }) e c d br ⟨.str ⟨#[x.cps[i]'a]⟩,H,C,⟨_,rfl⟩,⟨rfl,_,y,rfl⟩,f,λb hb=>(hf b hb).1⟩⟩
 done:=by
  intro X g j l hc i h_ s σ H E I hf st a;subst g j l;obtain⟨m,n,A,p,q,r⟩:=hf it (by simp);have u:x.cps.size<=i:=a;exact wpAny_pyNext_wide_end (I.ok.hd hc) st (ik u) λh' D=>⟨rfl,I.turned (t':=s.toks) (λb o hb e=>D b o hb e) m n p q r⟩
 self:=λ_ _ _ _ _ st h=>wpAny_pyIter_striter_wide st h
def abq(tl:TE):TI:=λσ H R=>tl σ H λv a=>∃x,v=.str x/\R (ZT x) a
def KY(hl:PE X l tl):PI X tg l (abq tl):=by
 intro h_ s σ H R I h;refine iR (hl h_ s σ H _ I h) λv s1 ⟨y,c,a,d,f⟩=>?_;obtain⟨x,e,q⟩:=f;subst e;obtain⟨t,rfl⟩:=d
 have fin:∀b∈[s1.heap.objs.size],rR X h_ c b:=λb hb=>by
  have e:b=s1.heap.objs.size:=by simpa using hb
  subst e;exact a.xm (ao _) (a.hok.fresh (ao _))
 cases ha:x.cps.all (·< 128)with
 |true=>exact wpAny_pyIter_ascii ha ⟨s1.heap.objs.size,[s1.heap.objs.size],_,_,c,rfl,a.kept λb o e=>hp9 _ e,JX x t _,⟨_,aK _ rfl,rfl,rfl⟩,fin,q⟩
 |false=>exact wpAny_pyIter_wide ha ⟨s1.heap.objs.size,[s1.heap.objs.size],_,_,c,rfl,a.kept λb o e=>hp9 _ e,JV x t _,⟨_,aK _ rfl,rfl,rfl⟩,fin,q⟩
def BG{K:Fg}{F1:Hp}:kG K F1 (ZT x) (x.cps.toList.map λc=>Dat.str ⟨#[c]⟩):=λF H g s=>by
 refine⟨λi d hd=>?_,λi hi=>(by simpa using hi:x.cps.size<=i)⟩;rw[aP]at hd;obtain⟨c,hc,rfl⟩:=dY hd;have a:x.cps[i]?=a_ c:=by simp_all
 refine⟨(bW.mp a).1,λv H' y=>?_⟩;obtain⟨rfl,b,e1,rfl⟩:=y;rw[a]at e1;cases e1;exact⟨F,Step.refl g,rfl⟩
section
variable{iter:a8}
def PI.imp(h:PI X tg iter w)(f:∀σ H R,w' σ H R->w σ H R):PI X tg iter w':=λh_ s σ H R I q=>h h_ s σ H R I (f _ _ _ q)
def PI.or(h:PI X tg iter w)(h':PI X tg iter w'):PI X tg iter (λσ H R=>w σ H R\/w' σ H R):=λh_ s σ H R I q=>by
 rcases q with q|q
 .exact h h_ s σ H R I q
 .exact h' h_ s σ H R I q
def ym{K:Fg}{F1:Hp}(h:nM K F1 a vs)(r:c9 K F1 ds vs):kG K F1 (Itl K a) ds:=λF H g s=>by
 have b:=g.sub.seq (s.seq h);refine⟨λi d hd=>?_,λi hi=>⟨vs,b,by rw[r.length];exact hi⟩⟩;obtain⟨v,e1,e2⟩:=r.get hd;refine⟨⟨vs,v,b,e1⟩,λx H' y=>?_⟩;obtain⟨rfl,y⟩:=y;have:=y vs b;rw[e1]at this;cases this;exact⟨F,Step.refl g,e2.mono s⟩
def BF{K:Fg}{F1:Hp}(h:Tq K F1 a vs)(r:c9 K F1 ds vs):kG K F1 (Itt K a) ds:=λF H g s=>by
 have b:=((h.mono s).mono g.sub).sq;refine⟨λi d hd=>?_,λi hi=>⟨vs,b,by rw[r.length];exact hi⟩⟩;obtain⟨v,e1,e2⟩:=r.get hd;refine⟨⟨vs,v,b,e1⟩,λx H' y=>?_⟩;obtain⟨rfl,y⟩:=y;have:=y vs b;rw[e1]at this;cases this;exact⟨F,Step.refl g,e2.mono s⟩
def TX(h:SE X C e xe):SI X C tg e (.itv xe):=PI.imp (PI.or (PI.or (FN h) (KW h)) (KY h)) λσ H R i=>by
 refine ac λ_ j=>?_;obtain⟨ρ,items,F,hi,g,f,k⟩:=i;obtain⟨⟨d,fr⟩,h1,h2⟩:=c5 hi
 refine j ?_;cases d with
 |lst ds=>
   cases h2;refine .inl (.inl ⟨ρ,_,fr,h1,F,g,f,λv F1 b st r _=>?_⟩);obtain⟨a,vs,rfl,c,r⟩:=r;exact⟨a,rfl,⟨vs,st.good.sub.seq c⟩,k _ F1 b st (ym c r)⟩
 |tup ds=>
   cases h2;refine .inl (.inr ⟨ρ,_,fr,h1,F,g,f,λv F1 b st r _=>?_⟩);obtain⟨a,vs,rfl,c,r⟩:=r;exact⟨a,rfl,⟨vs,(c.mono st.good.sub).sq⟩,k _ F1 b st (BF c r)⟩
 |str x=>
   cases h2;refine .inr ⟨ρ,_,fr,h1,F,g,f,λv F1 b st r _=>?_⟩;cases r;exact⟨x,rfl,k _ F1 b st BG⟩
 |_=>cases h2
def LS{K:Fg}{F1:Hp}{lo:Int}:kG K F1 (Itr lo n) ((aO n).map λk:Nat=>Dat.int (lo+k)):=λF H g s=>by
 refine⟨λi d hd=>?_,λi hi=>(by simpa using hi:n<=i)⟩;rw[aP]at hd
 have hi:i<n:=by
  by_cases hi:i<n
  .exact hi
  simp_all
 rw[af (by simpa using hi)]at hd;simp only[rY,cA,hZ]at hd;subst hd;refine⟨hi,λx H' y=>?_⟩;obtain⟨rfl,rfl⟩:=y;exact⟨F,Step.refl g,rfl⟩
set_option tactic.hygienic true in
def OE(B:Gl X "range")(O:X.mg "range"=b_)(ha:SA X C [a] [xa])(hs:aQ [a] X.env=[(d_,eval a X.env)]):SI X C tg (.Call (.Name "range" p) [a] [] pos) (.rng [xa]):=
 PI.imp (Ip B O ha hs) λσ H R c=>by
  obtain⟨ρ,items,F,hi,g,d,k⟩:=c;obtain⟨ds,h1,h2⟩:=c5 hi;refine⟨ρ,ds,h1,F,g,d,λvs F1 e st r=>?_⟩;unfold DD at h2;split at h2
  .rename_i j;split at h2
   .rename_i f;cases h2;obtain⟨v,w,rfl,h,b⟩:=r;cases h;cases b;refine⟨j,rfl,by omega,eE f.1 br,k _ F1 e st ?_⟩;simpa using (LS (K:=X.K) (F1:=vW (.rng [xa]) F1) (lo:=0) (n:=j.toNat))
   .cases h2
  .cases (nJ h1)
  .cases (nJ h1)
  .cases h2
end
def IC(h:sZ f (d::ds)=a_ ys):∃o r,f d=a_ o/\sZ f ds=a_ r/\ys=(match o with|some y=>(y.1::r.1,(y.2 || im y.1) && r.2)|none=>r):=by
 obtain⟨o,h1,h⟩:=c5 h;obtain⟨r,h2,h⟩:=dY h;exact⟨o,r,h1,h2,by cases o<;>exact h.symm⟩
def WW(K:Fg)(nt:Nat)(one:Bool)(g:TG):Prop:=∀F H σ ρ d x ρ1 Q,Good F H->nO K F σ ρ->nt<=σ.length->σ.length=ρ.length->Rep K F d x->G8 nt one d ρ=a_ ρ1->(∀a,nO K F a ρ1->Q a H)->g x σ H Q
def Bd{K:Fg}{σ:St}{ρ:iy}(hl:σ.length=ρ.length)(R:nO K F σ ρ)(r:Rep K F d v):nO K F (σ.set i (a_ v)) (ρ.set i (a_ d)):=λj d' q=>by
 rw[ng]at q ⊢;by_cases a:i=j
 .simp_all
 .rw[if_neg a]at q ⊢;exact R j d' q
def Oc{K:Fg}:WW K nt c_ (lp 0):=λF H σ ρ d x ρ1 Q g R a hl r hb k=>by
 simp only[G8,hZ]at hb;subst hb;exact k _ (Bd hl R r)
def Jb{K:Fg}(R:nO K F σ ρ):nO K F (iX nt caps σ) (jW nt caps ρ):=λi d q=>by
 unfold jW at q;unfold iX;by_cases hi:i<nt
 .rw[a9 (by simpa using hi),eK,if_pos hi]at q;cases q
 .rw[aT (by simpa using hi),iQ,aP]at q;rw[aT (by simpa using hi),iQ]
  cases b:caps[i - nt]? with
  |none=>rw[b]at q;cases q
  |some j=>
    rw[b]at q;have a:(ρ[j]?).join=a_ d:=bG q
    have c:ρ[j]?=a_ (a_ d):=by
     cases z:ρ[j]? with
     |none=>rw[z]at a;cases a
     |some o=>rw[z]at a;exact congrArg a_ a
    obtain⟨v,e1,e2⟩:=R j d c
    simp_all
def Xl(K:Fg)(C:Fs)(xs:List Ex):TT:=λσ H Q=>∃ρ b,B7 C xs ρ=a_ b/\tT K ρ b σ H Q
section
variable{iter:a8}
def Oh:ND Y [] (Xl Y.K C []):=λh_ s σ H Q I a=>by
 refine ac λ_ c=>?_;obtain⟨ρ,b,h,F,g,R,k⟩:=a;cases h;refine c ?_;exact O9 h_ s σ H Q I (k F H (Step.refl g))
def Og(h:ST Y C c xe):ND Y [c] (Xl Y.K C [xe]):=λh_ s σ H Q I a=>by
 refine ac λ_ i=>?_;obtain⟨ρ,b,hb,F,g,R,k⟩:=a;refine i ?_;refine O8 h h_ s σ H Q I ?_;simp only[B7]at hb;obtain⟨⟨d,fr⟩,h1,hb⟩:=c5 hb;obtain⟨z,e,hb⟩:=c5 hb;refine⟨ρ,d,fr,z,h1,e,F,g,R,λF1 f st=>?_⟩
 grind
set_option tactic.hygienic true in
def yD{K:Fg}(O:WW K nt one g)(Z:∀ρ items,zN C it ρ=a_ items->True) :
  ∀σ H Q,gE K C (.comp nt one caps it xs xe) σ H Q->J3 (gI K C it) nt caps g (Xl K C xs) (gE K C xe) σ H Q:=λσ H Q z3=>by
 refine ac λ_ S=>?_;obtain⟨ρ,d,fr,h,F,g0,R,k⟩:=z3;obtain⟨items,h1,h⟩:=c5 h;refine S ?_;split at h
 .rename_i hz;refine ac λ_ S=>?_;obtain⟨⟨all,T⟩,h2,h⟩:=dY h;cases h;refine S ?_;refine⟨ρ,items,F,h1,g0,R,λJ F1 U j ok=>?_⟩;refine⟨λi m ys H'=>∃F' r t dr u,Step F1 U F' H'/\sZ (qa C nt one (jW nt caps ρ) xs xe) (items.drop i)=a_ (dr,u)/\all=r++dr/\T=(t && u)/\c9 K F' r ys/\(t=c_->fJ K U H' r ys)/\m=items.length - i/\i<=items.length/\r.length<=i,⟨items.length,F1,[],c_,all,T,Step.refl j.good,h2,rfl,rfl,rfl,λ_=>.nil,rfl,aM _,ao _⟩,?_⟩;rintro i m ys H' ⟨F',r,t,dr,u,st,B,ha,n,D,I,rfl,hi,w⟩;have V:ys.length<=1000000:=by rw[D.length];exact aa w (aa hi hz)
  obtain⟨L,Yz⟩:=ok F' H' st.good (BW st.ff);by_cases f:i<items.length
  .obtain⟨go,yl⟩:=L i items[i] (af f);refine .inr ⟨go,by exact aq V br,λx H2 y2=>?_⟩;obtain⟨M,a,r2⟩:=yl x H2 y2;rw[e8 f]at B;obtain⟨o,⟨E,G⟩,h3,W,h5⟩:=IC B;obtain⟨ρ1,h6,h3⟩:=c5 h3;obtain⟨b,h7,h3⟩:=c5 h3;refine O M H2 _ _ _ x ρ1 _ a.good ((Jb R).mono ((j.ff.trans st.ff).trans a.ff)) (by simp[iX]) (by simp[iX,jW]) r2 h6 λσ1 y=>?_;refine⟨ρ1,b,h7,M,a.good,y,λX H3 c=>?_⟩
   cases b with
   |true=>
     refine ac λ_ S=>?_;obtain⟨⟨l,s⟩,h8,h3⟩:=dY h3;cases h3;refine S ?_;refine⟨ρ1,l,s,h8,X,c.good,y.mono c.ff,λv F4 H4 q Y f4=>?_⟩;have N:=((st.trans a).trans c).trans q;have e5:dr=l::E/\u=((s || im l) && G):=by grind
     refine⟨items.length - (i+1),jJ (ws f) (wt (aD f)),F4,r++[l],t && (s || im l),E,G,N,W,by rw[ha,e5.1];simp,by rw[n,e5.2,Rv],(D.mono ((a.ff.trans c.ff).trans q.ff)).append (.one Y),λz=>?_,rfl,f,by simp;omega⟩;simp only[aj,lH]at z;have A:=a.hh.trans c.hh;refine fJ.snoc (st.hh.trans A) q.hh ((I z.1).mono A) ?_
     rcases z.2 with P|P
     .exact f4 P
     .exact .kT q.good P Y
   |false=>
     cases h3;have e5:dr=E/\u=G:=by simp_all
     exact⟨items.length - (i+1),jJ (ad f) (am (Nat.le_of_lt f)),X,r,t,E,G,(st.trans a).trans c,W,by rw[ha,e5.1],by rw[n,e5.2],D.mono (a.ff.trans c.ff),λz=>(I z).mono (a.hh.trans c.hh),rfl,f,cc w⟩
  .have e :=aC hi (bT f);subst e;refine .inl ⟨Yz _ (ao _),oh V,λp hp=>?_⟩;rw[uv]at B;cases B;rw[aH]at ha;rw[iM]at n;subst ha n;exact k _ _ _ ((j.trans st).trans (Step.alloc st.good hp)) ⟨p,ys,rfl,.inl (.inl cO),(D.mono (cj.upd (o:=.lst ys) (st.good.sub.free hp)))⟩ λz=>.lst (j.hh.trans st.hh) hp ((I z).back (F:=F) j.hh)
 .cases h
end
def nG{K:Fg}(h:pZ d=a_ k)(r:Rep K F d v):v=kV k:=by
 cases d with
 |int i=>cases h;exact r
 |str x=>cases h;exact r
 |_=>cases h
set_option tactic.hygienic true
theorem nE{K:Fg}:∀{ds:List Dat}{k_:List (Key×V)},f7 k (k_.map (·.1)) ds=a_ d->c9 K F ds (k_.map (·.2))->∃v,lM k_ k=a_ v/\Rep K F d v
 |[],[],h,_=>by cases h
 |[],_::_,h,_=>by cases h
 |_::_,[],h,_=>by cases h
 |e::ds,p::k_,h,r=>by
   obtain⟨v,w,q,a,b⟩:=r;cases q;simp only[aA,f7]at h;split at h
   .rename_i z;cases h;exact⟨p.2,qQ z,a⟩
   .rename_i z;obtain⟨v,c,f⟩:=nE h b;exact⟨v,(oX z).trans c,f⟩
theorem pK{K:Fg}:∀{ds:List Dat}{k_:List (Key×V)},f7 k (k_.map (·.1)) ds=b_->c9 K F ds (k_.map (·.2))->lM k_ k=b_
 |_,[],_,_=>rfl
 |[],p::k_,_,r=>by cases r
 |e::ds,p::k_,h,r=>by
   obtain⟨v,w,q,b,a⟩:=r;cases q;simp only[aA,f7]at h;split at h
   .cases h
   .rename_i z;exact(oX z).trans (pK h a)
set_option tactic.hygienic false
section
variable{X:Cx}{C:Fs}{e:a8}{σ:St}{F H:Hp}
def G9{K:Fg}(r:c9 K F ds vs)(h:qH ds i=a_ d):∃v,qH vs i=a_ v/\Rep K F d v:=by
 unfold qH at h ⊢;rw[r.length];obtain⟨j,h1,h2⟩:=c5 h;obtain⟨v,e1,e2⟩:=r.get h2;exact⟨v,by rw[h1];exact e1,e2⟩
set_option tactic.hygienic true in
def abh(B:X.A.units+1<dc):W1 X (gB X.K λx y=>(tU x y).map λd=>(d,d_)):=by
 intro value slice h_ s σ H x y v u Q I f j h hs;refine ac λ_ e=>?_;obtain⟨da,n,d,fr,h,F,g,l,m,k⟩:=h;obtain⟨d',h1,h2⟩:=dY h;obtain⟨rfl,rfl⟩:d'=d/\d_=fr:=by cases h2;exact⟨rfl,rfl⟩
 refine e ?_;by_cases b:∃ks ds,da=.dct ks ds
 .refine ac λ_ e=>?_;obtain⟨ks,ds,rfl⟩:=b;have o:(pZ n).bind (λk=>f7 k ks ds)=a_ d':=by cases n<;>exact h1
  obtain⟨kk,hk,hl⟩:=c5 o;obtain⟨a,k_,rfl,q,rfl,D⟩:=l;obtain⟨w,e1,e2⟩:=nE hl D;obtain rfl:=nG hk m;cases f;refine e ?_;have dg:qC H a (kV kk) (a_ w):=by rw[<-e1];exact qC.k (g.sub _ _ q)
  exact NQ (tZ I dg) wx.lookup (yB B I dg j λL s' I' E=>⟨w,H,I',E,k _ F H (Step.refl g) e2 aZ⟩) hs
 cases da<;>first|exact absurd ⟨_,_,rfl⟩ b|skip
 all_goals cases n<;>simp only[tU,reduceCtorEq]at h1
 .
  split at h1
  .rename_i z i G;obtain⟨c,h3,J⟩:=dY h1;subst J;exact VV value slice h_ s σ H x y v u Q I f j ⟨z,i,c,l,m,G,h3,k _ F H (Step.refl g) rfl aZ⟩ hs
  .cases h1
 .rename_i ds i;obtain⟨p,vs,rfl,t,r⟩:=l;obtain⟨w,e1,e2⟩:=G9 r h1;exact LR value slice h_ s σ H _ y v u Q I f j ⟨p,vs,i,w,rfl,m,(t.mono g.sub).sq,e1,k _ F H (Step.refl g) e2 aZ⟩ hs
 .rename_i ds i;obtain⟨p,vs,rfl,t,r⟩:=l;obtain⟨w,e1,e2⟩:=G9 r h1;exact Gp value slice h_ s σ H _ y v u Q I f j ⟨p,vs,i,w,rfl,m,g.sub.seq t,e1,k _ F H (Step.refl g) e2 aZ⟩ hs
def gO(K:Fg)(C:Fs)(x:Option Ex):TO:=λσ H Q=>∃ρ o F,ZJ C ρ x=a_ o/\Good F H/\nO K F σ ρ/\∀F' H',Step F H F' H'->Q o H'
abbrev SO(X:Cx)(C:Fs)(e:Option a8)(x:Option Ex):Prop:=PO X e (gO X.K C x)
def PO.imp{e:Option a8}{t t':TO}(h:PO X e t)(f:∀σ H Q,t' σ H Q->t σ H Q):PO X e t':=λh_ s σ H Q I q=>h h_ s σ H Q I (f _ _ _ q)
def Ox:SO X C b_ b_:=PO.imp Pe λσ H Q a=>by
 obtain⟨ρ,o,F,ho,g,R,k⟩:=a;cases ho;exact k F H (Step.refl g)
def Ov(h:SE X C e xa):SO X C (a_ e) (a_ xa):=PO.imp (Pd h) λσ H Q a=>by
 obtain⟨ρ,o,F,ho,g,R,k⟩:=a;obtain⟨⟨d,fr⟩,h1,h2⟩:=c5 ho
 cases d with
 |int i=>
   cases h2;exact⟨ρ,_,fr,h1,F,g,R,λv F1 b st r _=>⟨i,r,k F1 b st⟩⟩
 |_=>cases h2
def gSl(K:Fg):V->Option Int->Option Int->Hp->VK->Prop:=λx lo hi H Q=>∃da d fr F,Dt da lo hi=a_ (d,fr)/\Good F H/\Rep K F da x/\∀v F' H',Step F H F' H'->Rep K F' d v->(fr=c_->gf K H H' d v)->Q v H'
def zR{K:Fg}(lo hi:Option Int)(r:c9 K F ds vs):c9 K F (cutD ds lo hi) (Ew vs lo hi):=by
 unfold cutD Ew;rw[<-r.length];exact(r.drop _).take _
def rG{s:ak}{sl:aI}{lo:Option Int}(ht:Ag s.heap t items)(hs:s.heap.IsSliceOf sl vl vu .none)(pl:sr vl lo)(O:sr vu hi)
  (B:HT.iW items.size 0 lo=0/\HT.iW items.size items.size hi=items.size)
  (h:Q (.ref t) s):aF (aG prog w) A (getItem (.ref t) (.ref sl)) Q E s:=by
 obtain⟨os,b,c,f⟩:=id hs;unfold getItem
 try with_reducible refine ck ?_
 first|refine wb9 (wu9 ?_)|skip
 refine wb9 (wpAny_sequenceKey ht.typeIs br ?_)
 refine wb9 (cU ht.typeIs dC
  (bN dC ht.typeIs entry_tuple_getitem ?_ (args_tuple_getitem _ _)))
 show aF _ _ (kM (.ref t) >>= _) _ _ s;refine wb9 (tupleItemsOf_ ht ?_);refine wb9 (iT ⟨os,b,c⟩ ?_);refine wb9 (HT.nv hs pl O ?_)
 have a:((((HT.iW items.size 0 lo):Int) == 0 && (1:Int) == 1 && (HT.iW items.size items.size hi - HT.iW items.size 0 lo) == items.size)=c_):=by
  rw[B.1,B.2];simp
 show aF _ _ (if(((HT.iW items.size 0 lo):Int) == 0 && (1) == 1 && (HT.iW items.size items.size hi - HT.iW items.size 0 lo) == items.size)=c_ then _ else _) _ _ s;rw[if_pos a];refine wb9 ?_;exact wb9 (iT ht.typeIs (wu9 (wb9 (gh (wu9 ⟨_,rfl,wu9 h⟩)))))
set_option tactic.hygienic true
def aaG:SlR X (gSl X.K):=by
 intro h_ s σ H x v w y lo hi sl Q I c hs pl f h;obtain⟨da,d,fr,F,h,g,m,k⟩:=h
 cases da with
 |lst ds=>
   cases h;obtain⟨p,vs,rfl,t,r⟩:=m;refine OB h_ s σ H _ v w y lo hi sl Q I c hs pl f ⟨p,vs,rfl,g.sub.seq t,λq b=>?_⟩;exact k _ _ _ (Step.alloc g b) ⟨q,_,rfl,.inl (.inl cO),((zR lo hi r).mono (cj.upd (o:=.lst (Ew vs lo hi)) (g.sub.free b)))⟩ λz=>.lst (cj.refl _) b (.kT g z (zR lo hi r))
 |str z=>
   simp only[Dt]at h;split at h
   .rename_i A;cases h;rw[m]at c;obtain⟨t,rfl⟩:=c;obtain⟨o,ho,hc,hd⟩:=hs;refine⟨"str",_,PySem.F.slot_str_getitem.lookup,typeIs_str _ _ _,?_⟩;have fin:∀t' k',EP X h_ σ Q (.str (bY z lo hi) t') { s with toks:=k' }:=λt' k'=>⟨.str _,H,I.tok k',⟨t',rfl⟩,k _ F H (Step.refl g) rfl aZ⟩
    have a:=aa (As z lo hi) A
    cases pl with
    |none=>
      cases f with
      |none=>exact kJ (l:=b_) (u:=b_) (st:=b_) ⟨o,ho,hc,hd⟩ rfl (qE ⟨a,fin⟩)
      |int j n=>exact kJ (l:=b_) (u:=a_ (j,n)) (st:=b_) ⟨o,ho,hc,hd⟩ rfl (qE ⟨a,fin⟩)
    |int i B=>
      cases f with
      |none=>exact kJ (l:=a_ (i,B)) (u:=b_) (st:=b_) ⟨o,ho,hc,hd⟩ rfl (qE ⟨a,fin⟩)
      |int j n=>exact kJ (l:=a_ (i,B)) (u:=a_ (j,n)) (st:=b_) ⟨o,ho,hc,hd⟩ rfl (qE ⟨a,fin⟩)
   .cases h
 |tup ds=>
   cases h;obtain⟨p,vs,rfl,t,r⟩:=m;by_cases D:HT.iW ds.length 0 lo=0/\HT.iW ds.length ds.length hi=ds.length
   .have e:cutD ds lo hi=ds:=by
     unfold cutD
     simp_all
    rw[e]at k;cases c;obtain⟨its,G,ht,A⟩:=I.tuple (t.mono g.sub).sq;have hlen:its.toArray.size=ds.length:=by rw[bD,<-G.length,r.length]
    exact⟨"tuple",_,dC.lookup,ht.typeIs,rG ht hs pl f (by rw[hlen];exact D) ⟨.ref p,H,I,rfl,k _ F H (Step.refl g) ⟨p,vs,rfl,t,r⟩ aZ⟩⟩
   .exact TR h_ s σ H _ v w y lo hi sl Q I c hs pl f ⟨p,vs,rfl,(t.mono g.sub).sq,by rw[r.length];exact D,λq b=>k _ _ _ (Step.alloc g b) ⟨q,_,rfl,.inl cO,(zR lo hi r).mono (cj.upd (g.sub.free b))⟩ aZ⟩
 |_=>cases h
def X2{lo:Option a8}(ha:SE X C a xa)(hl:SO X C lo xb)(hh:SO X C hi xc):SE X C (.Subscript a (.Slice lo hi b_ p2) pos) (.sl xa xb xc):=
 PE.imp (K5 aaG ha hl hh) λσ H Q j=>by
  refine ac λ_ e=>?_;obtain⟨ρ,d,fr,h,F,g,R,k⟩:=j;obtain⟨⟨da,m⟩,h1,h⟩:=c5 h;obtain⟨l,h2,h⟩:=c5 h;obtain⟨u,h3,h⟩:=c5 h;refine e ?_;exact ⟨ρ,da,m,h1,F,g,R,λv F1 t b n _=>⟨ρ,l,F1,h2,b.good,R.mono b.ff,λo H2 c=>⟨ρ,u,o,h3,c.good,R.mono (b.ff.trans c.ff),λp x f=>⟨da,d,fr,p,h,f.good,n.mono (c.ff.trans f.ff),λw q H4 i r s=>k w q H4 (((b.trans c).trans f).trans i) r λz=>(s z).back (F:=F) ((b.hh.trans c.hh).trans f.hh)⟩⟩⟩⟩
def UZ(B:X.A.units+20<dc):j2 X (compareOp .NotEq) (gB X.K (rM .ne)):=λh_ s σ H x y v u Q I c f a=>by
 refine ac λ_ e=>?_;obtain⟨da,i,d,fr,h,F,g,j,l,k⟩:=a;obtain⟨b,hd,rfl,rfl⟩:=kE h;refine e ?_;simp only[gn]at hd;split at hd
 .rename_i hs;cases hd;simp only[aj]at hs;exact(vZ I g 20 X.A da i B hs.1 hs.2 j l c f).2.2 X.prog X.w _ _ ⟨.bl _,H,I,rfl,k _ F H (Step.refl g) rfl aZ⟩
 .cases hd
set_option tactic.hygienic false
def Pw:j2 X (compareOp .Is) (gB X.K (rM .isn)):=j2.imp U3 λx y H Q c=>by
 refine ac λ_ e=>?_;obtain⟨da,f,d,fr,h,F,g,a,i,k⟩:=c;obtain⟨b,hd,rfl,rfl⟩:=kE h
 refine e ?_;cases f with
 |non=>
   cases hd;refine⟨i,?_⟩
   cases da with
   |non=>cases a;exact k _ F H (Step.refl g) rfl aZ
   |tup ds=>obtain⟨p,vs,rfl,_⟩:=a;exact k _ F H (Step.refl g) rfl aZ
   |lst ds=>obtain⟨p,vs,rfl,_⟩:=a;exact k _ F H (Step.refl g) rfl aZ
   |dct _ ds=>obtain⟨p,vs,rfl,_⟩:=a;exact k _ F H (Step.refl g) rfl aZ
   |_=>cases a;exact k _ F H (Step.refl g) rfl aZ
 |_=>cases da<;>cases hd
def K9:j2 X (compareOp .IsNot) (gB X.K (rM .nisn)):=j2.imp Pq λx y H Q c=>by
 refine ac λ_ e=>?_;obtain⟨da,f,d,fr,h,F,g,a,i,k⟩:=c;obtain⟨b,hd,rfl,rfl⟩:=kE h
 refine e ?_;cases f with
 |non=>
   cases hd;refine⟨i,?_⟩
   cases da with
   |non=>cases a;exact k _ F H (Step.refl g) rfl aZ
   |tup ds=>obtain⟨p,vs,rfl,_⟩:=a;exact k _ F H (Step.refl g) rfl aZ
   |lst ds=>obtain⟨p,vs,rfl,_⟩:=a;exact k _ F H (Step.refl g) rfl aZ
   |dct _ ds=>obtain⟨p,vs,rfl,_⟩:=a;exact k _ F H (Step.refl g) rfl aZ
   |_=>cases a;exact k _ F H (Step.refl g) rfl aZ
 |_=>cases da<;>cases hd
end
end M
namespace L2
open PySem PySem.Spec PyProof.Rows
def pA(tp:Bool)(h:cM)(it l:aI)(i:Nat):Prop:=match tp with
 |true=>h.IsTupleIter it l i
 |false=>h.IsListIter it l i
def pz(tp:Bool)(h:cM)(l:aI)(xs:Array ah):Prop:=match tp with
 |true=>h.IsTuple l xs
 |false=>h.IsList l xs
def pA.keep{h':cM}(y:pA tp h it l i)(k:∀o,h.get? it=a_ o->h'.get? it=a_ o):pA tp h' it l i:=by
 cases tp<;>exact(let ⟨o,e,r⟩:=y;⟨o,k o e,r⟩)
def pz.keep{h':cM}(y:pz tp h l xs)(k:∀o,h.get? l=a_ o->h'.get? l=a_ o):pz tp h' l xs:=by
 cases tp<;>exact(let ⟨o,e,r⟩:=y;⟨o,k o e,r⟩)
def pA.obj(y:pA tp h it l i):∃o,h.get? it=a_ o/\o.cls=.type (if tp then "tuple_iterator" else "list_iterator")/\o.data=.fields #[.ref l,.int i 0]:=by
 cases tp<;>exact y
def pz.obj(y:pz tp h l xs):∃o,h.get? l=a_ o/\o.cls=.type (if tp then "tuple" else "list")/\∃n,o.data=.seq xs n:=by
 cases tp<;>exact y
section
open Builtin
variable{A:bX}{s:ak}
def Lk(B:s.heap.IsTupleIter it q i)(O:s.heap.IsTuple q xs)(Y:xs[i]?=a_ v)
  (k:∀h',h'.IsTupleIter it q (i+1)->cL it s.heap h'->Q v { s with heap:=h' }):aF (aG prog w) A (ig (.ref it)) Q E s:=by
 refine ac λ_ j=>?_;obtain⟨f,b,e,a⟩:=id B;obtain⟨g,c,_,h,d⟩:=O;refine j ?_;refine wb9 (cU B.typeIs fZ (bN fZ B.typeIs qF ?_ (qh _)));show aF (aG prog w) _ (field (.ref it) 0 >>= _) _ _ s;refine wb9 (dm b a rfl ?_);refine wb9 (dm b a rfl ?_);refine wb9 (dq c d ?_);simp only[Nr,Y];refine wb9 (wpAny_setField b a (by simp) (wu9 ⟨v,rfl,wu9 (k _ ⟨_,fe _ b (Obj.isFreed_of_fields (JH a _)),(Obj.cls_mapFields ..).trans e,?_⟩ (ou ..))⟩));rw[JH a];simp[rawInt]
def PK(O:A.handled=b_)(B:s.heap.IsTupleIter it q i)(Y:s.heap.IsTuple q xs)(Z:xs[i]?=b_)
  (k:∀h' e,EX it s.heap h'->(∃o,h'.get? e=a_ o/\o.cls=.type "StopIteration")->E (.ref e) { s with heap:=h' }):aF (aG prog w) A (ig (.ref it)) Q E s:=by
 refine ac λ_ l=>?_;obtain⟨f,a,g,b⟩:=id B;obtain⟨h,c,_,j,d⟩:=Y;refine l ?_;refine wb9 (cU B.typeIs fZ (bN fZ B.typeIs qF ?_ (qh _)));show aF (aG prog w) _ (field (.ref it) 0 >>= _) _ _ s;refine wb9 (dm a b rfl ?_);refine wb9 (dm a b rfl ?_);refine wb9 (dq c d ?_);simp only[Nr,Z];refine wb9 (gh (wb9 (wpAny_setField a b (by simp) ?_)));refine wb9 ?_;refine wb9 (dI (wb9 (kH (by first|rfl|(rfl)) (dI ?_ (by size_fits)))) (by size_fits));refine wb9 (wpAny_handled ?_)
 first|rw[O]|rw[O]
 exact wb9 (wu9 (wpAny_throw (k _ _ (((ou ..).extBut.push _).push _) ⟨_,aK _ rfl,rfl⟩)))
def PJ(B:pA tp s.heap it q i)(O:pz tp s.heap q xs)(Y:xs[i]?=a_ v)
  (k:∀h',pA tp h' it q (i+1)->cL it s.heap h'->Q v { s with heap:=h' }):aF (aG prog w) A (ig (.ref it)) Q E s:=by
 cases tp
 .exact wpAny_nextOf_list_item B O Y k
 .exact Lk B O Y k
def Ve(B:A.handled=b_)(O:pA tp s.heap it q i)(Y:pz tp s.heap q xs)(Z:xs[i]?=b_)
  (k:∀h' e,EX it s.heap h'->(∃o,h'.get? e=a_ o/\o.cls=.type "StopIteration")->E (.ref e) { s with heap:=h' }):aF (aG prog w) A (ig (.ref it)) Q E s:=by
 cases tp
 .exact wpAny_nextOf_list_end B O Y Z k
 .exact PK B O Y Z k
end
noncomputable def abk(tp:Bool):String:=if tp then "tuple_iterator" else "list_iterator"
def D3(tp:Bool)(l:aI):lA:={ cls:=.type (abk tp),data:=.fields #[.ref l,.int 0 0] }
def Qk{h:cM}(e:h.get? it=a_ (D3 tp l)):pA tp h it l 0:=by
 cases tp<;>exact⟨_,e,rfl,rfl⟩
section
variable{s:ak}
def Il(B:pz tp s.heap l xs)(k:Q (.ref s.heap.objs.size) { s with heap:=s.heap.push (D3 tp l) }):aF (aG prog w) A (JF (.ref l)) Q E s:=by
 cases tp
 .exact wK B k
 .exact wpAny_pyIter_tuple B k
end
section
end
section
variable{h':cM}
def Inv.ux{t':Nat}{ch:List aI}(I:Inv X h_ σ H s)(k:∀b o,b∉ch->s.heap.get? b=a_ o->h'.get? b=a_ o)(hf:∀b∈ch,rR X h_ H b):Inv X h_ σ H { s with heap:=h',toks:=t' }:=by
 have a:∀b u,H b=a_ u->b∉ch:=λb u e z=>by rw[(hf b z).1]at e;cases e
 refine I.step (λb hb=>⟨(hf b hb).2.2.2.1,(hf b hb).2.1,(hf b hb).2.2.2.2.1,(hf b hb).2.2.2.2.2⟩) (λb o _ _ hc e _=>k b o hc e) (λb o _ _ hc e _=>⟨o.slots,k b o hc e⟩) (λ_ _ _ _ n=>n)
  (λb o hc e=>⟨o,k b o hc e⟩) (λ_ _ e=>e) (λ_ _ _ e=>e) (λb ps e=>⟨#[],by rw[e];simp⟩) (λm d=>?_) (λb u e=>?_) I.bare
 .obtain⟨o,es,ep,ho,r⟩:=d;exact⟨o,es,ep,k _ o (λz=>(hf _ z).2.1 rfl) ho,r⟩
 .refine(I.hok b u e).oH (λc v hc q=>k c v ?_ q) (λ_ q=>q) λ_ _ q=>q
  rcases hc with z|z
  .rw[z];exact a b u e
  .exact a c _ z
end
def EL(tp:Bool)(K:aN)(H:Hp)(a:aI)(xs:List V):Prop:=match tp with
 |true=>tG K H a xs
 |false=>nM K H a xs
def EL.inj(I:Inv X h_ σ H s)(h:EL tp X.K H a xs)(h':EL tp X.K H a ys):xs=ys:=by
 cases tp
 .exact I.nF h h'
 .exact I.nu h h'
def EL.at (I:Inv X h_ σ H s)(h:EL tp X.K H a xs):∃its:List ah,c7 xs its/\pz tp s.heap a its.toArray:=by
 cases tp
 .obtain⟨its,b,p,_⟩:=I.list h;exact⟨its,b,p.isList⟩
 .obtain⟨its,b,p,_⟩:=I.tuple h;exact⟨its,b,p⟩
def m6(h:cM)(it:aI)(x:be)(t:ES)(i:Nat):Prop:=h.IsStrIter it (strIterType x) x t i
def m6.keep{h':cM}(y:m6 h it x t i)(k:∀o,h.get? it=a_ o->h'.get? it=a_ o):m6 h' it x t i:=let ⟨o,e,r⟩:=y;⟨o,k o e,r⟩
section
open Builtin
variable{A:bX}{s:ak}
def zf(B:m6 s.heap it x t i)(O:x.cps[i]?=a_ c)
  (k:∀h',m6 h' it x t (i+1)->cL it s.heap h'->Q (.str ⟨#[c]⟩ s.toks) { s with heap:=h',toks:=s.toks+1 }):aF (aG prog w) A (ig (.ref it)) Q E s:=by
 unfold m6 strIterType at B k;cases ha:x.cps.all (·< 128)
 .simp only[ha,bS,if_false]at B k;exact wpAny_nextOf_wide_item B O k
 .simp only[ha,if_true]at B k;exact wpAny_nextOf_ascii_item B O k
def Dl(O:A.handled=b_)(B:m6 s.heap it x t i)(Y:x.cps[i]?=b_)
  (k:∀h' e,EX it s.heap h'->(∃o,h'.get? e=a_ o/\o.cls=.type "StopIteration")->E (.ref e) { s with heap:=h' }):aF (aG prog w) A (ig (.ref it)) Q E s:=by
 unfold m6 strIterType at B;cases ha:x.cps.all (·< 128)
 .simp only[ha,bS,if_false]at B;exact wpAny_nextOf_wide_end O B Y k
 .simp only[ha,if_true]at B;exact wpAny_nextOf_ascii_end O B Y k
end
def pW(x:be)(t:ES):lA:={ cls:=.type (strIterType x),data:=.fields #[.str x t,.int 0 0] }
def Fj{h:cM}(e:h.get? it=a_ (pW x t)):m6 h it x t 0:=⟨_,e,rfl,rfl⟩
section
end
def ZT(x y:be):It:=
 ⟨λi _=>∃c d,x.cps[i]?=a_ c/\y.cps[i]?=a_ d,
  λi H v H'=>∃T,H T=b_/\v=.ref T/\∃c d,x.cps[i]?=a_ c/\y.cps[i]?=a_ d/\H'=upd H T (.tup [.str ⟨#[c]⟩,.str ⟨#[d]⟩]),
  λi _=>x.cps[i]?=b_\/y.cps[i]?=b_⟩
def MF{A:bX}(hh:A.handled=b_)(it:aI)(x:be)(t:ES) :
  Draws prog w A it [it] x.cps.size (λi v=>∃u c,x.cps[i]?=a_ c/\v=.str ⟨#[c]⟩ u) (λi h=>m6 h it x t i) where
 live:=λ_ _ st=>let ⟨o,ho,_⟩:=st;⟨o,ho⟩
 frame:=λ_ _ _ st hk=>st.keep λo e=>hk it (by simp) o e
 item:=λi s Q E hi st d=>zf st (c:=x.cps[i]) (by simp[hi]) λh' a b=>d _ h' _ ⟨_,_,by simp[hi],rfl⟩ a b
 done:=λs Q E st f=>Dl hh st (by simp) f
def IV{A:bX}(hh:A.handled=b_)(it:aI)(x:be)(t:ES)(i:Nat)(hi:x.cps.size<=i) :
  Draws prog w A it [it] i (λ_ _=>True) (λj h=>j=i/\m6 h it x t i) where
 live:=λ_ _ st=>let ⟨o,ho,_⟩:=st.2;⟨o,ho⟩
 frame:=λ_ _ _ st hk=>⟨st.1,st.2.keep λo e=>hk it (by simp) o e⟩
 item:=λj s Q E a st c=>absurd st.1 (bw a)
 done:=λs Q E st b=>Dl hh st.2 (by simp[hi]) b
set_option tactic.hygienic true in
def Wi(x:be)(t:ES) :
  Meets (fV.«enumerate.__new__» ⟨[.type "enumerate",.str x t],[]⟩) (λ_ R s=>
   R (.ok (.ret (.ref (s.heap.push (pW x t)).objs.size))) { s with heap:=(s.heap.push (pW x t)).push { cls:=.type "enumerate",data:=.fields #[.none,.bool d_,.ref s.heap.objs.size,rawInt 0,.none,.none] } }):=
 .of_wp λprog w A R s h=>by
  obtain⟨hp,g,d,b,os⟩:=s;have a:=sub_enumerate
  wp_walk
  refine wpAny_stack_any λst=>wu9 ?_;split
  .rename_i c _ _ _ _ _;cases(c == i6 "enumerate")
   .wp_walk using oN (x:=x) (t:=t)
    exact⟨_,rfl,h⟩
   .wp_walk using oN (x:=x) (t:=t)
    exact⟨_,rfl,h⟩
  .wp_walk using oN (x:=x) (t:=t)
   exact⟨_,rfl,h⟩
section
variable{s:ak}
def QD
  (k:∀h',IsEnum h' (s.heap.objs.size+1) s.heap.objs.size 0 .none->m6 h' s.heap.objs.size x t 0->(∀b o,s.heap.get? b=a_ o->h'.get? b=a_ o)->Q (.ref (s.heap.objs.size+1)) { s with heap:=h' }) :
  aF (aG prog w) A (call (.type "enumerate") [.str x t]) Q E s:=by
 refine JG PySem.F.called_enumerate br (PySem.F.typeCall_enumerate_1 _) (PySem.F.newCall_enumerate_1 _) (λobj=>uQ obj _) PySem.F.entry_enumerate_new (Wi x t) ?_;have c:(s.heap.push (pW x t)).objs.size=s.heap.objs.size+1:=eR ..;have a:((s.heap.push (pW x t)).push { cls:=.type "enumerate",data:=.fields #[.none,.bool d_,.ref s.heap.objs.size,rawInt 0,.none,.none] }).get? (s.heap.push (pW x t)).objs.size=a_ { cls:=.type "enumerate",data:=.fields #[.none,.bool d_,.ref s.heap.objs.size,rawInt 0,.none,.none] }:=aK _ rfl;rw[c]at a;rw[c];exact⟨⟨_,a,rfl⟩,k _ a (Fj (hp9 _ (aK _ rfl))) λb o x=>hp9 _ (hp9 _ x)⟩
end
def W2(x:be):It:=
 ⟨λi H=>i<x.cps.size,λi H v H'=>∃T,H T=b_/\v=.ref T/\∃c,x.cps[i]?=a_ c/\H'=upd H T (.tup [.int i,.str ⟨#[c]⟩]),λi H=>x.cps.size<=i⟩
def Oa{K:aN}(x:be)(t:ES)(e it:aI)(O:e≠it) :
  Turn P w K (.Tuple elts k pos) (W2 x) [e,it] e (λi h=>(∃B,IsEnum h e it i B)/\m6 h it x t i) where
 mem:=by simp
 obj:=λi h st c hc=>by
  obtain⟨⟨B,he⟩,L,e1,_,d1⟩:=st;simp only[au,bu,or_false]at hc
  rcases hc with rfl|rfl
  .exact⟨_,he,λv z=>nomatch z⟩
  .exact⟨_,e1,λv z=>by rw[d1]at z;cases z⟩
 keep:=λi h h' st k=>by
  obtain⟨⟨B,he⟩,h1⟩:=st;exact⟨⟨B,k e (by simp) _ he⟩,h1.keep λo q=>k it (by simp) o q⟩
 item:=by
  intro X f g j hc i h_ s σ H E I hf st l;subst f g j;obtain⟨⟨B,he⟩,h1⟩:=st;refine wpAny_pyNext_enum_itemD (MF (A:=X.A.in1) (I.ok.hd hc) it x t) he h1 l O (by simp[O]) λv h' b p r y C M hk=>?_;obtain⟨u,c,m,rfl⟩:=p;refine⟨_,rfl,wpAny_letOwnedTupleGo_enum r λh'' n a=>?_⟩
  have kk:∀c o,c∉[e,it]->s.heap.get? c=a_ o->h''.get? c=a_ o:=λc o hc q=>by
   simp only[au,bu,or_false,not_or]at hc;exact a.extBut c o hc.1 (hk c o hc.1 hc.2 q)
  have D:Inv X h_ σ H { s with heap:=h'',toks:=b+1 }:=I.ux (t':=b+1) kk hf;have F:s.heap.objs.size≠e:=kr (hl9 he);have G:h''.get? s.heap.objs.size=a_ { cls:=.type "tuple",data:=.seq #[.int i b,.str ⟨#[c]⟩ u] }:=a.extBut _ _ F C;have d:H s.heap.objs.size=b_:=I.hok.fresh (ao _)
  have J:Inv X h_ σ (upd H s.heap.objs.size (.tup [.int i,.str ⟨#[c]⟩])) { s with heap:=h'',toks:=b+1 }:=by
   refine D.JZ (I.xm (ao _) d) I.sz ⟨by rw[iP];show 2<=16777216;decide,[.int i b,.str ⟨#[c]⟩ u],.cons ⟨_,rfl⟩ (.cons ⟨_,rfl⟩ .nil),?_⟩;exact⟨_,G,rfl,_,rfl⟩
  refine⟨.ref s.heap.objs.size,_,J,rfl,⟨_,d,rfl,c,m,rfl⟩,⟨⟨_,by simpa using n⟩,y.keep λo q=>a.extBut _ o O.symm q⟩,λc hc=>?_⟩;rw[cZ ?_]
  .exact(hf c hc).1
  .have:c<s.heap.objs.size:=by
    simp only[au,bu,or_false]at hc
    rcases hc with rfl|rfl
    .exact hl9 he
    .obtain⟨_,q,_⟩:=h1;exact hl9 q
   exact bw this
 done:=by
  intro X f g j hc i h_ s σ H E I hf st l;subst f g j;obtain⟨⟨B,he⟩,h1⟩:=st;refine wpAny_pyNext_enum_endD (IV (A:=X.A.in1) (I.ok.hd hc) it x t i l) he ⟨rfl,h1⟩ λh' hk=>⟨rfl,I.ux (t':=s.toks) (ch:=[it]) (λc o hc q=>?_) λc hc=>hf c ?_⟩
  .exact hk c o (by simpa using hc) q
  .simp only[au,bu,or_false]at hc ⊢;exact .inr hc
 self:=λ_ _ _ _ _ st h=>let ⟨⟨_,he⟩,_⟩:=st;wpAny_pyIter_enum he h
section
open Builtin
variable{A:bX}{s:ak}
structure ZN(z T U i j b:aI):Prop where
 Tz:T≠z
 Uz:U≠z
 iz:i≠z
 jz:j≠z
 TU:T≠U
 Ti:T≠i
 Tj:T≠j
 Ui:U≠i
 Uj:U≠j
 ij:i≠j
 bz:b≠z
 bU:b≠U
 bi:b≠i
 bj:b≠j
def N1{z T U i j:aI}{p:be}{tp:ES}{b:aI}{ys:Array ah}{m n x:Nat}{y:ah}{c d:ah}{Q:ah->ak->Prop}(P:ZN z T U i j b)(B:C4 s.heap z T U .none)(gT:ko s.heap T (.ref i) (.ref j))(Y:ko s.heap U c d)
  (Z:m6 s.heap i p tp m)(gj:pA c_ s.heap j b n)(gb:pz c_ s.heap b ys)(gx:p.cps[m]?=a_ x)(gy:ys[n]?=a_ y)
  (k:∀h',C4 h' z T U (rawInt s.heap.objs.size)->ko h' U (.str ⟨#[x]⟩ s.toks) y->m6 h' i p tp (m+1)->pA c_ h' j b (n+1)->ko h' s.heap.objs.size (.str ⟨#[x]⟩ s.toks) y->h'.objs.size=s.heap.objs.size+1->
   (∀e o,e≠z->e≠U->e≠i->e≠j->s.heap.get? e=a_ o->h'.get? e=a_ o)->Q (.ref s.heap.objs.size) { s with heap:=h',toks:=s.toks+1 }) :
  aF (aG prog w) A (fV.«zip.__next__» ⟨[.ref z],[]⟩) (λf s'=>∃v,f=.done (.ret v)/\Q v s') E s:=by
 show aF (aG prog w) _ (field (.ref z) 2 >>= _) _ _ _;refine wb9 (dm B rfl (x:=.bool d_) rfl ?_);refine wb9 (dm B rfl rfl (wb9 (dq gT rfl ?_)));refine wb9 ?_;refine wb9 (dm B rfl rfl (wu9 ?_));refine wb9 (gh (wb9 (dm B rfl rfl (wb9 (bM B (by simp) λh1 h s1=>?_)))));replace h :=h;refine wb9 ?_;simp only[ur,NV,wF,Ro];refine wb9 (wb9 (um ?_));refine wb9 (zf (Z.keep λo e=>s1.extBut _ o P.iz e) gx λh2 I s2=>wu9 ?_);have t :=s2.extBut _ _ P.Ui (s1.extBut _ _ P.Uz Y);refine wb9 (dq t rfl (wb9 (si t λh3 l s3=>wb9 (me (wu9 ?_)))));replace l :=l;refine wb9 (wb9 (um ?_));refine wb9 (PJ (gj.keep λo e=>s3.extBut _ o P.Uj.symm (s2.extBut _ o P.ij.symm (s1.extBut _ o P.jz e))) (gb.keep λo e=>s3.extBut _ o P.bU (s2.extBut _ o P.bi (s1.extBut _ o P.bz e))) gy λW J u=>wu9 ?_);have C :=u.extBut _ _ P.Uj l;refine wb9 (dq C rfl (wb9 (si C λh5 a D=>wb9 (me (wu9 (wu9 ?_))))));replace a:ko h5 U (.str ⟨#[x]⟩ s.toks) y:=a;refine wb9 (dq a rfl (wb9 (CW ?_)));have sz:h5.objs.size=s.heap.objs.size:=by rw[D.1,u.1,s3.1,s2.1,s1.1]
 have F :=D.extBut _ _ P.Uz.symm (u.extBut _ _ P.jz.symm (s3.extBut _ _ P.Uz.symm (s2.extBut _ _ P.iz.symm h)));have G :=hl9 F;refine wb9 ?_;refine wb9 (bM (hp9 _ F) (by simp) λX r O=>?_);replace r :=r;refine bM r (by simp) λh8 g R=>wu9 ⟨_,rfl,?_⟩;replace g :=g;have up:∀e o,e≠z->h5.get? e=a_ o->h8.get? e=a_ o:=λe o e1 q=>R.extBut _ _ e1 (O.extBut _ _ e1 (hp9 _ q));have S :=R.extBut _ _ (kr G) (O.extBut _ _ (kr G) (aK _ rfl));have H:h8.objs.size=h5.objs.size+1:=by rw[R.1,O.1,eR]
 rw[sz]at g S H;rw[sz];exact k h8 g (up _ _ P.Uz a) ((I.keep λo e=>D.extBut _ o P.Ui.symm (u.extBut _ o P.ij (s3.extBut _ o P.Ui.symm e))).keep λo e=>up _ o P.iz e) ((J.keep λo e=>D.extBut _ o P.Uj.symm e).keep λo e=>up _ o P.jz e) S H λe o e1 e2 e3 K q=>up e o e1 ((λe o e1 e2 e3 K q=>D.extBut _ _ e2 (u.extBut _ _ K (s3.extBut _ _ e2 (s2.extBut _ _ e3 (s1.extBut _ _ e1 q))))) e o e1 e2 e3 K q)
def SM{T U:aI}(O:A.handled=b_)(P:ZN z T U i j b)(B:C4 s.heap z T U .none)(gT:ko s.heap T (.ref i) (.ref j))(Z:ko s.heap U c d)
  (Y:m6 s.heap i p tp m)(gj:pA c_ s.heap j b n)(gb:pz c_ s.heap b ys)(ge:p.cps[m]?=b_\/ys[n]?=b_)
  (k:∀h' e,(∀e o,e≠z->e≠U->e≠i->e≠j->s.heap.get? e=a_ o->h'.get? e=a_ o)->(∃o,h'.get? e=a_ o/\o.cls=.type "StopIteration")->∀tk,E (.ref e) { s with heap:=h',toks:=tk }) :
  aF (aG prog w) A (fV.«zip.__next__» ⟨[.ref z],[]⟩) Q E s:=by
 show aF (aG prog w) _ (field (.ref z) 2 >>= _) _ _ _;refine wb9 (dm B rfl (x:=.bool d_) rfl ?_);refine wb9 (dm B rfl rfl (wb9 (dq gT rfl ?_)));refine wb9 ?_;refine wb9 (dm B rfl rfl (wu9 ?_));refine wb9 (gh (wb9 (dm B rfl rfl (wb9 (bM B (by simp) λh1 a s1=>?_)))));replace a :=a;refine wb9 ?_;simp only[ur,NV,wF,Ro];refine wb9 (wb9 (um ?_))
 cases y:p.cps[m]? with
 |none=>
   refine wb9 (Dl O (Y.keep λo e=>s1.extBut _ o P.iz e) y λh2 e s2 he=>?_);obtain⟨l,f,g⟩:=he;have r :=s2 _ _ P.iz.symm a;have t:e≠z:=λq=>by grind
   exact bM r (by simp) λh3 _ s3=>k h3 e (λc o c1 _ u _ q=>s3.extBut _ _ c1 (s2 _ _ u (s1.extBut _ _ c1 q))) ⟨l,s3.extBut _ _ t f,g⟩ _
 |some x=>
   have F:ys[n]?=b_:=by
    grind
   refine wb9 (zf (Y.keep λo e=>s1.extBut _ o P.iz e) y λh2 G s2=>wu9 ?_);have h :=s2.extBut _ _ P.Ui (s1.extBut _ _ P.Uz Z);refine wb9 (dq h rfl (wb9 (si h λh3 H s3=>wb9 (me (wu9 ?_)))));refine wb9 (wb9 (um ?_));refine wb9 (Ve O (gj.keep λo e=>s3.extBut _ o P.Uj.symm (s2.extBut _ o P.ij.symm (s1.extBut _ o P.jz e))) (gb.keep λo e=>s3.extBut _ o P.bU (s2.extBut _ o P.bi (s1.extBut _ o P.bz e))) F λJ e C he=>?_);obtain⟨l,f,g⟩:=he;have v :=C _ _ P.jz.symm (s3.extBut _ _ P.Uz.symm (s2.extBut _ _ P.iz.symm a));have t:e≠z:=λq=>by grind
   exact bM v (by simp) λh5 _ D=>k h5 e (λc o c1 c2 u I q=>D.extBut _ _ c1 (C _ _ I (s3.extBut _ _ c2 (s2.extBut _ _ u (s1.extBut _ _ c1 q))))) ⟨l,D.extBut _ _ t f,g⟩ _
def KJ{T U:aI}(P:ZN z T U i j b)(B:C4 s.heap z T U .none)(gT:ko s.heap T (.ref i) (.ref j))(O:ko s.heap U c d)
  (Y:m6 s.heap i p tp m)(Z:pA c_ s.heap j b n)(gb:pz c_ s.heap b ys)(gx:p.cps[m]?=a_ x)(gy:ys[n]?=a_ y)
  (k:∀h',C4 h' z T U (rawInt s.heap.objs.size)->ko h' U (.str ⟨#[x]⟩ s.toks) y->m6 h' i p tp (m+1)->pA c_ h' j b (n+1)->ko h' s.heap.objs.size (.str ⟨#[x]⟩ s.toks) y->h'.objs.size=s.heap.objs.size+1->
   (∀e o,e≠z->e≠U->e≠i->e≠j->s.heap.get? e=a_ o->h'.get? e=a_ o)->Q (a_ (.ref s.heap.objs.size)) { s with heap:=h',toks:=s.toks+1 }):aF (aG prog w) A (pyNext (.ref z)) Q E s:=by
 have ty:s.TypeIs (.ref z) "zip":=⟨_,B,rfl⟩
 exact wb9 (jd (cU ty j6 (bN j6 ty yT (N1 P B gT O Y Z gb gx gy λh' a f g h l q r=>wu9 (k h' a f g h l q r)) (xA _))))
def O6{T U:aI}(Y:A.handled=b_)(P:ZN z T U i j b)(B:C4 s.heap z T U .none)(gT:ko s.heap T (.ref i) (.ref j))(Z:ko s.heap U c d)
  (gi:m6 s.heap i p tp m)(gj:pA c_ s.heap j b n)(gb:pz c_ s.heap b ys)(ge:p.cps[m]?=b_\/ys[n]?=b_)
  (k:∀h',(∀e o,e≠z->e≠U->e≠i->e≠j->s.heap.get? e=a_ o->h'.get? e=a_ o)->∀O,Q b_ { s with heap:=h',toks:=O }):aF (aG prog w) A (pyNext (.ref z)) Q E s:=by
 have ty:s.TypeIs (.ref z) "zip":=⟨_,B,rfl⟩
 refine wb9 (jd (cU ty j6 (bN j6 ty yT (SM Y P B gT Z gi gj gb ge λh' e hk he O=>?_) (xA _))));obtain⟨o,ho,hc⟩:=he;exact wb9 (dU ⟨o,ho,hc⟩ CY (wu9 (k _ hk _)))
end
abbrev ZY(h:cM)(x:be)(t:ES)(b:aI):cM:=((h.push (pW x t)).push (D3 c_ b)).push { cls:=.type "tuple",data:=.seq #[.ref h.objs.size,.ref (h.push (pW x t)).objs.size] }
abbrev ZX(h:cM)(x:be)(t:ES)(b:aI):cM:=(ZY h x t b).push { cls:=.type "tuple",data:=.seq #[.none,.none] }
abbrev Xc(h:cM)(x:be)(t:ES)(b:aI):cM:=(ZX h x t b).push { cls:=.type "zip",data:=.fields #[.none,.bool d_,.bool d_,.ref ((h.push (pW x t)).push (D3 c_ b)).objs.size,.ref (ZY h x t b).objs.size] }
def SK(x:be)(t:ES)(b:aI)(ys:Array ah):Meets (fV.«zip.__new__» ⟨[.type "zip",.str x t,.ref b],[]⟩) (λ_ R s=>pz c_ s.heap b ys/\R (.ok (.ret (.ref (ZX s.heap x t b).objs.size))) { s with heap:=Xc s.heap x t b }):=
 .of_wp λprog w A R s q=>by
  obtain⟨hp,g,d,a,os⟩:=s;obtain⟨c,q⟩:=q;have sz:=PySem.sub_zip;have e2:pz c_ (Shared.heap ⟨hp.push { cls:=.type (strIterType x),data:=.fields #[.str x t,.int 0 0] },g,d,a,os⟩) b ys:=pz.keep c λo e=>hp9 _ e
  wp_walk using oN (x:=x) (t:=t),Il e2
  exact⟨_,rfl,q⟩
section
variable{s:ak}
def N3
  (B:pz c_ s.heap b ys)(k:∀h',C4 h' (s.heap.objs.size+4) (s.heap.objs.size+2) (s.heap.objs.size+3) .none->ko h' (s.heap.objs.size+2) (.ref s.heap.objs.size) (.ref (s.heap.objs.size+1))->ko h' (s.heap.objs.size+3) .none .none->
   m6 h' s.heap.objs.size x t 0->pA c_ h' (s.heap.objs.size+1) b 0->(∀c o,s.heap.get? c=a_ o->h'.get? c=a_ o)->Q (.ref (s.heap.objs.size+4)) { s with heap:=h' }):aF (aG prog w) A (call (.type "zip") [.str x t,.ref b]) Q E s:=by
 refine JG PySem.F.called_zip br (PySem.F.typeCall_zip_2 _ _) (PySem.F.newCall_zip_2 _ _) (λl=>PySem.F.args_object_init_3 l _ _) PySem.F.entry_zip_new (SK x t b ys) ⟨B,?_⟩;have a:(s.heap.push (pW x t)).objs.size=s.heap.objs.size+1:=eR ..;have d:((s.heap.push (pW x t)).push (D3 c_ b)).objs.size=s.heap.objs.size+2:=by rw[eR,a]
 have e:(ZY s.heap x t b).objs.size=s.heap.objs.size+3:=by rw[eR,d]
 have g:(ZX s.heap x t b).objs.size=s.heap.objs.size+4:=by rw[eR,e]
 have f:(Xc s.heap x t b).get? (ZX s.heap x t b).objs.size=a_ _:=aK _ rfl;have h:(Xc s.heap x t b).get? (ZY s.heap x t b).objs.size=a_ _:=hp9 _ (aK _ rfl);have i:(Xc s.heap x t b).get? ((s.heap.push (pW x t)).push (D3 c_ b)).objs.size=a_ _:=hp9 _ (hp9 _ (aK _ rfl));have j:(Xc s.heap x t b).get? (s.heap.push (pW x t)).objs.size=a_ (D3 c_ b):=hp9 _ (hp9 _ (hp9 _ (aK _ rfl)));rw[d,e,g]at f;rw[a,d]at i;rw[e]at h;rw[a]at j;rw[g];exact⟨⟨_,f,rfl⟩,k _ f i h (Fj (hp9 _ (hp9 _ (hp9 _ (hp9 _ (aK _ rfl)))))) (Qk j) λc o q=>hp9 _ (hp9 _ (hp9 _ (hp9 _ (hp9 _ q))))⟩
end
noncomputable def Itm(K:aN)(x:be)(b:aI):It:=
 ⟨λi H=>∃c ys y,x.cps[i]?=a_ c/\EL c_ K H b ys/\ys[i]?=a_ y,
  λi H v H'=>∃T,H T=b_/\v=.ref T/\∃c y,x.cps[i]?=a_ c/\(∀ys,EL c_ K H b ys->ys[i]?=a_ y)/\H'=upd H T (.tup [.str ⟨#[c]⟩,y]),
  λi H=>∃ys,EL c_ K H b ys/\(x.cps[i]?=b_\/ys.length<=i)⟩
def HA{K:aN}(x:be)(t:ES)(b z TI TO B i2:aI)(D:ZN z TI TO B i2 b) :
  Turn P w K (.Tuple elts k pos) (Itm K x b) [z,TI,TO,B,i2] z (λi h=>C4 h z TI TO .none/\ko h TI (.ref B) (.ref i2)/\(∃u v,ko h TO u v)/\m6 h B x t i/\pA c_ h i2 b i) where
 mem:=by simp
 obj:=λi h st c hc=>by
  obtain⟨g,d,⟨u,v,f⟩,⟨o1,e1,_,d1⟩,h2⟩:=st;obtain⟨o2,e2,_,d2⟩:=h2.obj;simp only[au,bu,or_false]at hc
  rcases hc with rfl|rfl|rfl|rfl|rfl
  .exact⟨_,g,λv z=>nomatch z⟩
  .exact⟨_,d,λv z=>nomatch z⟩
  .exact⟨_,f,λv z=>nomatch z⟩
  .exact⟨_,e1,λv z=>by rw[d1]at z;cases z⟩
  .exact⟨_,e2,λv z=>by rw[d2]at z;cases z⟩
 keep:=λi h h' st k=>by
  obtain⟨g,d,⟨u,v,f⟩,h1,h2⟩:=st;exact⟨k z (by simp) _ g,k TI (by simp) _ d,⟨u,v,k TO (by simp) _ f⟩,h1.keep λo e=>k B (by simp) o e,h2.keep λo e=>k i2 (by simp) o e⟩
 item:=by
  intro X n p q hc i h_ s σ H E I hf st l;subst n p q;obtain⟨c1,ys,y,J,hb,L⟩:=l;obtain⟨M,j,r⟩:=EL.at I hb;obtain⟨A,C,F⟩:=j.get L;obtain⟨g,d,⟨N,O,f⟩,h1,h2⟩:=st;refine KJ D g d f h1 h2 r J (y:=A) (by simpa using C) λh' Q R S T U g6 hk=>?_;refine⟨_,rfl,wpAny_letOwnedTupleGo_zip Q λh'' G a=>?_⟩
  have V:∀c∈[z,TO,B,i2],rR X h_ H c:=λc hc=>hf c (by
   simp only[au,bu,or_false]at hc ⊢
   rcases hc with rfl|rfl|rfl|rfl<;>simp)
  have kk:∀c o,c∉[z,TO,B,i2]->s.heap.get? c=a_ o->h''.get? c=a_ o:=λc o hc e=>by
   simp only[au,bu,or_false,not_or]at hc;exact a.extBut c o hc.1 (hk c o hc.1 hc.2.1 hc.2.2.1 hc.2.2.2 e)
  have W:Inv X h_ σ H { s with heap:=h'',toks:=s.toks+1 }:=I.ux (t':=s.toks+1) kk V;have Y:s.heap.objs.size≠z:=kr (hl9 g);have Z:h''.get? s.heap.objs.size=a_ { cls:=.type "tuple",data:=.seq #[.str ⟨#[c1]⟩ s.toks,A] }:=a.extBut _ _ Y U;have m:H s.heap.objs.size=b_:=I.hok.fresh (ao _)
  have I2:Inv X h_ σ (upd H s.heap.objs.size (.tup [.str ⟨#[c1]⟩,y])) { s with heap:=h'',toks:=s.toks+1 }:=by
   refine W.JZ (I.xm (ao _) m) I.sz ⟨by rw[iP];show 2<=16777216;decide,[.str ⟨#[c1]⟩ s.toks,A],.cons ⟨_,rfl⟩ (.cons F .nil),?_⟩;exact⟨_,Z,rfl,_,rfl⟩
  refine⟨.ref s.heap.objs.size,_,I2,rfl,⟨_,m,rfl,c1,y,J,λys' h1=>by rw[EL.inj I h1 hb];exact L,rfl⟩,⟨G,?_,⟨_,_,a.extBut _ _ D.Uz R⟩,S.keep λo e=>a.extBut _ o D.iz e,T.keep λo e=>a.extBut _ o D.jz e⟩,λc hc=>?_⟩
  .exact a.extBut _ _ D.Tz (hk _ _ D.Tz D.TU D.Ti D.Tj d)
  .rw[cZ ?_]
   .exact(hf c hc).1
   .have:c<s.heap.objs.size:=by
     simp only[au,bu,or_false]at hc
     rcases hc with rfl|rfl|rfl|rfl|rfl
     .exact hl9 g
     .exact hl9 d
     .exact hl9 f
     .obtain⟨_,e,_⟩:=h1;exact hl9 e
     .obtain⟨_,e,_⟩:=h2.obj;exact hl9 e
    exact bw this
 done:=by
  intro X n p q hc i h_ s σ H E I hf st l;subst n p q;obtain⟨g,d,⟨N,O,f⟩,h1,h2⟩:=st;obtain⟨ys,hb,l⟩:=l;obtain⟨M,j,r⟩:=EL.at I hb;refine O6 (I.ok.hd hc) D g d f h1 h2 r (l.imp id λh=>by simpa [j.length]using h) λh' hk tk=>⟨rfl,I.ux (t':=tk) (ch:=[z,TO,B,i2]) (λc o hc e=>?_) λc hc=>hf c ?_⟩
  .simp only[au,bu,or_false,not_or]at hc;exact hk c o hc.1 hc.2.1 hc.2.2.1 hc.2.2.2 e
  .simp only[au,bu,or_false]at hc ⊢
   rcases hc with rfl|rfl|rfl|rfl<;>simp
 self:=λ_ _ _ _ _ st h=>wpAny_pyIter_zip st.1 h
end L2
namespace M
open PySem PySem.Spec PyProof.Rows L2
section
variable{X:Cx}{a b:a8}{pos:xv}{σ:St}{F H:Hp}{iter:a8}
theorem AE:∀(xs ys:List Dat) (i:Nat),(oV xs ys)[i]?=match xs[i]?,ys[i]? with
  |some x,a_ y=>a_ (.tup [x,y])
  |_,_=>b_
 |[],_,_=>by simp[oV]
 |_::_,[],i=>by
   simp[oV]
 |x::xs,y::ys,0=>by simp[oV]
 |x::xs,y::ys,i+1=>by exact AE xs ys i
theorem AD:∀(xs ys:List Dat),(oV xs ys).length=min xs.length ys.length
 |[],_=>by simp[oV]
 |_::_,[]=>by simp[oV]
 |x::xs,y::ys=>by simp only[oV,bx,AD xs ys];simp
def TqK(tp:Bool)(K:Fg)(F:Hp)(a:aI)(vs:List V):Prop:=match tp with
 |true=>Tq K F a vs
 |false=>nM K F a vs
def TqK.up{tp:Bool}{K:Fg}{F F' H:Hp}{a:aI}{vs:List V}(h:TqK tp K F a vs)(s:cj F F')(g:Good F' H):EL tp K H a vs:=by
 cases tp
 .exact g.sub.seq (s.seq h)
 .exact((Tq.mono s h).mono g.sub).sq
def Y7(K:Fg)(B:TA):TI:=λσ H R=>B σ H λvs c=>∃x b,vs=[.str x,.ref b]/\(∃ys,EL c_ K c b ys)/\R (L2.Itm K x b) c
def Pf(O:Gl X "zip")(Y:X.mg "zip"=b_)(ha:PA X [a,b] ta)(hs:aQ [a,b] X.env=[(d_,eval a X.env),(d_,eval b X.env)])(B:aQ [b] X.env=[(d_,eval b X.env)]) :
  PI X (.Tuple elts k tpos) (.Call (.Name "zip" p) [a,b] [] pos) (Y7 X.K ta):=by
 intro h_ s σ H R I h;refine Call_ (lW I O Y (by decide +kernel:bootBuiltins "zip"=a_ (.type "zip")) (dz (iR (ha pos h_ s σ H _ I h) λus s1 ⟨vs,j,g,m,n⟩=>?_) (by rw[hs,B]) (by rw[B];rfl)));obtain⟨x,b,e,⟨ys,o⟩,q⟩:=n;subst e
 cases m with
 |cons r i=>
   cases i with
   |cons u i=>
     cases i;obtain⟨t,rfl⟩:=r;cases u;obtain⟨D,v,d⟩:=EL.at g o;have E:@LT.lt Nat _ b s1.heap.objs.size:=by obtain⟨_,e,_⟩:=d.obj;exact hl9 e
     refine N3 d λh' l w y z A kk=>?_;refine wpAny_pyIter_zip l ⟨_,[s1.heap.objs.size+4,s1.heap.objs.size+2,s1.heap.objs.size+3,s1.heap.objs.size,s1.heap.objs.size+1],_,_,j,rfl,(g.kept kk),
      HA x t b _ _ _ _ _ ⟨?_,?_,?_,?_,?_,?_,?_,?_,?_,?_,?_,?_,?_,?_⟩,⟨l,w,⟨_,_,y⟩,z,A⟩,λc hc=>?_,q⟩
     all_goals try grind
     have f:s1.heap.objs.size<=c:=by
      simp only[au,bu,or_false]at hc
      rcases hc with rfl|rfl|rfl|rfl|rfl<;>first|simp|exact ao _
     exact g.xm f (g.hok.fresh f)
def signs_get(x:be)(i:Nat):((eV x).map Dat.str)[i]?=(x.cps[i]?).map λc=>.str ⟨#[c]⟩:=by
 unfold eV;rw[aP,aP,iN];cases x.cps[i]?<;>rfl
def IH{K:Fg}{F1:Hp}(x:be){b:aI}{us:List V}{es:List Dat}(h':Tq K F1 b us)(B:c9 K F1 es us):kG K F1 (L2.Itm K x b) (oV ((eV x).map .str) es):=λF H g s=>by
 have c:EL c_ K H b us:=TqK.up h' s g;refine⟨λi d hd=>?_,λi hi=>⟨us,c,?_⟩⟩
 .rw[AE,signs_get]at hd
  cases e1:x.cps[i]? with
  |none=>rw[e1]at hd;cases hd
  |some c1=>
    cases e2:es[i]? with
    |none=>simp_all
    |some d2=>
      rw[e1,e2]at hd;cases hd;obtain⟨e,f,k⟩:=B.get e2;refine⟨⟨c1,us,e,e1,c,f⟩,λv H' z=>?_⟩;obtain⟨T,h,rfl,d1,o,j,l,rfl⟩:=z;rw[e1]at j;cases j;have m:=bG (f.symm.trans (l us c));subst m;refine⟨_,Step.alloc g h,⟨T,_,rfl,.inl cO,?_⟩⟩;exact⟨_,_,rfl,rfl,e,[],rfl,k.mono (s.trans (cj.upd (g.sub.free h))),rfl⟩
 .rw[AD]at hi;simp only[eV,aw,bf]at hi;rw[B.length]
  grind
def SN(h:Ry ds=a_ items):∃x ys,ds=[.str x,.tup ys]/\items=oV ((eV x).map .str) ys:=by
 obtain⟨a,b,rfl⟩:∃a b,ds=[a,b]:=by
  cases ds with
  |nil=>cases h
  |cons a r=>
    cases r with
    |nil=>cases h
    |cons b r=>
      cases r with
      |nil=>exact⟨a,b,rfl⟩
      |cons _ _=>cases h
 cases a with
 |str x=>
   cases b with
   |tup ys=>cases h;exact⟨_,_,rfl,rfl⟩
   |_=>cases h
 |_=>cases h
def TV(O:Gl X "zip")(Y:X.mg "zip"=b_)(ha:SA X C [a,b] [xa,xb])(hs:aQ [a,b] X.env=[(d_,eval a X.env),(d_,eval b X.env)])(B:aQ [b] X.env=[(d_,eval b X.env)]) :
  SI X C (.Tuple elts k tp) (.Call (.Name "zip" p) [a,b] [] pos) (.zip [xa,xb]):=λh_ s σ H R I f=>by
 refine ac λ_ q=>?_;obtain⟨ρ,items,F,hi,g,h,kk⟩:=f;obtain⟨ds,h1,h2⟩:=c5 hi;obtain⟨x,ys,rfl,rfl⟩:=SN h2;refine q ?_;refine Pf O Y ha hs B h_ s σ H R I ⟨ρ,_,h1,F,g,h,λvs F1 i st r=>?_⟩;refine ac λ_ q=>?_;obtain⟨v,w,rfl,j,n,o,rfl,l,e3⟩:=r;cases e3;cases j;obtain⟨m,c,rfl,e,d⟩:=l;refine q ?_;exact⟨x,m,rfl,⟨c,TqK.up e (cj.refl _) st.good⟩,kk _ F1 i st (IH x e d)⟩
theorem B9:∀(xs:List Dat)(k i:Nat),(xp k xs)[i]?=(xs[i]?).map λx=>.tup [.int (k+i:Nat),x]
 |[],_,_=>by simp[xp]
 |x::xs,k,0=>by simp[xp]
 |x::xs,k,i+1=>by
   simp only[xp,dF];rw[B9 xs (k+1) i]
   congr 2
   funext y;rw[show k+1+i=k+(i+1)from(jN _ _ _)]
theorem B8:∀(xs:List Dat)(k:Nat),(xp k xs).length=xs.length
 |[],_=>rfl
 |x::xs,k=>by simp only[xp,bx,B8 xs (k+1)]
def iEs(B:TA):TI:=λσ H R=>B σ H λvs c=>∃x,vs=[.str x]/\R (W2 x) c
def Yp(B:Gl X "enumerate")(O:X.mg "enumerate"=b_)(ha:PA X [a] ta)(hs:aQ [a] X.env=[(d_,eval a X.env)]) :
  PI X (.Tuple elts k tpos) (.Call (.Name "enumerate" p) [a] [] pos) (iEs ta):=by
 intro h_ s σ H R I h;refine Call_ (lW I B O (by decide +kernel:bootBuiltins "enumerate"=a_ (.type "enumerate")) (dz (iR (ha pos h_ s σ H _ I h) λus s1 ⟨vs,g,f,j,l⟩=>?_) (by rw[hs];rfl) (by rfl)));obtain⟨x,e,q⟩:=l;subst e;obtain⟨u,rfl,t,rfl⟩:=vals1 j;refine QD λh' i m kk=>?_;refine wpAny_pyIter_enum i ⟨_,[s1.heap.objs.size+1,s1.heap.objs.size],_,_,g,rfl,(f.kept kk),Oa x t _ _ ?_,⟨⟨_,i⟩,m⟩,λc hc=>?_,q⟩
 .simp
 have d:s1.heap.objs.size<=c:=by
  simp only[au,bu,or_false]at hc
  rcases hc with rfl|rfl<;>first|simp|exact ao _
 exact f.xm d (f.hok.fresh d)
def Qj{K:Fg}{F1:Hp}:kG K F1 (W2 x) (xp 0 (x.cps.toList.map λc=>Dat.str ⟨#[c]⟩)):=λF H g s=>by
 refine⟨λi d hd=>?_,λi hi=>?_⟩
 .rw[B9,aP,Nl]at hd;obtain⟨c,hc,rfl⟩:=dY hd;have e:x.cps[i]?=a_ c:=by simpa using hc
  refine⟨((bW.mp e).1),λv H' y=>?_⟩;obtain⟨T,f,rfl,c2,h2,rfl⟩:=y;rw[e]at h2;cases h2;exact ⟨_,Step.alloc g f,⟨T,_,rfl,.inl cO,(⟨.int i,[.str ⟨#[c]⟩],rfl,by rw[jo];exact rfl,.str ⟨#[c]⟩,[],rfl,rfl,rfl⟩)⟩⟩
 .rw[B8]at hi;show x.cps.size<=i;simpa using hi
def TZ(B:Gl X "enumerate")(O:X.mg "enumerate"=b_)(ha:SA X C [a] [xa])(hs:aQ [a] X.env=[(d_,eval a X.env)]) :
  SI X C (.Tuple elts k tp) (.Call (.Name "enumerate" p) [a] [] pos) (.enu xa):=λh_ s σ H R I c=>by
 refine ac λ_ b=>?_;obtain⟨ρ,items,F,hi,g,e,kk⟩:=c;obtain⟨⟨d,fr⟩,h1,h2⟩:=c5 hi;obtain⟨xs,h3,f⟩:=dY h2;subst f
 obtain⟨z,rfl⟩:∃z,d=.str z:=by
  cases d with
  |str z=>exact⟨z,rfl⟩
  |_=>cases h3
 cases h3;refine b ?_;refine Yp B O ha hs h_ s σ H R I ⟨ρ,[.str z],by simp only[mY,h1,bH,cA],F,g,e,λvs F1 h st r=>?_⟩;obtain⟨v,w,rfl,i,e3⟩:=r;cases e3;cases i;exact⟨z,rfl,kk _ F1 h st Qj⟩
def tv{f:List Dat->g_}{K:Fg}{xs:List V}{H:Hp}{Q:VK}(hf:∀ds d fr,f ds=a_ (d,fr)->ds.length=1)(h:gL K f xs H Q) :
  ∃da d fr F v,f [da]=a_ (d,fr)/\xs=[v]/\Good F H/\Rep K F da v/\∀w F' H',Step F H F' H'->Rep K F' d w->(fr=c_->gf K H H' d w)->Q w H':=by
 refine ac λ_ a=>?_;obtain⟨ds,d,fr,h1,F,g,r,k⟩:=h
 refine a ?_;match ds,hf ds d fr h1 with
 |[da],_=>
   obtain⟨v,w,rfl,e,c⟩:=r;cases c;exact⟨da,d,fr,F,v,h1,rfl,g,e,k⟩
def M9:∀{ds:List Dat}{r:Dat×Bool},b1 f ds=a_ r->ds.length=1
 |[_],_,_=>rfl
 |[],_,h=>by cases h
 |_::_::_,_,h=>by cases h
def pv{b:ZW}:∀ds d fr,gZ b ds=a_ (d,fr)->ds.length=1:=λds d fr h=>by
 cases b<;>first|exact M9 h|cases h
set_option tactic.hygienic true
def Jd:kj X (.builtin "len") (gL X.K (gZ .len)):=λh_ s σ H xs us Q I r h=>by
 obtain⟨da,d,fr,F,v,h1,rfl,g,c,k⟩:=tv pv h
 cases da with
 |lst ds=>
   cases h1;obtain⟨p,vs,rfl,t,e⟩:=c;refine rN h_ s σ H _ us Q I r ⟨p,vs,rfl,.inl (g.sub.seq t),?_⟩;rw[e.length];exact k _ F H (Step.refl g) rfl aZ
 |tup ds=>
   cases h1;obtain⟨p,vs,rfl,t,e⟩:=c;refine rN h_ s σ H _ us Q I r ⟨p,vs,rfl,.inr (t.mono g.sub).sq,?_⟩;rw[e.length];exact k _ F H (Step.refl g) rfl aZ
 |str z=>
   simp only[gZ,b1,WQ]at h1;split at h1
   .rename_i f;cases h1;cases c;exact zX h_ s σ H _ us Q I r ⟨z,rfl,f,k _ F H (Step.refl g) rfl aZ⟩
   .cases h1
 |dct ks ds=>
   cases h1;obtain⟨p,k_,rfl,i,rfl,l⟩:=c;obtain⟨u,rfl,j⟩:=vals1 r;cases j;refine Zt I (.inl (g.sub _ _ i)) λt s' I'=>⟨.int _,H,I',⟨t,rfl⟩,?_⟩
   rw[((aw ..).symm)];exact k _ F H (Step.refl g) rfl aZ
 |_=>cases h1
def Jf:kj X (.type "int") (gL X.K (gZ .int)):=λh_ s σ H xs us Q I r h=>by
 obtain⟨da,d,fr,F,v,h1,rfl,g,c,k⟩:=tv pv h
 cases da with
 |int i=>
   cases h1;cases c;exact Jg h_ s σ H _ us Q I r (.inl ⟨i,rfl,k _ F H (Step.refl g) rfl aZ⟩)
 |bl b=>
   cases h1;cases c;obtain⟨u,rfl,e⟩:=vals1 r;cases e;exact call_int_bool ⟨.int _,H,I.tok _,⟨_,rfl⟩,k _ F H (Step.refl g) rfl aZ⟩
 |str x=>
   simp only[gZ,b1,WQ,Sy,ZL,ZK,bL,WR,ZM,WO]at h1;split at h1
   .rename_i hl;obtain⟨i,h2,h1⟩:=dY h1;cases h1;cases c;obtain⟨u,rfl,t,rfl⟩:=vals1 r;exact PySem.W.KIN.call_text h2 hl ⟨.int i,H,I.tok _,⟨_,rfl⟩,k _ F H (Step.refl g) rfl aZ⟩
   .cases h1
 |_=>cases h1
def Jc:kj X (.type "str") (gL X.K (gZ .str)):=λh_ s σ H xs us Q I r h=>by
 refine ac λ_ a=>?_;obtain⟨da,d,fr,F,v,h1,rfl,g,c,k⟩:=tv pv h
 refine a ?_;cases da with
 |int i=>
   simp only[gZ,b1,WO]at h1;split at h1
   .rename_i hl;cases h1;cases c;exact zV h_ s σ H _ us Q I r ⟨i,rfl,hl,k _ F H (Step.refl g) rfl aZ⟩
   .cases h1
 |_=>cases h1
def Co:kj X (.type "tuple") (gL X.K (gZ .tuple)):=λh_ s σ H xs us Q I r h=>by
 refine ac λ_ a=>?_;obtain⟨da,d,fr,F,v,h1,rfl,g,e,k⟩:=tv pv h
 refine a ?_;cases da with
 |lst ds=>
   cases h1;obtain⟨p,vs,rfl,t,c⟩:=e;exact qb h_ s σ H _ us Q I r ⟨p,vs,rfl,.inl ⟨g.sub.seq t,λl hl=>k _ _ _ (Step.alloc g hl) ⟨l,vs,rfl,.inl cO,c.mono (cj.upd (g.sub.free hl))⟩ aZ⟩⟩
 |tup ds=>
   cases h1;obtain⟨p,vs,rfl,t,c⟩:=e;exact qb h_ s σ H _ us Q I r ⟨p,vs,rfl,.inr ⟨(t.mono g.sub).sq,k _ F H (Step.refl g) ⟨p,vs,rfl,t,c⟩ aZ⟩⟩
 |_=>cases h1
theorem yp{K:Fg}:∀{ds:List Dat}{is:List Int}{vs:List V}{us:List ah},tV ds=a_ is->c9 K F ds vs->c7 vs us->CK us is
 |[],is,vs,us,h,r,w=>by
   cases h;rw[r]at w;cases w;exact .nil
 |d::ds,is,vs,us,h,c,w=>by
   obtain⟨v,r,e,h1,h2⟩:=c;subst e
   cases d with
   |int i=>
     obtain⟨f,hb,h⟩:=dY h;cases h;cases h1
     cases w with
     |cons q w=>obtain⟨t,rfl⟩:=q;exact .cons i t (yp hb h2 w)
   |_=>cases h
def g7(o:Xw):List Dat->g_
 |[x,y]=>gp o x y
 |_=>b_
def Mm{K:Fg}(h:gL K (g7 o) xs H Q) :
  ∃da B d fr F v w,gp o da B=a_ (d,fr)/\xs=[v,w]/\Good F H/\Rep K F da v/\Rep K F B w/\∀w F' H',Step F H F' H'->Rep K F' d w->(fr=c_->gf K H H' d w)->Q w H':=by
 refine ac λ_ a=>?_;obtain⟨ds,d,fr,h1,F,g,r,k⟩:=h
 refine a ?_;match ds,h1 with
 |[da,B],h1=>
   refine ac λ_ a=>?_;obtain⟨v,w,rfl,f,i,j,rfl,c,e⟩:=r;cases e;refine a ?_;exact⟨da,B,d,fr,F,v,i,h1,rfl,g,f,c,k⟩
def EB(B:X.calm=c_):kj X (.builtin "max") (gL X.K (g7 .mx)):=λh_ s σ H xs us Q I r h=>by
 refine ac λ_ a=>?_;obtain⟨da,e,d,fr,F,v,w,h1,rfl,g,f,l,k⟩:=Mm h;refine a ?_;cases da<;>cases e<;>simp only[gp,Cz,M8,M7,reduceCtorEq]at h1
 rename_i i j;refine ac λ_ a=>?_;cases h1;cases f;cases l;obtain⟨u,m,rfl,⟨t,rfl⟩,⟨t',rfl⟩⟩:=vals2 r;refine a ?_;refine max_two_ints (I.ok.hd B) λh' n hk=>⟨.int (if i<j then j else i),H,I.kept hk,?_,k _ F H (Step.refl g) rfl aZ⟩
 by_cases c:i<j
 .rw[if_pos c,if_pos (c)];exact⟨_,rfl⟩
 .rw[if_neg c,if_neg (c)];exact⟨_,rfl⟩
def EA(B:X.calm=c_):kj X (.builtin "min") (gL X.K (g7 .mn)):=λh_ s σ H xs us Q I r h=>by
 refine ac λ_ a=>?_;obtain⟨da,e,d,fr,F,v,w,h1,rfl,g,f,l,k⟩:=Mm h;refine a ?_;cases da<;>cases e<;>simp only[gp,Cz,M8,M7,reduceCtorEq]at h1
 rename_i i j;refine ac λ_ a=>?_;cases h1;cases f;cases l;obtain⟨u,m,rfl,⟨t,rfl⟩,⟨t',rfl⟩⟩:=vals2 r;refine a ?_;refine min_two_ints (I.ok.hd B) λh' n hk=>⟨.int (if j<i then j else i),H,I.kept hk,?_,k _ F H (Step.refl g) rfl aZ⟩
 by_cases c:j<i
 .rw[if_pos c,if_pos c];exact⟨_,rfl⟩
 .rw[if_neg c,if_neg c];exact⟨_,rfl⟩
set_option tactic.hygienic false
def Kn{Y:String}(hc:kj X (.builtin Y) (gL X.K (g7 o)))(Z:Gl X x)(hm:X.mg x=b_)(hv:bootBuiltins x=a_ (.builtin Y))(ha:SA X C [e,e2] [xa,xb])(hn:x≠"__name__")(B:(x == ("__debug__":be))=d_)
  (he:aQ [e,e2] X.env=(d_,eval e X.env)::aQ [e2] X.env)(O:(backTo pos (aQ [e2] X.env)).any (·.1)=d_):SE X C (.Call (.Name x p) [e,e2] [] pos) (.bin o xa xb):=
 PE.imp (vt hc Z hm hv ha hn B he O) (pS λρ d fr h=>by
  refine ac λ_ a=>?_;obtain⟨⟨da,f⟩,h1,h⟩:=c5 h;obtain⟨⟨c,g⟩,h2,h⟩:=c5 h
  refine a ?_;exact⟨[da,c],by simp only[mY,h1,h2,bH,cA],h⟩)
end
section
variable{X:Cx}{pos:xv}{xs:List Ex}{F H:Hp}{iter:a8}
noncomputable def tyName:Ty->String
 |.int=>"int"
 |.bool=>"bool"
 |.str=>"str"
 |.tuple=>"tuple"
 |.list=>"list"
noncomputable def YX:Dat->String
 |.non=>"NoneType"
 |.bl _=>"bool"
 |.int _=>"int"
 |.str _=>"str"
 |.tup _=>"tuple"
 |.lst _=>"list"
 |.dct _ _=>"dict"
def VM(K:Fg)(t:Ty)(d:Dat):PySem.W.kitOne K (.type (YX d)) (.type (tyName t))=a_ (LY t d):=by
 cases t<;>cases d<;>rfl
def aaP(K:Fg)(t:Ty):List V->Hp->VK->Prop:=λxs H Q=>∃da F v,xs=[v,.ty (tyName t)]/\Good F H/\Rep K F da v/\Q (.bl (LY t da)) H
def Je:kj X (.builtin "isinstance") (aaP X.K t):=λh_ s σ H xs us Q I r h=>by
 obtain⟨da,F,v,rfl,g,b,q⟩:=h;obtain⟨u,w,rfl,c,d⟩:=vals2 r;obtain rfl:w=.type (tyName t):=d;have e:=VM X.K t da;have fin:∀f,EP X h_ σ Q (.bool (LY t da)) { s with toks:=f }:=λf=>⟨.bl _,H,I.tok f,rfl,q⟩
 cases da with
 |non=>cases b;obtain rfl:u=.none:=c;exact fY PySem.W.kitx_none I.DZ kW e (λz=>nomatch z) fin
 |bl y=>cases b;obtain rfl:u=.bool y:=c;exact fY PySem.W.kitx_bool I.DZ kW e (λz=>nomatch z) fin
 |int y=>cases b;obtain⟨a,rfl⟩:=c;exact fY PySem.W.kitx_int I.DZ kW e (λz=>nomatch z) fin
 |str y=>cases b;obtain⟨a,rfl⟩:=c;exact fY PySem.W.kitx_str I.DZ kW e (λz=>nomatch z) fin
 |tup ds=>
   obtain⟨p,vs,rfl,a,_⟩:=b;obtain rfl:u=.ref p:=c;obtain⟨its,_,⟨o,h1,h2,_⟩,_⟩:=I.tupR g a;exact fY PySem.W.kitx_tuple I.DZ ⟨o,h1,h2⟩ e (λz=>nomatch z) fin
 |lst ds=>
   obtain⟨p,vs,rfl,a,_⟩:=b;obtain rfl:u=.ref p:=c;obtain⟨its,_,⟨o,n,h1,h2,_⟩,_⟩:=I.lstR g a;exact fY PySem.W.kitx_list I.DZ ⟨o,h1,h2⟩ e (λz=>nomatch z) fin
 |dct ks ds=>
   refine ac λ_ i=>?_;obtain⟨p,k_,rfl,a,_⟩:=b;obtain rfl:u=.ref p:=c;obtain⟨_,_,_,_,o,es,ep,h1,h2,_⟩:=I.hok p _ (g.sub _ _ a);refine i ?_;exact fY ER I.DZ ⟨o,h1,h2.1⟩ e (λz=>nomatch z) fin
def Ug(t:Ty)(hg:Gl X "isinstance")(hm:X.mg "isinstance"=b_)(B:Gl X x)(O:X.mg x=b_)(Y:bootBuiltins x=a_ (.type (tyName t)))(ha:SE X C a xa)(hn:x≠"__name__")(Z:(x == ("__debug__":be))=d_)
  (he:aQ [a,.Name x p2] X.env=(d_,eval a X.env)::aQ [.Name x p2] X.env)(hpl:(backTo pos (aQ [.Name x p2] X.env)).any (·.1)=d_) :
  SE X C (.Call (.Name "isinstance" p) [a,.Name x p2] [] pos) (.blt (.isi t) [xa]):=
 PE.imp (vt Je hg hm (by decide +kernel) (n5 ha (n5 (Pn B O Y (v:=.ty (tyName t)) rfl hn Z) vy) he) br br he hpl) λσ H Q b=>by
  refine ac λ_ f=>?_;obtain⟨ρ,d,fr,h,F,g,R,k⟩:=b;obtain⟨ds,h1,h2⟩:=c5 h;obtain⟨⟨da,c⟩,h3,h1⟩:=c5 h1;cases h1;cases h2;refine f ?_;exact⟨ρ,da,c,h3,F,g,R,λv F1 e st r _=>⟨da,F1,v,rfl,st.good,r,k _ F1 e st rfl aZ⟩⟩
end
end M
namespace L2
open PySem PySem.Spec PyProof.Rows
def AR:NN "reversed" "__init__" "object.__init__":=.of (owner:="object") (n:="__init__") (by kernel_rfl) (by decide +kernel) (by decide +kernel) (by decide +kernel) (.inl (by decide +kernel)) (by kernel_rfl)
def Ez:TypeCalled "reversed" "reversed.__new__" "object.__init__":=⟨by decide +kernel,PySem.F.create_reversed,⟨_,_,PySem.F.mro_reversed⟩,PySem.F.made_reversed,by decide +kernel,PySem.F.sub_reversed_self,AR⟩
section
end
def tW:entryFor table "reversed.__next__"=a_ fV.«reversed.__next__» :=entryFor_of_tree (by kernel_rfl)
def kQ:NN "reversed" "__next__" "reversed.__next__":=.of (owner:="reversed") (n:="__next__") (by kernel_rfl) (by decide +kernel) (by decide +kernel) (by decide +kernel) (.inl (by decide +kernel)) (by kernel_rfl)
def t9(a:ah):argsOk "reversed.__next__" ⟨[a],[]⟩:=by
 kernel_rfl
def Cc:entryFor table "reversed.__iter__"=a_ fV.«dict_keyiterator.__iter__» :=CZ (id':="dict_keyiterator.__iter__") (by kernel_rfl) rfl (by decide +kernel) (by kernel_rfl)
def tO:NN "reversed" "__iter__" "reversed.__iter__":=.of (owner:="reversed") (n:="__iter__") (by kernel_rfl) (by decide +kernel) (by decide +kernel) (by decide +kernel) (.inl (by decide +kernel)) (by kernel_rfl)
def CB(a:ah):argsOk "reversed.__iter__" ⟨[a],[]⟩:=by
 kernel_rfl
section
end
def DX:typeLookup (.type "tuple") "__reversed__"=pure b_:=by kernel_rfl
def AM:isSubtype (.type "tuple") (.type "dict")=pure d_:=by kernel_rfl
abbrev OU(p:aI)(i:Int):lA:={ cls:=.type "reversed",data:=.fields #[.ref p,rawInt i] }
def Ux(p:aI)(its:Array ah)(B:¬(its.size:Int)>=2 ^ 63):Meets (fV.«reversed.__new__» ⟨[.type "reversed",.ref p],[]⟩) (λ_ R s=>Ag s.heap p its/\∀O,R (.ok (.ret (.ref s.heap.objs.size))) { s with heap:=s.heap.push (OU p ((its.size:Int) - 1)),toks:=O }):=
 .of_wp λprog w A R s a=>by
  obtain⟨ht,q⟩:=a;refine wb9 (kH (newClass_reversed _) ?_);refine wb9 (kH (by first|rfl|kernel_rfl) ?_);refine wb9 (kH (by first|rfl|kernel_rfl) ?_);refine wb9 (fM ht.typeIs DX ?_);refine wb9 ?_;refine wb9 (dU ht.typeIs AM ?_);refine wb9 (fM ht.typeIs uP.lookup ?_);refine kH (by first|rfl|kernel_rfl) ?_;refine wb9 (uq ht (mS.mp B) ?_);refine (?_ : aF (aG prog w) _ (newObj (.type "reversed") (.fields [dt p,rawInt ((its.size) - 1)].toArray) >>= _) _ _ _);exact wb9 (dI (wu9 ⟨_,rfl,q _⟩) (by size_fits))
section
variable{s:ak}
def OT(ht:Ag s.heap p its)(O:¬(its.size:Int)>=2 ^ 63)(k:∀B,Q (.ref s.heap.objs.size) { s with heap:=s.heap.push (OU p ((its.size:Int) - 1)),toks:=B }):aF (aG prog w) A (call (.type "reversed") [.ref p]) Q E s:=by
 exact JG Ez br (PySem.F.typeCall_reversed_1 _) (PySem.F.newCall_reversed_1 _) (λa=>uQ a _) PySem.F.entry_reversed_new (Ux p its O) (⟨ht,λB=>⟨⟨_,aK _ rfl,rfl⟩,k B⟩⟩)
end
section
variable{A:bX}{s:ak}{its:Array ah}
def vj(y:s.heap.get? I=a_ (OU p i)):s.TypeIs (.ref I) "reversed":=⟨_,y,rfl⟩
def OS(O:its.size<=aB)(B:j<its.size)(ht:Ag s.heap p its)(y:s.heap.get? I=a_ (OU p j))(k:∀h' Y,h'.get? I=a_ (OU p ((j:Int) - 1))->cL I s.heap h'->Q (a_ its[j]) { s with heap:=h',toks:=Y }) :
  aF (aG prog w) A (pyNext (.ref I)) Q E s:=by
 refine wb9 (jd (cU (vj y) kQ (bN kQ (vj y) tW ?_ (t9 _))));refine (?_ : aF (aG prog w) _ (field (.ref I) 0 >>= _) _ _ s);refine wb9 (dm y rfl (x:=.ref p) rfl ?_);refine wb9 (dm y rfl rfl ?_);refine wb9 (fM ht.typeIs uP.lookup ?_);refine wb9 (wpAny_mkInt ?_);have hs:seqIndex? (j) its.size=a_ j:=by
  unfold seqIndex?;have b:¬(j:Int)<0:=by simp
  simp[B,b]
 refine wb9 (jd (rW ht (by simp) (fN (C9.mpr (aa B O)) br) hs (aY B) ?_));refine wb9 (dm y rfl rfl ?_);exact wb9 (bM y (by simp) λh' g c=>wu9 ⟨_,rfl,wu9 (k h' _ g c)⟩)
def Uy(B:A.handled=b_)(y:s.heap.get? I=a_ (OU p (-1)))(k:∀h',(∀b o,b≠I->s.heap.get? b=a_ o->h'.get? b=a_ o)->Q b_ { s with heap:=h' }) :
  aF (aG prog w) A (pyNext (.ref I)) Q E s:=by
 refine wb9 (jd (cU (vj y) kQ (bN kQ (vj y) tW ?_ (t9 _))));refine (?_ : aF (aG prog w) _ (field (.ref I) 0 >>= _) _ _ s);refine wb9 (dm y rfl (x:=.ref p) rfl ?_);refine wb9 (dm y rfl rfl ?_);refine wb9 (gh ?_);refine wb9 ?_;refine wb9 (bM y (by simp) λh1 a s1=>bM a (by simp) λh2 c s2=>?_);refine wb9 (uy B λh' e kp he=>?_);obtain⟨o,ho,hc⟩:=he;exact wb9 (dU ⟨o,ho,hc⟩ CY (wu9 (k _ λb o n q=>kp _ _ (s2.extBut _ _ n (s1.extBut _ _ n q)))))
end
end L2
namespace M
open PySem PySem.Spec PyProof.Rows L2
theorem xR:∀{us:List ah}{is:List be},qi us is->c7 (is.map V.str) us
 |_,_,.nil=>.nil
 |_,_,.cons n t h=>.cons ⟨t,rfl⟩ (xR h)
theorem rpS{K:Fg}:∀(is:List be),c9 K F (is.map Dat.str) (is.map V.str)
 |[]=>rfl
 |i::is=>⟨_,_,rfl,rfl,rpS is⟩
theorem Y6:∀(is:List be),kC (is.map Dat.str)=c_
 |[]=>rfl
 |i::is=>by exact Y6 is
section
end
section
end
section
variable{X:Cx}{iter:a8}{ifs:List a8}
def OL(Y:X.calm=c_)(S:jF X scope tn cn caps)(hi:SI X C tg iter it)(Z:qd tn.length g)(tgc:WW X.K tn.length one g)
  (hg:∀(cl:List (be×aI))(B:ak)(O:Hp)(Ca:aI)(ex:List aI),PG (fx X scope cl (tn++cn) B O Ca ex) tg g)
  (ht:∀(cl:List (be×aI))(B:ak)(O:Hp)(Ca:aI)(ex:List aI),ND (fx X scope cl (tn++cn) B O Ca ex) ifs (Xl X.K C xs))
  (he:∀(cl:List (be×aI))(B:ak)(O:Hp)(Ca:aI)(ex:List aI),SE (fx X scope cl (tn++cn) B O Ca ex) C elt xe)
  (hs:∀x,foldedSetIterable iter X.env x=pure x):SE X C (.ListComp elt [⟨tg,iter,ifs,0⟩] scope pos) (.comp tn.length one caps it xs xe):=
 PE.imp (Ph Y S hi hg Z ht he hs) (yD tgc λ_ _ _=>trivial)
def Dp{Y:xv}(hN:X.N.Nodup)(hi':X.N[i]?=a_ x)(hx:Loc X.env.scope x)(Z:X.calm=c_)(S:jF X scope tn cn caps)(hi:SI X C tg iter it)(touch:qd tn.length g)(tgc:WW X.K tn.length one g)
  (hg:∀(cl:List (be×aI))(B:ak)(O:Hp)(Ca:aI)(ex:List aI),PG (fx X scope cl (tn++cn) B O Ca ex) tg g)
  (ht:∀(cl:List (be×aI))(B:ak)(O:Hp)(Ca:aI)(ex:List aI),ND (fx X scope cl (tn++cn) B O Ca ex) ifs (Xl X.K C xs))
  (he:∀(cl:List (be×aI))(B:ak)(O:Hp)(Ca:aI)(ex:List aI),SE (fx X scope cl (tn++cn) B O Ca ex) C elt xe)
  (hsw:swapsWith (.ListComp elt [⟨tg,iter,ifs,0⟩] scope pos) (a_ (.Name x pos')) Y.line X.env=pure c_)
  (hs:∀x,foldedSetIterable iter X.env x=pure x)(hf:X.fn x=c_\/X.env.scope.names.lookup x=a_ .local) :
  SS X C (.Assign [.Name x pos'] (.ListComp elt [⟨tg,iter,ifs,0⟩] scope pos) Y) (.set i (.comp tn.length one caps it xs xe)):=
 PS.imp (DF hN hi' hx Z S hi hg touch ht he hsw hs hf) (AW (yD tgc λ_ _ _=>trivial))
end
def WV(K:Fg)(one:Bool)(B:List Nat)(g:TG):Prop:=∀Fz H₀ F H σ ρ d x ρ1 Q,Rl K Fz H₀ F H σ ρ->Rep K F d x->iw one B d ρ=a_ ρ1->(∀a,Rl K Fz H₀ F H a ρ1->Q a H)->g x σ H Q
def Ob{K:Fg}:WV K c_ [i] (lp i):=λFz H₀ F H σ ρ d x ρ1 Q R r hb k=>by
 simp only[iw,hZ]at hb;subst hb;exact k _ (R.Dv r)
def Z7:List Nat->SH
 |[]=>IS
 |i::is=>yr (lp i) (Z7 is)
theorem Ml{K:Fg}:∀(O:List Nat){σ:St}{ρ:dG},Rl K Fz H₀ F H σ ρ->∀ds:List Dat,ds.length=O.length->(∀B,Rl K Fz H₀ F H B (pJ O ds ρ)->Q B H)->∀vs,c9 K F ds vs->Z7 O vs σ H Q
 |[],σ,ρ,R,ds,a,k,vs,r=>by
   cases ds with
   |nil=>exact⟨r,k _ R⟩
   |cons _ _=>cases a
 |i::is,σ,ρ,R,ds,a,k,vs,r=>by
   cases ds with
   |nil=>cases a
   |cons d ds=>
     obtain⟨v,w,e,b,c⟩:=r;subst e;exact⟨v,w,rfl,Ml is (R.Dv b) ds (by simpa using a) k w c⟩
set_option tactic.hygienic true in
def J0{K:Fg}:WV K d_ ts (Mj K ts.length (Z7 ts)):=λFz H₀ F H σ ρ d x ρ1 Q R r hb k=>by
 simp only[iw]at hb
 cases d with
 |tup ds=>
   dsimp only at hb;split at hb
   .rename_i b;cases hb;obtain⟨a,vs,rfl,t,r⟩:=r;exact ⟨a,vs,rfl,(t.mono R.step.good.sub).sq,by rw[r.length];exact b,(Ml ts R ds b k vs r)⟩
   .cases hb
 |_=>cases hb
section
variable{X:Cx}{iter:a8}{pos:xv}
def My{K:Fg}(R:Rl K Fz H₀ F H σ ρ)(h:Zj C (.rng es) ρ=a_ (items,ρ'))
  (k:∀J F1 B,cj F F1->Rl K Fz H₀ F1 B σ ρ'->kG K (vW (.rng es) F1) J items->Q J B):gI K C (.rng es) σ H Q:=by
 obtain⟨ds,h1,h⟩:=dY h;cases h;obtain⟨c,sp,b⟩:=R.jb;refine⟨_,_,c,h1,b.step.good,b.full,λJ F1 B st ok=>?_⟩;have a:=Step.shrink R.step.good sp st;exact k J _ B a.ff (R.moved a) ok
def vY{K:Fg}(R:Rl K Fz H₀ F H σ ρ)(h:(zN C it (AG (mN is ρ))).map (λds=>(ds,mN is ρ))=a_ (items,ρ'))
  (k:∀J F1 B,cj F F1->Rl K Fz H₀ F1 B σ ρ'->kG K (vW it F1) J items->Q J B):gI K C it σ H Q:=by
 obtain⟨ds,h1,h⟩:=dY h;cases h;obtain⟨a,s2,R2⟩:=R.freeze is;exact⟨_,_,a,h1,R2.step.good,R2.AG,λJ F1 B st ok=>k J F1 B (s2.trans st.ff) (R2.moved st) ok⟩
def rl{K:Fg}{F1:Hp}{D:Ends}(Z:WV K one ts g)(s1:cj F F1)(R1:Rl K Fz H₀ F1 H1 σ ρ')(le:∀O,cj F1 O->cj F0 O)(ok:kG K F0 J items)
  (h:jS (iw one ts) (eC C xs) items ρ'=a_ out)(k:vU K Fz H₀ F D out):∃W:Nat->Nat->St->Hp->Prop,(∃m,W 0 m σ H1)/\∀i m σ H,W i m σ H->
   (J.stop i H/\D.nx σ H)\/(J.go i H/\∃N:St->Hp->Prop,(∀B H',N B H'->∃Y,Y<m/\W (i+1) Y B H')/\∀x H',J.yld i H x H'->g x σ H' λσ2 H2=>gSs K C xs { D with nx:=N,ct:=N,bk:=D.nx } σ2 H2):=by
 refine⟨λi m σ H=>∃F ρ,Rl K Fz H₀ F H σ ρ/\cj F1 F/\jS (iw one ts) (eC C xs) (items.drop i) ρ=a_ out/\m=items.length - i/\i<=items.length,⟨items.length,F1,ρ',R1,cj.refl _,h,rfl,aM _⟩,?_⟩;rintro i m σ2 H2 ⟨O,r,R2,s2,hl,rfl,s⟩;obtain⟨t,Yz⟩:=ok O H2 R2.step.good (le O s2);by_cases a:i<items.length
 .obtain⟨go,A⟩:=t i items[i] (af a);refine .inr ⟨go,λB H'=>∃Y,Y<items.length - i/\∃F ρ,Rl K Fz H₀ F H' B ρ/\cj F1 F/\jS (iw one ts) (eC C xs) (items.drop (i+1)) ρ=a_ out/\Y=items.length - (i+1)/\i+1<=items.length,λB H' z=>z,λx w E=>?_⟩;obtain⟨y,j,G⟩:=A x w E;rw[e8 a]at hl;obtain⟨l,u,hl⟩:=c5 hl;obtain⟨o,ho,hl⟩:=c5 hl;refine Z Fz H₀ y w σ2 r _ x l _ (R2.moved j) G u λI L=>?_;have b :=s2.trans j.ff;refine⟨Fz,H₀,y,l,o,ho,L,?_⟩
  cases o with
  |nx c=>exact λn v f p q=>⟨items.length - (i+1),jJ (ws a) (wt (aD a)),n,c,q,b.trans p,hl,rfl,a⟩
  |ct c=>exact λn v f p q=>⟨items.length - (i+1),jJ (ad a) (am (Nat.le_of_lt a)),n,c,q,b.trans p,hl,rfl,a⟩
  |bk c=>
    cases hl;exact λn v f p q=>k n v f ((s1.trans b).trans p) q
  |rt d fr=>
    cases hl;exact k
 .have e :=aC s (bT a);subst e;rw[uv]at hl;cases hl;exact .inl ⟨Yz _ (ao _),k O H2 σ2 (s1.trans s2) R2⟩
def zh(hp:tH (aG X.prog X.w) X.A X.env X.xe)(hc:X.calm=c_)(hi:SI X C tg iter it)(B:∀a,it≠.itv a)(Y:PG X tg g)(O:WV X.K one ts g)(hb:NC X C body xs)
  (hs:∀x,foldedSetIterable iter X.env x=pure x):SS X C (.For tg iter body [] pos) (.loop one ts it xs):=
 PS.imp (KP hp hc hi Y hb hs) λD σ H c=>by
  obtain⟨Fz,H₀,F,ρ,out,h,R,k⟩:=c;obtain⟨⟨items,ρ'⟩,h1,h⟩:=c5 h;have fin:∀J F1 b,cj F F1->Rl X.K Fz H₀ F1 b σ ρ'->kG X.K (vW it F1) J items->_:=λJ F1 b s1 d ok=>rl O s1 d (λe s=>BW s) ok h k
  cases it with
  |itv a=>exact absurd rfl (B a)
  |rng es=>exact My R h1 fin
  |zip es=>exact vY R h1 fin
  |enu a=>exact vY R h1 fin
  |rev a=>exact vY R h1 fin
def Oq(hp:tH (aG X.prog X.w) X.A X.env X.xe)(hc:X.calm=c_)(he:SE X C iter xe)(O:PG X tg g)(B:WV X.K one ts g)(hb:NC X C body xs)
  (hs:∀x,foldedSetIterable iter X.env x=pure x):SS X C (.For tg iter body [] pos) (.loop one ts (.itv xe) xs):=
 PS.imp (KP hp hc (PI.or (PI.or (FN he) (KW he)) (KY he)) O hb hs) λD σ H j=>by
  refine ac λ_ l=>?_;obtain⟨Fz,H₀,F,ρ,out,h,R,k⟩:=j;obtain⟨⟨items,ρ'⟩,h1,h⟩:=c5 h;obtain⟨⟨d,fr,ρ1⟩,h2,h3⟩:=c5 h1;obtain⟨ds,c,h5⟩:=dY h3;cases h5
  refine l ?_;cases d with
  |lst es=>
    cases c;refine .inl (.inl (zM R h2 λv Fm F' H' a b st r f=>?_));obtain⟨p,vs,rfl,t,e⟩:=r;exact⟨p,rfl,⟨vs,st.good.sub.seq t⟩,rl B (a.trans st.ff) (b.moved st) (λi s=>s) (ym t e) h k⟩
  |tup es=>
    cases c;refine .inl (.inr (zM R h2 λv Fm F' H' a b st r f=>?_));obtain⟨p,vs,rfl,t,e⟩:=r;exact⟨p,rfl,⟨vs,(t.mono st.good.sub).sq⟩,rl B (a.trans st.ff) (b.moved st) (λi s=>s) (BF t e) h k⟩
  |str x=>
    cases c;refine .inr (zM R h2 λv Fm F' H' a b st r f=>?_);cases r;exact⟨x,rfl,rl B (a.trans st.ff) (b.moved st) (λi s=>s) BG h k⟩
  |_=>cases c
def J9{Jz:a8}(hp:tH (aG X.prog X.w) X.A X.env X.xe)(hc:ST X C Jz xc)(hb:NC X C body xs):SS X C (.While Jz body [] pos) (.Xx xc xs):=
 PS.imp (KO hp hc hb) λD σ H y=>by
  refine ac λ_ J=>?_;obtain⟨Fz,H₀,F,ρ,out,h,R,k⟩:=y;refine J ?_;have h:wV (λρ=>(bp C xc (full ρ)).bind λx=>fW x.1) (eC C xs) mJ ρ=a_ out:=h;generalize mJ=n at h;refine⟨λm σ H=>∃F1 ρ,Rl X.K Fz H₀ F1 H σ ρ/\cj F F1/\wV (λρ=>(bp C xc (full ρ)).bind λx=>fW x.1) (eC C xs) m ρ=a_ out,⟨n,F,ρ,R,cj.refl _,h⟩,?_⟩;rintro m p G ⟨F1,ρ1,q,s1,a⟩
  cases m with
  |zero=>cases a
  |succ m=>
    obtain⟨b,r,a⟩:=c5 a;obtain⟨⟨d,fr⟩,h1,B⟩:=c5 r;obtain⟨E,sp,u⟩:=q.jb;refine⟨_,d,fr,b,h1,B,E,u.step.good,u.full,λI H2 st=>?_⟩;have e:=Step.shrink q.step.good sp st;have R2:=q.moved e
    cases b with
    |false=>
      refine D2 ?_;cases a;exact k _ H2 p (s1.trans e.ff) R2
    |true=>
      refine D1 ?_;obtain⟨o,ho,a⟩:=c5 a;refine⟨λg H'=>∃v,v<m+1/\∃F1 ρ,Rl X.K Fz H₀ F1 H' g ρ/\cj F F1/\wV (λρ=>(bp C xc (full ρ)).bind λx=>fW x.1) (eC C xs) v ρ=a_ out,λg H' z=>z,?_⟩;refine⟨Fz,H₀,_,ρ1,o,ho,R2,?_⟩;have s:=s1.trans e.ff
      cases o with
      |nx c=>exact λi t f j l=>⟨m,ao _,i,c,l,s.trans j,a⟩
      |ct c=>exact λi t f j l=>⟨m,Nat.le_refl _,i,c,l,s.trans j,a⟩
      |bk c=>
        cases a;exact λi t f j l=>k i t f (s.trans j) l
      |rt d fr=>
        cases a;exact k
set_option tactic.hygienic true in
def Tr(he:SE X C e xe)(B:WV X.K d_ ts tg')(O:PG X tgt tg')
  (hs:swapsWithSole [tgt] e pos.line X.env=pure d_)(Y:swappedStores [tgt] e X.env=pure b_)(h1:(assignEach [tgt] X.env).map (·.2)=[assign tgt X.env]):SS X C (.Assign [tgt] e pos) (.Xz ts xe):=
 PS.imp (DH he O hs Y h1) λD σ H b=>by
  refine ac λ_ l=>?_;obtain⟨Fz,H₀,F,ρ,out,h,R,k⟩:=b;obtain⟨⟨d,fr,ρ'⟩,h1,h⟩:=c5 h
  refine l ?_;cases d with
  |tup ds=>
    have h:(if ds.length=ts.length then a_ (Out.nx (pJ ts ds ρ'))else b_)=a_ out:=h;split at h
    .rename_i c;cases h;refine zM R h1 λv Fm F' H' g i st r f=>?_;refine B Fz H₀ F' H' σ ρ' (.tup ds) v (pJ ts ds ρ') _ (i.moved st) r ?_ λa j=>k F' H' a (g.trans st.ff) j;simp only[iw];rw[if_pos c]
    .cases h
  |_=>cases h
end
section
variable{K:Fg}{base:cM}
set_option tactic.hygienic true in
def Wd{st:lz}(F:Fun K x qual st f fd)(S:rS N ps (eD st))(O:ps.length<=N.length)
  (B:∀(cdv:ah)(A:bX)(outer:List Ri)(s:ak)(H:Hp)(E:XK),nN k (A.deeper (envOfC qual (eD st) s.heap.objs.size f cdv))->
   NC (Cf Jl P w K mg base N qual (eD st) f cdv A outer s H E).Xf C (pL st) body):ot P w K mg base Jl (k+1) f fd ps (TM K ps.length (QA C ps.length N.length body)):=by
 refine F.ok S (λvs H Q E h=>h.1) λcdv A outer s H vs Q E b h=>⟨_,B cdv A outer s H E b,?_⟩
 refine ac λ_ u=>?_;obtain⟨hl,ds,d,fr,he,Fz,g,r,a⟩:=h;refine u ?_;unfold QA at he;split at he
 .rename_i c;obtain⟨o,ho,he⟩:=c5 he;refine⟨Fz,H,Fz,_,o,ho,⟨Step.refl g,?_,λi d' q=>?_,λ_=>[],λi d' q=>?_,λi j d1 d2 e p t=>?_⟩,?_⟩
  .unfold L2.start;simp[hl,c]
  .have hi:i<ds.length:=by
    by_cases hi:i<ds.length
    .exact hi
    .rw[aT (by simpa using hi),eK]at q;split at q<;>cases q
   rw[a9 (by simpa using hi),aP]at q;refine ac λ_ u=>?_;obtain⟨d2,e1,e2⟩:=dY q;cases e2;obtain⟨v,e3,l⟩:=r.get e1;refine u ?_;refine⟨v,?_,l⟩;unfold L2.start;rw[a9 (by simp_all),aP,e3];rfl
  .exfalso;by_cases hi:i<ds.length
   .rw[a9 (by simpa using hi)]at q
    simp_all
   .rw[aT (by simpa using hi),eK]at q;split at q<;>cases q
  .simp
  .cases o with
   |nx ρ'=>
     cases he;exact λF' H' m s' R=>a _ F' H' R.step rfl aZ
   |rt d' n=>
     cases he;exact a
   |bk _=>cases he
   |ct _=>cases he
 .cases he
end
theorem df.take{K:Fg}:∀(n:Nat){ds:List Dat}{vs:List V}{S:List aI},df K H ds vs S->∃B O,df K H (ds.take n) (vs.take n) B/\df K H (ds.drop n) (vs.drop n) O/\S=B++O
 |0,ds,vs,S,h=>⟨[],S,⟨rfl,rfl⟩,h,rfl⟩
 |n+1,[],vs,S,h=>by
   obtain⟨rfl,rfl⟩:=h;exact⟨[],[],⟨rfl,rfl⟩,⟨rfl,rfl⟩,rfl⟩
 |n+1,d::ds,vs,S,b=>by
   refine ac λ_ j=>?_;obtain⟨v,r,B,O,e,h1,h2,q⟩:=b;subst e q;obtain⟨a,c,f,g,i⟩:=df.take n h2;refine j ?_;exact⟨B++a,c,⟨v,r.take n,B,a,rfl,h1,f,rfl⟩,g,by simp_all⟩
theorem df.setAt{K:Fg}{T:List aI}(h':my K H d' v' T):∀(n:Nat){ds:List Dat}{vs:List V}{S:List aI},n<ds.length->df K H ds vs S->∃B O Y,df K H (ds.set n d') (vs.set n v') (B++T++Y)/\S=B++O++Y
 |n,[],vs,S,a,h=>absurd a (by simp)
 |0,d::ds,vs,S,_,b=>by
   obtain⟨v,r,B,O,e,h1,h2,q⟩:=b;subst e q;exact⟨[],B,O,⟨v',r,T,O,rfl,h',h2,by simp⟩,by simp⟩
 |n+1,d::ds,vs,S,a,b=>by
   obtain⟨v,r,B,O,e,h1,h2,q⟩:=b;subst e q;obtain⟨c,g,f,i,j⟩:=df.setAt h' n (by simpa using a) h2;refine⟨B++c,g,f,⟨v,r.set n v',B,c++T++f,rfl,h1,i,by simp⟩,by rw[j];simp⟩
section
variable{K:Fg}
def Rl.mut(R:Rl K Fz H₀ F H σ ρ)(O:Ow K H₀ F H σ ρ Ss)(hi:ρ[i]?=a_ (a_ (d,c_)))(B:σ[i]?=a_ (a_ v))
  (hl:l∈Ss i)(Z:Jj o')(o:my K (upd H l o') d' v S')(nd:S'.Nodup)(Y:∀a∈S',a∈Ss i\/(F a=b_/\H₀ a=b_/\∀(j:Nat)d2,ρ[j]?=a_ (a_ (d2,c_))->a∉Ss j)) :
  Rl K Fz H₀ F (upd H l o') σ (ρ.set i (a_ (d',c_))):=by
 obtain⟨w,e1,e2,e3,n⟩:=O.own i d hi;obtain⟨ol,p,mul⟩:=e2.v3 _ l hl;refine⟨⟨⟨λa u q=>?_,λa us q=>?_⟩,R.step.ff,λa u q=>?_,R.step.un⟩,by simpa using R.len,λj d2 q=>?_,λj=>if j=i then S' else Ss j,λj d2 q=>?_,λj k d1 d2 g t r=>?_⟩
 .rw[cZ (eQ q ((n l hl).1))];exact R.step.good.sub a u q
 .by_cases ha:a=l
  .subst ha;rw[cO]at q;cases q;exact Z.elim
  .rw[cZ ha]at q;exact R.step.good.tup a us q
 .rw[cZ (eQ q ((n l hl).2))];exact R.step.hh a u q
 .rcases i8 q with⟨rfl,e⟩|⟨c,h⟩
  .cases e
  .exact R.val j d2 h
 .rcases i8 q with⟨rfl,e⟩|⟨c,h⟩
  .cases e;rw[if_pos rfl];refine⟨v,B,o,nd,λa m=>?_⟩
   rcases Y a m with m|m
   .exact n a m
   .exact⟨m.1,m.2.1⟩
  .rw[if_neg (dR c)];obtain⟨w,x,y,A,C⟩:=O.own j d2 h;exact⟨w,x,y.upd (λvs z=>by rw[p]at z;cases z;exact mul) d2 (O.sep i j d d2 c hi h l hl),A,C⟩
 .intro a m
  rcases i8 t with⟨rfl,e⟩|⟨h1,f⟩
  .rw[if_pos rfl]at m
   rcases i8 r with⟨e2,_⟩|⟨h2,b⟩
   .exact absurd e2 g
   .rw[if_neg (dR h2)]
    rcases Y a m with m|m
    .exact O.sep _ k d d2 h2 hi b a m
    .exact m.2.2 k d2 b
  .rw[if_neg (dR h1)]at m
   rcases i8 r with⟨rfl,e⟩|⟨h2,b⟩
   .rw[if_pos rfl];intro m2
    rcases Y a m2 with m2|m2
    .exact O.sep _ j d d1 h1 hi f a m2 m
    .exact m2.2.2 j d1 f m
   .rw[if_neg (dR h2)];exact O.sep j k d1 d2 g f b a m
def Step.XA(st:Step F H F' H')(g:Good F H)(B:∀a∈S,H a=b_)(o:df K H' ds vs S):Step F H (uz F' S) H':=by
 refine⟨⟨λa o' q=>?_,λa vs q=>?_⟩,λa o' q=>?_,st.hh,λa o' q n=>?_⟩
 .by_cases m:a∈S
  .rw[xM m]at q;cases q
  .rw[oY m]at q;exact st.good.sub a o' q
 .rw[oY λm=>?_]
  .exact st.good.tup a vs q
  .obtain⟨u,b,c⟩:=o.v3 _ a m;rw[q]at b;cases b;exact c
 .rw[oY λm=>?_]
  .exact st.ff a o' q
  .rw[g.sub.free (B a m)]at q;cases q
 .by_cases m:a∈S
  .exact xM m
  .rw[oY m];exact st.un a o' q n
def zO(R:Rl K Fz H₀ F H σ ρ)(h:oK C es (M.full ρ)=a_ (ds,c_))
  (k:∀vs F' H' S,Step F H F' H'->df K H' ds vs S->S.Nodup->(∀a∈S,H a=b_/\F' a=b_)->Q vs H'):gF K C es σ H Q:=by
 obtain⟨d,sp,c⟩:=R.jb;refine⟨_,ds,c_,h,d,c.step.good,c.full,λvs F1 e st r f=>?_⟩;obtain⟨S,n,e1,o⟩:=f rfl;exact k vs _ e S (Step.XA (Step.shrink R.step.good sp st) R.step.good e1 o) o n λa m=>⟨e1 a m,xM m⟩
end
noncomputable def VS:V->Option Key
 |.int i=>a_ (.inl i)
 |.str x=>a_ (.inr x)
 |_=>b_
def LQ(h:VS v=a_ k):v=kV k:=by
 cases v<;>first|(cases h;rfl)|cases h
def Qh(k:Key):VS (kV k)=a_ k:=by cases k<;>rfl
noncomputable def sG(k:Key)(y:V):List (Key×V)->List (Key×V)
 |[]=>[(k,y)]
 |p::r=>if p.1=k then(p.1,y)::r else p::sG k y r
theorem Fy:∀(r:List (Key×V)),(r.any λB=>decide (B.1=k))=d_->r.map (λB=>if B.1=k then(B.1,y)else B)=r
 |[],_=>rfl
 |p::r,h=>by
   rw[nR,Bool.or_eq_false_iff]at h;rw[aA,if_neg (of_decide_eq_false h.1),Fy r h.2]
theorem FH:∀(k_:List (Key×V)),vB k (k_.map (·.1))=c_->putK k_ k y=sG k y k_
 |[],_=>rfl
 |p::r,h=>by
   simp only[aA,vB]at h;by_cases e:p.1=k
   .rw[if_pos e]at h
    have h2:(r.any λa=>decide (a.1=k))=d_:=by
     simp only[nj]at h;rw[List.any_map]at h;exact h
    unfold putK sG;rw[if_pos e,if_pos (by rw[nR,decide_eq_true e];rfl),aA,if_pos e,Fy r h2]
   .rw[if_neg e]at h;unfold sG;rw[if_neg e,<-(FH (y:=y) r h)];unfold putK;rw[nR,decide_eq_false e,Bool.false_or];split
    .rw[aA,if_neg e]
    .rfl
theorem xZ:∀(k_:List (Key×V))(ds:List Dat),ds.length=k_.length->(sG k y k_).map (·.1)=(putD k d (k_.map (·.1)) ds).1
 |[],ds,h=>by
   cases ds with
   |nil=>rfl
   |cons _ _=>cases h
 |p::r,[],h=>by cases h
 |p::r,e::ds,h=>by
   have a:=xZ (k:=k) (y:=y) (d:=d) r ds (by simpa using h);simp only[sG,aA,putD];by_cases q:p.1=k
   .rw[if_pos q,if_pos q];rfl
   simp_all
theorem df.put{K:Fg}{T:List aI}(o:my K H d y T)(B:T.Nodup):∀(k_:List (Key×V)) (ds:List Dat) (S:List aI),df K H ds (k_.map (·.2)) S->S.Nodup->(∀a∈S,a∉T)->
  ∃S',df K H (putD k d (k_.map (·.1)) ds).2 ((sG k y k_).map (·.2)) S'/\S'.Nodup/\∀a∈S',a∈S\/a∈T
 |[],[],S,os,f,c=>⟨T,.one o,B,λa m=>.inr m⟩
 |[],e::ds,S,os,f,c=>by
   obtain⟨v,r,i,g,q,_⟩:=os;cases q
 |p::r,[],S,os,f,c=>by
   cases os.1
 |p::r,e::ds,S,os,f,c=>by
   refine ac λ_ w=>?_;obtain⟨v,u,i,g,q,l,j,rfl⟩:=os;cases q;refine w ?_;have h:=cC.mp f;simp only[sG,aA,putD];by_cases q:p.1=k
   .rw[if_pos q,if_pos q];refine⟨T++g,⟨y,r.map (·.2),T,g,rfl,o,j,rfl⟩,cC.mpr ⟨B,h.2.1,λa m b m2 z=>c b (ai _ m2) (z▸m)⟩,λa m=>?_⟩
    grind
   .rw[if_neg q,if_neg q];obtain⟨S',n,s,t⟩:=df.put o B r ds g j h.2.1 λa m=>c a (ai _ m);refine⟨i++S',⟨p.2,(sG k y r).map (·.2),i,S',rfl,l,n,rfl⟩,cC.mpr ⟨h.1,s,λa m b m2 z=>?_⟩,λa m=>?_⟩
    .subst z
     rcases t a m2 with z|z
     .exact h.2.2 a m a z rfl
     .exact c a (az _ m) z
    grind
noncomputable def Vd:HO->List V->Option HO
 |.lst xs,[y]=>if xs.length<aB then a_ (.lst (xs++[y]))else b_
 |_,_=>b_
def YA:HO->List V->Option HO
 | .lst xs,l=>match l with
   |[.int i,y]=>if xs.length<aB/\-1000000<=i/\i<=1000000 then a_ (.lst (insI y i xs))else b_
   |_=>b_
 |_,_=>b_
def Lj:HO->List V->Option HO
 | .lst xs,l=>match l with
   |[y,.int i]=>if -1000000<=i/\i<=1000000 then(T6 y i xs).map .lst else b_
   |_=>b_
 | .dK k_,l=>match l with
   |[y,v]=>(VS v).bind λk=>if k_.length<aB then a_ (.dK (putK k_ k y))else b_
   |_=>b_
 |_,_=>b_
def Am:JB->HO->List V->Option HO
 |.app,a,l=>Vd a l
 |.ins,a,l=>YA a l
 |.seti,a,l=>Lj a l
 |_,_,_=>b_
def ja{T:List aI}(nd:(S++T).Nodup):S.Nodup/\T.Nodup/\∀a∈S,a∉T:=by
 obtain⟨h1,h2,h3⟩:=cC.mp nd;exact⟨h1,h2,λa m n=>h3 a m a n rfl⟩
def gR{S T:List aI}(h1:S.Nodup)(h2:T.Nodup)(h3:∀a∈S,a∉T):(S++T).Nodup:=cC.mpr ⟨h1,h2,λa m b n z=>h3 a m (z▸n)⟩
def CG(K:Fg)(H:Hp)(op:JB)(d':Dat)(v:V)(vs:List V)(S T:List aI):Prop:=
 ∃l b ob' S',v=.ref l/\l∈S/\H l=a_ b/\Am op b vs=a_ ob'/\Jj ob'/\my K (upd H l ob') d' v S'/\S'.Nodup/\∀a∈S',a∈S\/a∈T
section
variable{K:Fg}{T:List aI}
def PR{d1:Dat}(hl:H l=a_ (.lst xs))(os:df K H es xs S')(nd:(l::S').Nodup)(O:my K H d1 y T)(nt:T.Nodup)(B:∀a∈l::S',a∉T)(Y:es.length<aB):CG K H .app (.lst (es++[d1])) (.ref l) [y] (l::S') T:=by
 have f:=aX.mp nd;have c:∀vs,H l≠a_ (.tup vs):=λvs z=>by rw[hl]at z;cases z
 have d :=B l jy;refine⟨l,_,.lst (xs++[y]),l::(S'++T),rfl,jy,hl,by simp only[Am,Vd];rw[if_pos (by rw[os.length];exact Y)],trivial,⟨l,xs++[y],S'++T,rfl,cO,(os.upd c _ f.1).append (.one (O.upd c _ d)),rfl⟩,?_,λb m=>?_⟩
 .refine aX.mpr ⟨λm=>?_,gR f.2 nt λb m=>B b (ki _ m)⟩
  rcases ax.mp m with m|m
  .exact f.1 m
  .exact d m
 .rcases au.mp m with rfl|m
  .exact .inl jy
  .rcases ax.mp m with m|m
   .exact .inl (ki _ m)
   .exact .inr m
def PQ{d1:Dat}(hl:H l=a_ (.lst xs))(os:df K H es xs S')(nd:(l::S').Nodup)(O:my K H d1 y T)(nt:T.Nodup)(B:∀a∈l::S',a∉T)(Y:es.length<aB/\-1000000<=i/\i<=1000000):CG K H .ins (.lst (insI d1 i es)) (.ref l) [.int i,y] (l::S') T:=by
 have f:=aX.mp nd;have c:∀vs,H l≠a_ (.tup vs):=λvs z=>by rw[hl]at z;cases z
 have g :=B l jy;have d:=os.length;obtain⟨j,k,p,q,r⟩:=os.take (HT.iW es.length 0 (a_ i));subst r;have h:HT.iW xs.length 0 (a_ i)=HT.iW es.length 0 (a_ i):=by rw[d]
 have e:=ja f.2;refine⟨l,_,.lst (insI y i xs),l::(j++(T++k)),rfl,jy,hl,by simp only[Am,YA];simp_all,trivial,⟨l,insI y i xs,j++(T++k),rfl,cO,?_,rfl⟩,?_,λb m=>?_⟩
 .have s:=q.upd (o:=.lst (insI y i xs)) c _ (λm=>f.1 (ai _ m));have n:=(p.upd c _ (λm=>f.1 (az _ m))).append ((df.one (O.upd c _ g)).append s);have e2:insI y i xs=xs.take (HT.iW es.length 0 (a_ i))++([y]++xs.drop (HT.iW es.length 0 (a_ i))):=by unfold insI;rw[h];rfl
  generalize u:L2.upd H l (.lst (insI y i xs))=H2 at n ⊢;rw[e2];exact n
 .refine aX.mpr ⟨λm=>?_,gR e.1 (gR nt e.2.1 λb m m2=>B b (ki _ (ai _ m2)) m) λb m m2=>?_⟩
  .grind
  grind
 grind
def VY(h:yk n i=a_ k):k<n:=(zG h).2.1
def PN{d1:Dat}(hl:H l=a_ (.lst xs))(os:df K H es xs S')(nd:(l::S').Nodup)(O:my K H d1 y T)(nt:T.Nodup)(B:∀a∈l::S',a∉T)(Y:-1000000<=i/\i<=1000000)(h2:yk es.length i=a_ k):CG K H .seti (.lst (es.set k d1)) (.ref l) [y,.int i] (l::S') T:=by
 have n :=B l jy;obtain⟨f,r,g,o,p⟩:=os.setAt O k (VY h2);subst p;have h:=ja (aX.mp nd).2;have d:l∉f++T++g:=λm=>by
  grind
 refine⟨l,_,.lst (xs.set k y),l::(f++T++g),rfl,jy,hl,?_,trivial,⟨l,xs.set k y,f++T++g,rfl,cO,o.upd (λvs z=>by rw[hl]at z;cases z) _ d,rfl⟩,?_,λb m=>?_⟩
 .simp only[Am,Lj];rw[if_pos Y];unfold T6;rw[os.length,h2];rfl
 .refine aX.mpr ⟨d,gR (gR (ja h.1).1 nt λb m=>B b (ki _ (az _ (az _ m)))) h.2.1 λb m m2=>?_⟩
  grind
 grind
end
def Ls{K:Fg}{T:List aI}{d1:Dat}(hl:H l=a_ (.dK k_))(os:df K H ds (k_.map (·.2)) S')(nd:(l::S').Nodup)(Y:my K H d1 y T)(nt:T.Nodup)(B:∀a∈l::S',a∉T)(O:(k_.map (·.1)).length<aB/\vB k (k_.map (·.1))=c_) :
  CG K H .seti (.dct (putD k d1 (k_.map (·.1)) ds).1 (putD k d1 (k_.map (·.1)) ds).2) (.ref l) [y,kV k] (l::S') T:=by
 have h:=aX.mp nd;have e:∀vs,H l≠a_ (.tup vs):=λvs z=>by rw[hl]at z;cases z
 have f :=B l jy;have c:ds.length=k_.length:=by have:=os.length;simpa using this.symm
 obtain⟨g,i,j,n⟩:=df.put Y nt k_ ds S' os h.2 λa m=>B a (ki _ m)
 have d:l∉g:=λm=>by
  rcases n l m with z|z
  .exact h.1 z
  .exact f z
 refine⟨l,_,.dK (sG k y k_),l::g,rfl,jy,hl,?_,trivial,⟨l,sG k y k_,g,rfl,cO,xZ k_ ds c,i.upd e _ d,rfl⟩,aX.mpr ⟨d,j⟩,λb m=>?_⟩
 .simp only[Am,Lj,Qh,bH];rw[if_pos (by simpa using O.1),FH k_ O.2]
 grind
set_option tactic.hygienic true in
def uC{K:Fg}{T:List aI}(h1:op≠.ext)(h2:op≠.dput)(h:jx op d ds=a_ d')(o:my K H d v S)(nd:S.Nodup)(a:df K H ds vs T)(nt:T.Nodup)(B:∀a∈S,a∉T):CG K H op d' v vs S T:=by
 have hd:(∃es,d=.lst es)\/(op=.seti/\∃ks ws,d=.dct ks ws):=by
  cases d with
  |lst es=>exact .inl ⟨es,rfl⟩
  |dct ks ws=>cases op<;>first|exact absurd rfl h1|exact absurd rfl h2|exact .inr ⟨rfl,ks,ws,rfl⟩|cases h
  |_=>cases op<;>cases h
 rcases hd with hd|⟨rfl,ks,ws,rfl⟩
 rotate_left
 .obtain⟨l,k_,S',rfl,hl,rfl,os,rfl⟩:=o
  cases ds with
  |nil=>cases h
  |cons d1 ds=>
    cases ds with
    |nil=>cases h
    |cons d0 ds=>
      cases ds with
      |cons _ _=>cases h
      |nil=>
        obtain⟨k,hk,h⟩:=c5 h;split at h
        .rename_i b;refine ac λ_ E=>?_;cases h;obtain⟨y,r,s,t,e,c,m,q⟩:=a;obtain⟨u,A,w,n,p,j,f,g⟩:=m;obtain⟨rfl,rfl⟩:=f
         have C:u=kV k/\w=[]:=by
          cases d0 with
          |int i=>cases hk;exact j
          |str x=>cases hk;exact j
          |_=>cases hk
         obtain⟨rfl,rfl⟩:=C;refine E ?_;rw[aH]at g;subst e p g;rw[aH]at q;subst q;exact Ls hl os nd c nt B b
        .cases h
 obtain⟨es,rfl⟩:=hd;obtain⟨l,xs,S',rfl,hl,os,rfl⟩:=o
 cases op with
 |ext=>exact absurd rfl h1
 |dput=>exact absurd rfl h2
 |app=>
   cases ds with
   |nil=>cases h
   |cons d1 ds=>
     cases ds with
     |cons _ _=>cases h
     |nil=>
       obtain⟨y,r,s,t,e,c,f,q⟩:=a;obtain⟨rfl,rfl⟩:=f;rw[aH]at q;subst e q;simp only[jx,XD]at h;split at h
       .rename_i b;cases h;exact PR hl os nd c nt B b
       .cases h
 |ins=>
   cases ds with
   |nil=>cases h
   |cons d0 ds=>
     cases ds with
     |nil=>cases d0<;>cases h
     |cons d1 ds=>
       cases ds with
       |cons _ _=>cases d0<;>cases h
       |nil=>
         cases d0 with
         |int i=>
           obtain⟨u,A,w,n,p,j,m,g⟩:=a;obtain⟨y,r,s,t,e,c,f,q⟩:=m;obtain⟨rfl,rfl⟩:=f;obtain⟨rfl,rfl⟩:=j;rw[aH]at q;subst e p q;subst g;simp only[jx,XC]at h;split at h
           .rename_i b;cases h;exact PQ hl os nd c nt B b
           .cases h
         |_=>cases h
 |pop=>cases h
 |clr=>cases h
 |seti=>
   cases ds with
   |nil=>cases h
   |cons d1 ds=>
     cases ds with
     |nil=>cases h
     |cons d0 ds=>
       cases ds with
       |cons _ _=>cases d0<;>cases h
       |nil=>
         cases d0 with
         |int i=>
           obtain⟨y,r,s,t,e,c,m,q⟩:=a;obtain⟨u,A,w,n,p,j,f,g⟩:=m;obtain⟨rfl,rfl⟩:=f;obtain⟨rfl,rfl⟩:=j;rw[aH]at g;subst e p g;rw[aH]at q;subst q;simp only[jx,XB]at h;split at h
           .rename_i b;obtain⟨es',z,h⟩:=dY h;cases h;obtain⟨k,D,z⟩:=dY z;subst z;exact PN hl os nd c nt B b D
           .cases h
         |_=>cases h
section
variable{X:Cx}{K:Fg}
def Wa(h:gF K C [xa,xb] σ H Q):gE K C xa σ H λx B=>gE K C xb σ B λy H2=>Q [x,y] H2:=by
 refine ac λ_ o=>?_;obtain⟨ρ,ds,al,h,F,g,R,k⟩:=h;obtain⟨⟨d,fr⟩,h1,h⟩:=c5 h;obtain⟨⟨r,n⟩,h2,h⟩:=dY h;cases h;obtain⟨⟨d2,c⟩,h3,i⟩:=c5 h2;cases i;refine o ?_;refine⟨ρ,d,fr,h1,F,g,R,λv F1 B a e j=>⟨ρ,d2,c,h3,F1,a.good,R.mono a.ff,λw l H2 b f m=>k [v,w] l H2 (a.trans b) ⟨v,[w],rfl,e.mono b.ff,w,[],rfl,f,rfl⟩ λz=>?_⟩⟩;simp only[iM,lH,aj]at z;refine fJ.cons a.hh b.hh ?_ (fJ.cons b.hh (cj.refl _) ?_ .nil)
 .rcases z.1 with z|z
  .exact j z
  .exact .kT a.good z e
 .rcases z.2 with z|z
  .exact m z
  .exact .kT b.good z f
def mM(h:gE K C x σ H Q)(f:∀v B,cj H B->Q v B->Q' v B):gE K C x σ H Q':=by
 obtain⟨ρ,d,fr,h,F,g,R,k⟩:=h;exact⟨ρ,d,fr,h,F,g,R,λv F' H' st r fr=>f v H' st.hh (k v F' H' st r fr)⟩
def Br(h:oE C (.mut op i es) ρ=a_ out) :
  ∃ds d d',oK C es (full ρ)=a_ (ds,c_)/\ρ[i]?=a_ (a_ (d,c_))/\jx op d ds=a_ d'/\out=.nx (ρ.set i (a_ (d',c_))):=by
 obtain⟨⟨ds,al⟩,h3,h⟩:=c5 h;by_cases a:al=c_
 .subst a
  cases q:ρ[i]? with
  |none=>rw[q]at h;cases h
  |some z=>
    rw[q]at h
    match z,h with
    |some (d,c_),h=>
      obtain⟨d',b,h5⟩:=dY h;exact⟨ds,d,d',h3,rfl,b,h5.symm⟩
 simp_all
def Bq(h1:op≠.ext)(h2:op≠.dput){D:Ends}(h:gS K C (.mut op i es) D σ H) :
  ∃l B,σ[i]?=a_ (a_ (.ref l))/\H l=a_ B/\(op≠.seti->∃xs,B=.lst xs)/\gF K C es σ H λvs Z=>∃Y ob',Z l=a_ Y/\Am op Y vs=a_ ob'/\D.nx σ (upd Z l ob'):=by
 refine ac λ_ P=>?_;obtain⟨Fz,H₀,F,ρ,out,h,R,k⟩:=h;obtain⟨ds,d,d',h3,hi,b,rfl⟩:=Br h;obtain⟨Ss,O⟩:=R.ow;obtain⟨v,e1,e2,e3,J⟩:=O.own i d hi
 have c:∃l B,v=.ref l/\H l=a_ B/\(op≠.seti->∃xs,B=.lst xs):=by
  cases d with
  |lst es=>
    obtain⟨l,xs,S',rfl,hl,os,L⟩:=id e2;exact⟨l,_,rfl,hl,λ_=>⟨xs,rfl⟩⟩
  |dct ks ws=>
    obtain⟨l,k_,S',rfl,hl,_⟩:=id e2;refine⟨l,_,rfl,hl,λe=>?_⟩
    cases op<;>first|exact absurd rfl h1|exact absurd rfl h2|exact absurd rfl e|cases b
  |_=>cases op<;>cases b
 obtain⟨l,B,rfl,hl,f⟩:=c;refine P ?_;refine⟨l,B,e1,hl,f,zO R h3 λvs F' H' T st ow t s=>?_⟩;have x:=O.moved st;have y:=R.moved st
 have z:∀a∈Ss i,a∉T:=λa m m2=>by
  obtain⟨u,A,_⟩:=e2.v3 _ a m
  simp_all
 refine ac λ_ P=>?_;obtain⟨M,Y,ob',N,ev,g,n,o,E,G,p,r⟩:=uC h1 h2 b (e2.mono st.hh) e3 ow t z;cases ev;refine P ?_;refine⟨Y,ob',n,o,k F' _ σ st.ff (y.mut x hi e1 g E G p λa m=>?_)⟩
 rcases r a m with m|m
 .exact .inl m
 .refine .inr ⟨(s a m).2,R.step.hh.free (s a m).1,λj d2 q m2=>?_⟩;obtain⟨w,_,I,_⟩:=O.own j d2 q;obtain⟨u,A,_⟩:=I.v3 _ a m2
  simp_all
def Oo{st:lz}(h1:op≠.ext)(h2:op≠.dput)(h3:op≠.seti)(O:∀l B ob' vs H Q,H l=a_ B->Am op B vs=a_ ob'->(∀u,Q u (upd H l ob'))->r (.ref l) vs H Q)
  (Y:PS X st (AK (S5 X.K "list" r (Dk i) (gF X.K C es)))):SS X C st (.mut op i es):=PS.imp Y λD σ H h=>by
 obtain⟨l,b,e1,hl,a,g⟩:=Bq h1 h2 h;obtain⟨xs,rfl⟩:=a h3;refine⟨.ref l,e1,.inl ⟨rfl,xs,nM.of hl⟩,?_⟩;refine ac λ_ d=>?_;obtain⟨ρ,ds,al,h,F,c,R,k⟩:=g;refine d ?_;exact⟨ρ,ds,al,h,F,c,R,λvs F' H' st r f=>let ⟨B,ob',q1,q2,q3⟩:=k vs F' H' st r f;O l B ob' vs H' _ q1 q2 λ_=>q3⟩
def KH:V->V->V->Hp->(Hp->Prop)->Prop:=λo i v H Q=>∃p k_ k,o=.ref p/\i=kV k/\H p=a_ (.dK k_)/\k_.length<aB/\Q (upd H p (.dK (putK k_ k v)))
def Fo(B:X.A.units+1<dc):WX X (λo i v H Q=>FD o i v H Q\/KH o i v H Q):=λh_ s σ H o i v d e u Q I a b c h=>by
 rcases h with h|⟨p,k_,k,rfl,rfl,hp,f,q⟩
 .exact set_list h_ s σ H o i v d e u Q I a b c h
 .cases a;exact IX B I (Q9.k hp f) b c λs' I'=>⟨_,I',q⟩
set_option tactic.hygienic true in
def Ol{st:lz}(B:PS X st (HG (gE X.K C xe) (V9 (Dk i) (gE X.K C xi) (λo i v H Q=>FD o i v H Q\/KH o i v H Q)))):SS X C st (.mut .seti i [xe,xi]):=PS.imp B λD σ H h=>by
 obtain⟨l,d,e1,hl,_,g⟩:=Bq (by simp) (by simp) h;refine mM (Wa g) λx u s1 f=>⟨.ref l,e1,mM f λy H2 s2 m=>?_⟩
 obtain⟨n,ob',b,a,c⟩:=m
 cases n with
 |lst ys=>
   cases y with
   |int k=>
     simp only[Am,Lj]at a;split at a
     .obtain⟨w,p,q⟩:=dY a;cases q;obtain⟨j,r,s⟩:=dY p;subst s;exact .inl ⟨l,ys,k,j,rfl,rfl,b,r,c⟩
     .cases a
   |_=>cases a
 |dK k_=>
   obtain⟨k,hk,a⟩:=c5 a;split at a
   .rename_i t;cases a;exact .inr ⟨l,k_,k,rfl,LQ hk,b,t,c⟩
   .cases a
 |_=>cases a
end
section
set_option tactic.hygienic true in
def D8:∀l B ob' vs H(Q:VK),H l=a_ B->Am .app B vs=a_ ob'->(∀u,Q u (upd H l ob'))->FE (.ref l) vs H Q:=λl B ob' vs H Q h1 h2 h3=>by
 cases B with
 |lst xs=>
   cases vs with
   |nil=>cases h2
   |cons y vs=>
     cases vs with
     |cons _ _=>cases h2
     |nil=>
       simp only[Am,Vd]at h2;split at h2
       .rename_i a;cases h2;exact⟨l,xs,y,rfl,rfl,h1,a,h3 _⟩
       .cases h2
 |_=>cases h2
end
def B4{items B:Array ah}(O:items.size+B.size<=aB):¬(!items.isEmpty && fQ (items.size+B.size))=c_:=by
 rw[Bm O];simp
def Mr(l:aI)(items:Array ah)(n:Nat)(b:aI)(B:Array ah)(Y:Nat)(O:Option aI)(zj:Array (Option ah))(Z:¬(!items.isEmpty && fQ (items.size+B.size))=c_)(hs1:items.size<=aB)(hs2:items.size+B.size<=aB+1) :
  Meets (fV.«list.extend» ⟨[.ref l,.ref b],[]⟩) (λ_ R s=>s.heap.get? l=a_ { cls:=.type "list",dict:=b_,data:=.seq items n,slots:=#[] }/\s.heap.get? b=a_ { cls:=.type "tuple",dict:=O,data:=.seq B Y,slots:=zj }/\R (.ok (.ret fF)) { s with heap:=s.heap.update l (fo λx=>x++B),toks:=s.toks }):=
 .of_wp λprog w A R s h=>by
  obtain⟨hp,g,d,a,os⟩:=s;obtain⟨hl,hb,h⟩:=h
  wp_walk using(iZ hl rfl ),qD hl,qD hb
  exact⟨_,rfl,h⟩
def Mu(l:aI)(items:Array ah)(n:Nat)(b:aI)(B:Array ah)(Y:Nat)(O:Option aI)(zj:Array (Option ah))(Z:¬(!items.isEmpty && fQ (items.size+B.size))=c_)(hs1:items.size<=aB)(hs2:items.size+B.size<=aB+1) :
  Meets (fV.«list.extend» ⟨[.ref l,.ref b],[]⟩) (λ_ R s=>s.heap.get? l=a_ { cls:=.type "list",dict:=b_,data:=.seq items n,slots:=#[] }/\s.heap.get? b=a_ { cls:=.type "list",dict:=O,data:=.seq B Y,slots:=zj }/\R (.ok (.ret fF)) { s with heap:=s.heap.update l (fo λx=>x++B),toks:=s.toks }):=
 .of_wp λprog w A R s h=>by
  obtain⟨hp,g,d,a,os⟩:=s;obtain⟨hl,hb,h⟩:=h
  wp_walk using(iZ hl rfl ),qD hl,qD hb
  exact⟨_,rfl,h⟩
section
variable{K:Fg}
def Yk(K:Fg):V->List V->Hp->VK->Prop:=λx vs H Q=>∃l b xs a,x=.ref l/\vs=[.ref b]/\H l=a_ (.lst xs)/\(nM K H b a\/tG K H b a)/\xs.length+a.length<=aB/\Q .non (upd H l (.lst (xs++a)))
def Vp:MtM X "list.extend" (Yk X.K):=by
 intro h_ s σ H x vs v us Q I t w h;obtain⟨l,b,xs,m,rfl,rfl,o,f,y,q⟩:=h;cases t;obtain⟨u,rfl,A⟩:=w.one;cases A;obtain⟨z,its,n,r,hl,e⟩:=I.ID o
 have fin:∀(a:List ah)(p:Nat),c7 m a->EP X h_ σ Q .none { s with heap:=s.heap.update l (fo λx=>x++a.toArray),toks:=p }:=λa p c=>
  ⟨.non,_,I.VF o e (by simp) (r.append c) (by simp_all),rfl,q⟩
 have d:∀{a:List ah},c7 m a->its.toArray.size+a.toArray.size<=aB:=λc=>by rw[bD,bD,<-r.length,<-c.length];exact y
 rcases f with f|f
 .refine ac λ_ B=>?_;obtain⟨a,c,⟨j,k,e2,hc,hd,hs⟩,_⟩:=I.list f;obtain⟨g,i,data2,zj⟩:=j;subst hc hd hs;refine B ?_;exact C0 jl ⟨_,e,rfl⟩ su (qL _ _) (Mu l its.toArray n b a.toArray k _ zj (B4 (d c)) (by simp_all) (cc (d c))) ⟨e,e2,fin a _ c⟩
 .refine ac λ_ B=>?_;obtain⟨a,c,⟨j,e2,hc,k,hd⟩,_⟩:=I.tuple f;obtain⟨g,i,data2,zj⟩:=j;subst hc hd;refine B ?_;exact C0 jl ⟨_,e,rfl⟩ su (qL _ _) (Mr l its.toArray n b a.toArray k i zj (B4 (d c)) (by exact aa (ae hl.symm) z) (cc (d c))) ⟨e,e2,fin a _ c⟩
def SJ(K:Fg)(H:Hp)(d':Dat)(v:V)(vs:List V)(S T:List aI):Prop:=
 ∃l xs b c S',v=.ref l/\l∈S/\H l=a_ (.lst xs)/\vs=[.ref b]/\(nM K H b c\/tG K H b c)/\xs.length+c.length<=aB/\my K (upd H l (.lst (xs++c))) d' v S'/\S'.Nodup/\∀a∈S',a∈S\/a∈T
def Mt{T:List aI}(hl:H l=a_ (.lst xs))(os:df K H es xs S')(nd:(l::S').Nodup)(hb:nM K H b zs\/tG K H b zs)(of:df K H fs zs T')(B:∀a∈T',a∈T)(nt:T'.Nodup)(O:∀a∈l::S',a∉T)(Y:es.length+fs.length<=aB) :
  SJ K H (.lst (es++fs)) (.ref l) [.ref b] (l::S') T:=by
 have e:=aX.mp nd;have c:∀vs,H l≠a_ (.tup vs):=λvs z=>by rw[hl]at z;cases z
 have d :=λm=>O l jy (B l m);refine⟨l,xs,b,zs,l::(S'++T'),rfl,jy,hl,rfl,hb,by rw[os.length,of.length];exact Y,⟨l,xs++zs,S'++T',rfl,cO,(os.upd c _ e.1).append (of.upd c _ d),rfl⟩,?_,λa m=>?_⟩
 .refine aX.mpr ⟨λm=>?_,gR e.2 nt λa m m2=>O a (ki _ m) (B a m2)⟩
  grind
 grind
set_option tactic.hygienic true in
def Qy{T:List aI}(h:jx .ext d ds=a_ d')(o:my K H d v S)(nd:S.Nodup)(a:df K H ds vs T)(nt:T.Nodup)(B:∀a∈S,a∉T):SJ K H d' v vs S T:=by
 cases d with
 |lst es=>
   obtain⟨l,xs,S',rfl,hl,os,rfl⟩:=o
   cases ds with
   |nil=>cases h
   |cons d1 ds=>
     cases ds with
     |cons _ _=>cases d1<;>cases h
     |nil=>
       obtain⟨y,r,j,k,e,f,g,q⟩:=a;obtain⟨rfl,rfl⟩:=g;rw[aH]at q;subst e q
       cases d1 with
       |lst fs=>
         simp only[jx,SX]at h;split at h
         .rename_i c;cases h;obtain⟨b,i,n,rfl,hb,of,rfl⟩:=f;exact Mt hl os nd (.inl (.inl (.inl hb))) of (λa m=>ki _ m) (aX.mp nt).2 B c
         .cases h
       |tup fs=>
         simp only[jx,SX]at h;split at h
         .rename_i c;cases h;obtain⟨b,i,rfl,hb,of⟩:=f;exact Mt hl os nd (.inr hb.sq) of (λa m=>m) nt B c
         .cases h
       |_=>cases h
 |_=>cases h
def Ms{D:Ends}(h:gS K C (.mut .ext i es) D σ H) :
  ∃l B,σ[i]?=a_ (a_ (.ref l))/\H l=a_ (.lst B)/\gF K C es σ H λvs Z=>∃xs b Y,Z l=a_ (.lst xs)/\vs=[.ref b]/\(nM K Z b Y\/tG K Z b Y)/\xs.length+Y.length<=aB/\D.nx σ (upd Z l (.lst (xs++Y))):=by
 obtain⟨Fz,H₀,F,ρ,out,h,R,k⟩:=h;obtain⟨ds,d,d',h3,hi,p,rfl⟩:=Br h;obtain⟨Ss,O⟩:=R.ow;obtain⟨v,e1,e2,e3,J⟩:=O.own i d hi
 have c:∃l B,v=.ref l/\H l=a_ (.lst B):=by
  cases d with
  |lst es=>
    obtain⟨l,xs,S',rfl,hl,os,L⟩:=id e2;exact⟨l,xs,rfl,hl⟩
  |_=>cases p
 obtain⟨l,B,rfl,hl⟩:=c;refine⟨l,B,e1,hl,zO R h3 λvs F' H' T st ow s r=>?_⟩;have y:∀a∈Ss i,a∉T:=λa m m2=>by
  obtain⟨u,z,_⟩:=e2.v3 _ a m
  simp_all
 refine ac λ_ t=>?_;obtain⟨M,xs,b,Y,N,ev,e,f,g,A,E,G,n,o⟩:=Qy p (e2.mono st.hh) e3 ow s y;cases ev;refine t ?_;refine⟨xs,b,Y,f,g,A,E,k F' _ σ st.ff ((R.moved st).mut (O.moved st) hi e1 e trivial G n λa m=>?_)⟩
 rcases o a m with m|m
 .exact .inl m
 .refine .inr ⟨(r a m).2,R.step.hh.free (r a m).1,λj d2 q m2=>?_⟩;obtain⟨w,_,I,_⟩:=O.own j d2 q;obtain⟨u,z,_⟩:=I.v3 _ a m2
  simp_all
def TB{st:lz}(B:PS X st (AK (S5 X.K "list" (Yk X.K) (Dk i) (gF X.K C es)))):SS X C st (.mut .ext i es):=PS.imp B λD σ H h=>by
 obtain⟨l,a,e1,hl,g⟩:=Ms h;refine⟨.ref l,e1,.inl ⟨rfl,a,nM.of hl⟩,?_⟩;refine ac λ_ d=>?_;obtain⟨ρ,ds,al,h,F,c,R,k⟩:=g;refine d ?_;exact⟨ρ,ds,al,h,F,c,R,λvs F' H' st r f=>let ⟨xs,b,zs,q1,q2,q3,q4,q5⟩:=k vs F' H' st r f;⟨l,b,xs,zs,rfl,q2,q1,q3,q4,q5⟩⟩
end
section
variable{X:Cx}{K:Fg}
theorem yi:∀{ds:List Dat}{q:List Key}{vs:List V},BC ds=a_ q->c9 K F ds vs->vs=q.map kV
 |[],_,_,h,r=>by cases h;exact r
 |d::ds,_,_,h,a=>by
   obtain⟨v,w,e,h1,h2⟩:=a;obtain⟨k,hk,h⟩:=c5 h;obtain⟨q,b,h⟩:=dY h;cases h;subst e;rw[aA,<-yi b h2]
   congr 1
   cases d with
   |int i=>cases hk;exact h1
   |str x=>cases hk;exact h1
   |_=>cases hk
theorem F8:∀{ds:List Dat}{q:List N2}{vs:List V},RT ds=a_ q->c9 K F ds vs->NH K F q vs
 |[],_,_,h,r=>by cases h;exact r
 |d::ds,_,_,h,f=>by
   obtain⟨v,w,e,h1,h2⟩:=f;obtain⟨k,hk,h⟩:=c5 h;obtain⟨q,g,h⟩:=dY h;cases h;subst e;have b:=F8 g h2
   cases d with
   |int i=>cases hk;cases h1;exact⟨w,rfl,b⟩
   |str x=>cases hk;cases h1;exact⟨w,rfl,b⟩
   |tup es=>
     obtain⟨j,c,hk⟩:=dY hk;cases hk;obtain⟨a,vs,rfl,t,r⟩:=h1;rw[yi c r]at t;exact⟨a,w,rfl,t,b⟩
   |_=>cases hk
theorem FW:∀{ds:List Dat}{q:List NK}{vs:List V},Xg ds=a_ q->c9 K F ds vs->NG K F q vs
 |[],_,_,h,r=>by cases h;exact r
 |d::ds,_,_,h,f=>by
   obtain⟨v,w,e,h1,h2⟩:=f;obtain⟨k,hk,h⟩:=c5 h;obtain⟨q,g,h⟩:=dY h;cases h;subst e;have b:=FW g h2
   cases d with
   |int i=>cases hk;cases h1;exact⟨w,rfl,b⟩
   |str x=>cases hk;cases h1;exact⟨w,rfl,b⟩
   |tup es=>
     obtain⟨j,c,hk⟩:=dY hk;cases hk;obtain⟨a,vs,rfl,t,r⟩:=h1;exact⟨a,w,vs,rfl,t,F8 c r,b⟩
   |_=>cases hk
def zt(h:DN da=a_ k)(r:Rep K F da v):∃a,v=.ref a/\NKy K F k a:=by
 cases da with
 |tup ds=>
   obtain⟨a,vs,rfl,t,r⟩:=r;exact⟨a,rfl,vs,t,FW h r⟩
 |_=>cases h
theorem Gq:∀{q:List Key}{us:List ah},c7 (q.map kV) us->∀h:cM,se (IF X.prog X.w) h q us
 |[],_,w,_=>by cases w;exact .nil
 |k::q,_,w,h=>by
   cases w with
   |cons a b=>exact .cons (rA a) (Gq b h)
theorem sO(I:Inv X h_ σ H s)(g:Good F H):∀{k:List N2}{vs:List V}{us:List ah},NH X.K F k vs->c7 vs us->se (i2 X.prog X.w) s.heap k us
 |[],_,_,h,w=>by rw[h]at w;cases w;exact .nil
 |.inl k::ks,_,_,h,w=>by
   obtain⟨r,e,h⟩:=h;subst e
   cases w with
   |cons q w=>exact .cons (rA q) (sO I g h w)
 |.inr q::ks,_,_,h,w=>by
   obtain⟨b,r,e,t,h⟩:=h;subst e
   cases w with
   |cons a w=>
     refine .cons ?_ (sO I g h w);cases(a);obtain⟨its,c,⟨o,h1,h2,n,h3⟩,_⟩:=I.tupR g t;exact⟨b,rfl,o,its.toArray,n,h1,h2,h3,by simpa using Gq c s.heap⟩
theorem sL(I:Inv X h_ σ H s)(g:Good F H):∀{k:List NK}{vs:List V}{us:List ah},NG X.K F k vs->c7 vs us->WZ X.prog X.w s.heap k us
 |[],_,_,h,w=>by rw[h]at w;cases w;exact .nil
 |.inl k::ks,_,_,h,w=>by
   obtain⟨r,e,h⟩:=h;subst e
   cases w with
   |cons q w=>exact .cons (rA q) (sL I g h w)
 |.inr q::ks,_,_,h,w=>by
   obtain⟨b,r,us,e,t,a,h⟩:=h;subst e
   cases w with
   |cons c w=>
     refine .cons ?_ (sL I g h w);cases(c);obtain⟨its,d,⟨o,h1,h2,n,h3⟩,_⟩:=I.tupR g t;exact⟨b,rfl,o,its.toArray,n,h1,h2,h3,by simpa using sO I g a d⟩
def vF(I:Inv X h_ σ H s)(g:Good F H)(h:NKy X.K F k a):(F6 X.prog X.w).is s.heap k a:=by
 refine ac λ_ c=>?_;obtain⟨vs,t,r⟩:=h;obtain⟨its,b,⟨o,h1,h2,n,h3⟩,_⟩:=I.tupR g t;refine c ?_;exact⟨o,its.toArray,n,h1,h2,h3,by simpa using sL I g r b⟩
end
section
variable{X:Cx}
noncomputable def Er(da:Dat)(ds:List Dat)(its:List ah)(w:ah):Bool:=@decide (∃(i:Nat) (d:Dat),its[i]?=a_ w/\ds[i]?=a_ d/\oQ d da=c_) (mT _)
def Ep(I:Inv X h_ σ H s)(g:Good F H){da:Dat}{ds:List Dat}{vs:List V}{its:List ah}(O:eT 20 ds=c_)(r:c9 X.K F ds vs)(w:c7 vs its){i:Nat}{d:Dat}{u:ah}(h1:its[i]?=a_ u)(h2:ds[i]?=a_ d):Er da ds its u=oQ d da:=by
 have one:∀(j:Nat)d',its[j]?=a_ u->ds[j]?=a_ d'->d'=d:=λj d' b c=>by
  obtain⟨v,e1,e2⟩:=r.get h2;obtain⟨n,e,f⟩:=r.get c;obtain⟨o,k,m⟩:=w.get e1;obtain⟨p,a,h⟩:=w.get e;rw[h1]at k;cases k;rw[b]at a;cases a;have:=m.inj h;subst this;exact(Ba I g d d' (vE 20 _ (pI O h2)) (vE 20 _ (pI O c)) e2 f).symm
 by_cases hd:oQ d da=c_
 .rw[hd];exact@decide_eq_true _ (mT _) ⟨i,d,h1,h2,hd⟩
 .have:oQ d da=d_:=by simpa using hd
  rw[this];refine@decide_eq_false _ (mT _) λ⟨j,d',b,c,l⟩=>?_;rw[one j d' b c]at l;exact hd l
def uN(I:Inv X h_ σ H s)(g:Good F H)(O:eT 20 ds=c_)(r:c9 X.K F ds vs)(w:c7 vs its):its.any (Er da ds its)=ds.any λy=>oQ y da:=by
 have hl:its.length=ds.length:=by rw[<-w.length,r.length]
 rw[Bool.eq_iff_iff,oA,oA];constructor
 .rintro⟨u,hu,h⟩;obtain⟨i,hi,e⟩:=lL hu;have a :=aa hi (ae hl);refine⟨ds[i],bA a,?_⟩;rw[<-Ep I g O r w (by rw[af hi,e]) (af a)];exact h
 .rintro⟨d,hd,h⟩;obtain⟨i,hi,e⟩:=lL hd;have a :=aa hi (ae hl.symm);refine⟨its[i],bA a,?_⟩;rw[Ep I g O r w (af a) (by rw[af hi,e])];exact h
def zP(I:Inv X h_ σ H s)(g:Good F H)(A:bX)(B:A.units+20<dc)(sa:hV 20 da=c_)(O:eT 20 ds=c_)(Y:Rep X.K F da x)(Z:RelV x u)(r:c9 X.K F ds vs)(w:c7 vs its) :
  ∀y∈its,Ho A s y u (Er da ds its y):=λy c=>by
 obtain⟨i,hi,e⟩:=lL c;have a :=aa hi (ae (by rw[<-w.length,r.length]));have h1:its[i]?=a_ y:=by rw[af hi,e]
 have h2:=af a;rw[Ep I g O r w h1 h2];obtain⟨v,e1,e2⟩:=r.get h2;obtain⟨f,b,d⟩:=w.get e1;rw[h1]at b;cases b;exact(vZ I g 20 A ds[i] da B (pI O h2) sa e2 Y d Z).1
set_option tactic.hygienic true
def U4(O:X.A.units+21<dc):j2 X (compareOp .In) (gB X.K (rM .isin)):=λh_ s σ H x y v u Q I i j B=>by
 refine ac λ_ c=>?_;obtain⟨da,E,d,fr,h,F,g,l,m,k⟩:=B;obtain⟨b,hd,rfl,rfl⟩:=kE h;refine c ?_;have e:X.A.in1.units+20<dc:=by omega
 cases E with
 |str z=>
   cases da with
   |str L=>
     cases hd;exact Ir h_ s σ H x y v u Q I i j ⟨_,_,l,m,k _ F H (Step.refl g) rfl aZ⟩
   |_=>cases hd
 |lst ds=>
   have a:(if hV 20 da && eT 20 ds then a_ (ds.any λy=>oQ y da)else b_)=a_ b:=by cases da<;>exact hd
   split at a
   .rename_i hs;rw[aj]at hs;cases a;obtain⟨p,vs,rfl,t,r⟩:=m;obtain rfl:u=.ref p:=j;obtain⟨its,w,pl,_⟩:=I.lstR g t;refine SeqAt.in_listAt (Er da ds its) pl.isList (λy C=>zP I g _ e hs.1 hs.2 l i r w y (by simpa using C)) ⟨.bl _,H,I,rfl,?_⟩;rw[show its.toArray.any (Er da ds its)=its.any (Er da ds its) by simp,uN I g hs.2 r w];exact k _ F H (Step.refl g) rfl aZ
   .cases a
 |tup ds=>
   have a:(if hV 20 da && eT 20 ds then a_ (ds.any λy=>oQ y da)else b_)=a_ b:=by cases da<;>exact hd
   split at a
   .rename_i hs;rw[aj]at hs;cases a;obtain⟨p,vs,rfl,t,r⟩:=m;obtain rfl:u=.ref p:=j;obtain⟨its,w,pl,_⟩:=I.tupR g t;refine SeqAt.in_tupleAt (Er da ds its) pl (λy C=>zP I g _ e hs.1 hs.2 l i r w y (by simpa using C)) ⟨.bl _,H,I,rfl,?_⟩;rw[show its.toArray.any (Er da ds its)=its.any (Er da ds its) by simp,uN I g hs.2 r w];exact k _ F H (Step.refl g) rfl aZ
   .cases a
 |dct ks ds=>
   have a:(pZ da).map (λk=>(f7 k ks ds).isSome)=a_ b:=by cases da<;>exact hd
   refine ac λ_ c=>?_;obtain⟨kk,hk,a⟩:=dY a;subst a;obtain⟨p,k_,rfl,n,rfl,D⟩:=m;obtain rfl:=nG hk l;obtain rfl:u=.ref p:=j
   refine c ?_;have e1:(f7 kk (k_.map (·.1)) ds).isSome=(lM k_ kk).isSome:=by
    cases q:f7 kk (k_.map (·.1)) ds with
    |none=>rw[pK q D];rfl
    |some d=>obtain⟨w,e2,_⟩:=nE q D;rw[e2];rfl
   refine abx  (aa (qj e) (by decide)) I (qC.k (g.sub _ _ n)) i λs' I'=>⟨.bl _,H,I',rfl,?_⟩
   rw[<-e1];exact k _ F H (Step.refl g) rfl aZ
 |_=>cases da<;>cases hd
def Pr(O:X.A.units+21<dc):j2 X (compareOp .NotIn) (gB X.K (rM .nin)):=λh_ s σ H x y v u Q I e f l=>by
 refine ac λ_ o=>?_;obtain⟨da,B,d,fr,h,F,g,i,j,k⟩:=l;obtain⟨b,hd,rfl,rfl⟩:=kE h;refine o ?_;have c:X.A.in1.units+20<dc:=by omega
 cases B with
 |str z=>
   cases da with
   |str D=>
     cases hd;exact zr h_ s σ H x y v u Q I e f ⟨_,_,i,j,k _ F H (Step.refl g) rfl aZ⟩
   |_=>cases hd
 |lst ds=>
   have a:(if hV 20 da && eT 20 ds then a_ (!(ds.any λy=>oQ y da))else b_)=a_ b:=by cases da<;>exact hd
   split at a
   .rename_i hs;rw[aj]at hs;cases a;obtain⟨p,vs,rfl,t,r⟩:=j;obtain rfl:u=.ref p:=f;obtain⟨its,w,pl,_⟩:=I.lstR g t;refine SeqAt.notIn_listAt (Er da ds its) pl.isList (λy m=>zP I g _ c hs.1 hs.2 i e r w y (by simpa using m)) ⟨.bl _,H,I,rfl,?_⟩;rw[show its.toArray.any (Er da ds its)=its.any (Er da ds its) by simp,uN I g hs.2 r w];exact k _ F H (Step.refl g) rfl aZ
   .cases a
 |tup ds=>
   have a:(if hV 20 da && eT 20 ds then a_ (!(ds.any λy=>oQ y da))else b_)=a_ b:=by cases da<;>exact hd
   split at a
   .rename_i hs;rw[aj]at hs;cases a;obtain⟨p,vs,rfl,t,r⟩:=j;obtain rfl:u=.ref p:=f;obtain⟨its,w,pl,_⟩:=I.tupR g t;refine SeqAt.notIn_tupleAt (Er da ds its) pl (λy m=>zP I g _ c hs.1 hs.2 i e r w y (by simpa using m)) ⟨.bl _,H,I,rfl,?_⟩;rw[show its.toArray.any (Er da ds its)=its.any (Er da ds its) by simp,uN I g hs.2 r w];exact k _ F H (Step.refl g) rfl aZ
   .cases a
 |dct ks ds=>
   have a:(pZ da).map (λk=>!(f7 k ks ds).isSome)=a_ b:=by cases da<;>exact hd
   refine ac λ_ o=>?_;obtain⟨kk,hk,a⟩:=dY a;subst a;obtain⟨p,k_,rfl,C,rfl,n⟩:=j;obtain rfl:=nG hk i;obtain rfl:u=.ref p:=f
   refine o ?_;have e1:(f7 kk (k_.map (·.1)) ds).isSome=(lM k_ kk).isSome:=by
    cases q:f7 kk (k_.map (·.1)) ds with
    |none=>rw[pK q n];rfl
    |some d=>obtain⟨w,e2,_⟩:=nE q n;rw[e2];rfl
   refine QI  (Nat.le_trans (Nat.lt_sub_of_add_lt c) (by decide)) I (qC.k (g.sub _ _ C)) e λs' I'=>⟨.bl _,H,I',rfl,?_⟩
   rw[<-e1];exact k _ F H (Step.refl g) rfl aZ
 |_=>cases da<;>cases hd
set_option tactic.hygienic false
end
def gM(K:Fg)(f:Dat->List Dat->g_):V->List V->Hp->VK->Prop:=λx xs H Q=>∃da ds d fr F,f da ds=a_ (d,fr)/\Good F H/\Rep K F da x/\c9 K F ds xs/\∀v F' H',Step F H F' H'->Rep K F' d v->(fr=c_->gf K H H' d v)->Q v H'
section
variable{X:Cx}
def yg(hs:∀da ds r,iE m da ds=a_ r->∃z,da=.str z):∀σ H Q,gE X.K C (.iF m xo xs) σ H Q->S5 X.K "str" (gM X.K (iE m)) (gE X.K C xo) (gA X.K C xs) σ H Q:=λσ H Q f=>by
 refine ac λ_ x=>?_;obtain⟨ρ,d,fr,h,F,g,R,k⟩:=f;obtain⟨⟨da,i⟩,h1,h⟩:=c5 h;obtain⟨ds,h2,h3⟩:=c5 h;obtain⟨z,j⟩:=hs da ds _ h3;refine x ?_;refine⟨ρ,da,i,h1,F,g,R,λv F1 u a c _=>⟨?_,ρ,ds,h2,F1,a.good,R.mono a.ff,λvs l H2 b n=>⟨da,ds,d,fr,l,h3,b.good,c.mono b.ff,n,λw o p e s t=>k w o p ((a.trans b).trans e) s λq=>(t q).back (F:=F) (a.hh.trans b.hh)⟩⟩⟩;rw[j]at c;rw[c];exact rfl
def DP(hs:∀da ds r,iE m da ds=a_ r->∃z,da=.str z):∀σ H Q,gE X.K C (.iF m xo []) σ H Q->XO X.K "str" (gM X.K (iE m)) (gE X.K C xo) σ H Q:=λσ H Q e=>by
 refine ac λ_ s=>?_;obtain⟨ρ,d,fr,h,F,g,R,k⟩:=e;obtain⟨⟨da,f⟩,h1,h⟩:=c5 h;obtain⟨ds,h2,h3⟩:=c5 h;cases h2;obtain⟨z,i⟩:=hs da [] _ h3;refine s ?_;refine⟨ρ,da,f,h1,F,g,R,λv F1 p a b _=>⟨?_,da,[],d,fr,F1,h3,a.good,b,rfl,λw j l c n o=>k w j l (a.trans c) n λq=>(o q).back (F:=F) a.hh⟩⟩;rw[i]at b;rw[b];exact rfl
def JQ(r:c9 X.K F [] vs)(w:c7 vs us):us=[]:=by
 rw[r]at w;cases w;rfl
section
def pf(h:iE .startswith da ds=a_ r):∃x y i,da=.str x/\ds=[.str y,.int i]/\r=(.bl (ic x y i),d_):=by
 have h:mSw da ds=a_ r:=h;unfold mSw at h;split at h
 .cases h;exact⟨_,_,_,rfl,rfl,rfl⟩
 .cases h
def yo(h:iE .upper da ds=a_ r):∃x,da=.str x/\ds=[]/\iE .upper (.str x) []=a_ r:=by
 cases da with
 |str x=>
   cases ds with
   |nil=>exact⟨x,rfl,rfl,h⟩
   |cons d1 ds=>cases ds<;>cases d1<;>cases h
 |_=>cases ds<;>first|cases h|simp
set_option tactic.hygienic true
def BI(h:iE .join da ds=a_ r):∃x es,da=.str x/\ds=[.lst es]/\iE .join (.str x) [.lst es]=a_ r:=by
 cases da with
 |str x=>
   cases ds with
   |nil=>cases h
   |cons d1 ds=>
     cases ds with
     |nil=>
       cases d1 with
       |lst y=>exact⟨x,y,rfl,rfl,h⟩
       |_=>cases h
     |cons _ _=>cases d1<;>cases h
 |_=>cases ds<;>first|cases h|(rename_i d1 ds;cases ds<;>cases d1<;>cases h)
def N8(r:c9 X.K F [.str y,.int i] vs)(w:c7 vs us):∃t u,us=[.str y t,.int i u]:=by
 obtain⟨v,q,rfl,a,d,e,rfl,b,c⟩:=r;rw[c,a,b]at w;obtain⟨f,g,rfl,⟨t,rfl⟩,⟨h,rfl⟩⟩:=vals2 w;exact⟨_,_,rfl⟩
def w5:Q5 X "str.startswith" (gM X.K (iE .startswith)):=λh_ s σ H x xs v us Q I b c a=>by
 refine ac λ_ l=>?_;obtain⟨da,ds,d,fr,F,h,g,e,f,k⟩:=a;obtain⟨x',y,i,rfl,rfl,h⟩:=pf h;cases h;refine l ?_;rw[e]at b;obtain⟨t,rfl⟩:=b;obtain⟨u,j,rfl⟩:=N8 f c;exact SC.startswith3 ⟨.bl _,H,I,rfl,k _ F H (Step.refl g) rfl aZ⟩
def Ly:Q5 X "str.upper" (gM X.K (iE .upper)):=λh_ s σ H x xs v us Q I b c a=>by
 refine ac λ_ j=>?_;obtain⟨da,ds,d,fr,F,h,g,e,f,k⟩:=a;obtain⟨x',rfl,rfl,h⟩:=yo h;refine j ?_;simp only[iE,Z6]at h;split at h
 .rename_i i;cases h;rw[e]at b;obtain⟨t,rfl⟩:=b;obtain rfl:=JQ f c;exact SCL.upper (aa i br) λ_=>⟨.str _,H,I.tok _,⟨_,rfl⟩,k _ F H (Step.refl g) rfl aZ⟩
 .cases h
theorem AN:∀{es:List Dat}{ys:List be}{vs:List V}{us:List ah},xS es=a_ ys->c9 X.K F es vs->c7 vs us->qi us ys
 |[],ys,vs,us,h,r,w=>by
   cases h;rw[r]at w;cases w;exact .nil
 |d::es,ys,vs,us,h,r,w=>by
   cases d with
   |str x=>
     obtain⟨g,h1,h⟩:=dY h;cases h;obtain⟨v,q,e,a,b⟩:=r;subst e;rw[a]at w
     cases w with
     |cons c f=>
       obtain⟨t,rfl⟩:=c;exact .cons x t (AN h1 b f)
   |_=>cases h
def PZ:Q5 X "str.join" (gM X.K (iE .join)):=λh_ s σ H x xs v us Q I b c a=>by
 refine ac λ_ y=>?_;obtain⟨da,ds,d,fr,F,h,g,f,i,k⟩:=a;obtain⟨x',es,rfl,rfl,h⟩:=BI h;obtain⟨ys,h1,h⟩:=c5 h;refine y ?_;split at h
 .rename_i j;cases h;rw[f]at b;obtain⟨t,rfl⟩:=b;obtain⟨w,q,e,⟨p,vs,e1,l,m⟩,n⟩:=i;rw[n]at e;subst e e1;obtain⟨u,rfl,o⟩:=vals1 c;obtain rfl:u=.ref p:=o;obtain⟨its,r,pl,_⟩:=I.lstR g l;exact join_list pl.isList (by simpa using AN h1 m r) (aa j br) λt' k'=>⟨.str _,H,I.tok _,⟨_,rfl⟩,k _ F H (Step.refl g) rfl aZ⟩
 .cases h
set_option tactic.hygienic false
end
end
section
variable{X:Cx}{es:List a8}
def gf.qy{K:Fg}(hp:H p=b_):gf K H (L2.upd H p (.dK [])) (.dct [] []) (.ref p):=
 ⟨[p],by simp,λa m=>by simp_all,p,[],[],rfl,cO,rfl,⟨rfl,rfl⟩,rfl⟩
def OK:SE X C (.Dict [] [] pos) .qy:=PE.imp K7 λσ H Q a p hp=>by
 refine ac λ_ b=>?_;obtain⟨ρ,d,fr,h,F,g,R,k⟩:=a;cases h;refine b ?_;exact k _ _ _ (Step.alloc g hp) ⟨p,[],rfl,cO,rfl,rfl⟩ λ_=>.qy hp
noncomputable def baseOk:a8->Bool
 |.Call (.Name _ _) [] [] _=>d_
 |_=>c_
def pQ(h:baseOk o=c_):attributeBase o m env w=w:=by
 cases o with
 |Call f a k p=>
   cases f with
   |Name x q=>
     cases a with
     |nil=>
       cases k with
       |nil=>cases h
       |cons _ _=>rfl
     |cons _ _=>rfl
   |_=>rfl
 |_=>rfl
def DO(hs:∀da ds r,iE m da ds=a_ r->∃ks ws,da=.dct ks ws):∀σ H Q,gE X.K C (.iF m xo xs) σ H Q->S5 X.K "dict" (gM X.K (iE m)) (gE X.K C xo) (gA X.K C xs) σ H Q:=λσ H Q i=>by
 refine ac λ_ z=>?_;obtain⟨ρ,d,fr,h,F,g,R,k⟩:=i;obtain⟨⟨da,j⟩,h1,h⟩:=c5 h;obtain⟨ds,h2,h3⟩:=c5 h;obtain⟨ks,ws,l⟩:=hs da ds _ h3;refine z ?_;refine⟨ρ,da,j,h1,F,g,R,λv F1 y b e _=>⟨?_,ρ,ds,h2,F1,b.good,R.mono b.ff,λvs n H2 c o=>⟨da,ds,d,fr,n,h3,c.good,e.mono c.ff,o,λw p s f t u=>k w p s ((b.trans c).trans f) t λq=>(u q).back (F:=F) (b.hh.trans c.hh)⟩⟩⟩;rw[l]at e;obtain⟨a,k_,rfl,x,_⟩:=e;exact .inr (.inr (.inl ⟨rfl,.inl ⟨k_,b.good.sub _ _ x⟩⟩))
def Gs(h:iE .get da ds=a_ r):∃ks ws B O k,da=.dct ks ws/\ds=[B,O]/\pZ B=a_ k/\r=((f7 k ks ws).getD O,d_):=by
 have h:VA da ds=a_ r:=h;unfold VA at h;split at h
 .obtain⟨k,hk,rfl⟩:=dY h;exact⟨_,_,_,_,k,rfl,rfl,hk,rfl⟩
 .cases h
def Vo(B:X.A.units+1<dc):Q5 X "dict.get" (gM X.K (iE .get)):=λh_ s σ H x xs v us Q I j l a=>by
 refine ac λ_ P=>?_;obtain⟨da,ds,d,fr,F,h,g,m,n,k⟩:=a;obtain⟨ks,ws,C,D,kk,rfl,rfl,hk,o⟩:=Gs h;obtain⟨p,k_,rfl,r,rfl,f⟩:=m;obtain⟨E,G,e,t,J,L,i,w,y⟩:=n;refine P ?_;rw[y]at i;subst i;subst e;obtain rfl:=nG hk t;obtain⟨u,M,rfl,z,b⟩:=vals2 l;cases j;refine Wq B I (qC.k (g.sub _ _ r)) z b λN s' I' c=>⟨_,H,I',c,?_⟩
 cases o
 cases q:f7 kk (k_.map (·.1)) ws with
 |none=>
   rw[q]at k;rw[pK q f];exact k _ F H (Step.refl g) w aZ
 |some d1=>
   rw[q]at k;obtain⟨O,e1,e2⟩:=nE q f;rw[e1];exact k _ F H (Step.refl g) e2 aZ
def X5{B:String}{ap cp:xv}(slot:NN "str" name B)(ty:typeOf (.builtin B)=pure (.type "method_descriptor"))(O:Q5 X B (gM X.K (iE m)))(hs:∀da ds r,iE m da ds=a_ r->∃z,da=.str z)
  (ho:SE X C o xo)(ha:SA X C [e] [xa])(hb:baseOk o=c_)(hl:(ap.endLine == cp.line)=c_)(h1:aQ [e] X.env=(d_,eval e X.env)::aQ [] X.env):SE X C (.Call (.Attribute o name ap) [e] [] cp) (.iF m xo [xa]):=
 PE.imp (vv nW slot ty O ho ha (pQ hb) (by rw[h1];rfl) hl h1 rfl) (yg hs)
def X4{B:String}{ap cp:xv}(slot:NN "str" name B)(ty:typeOf (.builtin B)=pure (.type "method_descriptor"))(O:Q5 X B (gM X.K (iE m)))(hs:∀da ds r,iE m da ds=a_ r->∃z,da=.str z)
  (ho:SE X C o xo)(ha:SA X C [e,e2] [xa,xb])(hb:baseOk o=c_)(hl:(ap.endLine == cp.line)=c_)(h1:aQ [e,e2] X.env=(d_,eval e X.env)::aQ [e2] X.env)(h2:aQ [e2] X.env=[(d_,eval e2 X.env)]):SE X C (.Call (.Attribute o name ap) [e,e2] [] cp) (.iF m xo [xa,xb]):=
 PE.imp (vv nW slot ty O ho ha (pQ hb) (by rw[h1,h2];rfl) hl h1 (by rw[h2];rfl)) (yg hs)
def X6{B:String}{ap cp:xv}(slot:NN "str" name B)(ty:typeOf (.builtin B)=pure (.type "method_descriptor"))(O:Q5 X B (gM X.K (iE m)))(hs:∀da ds r,iE m da ds=a_ r->∃z,da=.str z)
  (ho:SE X C o xo)(hb:baseOk o=c_)(hl:(ap.endLine == cp.line)=c_):SE X C (.Call (.Attribute o name ap) [] [] cp) (.iF m xo []):=
 PE.imp (UT nW slot ty O ho (pQ hb) hl) (DP hs)
def Uk{ap cp:xv}(B:X.A.units+1<dc)(ho:SE X C o xo)(ha:SA X C [e,e2] [xa,xb])(hb:baseOk o=c_)(hl:(ap.endLine == cp.line)=c_)(h1:aQ [e,e2] X.env=(d_,eval e X.env)::aQ [e2] X.env)(h2:aQ [e2] X.env=[(d_,eval e2 X.env)]):SE X C (.Call (.Attribute o "get" ap) [e,e2] [] cp) (.iF .get xo [xa,xb]):=
 PE.imp (vv PySem.F.plainAttrs_dict oG PySem.F.type_dict_get (Vo B) ho ha (pQ hb) (by rw[h1,h2];rfl) hl h1 (by rw[h2];rfl)) (DO λda ds r h=>let ⟨ks,ws,_,_,_,q,_⟩:=Gs h;⟨ks,ws,q⟩)
noncomputable def WC(m:be)(k:Nat):Option Mth:=
 if m="join"/\k=1 then a_ .join else if m="startswith"/\k=2 then a_ .startswith else if m="get"/\k=2 then a_ .get else if m="upper"/\k=0 then a_ .upper else b_
set_option tactic.hygienic true in
def QQ{Y:Mth}{ap cp:xv}(Z:X.A.units+21<dc)(h:WC m es.length=a_ Y)(ho:SE X C o xo)(ha:SA X C es xs)(hlen:xs.length=es.length)(O:∀e,es=[e]->aQ [e] X.env=(d_,eval e X.env)::aQ [] X.env)(B:∀e e2,es=[e,e2]->aQ [e,e2] X.env=(d_,eval e X.env)::aQ [e2] X.env/\aQ [e2] X.env=[(d_,eval e2 X.env)])(hb:baseOk o=c_)(hl:(ap.endLine == cp.line)=c_) :
  SE X C (.Call (.Attribute o m ap) es [] cp) (.iF Y xo xs):=by
 have one:es.length=1->∃e a,es=[e]/\xs=[a]:=λq=>by
  match es,xs,hlen,q with
  |[e],[a],_,_=>exact⟨e,a,rfl,rfl⟩
 have nil:es.length=0->es=[]/\xs=[]:=λq=>by
  grind
 unfold WC at h;split at h
 .rename_i q;refine ac λ_ c=>?_;cases h;obtain⟨rfl,q⟩:=q;obtain⟨e,a,rfl,rfl⟩:=one q;refine c ?_;exact X5 PySem.F.slot_str_join PySem.F.type_str_join PZ (λ_ _ _ h=>let ⟨x,_,q,_⟩:=BI h;⟨x,q⟩) ho ha hb hl (O e rfl)
 split at h
 .rename_i q;cases h;obtain⟨rfl,q⟩:=q
  obtain⟨e,e2,a,b,rfl,rfl⟩:∃e e2 a b,es=[e,e2]/\xs=[a,b]:=by
   match es,xs,hlen,q with
   |[e,e2],[a,b],_,_=>exact⟨e,e2,a,b,rfl,rfl⟩
  exact X4 PySem.F.slot_str_startswith PySem.F.type_str_startswith w5 (λ_ _ _ h=>let ⟨x,_,_,q,_⟩:=pf h;⟨x,q⟩) ho ha hb hl (B e e2 rfl).1 (B e e2 rfl).2
 split at h
 .rename_i q;cases h;obtain⟨rfl,q⟩:=q
  obtain⟨e,e2,a,b,rfl,rfl⟩:∃e e2 a b,es=[e,e2]/\xs=[a,b]:=by
   match es,xs,hlen,q with
   |[e,e2],[a,b],_,_=>exact⟨e,e2,a,b,rfl,rfl⟩
  exact Uk (aq (qj Z) (by decide)) ho ha hb hl (B e e2 rfl).1 (B e e2 rfl).2
 split at h
 .rename_i q;cases h;obtain⟨rfl,q⟩:=q;obtain⟨rfl,rfl⟩:=nil q;exact X6 PySem.F.slot_str_upper PySem.F.type_str_upper Ly (λ_ _ _ h=>let ⟨x,q,_⟩:=yo h;⟨x,q⟩) ho hb hl
 .cases h
end
structure LO{α:Type}(lt:α->α->Bool):Prop where
 irr:∀x,lt x x=d_
 tr:∀x y z,lt x y=c_->lt y z=c_->lt x z=c_
 tot:∀x y,lt x y=d_->lt y x=d_->x=y
def LO.QZ (o:LO lt)(h:lt x y=c_):lt y x=d_:=by
 cases q:lt y x with
 |false=>rfl
 |true=>have:=o.tr _ _ _ h q;rw[o.irr]at this;cases this
def LO.YS (o:LO lt)(h:lt y x=d_)(h':lt z y=d_):lt z x=d_:=by
 cases q:lt z x with
 |false=>rfl
 |true=>
   cases r:lt y z with
   |true=>have:=o.tr _ _ _ r q;rw[h]at this;cases this
   |false=>have:=o.tot _ _ r h';subst this;rw[h]at q;cases q
def RY:LO wI:=⟨λx=>by simp[wI],λx y z h h'=>by
  simp only[wI,decide_eq_true_eq]at *
  exact List.lt_trans h h',λx y h h'=>by
  simp only[wI,decide_eq_false_iff_not]at *;have :=List.le_antisymm (List.not_lt.mp h') (List.not_lt.mp h);obtain⟨a⟩:=x
  simp_all⟩
section
variable{α:Type}
set_option tactic.hygienic true
theorem vJ(o:LO lt):∀{l:List α},z∈vP lt x l↔z=x\/z∈l
 |[]=>by simp[vP]
 |y::ys=>by
   unfold vP;split
   .rw[au]
   .rename_i h1;split
    .rw[au,vJ o,au];constructor
     .grind
     grind
    .rename_i h2;have:=o.tot x y (by simpa using h1) (by simpa using h2)
     simp_all
theorem jE(o:LO lt):∀{l:List α},z∈ip lt l↔z∈l
 |[]=>Nt
 |x::l=>by rw[ip,vJ o,jE o,au]
theorem FG(o:LO lt):∀{l:List α},l.Pairwise (λa b=>lt a b=c_)->(vP lt x l).Pairwise (λa b=>lt a b=c_)
 |[],_=>by simp[vP]
 |y::ys,h=>by
   obtain⟨h1,h2⟩:=cH.mp h;unfold vP;split
   .rename_i q;refine cH.mpr ⟨λz c=>?_,h⟩
    rcases au.mp c with rfl|c
    .exact q
    .exact o.tr _ _ _ q (h1 z c)
   .split
    .rename_i q;refine cH.mpr ⟨λz c=>?_,FG o h2⟩
     rcases(vJ o).mp c with rfl|c
     .exact q
     .exact h1 z c
    .exact h
theorem jR(o:LO lt):∀(l:List α),(ip lt l).Pairwise (λa b=>lt a b=c_)
 |[]=>.nil
 |x::l=>FG o (jR o l)
def nD(o:LO lt){l:List α}(h:l.Pairwise (λa b=>lt a b=c_)):l.Nodup:=h.imp λq e=>by subst e;rw[o.irr]at q;cases q
theorem sJ:∀{l:List α},(xj lt x l).Perm (x::l)
 |[]=>.refl _
 |y::ys=>by
   unfold xj;split
   .exact(sJ.cons y).trans (.swap _ _ _)
   .exact .refl _
theorem lQ:∀(l:List α),(oB lt l).Perm l
 |[]=>.refl _
 |x::l=>sJ.trans ((lQ l).cons x)
theorem FF(o:LO lt):∀{l:List α},l.Pairwise (λa b=>lt b a=d_)->(xj lt x l).Pairwise (λa b=>lt b a=d_)
 |[],_=>by simp[xj]
 |y::ys,h=>by
   obtain⟨h1,h2⟩:=cH.mp h;unfold xj;split
   .rename_i q;refine cH.mpr ⟨λz c=>?_,FF o h2⟩
    rcases au.mp (sJ.mem_iff.mp c)with rfl|c
    .exact o.QZ q
    .exact h1 z c
   .rename_i q;have d:lt y x=d_:=by simpa using q
    refine cH.mpr ⟨λz c=>?_,h⟩
    rcases au.mp c with rfl|c
    .exact d
    .exact o.YS d (h1 z c)
set_option tactic.hygienic false
theorem Be(o:LO lt):∀(l:List α),(oB lt l).Pairwise (λa b=>lt b a=d_)
 |[]=>.nil
 |x::l=>FF o (Be o l)
def JM(o:LO lt){r:List α}(hp:r.Perm l)(hs:r.Pairwise (λa b=>lt b a=d_)):r=oB lt l:=
 mm (λa b _ _ h h'=>o.tot _ _ h' h) hs (Be o l) (hp.trans (lQ l).symm)
end
theorem Kz:∀{l:List be}{p:be},risingS p l=c_->(p::l).Pairwise (λa b=>wI b a=d_)
 |[],p,_=>by simp
 |x::r,p,h=>by
   simp only[risingS,aj,nj]at h;obtain⟨h1,h2⟩:=h;rw[ltCps_eq]at h1;have c :=h1;have e:=Kz h2;refine cH.mpr ⟨λz d=>?_,e⟩
   rcases au.mp d with rfl|d
   .exact c
   .exact RY.YS c ((cH.mp e).1 z d)
def TF(h:sortedS l=c_):l.Pairwise (λa b=>wI b a=d_):=by
 cases l with
 |nil=>exact .nil
 |cons x r=>exact Kz h
section
variable{X:Cx}
def Fe{h':cM}{out:List ah}(I:Inv X h_ σ H s)(ex:∀b o,s.heap.get? b=a_ o->h'.get? b=a_ o)(hl:s.heap.objs.size<=l)(g:h'.get? l=a_ (seqObj "list" out.toArray e))(w:c7 vs out)(B:vs.length<=aB) :
  Inv X h_ σ (upd H l (.lst vs)) { s with heap:=h',drawn:=d,toks:=tk }:=by
 have a:Inv X h_ σ (upd H l (.lst vs)) { s with heap:=h',toks:=tk }:=I.laid ex hl ⟨B,out,e,w,g⟩;exact⟨a.ok,a.os,a.bare,a.base,a.loc,a.cell,a.free,a.freeC,a.pin,a.hok,a.len⟩
def HL(h:ItemsOf (SignAt x) acc x.cps.size):qi acc.toList (eV x):=by
 obtain⟨h1,h2⟩:=h
 have e:acc.toList.map strOf=eV x:=by
  apply jj
  .simp[eV,h1]
  .intro n a b;have ha:n<acc.size:=by simpa using a
   obtain⟨c,u,d,f⟩:=h2 n acc[n] (aY ha);simp only[uu,pV,eV];rw[f];have hb:n<x.cps.size:=by rw[<-h1];exact ha
   rw[aY hb]at d;cases d;rfl
 rw[<-e];refine strsAre_map _ λv g=>?_;obtain⟨n,i,rfl⟩:=cV.mp g;obtain⟨c,u,d,f⟩:=h2 n acc[n] (aY (by simpa using i));exact⟨_,u,by simpa using f⟩
def MP{A:bX}{x:be}(hh:A.handled=b_)(B:x.cps.size<=aB):EO prog w A s (.str x tx) (λvs=>∃ss',qi vs ss'/\ss'.Perm (eV x)):=by
 intro c d Q' e k;exact Ci (e.trans hh) B λh1 b a ex sz it=>k a.toList h1 s.drawn b ex sz ⟨_,HL it,.refl _⟩
def B1{Q:VK}{F:Hp}{d:Dat}{fr:Bool}{l:aI}{is:List be}(g:Good F H)(B:H l=b_)(k:∀w F' H',Step F H F' H'->Rep X.K F' (.lst (is.map .str)) w->(c_=c_->gf X.K H H' (.lst (is.map .str)) w)->Q w H'):Q (.ref l) (upd H l (.lst (is.map V.str))):=
 k _ _ _ (Step.alloc g B) ⟨l,_,rfl,.inl (.inl cO),rpS is⟩ λ_=>.lst (cj.refl _) B (.kT g (Y6 is) (rpS is))
def Dr(h:n<64):n<=aB:=by exact aD (aa h br)
def XY{js:List be}(I:Inv X h_ σ H s)(O:js.length<64)(hc:EO X.prog X.w X.A s v (λvs=>∃B,qi vs B/\B.Perm is))(he:∀r:List be,r.Perm is->r.Pairwise (λa b=>wI b a=d_)->r=js)(hi:is.length=js.length)
  (k:∀l,H l=b_->Q (.ref l) (upd H l (.lst (js.map V.str)))):aF (aG X.prog X.w) X.A (call (.builtin "sorted") [v]) (EP X h_ σ Q) E s:=by
 refine Kd (aq (ae hi) O) hc λh' d f l out B e ex hl g c i2 i3=>?_;obtain rfl:=he B i2 (TF i3);exact⟨.ref l,_,Fe I ex hl g (xR c) (by rw[aw];exact Dr O),rfl,k l (I.hok.fresh hl)⟩
end
def Bz:LO xg:=⟨og.ir,og.tr,λx y h h'=>by
 by_cases e:x=y
 .exact e
 .have:=og.co _ _ e h;simp_all⟩
theorem BB:∀{ds:List Dat}{q:List Key},BC ds=a_ q->q.all sK=c_->(q.map iK).map Dat.int=ds
 |[],_,h,_=>by cases h;rfl
 |d::ds,_,h,a=>by
   obtain⟨k,hk,h⟩:=c5 h;obtain⟨q,b,h⟩:=dY h;cases h;simp only[eh,aj]at a;rw[aA,aA,BB b a.2]
   cases d with
   |int i=>cases hk;rfl
   |str x=>cases hk;cases a.1
   |_=>cases hk
def QH(h:n2I d=a_ x)(h3:s2 x<3):QG (s2 x) (c2 x)=d:=by
 cases d with
 |int i=>cases h;rfl
 |str y=>
   cases h;show Dat.str ⟨((y.cps.toList.map fu).map uW).toArray⟩=_;rw[cv,show(uW ∘ fu)=id from rfl,List.map_id]
 |tup es=>
   obtain⟨q,a,h⟩:=dY h;cases h;simp only[s2]at h3 ⊢;by_cases c:q.all sK=c_
   .rw[if_pos c];show Dat.tup ((q.map iK).map .int)=_;rw[BB a c]
   simp_all
 |_=>cases h
theorem Ce:∀{ds:List Dat}{k:List N2},RT ds=a_ k->(∀n∈k.map s2,n<3)->tL QG (k.map s2) (k.map c2)=ds
 |[],_,h,_=>by cases h;rfl
 |d::ds,_,h,h3=>by
   obtain⟨x,a,h⟩:=c5 h;obtain⟨q,b,h⟩:=dY h;cases h;rw[aA,aA,CL,QH a (h3 _ jy),Ce b λy c=>h3 y (ki _ c)]
theorem F7:∀{ds:List Dat}{q:List N2},RT ds=a_ q->q.all sI=c_->(q.map Xk).map Dat.int=ds
 |[],_,h,_=>by cases h;rfl
 |d::ds,_,h,a=>by
   obtain⟨k,hk,h⟩:=c5 h;obtain⟨q,b,h⟩:=dY h;cases h;simp only[eh,aj]at a;rw[aA,aA,F7 b a.2]
   cases d with
   |int i=>cases hk;rfl
   |str x=>cases hk;cases a.1
   |tup es=>
     obtain⟨e,c,hk⟩:=dY hk;cases hk;cases a.1
   |_=>cases hk
def QF(h:nkI d=a_ x)(h3:Bl (sN x)=c_):Wo (sN x) (cN x)=d:=by
 cases d with
 |int i=>cases h;rfl
 |str y=>
   cases h;show Dat.str ⟨((y.cps.toList.map fu).map uW).toArray⟩=_;rw[cv,show(uW ∘ fu)=id from rfl,List.map_id]
 |tup es=>
   obtain⟨q,a,h⟩:=dY h;cases h;simp only[sN,cN]at h3 ⊢;by_cases c:q.all sI=c_
   .rw[if_pos c,if_pos c];show Dat.tup ((q.map Xk).map .int)=_;rw[F7 a c]
   .rw[if_neg c]at h3;rw[if_neg c,if_neg c];show Dat.tup _=_;rw[Ce a (Lh h3)]
 |_=>cases h
theorem GR:∀{ds:List Dat}{k:List NK},Xg ds=a_ k->(∀x∈k,Bl (sN x)=c_)->tL Wo (k.map sN) (k.map cN)=ds
 |[],_,h,_=>by cases h;rfl
 |d::ds,_,h,h3=>by
   obtain⟨x,a,h⟩:=c5 h;obtain⟨q,b,h⟩:=dY h;cases h;rw[aA,aA,CL,QF a (h3 x jy),GR b λy c=>h3 y (ki _ c)]
def GS(h:DN d=a_ k)(h3:∀x∈k,Bl (sN x)=c_):Eu (k.map sN) (codeN k)=d:=by
 cases d with
 |tup ds=>show Dat.tup _=_;rw[GR h h3]
 |_=>cases h
theorem vG:∀{ds:List Dat}{kk:List (List NK)},wY ds=a_ kk->kk.length=ds.length/\∀i,i<ds.length->DN (ds.getD i .non)=a_ (kk.getD i [])
 |[],_,h=>by cases h;exact⟨rfl,λi hi=>by cases hi⟩
 |d::ds,_,h=>by
   obtain⟨x,b,h⟩:=c5 h;obtain⟨q,c,h⟩:=dY h;cases h;refine⟨by simp[(vG c).1],λi hi=>?_⟩
   cases i with
   |zero=>exact b
   |succ i=>simpa using (vG c).2 i (by simpa using hi)
theorem Gm:∀{ds:List Dat}{q:List Key},BC ds=a_ q->kC ds=c_
 |[],_,_=>rfl
 |d::ds,_,h=>by
   obtain⟨k,hk,h⟩:=c5 h;obtain⟨q,a,_⟩:=dY h;cases d<;>first|(cases hk;done)|simp[kC,im,(Gm a)]
theorem Lr:∀{ds:List Dat}{q:List N2},RT ds=a_ q->kC ds=c_
 |[],_,_=>rfl
 |d::ds,_,h=>by
   obtain⟨k,hk,h⟩:=c5 h;obtain⟨q,b,_⟩:=dY h;have:=Lr b
   cases d with
   |tup es=>
     obtain⟨c,a,_⟩:=dY hk;simp[kC,im,this,Gm a]
   |int _=>simp[kC,im,this]
   |str _=>simp[kC,im,this]
   |_=>cases hk
theorem Lq:∀{ds:List Dat}{q:List NK},Xg ds=a_ q->kC ds=c_
 |[],_,_=>rfl
 |d::ds,_,h=>by
   obtain⟨k,hk,h⟩:=c5 h;obtain⟨q,b,_⟩:=dY h;have:=Lq b
   cases d with
   |tup es=>
     obtain⟨c,a,_⟩:=dY hk;simp[kC,im,this,Lr a]
   |int _=>simp[kC,im,this]
   |str _=>simp[kC,im,this]
   |_=>cases hk
def Vi(h:DN d=a_ q):im d=c_:=by
 cases d with
 |tup es=>simp[im,Lq h]
 |_=>cases h
theorem A9{K:Fg}(r:c9 K F ds vs):∀{js:List Nat},(∀j∈js,j<ds.length)->c9 K F (js.map λj=>ds.getD j .non) (js.map λj=>vs.getD j .non)
 |[],_=>rfl
 |j::js,h=>by
   have a:=h j jy;obtain⟨v,e,q⟩:=r.get (af a);refine⟨vs.getD j .non,_,rfl,?_,A9 r λi hi=>h i (ki _ hi)⟩
   simp_all
def AY{kk:List (List NK)}(hsh:∀j,j<kk.length->(kk.getD j []).map sN=Jw kk)(h3:∀x∈Jw kk,Bl x=c_)(sl:Sel (λi=>kk.getD i []) kk.length js) :
  (js.map λj=>codeN (kk.getD j [])).Perm (ip xg (kk.map codeN)):=by
 have d:∀j,j<kk.length->∀k∈kk.getD j [],Bl (sN k)=c_:=λj c k hk=>h3 _ (by rw[<-hsh j c];exact cP hk)
 have g:(js.map λj=>codeN (kk.getD j [])).Nodup:=by
  have:=fG.mp sl.nd;exact fG.mpr (iV (λ{a b}f mb h e=>h (code_inj ((hsh _ (sl.lt a f)).trans (hsh _ (sl.lt b mb)).symm) (d _ (sl.lt a f)) e)) this)
 rw[fR g (nD Bz (jR Bz _))];intro z;rw[jE Bz,bQ,bQ];constructor
 .rintro⟨j,c,rfl⟩;have:=sl.lt j c;exact⟨kk.getD j [],by simp_all,rfl⟩
 .rintro⟨k,hk,rfl⟩;obtain⟨i,hi,rfl⟩:=cV.mp hk;obtain⟨j,c,e⟩:=bQ.mp (sl.all i hi);refine⟨j,c,?_⟩
  simp_all
noncomputable def adr:V->aI
 |.ref a=>a
 |_=>0
theorem AH{B:Nat->aI}:∀(js:List Nat),c7 (js.map λj=>V.ref (B j)) (js.map λj=>dt (B j))
 |[]=>.nil
 |j::js=>.cons rfl (AH js)
section
def abj{h:cM}(hl:h.IsList l items):He prog w h (.ref l) items.size (λi v=>items[i]?=a_ v):=by
 intro d f s1 Q1 sz ex k;have a :=hl.at λo e=>ex l o e;have lt:l<h.objs.size:=by obtain⟨o,e,_⟩:=hl;exact hl9 e
 have ne :=bw (cY lt sz);refine wK a (k _ [s1.heap.objs.size,l] _ (λg c=>Walks.list c _ l ne items) (λb hb=>?_) ⟨⟨_,aK _ rfl,rfl,rfl⟩,a.push _⟩)
 rcases au.mp hb with z|z
 .exact .inl z
 .exact .inr (by simp_all)
end
section
variable{X:Cx}{vs:List V}{kk:List (List NK)}
abbrev avN(vs:List V)(j:Nat):aI:=adr (vs.getD j .non)
abbrev YY(kk:List (List NK))(j:Nat):List NK:=kk.getD j []
def lS(r:c9 X.K F ds vs)(hk:wY ds=a_ kk){j:Nat}(B:j<kk.length):vs.getD j .non=.ref (avN vs j)/\NKy X.K F (YY kk j) (avN vs j):=by
 have b:j<ds.length:=aa B (ae (vG hk).1);obtain⟨v,e,q⟩:=r.get (af b);have d:=(vG hk).2 j b;rw[show ds.getD j Dat.non=ds[j] by simp[b]]at d;obtain⟨a,rfl,g⟩:=zt d q;unfold avN;rw[show vs.getD j V.non=.ref a by simp[e]];exact⟨rfl,g⟩
theorem Gv(hk:wY ds=a_ kk):∀js:List Nat,(∀j∈js,j<kk.length)->kC (js.map λj=>ds.getD j Dat.non)=c_
 |[],_=>rfl
 |j::js,h=>by
   obtain⟨b,a⟩:=vG hk;simp only[aA,kC,aj];exact⟨Vi (a j (aa (h j jy) (ae b))),Gv hk js λi hi=>h i (ki _ hi)⟩
def AU(o:Lf kk)(B:j<kk.length):(YY kk j).map sN=Jw kk:=by
 simpa using (bF.mp o.2.2.1 (kk.getD j []) (by simp_all))
def Ot(room:X.A.units+8<dc)(I:Inv X h_ σ H s)(g:Good F H)(r:c9 X.K F ds vs)(hk:wY ds=a_ kk)(o:Lf kk)(hl:kk.length<=300)
  (hc:EO X.prog X.w X.A s v (λus=>∃js,us=js.map (λj=>dt (avN vs j))/\Sel (YY kk) kk.length js))
  (k:∀w F' H',Step F H F' H'->Rep X.K F' (.lst ((ip xg (kk.map codeN)).map (Eu (Jw kk)))) w->(c_=c_->gf X.K H H' (.lst ((ip xg (kk.map codeN)).map (Eu (Jw kk)))) w)->Q w H') :
  aF (aG X.prog X.w) X.A (call (.builtin "sorted") [v]) (EP X h_ σ Q) X.xe s:=by
 obtain⟨y,l⟩:=vG hk;obtain⟨b,hb⟩:=jv.mp o.1;have h3 :=λx D=>bF.mp o.2.1 x D;have m:∀j,j<kk.length->∀k∈YY kk j,Bl (sN k)=c_:=λj c k hk=>h3 _ (by rw[<-AU o c];exact cP hk)
 have E:∀js,Sel (YY kk) kk.length js->js.length=(ip xg (kk.map codeN)).length:=λjs sl=>by
  have:=(AY (λj c=>AU o c) h3 sl).length_eq
  rwa [aw]at this
 refine sorted_N (by exact gm room) (λj c=>vF I g (lS r hk c).2) (λj c=>AU o c) h3 hb
  (λG J Q' e k'=>hc G J Q' e λn h1 d1 p x1 L z=>k' n h1 d1 p x1 L (by obtain⟨js,M,B⟩:=z;exact⟨js,M,B,by rw[E js B];exact o.2.2.2⟩)) λN d3 O t js e3 u i P sl pw=>?_
 have d :=I.hok.fresh i;refine⟨.ref t,_,Fe I u i P (AH js) (by rw[aw];exact aa sl.len (aa hl br)),rfl,?_⟩
 have S:(ip xg (kk.map codeN)).map (Eu (Jw kk))=js.map λj=>ds.getD j .non:=by
  rw[((mm (λa b _ _ h h'=>Bz.tot _ _ h' h) (pw.imp λq=>Bz.QZ q) ((jR Bz _).imp λq=>Bz.QZ q) (AY (λj c=>AU o c) h3 sl)).symm),cv];refine cQ λj c=>?_;have f:=sl.lt j c;rw[<-AU o f];exact GS (l j (aa f (ae y))) (m j f)
 have C:=A9 r λj c=>(aa (sl.lt j c) (ae y))
 rw[(cQ λj c=>(lS r hk (sl.lt j c)).1.symm)];rw[S]at k;exact k (.ref t) _ _ (Step.alloc g d) ⟨t,_,rfl,.inl (.inl cO),C.mono (cj.upd (g.sub.free d))⟩ λ_=>.lst (cj.refl _) d (.kT g (Gv hk js sl.lt) C)
set_option tactic.hygienic true in
def J8(hh:X.A.handled=b_)(room:X.A.units+8<dc)(I:Inv X h_ σ H s)(g:Good F H)(t:nM X.K F l vs)(r:c9 X.K F ds vs)
  (hk:wY ds=a_ kk)(h2:xW kk=a_ (d,fr))(k:∀w F' H',Step F H F' H'->Rep X.K F' d w->(fr=c_->gf X.K H H' d w)->Q w H')
  (fin:∀S s2,aF (aG X.prog X.w) X.A (call (.builtin "sorted") [.ref S]) (EP X h_ σ Q) X.xe s2->Q1 (.ref S) s2):aF (aG X.prog X.w) X.A (call (.type "set") [.ref l]) Q1 E s:=by
 unfold xW at h2;split at h2
 .rename_i hb;cases h2;obtain⟨its,p,pl,N⟩:=I.lstR g t;obtain⟨c,C⟩:=vG hk;have f:=r.length;have il:its.length=kk.length:=by have:=p.length;exact aC (pY (ae this.symm) (ae f) (ae c.symm)) (pY (ae c) (ae f.symm) (ae this))
  have h:∀s2:ak,(∀b o,s.heap.get? b=a_ o->s2.heap.get? b=a_ o)->s2.TypeIs (.ref l) "list":=λs2 ex=>by
   obtain⟨o,e1,e2,_⟩:=pl.isList;exact⟨o,ex _ _ e1,e2⟩
  have hsz:its.toArray.size=kk.length:=by simp_all
  have a:=abj (prog:=X.prog) (w:=X.w) pl.isList;rw[hsz]at a;refine HN hh h PySem.F.sub_list_set PySem.F.sub_list_frozenset br a (λi v x=>?_) (λj D=>vF I g (lS r hk D).2) hb.1 (by exact aD (aD (aD room))) λh' O y ex=>fin _ _ ?_
  .have hi:i<kk.length:=by
    have:i<its.toArray.size:=by rcases bW.mp x with⟨q,_⟩;exact q
    simp_all
   obtain⟨u,G,B⟩:=p.get (af ((aa hi (aa (ae c) (ae f.symm)))));have e1:its[i]?=a_ v:=by simpa using x
   rw[G]at e1;cases e1;have:=(lS r hk hi).1;rw[show vs.getD i V.non=vs[i]'(aa hi (aa (ae c) (ae f.symm))) by simp[show i<vs.length from (Nat.le_trans hi (Nat.le_trans (Nat.le_of_eq c) (Nat.le_of_eq f.symm)))]]at this;rw[this]at B;exact B
  .exact Ot room (I.kept ex) g r hk hb.2 hb.1 (λJ L Q' e k'=>IZ hh y hb.1 J L Q' e λm h1 d1 n x1 M z=>k' m h1 d1 n x1 M z) k
 .cases h2
end
section
variable{X:Cx}
set_option tactic.hygienic true in
def zW(O:X.A.units+21<dc)(B:X.calm=c_):kj X (.builtin "sorted") (gL X.K (gZ .sorted)):=λh_ s σ H xs us Q I r h=>by
 refine ac λ_ i=>?_;obtain⟨da,d,fr,F,v,h1,rfl,g,e,k⟩:=tv pv h;obtain⟨u,rfl,f⟩:=vals1 r
 refine i ?_;cases da with
 |str x=>
   cases e;obtain⟨tx,rfl⟩:=f;simp only[gZ,b1,WR,Ff]at h1;split at h1
   .rename_i a;cases h1;have c:(oB wI (eV x)).length=(eV x).length:=(lQ _).length_eq;have hsz:(eV x).length=x.cps.size:=by simp[eV]
    refine XY I (aq (ae c) a) (MP (I.ok.hd B) (by exact aD (aa (aq (ae hsz.symm) a) br))) (λr hp hs=>JM RY hp hs) c.symm λl b=>B1 (fr:=c_) (d:=.non) g b k
   .cases h1
 |_=>simp only[gZ,b1,WR]at h1;cases h1
end
noncomputable def kS:Key->be
 |.inl _=>""
 |.inr x=>x
theorem E7:∀{vs:List ah}{ks:List Key},iC (λv k=>tS k v=c_) vs ks->(∀k∈ks,∃i,k=ba i)->qi vs (ks.map kS)
 |_,_,.nil,_=>.nil
 |_,_,.cons p q,h=>by
   obtain⟨i,rfl⟩:=h _ (.head _)
   rcases c6 p with⟨j,t,e,_⟩|⟨x,t,e,rfl⟩
   .cases e
   .cases e;exact .cons _ _ (E7 q λk hk=>h k (.tail _ hk))
theorem vx{α β γ:Type}{R:β->γ->Prop}{f:α->β}:∀{l:List α}{ks:List γ},iC (λa c=>R (f a) c) l ks->iC R (l.map f) ks
 |_,_,.nil=>.nil
 |_,_,.cons p q=>.cons p (vx q)
def Lm{ks:List Key}(h:ks.Nodup)(ha:∀k∈ks,∃i,k=ba i):(ks.map kS).Nodup:=by
 unfold List.Nodup at *;rw[fG];refine iV ?_ h;intro a b d mb c e;obtain⟨i,rfl⟩:=ha a d;obtain⟨j,rfl⟩:=ha b mb;exact c (by simp only[kS]at e;rw[e])
section
variable{A:bX}{s:ak}
def IY{is:List be}(hh:A.handled=b_)(y:oo (cz prog w) (oJ w) s.heap S n (λq=>∃j,j<is.length/\ba (is.getD j "")=q))(O:n<=4000) :
  EO prog w A s (.ref S) (λvs=>∃B,qi vs B/\B.Perm (ip wI is)):=by
 refine ac λ_ E=>?_;obtain⟨es,ep,t,ks,g,u,c,h,l,b⟩:=y;refine E ?_;have len:=lR c;intro x C Q' e k;refine t6 (e.trans hh) g (by rw[iP];exact pY (ae len) l O) λh1 d m vs ex sz pm=>k vs h1 d m ex sz ?_;obtain⟨o,p,f⟩:=mK pm (vx (R:=λv k=>tS k v=c_) c)
 have ha:∀k∈ks,∃i,k=ba i:=λk hk=>by
  obtain⟨j,_,e⟩:=(b k).mp hk;exact⟨_,e.symm⟩
 refine⟨_,E7 p λk hk=>ha k (f.mem_iff.mp hk),(f.map kS).trans ?_⟩;rw[fR (Lm h ha) (nD RY (jR RY is))];intro z;rw[jE RY,bQ];constructor
 .rintro⟨q,hq,rfl⟩;obtain⟨j,a,e⟩:=(b q).mp hq;subst e;simp only[kS,mI,af a,tK];exact bA a
 .intro r;obtain⟨j,a,rfl⟩:=cV.mp r;refine⟨ba is[j],(b _).mpr ⟨j,a,?_⟩,rfl⟩;simp only[mI,af a,tK]
def abi:He prog w h (.str x tx) x.cps.size (SignAt x):=by
 intro a c s1 Q1 sz ex k;refine wpAny_pyIter_str λo St W st=>k o [s1.heap.objs.size] St W (λb hb=>.inl (aE.mp hb)) st
def Dm:isSubtype (.type "str") (.type "set")=pure d_:=by kernel_rfl
def Dn:isSubtype (.type "str") (.type "frozenset")=pure d_:=by kernel_rfl
end
section
variable{X:Cx}
set_option tactic.hygienic true in
def OH(Z:X.A.units+21<dc)(B:X.calm=c_)(hg:Gl X "sorted")(hm:X.mg "sorted"=b_)(O:Gl X "set")(Y:X.mg "set"=b_)(ha:SE X C a xa)
  (hs:aQ [a] X.env=[(d_,eval a X.env)]) :
  SE X C (.Call (.Name "sorted" p) [.Call (.Name "set" p2) [a] [] pos2] [] pos) (.blt .sset [xa]):=by
 intro h_ s σ H Q I h;refine ac λ_ M=>?_;obtain⟨ρ,d,fr,h,F,g,R,k⟩:=h;obtain⟨ds,h1,h2⟩:=c5 h;obtain⟨⟨da,fa⟩,h3,h1⟩:=c5 h1;cases h1;refine M ?_;refine fB (lW I hg hm (by decide +kernel:bootBuiltins "sorted"=a_ (.builtin "sorted")) (p3 ?_ rfl rfl));show aF _ _ (spliced ((d_,eval (.Call (.Name "set" p2) [a] [] pos2) X.env)::backTo pos [])) _ _ s;refine Hr ?_;refine fB (lW I O Y (by decide +kernel:bootBuiltins "set"=a_ (.type "set")) (dz ?_ (by rw[hs];rfl) rfl));refine iR ((jQ ha o6 (by rw[hs];rfl)) pos2 h_ s σ H (λvs J=>∃F1,Step F H F1 J/\c9 X.K F1 [da] vs) I ⟨ρ,[da],(by simp_all),F,g,R,λvs F1 J m P=>⟨F1,m,P⟩⟩) λus s1 ⟨vs,J,V,rv,F1,m,P⟩=>?_;have hh:=I.ok.hd B;obtain⟨v,w,rfl,D,e⟩:=P;cases e;obtain⟨u,rfl,W⟩:=vals1 rv
 have E:∀{is:List be} {n:Nat} {h':cM} {L:Nat} {S:aI},(d,fr)=(Dat.lst ((ip wI is).map .str),c_)->(ip wI is).length<64->(∀b o,s1.heap.get? b=a_ o->h'.get? b=a_ o)->n<=4000->
   oo (cz X.prog X.w) (oJ X.w) h' S n (λq=>∃j,j<is.length/\ba (is.getD j "")=q)->
   aF (aG X.prog X.w) X.A (call (.builtin "sorted") [.ref S]) (EP X h_ σ Q) X.xe { s1 with heap:=h',toks:=L }:=by
  intro is n h' L S e T ex hn y;cases e;exact XY (V.kept ex) T (IY hh y hn) (λr hp hs=>mm (λa b _ _ h h'=>RY.tot _ _ h' h) hs ((jR RY is).imp λq=>RY.QZ q) hp) rfl
   λl U=>B1 (fr:=c_) (d:=.non) m.good U λw F' H' st r f=>k w F' H' (m.trans st) r λz=>gf.back (F:=F1) m.hh (f z)
 cases da with
 |lst ds=>
   obtain⟨l,vs,rfl,t,r'⟩:=D;cases W;obtain⟨kk,G,q2⟩:=c5 h2;exact J8 hh (gm Z) V m.good t r' G q2 (λw F' H' st r f=>k w F' H' (m.trans st) r λz=>gf.back (F:=F1) m.hh (f z)) λS s2 q=>sx q
 |str x=>
   refine ac λ_ M=>?_;cases D;obtain⟨tx,rfl⟩:=W;refine M ?_;simp only[gZ,b1,WR,Fd]at h2;have hl:(eV x).length=x.cps.size:=by simp[eV]
   split at h2
   .rename_i hb;refine Km (knd:=cz X.prog X.w) hh (λs2 _=>rfl) Dm Dn br abi (λi=>ba ((eV x).getD i "")) (λi v hv=>?_) (by unfold yO;exact jJ (ae hl.symm) hb.1) λh' L y ex=>?_
    .obtain⟨c,u,G,rfl⟩:=hv
     have e:(eV x).getD i ""=⟨#[c]⟩:=by
      have hi:i<x.cps.size:=by rcases bW.mp G with⟨q,_⟩;exact q
      rw[aY hi]at G;cases G;simp[eV,hi]
     rw[e];exact⟨yj _ u,rfl⟩
    .refine sx ?_;rw[<-hl]at y;exact E (bG h2).symm hb.2 ex (aD hb.1) y
   .cases h2
 |_=>simp only[gZ,b1,WR]at h2;cases h2
end
noncomputable def posK(k:Key):List Key->Option Nat
 |[]=>b_
 |j::ks=>if j=k then a_ 0 else(posK k ks).map (·+ 1)
def Vm(op:JB)(B:Dat)(ds:List Dat):Dat->Option Dat
 |.dct ks ws=>(pZ B).bind λk=>(posK k ks).bind λj=>(ws[j]?).bind λe=>(jx op e ds).map λa=>.dct ks (ws.set j a)
 |_=>b_
def YL(op:JB)(i:Nat)(ρ:dG)(B:Dat)(ds:List Dat):g_->Option Out
 |some (d,c_)=>(Vm op B ds d).map λd'=>.nx (ρ.set i (a_ (d',c_)))
 |_=>b_
def Sx.Xh(op:JB)(i:Nat)(ke:Ex)(es:List Ex):Sx:={ ex:=λC ρ=>(bp C ke (full ρ)).bind λy=>(oK C es (full ρ)).bind λx=>if x.2=c_ then YL op i ρ y.1 x.1 (ρ[i]?).join else b_ }
theorem FJ:∀{k_:List (Key×V)}{j:Nat}{v:V},posK k (k_.map (·.1))=a_ j->(k_.map (·.2))[j]?=a_ v->lM k_ k=a_ v
 |[],_,_,h,_=>by cases h
 |p::r,j,v,h,e=>by
   simp only[aA,posK]at h;by_cases q:p.1=k
   .rw[if_pos q]at h;cases h;cases e;simp[lM,q]
   .rw[if_neg q]at h;obtain⟨j',h1,rfl⟩:=dY h;have:=FJ h1 e;unfold lM at this ⊢;rw[List.find?_cons_of_neg (by simpa using q)];exact this
section
variable{X:Cx}{K:Fg}
def Yj:R2:=λx y H Q=>∃a k_ k w,x=.ref a/\y=kV k/\H a=a_ (.dK k_)/\lM k_ k=a_ w/\Q w H
def VW(B:X.A.units+1<dc):W1 X Yj:=by
 intro value slice h_ s σ H x y v u Q I b c h hs;refine ac λ_ i=>?_;obtain⟨a,k_,k,w,rfl,rfl,d,e,q⟩:=h;cases b;refine i ?_;have dg:qC H a (kV k) (a_ w):=by rw[<-e];exact qC.k d
 exact NQ (tZ I dg) wx.lookup (yB B I dg c λg s' I' f=>⟨w,H,I',f,q⟩) hs
def df.at (o:df K H ds vs S)(hk:ds[k]?=a_ e) :
  ∃v B O Y,vs[k]?=a_ v/\my K H e v O/\S=B++(O++Y)/\df K H (ds.take k) (vs.take k) B/\df K H (ds.drop (k+1)) (vs.drop (k+1)) Y/\vs=vs.take k++v::vs.drop (k+1):=by
 obtain⟨B,i,d,c,rfl⟩:=o.take k;have a :=(aR.mp hk).1
 have hd:ds.drop k=e::ds.drop (k+1):=by
  rw[e8 a]
  simp_all
 rw[hd]at c;refine ac λ_ h=>?_;obtain⟨v,r,O,Y,e1,f,g,rfl⟩:=c;refine h ?_;have b:k<vs.length:=by rw[o.length];exact a
 rw[(e8 b)]at e1;refine ac λ_ h=>?_;obtain⟨rfl,rfl⟩:=eL e1;refine h ?_;exact⟨_,B,O,Y,af b,f,rfl,d,g,by simp⟩
structure Chg(K:Fg)(H:Hp)(op:JB)(p l:aI)(d':Dat)(ws:List V)(S T:List aI)(ob':HO)(S':List aI):Prop where
 own:my K (upd H l ob') d' (.ref p) S'
 nd:S'.Nodup
 sub:∀a∈S',a∈S\/a∈T
def PY{ws:List Dat}{T:List aI}(h1:op≠.ext)(h2:op≠.dput)(h0:op≠.seti)(B:cj H H')(Z:ws[j]?=a_ e)(O:jx op e ds=a_ e')(o:my K H (.dct ks ws) v S)(nd:S.Nodup)
  (a:df K H' ds us T)(nt:T.Nodup)(dj:∀a∈S,a∉T):∃p k_ l xs Y ob' S',v=.ref p/\H p=a_ (.dK k_)/\k_.map (·.1)=ks/\(k_.map (·.2))[j]?=a_ (.ref l)/\H l=a_ (.lst xs)/\l∈S/\H' l=a_ Y/\Am op Y us=a_ ob'/\Jj ob'/\Chg K H' op p l (.dct ks (ws.set j e')) us S T ob' S':=by
 refine ac λ_ q=>?_;obtain⟨p,k_,P,rfl,hp,rfl,os,rfl⟩:=o;obtain⟨D,i,A,k,E,C,F,G,I,J⟩:=os.at Z;subst F
 have n:∃l xs,D=.ref l/\H l=a_ (.lst xs):=by
  cases e with
  |lst ls=>obtain⟨l,xs,S',rfl,hl,_⟩:=id C;exact⟨l,xs,rfl,hl⟩
  |dct ks ws=>cases op<;>first|exact absurd rfl h1|exact absurd rfl h2|exact absurd rfl h0|cases O
  |_=>cases op<;>cases O
 obtain⟨l,xs,rfl,hl⟩:=n;have c:=aX.mp nd;have r:=ja c.2;have s:=ja r.2.1
 have d:∀a,a∈i\/a∈A\/a∈k->a∈p::(i++(A++k)):=λa m=>ki _ (by
  rcases m with m|m|m
  .exact az _ m
  .exact ai _ (az _ m)
  .exact ai _ (ai _ m))
 obtain⟨Q,Y,ob',S',ev,b,f,g,L,M,t,u⟩:=uC h1 h2 O (C.mono B) s.1 a nt λa m=>dj a (d a (.inr (.inl m)));cases ev
 refine q ?_;have h:∀us,H' l≠a_ (.tup us):=λus z=>by rw[f]at z;cases z;cases op<;>first|exact absurd rfl h1|exact absurd rfl h2|cases g
 have w :=λm=>r.2.2 l m (az _ b);have x :=λm=>s.2.2 l b m;have y:p≠l:=λz=>c.1 (z▸ai _ (az _ b));refine⟨p,k_,l,xs,Y,ob',p::(i++(S'++k)),rfl,hp,rfl,E,hl,d l (.inr (.inl b)),f,g,L,⟨p,k_,i++(S'++k),rfl,(cZ y).trans (B _ _ hp),rfl,?_,rfl⟩,?_,λa m=>?_⟩
 .have N:ws.set j e'=ws.take j++([e']++ws.drop (j+1)):=by
   rw[jY,if_pos (aR.mp Z).1];rfl
  rw[N];exact J.symm▸(((G.mono B).upd h _ w).append ((df.one M).append ((I.mono B).upd h _ x)))
 .refine aX.mpr ⟨λm=>?_,gR r.1 (gR t s.2.1 λa m m3=>?_) λa m m2=>?_⟩
  .rcases ax.mp m with m|m
   .exact c.1 (az _ m)
   .rcases ax.mp m with m|m
    .rcases u p m with z|z
     .exact c.1 (ai _ (az _ z))
     .exact dj p jy z
    .exact c.1 (ai _ (ai _ m))
  .grind
  grind
 grind
def Lx(h:oE C (.Xh op i ke es) ρ=a_ out) :
  ∃B Y k ds ks ws j e O,bp C ke (full ρ)=a_ (B,Y)/\pZ B=a_ k/\oK C es (full ρ)=a_ (ds,c_)/\ρ[i]?=a_ (a_ (.dct ks ws,c_))/\posK k ks=a_ j/\ws[j]?=a_ e/\jx op e ds=a_ O/\out=.nx (ρ.set i (a_ (.dct ks (ws.set j O),c_))):=by
 refine ac λ_ m=>?_;obtain⟨⟨B,Y⟩,hk,h⟩:=c5 h;obtain⟨⟨ds,al⟩,h3,h⟩:=c5 h;refine m ?_;by_cases b:al=c_
 .subst b
  cases q:ρ[i]? with
  |none=>rw[q]at h;cases h
  |some z=>
    rw[q]at h
    match z,h with
    |some (d,c_),h=>
      obtain⟨d',a,h5⟩:=dY h
      cases d with
      |dct ks ws=>
        refine ac λ_ m=>?_;obtain⟨k,c,a⟩:=c5 a;obtain⟨j,f,a⟩:=c5 a;obtain⟨e,g,a⟩:=c5 a;obtain⟨O,l,rfl⟩:=dY a;refine m ?_;exact⟨B,Y,k,ds,ks,ws,j,e,O,hk,c,h3,rfl,f,g,l,h5.symm⟩
      |_=>cases a
 .rw[if_neg b]at h;cases h
def Lv(h1:op≠.ext)(h2:op≠.dput)(h0:op≠.seti){D:Ends}(h:gS K C (.Xh op i ke es) D σ H) :
  ∃p,σ[i]?=a_ (a_ (.ref p))/\gE K C ke σ H λZ B=>∃k_ k l xs,Z=kV k/\B p=a_ (.dK k_)/\lM k_ k=a_ (.ref l)/\B l=a_ (.lst xs)/\gF K C es σ B λws H2=>∃Y ob',H2 l=a_ Y/\Am op Y ws=a_ ob'/\D.nx σ (upd H2 l ob'):=by
 refine ac λ_ X=>?_;obtain⟨Fz,H₀,F,ρ,out,h,R,I⟩:=h;obtain⟨J,L,k,ds,ks,ws,j,e,e',M,g,N,hi,P,t,c,rfl⟩:=Lx h;obtain⟨Ss,O⟩:=R.ow;obtain⟨v,e1,e2,e3,e4⟩:=O.own i _ hi;obtain⟨p,k_,S0,rfl,hp,n,os,eS⟩:=id e2;obtain⟨Q,sp,x⟩:=R.jb;refine X ?_;refine⟨p,e1,_,J,L,M,Q,x.step.good,x.full,λZ F1 B o S _=>?_⟩;obtain rfl:=nG g S;have b:=Step.shrink R.step.good sp o;have r:=R.moved b;have y:=O.moved b;obtain⟨U,S1,S2,S3,z,V,f3,f4,f5,f6⟩:=os.at t
 have s:∃l xs,U=.ref l/\H l=a_ (.lst xs):=by
  cases e with
  |lst ls=>obtain⟨l,xs,S',rfl,hl,_⟩:=id V;exact⟨l,xs,rfl,hl⟩
  |dct ks ws=>cases op<;>first|exact absurd rfl h1|exact absurd rfl h2|exact absurd rfl h0|cases c
  |_=>cases op<;>cases c
 obtain⟨l,xs,rfl,hl⟩:=s;refine⟨k_,k,l,xs,rfl,b.hh _ _ hp,FJ (by rw[n];exact P) z,b.hh _ _ hl,zO r N λus F' H' T st ow W d=>?_⟩;have dj:∀a∈Ss i,a∉T:=λa m m2=>by
  obtain⟨u,f,_⟩:=e2.v3 _ a m;have:=b.hh _ _ f;rw[(d a m2).1]at this;cases this
 refine ac λ_ X=>?_;obtain⟨p',A,l',xs',Y,ob',S',q1,E,q3,G,q5,q6,q7,q8,q9,ch⟩:=PY h1 h2 h0 (b.hh.trans st.hh) t c e2 e3 ow W dj;cases q1;refine X ?_;rw[hp]at E;cases E;rw[z]at G;refine ac λ_ X=>?_;cases G;refine X ?_;refine⟨Y,ob',q7,q8,I F' _ σ (b.ff.trans st.ff) ((r.moved st).mut (y.moved st) hi e1 q6 q9 ch.own ch.nd λa m=>?_)⟩
 rcases ch.sub a m with m|m
 .exact .inl m
 .refine .inr ⟨(d a m).2,?_,λj d2 q m2=>?_⟩
  .exact r.step.hh.free (d a m).1
  .obtain⟨w,_,g,_⟩:=y.own j d2 q;obtain⟨u,f,_⟩:=g.v3 _ a m2;rw[(d a m).1]at f;cases f
def Tv{st:lz}(h1:op≠.ext)(h2:op≠.dput)(h3:op≠.seti)(O:∀l B ob' vs H Q,H l=a_ B->Am op B vs=a_ ob'->(∀u,Q u (upd H l ob'))->r (.ref l) vs H Q)
  (Y:PS X st (AK (S5 X.K "list" r (RB Yj (Dk i) (gE X.K C ke)) (gF X.K C es)))):SS X C st (.Xh op i ke es):=PS.imp Y λD σ H h=>by
 obtain⟨p,e1,g⟩:=Lv h1 h2 h3 h;refine⟨.ref p,e1,mM g λm n s1 d=>?_⟩;refine ac λ_ o=>?_;obtain⟨k_,k,l,xs,rfl,a,b,c,e⟩:=d;refine o ?_;refine⟨p,k_,k,.ref l,rfl,rfl,a,b,.inl ⟨rfl,xs,nM.of c⟩,?_⟩;refine ac λ_ o=>?_;obtain⟨ρ,ds,al,h,F,j,R,k⟩:=e;refine o ?_;exact⟨ρ,ds,al,h,F,j,R,λvs F' H' st r f=>let ⟨B,ob',a,b,c⟩:=k vs F' H' st r f;O l B ob' vs H' _ a b λ_=>c⟩
end
end M
namespace L2
open PySem PySem.Spec PyProof.Rows
abbrev Xo:List (be×ah):=[((("default":String):be),fF)]
noncomputable def Nv(f:Nat->Int):Nat->Nat->Option Nat->Option Nat
 |0,_,m=>m
 |k+1,j,b_=>Nv f k (j+1) (a_ j)
 |k+1,j,a_ i=>Nv f k (j+1) (a_ (if f j<f i then j else i))
def bestOf(P:Nat->ah->Prop):Option Nat->ah->Prop
 |none,v=>v=.none
 |some i,v=>P i v
def heldBy(P:Nat->ah->Prop)(vs:Array ah):Option Nat->Prop
 |none=>vs=#[]
 |some i=>∃b,P i b/\vs=#[b,b]
section
variable{A:bX}{St:Nat->cM->Prop}
def P7(W:Walks prog w A.in1 I fp wr n P St)(hc:CmpOf prog w A.in1 .Lt P λi j=>decide (f i<f j))(hf:S∉fp):∀(k j:Nat) (s:ak) (m:Option Nat) (vs:Array ah) (c:Nat),n - j=k->j<=n->St j s.heap->heldBy P vs m->
  s.heap.get? S=a_ { cls:=.type "list",dict:=b_,data:=.seq vs c,slots:=#[] }->
  (∀v h' B,bestOf P (Nv f k j m) v->(∀b o,b∉wr->b≠S->s.heap.get? b=a_ o->h'.get? b=a_ o)->R (.ok (.ret v)) { s with heap:=h',toks:=B })->
  codeAny (aG prog w) A (.builtin "min.loop" ⟨[.ref I,.none,.ref S],Xo⟩) R s:=by
 have D :=λh=>hf (W.sub _ h);intro k
 induction k with
 |zero=>
   intro j s m vs c hk E st r ho fin;have e:j=n:=Nat.le_antisymm (gm E) (jJ (am E) (Nat.le_of_eq hk))
   refine eM yU (by
    refine wb9 (dq ho rfl ?_);refine wb9 (CU (W.done s _ _ (e▸st) λh' B fr=>?_))
    cases m with
    |none=>
      cases r;exact wb9 (gh (wu9 (fin _ h' B rfl λb o x _ e=>fr b o x e)))
    |some i=>
      obtain⟨b,hb,rfl⟩:=r;exact wb9 (iZ (fr S _ D ho) rfl (wb9 (me (wu9 (fin b _ B hb λb o x y e=>(dO _ _ (dR y)).trans (fr b o x e)))))))
 |succ k C=>
   intro j s m vs c hk E st r ho fin;have lt:j<n:=jJ (ad E) (Nat.le_of_eq hk.symm)
   refine eM yU (by
    refine wb9 (dq ho rfl ?_);refine wb9 (CU (W.item j s _ _ lt st λv h' B hp p fr=>?_));have a:=fr S _ D ho;have keep:∀g:lA->lA,∀b∈fp,∀o,h'.get? b=a_ o->(h'.update S g).get? b=a_ o:=λg b hb o e=>(dO _ _ (λz:S=b=>hf (by rw[z];exact hb))).trans e
    cases m with
    |none=>
      cases r;refine wb9 (m:=updateSeq S λ_=>#[v,v]) (iZ a rfl ?_)
      exact wu9 ⟨fX jK _,C (j+1) _ (a_ j) #[v,v] _ (aC (pY (ws lt) (wt (aD lt)) (ae hk)) (pY (ae hk.symm) (ws (aD lt)) (wt lt))) lt (W.frame _ _ _ p (keep _)) ⟨v,hp,rfl⟩ (fe _ a rfl) λt h2 d hb l=>
       fin t h2 d hb λb o x y e=>l b o x y ((dO _ _ (dR y)).trans (fr b o x e))⟩
    |some i=>
      obtain⟨b0,u,rfl⟩:=r;refine wb9 (m:=tryCatch (holding [v,v] (richCompare .Lt v b0 >>= _)) _) (CU (ck (wb9 (hc j i v b0 _ _ _ hp u ?_))));refine wb9 (ck (g9 (wb9 (me (wu9 ?_)))));have F:Nv f (k+1) j (a_ i)=Nv f k (j+1) (a_ (if f j<f i then j else i)):=rfl;rw[F]at fin;by_cases q:f j<f i
      .rw[if_pos q]at fin;simp only[decide_eq_true q,if_true];refine wb9 (iZ a rfl (wb9 (me ?_)))
       exact wu9 ⟨fX jK _,C (j+1) _ (a_ j) #[v,v] _ (aC (pY (ws lt) (wt (aD lt)) (ae hk)) (pY (ae hk.symm) (ws (aD lt)) (wt lt))) lt (W.frame _ _ _ p (keep _)) ⟨v,hp,rfl⟩ (fe _ a rfl) λt h2 d hb l=>
        fin t h2 d hb λb o x y e=>l b o x y ((dO _ _ (dR y)).trans (fr b o x e))⟩
      .rw[if_neg q]at fin;simp only[decide_eq_false q,bS,if_false];exact wb9 (me (wu9 ⟨fX jK _,C (j+1) _ (a_ i) #[b0,b0] c (Nat.le_antisymm (pY (ad lt) (am (Nat.le_of_lt lt)) (Nat.le_of_eq hk)) (pY (Nat.le_of_eq hk.symm) (ad (Nat.le_of_lt lt)) (am lt))) lt p ⟨b0,u,rfl⟩ a λt h2 d hb l=>fin t h2 d hb λb o x y e=>l b o x y (fr b o x e)⟩)))
end
section
variable{A:bX}{s:ak}
def MU(hh:A.handled=b_)(hl:s.heap.IsList l (intItems xs))
  (k:∀v h' B,bestOf (λi v=>(intItems xs)[i]?=a_ v) (Nv (numAt xs) xs.size 0 b_) v->(∀b o,s.heap.get? b=a_ o->h'.get? b=a_ o)->Q v { s with heap:=h',toks:=B }) :
  aF (aG prog w) A (call (.builtin "min") [.ref l] Xo) Q E s:=by
 refine wpAny_call (mf PySem.F.plain_min PySem.F.entry_min ?_)
 have main:aF (aG prog w) A.in1 (fV.«min» ⟨[.ref l],Xo⟩) (λfin s'=>match fin with
   |.done f=>(match(Except.ok f)with | .ok (.ret v)=>Q v s' | .ok _=>False | .error e=>E e s')
   |.again g=>g.quiet=c_/\codeAny (aG prog w) A g (λr s'=>match r with | .ok (.ret v)=>Q v s' | .ok _=>False | .error e=>E e s') s') E s:=by
  refine wb9 (kH (rfl) (wb9 (wu9 (wb9 (iter_intList hl λs2 e st a ne=>?_)))));subst e;refine wb9 (dI ?_);have sz:(intItems xs).size=xs.size:=by simp[intItems]
  have W:=Walks.list (prog:=prog) (w:=w) (A:=A.in1) hh s.heap.objs.size l ne (intItems xs);refine wu9 ⟨fX jK _,P7 W (CmpOf.ints_lt (numAt xs) λ_ _=>intItems_at) (λh=>bI _ (a _ h)) _ 0 _ b_ #[] _ rfl (aM _) (W.frame _ _ _ st λb _ o e=>hp9 _ e) rfl (aK _ rfl) λv h' B hb fr=>?_⟩;rw[sz]at hb
  exact k v h' B hb λb o e=>by
   have e1:=hp9 ({ cls:=.type "list_iterator",data:=.fields #[.ref l,.int 0 0] }) e
   exact fr b o (λm=>by
    rcases au.mp m with rfl|m
    .exact absurd (hl9 e) (bI _)
    .cases m) (bw (hl9 e1)) (hp9 _ e1)
 cases q:Manifest.signature? "min" with
 |none=>exact wu9 main
 |some c=>
   exact wu9 main
end
end L2
namespace M
open PySem PySem.Spec PyProof.Rows L2
def Vr:Int->List Int->Int
 |i,[]=>i
 |i,j::r=>Vr (if j<i then j else i) r
def P0:Dat->g_
 | .lst ds=>(tV ds).map λis=>match is with
   |[]=>(.non,d_)
   |i::r=>(.int (Vr i r),d_)
 |_=>b_
def Ex.mnd(a:Ex):Ex:=⟨a.fv,λC ρ=>(bp C a ρ).bind λx=>P0 x.1⟩
theorem Ga(f:Nat->Int):∀(k j i:Nat),(Nv f k j (a_ i)).map f=a_ (Vr (f i) ((List.range' j k).map f))
 |0,_,_=>rfl
 |k+1,j,i=>by
   show(Nv f k (j+1) (a_ (if f j<f i then j else i))).map f=_;rw[Ga f k (j+1) _,Np,aA];simp only[Vr];split<;>rfl
section
variable{X:Cx}
def aaN(K:Fg):List V->Hp->VK->Prop:=gL K (b1 P0)
def Vq(B:X.calm=c_)(I:Inv X h_ σ H s)(r:c7 vs us)(h:aaN X.K vs H Q) :
  aF (aG X.prog X.w) X.A (call (.builtin "min") us Xo) (EP X h_ σ Q) X.xe s:=by
 refine ac λ_ z=>?_;obtain⟨da,d,fr,F,v,h1,rfl,g,n,k⟩:=tv (λ_ _ _ h=>M9 h) h
 refine z ?_;cases da with
 |lst ds=>
   refine ac λ_ z=>?_;obtain⟨is,hb,h1⟩:=dY h1;obtain⟨q,o,rfl,t,p⟩:=n;obtain⟨its,x,pl,_⟩:=I.lstR g t;obtain⟨u,rfl,y⟩:=vals1 r;cases y;have f:=yp hb p x;obtain⟨xs,e⟩:=f.allInts.items;refine z ?_;have hl:=pl.isList;rw[e]at hl
   have l:xs.toList.map (·.1)=is:=by
    have h1:=nums_intItems xs;rw[<-e]at h1;exact h1.symm.trans f.numsOf
   refine MU (I.ok.hd B) hl λv h' G b hk=>?_
   cases is with
   |nil=>
     refine ac λ_ z=>?_;cases h1;refine z ?_;have h0:xs.size=0:=by simp_all
     rw[h0]at b;rw[b];exact⟨.non,H,I.kept hk,rfl,k _ F H (Step.refl g) rfl aZ⟩
   |cons i is=>
     cases h1;have h0:xs.size=is.length+1:=by simpa using congrArg fA l
     have C:Nv (numAt xs) xs.size 0 b_=Nv (numAt xs) is.length 1 (a_ 0):=by rw[h0];rfl
     rw[C]at b;obtain⟨r,D,c⟩:=dY (Ga (numAt xs) is.length 1 0);rw[D]at b;obtain⟨t,rfl⟩:=intItems_at (b)
     have a:(List.range' 0 xs.size).map (numAt xs)=i::is:=by
      rw[<-l];refine kc λj=>?_;by_cases m:j<xs.size
      .simp[m,numAt]
      .simp[m]
     rw[h0]at a;rw[c,(eL a).1,(eL a).2];exact⟨.int _,H,I.kept hk,⟨_,rfl⟩,k _ F H (Step.refl g) rfl aZ⟩
 |_=>cases h1
def Uc(B:X.calm=c_)(O:Gl X "min")(Y:X.mg "min"=b_)(ha:SA X C [e] [xa])(he:aQ [e] X.env=(d_,eval e X.env)::aQ [] X.env) :
  SE X C (.Call (.Name "min" p) [e] [⟨a_ "default",.Constant .none c cp,kp⟩] pos) (.mnd xa):=
 PE.imp (λh_ s σ H Q I h=>by
  exact fB (lW I O Y PyProof.Rows.boot_min (callWith_kw (iR (ha pos h_ s σ H _ I h) λus s1 ⟨vs,g,a,b,f⟩=>kws_cons (Constant_none (kws_nil (Vq B a b f)))) (by rw[he];rfl) (by rw[he];rfl) rfl rfl) br br))
  (pS λρ d fr h=>by
   obtain⟨x,h1,h2⟩:=c5 h
   exact⟨[x.1],by show(bp C xa ρ).bind _=_;rw[h1];rfl,h2⟩)
end
def Lu(op:JB)(ds:List Dat):Dat->Dat->Option Dat
 |.lst ws,.int k=>(yk ws.length k).bind λj=>(ws[j]?).bind λe=>(jx op e ds).map λa=>.lst (ws.set j a)
 |_,_=>b_
def Vn(op:JB)(i:Nat)(ρ:dG)(B:Dat)(ds:List Dat):g_->Option Out
 |some (d,c_)=>(Lu op ds d B).map λd'=>.nx (ρ.set i (a_ (d',c_)))
 |_=>b_
def Sx.LB(i:Nat)(ke xi xe:Ex):Sx:={ ex:=λC ρ=>(bp C xe (full ρ)).bind λx=>if im x.1=c_ then(bp C ke (full ρ)).bind λy=>(bp C xi (full ρ)).bind λz=>Vn .seti i ρ y.1 [x.1,z.1] (ρ[i]?).join else b_ }
def aa0(ds:List Dat):Dat->Dat->Option Dat
 |.tup ws,.int k=>(yk ws.length k).bind λj=>(ws[j]?).bind λe=>(jx .app e ds).map λa=>.tup (ws.set j a)
 |_,_=>b_
def YK(i:Nat)(ρ:dG)(B:Dat)(ds:List Dat):g_->Option Out
 |some (d,c_)=>(aa0 ds d B).map λd'=>.nx (ρ.set i (a_ (d',c_)))
 |_=>b_
def Sx.Xj(i:Nat)(ke xe:Ex):Sx:={ ex:=λC ρ=>(bp C ke (full ρ)).bind λy=>(bp C xe (full ρ)).bind λx=>if im x.1=c_ then YK i ρ y.1 [x.1] (ρ[i]?).join else b_ }
section
variable{C:Fs}{K:Fg}
def PX(h:Vn op i ρ kd ds (ρ[i]?).join=a_ out) :
  ∃ws k j e B,kd=.int k/\ρ[i]?=a_ (a_ (.lst ws,c_))/\yk ws.length k=a_ j/\ws[j]?=a_ e/\jx op e ds=a_ B/\out=.nx (ρ.set i (a_ (.lst (ws.set j B),c_))):=by
 cases q:ρ[i]? with
 |none=>rw[q]at h;cases h
 |some z=>
   rw[q]at h
   match z,h with
   |some (d,c_),h=>
     obtain⟨d',a,h5⟩:=dY h
     cases d with
     |lst ws=>
       cases kd with
       |int k=>
         refine ac λ_ g=>?_;obtain⟨j,b,a⟩:=c5 a;obtain⟨e,c,a⟩:=c5 a;obtain⟨B,f,rfl⟩:=dY a;refine g ?_;exact⟨ws,k,j,e,B,rfl,rfl,b,c,f,h5.symm⟩
       |_=>cases a
     |_=>cases a
def PV{ws:List Dat}(h1:op≠.ext)(h2:op≠.dput)(B:cj H H')(Y:ws[j]?=a_ e)(Z:jx op e ds=a_ e')(o:my K H (.lst ws) v S)(nd:S.Nodup)(a:df K H' ds us []) :
  ∃p vs l O ob' S',v=.ref p/\H p=a_ (.lst vs)/\vs.length=ws.length/\vs[j]?=a_ (.ref l)/\l∈S/\H' l=a_ O/\Am op O us=a_ ob'/\Jj ob'/\my K (upd H' l ob') (.lst (ws.set j e')) (.ref p) S'/\S'.Nodup/\∀a∈S',a∈S:=by
 refine ac λ_ q=>?_;obtain⟨p,vs,N,rfl,hp,os,rfl⟩:=o;obtain⟨P,g,y,h,A,D,E,F,G,I⟩:=os.at Y;subst E;have k:=aX.mp nd;have n:=ja k.2;have i:=ja n.2.1;obtain⟨l,O,ob',S',rfl,b,c,d,J,L,r,s⟩:=uC h1 h2 Z (D.mono B) i.1 a ee λa _ m=>by cases m
 refine q ?_;have t :=λa m=>(s a m).elim id λz=>by cases z
 have f:∀us,H' l≠a_ (.tup us):=λus z=>by rw[c]at z;cases z;cases op<;>first|exact absurd rfl h1|exact absurd rfl h2|cases d
 have u :=λm=>n.2.2 l m (az _ b);have w :=λm=>i.2.2 l b m;have x:p≠l:=λz=>k.1 (z▸ai _ (az _ b))
 have sub:∀a∈g++(S'++h),a∈g++(y++h):=λa m=>by
  rcases ax.mp m with m|m
  .exact az _ m
  grind
 refine⟨p,vs,l,O,ob',p::(g++(S'++h)),rfl,hp,os.length,A,ki _ (ai _ (az _ b)),c,d,J,⟨p,vs,g++(S'++h),rfl,(cZ x).trans (B _ _ hp),?_,rfl⟩,?_,λa m=>?_⟩
 .have M:ws.set j e'=ws.take j++([e']++ws.drop (j+1)):=by
   rw[jY,if_pos (aR.mp Y).1];rfl
  rw[M];exact I.symm▸(((F.mono B).upd f _ u).append ((df.one L).append ((G.mono B).upd f _ w)))
 .exact aX.mpr ⟨λm=>k.1 (sub p m),gR n.1 (gR r i.2.1 λa m m3=>i.2.2 a (t a m) m3) λa m m2=>by
   grind⟩
 grind
def Rl.ask(R:Rl K Fz H₀ F H σ ρ)(h:bp C x (M.full ρ)=a_ (d,fr))
  (k:∀v F1 B,Step F H F1 B->(im d=c_->∀H2,cj B H2->my K H2 d v [])->(∀k,pZ d=a_ k->v=kV k)->(∀i,d=.int i->v=.int i)->Q v B):gE K C x σ H Q:=by
 obtain⟨g,sp,f⟩:=R.jb;refine⟨_,d,fr,h,g,f.step.good,f.full,λv F1 B b c _=>k v _ B (Step.shrink R.step.good sp b) (λm H2 s2=>my.kT (λa o e=>s2 a o (b.good.sub a o e)) d m c) (λk q=>nG q c) λi q=>?_⟩;rw[q]at c;exact c
set_option tactic.hygienic true
def LA{D:Ends}(h:gS K C (.LB i ke xi xe) D σ H) :
  gE K C xe σ H λv H1=>∃p,σ[i]?=a_ (a_ (.ref p))/\gE K C ke σ H1 λkv H2=>∃xs k l,kv=.int k/\H2 p=a_ (.lst xs)/\qH xs k=a_ (.ref l)/\gE K C xi σ H2 λY B=>∃Z ob',B l=a_ Z/\Am .seti Z [v,Y]=a_ ob'/\D.nx σ (upd B l ob'):=by
 refine ac λ_ P=>?_;obtain⟨Fz,H₀,F,ρ,out,h,R,J⟩:=h;obtain⟨⟨d,fd⟩,h1,h⟩:=c5 h;refine P ?_;split at h
 .rename_i hd;refine ac λ_ P=>?_;obtain⟨⟨X,fk⟩,h2,h⟩:=c5 h;obtain⟨⟨o,fz⟩,h3,h⟩:=c5 h;obtain⟨ws,k,j,e,e',rfl,hi,L,y,g,rfl⟩:=PX h;refine P ?_;refine R.ask h1 λv F1 H1 c ow _ _=>?_;have z:=R.moved c;refine ac λ_ P=>?_;obtain⟨Ss,O⟩:=R.ow;obtain⟨v0,e1,e2,e3,e4⟩:=O.own i _ hi;obtain⟨p,xs,S0,rfl,hp,os,eS⟩:=id e2;refine P ?_;refine⟨p,e1,z.ask h2 λkv F2 H2 b _ _ hk=>?_⟩;have R2:=z.moved b;refine ac λ_ P=>?_;obtain⟨M,S1,S2,S3,A,E,f3,f4,f5,f6⟩:=os.at y
  have r:im o=c_:=by
   cases e with
   |lst ls=>
     cases o with
     |int n=>rfl
     |_=>cases g
   |dct ks ws=>
     obtain⟨kz,q,_⟩:=c5 (g)
     cases o with
     |int n=>rfl
     |str n=>rfl
     |_=>cases q
   |_=>cases g
  have s:∃l,M=.ref l:=by
   cases e with
   |lst ls=>obtain⟨l,xs,S',rfl,hl,_⟩:=id E;exact⟨l,rfl⟩
   |dct ks ws=>obtain⟨l,xs,S',rfl,hl,_⟩:=id E;exact⟨l,rfl⟩
   |_=>cases g
  obtain⟨l,rfl⟩:=s;refine P ?_;refine⟨xs,k,l,hk k rfl,b.hh _ _ (c.hh _ _ hp),by unfold qH;rw[os.length,L];exact A,R2.ask h3 λY N B f t hz hn=>?_⟩;refine ac λ_ P=>?_;obtain⟨p',Q,l',Z,ob',S',S,G,q3,I,T,U,V,W,u,w,x⟩:=PV (by simp) (by simp) ((c.hh.trans b.hh).trans f.hh) y g e2 e3 ⟨v,[Y],[],[],rfl,ow hd B (b.hh.trans f.hh),⟨Y,[],[],[],rfl,t r B (λ_ _ e=>e),⟨rfl,rfl⟩,rfl⟩,rfl⟩;cases S;refine P ?_;rw[hp]at G;cases G;rw[A]at I;refine ac λ_ P=>?_;cases I;refine P ?_;exact⟨Z,ob',U,V,J N _ σ ((c.ff.trans b.ff).trans f.ff) ((R2.moved f).mut (((O.moved c).moved b).moved f) hi e1 T W u w λa m=>.inl (x a m))⟩
 .cases h
def PU(h:YK i ρ kd ds (ρ[i]?).join=a_ out) :
  ∃ws k j e B,kd=.int k/\ρ[i]?=a_ (a_ (.tup ws,c_))/\yk ws.length k=a_ j/\ws[j]?=a_ e/\jx .app e ds=a_ B/\out=.nx (ρ.set i (a_ (.tup (ws.set j B),c_))):=by
 cases q:ρ[i]? with
 |none=>rw[q]at h;cases h
 |some z=>
   rw[q]at h
   match z,h with
   |some (d,c_),h=>
     obtain⟨d',a,h5⟩:=dY h
     cases d with
     |tup ws=>
       cases kd with
       |int k=>
         refine ac λ_ g=>?_;obtain⟨j,b,a⟩:=c5 a;obtain⟨e,c,a⟩:=c5 a;obtain⟨B,f,rfl⟩:=dY a;refine g ?_;exact⟨ws,k,j,e,B,rfl,rfl,b,c,f,h5.symm⟩
       |_=>cases a
     |_=>cases a
def LC{D:Ends}(h:gS K C (.Xj i ke xe) D σ H) :
  ∃p,σ[i]?=a_ (a_ (.ref p))/\gE K C ke σ H λZ B=>∃xs k l ys,Z=.int k/\tG K B p xs/\qH xs k=a_ (.ref l)/\B l=a_ (.lst ys)/\gE K C xe σ B λv H2=>∃Y ob',H2 l=a_ Y/\Am .app Y [v]=a_ ob'/\D.nx σ (upd H2 l ob'):=by
 refine ac fun Pq kq => ?_; obtain⟨Fz,H₀,F,ρ,out,h,R,S⟩:=h;obtain⟨⟨kd,fk⟩,h1,h⟩:=c5 h;obtain⟨⟨d,fd⟩,h2,h⟩:=c5 h;refine kq ?_; split at h
 .rename_i hd;refine ac fun Pq kq => ?_; obtain⟨ws,k,j,e,I,rfl,hi,T,J,L,rfl⟩:=PU h;obtain⟨Ss,O⟩:=R.ow;obtain⟨v0,e1,e2,e3,e4⟩:=O.own i _ hi;obtain⟨p,xs,rfl,M,os⟩:=id e2;refine kq ?_; refine⟨p,e1,R.ask h1 λZ F1 B b _ _ hk=>?_⟩;have N:=R.moved b;refine ac fun Pq kq => ?_; obtain⟨U,V,S2,W,X,P,Q,f4,f5,f6⟩:=os.at J
  have r:∃l ys,U=.ref l/\H l=a_ (.lst ys):=by
   cases e with
   |lst ls=>obtain⟨l,ys,S',rfl,hl,_⟩:=id P;exact⟨l,ys,rfl,hl⟩
   |_=>cases L
  obtain⟨l,ys,rfl,hl⟩:=r;refine kq ?_; refine⟨xs,k,l,ys,hk k rfl,(M.mono b.hh).sq,by unfold qH;rw[os.length,T];exact X,b.hh _ _ hl,N.ask h2 λv F2 H2 c ow _ _=>?_⟩;have n:=b.hh.trans c.hh;rw[Q]at e3;have s:=ja e3;have o:=ja s.2.1;refine ac fun Pq kq => ?_; obtain⟨l2,Y,ob',S',el,f,u,w,mu,o2,x,y⟩:=uC (by simp) (by simp) L (P.mono n) o.1 ⟨v,[],[],[],rfl,ow hd H2 (λ_ _ e=>e),⟨rfl,rfl⟩,rfl⟩ ee λa _ m=>by cases m
  cases el;refine kq ?_; have A :=λa m=>(y a m).elim id λz=>by cases z
  have g:∀us,H2 l≠a_ (.tup us):=λus z=>by rw[n _ _ hl]at z;cases z
  have E :=λm=>s.2.2 l m (az _ f);have G :=λm=>o.2.2 l f m;have hL:l∈Ss i:=by rw[Q];exact ai _ (az _ f)
  refine⟨Y,ob',u,w,S F2 _ σ (b.ff.trans c.ff) ((N.moved c).mut ((O.moved b).moved c) hi e1 hL mu (S':=V++(S'++W)) ⟨p,xs,rfl,?_,?_⟩ ?_ λa m=>.inl ?_)⟩
  .rcases M.mono n with t|t
   .refine .inl ?_;rw[cZ (λz=>g xs (by rw[<-z];exact t))];exact t
   .exact .inr t
  .have q:=((f4.mono n).upd g _ E).append ((df.one o2).append ((f5.mono n).upd g _ G))
   have ed:ws.set j I=ws.take j++([I]++ws.drop (j+1)):=by
    rw[jY,if_pos (aR.mp J).1];rfl
   rw[ed];exact f6.symm▸q
  .exact gR s.1 (gR x o.2.1 λa m m3=>o.2.2 a (A a m) m3) λa m m2=>by
    grind
  grind
 .cases h
def aaI(d:Dat):g_->Option Out
 |some (e,c_)=>a_ (.rt (.tup [d,e]) c_)
 |_=>b_
def Sx.Z2(xe:Ex)(i:Nat):Sx:={ ex:=λC ρ=>(bp C xe (full ρ)).bind λx=>if im x.1=c_ then aaI x.1 (ρ[i]?).join else b_ }
def Tt(he:SE X C e xe)(Y:X.N[i]?=a_ x)(Z:Q2 X.env.scope x)(hd:(x == ("__debug__":be))=d_)(B:(x == ("__classdict__":be))=d_)
  (h1:aQ [e,.Name x p] X.env=(d_,eval e X.env)::aQ [.Name x p] X.env):SS X C (.Return (a_ (.Tuple [e,.Name x p] c q)) pos) (.Z2 xe i):=
 PS.imp (DG (K4 (n5 he (n5 (qo Y Z hd B) vy) h1))) λD σ H l=>by
  refine ac λ_ t=>?_;obtain⟨Fz,H₀,F,ρ,out,h,R,k⟩:=l;obtain⟨⟨d,fd⟩,r,h⟩:=c5 h;refine t ?_;split at h
  .rename_i hd
   obtain⟨e,hi,rfl⟩:∃e,ρ[i]?=a_ (a_ (e,c_))/\out=.rt (.tup [d,e]) c_:=by
    cases q:ρ[i]? with
    |none=>rw[q]at h;cases h
    |some z=>
      rw[q]at h
      match z,h with
      |some (d',c_),h=>cases h;exact⟨d',rfl,rfl⟩
   obtain⟨Ss,O⟩:=R.ow;obtain⟨b,e1,e2,e3,s⟩:=O.own i _ hi;refine R.ask r λv F1 j f ow _ _=>⟨b,e1,(by decide:2<=aB),λp hp=>?_⟩
   have g:=R.moved f;have st:Step Fz H₀ (fz F1 j (Ss i)) j:=by
    refine⟨uI g.step.good,g.step.ff.trans (qt g.step.good.sub),g.step.hh,λa o q n=>?_⟩;rw[qu λm=>?_]
    .exact g.step.un a o q n
    simp_all
   have u:c9 X.K (fz F1 j (Ss i)) [d,e] [v,b]:=⟨v,[b],rfl,(ow hd j (cj.refl _)).mN g.step.good d (λa m=>by cases m),b,[],rfl,(e2.mono f.hh).mN g.step.good e (λa m=>m),rfl⟩
   exact k (.ref p) _ _ (st.trans (Step.alloc st.good hp)) ⟨p,[v,b],rfl,.inl cO,u.mono (cj.upd (st.good.sub.free hp))⟩ λ_=>.tup hp ⟨Ss i,e3,λa m=>(s a m).2,⟨v,[b],[],Ss i,rfl,ow hd j (cj.refl _),df.one (e2.mono f.hh),rfl⟩⟩
  .cases h
def Tw{st:lz}(B:PS X st (HG (gE X.K C xe) (V9 (RB (Yi X.K) (Dk i) (gE X.K C ke)) (gE X.K C xi) (λo i v H Q=>FD o i v H Q\/KH o i v H Q)))):SS X C st (.LB i ke xi xe):=PS.imp B λD σ H h=>by
 refine mM (LA h) λv s s1 ⟨p,e1,g⟩=>⟨.ref p,e1,mM g λt H2 s2 ⟨xs,k,l,e2,hp,ha,d⟩=>⟨p,xs,k,.ref l,rfl,e2,nM.of hp,ha,mM d λy u s3 ⟨e,ob',b,a,c⟩=>?_⟩⟩
 cases e with
 |lst ys=>
   cases y with
   |int n=>
     simp only[Am,Lj]at a;split at a
     .obtain⟨w,f,m⟩:=dY a;cases m;obtain⟨j,q,rfl⟩:=dY f;exact .inl ⟨l,ys,n,j,rfl,rfl,b,q,c⟩
     .cases a
   |_=>cases a
 |dK k_=>
   obtain⟨n,hk,a⟩:=c5 a;split at a
   .rename_i r;cases a;exact .inr ⟨l,k_,n,rfl,LQ hk,b,r,c⟩
   .cases a
 |_=>cases a
set_option tactic.hygienic false
def Tx{st:lz}(Y:∀l B ob' vs H Q,H l=a_ B->Am .app B vs=a_ ob'->(∀u,Q u (upd H l ob'))->r (.ref l) vs H Q)
  (Z:PS X st (AK (S5 X.K "list" r (RB (Yh X.K) (Dk i) (gE X.K C ke)) (λσ H Q=>gE X.K C xe σ H λv O=>Q [v] O)))):SS X C st (.Xj i ke xe):=PS.imp Z λD σ H h=>by
 obtain⟨p,e1,g⟩:=LC h;refine⟨.ref p,e1,mM g λe O s1 ⟨xs,k,l,ys,e2,hp,ha,hl,a⟩=>⟨p,xs,k,.ref l,rfl,e2,hp,ha,.inl ⟨rfl,ys,nM.of hl⟩,mM a λv H2 s2 ⟨B,ob',b,c,d⟩=>Y l B ob' [v] H2 _ b c λ_=>d⟩⟩
end
noncomputable def Wy:Dat×Bool->Dat×Bool->g_
 |(.lst xs,c_),(.lst ys,c_)=>if xs.length+ys.length<=aB then a_ (.lst (xs++ys),c_)else b_
 |_,_=>b_
def Ex.cat(a b:Ex):Ex:=⟨a.fv++b.fv,λC ρ=>(bp C a ρ).bind λx=>(bp C b ρ).bind λy=>Wy x y⟩
def QK(h:Wy x y=a_ r):∃xs ys,x=(.lst xs,c_)/\y=(.lst ys,c_)/\xs.length+ys.length<=aB/\r=(.lst (xs++ys),c_):=by
 unfold Wy at h;split at h
 .simp_all
 .cases h
def Ym(K:Fg):R2:=λx y H Q=>∃xs ys F a b,Good F H/\Rep K F (.lst xs) x/\Rep K F (.lst ys) y/\my K H (.lst xs) x a/\my K H (.lst ys) y b/\xs.length+ys.length<=aB/\
 ∀p F' H',H p=b_->Step F H F' H'->Rep K F' (.lst (xs++ys)) (.ref p)->my K H' (.lst (xs++ys)) (.ref p) (p::(a.tail++b.tail))->Q (.ref p) H'
section
def Pz:j2 X (binaryOp .Add) (Ym X.K):=by
 intro h_ s σ H x y v u Q I j m h;refine ac λ_ A=>?_;obtain⟨xs,ys,F,o,w,g,⟨l,vs,rfl,t,r⟩,⟨q,us,rfl,t',f⟩,⟨l',a,c,e1,hl,os,rfl⟩,⟨z,b,d,e2,i,e,rfl⟩,n,k⟩:=h;cases e1;cases e2;obtain rfl:=I.nF (nM.of hl) (g.sub.seq t);obtain rfl:=I.nF (nM.of i) (g.sub.seq t');refine A ?_;exact U7 h_ s σ H _ _ v u Q I j m ⟨l,q,a,b,rfl,rfl,hl,i,by rw[r.length,f.length];exact n,λp hp=>k p _ _ hp (Step.alloc g hp) ⟨p,a++b,rfl,.inl (.inl cO),(r.append f).mono (cj.upd (g.sub.free hp))⟩ ⟨p,a++b,c++d,rfl,cO,(os.append e).mono (cj.upd hp),rfl⟩⟩
def Um(ha:SE X C a xa)(hb:SE X C b xb):SE X C (.BinOp a .Add b pos) (.cat xa xb):=
 PE.imp (RL Pz ha hb) λσ H Q r=>by
  refine ac λ_ O=>?_;obtain⟨ρ,d,fr,h,F,g,R,k⟩:=r;obtain⟨L,h1,h⟩:=c5 h;obtain⟨M,h2,h⟩:=c5 h;obtain⟨xs,ys,rfl,rfl,s,e⟩:=QK h;obtain⟨rfl,rfl⟩:=Prod.mk.inj e;refine O ?_;refine⟨ρ,_,_,h1,F,g,R,λv F1 N f t x=>⟨ρ,_,_,h2,F1,f.good,R.mono f.ff,λw y H2 c A B=>?_⟩⟩;obtain⟨j,D,e1,l⟩:=x rfl;obtain⟨n,E,e2,q⟩:=B rfl
  have d1:∀a∈j,H2 a≠b_:=λa m z=>by
   obtain⟨u,i,_⟩:=l.v3 _ a m;have:=c.hh _ _ i;rw[z]at this;cases this
  have d12:∀a∈j,a∉n:=λa m m2=>by
   obtain⟨u,i,_⟩:=l.v3 _ a m;rw[e2 a m2]at i;cases i
  have d2:∀a∈n,H2 a≠b_:=λa m z=>by
   obtain⟨u,i,_⟩:=q.v3 _ a m;rw[z]at i;cases i
  refine⟨xs,ys,y,j,n,c.good,t.mono c.ff,A,l.mono c.hh,q,s,λp G I hp o J K=>k _ G I ((f.trans c).trans o) J λ_=>⟨_,?_,?_,K⟩⟩
  .refine aX.mpr ⟨λm=>?_,gR ((JK _).nodup D) ((JK _).nodup E) λa m m2=>d12 a (gu m) (gu m2)⟩
   rcases ax.mp m with m|m
   .exact d1 p (gu m) hp
   .exact d2 p (gu m) hp
  .intro a m
   rcases au.mp m with rfl|m
   .exact(f.hh.trans c.hh).free hp
   .rcases ax.mp m with m|m
    .exact e1 a (gu m)
    .exact f.hh.free (e2 a (gu m))
end
end M
namespace L2
open PySem PySem.Spec PyProof.Rows
def Itd(lo:Int)(n:Nat):It:=⟨λi _=>i<n,λi H x H'=>H'=H/\x=.int (lo - i),λi _=>n<=i⟩
def HC{K:aN}(it:aI)(lo:Int)(n:Nat):Turn P w K tg (Itd lo n) [it] it (λi h=>IsRangeIter h it (lo+(i:Nat) * (-1)) ((n:Int) - (i:Nat)) (-1)) where
 mem:=by simp
 obj:=λi h st b hb=>by
  have e:b=it:=by simpa using hb
  subst e
  exact⟨_,st,λv z=>by
   have u:Data.fields _=Data.cell v:=z
   cases u⟩
 keep:=λi h h' st k=>k it (by simp) _ st
 item:=by
  intro X c d f hc i h_ s σ H E I hf st g;subst c d f;obtain⟨j,l,x,m,p,q⟩:=hf it (by simp);have W:=Walks.range (prog:=X.prog) (w:=X.w) (I.ok.hd hc) it lo (-1) n;refine W.item i s _ _ g st λv h' r y a kk=>?_;obtain⟨t,rfl⟩:=y;have A:Inv X h_ σ H { s with heap:=h',toks:=r }:=I.turned (λb o hb e=>kk b o (by simpa using hb) e) j l m p q;refine⟨_,rfl,vR (s:={ s with heap:=h',toks:=r }) (n:="range_iterator") a rfl rfl br ⟨.int (lo - i),H,A,⟨t,?_⟩,⟨rfl,rfl⟩,a,λb hb=>(hf b hb).1⟩⟩
  congr 1
  exact wR (iw0) (iw0)
 done:=by
  intro X c d f hc i h_ s σ H E I hf st g;subst c d f;obtain⟨j,l,x,m,p,q⟩:=hf it (by simp);exact JC (I.ok.hd hc) st (by have:n<=i:=g;omega) λh' B=>⟨rfl,I.turned (t':=s.toks) (λb o hb e=>B b o hb e) j l m p q⟩
 self:=λ_ _ _ _ _ st h=>JD st h
def p7(a b:Int):je a b (-1)=if a > b then a - b else 0:=by
 unfold je;simp
def HK(ha:-1000000<=a)(B:a<=1000000)(hb:-1000000<=b)(O:b<=1000000):wA a b (-1)=c_:=by
 unfold wA;rw[p7];simp only[Builtin.Range.rangeFitsLong,aj,lH,decide_eq_true_eq,beq_iff_eq,show¬((-1) > 0) by decide,if_false];split<;>omega
section
def Y8(B:TA):TI:=λσ H R=>B σ H λvs a=>∃i j:Int,vs=[.int i,.int j,.int (-1)]/\(-1000000<=i/\i<=1000000/\-1000000<=j/\j<=1000000)/\R (Itd i (i - j).toNat) a
def Io(O:Gl X "range")(Y:X.mg "range"=b_)(ha:PA X [a,b,c] ta)(hs:aQ [a,b,c] X.env=[(d_,eval a X.env),(d_,eval b X.env),(d_,eval c X.env)])(B:aQ [b,c] X.env=[(d_,eval b X.env),(d_,eval c X.env)]) :
  PI X tg (.Call (.Name "range" p) [a,b,c] [] pos) (Y8 ta):=by
 intro h_ s σ H R I h;refine Call_ (lW I O Y boot_range (dz (iR (ha pos h_ s σ H _ I h) λus s1 ⟨vs,k,l,m,g⟩=>?_) (by rw[hs,B]) (by rw[B];rfl)));obtain⟨lo,hi,e,⟨g,n,u,v⟩,q⟩:=g;subst e
 cases m with
 |cons r f=>
   cases f with
   |cons w f=>
     cases f with
     |cons i f=>
       cases f;obtain⟨t,rfl⟩:=r;obtain⟨t',rfl⟩:=w;obtain⟨d,rfl⟩:=i;refine call_range_3 br ?_ (.inl (yW br));refine wpAny_pyIter_range (Rh ..) (HK g n u v) ?_;have j:Inv X h_ σ k { s1 with heap:=s1.heap.push { cls:=.type "range",data:=.fields #[.int lo t,.int hi t',.int (-1) d] },toks:=s1.toks }:=l.kept λb o e=>hp9 _ e
       refine⟨(s1.heap.push { cls:=.type "range",data:=.fields #[.int lo t,.int hi t',.int (-1) d] }).objs.size,[(s1.heap.push { cls:=.type "range",data:=.fields #[.int lo t,.int hi t',.int (-1) d] }).objs.size],_,_,k,rfl,
        j.kept λb o e=>hp9 _ e,HC _ lo (lo - hi).toNat,?_,λb hb=>?_,q⟩
       .have e1:lo+((0:Nat)) * (-1)=lo:=by simp
        have e2:(((lo - hi).toNat)) - ((0:Nat))=je lo hi (-1):=by
         rw[p7];split<;>omega
        rw[e1,e2];exact aK _ rfl
       .have e:b=(s1.heap.push { cls:=.type "range",data:=.fields #[.int lo t,.int hi t',.int (-1) d] }).objs.size:=by simpa using hb
        subst e;exact j.xm (ao _) (j.hok.fresh (ao _))
end
end L2
namespace M
open PySem PySem.Spec PyProof.Rows L2
def II{K:Fg}{F1:Hp}{lo:Int}:kG K F1 (Itd lo n) ((aO n).map λk:Nat=>Dat.int (lo - k)):=λF H g s=>by
 refine⟨λi d hd=>?_,λi hi=>(by simpa using hi:n<=i)⟩;rw[aP]at hd
 have hi:i<n:=by
  by_cases hi:i<n
  .exact hi
  simp_all
 rw[af (by simpa using hi)]at hd;simp only[rY,cA,hZ]at hd;subst hd;refine⟨hi,λx H' y=>?_⟩;obtain⟨rfl,rfl⟩:=y;exact⟨F,Step.refl g,rfl⟩
set_option tactic.hygienic true in
def OD(O:Gl X "range")(Y:X.mg "range"=b_)(ha:SA X C [a,b,c] [xa,xb,xc])(hs:aQ [a,b,c] X.env=[(d_,eval a X.env),(d_,eval b X.env),(d_,eval c X.env)])(B:aQ [b,c] X.env=[(d_,eval b X.env),(d_,eval c X.env)]) :
  SI X C tg (.Call (.Name "range" p) [a,b,c] [] pos) (.rng [xa,xb,xc]):=
 PI.imp (Io O Y ha hs B) λσ H R l=>by
  obtain⟨ρ,items,F,hi,g,m,k⟩:=l;obtain⟨ds,h1,h2⟩:=c5 hi;refine⟨ρ,ds,h1,F,g,m,λvs F1 n st r=>?_⟩;unfold DD at h2;split at h2
  .have:=nJ h1;cases this
  .cases (nJ h1)
  .rename_i i j c;split at h2
   .rename_i d;obtain⟨rfl,d⟩:=d;cases h2;obtain⟨v,w,rfl,o,q,s,rfl,e,t,u,rfl,f,h⟩:=r;cases o;cases e;cases f;cases h;exact⟨i,j,rfl,d,k _ F1 n st II⟩
   .cases h2
  .cases h2
end M
namespace L2
open PySem PySem.Spec PyProof.Rows
def Itv(K:aN)(a:aI)(n:Nat):It:=
 ⟨λi H=>i<n/\∃xs,tG K H a xs/\xs.length=n,λi H x H'=>H'=H/\∀xs,tG K H a xs->xs[n - 1 - i]?=a_ x,λi H=>n<=i⟩
def JW{K:aN}(a it:aI)(n:Nat):Turn P w K tg (Itv K a n) [it] it (λi h=>i<=n/\h.get? it=a_ (OU a ((n:Int) - 1 - (i:Nat)))) where
 mem:=by simp
 obj:=λi h st b hb=>by
  have e:b=it:=by simpa using hb
  subst e;exact⟨_,st.2,λv z=>nomatch z⟩
 keep:=λi h h' st k=>⟨st.1,k it (by simp) _ st.2⟩
 item:=by
  intro X c d f hc i h_ s σ H E I hf st j;subst c d f;obtain⟨hi,xs,C,D⟩:=j;obtain⟨its,F,p,L⟩:=I.tuple C;have hl:=F.length;obtain⟨x,G⟩:∃x,xs[n - 1 - i]?=a_ x:=⟨_,af (pY (oS (n - 1) i) (wS n 1 (gm hi)) (ae D.symm))⟩
  obtain⟨u,M,N⟩:=F.get G;obtain⟨l,m,O,q,r,t⟩:=hf it (by simp);have e:(n:Int) - 1 - (i:Nat)=((n - 1 - i:Nat):Int):=by omega
  have y:=st.2;rw[e]at y;have R:n - 1 - i<its.toArray.size:=by simp;exact Nx (oS (n - 1) i) (wS n 1 (gm hi)) (ae D.symm) (ae hl)
  have B:its.toArray[n - 1 - i]=u:=by have:=aR.mp M;simpa using this.2
  refine OS (its:=its.toArray) (by simp;exact aa (ae hl.symm) L) R p y λh' J g S=>?_;rw[B];have e2:((n - 1 - i:Nat):Int) - 1=(n:Int) - 1 - ((i+1:Nat):Int):=wR (Jx (oU e.symm)) (Jx (oU e));rw[e2]at g;have T:Inv X h_ σ H { s with heap:=h',toks:=J }:=I.turned (λb o hb e=>S.extBut _ _ hb e) l m q r t;exact⟨u,rfl,vR (s:={ s with heap:=h',toks:=J }) (n:="reversed") g rfl rfl br ⟨x,H,T,N,⟨rfl,λys U=>by rw[I.nu U C];exact G⟩,⟨hi,g⟩,λb hb=>(hf b hb).1⟩⟩
 done:=by
  intro X c d f hc i h_ s σ H E I hf st j;subst c d f;obtain⟨l,m,O,q,r,t⟩:=hf it (by simp);have y:=st.2;rw[show(n:Int) - 1 - (i:Nat)=-1 by have:n<=i:=j;have:=st.1;omega]at y;exact Uy (I.ok.hd hc) y λh' V=>⟨rfl,I.turned (t':=s.toks) (λb o hb e=>V b o hb e) l m q r t⟩
 self:=λA i s Q E st k=>by
  refine wJ (vj st.2) tO (bN tO (vj st.2) Cc ?_ (CB _));exact wu9 ⟨_,rfl,"reversed",_,vj st.2,kQ.lookup,k⟩
section
variable{p:xv}{ta:TA}
def abr(K:aN)(ta:TA):TI:=λσ H R=>ta σ H λvs a=>∃p xs,vs=[.ref p]/\tG K a p xs/\R (Itv K p xs.length) a
def UL(B:Gl X "reversed")(O:X.mg "reversed"=b_)(ha:PA X [a] ta)(hs:aQ [a] X.env=[(d_,eval a X.env)]):PI X tg (.Call (.Name "reversed" p) [a] [] pos) (abr X.K ta):=by
 intro h_ s σ H R I h;refine fB (lW I B O (by decide +kernel:bootBuiltins "reversed"=a_ (.type "reversed")) (dz (iR (ha pos h_ s σ H _ I h) λus s1 ⟨vs,d,c,f,q,xs,e,g,k⟩=>?_) (by rw[hs];rfl) rfl));subst e;obtain⟨u,rfl,i⟩:=vals1 f;cases i;obtain⟨its,j,ht,hl⟩:=c.tuple g;rw[iP]at hl;have el:=j.length;refine OT ht (by simp;omega) λl=>?_;have T:=JW (P:=X.prog) (w:=X.w) (K:=X.K) (tg:=tg) q s1.heap.objs.size xs.length;have st:(0<=xs.length/\(s1.heap.push (OU q (((its.toArray.size)) - 1))).get? s1.heap.objs.size=a_ (OU q ((xs.length) - 1 - ((0:Nat))))):=⟨aM _,by rw[show(xs.length) - 1 - ((0:Nat))=((its.toArray.size):Int) - 1 by simp_all];exact aK _ rfl⟩
 refine T.self _ 0 _ _ _ st ⟨s1.heap.objs.size,_,_,_,d,rfl,c.kept λb o e=>hp9 _ e,T,st,λb hb=>?_,k⟩;have e:b=s1.heap.objs.size:=by simpa using hb
 subst e;exact c.xm (ao _) (c.hok.fresh (ao _))
end
end L2
namespace M
open PySem PySem.Spec PyProof.Rows L2
def LU{K:Fg}{F1:Hp}(h:Tq K F1 a vs)(r:c9 K F1 ds vs):kG K F1 (Itv K a vs.length) ds.reverse:=λF H g s=>by
 have b:=((h.mono s).mono g.sub).sq;refine⟨λi d hd=>?_,λi hi=>?_⟩
 .have hi:i<ds.length:=by
   by_cases z:i<ds.length
   .exact z
   .rw[kP (by simpa using z)]at hd;cases hd
  rw[C8 hi]at hd;obtain⟨v,e1,e2⟩:=r.get hd;have hl:=r.length;refine⟨⟨aa hi (ae hl.symm),vs,b,rfl⟩,λx H' y=>?_⟩;obtain⟨rfl,y⟩:=y;have:=y vs b;rw[hl,e1]at this;cases this;exact⟨F,Step.refl g,e2.mono s⟩
 .show vs.length<=i;rw[r.length];simpa using hi
def TY(B:Gl X "reversed")(O:X.mg "reversed"=b_)(ha:SA X C [a] [xa])(hs:aQ [a] X.env=[(d_,eval a X.env)]) :
  SI X C tg (.Call (.Name "reversed" p) [a] [] pos) (.rev xa):=λh_ s σ H R I c=>by
 refine ac λ_ i=>?_;obtain⟨ρ,items,F,hi,g,e,kk⟩:=c;obtain⟨⟨d,fr⟩,h1,h2⟩:=c5 hi
 refine i ?_;cases d with
 |tup ds=>
   cases h2;refine UL B O ha hs h_ s σ H R I ⟨ρ,[.tup ds],by simp only[mY,h1,bH,cA],F,g,e,λvs F1 f st r=>?_⟩;refine ac λ_ i=>?_;obtain⟨v,w,rfl,⟨q,b,rfl,t,h⟩,e3⟩:=r;cases e3;refine i ?_;exact⟨q,b,rfl,(t.mono st.good.sub).sq,kk _ F1 f st (LU t h)⟩
 |_=>cases h2
section
variable{X:Cx}
def Ko(j n:Nat)(G:ot X.prog X.w X.K X.mg X.base Jl k f fd ps (TM X.K n (C j)))(O:nN k X.A)(Y:Gl X x)(Z:X.mg x=a_ (.ref f))(hk:gJ X.K (.ref f)=c_)(hb:Binds X.K fd ps [])
  (hn:n=0)(B:(x == ("__debug__":be))=d_):SE X C (.Call (.Name x p) [] [] pos) (.call j []):=
 PE.imp (K8 G O Y Z hk hb .nil RM B) λσ H Q h=>by
  have h':=pS (xs:=[]) (x:=.call j []) (λρ d fr h=>c5 h) σ H Q h;refine ac λ_ a=>?_;obtain⟨ρ,ds,h1,F,g,R,k⟩:=h';cases h1;refine a ?_;exact⟨by rw[hn];rfl,k [] F H (Step.refl g) rfl⟩
end
structure Sg where
 fns:List (be×Nat)
 con:List (be×Dat)
structure Sc where
 N:List be
 nm:List (be×kZ)
 top:Bool
noncomputable def l5:List be:=["len","range","zip","all","any","isinstance","list","tuple","reversed","int","bool","str","sorted","set","min","max","enumerate","sum","dict","abs"]
noncomputable def tj(x:be):List be->Option Nat
 |[]=>b_
 |y::r=>if y=x then a_ 0 else(tj x r).map (·+ 1)
set_option tactic.hygienic true
theorem iq:∀{N:List be}{i:Nat},tj x N=a_ i->N[i]?=a_ x
 |[],_,h=>by cases h
 |y::r,i,h=>by
   have h:(if y=x then a_ 0 else(tj x r).map (·+ 1))=a_ i:=h;split at h
   .cases h;rename_i e;subst e;rfl
   .obtain⟨j,h1,rfl⟩:=dY h;exact(dF ..).trans (iq h1)
noncomputable def Mp(x:be):Nat->List (be×Nat)->Option (Nat×Nat)
 |_,[]=>b_
 |k,y::r=>if y.1=x then a_ (k,y.2)else Mp x (k+1) r
theorem B0:∀{L:List (be×Nat)}{k j n:Nat},Mp x k L=a_ (j,n)->∃i,j=k+i/\L[i]?=a_ (x,n)
 |[],_,_,_,h=>by cases h
 |y::r,k,j,n,h=>by
   have h:(if y.1=x then a_ (k,y.2)else Mp x (k+1) r)=a_ (j,n):=h;split at h
   .cases h;rename_i e;subst e;exact⟨0,rfl,rfl⟩
   .obtain⟨i,e1,e2⟩:=B0 h;exact⟨i+1,aC (gm (ae e1)) (gm (ae e1.symm)),(dF ..).trans e2⟩
set_option tactic.hygienic false
def lP(x:be):Bool:=!(x == ("__debug__":be)) && !(x == ("__classdict__":be)) && !(x == ("__name__":be))
noncomputable def aao:Option kZ->Bool
 |some .local=>c_
 |some .cell=>c_
 |some .free=>c_
 |_=>d_
noncomputable def abd:Option kZ->Bool
 |some .local=>c_
 |some .cell=>c_
 |_=>d_
def yZ(S:Sc)(x:be):Bool:=aao (S.nm.lookup x)
def zE(S:Sc)(x:be):Bool:=abd (S.nm.lookup x)
def NA(S:Sc)(x:be):Bool:=S.nm.lookup x == a_ .globalImplicit
noncomputable def dM:a8->Bool
 |.Starred _ _=>d_
 |_=>c_
noncomputable def sP:a8->Bool
 |.Set _ _ _=>d_
 |_=>c_
noncomputable def rj:a8->Bool
 |.IfExp _ _ _ _=>d_
 |_=>c_
noncomputable def WI:C2->Option Xw
 |.Add=>a_ .add
 |.Sub=>a_ .sub
 |.Mult=>a_ .mul
 |.FloorDiv=>a_ .fdiv
 |.Mod=>a_ .mod
 |.RShift=>a_ .shr
 |.BitAnd=>a_ .band
 |_=>b_
noncomputable def ZD:CmpOp->Option ZV
 |.Eq=>a_ .eq
 |.NotEq=>a_ .ne
 |.Lt=>a_ .lt
 |.Gt=>a_ .gt
 |.Is=>a_ .isn
 |.IsNot=>a_ .nisn
 |.In=>a_ .isin
 |.NotIn=>a_ .nin
 |_=>b_
noncomputable def cTy(x:be):Option Ty:=
 if x="int" then a_ .int else if x="bool" then a_ .bool else if x="str" then a_ .str else if x="tuple" then a_ .tuple else if x="list" then a_ .list else b_
noncomputable def WH(x:be):Option ZW:=
 if x="len" then a_ .len else if x="tuple" then a_ .tuple else if x="int" then a_ .int else if x="str" then a_ .str else if x="sorted" then a_ .sorted else b_
def Bc(S:Sc)(sc:m7):List (be×kZ):=sc.names.map λp=>if(p.2 == eO && S.nm.lookup p.1 == a_ .cell)then(p.1,mG)else p
noncomputable def lU:a8->Option be
 |.Name x _=>a_ x
 |_=>b_
def gV(h:lU e=a_ x):∃p,e=.Name x p:=by
 cases e with
 |Name y p=>cases h;exact⟨p,rfl⟩
 |_=>cases h
def namesOf:List a8->Option (List be)
 |[]=>a_ []
 |e::r=>(lU e).bind λt=>(namesOf r).map λa=>t::a
def pH:a8->Option (Bool×List be)
 |.Name t _=>a_ (c_,[t])
 |.Tuple es _ _=>(namesOf es).map λa=>(d_,a)
 |_=>b_
def freeOf(sc:m7):List be:=sc.names.filterMap λp=>if p.2=.free then a_ p.1 else b_
def t7(N:List be):List be->Option (List Nat)
 |[]=>a_ []
 |x::r=>(tj x N).bind λi=>(t7 N r).map λis=>i::is
noncomputable def MO(S:Sc)(sc:m7)(tn cn:List be):Bool:=
 decide (sc.kind=.function) && sc.names.all (λy=>!decide (y.2=.cell)) && sc.names.all (λy=>!decide (y.2=.local) || decide (sc.names.lookup y.1=a_ .local))
  && sc.names.all (λy=>!decide (y.2=.free) || decide (S.nm.lookup y.1=a_ .cell) || decide (S.nm.lookup y.1=a_ .free))
  && cn.all (λx=>(decide (S.nm.lookup x=a_ .cell) || decide (S.nm.lookup x=a_ .free)) && decide (sc.names.lookup x=a_ .free))
  && decide (tn++cn).Nodup && tn.all λx=>decide (sc.names.lookup x=a_ .local)
def inner(S:Sc)(sc:m7)(tn cn:List be):Sc:=⟨tn++cn,Bc S sc,d_⟩
noncomputable def BZ(f:Ex->Ex->Ex):List Ex->Option Ex
 |[]=>b_
 | x::r=>match r with
   |[]=>a_ x
   |_::_=>(BZ f r).map (f x)
def xf(f:a8->Option Ex):List a8->Option (List Ex)
 |[]=>a_ []
 |e::r=>if dM e=c_ then(f e).bind λx=>(xf f r).map λxs=>x::xs else b_
noncomputable def kR{α:Type}:List α->Option α
 |[]=>b_
 |a::r=>if r.isEmpty=c_ then a_ a else b_
def gQ (h:kR l=a_ a):l=[a]:=by
 match l,h with
 |[b],h=>cases h;rfl
def Bk{α:Type}:List α->Option (α×α)
 |[]=>b_
 |a::r=>(kR r).map λb=>(a,b)
def rh (h:Bk l=a_ p):l=[p.1,p.2]:=by
 cases l with
 |nil=>cases h
 |cons a r=>
   obtain⟨b,h1,rfl⟩:=dY h;rw[gQ h1]
structure Ca where
 fn:a8
 args:List a8
 kws:List Keyword
 pos:xv
noncomputable def QM:a8->Option Ca
 |.Call fn args kws p=>a_ ⟨fn,args,kws,p⟩
 |_=>b_
def zY(h:QM e=a_ c):e=.Call c.fn c.args c.kws c.pos:=by
 cases e with
 |Call fn args kws p=>cases h;rfl
 |_=>cases h
def EC(e:a8):Option (be×List a8):=(QM e).bind λc=>if c.kws.isEmpty=c_ then(lU c.fn).map λx=>(x,c.args)else b_
set_option tactic.hygienic true in
def yF(h:EC e=a_ (x,args)):∃p q,e=.Call (.Name x p) args [] q:=by
 obtain⟨⟨fn,as,kws,q⟩,h0,h1⟩:=c5 h;obtain rfl:=zY h0;split at h1
 .rename_i hk;obtain⟨y,h2,h3⟩:=dY h1;cases h3;obtain⟨p,a⟩:=gV h2
  grind
 .cases h1
noncomputable def isTup:a8->Bool
 |.Tuple _ _ _=>c_
 |_=>d_
def BH(h:isTup e=c_):∃es k p,e=.Tuple es k p:=by
 cases e with
 |Tuple es k p=>exact⟨es,k,p,rfl⟩
 |_=>cases h
def RO{α:Type}:List α->Option (α×α×α)
 |[]=>b_
 |a::r=>(Bk r).map λb=>(a,b)
def Le (h:RO l=a_ p):l=[p.1,p.2.1,p.2.2]:=by
 cases l with
 |nil=>cases h
 |cons a r=>
   obtain⟨b,h1,rfl⟩:=dY h;rw[rh h1]
def ZA(S:Sc)(f:a8->Option Ex)(tg:a8)(x:be)(args:List a8):Option Iw:=
 if NA S x=c_ then(xf f args).bind λxs=>
  if x="range" then(match kR xs with
   |some a=>a_ (.rng [a])
   |none=>(RO xs).map λt=>.rng [t.1,t.2.1,t.2.2])
  else if(decide (x="zip") && isTup tg)=c_ then(Bk xs).map λp=>.zip [p.1,p.2]
  else if(decide (x="enumerate") && isTup tg)=c_ then(kR xs).map .enu else if x="reversed" then(kR xs).map .rev else b_
 else b_
def V0(x:be):Bool:=decide (x="range") || decide (x="zip") || decide (x="enumerate") || decide (x="reversed")
def LV(e:a8):Option (be×List a8):=(EC e).bind λc=>if V0 c.1=c_ then a_ c else b_
def cI(S:Sc)(f:a8->Option Ex)(tg iter:a8):Option Iw:=match LV iter with
 |some c=>ZA S f tg c.1 c.2
 |none=>(f iter).map .itv
def abD(f:a8->Option Ex):List a8->Option (List Ex)
 |[]=>a_ []
 |c::r=>if(r.isEmpty && rj c)=c_ then(f c).map λx=>[x]else b_
noncomputable def MW(f:a8->Option Ex):Option a8->Option (Option Ex)
 |none=>a_ b_
 |some e=>(f e).map a_
noncomputable def WE:Const->Option Dat
 |.int i=>a_ (.int i)
 |.bool b=>a_ (.bl b)
 |.none=>a_ .non
 |.str x=>a_ (.str x)
 |_=>b_
def Sl(G:Sg)(S:Sc)(x:be):Option Ex:=if lP x=c_ then(if yZ S x=c_ then(tj x S.N).map .v else if NA S x=c_ then(G.con.lookup x).map .con else b_)else b_
def cUn(f:a8->Option Ex)(a:a8):UnaryOp->Option Ex
 |.USub=>(f a).map .neg
 |.Not=>if rj a=c_ then(f a).map .not else b_
 |_=>b_
def WG(f:a8->Option Ex)(es:List a8):BoolOp->Option Ex
 |.And=>(xf f es).bind (BZ .and)
 |.Or=>(xf f es).bind (BZ .or)
def Sr(f:a8->Option Ex)(a:a8)(B:List CmpOp)(bs:List a8):Option Ex:=(f a).bind λc=>match kR B with
 |some op=>(kR bs).bind λb=>if sP b=c_ then(ZD op).bind λo=>(f b).map λd=>.cmp o c d else b_
 |none=>b_
def M0(f:a8->Option Ex)(ks:List (Option a8))(vs:List a8):Option Ex:=
 if(ks.isEmpty && vs.isEmpty)=c_ then a_ .qy
 else b_
noncomputable def lE:a8->Option (Option a8×Option a8×Option a8)
 |.Slice lo hi st _=>a_ (lo,hi,st)
 |_=>b_
def Zx(f:a8->Option Ex)(a b:a8):Option Ex:=(f a).bind λc=>match lE b with
 |some t=>if t.2.2.isNone=c_ then(MW f t.1).bind λd=>(MW f t.2.1).map λe=>.sl c d e else b_
 |none=>(f b).map λg=>.ix c g
def Sm(G:Sg)(S:Sc)(f:a8->Option Ex)(o:a8)(m:be)(ap:xv)(args:List a8)(cp:xv):Option Ex:=
 if(ap.endLine == cp.line)=c_ then(xf f args).bind λxs=>if baseOk o=c_ then(f o).bind λa=>(WC m args.length).map λb=>.iF b a xs else b_
 else b_
def abB(S:Sc)(f:a8->Option Ex)(args:List a8):Option Ex:=(Bk args).bind λp=>(lU p.2).bind λt=>
 if(NA S "isinstance" && NA S t && dM p.1)=c_ then(cTy t).bind λty=>(f p.1).map λa=>.blt (.isi ty) [a]else b_
def WA(S:Sc)(f:a8->Option Ex)(x y:be)(b:ZW)(args:List a8):Option Ex:=(kR args).bind λe=>(EC e).bind λc=>if c.1=y then(kR c.2).bind λa=>
 if(NA S x && NA S y && dM a)=c_ then(f a).map λd=>.blt b [d]else b_ else b_
def ZC(G:Sg)(S:Sc)(x:be)(xs:List Ex):Option Ex:=
 if(lP x && NA S x)=c_ then match Mp x 0 G.fns with
  |some a=>if xs.length=a.2 then a_ (.call a.1 xs)else b_
  | none=>match kR xs with
    |some c=>(WH x).map λb=>.blt b [c]
    |none=>(Bk xs).bind λp=>if x="max" then a_ (.bin .mx p.1 p.2)else if x="min" then a_ (.bin .mn p.1 p.2)else b_
 else b_
def ED(G:Sg)(S:Sc)(f:a8->Option Ex)(x:be)(args:List a8):Option Ex:=
 if x="isinstance" then abB S f args else match(if x="sorted" then WA S f "sorted" "set" .sset args else b_)with
  |some z=>a_ z
  |none=>(xf f args).bind (ZC G S x)
noncomputable def wm:a8->Option (a8×be×xv)
 |.Attribute o m ap=>a_ (o,m,ap)
 |_=>b_
def tD(h:wm e=a_ t):e=.Attribute t.1 t.2.1 t.2.2:=by
 cases e with
 |Attribute o m ap=>cases h;rfl
 |_=>cases h
def G5(G:Sg)(S:Sc)(f:a8->Option Ex)(fn:a8)(args:List a8)(cp:xv):Option Ex:=match wm fn with
 |some t=>Sm G S f t.1 t.2.1 t.2.2 args cp
 |none=>(lU fn).bind λx=>ED G S f x args
structure Gn where
 tg:a8
 it:a8
 ifs:List a8
def Sd(B:List Comprehension):Option Gn:=(kR B).bind λg=>if g.is_async=0 then a_ ⟨g.target,g.iter,g.ifs⟩else b_
def Sq(S:Sc)(f:Sc->a8->Option Ex)(elt:a8)(g:Gn)(sc:m7):Option Ex:=(pH g.tg).bind λt=>(t7 S.N (freeOf sc)).bind λcaps=>
 if(MO S sc t.2 (freeOf sc) && sP g.it)=c_ then
  (cI S (f S) g.tg g.it).bind λit=>(abD (f (inner S sc t.2 (freeOf sc))) g.ifs).bind λxs=>(f (inner S sc t.2 (freeOf sc)) elt).map λxe=>.comp t.2.length t.1 caps it xs xe
 else b_
noncomputable def L0:a8->Bool
 |.List _ _=>c_
 |.ListComp _ _ _ _=>c_
 |_=>d_
noncomputable def L4:C2->Bool
 |.Add=>c_
 |_=>d_
def IK(h:L4 op=c_):op=.Add:=by cases op<;>first|rfl|cases h
def QL(op:C2)(a b:a8):Bool:=L4 op && L0 a && L0 b
noncomputable def LZ:a8->Bool
 | .Constant c _ _=>match c with
   |.none=>c_
   |_=>d_
 |_=>d_
def IJ(h:LZ e=c_):∃c p,e=.Constant .none c p:=by
 cases e with
 |Constant k c p=>
   cases k with
   |none=>exact⟨c,p,rfl⟩
   |_=>cases h
 |_=>cases h
noncomputable def L1:a8->Bool
 | .Constant c _ _=>match c with
   |.int _=>c_
   |_=>d_
 |_=>d_
def WD(S:Sc)(f:a8->Option Ex)(fn:a8)(args:List a8)(kws:List Keyword):Option Ex:=(lU fn).bind λx=>(kR args).bind λa=>(kR kws).bind λk=>
 if(decide (x="min") && NA S x && dM a && LZ k.value && decide (k.arg=a_ "default"))=c_ then(f a).map .mnd else b_
def cE(G:Sg):Nat->Sc->a8->Option Ex
 |0,_,_=>b_
 | n+1,S,e=>match e with
   |.Constant c _ _=>(WE c).map .con
   |.Name x _=>Sl G S x
   |.BinOp a op b _=>if QL op a b=c_ then(cE G n S a).bind λd=>(cE G n S b).map λf=>.cat d f else(WI op).bind λo=>(cE G n S a).bind λd=>(cE G n S b).map λf=>.bin o d f
   |.UnaryOp op a _=>cUn (cE G n S) a op
   |.BoolOp op es _=>if es.all rj=c_ then WG (cE G n S) es op else b_
   |.Compare a h bs _=>Sr (cE G n S) a h bs
   |.IfExp c a b _=>if rj c=c_ then(cE G n S c).bind λi=>(cE G n S a).bind λd=>(cE G n S b).map λf=>.ite i d f else b_
   |.Tuple es _ _=>(xf (cE G n S) es).map .tup
   |.List es _=>(xf (cE G n S) es).map .lst
   |.Dict ks vs _=>M0 (cE G n S) ks vs
   |.Subscript a b _=>Zx (cE G n S) a b
   |.Call fn args kws cp=>if kws.isEmpty=c_ then G5 G S (cE G n S) fn args cp else WD S (cE G n S) fn args kws
   |.ListComp elt j sc _=>(Sd j).bind λg=>Sq S (cE G n) elt g sc
   |_=>b_
def CV(K:Fg)(d:Dat)(v:V):Prop:=(∀F,Rep K F d v)/\∀a,v=.ref a->∃o,K.lookup a=a_ o/\o.cls=.type "tuple"/\o.dict=b_
structure qB(G:Sg)(C:Fs)(S:Sc)(X:Cx):Prop where
 N:X.N=S.N
 nm:X.env.scope.names=S.nm
 kind:X.env.scope.kind=.function
 calm:X.calm=c_
 un:X.A.units+21<dc
 xe:X.xe=λ_ _=>False
 fn:S.top=c_->∀x,X.fn x=c_
 fns:∀(j:Nat)x n,G.fns[j]?=a_ (x,n)->∃k f fd ps,ot X.prog X.w X.K X.mg X.base Jl k f fd ps (TM X.K n (C j))/\nN k X.A/\X.mg x=a_ (.ref f)/\gJ X.K (.ref f)=c_/\Binds X.K fd ps []
 blt:∀x∈l5,X.mg x=b_
 con:∀x d,G.con.lookup x=a_ d->∃v u,X.mg x=a_ u/\RelV v u/\CV X.K d v
inductive Args (P:a8->Ex->Prop):List a8->List Ex->Prop
 |nil:Args P [] []
 |cons {e:a8} {es:List a8} {x:Ex} {xs:List Ex}:dM e=c_->P e x->Args P es xs->Args P (e::es) (x::xs)
def bZ (h:(if b=c_ then x else b_)=a_ y):b=c_/\x=a_ y:=by
 simp_all
section
variable{G:Sg}{C:Fs}{S:Sc}{X:Cx}{e:a8}{x:be}
def nX(T:qB G C S X)(h:yZ S x=c_):Q2 X.env.scope x:=by
 unfold yZ at h;unfold Q2;rw[T.nm]
 cases q:S.nm.lookup x with
 |none=>rw[q]at h;cases h
 |some k=>rw[q]at h;cases k<;>first|(simp;done)|cases h
def uF(T:qB G C S X)(h:zE S x=c_):L2.Loc X.env.scope x:=by
 unfold zE at h;unfold L2.Loc;rw[T.nm]
 cases q:S.nm.lookup x with
 |none=>rw[q]at h;cases h
 |some k=>rw[q]at h;cases k<;>first|(simp;done)|cases h
def lg(T:qB G C S X)(h:NA S x=c_):Gl X x:=by
 unfold Gl sv;rw[T.nm];exact beq_iff_eq.mp h
def i9(h:lP x=c_):(x == ("__debug__":be))=d_/\(x == ("__classdict__":be))=d_/\x≠"__name__":=by
 unfold lP at h
 simp_all
def cD(h:dM e=c_):aQ (e::es) env=(d_,eval e env)::aQ es env:=by
 cases e<;>first|rfl|cases h
theorem qR:∀{es:List a8},es.all dM=c_->(backTo pos (aQ es env)).any (·.1)=d_
 |[],_=>rfl
 |e::es,h=>by
   rw[eh,aj]at h;rw[cD h.1];have q:=qR (pos:=pos) (env:=env) h.2;unfold backTo at q ⊢;rw[aA,nR,q];rfl
theorem lF(hf:∀e x,f e=a_ x->P e x):∀{es:List a8}{xs:List Ex},xf f es=a_ xs->Args P es xs
 |[],_,h=>by cases h;exact .nil
 |e::r,_,h=>by
   obtain⟨hs,h⟩:=bZ h;obtain⟨x,h1,h⟩:=c5 h;obtain⟨xs,h2,rfl⟩:=dY h;exact .cons hs (hf _ _ h1) (lF hf h2)
theorem Args.sa:∀{es:List a8}{xs:List Ex},Args (SE X C) es xs->SA X C es xs
 |_,_,.nil=>o6
 |_,_,.cons hs h r=>jQ h r.sa (cD hs)
theorem Args.sf:∀{es:List a8}{xs:List Ex},Args (SE X C) es xs->SF X C es xs
 |_,_,.nil=>Kl
 |_,_,.cons hs h r=>Fl h r.sf (cD hs)
theorem Args.star:∀{es:List a8}{xs:List Ex},Args P es xs->es.all dM=c_
 |_,_,.nil=>rfl
 |_,_,.cons hs _ r=>by rw[eh,hs,r.star];rfl
theorem Args.len:∀{es:List a8}{xs:List Ex},Args P es xs->xs.length=es.length
 |_,_,.nil=>rfl
 |_,_,.cons _ _ r=>congrArg (·+ 1) r.len
def Args.one(h:Args P es [z]):∃a,es=[a]/\dM a=c_/\P a z:=by
 cases h with
 |cons s p r=>cases r;exact⟨_,rfl,s,p⟩
def Args.two(h:Args P es [z,w]):∃a b,es=[a,b]/\dM a=c_/\dM b=c_/\P a z/\P b w:=by
 cases h with
 |cons s p r=>
   obtain⟨b,rfl,s',c⟩:=r.one;exact⟨_,b,rfl,s,s',p,c⟩
def Args.three(h:Args P es [z,w,u]):∃a b c,es=[a,b,c]/\dM a=c_/\dM b=c_/\dM c=c_/\P a z/\P b w/\P c u:=by
 cases h with
 |cons s p r=>
   refine ac λ_ e=>?_;obtain⟨b,c,rfl,s',s2,d,f⟩:=r.two;refine e ?_;exact⟨_,b,c,rfl,s,s',s2,p,d,f⟩
def Dz(s:dM a=c_)(s':dM b=c_)(ha:SE X C a z)(hb:SE X C b w):SA X C [a,b] [z,w]:=jQ ha (jQ hb o6 (cD s')) (cD s)
def vb(s:dM a=c_)(s':dM b=c_):aQ [a,b] env=[(d_,eval a env),(d_,eval b env)]:=(cD s).trans (congrArg _ (cD s'))
def QU(h:WI op=a_ o):j2 X (binaryOp op) (gB X.K (gp o)):=by
 cases op<;>first|(cases h;first|exact PD|exact Po|exact Pt|exact La|exact Pu|exact Pp|exact PC)|cases h
def G4(B:X.A.units+21<dc)(h:ZD op=a_ o):j2 X (compareOp op) (gB X.K (rM o)):=by
 cases op<;>first|(cases h;first|exact U6 (aD B)|exact UZ (by omega)|exact U2|exact U5|exact op_geD|exact Pw|exact K9|exact U4 B|exact Pr B)|cases h
def Ln(h:sP b=c_):behindInMarks op b=d_:=by
 cases b<;>first|rfl|cases h
def OI(ha:SE X C a xa):SE X C (.UnaryOp .Not a pos) (.not xa):=by
 rintro h_ s σ H Q I ⟨ρ,d,fr,h,F,g,R,k⟩;refine ac λ_ e=>?_;obtain⟨⟨da,i⟩,h1,h⟩:=c5 h;obtain⟨b,hb,h⟩:=dY h;cases h;refine e ?_;refine UnaryOp_ (iR (ha h_ s σ H (λv f=>∃F1,Step F H F1 f/\Rep X.K F1 da v) I ⟨ρ,da,i,h1,F,g,R,λv F1 f st r _=>⟨F1,st,r⟩⟩) λv s1 ⟨x,f,j,l,F1,st,r⟩=>?_);refine not_of (iR (JY h_ s1 σ f x v (λc H2=>c=b/\H2=f) j l ⟨b,E5 st.good r hb,rfl,rfl⟩) ?_);rintro c s2 ⟨H2,m,rfl,rfl⟩;exact⟨.bl (!c),H2,m,rfl,k _ F1 H2 st rfl aZ⟩
def Xb(X:Cx)(C:Fs)(e:a8)(x:Ex):Prop:=SE X C e x/\(rj e=c_->ST X C e x)
theorem yv:∀{es:List a8}{xs:List Ex}{x:Ex},Args (Xb X C) es xs->es.all rj=c_->BZ .and xs=a_ x->SE X C (.BoolOp .And es pos) x/\SW X C (.BoolOp .And es pos) x
 |_,_,_,.nil,_,h=>by cases h
 |_,_,_,.cons _ p .nil,n,h=>by
   rw[eh,aj]at n;cases h;exact⟨Fu p.1,Oe (p.2 n.1)⟩
 |_,_,_,.cons _ p (.cons s q r),n,h=>by
   rw[eh,aj]at n;obtain⟨z,h1,rfl⟩:=dY h;obtain⟨a,i2⟩:=yv (.cons s q r) n.2 h1;exact⟨Uq p.1 a,S7 (p.2 n.1) i2⟩
theorem BY:∀{es:List a8}{xs:List Ex}{x:Ex},Args (Xb X C) es xs->es.all rj=c_->BZ .or xs=a_ x->SE X C (.BoolOp .Or es pos) x/\SW X C (.BoolOp .Or es pos) x
 |_,_,_,.nil,_,h=>by cases h
 |_,_,_,.cons _ p .nil,n,h=>by
   rw[eh,aj]at n;cases h;exact⟨Fu p.1,S6 (p.2 n.1)⟩
 |_,_,_,.cons _ p (.cons s q r),n,h=>by
   rw[eh,aj]at n;obtain⟨z,h1,rfl⟩:=dY h;obtain⟨a,i2⟩:=BY (.cons s q r) n.2 h1;exact⟨X3 p.1 a,XR (p.2 n.1) i2⟩
set_option tactic.hygienic true
def ON(T:qB G C S X)(hb:WH x=a_ bt)(hp:lP x=c_)(B:NA S x=c_)(hs:dM e=c_)(he:SE X C e xa):SE X C (.Call (.Name x p) [e] [] pos) (.blt bt [xa]):=by
 have h1:aQ [e] X.env=(d_,eval e X.env)::aQ [] X.env:=cD hs;have ha:SA X C [e] [xa]:=jQ he o6 h1;obtain⟨d1,d2,d3⟩:=i9 hp;have a:=lg T B;unfold WH at hb;split at hb
 .rename_i q;refine ac λ_ b=>?_;subst q;cases hb;refine b ?_;exact Ft Jd a (T.blt _ (by decide +kernel)) PySem.boot_len ha d3 d1 h1 rfl
 split at hb
 .rename_i q;refine ac λ_ b=>?_;subst q;cases hb;refine b ?_;exact zm Co a (T.blt _ (by decide +kernel)) (by decide +kernel) ha d3 d1 h1 rfl
 split at hb
 .rename_i q;subst q;cases hb;exact zm Jf a (T.blt _ (by decide +kernel)) (by decide +kernel) ha d3 d1 h1 rfl
 split at hb
 .rename_i q;subst q;cases hb;exact zm Jc a (T.blt _ (by decide +kernel)) (by decide +kernel) ha d3 d1 h1 rfl
 split at hb
 .rename_i q;subst q;cases hb;exact Ft (zW T.un T.calm) a (T.blt _ (by decide +kernel)) (by decide +kernel) ha d3 d1 h1 rfl
 .cases hb
def QS(T:qB G C S X)(ha:Args (SE X C) es xs)(h:ZC G S x xs=a_ z):SE X C (.Call (.Name x p) es [] pos) z:=by
 obtain⟨hp,h⟩:=bZ h;rw[aj]at hp;obtain⟨d1,d2,d3⟩:=i9 hp.1
 cases g:Mp x 0 G.fns with
 |some u=>
   obtain⟨j,n⟩:=u;rw[g]at h;have h:(if xs.length=n then a_ (Ex.call j xs)else b_)=a_ z:=h;split at h
   .rename_i l;cases h;obtain⟨i,e1,e2⟩:=B0 g;obtain⟨k,f,fd,ps,F,m,o,hk,hb⟩:=T.fns i x n e2;rw[jo]at e1;subst e1
    cases ha with
    |nil=>exact Ko j n F m (lg T hp.2) o hk hb l.symm d1
    |cons hs he r=>exact OM j n F m (lg T hp.2) o hk hb (jQ he r.sa (cD hs)) l d1 (cD hs) (qR r.star)
   .cases h
 |none=>
   rw[g]at h
   cases ho:kR xs with
   |some s=>
     obtain rfl:=gQ ho;obtain⟨b,h1,rfl⟩:=dY h;obtain⟨e,rfl,hs,he⟩:=ha.one;exact ON T h1 hp.1 hp.2 hs he
   |none=>
     rw[ho]at h;obtain⟨⟨s,v⟩,h1,c⟩:=c5 h;clear h;obtain rfl:xs=[s,v]:=rh h1;obtain⟨a,b,rfl,hs,d,he,hb⟩:=ha.two
     .have t:=Dz hs d he hb;have h2:(backTo pos (aQ [b] X.env)).any (·.1)=d_:=qR (by simp[d]);split at c
      .rename_i q;subst q;cases c;exact Kn (EB T.calm) (lg T hp.2) (T.blt _ (by decide +kernel)) (by decide +kernel) t d3 d1 (cD hs) h2
      split at c
      .rename_i q;subst q;cases c;exact Kn (EA T.calm) (lg T hp.2) (T.blt _ (by decide +kernel)) (by decide +kernel) t d3 d1 (cD hs) h2
      .cases c
def Wz(h:cTy t=a_ ty):bootBuiltins t=a_ (.type (tyName ty))/\t∈l5/\(t == ("__debug__":be))=d_/\t≠"__name__":=by
 unfold cTy at h
 repeat' (split at h;(rename_i q;subst q;cases h;exact⟨by decide +kernel,by decide +kernel,by decide +kernel,by decide +kernel⟩))
 cases h
def Sn{iter:a8}(T:qB G C S X)(hf:∀e x,f e=a_ x->SE X C e x)(h:cI S f tg iter=a_ it):SI X C tg iter it/\∀a,it=.itv a->SE X C iter a:=by
 unfold cI at h
 cases hi:LV iter with
 |none=>
   rw[hi]at h;obtain⟨x,h1,rfl⟩:=dY h;exact⟨TX (hf _ _ h1),λa z=>by cases z;exact hf _ _ h1⟩
 |some c=>
   rw[hi]at h;obtain⟨x,args⟩:=c;obtain⟨o,h1,h2⟩:=c5 hi;obtain⟨_,h2⟩:=bZ h2;obtain rfl:o=(x,args):=bG h2;obtain⟨p,q,rfl⟩:=yF h1;obtain⟨r,h3⟩:=bZ h;clear h h1 h2 hi;obtain⟨xs,m,g⟩:=c5 h3;have ha:=lF hf m;clear h3 m;have l:=lg T r;split at g
   .rename_i e;subst e
    cases ho:kR xs with
    |some n=>
      rw[ho]at g;cases g;obtain rfl:=gQ ho;obtain⟨a,rfl,hs,he⟩:=ha.one;exact⟨OE l (T.blt _ (by decide +kernel)) (jQ he o6 (cD hs)) (cD hs),λa z=>nomatch z⟩
    |none=>
      rw[ho]at g;refine ac λ_ t=>?_;obtain⟨p,i,rfl⟩:=dY g;obtain rfl:=Le i;obtain⟨a,b,c,rfl,hs,d,j,he,hb,hc⟩:=ha.three;refine t ?_;exact⟨OD l (T.blt _ (by decide +kernel)) (jQ he (Dz d j hb hc) (cD hs)) ((cD hs).trans (congrArg _ (vb d j))) (vb d j),λa z=>nomatch z⟩
   split at g
   .rename_i e;simp only[aj,decide_eq_true_eq]at e;obtain⟨rfl,ht⟩:=e;obtain⟨p,i,rfl⟩:=dY g;obtain rfl:=rh i;obtain⟨s,k,tp,rfl⟩:=BH ht;obtain⟨a,b,rfl,hs,d,he,hb⟩:=ha.two;exact⟨TV l (T.blt _ (by decide +kernel)) (Dz hs d he hb) (vb hs d) (cD d),λa z=>nomatch z⟩
   split at g
   case isFalse=>
    split at g
    .rename_i e;subst e;obtain⟨n,i,rfl⟩:=dY g;obtain rfl:=gQ i;obtain⟨a,rfl,hs,he⟩:=ha.one;exact⟨TY l (T.blt _ (by decide +kernel)) (jQ he o6 (cD hs)) (cD hs),λa z=>nomatch z⟩
    .cases g
   .rename_i e;simp only[aj,decide_eq_true_eq]at e;obtain⟨rfl,ht⟩:=e;obtain⟨s,k,tp,rfl⟩:=BH ht;obtain⟨n,i,rfl⟩:=dY g;obtain rfl:=gQ i;obtain⟨a,rfl,hs,he⟩:=ha.one;exact⟨TZ l (T.blt _ (by decide +kernel)) (jQ he o6 (cD hs)) (cD hs),λa z=>nomatch z⟩
set_option tactic.hygienic false
def kA(h:sP e=c_):∀v,foldedSetIterable e X.env v=pure v:=λv=>by
 cases e<;>first|rfl|cases h
theorem Cm:∀{cn:List be}{is:List Nat},t7 N cn=a_ is->is.map (λj=>N[j]?)=cn.map a_
 |[],_,h=>by cases h;rfl
 |x::r,_,h=>by
   obtain⟨i,h1,h⟩:=c5 h;obtain⟨is,h2,rfl⟩:=dY h;rw[aA,aA,iq h1,Cm h2]
theorem lookup_mem:∀{L:List (be×kZ)},L.lookup x=a_ k->(x,k)∈L
 |[],h=>by cases h
 |(y,j)::r,h=>by
   rw[fP]at h;split at h
   .simp_all
   .exact ki _ (lookup_mem h)
structure Hf(S:Sc)(sc:m7)(tn cn:List be):Prop where
 kind:sc.kind=.function
 nocell:∀y∈sc.names,y.2≠.cell
 locs:∀y∈sc.names,y.2=.local->sc.names.lookup y.1=a_ .local
 frees:∀y∈sc.names,y.2=.free->S.nm.lookup y.1=a_ .cell\/S.nm.lookup y.1=a_ .free
 capk:∀x∈cn,(S.nm.lookup x=a_ .cell\/S.nm.lookup x=a_ .free)/\sc.names.lookup x=a_ .free
 nd:(tn++cn).Nodup
 tl:∀x∈tn,sc.names.lookup x=a_ .local
def MN(h:MO S sc tn cn=c_):Hf S sc tn cn:=by
 unfold MO at h;simp only[aj,bF,decide_eq_true_eq,lH,nj,decide_eq_false_iff_not]at h;obtain⟨⟨⟨⟨⟨⟨h1,h2⟩,h3⟩,b⟩,h5⟩,c⟩,d⟩:=h;refine⟨h1,h2,λy a e=>?_,λy a e=>?_,h5,c,d⟩
 .rcases h3 y a with z|z
  .exact absurd e z
  .exact z
 .rcases b y a with(z|z)|z
  .exact absurd e z
  .exact .inl z
  .exact .inr z
def zS(T:qB G C S X)(h:Hf S sc tn cn)(hc:t7 S.N cn=a_ caps):jF X sc tn cn caps where
 kind:=h.kind
 nocell:=h.nocell
 locs:=h.locs
 frees:=λy b e=>by unfold sv;rw[T.nm];exact h.frees y b e
 nofree:=λx e=>lookup_mem e
 caps:=by rw[T.N];exact Cm hc
 capk:=λx a=>by unfold sv;rw[T.nm];exact(h.capk x a).1
 capn:=λx a=>(h.capk x a).2
def sy(T:qB G C S X)(h:Hf S sc tn cn)(cl:List (be×aI))(B:ak)(O:Hp)(Ca:aI)(ex:List aI):qB G C (inner S sc tn cn) (fx X sc cl (tn++cn) B O Ca ex) where
 N:=rfl
 nm:=by
  show(relabel sc X.env).names=Bc S sc;unfold relabel Bc sv;rw[T.nm,T.kind];refine cQ λp _=>?_;obtain⟨n,k⟩:=p;dsimp only;rw[show(Aw == Aw)=c_ from rfl,iM]
 kind:=h.kind
 calm:=T.calm
 un:=T.un
 xe:=rfl
 fn:=λz=>nomatch z
 fns:=T.fns
 blt:=T.blt
 con:=T.con
end
section
variable{G:Sg}{C:Fs}{S:Sc}{X:Cx}{e:a8}{x:be}{f:a8->Option Ex}
def K2(T:qB G C S Y)(B:S.N.Nodup)(hi:S.N[i]?=a_ t)(hl:S.nm.lookup t=a_ .local):PG Y (.Name t p) (lp i):=by
 refine FP (by rw[T.N];exact B) (by rw[T.N];exact hi) ?_ (.inr (by rw[T.nm];exact hl));unfold L2.Loc;rw[T.nm];exact .inl hl
def rm{sc:m7}(h:sc.names.lookup x=a_ .local):(Bc S sc).lookup x=a_ .local:=by
 unfold Bc;generalize sc.names=L at h
 induction L with
 |nil=>cases h
 |cons p r a=>
   obtain⟨y,k⟩:=p;rw[fP]at h;rw[aA];by_cases hc:(k == eO && S.nm.lookup y == a_ .cell)=c_
   .dsimp only;rw[if_pos hc,fP];split at h
    .simp_all
    .exact a h
   .rw[if_neg hc,fP];split at h
    .exact h
    .exact a h
theorem n8:∀{es:List a8}{tn:List be},namesOf es=a_ tn->(assignEach es env).length=es.length/\(assignEach es env).findIdx? (·.1)=b_/\tn.length=es.length
 |[],tn,h=>by cases h;exact⟨rfl,rfl,rfl⟩
 |e::es,tn,h=>by
   obtain⟨t,h0,h⟩:=c5 h;obtain⟨a,h1,rfl⟩:=dY h;obtain⟨p,rfl⟩:=gV h0;obtain⟨b,c,d⟩:=n8 (env:=env) h1;have e1:assignEach (.Name t p::es) env=(d_,assign (.Name t p) env)::assignEach es env:=rfl;rw[e1];refine⟨by simp[b],?_,by simp[d]⟩;rw[List.findIdx?_cons];simp[c]
def gK:Nat->Nat->SH
 |_,0=>IS
 |k,n+1=>yr (lp k) (gK (k+1) n)
theorem GF:∀n k x σ H Q Q',(∀σ2 H2,Q σ2 H2->Q' σ2 H2)->gK k n x σ H Q->gK k n x σ H Q'
 |0,_=>IQ
 |n+1,k=>Ef vT (GF n (k+1))
theorem BU:∀n k,k+n<=nt->wo nt (gK k n)
 |0,_,_=>HF
 |n+1,k,h=>Dj vT (GF n (k+1)) (uZ (aq (aW _ _) h)) (BU n (k+1) (gm h))
theorem Mn{K:Fg}:∀(ds:List Dat)(vs:List V)(k:Nat)(σ:St)(ρ:iy)(Q:St->Hp->Prop),c9 K F ds vs->nO K F σ ρ->σ.length=ρ.length->(∀B,nO K F B (zl k ds ρ)->Q B H)->gK k ds.length vs σ H Q
 |[],vs,k,σ,ρ,Q,r,R,hl,q=>⟨r,q σ R⟩
 |d::ds,vs,k,σ,ρ,Q,r,R,hl,q=>by
   obtain⟨v,w,rfl,a,b⟩:=r;exact⟨v,w,rfl,Mn ds w (k+1) _ _ Q b (Bd hl R a) (by simpa using hl) q⟩
set_option tactic.hygienic true
def J1{K:Fg}:WW K n d_ (Mj K n (gK 0 n)):=λF H σ ρ d x ρ1 Q g R c hl r hb k=>by
 cases d with
 |tup ds=>
   have hb:(if ds.length=n then a_ (zl 0 ds ρ)else b_)=a_ ρ1:=hb;split at hb
   .rename_i b;cases hb;obtain⟨a,vs,rfl,t,r⟩:=r;subst b;exact⟨a,vs,rfl,(t.mono g.sub).sq,r.length,Mn ds vs 0 σ ρ Q r R hl k⟩
   .cases hb
 |_=>cases hb
theorem Bg(T:qB G C S Y)(nd:S.N.Nodup):∀{es:List a8}{tn:List be}(k:Nat),namesOf es=a_ tn->(∀i t,tn[i]?=a_ t->S.N[k+i]?=a_ t)->(∀t∈tn,S.nm.lookup t=a_ .local)->Xt Y es (gK k es.length)
 |[],_,_,_,_,_=>FO
 |e::es,tn,k,h,hi,hl=>by
   obtain⟨t,h0,h⟩:=c5 h;obtain⟨a,h1,rfl⟩:=dY h;obtain⟨p,rfl⟩:=gV h0;refine Bh (K2 T nd (hi 0 t rfl) (hl t jy)) (Bg T nd (k+1) h1 (λi t' e=>?_) λt' m=>hl t' (ki _ m));rw[show k+1+i=k+(i+1)from(jN _ _ _)]
   simp_all
def XF(T:qB G C S X)(ht:pH tg=a_ (one,tn))(h:Hf S sc tn (freeOf sc)) :
  ∃g,qd tn.length g/\WW X.K tn.length one g/\∀(cl:List (be×aI))(B:ak)(O:Hp)(Ca:aI)(ex:List aI),PG (fx X sc cl (tn++freeOf sc) B O Ca ex) tg g:=by
 cases tg with
 |Name t p=>
   cases ht;exact ⟨lp 0,uZ (by simp),Oc,λcl B O Ca ex=>K2 (sy T h cl B O Ca ex) h.nd rfl (rm (h.tl t (by simp)))⟩
 |Tuple es k pos=>
   obtain⟨b,h1,h2⟩:=dY ht;cases h2;refine⟨Mj X.K tn.length (gK 0 tn.length),HE (BU _ 0 (fD (ao _) (aM _))),J1,λcl B O Ca ex=>?_⟩;have a:=sy T h cl B O Ca ex;have n:=n8 (env:=(fx X sc cl (tn++freeOf sc) B O Ca ex).env) h1;have q:=Bg a h.nd 0 h1 (λi t e=>by rw[jo];exact(a9 (aR.mp e).1).trans e) λt m=>rm (h.tl t m);rw[<-n.2.2]at q;exact KZ a.calm q (n.1.trans n.2.2.symm) n.2.1
 |_=>cases ht
def Ih(G:Sg)(C:Fs)(f:Sc->a8->Option Ex):Prop:=∀S e x,f S e=a_ x->∀X,qB G C S X->Xb X C e x
def Cq(T:qB G C S X)(h:Sl G S x=a_ z):SE X C (.Name x p) z:=by
 obtain⟨hp,h⟩:=bZ h;obtain⟨d1,d2,d3⟩:=i9 hp;split at h
 .rename_i a;obtain⟨i,h1,rfl⟩:=dY h;exact T7 i (by rw[T.N];exact iq h1) (nX T a) d1 d2
 .obtain⟨d,h1,rfl⟩:=dY (bZ h).2;obtain⟨v,u,c,r,hd⟩:=T.con x d h1;exact OJ (lg T (bZ h).1) c r hd.1 d1
def M1{bs:List a8}(T:qB G C S X)(hf:∀e x,f e=a_ x->SE X C e x)(h:Sr f a ops bs=a_ z):SE X C (.Compare a ops bs pos) z/\ST X C (.Compare a ops bs pos) z:=by
 obtain⟨k,h1,d⟩:=c5 h;clear h
 cases ho:kR ops with
 |some op=>
   obtain rfl:=gQ ho;obtain⟨b,h2,g⟩:=c5 d;obtain rfl:=gQ h2;obtain⟨hs,i⟩:=bZ g;obtain⟨o,c,j⟩:=c5 i;obtain⟨l,h3,rfl⟩:=dY j;exact⟨Ul (G4 T.un c) (hf _ _ h1) (hf _ _ h3) (Ln hs),Tn (G4 T.un c) (hf _ _ h1) (hf _ _ h3) (Ln hs)⟩
 |none=>
   simp_all
def Cr(hf:∀e x,f e=a_ x->SE X C e x)(h:M0 f ks vs=a_ z):SE X C (.Dict ks vs pos) z:=by
 unfold M0 at h;split at h
 .rename_i q;simp only[aj,ji]at q;obtain⟨rfl,rfl⟩:=q;cases h;exact OK
 .cases h
def Cp(hf:∀e x,f e=a_ x->SE X C e x)(h:MW f o=a_ z):SO X C o z:=by
 cases o with
 |none=>cases h;exact Ox
 |some e=>
   obtain⟨y,h1,rfl⟩:=dY h;exact Ov (hf _ _ h1)
def Ds{lo st:Option a8}(h:lE b=a_ (lo,hi,st)):∃p,b=.Slice lo hi st p:=by
 cases b with
 |Slice a c d p=>cases h;exact⟨p,rfl⟩
 |_=>cases h
def nZ(h:lE b=b_):Ac b:=by
 cases b<;>first|(intro o i;rfl)|cases h
def G3(T:qB G C S X)(hf:∀e x,f e=a_ x->SE X C e x)(h:Zx f a b=a_ z):SE X C (.Subscript a b pos) z:=by
 obtain⟨i,h1,h⟩:=c5 h
 cases hs:lE b with
 |some t=>
   rw[hs]at h;obtain⟨lo,hi,st⟩:=t;obtain⟨j,h2,g⟩:=c5 (bZ h).2;obtain⟨k,h3,rfl⟩:=dY g;obtain⟨p,rfl⟩:=Ds hs
   cases st with
   |none=>exact X2 (hf _ _ h1) (Cp hf h2) (Cp hf h3)
   |some _=>cases (bZ h).1
 |none=>
   rw[hs]at h;refine ac λ_ c=>?_;obtain⟨l,h2,rfl⟩:=dY h;refine c ?_;exact X7 (abh (aq (qj T.un) br)) (hf _ _ h1) (hf _ _ h2) (nZ hs)
def MY(T:qB G C S X)(hf:∀e x,f e=a_ x->SE X C e x)(h:Sm G S f o m ap es cp=a_ z):SE X C (.Call (.Attribute o m ap) es [] cp) z:=by
 obtain⟨a,h⟩:=bZ h;obtain⟨xs,h1,h⟩:=c5 h;have ha:=lF hf h1;obtain⟨hb,h⟩:=bZ h;obtain⟨b,h0,h⟩:=c5 h;obtain⟨c,h2,rfl⟩:=dY h;have hs:=ha.star;exact QQ (by have:=T.un;omega) h2 (hf _ _ h0) ha.sa ha.len (λe z=>by subst z;exact cD (by simpa using hs)) (λe e2 z=>by subst z;have q:=bF.mp hs;exact⟨cD (q e (by simp)),cD (q e2 (by simp))⟩) hb a
def QN(T:qB G C S X)(hf:∀e x,f e=a_ x->SE X C e x)(h:WA S f x y bt es=a_ z)
  (hl:∀a B(p q O pos:xv),dM a=c_->Gl X x->Gl X y->SE X C a B->SE X C (.Call (.Name x p) [.Call (.Name y q) [a] [] O] [] pos) (.blt bt [B])):SE X C (.Call (.Name x p) es [] pos) z:=by
 obtain⟨e,h1,c⟩:=c5 h;obtain⟨⟨d,as⟩,h2,b⟩:=c5 c;obtain⟨q,O,rfl⟩:=yF h2;obtain rfl:=gQ h1;split at b
 .rename_i g;obtain rfl:d=y:=g;obtain⟨a,h3,i⟩:=c5 b;obtain rfl:as=[a]:=gQ h3;obtain⟨hc,j⟩:=bZ i;simp only[aj]at hc;obtain⟨B,k,rfl⟩:=dY j;exact hl a B _ _ _ _ hc.2 (lg T hc.1.1) (lg T hc.1.2) (hf _ _ k)
 .cases b
def Jh(T:qB G C S X)(hf:∀e x,f e=a_ x->SE X C e x)(h:ED G S f x es=a_ z):SE X C (.Call (.Name x p) es [] pos) z:=by
 unfold ED at h;split at h
 .rename_i b;subst b;obtain⟨⟨a,t'⟩,h1,c⟩:=c5 h;obtain rfl:es=[a,t']:=rh h1;obtain⟨t,h2,d⟩:=c5 c;obtain⟨i,h5⟩:=gV h2;obtain rfl:t'=.Name t i:=h5;obtain⟨hc,j⟩:=bZ d;simp only[aj]at hc;obtain⟨ty,h3,k⟩:=c5 j;obtain⟨l,m,rfl⟩:=dY k;obtain⟨b1,b2,b3,b4⟩:=Wz h3;exact Ug ty (lg T hc.1.1) (T.blt _ (by decide +kernel)) (lg T hc.1.2) (T.blt _ b2) b1 (hf _ _ m) b4 b3 (cD hc.2) (qR (by rfl))
 .generalize g:(if x="sorted" then WA S f "sorted" "set" .sset es else b_)=w at h
  cases w with
  |some w=>
    cases h;split at g
    .rename_i b;subst b;exact QN T hf g λa l _ _ _ _ hs c d ha=>OH T.un T.calm c (T.blt _ (by decide +kernel)) d (T.blt _ (by decide +kernel)) ha (by rw[cD hs];rfl)
    .cases g
  |none=>
    obtain⟨xs,h1,h⟩:=c5 h;exact QS T (lF hf h1) h
def Ct(T:qB G C S X)(hf:∀e x,f e=a_ x->SE X C e x)(h:G5 G S f fn es pos=a_ z):SE X C (.Call fn es [] pos) z:=by
 unfold G5 at h
 cases a:wm fn with
 |some t=>
   obtain rfl:=tD a;exact MY T hf h
 |none=>
   rw[a]at h;obtain⟨x,h1,h⟩:=c5 h;obtain⟨p,rfl⟩:=gV h1;exact Jh T hf h
def BS(h:Sd gs=a_ g):gs=[⟨g.tg,g.it,g.ifs,0⟩]:=by
 obtain⟨c,h1,a⟩:=c5 h;obtain rfl:=gQ h1;split at a
 .rename_i b;cases a;cases c;cases b;rfl
 .cases a
set_option tactic.hygienic false
def Cs(Z:Ih G C F)(T:qB G C S X)(h:Sq S F elt g sc=a_ z) :
  ∃tn caps one it xs xe Y,z=.comp tn caps one it xs xe/\∃tl:List be,tl.length=tn/\jF X sc tl (freeOf sc) one/\SI X C g.tg g.it it/\qd tl.length Y/\WW X.K tl.length caps Y/\
   (∀(cl:List (be×aI))(B:ak)(O:Hp)(Ca:aI)(ex:List aI),PG (fx X sc cl (tl++freeOf sc) B O Ca ex) g.tg Y/\ND (fx X sc cl (tl++freeOf sc) B O Ca ex) g.ifs (Xl X.K C xs)/\SE (fx X sc cl (tl++freeOf sc) B O Ca ex) C elt xe)/\sP g.it=c_:=by
 obtain⟨⟨one,tn⟩,h0,h⟩:=c5 h;obtain⟨caps,h1,h⟩:=c5 h;obtain⟨hc,h⟩:=bZ h;simp only[aj]at hc;obtain⟨it,h2,h⟩:=c5 h;obtain⟨xs,h3,h⟩:=c5 h;obtain⟨xe,k,rfl⟩:=dY h;have d:=MN hc.1;obtain⟨Y,a,i,l⟩:=XF T h0 d;refine⟨_,_,_,it,xs,xe,Y,rfl,tn,rfl,zS T d h1,(Sn T (λe x q=>(Z _ _ _ q X T).1) h2).1,a,i,λcl B O Ca ex=>?_,hc.2⟩;have j:=sy T d cl B O Ca ex;refine⟨l cl B O Ca ex,?_,(Z _ _ _ k _ j).1⟩;generalize g.ifs=ifs at h3
 cases ifs with
 |nil=>cases h3;exact Oh
 |cons c r=>
   obtain⟨b,h5⟩:=bZ h3;simp only[aj,ji]at b;obtain⟨rfl,b⟩:=b;obtain⟨y,m,rfl⟩:=dY h5;exact Og ((Z _ _ _ m _ j).2 b)
def QR(T:qB G C S X)(hf:∀e x,f e=a_ x->SE X C e x)(h:WD S f fn args kws=a_ z):SE X C (.Call fn args kws pos) z:=by
 obtain⟨x,h1,h⟩:=c5 h;obtain⟨a,h2,h⟩:=c5 h;obtain⟨k,h3,h⟩:=c5 h;obtain⟨hc,h⟩:=bZ h;obtain⟨j,d,rfl⟩:=dY h;simp only[aj,decide_eq_true_eq]at hc;obtain⟨⟨⟨⟨rfl,g⟩,hs⟩,i⟩,hk⟩:=hc;obtain⟨p,rfl⟩:=gV h1;obtain rfl:=gQ h2;obtain rfl:=gQ h3;obtain⟨l,m,kp⟩:=k;obtain⟨c,cp,rfl⟩:=IJ i;cases hk;have b:=cD (es:=[]) (env:=X.env) hs;exact Uc T.calm (lg T g) (T.blt _ (by decide +kernel)) (jQ (hf _ _ d) o6 b) b
theorem yG:∀n,Ih G C (cE G n)
 |0=>λ_ _ _ h=>by cases h
 |n+1=>λS e z h X T=>by
   have s:=λe x h=>yG n S e x h X T;have hf:=λe x h=>(s e x h).1
   cases e with
   |Constant c k p=>
     obtain⟨d,h1,rfl⟩:=dY h
     have q:SE X C (.Constant c k p) (.con d):=by
      cases c<;>first|(cases h1;first|exact Uh|exact X8|exact Ua|exact T9)|cases h1
     exact⟨q,λ_=>k8 q⟩
   |Name x p=>exact⟨Cq T h,λ_=>k8 (Cq T h)⟩
   |BinOp a op b p=>
     have h:(if QL op a b=c_ then(cE G n S a).bind λl=>(cE G n S b).map λm=>Ex.cat l m else(WI op).bind λo=>(cE G n S a).bind λl=>(cE G n S b).map λm=>.bin o l m)=a_ z:=h;by_cases hc:QL op a b=c_
     .rw[if_pos hc]at h;obtain⟨l,h1,h⟩:=c5 h;obtain⟨m,h2,rfl⟩:=dY h;simp only[QL,aj]at hc;obtain rfl:=IK hc.1.1;have q:=Um (pos:=p) (hf _ _ h1) (hf _ _ h2);exact⟨q,λ_=>k8 q⟩
     rw[if_neg hc]at h;obtain⟨o,h0,h⟩:=c5 h;obtain⟨l,h1,h⟩:=c5 h;obtain⟨m,h2,rfl⟩:=dY h;have q:=Uo (pos:=p) (QU h0) (hf _ _ h1) (hf _ _ h2);exact⟨q,λ_=>k8 q⟩
   |UnaryOp op a p=>
     cases op with
     |USub=>
       obtain⟨l,h1,rfl⟩:=dY h;have q:=Ub (pos:=p) (hf _ _ h1);exact⟨q,λ_=>k8 q⟩
     |Not=>
       obtain⟨r,h⟩:=bZ h;obtain⟨l,h1,rfl⟩:=dY h;exact⟨OI (hf _ _ h1),λ_=>Th ((s _ _ h1).2 r)⟩
     |_=>cases h
   |BoolOp op es p=>
     obtain⟨r,h⟩:=bZ h
     cases op with
     |And=>
       obtain⟨xs,h1,h⟩:=c5 h;have q:=yv (pos:=p) (lF s h1) r h;exact⟨q.1,λ_=>q.2.pt⟩
     |Or=>
       obtain⟨xs,h1,h⟩:=c5 h;have q:=BY (pos:=p) (lF s h1) r h;exact⟨q.1,λ_=>q.2.pt⟩
   |Compare a u bs p=>
     have q:=M1 (pos:=p) T hf h;exact⟨q.1,λ_=>q.2⟩
   |IfExp c a b p=>
     obtain⟨r,h⟩:=bZ h;obtain⟨D,h1,h⟩:=c5 h;obtain⟨l,h2,h⟩:=c5 h;obtain⟨m,h3,rfl⟩:=dY h;exact⟨Ue ((s _ _ h1).2 r) (hf _ _ h2) (hf _ _ h3),λz=>by cases z⟩
   |Tuple es k p=>
     obtain⟨xs,h1,rfl⟩:=dY h;have q:=T8 (x1:=k) (pos:=p) (lF hf h1).sf;exact⟨q,λ_=>k8 q⟩
   |List es p=>
     obtain⟨xs,h1,rfl⟩:=dY h;have q:=Ud (pos:=p) (lF hf h1).sf;exact⟨q,λ_=>k8 q⟩
   |Dict ks vs p=>exact⟨Cr hf h,λ_=>k8 (Cr hf h)⟩
   |Subscript a b p=>exact⟨G3 T hf h,λ_=>k8 (G3 T hf h)⟩
   |Call fn args kws cp=>
     by_cases hk:kws.isEmpty=c_
     .cases kws with
      |nil=>exact⟨Ct T hf h,λ_=>k8 (Ct T hf h)⟩
      |cons _ _=>cases hk
     .have h:(if kws.isEmpty=c_ then G5 G S (cE G n S) fn args cp else WD S (cE G n S) fn args kws)=a_ z:=h;rw[if_neg hk]at h;have q:=QR (pos:=cp) T hf h;exact⟨q,λ_=>k8 q⟩
   |ListComp elt E sc p=>
     refine ac λ_ f=>?_;obtain⟨g,h1,h⟩:=c5 h;obtain rfl:=BS h1;obtain⟨_,_,_,it,xs,xe,F,rfl,tl,rfl,v,w,y,A,t,B⟩:=Cs (yG n) T h;refine f ?_;have q:=OL (pos:=p) T.calm v w y A (λcl i j Ca ex=>(t cl i j Ca ex).1) (λcl i j Ca ex=>(t cl i j Ca ex).2.1) (λcl i j Ca ex=>(t cl i j Ca ex).2.2) (kA B);exact⟨q,λ_=>k8 q⟩
   |_=>cases h
end
noncomputable def n6:a8->Bool
 |.ListComp _ _ _ _=>d_
 |.SetComp _ _ _ _=>d_
 |.DictComp _ _ _ _ _=>d_
 |_=>c_
noncomputable def J4(S:Sc)(sc:m7)(cp:xv)(t:be)(p:xv):Bool:=S.nm.lookup t == a_ .local && p.line == cp.line && !(sc.names.any λ(n,k)=>n == t && (k == .local || k == .cell))
def Zz(m:be)(k:Nat):Option JB:=
 if m="append"/\k=1 then a_ .app else if m="extend"/\k=1 then a_ .ext else b_
def KA(S:Sc)(e:a8):Option Nat:=(lU e).bind λx=>if(lP x && yZ S x)=c_ then tj x S.N else b_
noncomputable def tw2:a8->Option (a8×a8)
 | .Tuple es _ _=>match es with
   |[a,b]=>a_ (a,b)
   |_=>b_
 |_=>b_
noncomputable def nmP:a8->Option (be×xv)
 |.Name x p=>a_ (x,p)
 |_=>b_
def UA(S:Sc)(e:a8):Option (a8×Nat):=(tw2 e).bind λz=>if dM z.1=c_ then(nmP z.2).bind λx=>if(lP x.1 && yZ S x.1)=c_ then(tj x.1 S.N).map λi=>(z.1,i)else b_ else b_
def Zy(G:Sg)(S:Sc)(f:a8->Option Ex):Option a8->Option Sx
 |none=>b_
 | some e=>match KA S e with
   |some i=>a_ (.oI i)
   | none=>match UA S e with
     |some z=>(f z.1).map λa=>.Z2 a z.2
     |none=>(f e).map .ret
def AL:a8->Option (be×a8)
 |.Subscript a ix _=>(lU a).map λx=>(x,ix)
 |_=>b_
def S8:a8->Option (be×a8×a8)
 |.Subscript a k _=>(AL a).map λz=>(z.1,z.2,k)
 |_=>b_
def WJ(S:Sc)(f:a8->Option Ex)(t e:a8):Option Sx:=match lU t with
 |some x=>if zE S x=c_ then(tj x S.N).bind λi=>(f e).map λxe=>.set i xe else b_
 | none=>match AL t with
   |some (x,ix)=>if(yZ S x && lP x && (lE ix).isNone && n6 e)=c_ then(tj x S.N).bind λi=>(f e).bind λxe=>(f ix).map λxi=>.mut .seti i [xe,xi]else b_
   | none=>match S8 t with
    |some (x,ix,k)=>if(yZ S x && lP x && (lE ix).isNone && (lE k).isNone && n6 e)=c_ then(tj x S.N).bind λi=>(f e).bind λxe=>(f ix).bind λxi=>(f k).map λa=>.LB i xi a xe else b_
    |none=>(pH t).bind λtn=>if(tn.2.all (zE S) && !isTup e && !tn.1)=c_ then(t7 S.N tn.2).bind λb=>(f e).map λxe=>.Xz b xe else b_
structure Mc where
 x:be
 m:be
 ap:xv
 args:List a8
 cp:xv
def Vy(e:a8):Option Mc:=(QM e).bind λc=>(wm c.fn).bind λt=>(lU t.1).bind λx=>if c.kws.isEmpty=c_ then a_ ⟨x,t.2.1,t.2.2,c.args,c.pos⟩else b_
noncomputable def aaT:List a8->Option a8
 |[a]=>a_ a
 |_=>b_
structure Mk where
 x:be
 ix:a8
 ap:xv
 a:a8
 cp:xv
def Vs(e:a8):Option Mk:=(QM e).bind λc=>(wm c.fn).bind λt=>(AL t.1).bind λz=>(aaT c.args).bind λa=>if(c.kws.isEmpty && t.2.1 == "append")=c_ then a_ ⟨z.1,z.2,t.2.2,a,c.pos⟩else b_
def cExp(S:Sc)(f:a8->Option Ex)(e:a8):Option Sx:=match Vy e with
 |some c=>if(yZ S c.x && lP c.x && (c.ap.endLine == c.cp.line))=c_ then(tj c.x S.N).bind λi=>(xf f c.args).bind λxs=>(Zz c.m xs.length).map λop=>.mut op i xs else b_
 | none=>match Vs e with
   |some c=>if(yZ S c.x && lP c.x && (lE c.ix).isNone && (c.ap.endLine == c.cp.line) && dM c.a)=c_ then(tj c.x S.N).bind λi=>(f c.ix).bind λxi=>(f c.a).map λb=>if L1 c.ix=c_ then .Xj i xi b else .Xh .app i xi [b]else b_
   |none=>if n6 e=c_ then(f e).map .exp else b_
def vA(f:lz->Option Sx)(B:List lz):List Sx:=B.map λs=>(f s).getD .Nu
def cS(G:Sg)(S:Sc):Nat->lz->Option Sx
 |0,_=>b_
 | n+1,st=>match st with
   |.Return v _=>Zy G S (cE G n S) v
   |.Assign f e _=>(kR f).bind λt=>WJ S (cE G n S) t e
   |.Expr e _=>cExp S (cE G n S) e
   |.If c a b _=>if rj c=c_ then(cE G n S c).map λg=>.ifs g (vA (cS G S n) a) (vA (cS G S n) b)else b_
   |.For tg iter body d _=>if d.isEmpty=c_ then(pH tg).bind λt=>if(t.2.all (zE S) && sP iter)=c_ then(t7 S.N t.2).bind λf=>(cI S (cE G n S) tg iter).map λit=>.loop t.1 f it (vA (cS G S n) body)else b_ else b_
   |.While c body d _=>if(d.isEmpty && rj c)=c_ then(cE G n S c).map λg=>.Xx g (vA (cS G S n) body)else b_
   |_=>b_
section
variable{G:Sg}{X:Cx}
theorem jt{f:lz->Option Sx}(hf:∀s y,f s=a_ y->SS X C s y):∀(B:List lz),NC X C B (vA f B)
 |[]=>Oi
 | s::r=>J7 (by
    show SS X C s ((f s).getD .Nu)
    cases q:f s with
    |none=>exact Ts
    |some y=>exact hf _ _ q) (jt hf r)
def vC(h:n6 e=c_):swapsWith e t line X.env=pure d_:=by
 cases e<;>first|rfl|cases h
def K0(T:qB G C S X)(ht:S.top=c_)(B:S.N.Nodup)(hi:S.N[i]?=a_ t)(hl:zE S t=c_):PG X (.Name t p) (lp i):=
 FP (by rw[T.N];exact B) (by rw[T.N];exact hi) (uF T hl) (.inl (T.fn ht t))
theorem Bp(T:qB G C S X)(B:S.top=c_)(Y:S.N.Nodup):∀{es:List a8}{tn:List be}{O:List Nat},namesOf es=a_ tn->tn.all (zE S)=c_->t7 S.N tn=a_ O->Xt X es (Z7 O)/\O.length=es.length
 |[],tn,O,h,_,hc=>by
   cases h;cases hc;exact⟨FO,rfl⟩
 |e::es,tn,O,h,hl,hc=>by
   obtain⟨t,h0,h⟩:=c5 h;obtain⟨a,h1,rfl⟩:=dY h;obtain⟨p,rfl⟩:=gV h0;obtain⟨i,h2,hc⟩:=c5 hc;obtain⟨is,h3,rfl⟩:=dY hc;rw[eh,aj]at hl;obtain⟨b,c⟩:=Bp T B Y h1 hl.2 h3;exact⟨Bh (K0 T B Y (iq h2) hl.1) b,congrArg (·+ 1) c⟩
def J2(T:qB G C S X)(B:S.top=c_)(O:S.N.Nodup)(ht:pH tg=a_ (one,tn))(hl:tn.all (zE S)=c_)(hc:t7 S.N tn=a_ ts) :
  ∃g,WV X.K one ts g/\PG X tg g:=by
 cases tg with
 |Name t p=>
   cases ht;obtain⟨i,h1,hc⟩:=c5 hc;cases hc;exact⟨lp i,Ob,K0 T B O (iq h1) (by simpa using hl)⟩
 |Tuple es k p=>
   obtain⟨a,h1,h⟩:=dY ht;cases h;obtain⟨b,c⟩:=Bp T B O h1 hl hc;exact⟨_,J0,KZ T.calm b ((n8 h1).1.trans c.symm) (n8 h1).2.1⟩
 |_=>cases ht
def tw2_ok(h:tw2 t=a_ z):∃k p,t=.Tuple [z.1,z.2] k p:=by
 cases t with
 |Tuple es k p=>
   match es,h with
   |[a,b],h=>cases h;exact⟨k,p,rfl⟩
 |_=>cases h
def Vh(h:nmP t=a_ z):t=.Name z.1 z.2:=by
 cases t with
 |Name x p=>cases h;rfl
 |_=>cases h
def QP(T:qB G C S X)(hf:∀e x,f e=a_ x->SE X C e x)(h:Zy G S f v=a_ y):SS X C (.Return v pos) y:=by
 cases v with
 |none=>cases h
 |some e=>
   have h:(match KA S e with|some i=>a_ (Sx.oI i)|none=>match UA S e with|some z=>(f z.1).map λj=>Sx.Z2 j z.2|none=>(f e).map .ret)=a_ y:=h
   cases c:KA S e with
   |some i=>
     rw[c]at h;cases h;obtain⟨x,h1,h2⟩:=c5 c;obtain⟨p,rfl⟩:=gV h1;obtain⟨hc,h2⟩:=bZ h2;rw[aj]at hc;exact Om (by rw[T.N];exact iq h2) (nX T hc.2) (i9 hc.1).1 (i9 hc.1).2.1
   |none=>
     rw[c]at h
     cases d:UA S e with
     |none=>
       rw[d]at h;obtain⟨xe,h1,rfl⟩:=dY h;exact Tu (hf _ _ h1)
     |some z=>
       rw[d]at h;refine ac λ_ a=>?_;obtain⟨xe,h1,rfl⟩:=dY h;obtain⟨w,l,g⟩:=c5 d;obtain⟨k,q,rfl⟩:=tw2_ok l;obtain⟨hs,g⟩:=bZ g;obtain⟨x,m,g⟩:=c5 g;obtain⟨hc,g⟩:=bZ g;obtain⟨i,n,rfl⟩:=dY g;refine a ?_;rw[aj]at hc;rw[Vh m];exact Tt (hf _ _ h1) (by rw[T.N];exact iq n) (nX T hc.2) (i9 hc.1).1 (i9 hc.1).2.1 (cD hs)
def xQ{ix:a8}(h:n6 e=c_):swapsWithSole [.Subscript a ix sp] e line env=pure d_/\swappedStores [.Subscript a ix sp] e env=pure b_:=by
 cases e<;>first|exact⟨rfl,rfl⟩|cases h
def HD(h:isTup e=d_):swapsWithSole [.Tuple es k tp] e line env=pure d_/\swappedStores [.Tuple es k tp] e env=pure b_:=by
 cases e<;>first|exact⟨rfl,rfl⟩|cases h
def u6{ix:a8}(h:AL t=a_ (x,ix)):∃p sp,t=.Subscript (.Name x p) ix sp:=by
 cases t with
 |Subscript a b sp=>
   obtain⟨x',h1,h2⟩:=dY h;cases h2;obtain⟨p,rfl⟩:=gV h1;exact⟨p,sp,rfl⟩
 |_=>cases h
def Of{ix:a8}(h:S8 t=a_ (x,ix,k)):∃p sp B,t=.Subscript (.Subscript (.Name x p) ix sp) k B:=by
 cases t with
 |Subscript a b q=>
   obtain⟨⟨y,z⟩,h1,h2⟩:=dY h;cases h2;obtain⟨p,sp,rfl⟩:=u6 h1;exact⟨p,sp,q,rfl⟩
 |_=>cases h
def XG(h:pH t=a_ (d_,tn)):∃es k tp,t=.Tuple es k tp:=by
 cases t with
 |Tuple es k tp=>exact⟨es,k,tp,rfl⟩
 |_=>cases h
def Y1{ix:a8}(h:lE ix=b_):∀v,assign (.Subscript o ix p) env v=(do
   let ov <-holding [v] (eval o env);let iv <-holding [v,ov] (eval ix env)
   standAt p
   holding [v,ov,iv] (setItem ov iv v)
   release [v,ov,iv] []):=λv=>by
 cases ix<;>first|rfl|cases h
def Wv(hc:¬n6 e=c_)(h:cE G n S e=a_ z):∃elt B sc cp,e=.ListComp elt B sc cp:=by
 cases n with
 |zero=>cases h
 |succ n=>
   cases e with
   |ListComp elt B sc cp=>exact⟨_,_,_,_,rfl⟩
   |SetComp _ _ _ _=>cases h
   |DictComp _ _ _ _ _=>cases h
   |_=>exact absurd rfl hc
def QO(T:qB G C S X)(top:S.top=c_)(nd:S.N.Nodup)(hl:zE S x=c_)(h1:tj x S.N=a_ i)(h2:cE G n S e=a_ xe):SS X C (.Assign [.Name x p] e pos) (.set i xe):=by
 have d:X.N.Nodup:=by rw[T.N];exact nd
 have hi:X.N[i]?=a_ x:=by rw[T.N];exact iq h1
 have q:=(yG n S e xe h2 X T).1;by_cases hc:n6 e=c_
 .exact Ka d hi (uF T hl) q (vC hc) (.inl (T.fn top x))
 .obtain⟨elt,h,sc,cp,rfl⟩:=Wv hc h2
  have c:swapsWith (.ListComp elt h sc cp) (a_ (.Name x p)) pos.line X.env=pure (J4 S sc cp x p):=by
   unfold swapsWith J4;have hb:X.env.blockKind=.function:=by unfold Env.blockKind;rw[T.kind];rfl
   simp only[hb,sv,T.nm];rfl
  cases hb:J4 S sc cp x p with
  |false=>
    rw[hb]at c;exact Ka d hi (uF T hl) q c (.inl (T.fn top x))
  |true=>
    rw[hb]at c
    cases n with
    |zero=>cases h2
    |succ n=>
      refine ac λ_ t=>?_;obtain⟨g,h3,j⟩:=c5 h2;obtain rfl:=BS h3;obtain⟨_,_,_,it,xs,xe,s,rfl,tl,rfl,k,l,m,o,f,r⟩:=Cs (yG n) T j;refine t ?_;exact Dp d hi (uF T hl) T.calm k l m o (λcl a b Ca ex=>(f cl a b Ca ex).1) (λcl a b Ca ex=>(f cl a b Ca ex).2.1) (λcl a b Ca ex=>(f cl a b Ca ex).2.2) c (kA r) (.inl (T.fn top x))
def QV(T:qB G C S X)(top:S.top=c_)(nd:S.N.Nodup)(h:WJ S (cE G n S) t e=a_ y):SS X C (.Assign [t] e pos) y:=by
 have hf:=λe x(h)=>(yG n S e x h X T).1;unfold WJ at h
 cases ht:lU t with
 |some x=>
   obtain⟨p,rfl⟩:=gV ht;obtain⟨i,h1,d⟩:=c5 (bZ h).2;obtain⟨xe,h2,rfl⟩:=dY d;exact QO T top nd (bZ h).1 h1 h2
 |none=>
   rw[ht]at h
   cases hs:AL t with
   |some z=>
     refine ac λ_ m=>?_;obtain⟨x,ix⟩:=z;obtain⟨p,sp,rfl⟩:=u6 hs;obtain⟨hc,c⟩:=bZ h;refine m ?_;simp only[aj,eY]at hc;refine ac λ_ m=>?_;obtain⟨⟨⟨q,hp⟩,f⟩,j⟩:=hc;obtain⟨i,h1,d⟩:=c5 c;obtain⟨xe,h2,l⟩:=c5 d;obtain⟨xi,h3,rfl⟩:=dY l;obtain⟨d1,d2,d3⟩:=i9 hp;refine m ?_;have hi:X.N[i]?=a_ x:=by rw[T.N];exact iq h1
     have b:=xQ (line:=pos.line) (env:=X.env) (a:=.Name x p) (ix:=ix) (sp:=sp) j;exact Ol (DH (hf _ _ h2) (K1 (qo (pos:=p) hi (nX T q) d1 d2) (hf _ _ h3) (Fo (gm T.un)) (Y1 f)) b.1 b.2 rfl)
   |none=>
    rw[hs]at h
    cases o:S8 t with
    |some z=>
     obtain⟨x,ix,k⟩:=z;obtain⟨p,sp,r,rfl⟩:=Of o;obtain⟨hc,c⟩:=bZ h;simp only[aj,eY]at hc;obtain⟨⟨⟨⟨q,hp⟩,f⟩,s⟩,j⟩:=hc;obtain⟨i,h1,d⟩:=c5 c;obtain⟨xe,h2,l⟩:=c5 d;obtain⟨xi,h3,u⟩:=c5 l;obtain⟨B,v,rfl⟩:=dY u;have b:=xQ (line:=pos.line) (env:=X.env) (a:=.Subscript (.Name x p) ix sp) (ix:=k) (sp:=r) j;exact Tw (DH (hf _ _ h2) (K1 (FQ Gp (qo (by rw[T.N];exact iq h1) (nX T q) (i9 hp).1 (i9 hp).2.1) (hf _ _ h3) (nZ f)) (hf _ _ v) (Fo (by exact gm T.un)) (Y1 s)) b.1 b.2 rfl)
    |none=>
     rw[o]at h;obtain⟨⟨one,tn⟩,h0,c⟩:=c5 h;obtain⟨hl,d⟩:=bZ c;simp only[aj,nj]at hl;refine ac λ_ m=>?_;obtain⟨D,h1,l⟩:=c5 d;obtain⟨xe,h3,rfl⟩:=dY l;obtain⟨g,w,A⟩:=J2 T top nd h0 hl.1.1 h1;obtain rfl:one=d_:=hl.2;obtain⟨es,k,tp,rfl⟩:=XG h0;refine m ?_;have b:=HD (line:=pos.line) (env:=X.env) (es:=es) (k:=k) (tp:=tp) hl.1.2;exact Tr (hf _ _ h3) w A b.1 b.2 rfl
def P8(h:Vy e=a_ c):∃p,e=.Call (.Attribute (.Name c.x p) c.m c.ap) c.args [] c.cp:=by
 refine ac λ_ d=>?_;obtain⟨⟨fn,as,kws,cp⟩,h0,g0⟩:=c5 h;obtain⟨⟨o,m,ap⟩,h1,a⟩:=c5 g0;obtain⟨x,h2,b⟩:=c5 a;cases (bZ b).2;obtain⟨p,f⟩:=gV h2;obtain rfl:o=.Name x p:=f;obtain rfl:kws=[]:=ji.mp (bZ b).1;obtain rfl:fn=.Attribute (.Name x p) m ap:=tD h1;refine d ?_;exact⟨p,zY h0⟩
def P5(h:Vs e=a_ c):∃p sp,e=.Call (.Attribute (.Subscript (.Name c.x p) c.ix sp) "append" c.ap) [c.a] [] c.cp:=by
 obtain⟨⟨fn,args,kws,cp⟩,h0,g⟩:=c5 h;obtain⟨⟨o,m,ap⟩,h1,g⟩:=c5 g;obtain⟨⟨x,ix⟩,h2,g⟩:=c5 g;obtain⟨a,h3,g⟩:=c5 g;obtain⟨hk,g⟩:=bZ g;cases g;simp only[aj,beq_iff_eq]at hk;obtain⟨p,sp,d⟩:=u6 h2;obtain rfl:o=.Subscript (.Name x p) ix sp:=d;obtain rfl:kws=[]:=ji.mp hk.1;obtain rfl:m="append":=hk.2;obtain rfl:fn=.Attribute (.Subscript (.Name x p) ix sp) "append" ap:=tD h1
 match args,h3 with
 |[f],h3=>cases h3;exact⟨p,sp,zY h0⟩
set_option tactic.hygienic true in
def QT(T:qB G C S X)(hf:∀e x,f e=a_ x->SE X C e x)(h:cExp S f e=a_ y):SS X C (.Expr e pos) y:=by
 unfold cExp at h
 cases j:Vy e with
 |none=>
   rw[j]at h
   cases hk:Vs e with
   |none=>
     rw[hk]at h;obtain⟨u,k⟩:=bZ h;obtain⟨xe,h1,rfl⟩:=dY k;exact TC (hf _ _ h1) (vC u)
   |some c=>
     rw[hk]at h;obtain⟨p,sp,rfl⟩:=P5 hk;obtain⟨x,ix,ap,a,cp⟩:=c;obtain⟨hc,k⟩:=bZ h;simp only[aj,eY]at hc;refine ac λ_ w=>?_;obtain⟨⟨⟨⟨q,hp⟩,l⟩,g⟩,r⟩:=hc;obtain⟨i,h1,n⟩:=c5 k;obtain⟨xi,h2,o⟩:=c5 n;obtain⟨s,h3,rfl⟩:=dY o;obtain⟨d1,d2,d3⟩:=i9 hp;refine w ?_;have d:=qo (pos:=p) (by rw[T.N];exact iq h1) (nX T q) d1 d2;have b:aQ [a] X.env=(d_,eval a X.env)::aQ [] X.env:=cD r;by_cases t:L1 ix=c_
     .rw[if_pos t];exact Tx D8 (qZ (vv jB jm mP sV (FQ LR d (hf _ _ h2) (nZ l)) (n5 (hf _ _ h3) vy b) rfl (by rw[b];rfl) g b rfl) rfl)
     rw[if_neg t];exact Tv (by simp) (by simp) (by simp) D8 (qZ (vv jB jm mP sV (FQ (VW (by have:=T.un;omega)) d (hf _ _ h2) (nZ l)) (Fl (hf _ _ h3) Kl b) rfl (by rw[b];rfl) g b rfl) rfl)
 |some c=>
   rw[j]at h;obtain⟨p,rfl⟩:=P8 j;obtain⟨x,m,ap,args,cp⟩:=c;obtain⟨hc,k⟩:=bZ h;simp only[aj]at hc;obtain⟨⟨q,hp⟩,g⟩:=hc;obtain⟨i,h1,n⟩:=c5 k;obtain⟨xs,h2,o⟩:=c5 n;obtain⟨op,h3,rfl⟩:=dY o;obtain⟨d1,d2,d3⟩:=i9 hp;have ha:=lF hf h2;have d:=qo (pos:=p) (by rw[T.N];exact iq h1) (nX T q) d1 d2;clear h k n o j h2;unfold Zz at h3;split at h3
   .rename_i j;obtain⟨rfl,hk⟩:=j;cases h3;obtain⟨s,rfl⟩:=CN.mp hk;obtain⟨e,rfl,hs,he⟩:=ha.one;have b:aQ [e] X.env=(d_,eval e X.env)::aQ [] X.env:=cD hs;exact Oo (by simp) (by simp) (by simp) D8 (qZ (vv jB jm mP sV d ha.sf rfl (by rw[b];rfl) g b rfl) rfl)
   split at h3
   .rename_i j;obtain⟨rfl,hk⟩:=j;cases h3;obtain⟨s,rfl⟩:=CN.mp hk;obtain⟨e,rfl,hs,he⟩:=ha.one;have b:aQ [e] X.env=(d_,eval e X.env)::aQ [] X.env:=cD hs;exact TB (qZ (vv jB jl PySem.F.type_list_extend Vp d ha.sf rfl (by rw[b];rfl) g b rfl) rfl)
   .cases h3
theorem Sk(T:qB G C S X)(top:S.top=c_)(nd:S.N.Nodup):∀(n:Nat)(st:lz)(y:Sx),cS G S n st=a_ y->SS X C st y
 |0,_,_,h=>by cases h
 |n+1,st,y,h=>by
   have k:=λe x(h)=>yG n S e x h X T;have hf:=λe x h=>(k e x h).1;have hs:=Sk T top nd n
   cases st with
   |Return v p=>exact QP T hf h
   |Assign m e p=>
     obtain⟨t,h1,f⟩:=c5 h;obtain rfl:=gQ h1;exact QV T top nd f
   |Expr e p=>exact QT T hf h
   |If c a b p=>
     obtain⟨q,h1,rfl⟩:=dY (bZ h).2;exact XX ((k _ _ h1).2 (bZ h).1) (jt hs _) (jt hs _)
   |For tg iter body l p=>
     obtain⟨he,f⟩:=bZ h;obtain rfl:=ji.mp he;obtain⟨⟨one,tn⟩,h0,r⟩:=c5 f;obtain⟨hc,s⟩:=bZ r;rw[aj]at hc;obtain⟨m,h1,u⟩:=c5 s;obtain⟨it,h2,rfl⟩:=dY u;obtain⟨g,d,i⟩:=J2 T top nd h0 hc.1 h1;obtain⟨j,B⟩:=Sn T hf h2;have hp:tH (aG X.prog X.w) X.A X.env X.xe:=by rw[T.xe];exact EV
     cases it with
     |itv a=>exact Oq hp T.calm (B a rfl) i d (jt hs _) (kA hc.2)
     |rng es=>exact zh hp T.calm j (λa z=>nomatch z) i d (jt hs _) (kA hc.2)
     |zip es=>exact zh hp T.calm j (λa z=>nomatch z) i d (jt hs _) (kA hc.2)
     |enu a=>exact zh hp T.calm j (λa z=>nomatch z) i d (jt hs _) (kA hc.2)
     |rev a=>exact zh hp T.calm j (λa z=>nomatch z) i d (jt hs _) (kA hc.2)
   |While c body l p=>
     obtain⟨hc,f⟩:=bZ h;rw[aj]at hc;obtain rfl:=ji.mp hc.1;obtain⟨q,h1,rfl⟩:=dY f;exact J9 (by rw[T.xe];exact EV) ((k _ _ h1).2 hc.2) (jt hs _)
   |_=>cases h
end
structure Df where
 st:lz
 p:Nat
 n:Nat
 body:List Sx
noncomputable def Df.name(d:Df):be:=match d.st with
 |.FunctionDef x _ _ _ _ _ _ _ _ _=>x
 |_=>""
def Df.ps(d:Df):List be:=(zQ d.st).args.map λa=>a.arg
def Df.N(d:Df):List be:=d.ps++((eD d.st).names.filterMap λp=>if(p.2 == .local || p.2 == .cell) && !(d.ps.contains p.1)then a_ p.1 else b_)
def Cn(D:List Df):Nat->Fs
 |0=>λ_ _=>b_
 | n+1=>λj ds=>match D[j]? with
   |some d=>QA (Cn D n) d.p d.n d.body ds
   |none=>b_
def OF(D:List Df)(con:List (be×Dat)):Sg:=⟨D.map λd=>(d.name,d.p),con⟩
structure Xa(G:Sg)(d:Df):Prop where
 sc:rS d.N d.ps (eD d.st)
 pn:d.ps.length=d.p
 nn:d.N.length=d.n
 cmp:vA (cS G ⟨d.N,(eD d.st).names,c_⟩ 40) (pL d.st)=d.body
section
variable{K:Fg}{mg:be->Option ah}{base:cM}
structure At(K:Fg)(mg:be->Option ah)(d:Df)(f:aI)(fd:j4):Prop where
 fn:Fun K d.name d.name d.st f fd
 mgf:mg d.name=a_ (.ref f)
 bd:∀us:List ah,us.length=d.ps.length->bindArgs fd ⟨us,[]⟩=pure (d.ps.zip us)
def Yc(K:Fg)(d:Df):Option (aI×ah×Option aI×j4×Array (Option ah)):=match nU K mainGlobals d.name with
 | some (a_ (.ref f))=>match K.lookup f with
   |some ⟨oc,od,.func fd,l⟩=>a_ (f,oc,od,fd,l)
   |_=>b_
 |_=>b_
def fnK(d:Df)(kV doc pm:ah)(an:Option aI)(cdv ct:ah):j4:=qK d.name d.name (zQ d.st) (pL d.st) (eD d.st) .none kV doc pm an cdv ct
def rdB(K:Fg)(d:Df):Bool:=match Yc K d with
 |some x=>uO K x.2.2.2.1.code d.name && gJ K (.ref x.1)
 |none=>d_
def rdF(K:Fg)(d:Df):Option j4:=(Yc K d).map λx=>x.2.2.2.1
def rdG(K:Fg)(d:Df):Option j4:=(Yc K d).map λx=>fnK d x.2.2.2.1.kwdefaults x.2.2.2.1.doc x.2.2.2.1.pyModule x.2.2.2.1.annotations x.2.2.2.1.code x.2.2.2.1.closureTuple
set_option tactic.hygienic true in
def WT{D:List Df}(X:K.In h)(G:h.Ns mainGlobals mg)(h1:D.map (rdF K)=D.map (rdG K))(h2:D.all (rdB K)=c_)(h3:∀(kV doc pm:ah) (an:Option aI) (cdv ct:ah) (u:Nat->ah),D.map (λd=>bindArgs (fnK d kV doc pm an cdv ct) ⟨(aO d.ps.length).map u,[]⟩)=D.map λd=>pure (d.ps.zip ((aO d.ps.length).map u))) :
  ∀d∈D,∃f fd,At K mg d f fd:=λd hd=>by
 have e1:=tM.mp h1 d hd;have e2:=bF.mp h2 d hd;unfold rdB at e2;unfold rdF rdG at e1
 cases e:Yc K d with
 |none=>rw[e]at e2;cases e2
 |some x=>
   obtain⟨f,oc,od,fd,l⟩:=x;rw[e]at e1 e2;have e1 :=bG e1;unfold Yc at e;split at e
   .rename_i f' a;split at e
    .rename_i b;refine ac λ_ c=>?_;cases e;refine c ?_;refine⟨f,fd,⟨⟨_,_,_,_,_,_,_,_,_,e1,b,(jg.mp e2).1⟩,(jg.mp e2).2⟩,Ni X G a,λus g=>?_⟩;have:=tM.mp (h3 fd.kwdefaults fd.doc fd.pyModule fd.annotations fd.code fd.closureTuple λi=>us.getD i .none) d hd
     have q:(aO d.ps.length).map (λi=>us.getD i .none)=us:=by
      refine jj (by rw[aw,bo,g]) λi h1 h2=>?_;rw[uu,rY,mI,af h2];rfl
     rw[q]at this;exact(congrArg (λz=>bindArgs z ⟨us,[]⟩) e1).trans this
    .cases e
   .cases e
structure Here(K:Fg)(mg:be->Option ah)(D:List Df)(con:List (be×Dat)):Prop where
 ok:∀d∈D,Xa (OF D con) d
 fn:∀d∈D,∃f fd,At K mg d f fd
 blt:∀x∈l5,mg x=b_
 con:∀x d,con.lookup x=a_ d->∃v u,mg x=a_ u/\RelV v u/\CV K d v
theorem Nb{D:List Df}{con:List (be×Dat)}(T:Here K mg D con):∀(n j:Nat)(d:Df)(f:aI)(fd:j4),D[j]?=a_ d->At K mg d f fd->ot P w K mg base Jl n f fd d.ps (TM K d.ps.length (Cn D n j))
 |0,j,d,f,fd,c,_=>by
   have l:∀vs H Q E,¬TM K d.ps.length (Cn D 0 j) vs H Q E:=λvs H Q E h=>by
    obtain⟨_,ds,z,fr,h,_⟩:=h;cases h
   exact⟨λvs H Q E h=>absurd h (l vs H Q E),λA outer s H args us vs Q E _ _ _ _ h=>absurd h (l vs H Q E)⟩
 |n+1,j,d,f,fd,c,at_=>by
   have ok:=T.ok d (aV c)
   have e:Cn D (n+1) j=QA (Cn D n) d.ps.length d.N.length d.body:=by
    funext ds;simp only[Cn,c,ok.pn,ok.nn]
   rw[e];refine Wd at_.fn ok.sc (by have:=congrArg fA ok.sc.pre;rw[dQ]at this;exact aa (ae this.symm) (hJ _ _)) λcdv A outer s H E o=>?_
   have S:qB (OF D con) (Cn D n) ⟨d.N,(eD d.st).names,c_⟩ (Cf Jl P w K mg base d.N d.name (eD d.st) f cdv A outer s H E).Xf:=by
    refine⟨rfl,rfl,ok.sc.kind,rfl,?_,rfl,λ_ _=>rfl,λi x m hi=>?_,T.blt,T.con⟩
    .show(A.deeper _).units+21<dc;exact gm o.units
    .have k:∃d',D[i]?=a_ d'/\x=d'.name/\m=d'.ps.length:=by
      unfold OF at hi;rw[aP]at hi;obtain⟨d',e1,e2⟩:=dY hi;cases e2;exact⟨d',e1,rfl,(T.ok d' (aV e1)).pn.symm⟩
     obtain⟨d',e1,rfl,rfl⟩:=k;obtain⟨f',b,a⟩:=T.fn d' (aV e1);exact⟨n,f',b,d'.ps,Nb T n i d' f' b e1 a,o,a.mgf,a.fn.kp,.all a.bd⟩
   exact ok.cmp▸jt (Sk S rfl ok.sc.nd 40) _
def Kc(K:Fg):Sp:=λvs H Q _=>∃(a:aI) (ns:List Int),vs=[.ref a]/\nM K H a (ns.map V.int)/\ns.length<=63/\∀H',Q (.bl c_) H'
def Ig(ns:List Int):c9 K F (ns.map Dat.int) (ns.map V.int):=by
 induction ns with
 |nil=>exact rfl
 |cons n r a=>exact⟨_,_,rfl,rfl,a⟩
def VL{D:List Df}{con:List (be×Dat)}(T:Here K mg D con)(B:D[j]?=a_ d)(at_:At K mg d f fd)(hp:d.ps.length=1)
  (O:∀ns:List Int,ns.length<=63->∃fr,Cn D n j [.lst (ns.map Dat.int)]=a_ (.bl c_,fr)):ot P w K mg base Jl n f fd d.ps (Kc K):=
 ot.imp (Nb T n j d f fd B at_) λvs H Q E b=>by
  obtain⟨a,ns,e,c,hl,q⟩:=b;subst e;obtain⟨fr,h⟩:=O ns hl;refine⟨by rw[hp];rfl,_,_,fr,h,H,⟨cj.refl _,λ_ _ z=>z⟩,⟨_,_,rfl,⟨a,_,rfl,c,Ig ns⟩,rfl⟩,λv F' H' _ r _=>?_⟩;rw[r];exact q H'
def VJ{D:List Df}{con:List (be×Dat)}{l:ju}(T:Here K mg D con)(Y:D[j]?=a_ d)(B:d.ps=[x])(O:mg d.name=a_ (.ref fa))
  (Z:∀ns:List Int,ns.length<=63->∃fr,Cn D n j [.lst (ns.map Dat.int)]=a_ (.bl c_,fr)) :
  ∃fd:j4,(∀(s:ak)(u:ah),CJ s fd ⟨[u],[]⟩ [(x,u)])/\∀base:cM,K.In base->base.Ns mainGlobals mg->ot l.prog w K mg base Jl n fa fd [x] (Kc K):=by
 refine ac λ_ a=>?_;obtain⟨f,fd,at_⟩:=T.fn d (aV Y);have e:=O.symm.trans at_.mgf
 cases e;refine a ?_;refine⟨fd,λs u=>?_,λbase _ _=>?_⟩
 .have:=at_.bd [u] (by rw[B];rfl)
  rw[B]at this;exact .of_eq this
 .have:=VL (P:=l.prog) (w:=w) (base:=base) T Y at_ (by rw[B];rfl) Z
  simp_all
def walk{l:ju}{d:DefRec}{K:Params->Fg}(Y:l.most=a_ 63)(hk:nN n callerA)(B:d.params.defaults=[])
  (Z:∀(w:du)(h:cM),YP w h->(K w.params).In h)
  (F:∀(w:du)(mg:be->Option ah)(O:aI)(h:cM),(K w.params).In h->h.Ns mainGlobals mg->mg d.name=a_ (.ref O)->
   ∃fd:j4,(∀(s:ak)(u:ah),CJ s fd ⟨[u],[]⟩ [(x,u)])/\∀base:cM,(K w.params).In base->base.Ns mainGlobals mg->ot l.prog w (K w.params) mg base Jl n O fd [x] (Kc (K w.params))) :
  wN q loose XP YP l.row.toRowW d [] (λf vs=>Hl f vs):=
 L2.N6 Y br B hk Z F (λ_ _ a ns hl _ b=>⟨a,ns,rfl,b,hl,λ_=>rfl⟩) λ_ _ _ _ _ z=>z
end
def QW{K:Fg}(X:K.In h)(G:h.Ns mainGlobals mg)(z:l5.map (λx=>nU K mainGlobals x)=dZ 20 (a_ b_)):∀x∈l5,mg x=b_:=λx a=>by
 have q:nU K mainGlobals x∈l5.map (λx=>nU K mainGlobals x):=bQ.mpr ⟨x,a,rfl⟩;rw[z]at q;exact PySem.W.mg_none_of X G (List.eq_of_mem_replicate q)
def dfL(G:Sg)(d:Df):ScopeKind×Bool×Bool×Bool×Nat×Nat×List Sx:=((eD d.st).kind,(eD d.st).isCoroutine,(eD d.st).isGenerator,decide (d.N.Nodup/\(∀x∈d.ps,(eD d.st).names.lookup x=a_ .local\/(eD d.st).names.lookup x=a_ .cell)/\∀y∈(eD d.st).names,y.2≠.free),d.ps.length,d.N.length,vA (cS G ⟨d.N,(eD d.st).names,c_⟩ 40) (pL d.st))
def Vb{G:Sg}{D:List Df}(h:D.map (dfL G)=D.map λd=>(.function,d_,d_,c_,d.p,d.n,d.body)):∀d∈D,Xa G d:=λd hd=>by
 have e:=tM.mp h d hd;unfold dfL at e;simp only[wQ]at e;obtain⟨e1,e2,e3,f,e5,g,i⟩:=e;obtain⟨a,b,c⟩:=of_decide_eq_true f;exact⟨⟨e1,e2,e3,a,List.take_left' rfl,b,c⟩,e5,g,i⟩
end M
namespace K31
open PySem L2 M
def top(i:Nat):lz:=PySem.Challenge.pw_dots_k31_written.main.body.getD i (.Pass ⟨0,0,0,0⟩)
def b0:List Sx:=[.ret (.iF .join (.f_ "") [.blt .sset [.iF .join (.f_ "") [.comp 1 c_ [] (.itv (.v 0)) [] (.ix (.v 0) (.e_ 0))]]])]
def b1:List Sx:=[.set 1 (.call 0 [.ix (.v 0) (.e_ 0)]),.set 2 (.ite (.cmp .eq (.ix (.ix (.v 0) (.e_ 1)) (.e_ 0)) (.tup [])) (.f_ "") (.iF .upper (.v 1) [])),.set 3 (.sl (.f_ "0123456789") b_ (a_ (.blt .len [.ix (.v 0) (.e_ 2)]))),.ret (.iF .join (.f_ "") [.blt .sorted [.bin .add (.bin .add (.bin .add (.f_ " ") (.v 3)) (.v 2)) (.v 1)]])]
def b2:List Sx:=[.ret (.cmp .isin (.v 0) (.con (.tup [.str (ab "out"),.str (ab "done"),.str (ab "num")])))]
def b3:List Sx:=[.ret (.comp 1 c_ [] (.itv (.tup [.f_ "out",.f_ "done",.f_ "num"])) [] (.tup [.v 0,.f_ " ",.tup [.e_ 0],.f_ "out"]))]
def b4:List Sx:=[.ifs (.cmp .eq (.v 1) (.tup [])) [.ret (.lst [])] [],.set 2 (.lst [.tup [.f_ "num",.f_ "",.ix (.v 0) (.e_ 3),.f_ "let"]]),.loop d_ [3,4] (.zip [.f_ "0123456789",.v 1]) [.mut .app 2 [.tup [.f_ "out",.v 3,.bin .add (.ix (.v 0) (.e_ 2)) (.tup [.v 4]),.f_ "num"]],.mut .app 2 [.tup [.f_ "done",.v 3,.bin .add (.ix (.v 0) (.e_ 2)) (.tup [.v 4]),.f_ "num"]],.mut .app 2 [.tup [.f_ "num",.v 3,.tup [.v 4],.f_ "num"]]],.oI 2]
def b5:List Sx:=[.set 1 (.lst []),.loop d_ [2,3,4] (.itv (.v 0)) [.loop d_ [5,6,7] (.itv (.con (.tup [.tup [.str (ab "w"),.str (ab "out"),.str (ab "done")],.tup [.str (ab "w"),.str (ab "let"),.str (ab "done")],.tup [.str (ab "b"),.str (ab "out"),.str (ab "in")],.tup [.str (ab "b"),.str (ab "let"),.str (ab "in")],.tup [.str (ab "m"),.str (ab "in"),.str (ab "in")],.tup [.str (ab "e"),.str (ab "in"),.str (ab "done")]]))) [.ifs (.cmp .isin (.v 5) (.v 4)) [.mut .app 1 [.tup [.v 6,.v 2,.v 3,.v 7]]] []]],.oI 1]
def b6:List Sx:=[.ret (.comp 4 d_ [1] (.itv (.v 0)) [] (.tup [.v 0,.bin .add (.iF .upper (.ix (.v 1) (.e_ 0)) []) (.sl (.v 1) (a_ (.e_ 1)) b_),.bin .add (.v 4) (.v 2),.v 3]))]
def b7:List Sx:=[.set 2 (.lst []),.loop d_ [3,4,5] (.itv (.v 0)) [.loop d_ [6,7,8] (.itv (.con (.tup [.tup [.str (ab "w"),.str (ab "out"),.str (ab "done")],.tup [.str (ab "w"),.str (ab "let"),.str (ab "done")],.tup [.str (ab "b"),.str (ab "out"),.str (ab "all")],.tup [.str (ab "b"),.str (ab "let"),.str (ab "all")],.tup [.str (ab "m"),.str (ab "all"),.str (ab "all")],.tup [.str (ab "e"),.str (ab "all"),.str (ab "done")]]))) [.ifs (.and (.cmp .isin (.v 6) (.v 5)) (.or (.cmp .ne (.v 6) (.f_ "w")) (.cmp .gt (.blt .len [.v 3]) (.e_ 1)))) [.set 9 (.ite (.cmp .eq (.v 7) (.f_ "all")) (.tup []) (.v 1)),.mut .app 2 [.tup [.v 7,.iF .upper (.v 3) [],.bin .add (.v 9) (.v 4),.v 8]]] []]],.oI 2]
def b8:List Sx:=[.set 1 (.ix (.v 0) (.e_ 0)),.set 2 (.ix (.v 0) (.e_ 1)),.set 3 (.call 5 [.v 1]),.ifs (.cmp .ne (.ix (.v 2) (.e_ 0)) (.tup [])) [.set 3 (.bin .add (.v 3) (.call 6 [.v 3,.ix (.v 2) (.e_ 0)]))] [],.ifs (.cmp .ne (.ix (.v 2) (.e_ 1)) (.tup [])) [.set 3 (.bin .add (.v 3) (.call 7 [.v 1,.ix (.v 2) (.e_ 1)]))] [],.ifs (.cmp .eq (.ix (.v 0) (.e_ 2)) (.tup [])) [.set 3 (.comp 1 c_ [] (.itv (.v 3)) [.cmp .ne (.ix (.v 0) (.e_ 0)) (.f_ "let")] (.v 0))] [],.ret (.blt .sset [.bin .add (.bin .add (.v 3) (.call 3 [])) (.call 4 [.v 2,.ix (.v 0) (.e_ 2)])])]
def b9:List Sx:=[.set 1 .qy,.loop c_ [2] (.itv (.con (.tup [.str (ab "out"),.str (ab "in"),.str (ab "done"),.str (ab "num"),.str (ab "let"),.str (ab "all")]))) [.mut .seti 1 [.lst [],.v 2]],.loop c_ [3] (.itv (.call 8 [.v 0])) [.Xh .app 1 (.ix (.v 3) (.e_ 0)) [.v 3]],.oI 1]
def b10:List Sx:=[.set 2 (.call 1 [.v 0]),.loop d_ [3,4] (.enu (.v 1)) [.ifs (.cmp .nin (.v 4) (.v 2)) [.Nu] []]]
def b11:List Sx:=[.ret (.comp 1 c_ [2,1] (.itv (.v 0)) [.iF .startswith (.v 2) [.ix (.v 0) (.e_ 1),.v 1]] (.v 0))]
def b12:List Sx:=[.set 3 (.ix (.ix (.v 2) (.bin .add (.v 1) (.blt .len [.ix (.v 0) (.e_ 1)]))) (.ix (.v 0) (.e_ 3))),.ret (.ite (.cmp .isn (.v 3) (.con .non)) (.con .non) (.bin .add (.blt .len [.ix (.v 0) (.e_ 2)]) (.v 3)))]
def b13:List Sx:=[.set 4 (.comp 1 c_ [3,2] (.itv (.call 11 [.v 0,.v 1,.v 2])) [] (.call 12 [.v 0,.v 2,.v 1])),.ret (.mnd (.comp 1 c_ [] (.itv (.v 4)) [.cmp .nisn (.v 0) (.con .non)] (.v 0)))]
def b14:List Sx:=[.set 2 (.cat (.comp 1 c_ [] (.itv (.v 1)) [] .qy) (.lst [.qy])),.loop c_ [3] (.rng [.blt .len [.v 1],.neg (.e_ 1),.neg (.e_ 1)]) [.loop c_ [4] (.rev (.con (.tup [.str (ab "out"),.str (ab "in"),.str (ab "done"),.str (ab "num"),.str (ab "let"),.str (ab "all")]))) [.ifs (.and (.cmp .eq (.v 3) (.blt .len [.v 1])) (.call 2 [.v 4])) [.LB 2 (.v 3) (.v 4) (.e_ 0)] [.LB 2 (.v 3) (.v 4) (.call 13 [.ix (.v 0) (.v 4),.v 1,.v 3,.v 2])]]],.oI 2]
def b15:List Sx:=[.ret (.ix (.comp 1 c_ [2,1,3] (.itv (.v 0)) [.cmp .eq (.call 12 [.v 0,.v 2,.v 1]) (.v 3)] (.v 0)) (.e_ 0))]
def b16:List Sx:=[.set 1 (.lst []),.loop c_ [2] (.itv (.v 0)) [.mut .ext 1 [.ix (.v 2) (.e_ 2)]],.ret (.blt .tuple [.v 1])]
def wB:List Sx:=[.set 7 (.call 15 [.call 11 [.ix (.v 2) (.v 6),.v 1,.v 5],.v 5,.v 3,.ix (.ix (.v 3) (.v 5)) (.v 6)]),.mut .app 4 [.v 7],.set 5 (.bin .add (.v 5) (.blt .len [.ix (.v 7) (.e_ 1)])),.set 6 (.ix (.v 7) (.e_ 3))]
def b17:List Sx:=[.exp (.call 10 [.v 0,.v 1]),.set 2 (.call 9 [.v 0]),.set 3 (.call 14 [.v 2,.v 1]),.set 4 (.lst []),.set 5 (.e_ 0),.set 6 (.f_ "out"),.Xx (.cmp .lt (.v 5) (.blt .len [.v 1])) wB,.Z2 (.call 16 [.v 4]) 4]
def b18:List Sx:=[.ifs (.cmp .lt (.v 1) (.blt .len [.v 0])) [.ret (.ix (.v 0) (.v 1))] [],.ret (.e_ 0)]
def b19:List Sx:=[.set 4 (.bin .mod (.bin .add (.bin .add (.bin .mul (.call 18 [.v 0,.v 1]) (.e_ 48271)) (.bin .mul (.bin .mul (.e_ 7919) (.v 1)) (.v 1))) (.e_ 11)) (.v 2)),.ret (.bin .mod (.bin .mod (.bin .mul (.v 4) (.e_ 7919)) (.e_ 999983)) (.v 3))]
def b20:List Sx:=[.ret (.and (.blt (.isi .int) [.v 0]) (.not (.blt (.isi .bool) [.v 0])))]
def b21:List Sx:=[.set 3 (.bin .add (.e_ 1) (.call 19 [.v 0,.v 1,.e_ 10007,.e_ 2])),.ifs (.cmp .eq (.call 19 [.v 0,.v 1,.e_ 10009,.e_ 8]) (.e_ 0)) [.set 3 (.bin .add (.e_ 1) (.call 19 [.v 0,.v 1,.e_ 10037,.e_ 4]))] [],.ret (.blt .tuple [.comp 1 c_ [2,1,0] (.rng [.v 3]) [] (.bin .add (.e_ 1) (.call 19 [.v 3,.v 2,.bin .add (.e_ 10039) (.bin .mul (.e_ 22) (.v 0)),.v 1]))])]
def b22:List Sx:=[.set 1 (.bin .add (.e_ 1) (.call 19 [.v 0,.e_ 0,.e_ 15013,.e_ 3])),.ifs (.cmp .eq (.call 19 [.v 0,.e_ 0,.e_ 15017,.e_ 6]) (.e_ 0)) [.set 1 (.bin .add (.e_ 1) (.call 19 [.v 0,.e_ 0,.e_ 15031,.e_ 6]))] [],.set 2 (.call 19 [.v 0,.e_ 1,.e_ 15053,.e_ 26]),.set 3 (.ix (.lst [.e_ 1,.e_ 3,.e_ 5,.e_ 7,.e_ 9,.e_ 11,.e_ 15]) (.call 19 [.v 0,.e_ 1,.e_ 15061,.e_ 7])),.ret (.comp 1 c_ [2,3] (.rng [.v 1]) [] (.ix (.f_ "abcdefghijklmnopqrstuvwxyz") (.bin .mod (.bin .add (.v 1) (.bin .mul (.v 0) (.v 2))) (.e_ 26))))]
def b23:List Sx:=[.set 4 (.bin .add (.e_ 1) (.call 19 [.v 0,.bin .add (.e_ 10) (.v 1),.e_ 20021,.e_ 3])),.ifs (.cmp .eq (.call 19 [.v 0,.bin .add (.e_ 10) (.v 1),.e_ 20023,.e_ 8]) (.e_ 0)) [.set 4 (.bin .add (.e_ 1) (.call 19 [.v 0,.bin .add (.e_ 10) (.v 1),.e_ 20029,.e_ 6]))] [],.set 5 (.iF .join (.f_ "") [.comp 1 c_ [1,2,0] (.rng [.v 4]) [] (.ix (.v 2) (.call 19 [.v 3,.bin .add (.e_ 10) (.v 1),.bin .add (.e_ 20047) (.bin .mul (.e_ 22) (.v 0)),.blt .len [.v 2]]))]),.set 6 (.bin .add (.e_ 1) (.call 19 [.v 0,.bin .add (.e_ 10) (.v 1),.e_ 25013,.e_ 15])),.set 7 (.iF .join (.f_ "") [.comp 1 c_ [6] (.rng [.e_ 4]) [.cmp .eq (.bin .band (.bin .shr (.v 1) (.v 0)) (.e_ 1)) (.e_ 1)] (.ix (.f_ "wbme") (.v 0))]),.ret (.tup [.v 5,.call 21 [.v 0,.bin .add (.e_ 20) (.v 1),.v 3],.v 7])]
def iB:List Sx:=[.set 5 (.call 23 [.v 0,.v 3,.v 2,.v 1]),.ifs (.cmp .nin (.sl (.v 5) b_ (a_ (.e_ 2))) (.comp 1 c_ [] (.itv (.v 4)) [] (.sl (.v 0) b_ (a_ (.e_ 2))))) [.set 6 (.call 19 [.v 0,.bin .add (.e_ 10) (.v 3),.e_ 25031,.bin .add (.blt .len [.v 4]) (.e_ 1)]),.set 4 (.bin .add (.bin .add (.sl (.v 4) b_ (a_ (.v 6))) (.lst [.v 5])) (.sl (.v 4) (a_ (.v 6)) b_))] []]
def b24:List Sx:=[.set 2 (.call 22 [.v 0]),.set 4 (.comp 1 c_ [1,2,0] (.rng [.blt .len [.v 2]]) [] (.tup [.ix (.v 2) (.v 0),.call 21 [.v 3,.bin .add (.e_ 4) (.v 0),.v 1],.f_ "wbme"])),.loop c_ [3] (.rng [.call 19 [.v 0,.e_ 2,.e_ 20011,.e_ 6]]) iB,.ret (.blt .tuple [.v 4])]
def b25:List Sx:=[.ret (.sl (.call 21 [.v 0,.v 1,.v 2]) b_ (a_ (.e_ 2)))]
def b26:List Sx:=[.set 1 (.ix (.lst [.e_ 3,.e_ 6,.e_ 63]) (.call 19 [.v 0,.e_ 2,.e_ 30011,.e_ 3])),.set 2 (.lst [.tup [],.tup [],.tup [],.tup []]),.ifs (.cmp .eq (.call 19 [.v 0,.e_ 3,.e_ 30013,.e_ 3]) (.e_ 0)) [.mut .seti 2 [.call 25 [.v 0,.e_ 25,.v 1],.e_ 0],.ifs (.cmp .eq (.call 19 [.v 0,.e_ 3,.e_ 30029,.e_ 2]) (.e_ 0)) [.mut .seti 2 [.call 25 [.v 0,.e_ 26,.v 1],.e_ 1]] []] [],.set 3 (.lst []),.ifs (.cmp .eq (.call 19 [.v 0,.e_ 3,.e_ 30047,.e_ 3]) (.e_ 0)) [.set 4 (.bin .add (.e_ 1) (.call 19 [.v 0,.e_ 3,.e_ 30059,.e_ 3])),.ifs (.cmp .eq (.call 19 [.v 0,.e_ 3,.e_ 30071,.e_ 6]) (.e_ 0)) [.set 4 (.bin .add (.e_ 1) (.call 19 [.v 0,.e_ 3,.e_ 30089,.e_ 10]))] [],.set 3 (.comp 1 c_ [1,0] (.rng [.v 4]) [] (.bin .add (.e_ 1) (.call 19 [.v 2,.e_ 27,.bin .add (.e_ 30091) (.bin .mul (.e_ 22) (.v 0)),.v 1]))),.mut .seti 2 [.call 25 [.v 0,.e_ 28,.v 1],.e_ 2],.mut .seti 2 [.call 25 [.v 0,.e_ 29,.v 1],.e_ 3]] [],.ret (.tup [.call 24 [.v 0,.v 1],.blt .tuple [.v 2],.blt .tuple [.v 3]])]
def V4:List Sx:=[.ifs (.and (.cmp .isin (.v 10) (.v 4)) (.cmp .eq (.cmp .isin (.v 10) (.f_ "wb")) (.cmp .ne (.v 9) (.f_ "in")))) [.mut .app 8 [.tup [.v 9,.v 2,.v 3,.v 11]],.ifs (.cmp .gt (.blt .len [.v 5]) (.e_ 0)) [.mut .app 8 [.tup [.v 9,.bin .add (.iF .upper (.sl (.v 2) b_ (a_ (.e_ 1))) []) (.sl (.v 2) (a_ (.e_ 1)) b_),.bin .add (.v 5) (.v 3),.v 11]]] []] []]
def VU:List Sx:=[.ifs (.and (.cmp .isin (.f_ "w") (.v 4)) (.cmp .gt (.blt .len [.v 2]) (.e_ 1))) [.mut .app 8 [.tup [.v 9,.iF .upper (.v 2) [],.bin .add (.v 6) (.v 3),.f_ "done"]]] [],.ifs (.cmp .isin (.f_ "b") (.v 4)) [.mut .app 8 [.tup [.v 9,.iF .upper (.v 2) [],.bin .add (.v 6) (.v 3),.f_ "all"]]] []]
def YZ:List Sx:=[.ifs (.cmp .isin (.v 10) (.v 4)) [.mut .app 8 [.tup [.f_ "all",.iF .upper (.v 2) [],.v 3,.v 11]]] []]
def b27:List Sx:=[.Xz [2,3,4] (.v 1),.set 5 (.ix (.ix (.v 0) (.e_ 1)) (.e_ 0)),.set 6 (.ix (.ix (.v 0) (.e_ 1)) (.e_ 1)),.set 7 (.sl (.lst [.f_ "out",.f_ "let"]) b_ (a_ (.bin .add (.e_ 1) (.blt .int [.cmp .gt (.blt .len [.ix (.v 0) (.e_ 2)]) (.e_ 0)])))),.set 8 (.lst []),.loop c_ [9] (.itv (.bin .add (.v 7) (.lst [.f_ "in"]))) [.loop d_ [10,11] (.itv (.lst [.tup [.f_ "w",.f_ "done"],.tup [.f_ "b",.f_ "in"],.tup [.f_ "m",.f_ "in"],.tup [.f_ "e",.f_ "done"]])) V4],.ifs (.cmp .eq (.blt .len [.v 6]) (.e_ 0)) [.oI 8] [],.loop c_ [9] (.itv (.v 7)) VU,.loop d_ [10,11] (.itv (.lst [.tup [.f_ "m",.f_ "all"],.tup [.f_ "e",.f_ "done"]])) YZ,.oI 8]
def VI:List Sx:=[.set 4 (.tup [.ix (.ix (.v 0) (.e_ 2)) (.v 3)]),.mut .app 2 [.tup [.f_ "out",.blt .str [.v 3],.bin .add (.ix (.v 1) (.e_ 2)) (.v 4),.f_ "num"]],.mut .app 2 [.tup [.f_ "done",.blt .str [.v 3],.bin .add (.ix (.v 1) (.e_ 2)) (.v 4),.f_ "num"]],.mut .app 2 [.tup [.f_ "num",.blt .str [.v 3],.v 4,.f_ "num"]]]
def b28:List Sx:=[.set 1 (.ix (.v 0) (.e_ 1)),.set 2 (.lst [.tup [.f_ "out",.f_ " ",.tup [.e_ 0],.f_ "out"],.tup [.f_ "done",.f_ " ",.tup [.e_ 0],.f_ "out"],.tup [.f_ "num",.f_ " ",.tup [.e_ 0],.f_ "out"]]),.loop c_ [3] (.rng [.blt .len [.ix (.v 0) (.e_ 2)]]) VI,.ifs (.cmp .gt (.blt .len [.ix (.v 0) (.e_ 2)]) (.e_ 0)) [.mut .app 2 [.tup [.f_ "num",.f_ "",.ix (.v 1) (.e_ 3),.f_ "let"]]] [],.loop c_ [5] (.itv (.ix (.v 0) (.e_ 0))) [.mut .ext 2 [.call 27 [.v 0,.v 5]]],.oI 2]
def YV:List Sx:=[.ifs (.and (.cmp .eq (.blt .len [.ix (.v 2) (.e_ 0)]) (.e_ 1)) (.cmp .nin (.ix (.v 2) (.e_ 0)) (.v 1))) [.mut .app 1 [.ix (.v 2) (.e_ 0)],.ifs (.cmp .gt (.blt .len [.ix (.ix (.v 0) (.e_ 1)) (.e_ 0)]) (.e_ 0)) [.mut .app 1 [.iF .upper (.ix (.v 2) (.e_ 0)) []]] []] []]
def b29:List Sx:=[.set 1 (.cat (.lst [.f_ " "]) (.comp 1 c_ [] (.rng [.blt .len [.ix (.v 0) (.e_ 2)]]) [] (.blt .str [.v 0]))),.loop c_ [2] (.itv (.ix (.v 0) (.e_ 0))) YV,.oI 1]
def b30:List Sx:=[.set 3 (.call 29 [.v 1]),.set 3 (.bin .add (.v 3) (.sl (.v 3) (a_ (.e_ 1)) b_)),.ret (.iF .join (.f_ "") [.comp 1 c_ [0,3] (.rng [.v 2]) [] (.ix (.v 2) (.call 19 [.v 1,.bin .add (.e_ 31) (.v 0),.e_ 35023,.blt .len [.v 2]]))])]
def YU:List Sx:=[.set 7 (.bin .add (.v 5) (.blt .len [.ix (.v 6) (.e_ 1)])),.ifs (.and (.cmp .eq (.sl (.v 1) (a_ (.v 5)) (a_ (.v 7))) (.ix (.v 6) (.e_ 1))) (.cmp .isin (.ix (.v 6) (.e_ 3)) (.ix (.v 2) (.v 7)))) [.set 8 (.bin .add (.blt .len [.ix (.v 6) (.e_ 2)]) (.ix (.ix (.v 2) (.v 7)) (.ix (.v 6) (.e_ 3)))),.LB 2 (.v 5) (.ix (.v 6) (.e_ 0)) (.bin .mn (.v 8) (.iF .get (.ix (.v 2) (.v 5)) [.ix (.v 6) (.e_ 0),.v 8]))] []]
def b31:List Sx:=[.set 2 (.comp 1 c_ [] (.rng [.bin .add (.blt .len [.v 1]) (.e_ 1)]) [] .qy),.loop c_ [3] (.itv (.lst [.f_ "out",.f_ "done",.f_ "num"])) [.LB 2 (.blt .len [.v 1]) (.v 3) (.e_ 0)],.loop c_ [4] (.rng [.bin .add (.blt .len [.v 1]) (.e_ 1)]) [.set 5 (.bin .sub (.blt .len [.v 1]) (.v 4)),.loop c_ [6] (.itv (.bin .add (.v 0) (.v 0))) YU],.oI 2]
def YT:List Sx:=[.set 10 (.bin .add (.v 5) (.blt .len [.ix (.v 9) (.e_ 1)])),.ifs (.and (.cmp .eq (.ix (.v 9) (.e_ 0)) (.v 6)) (.and (.cmp .eq (.sl (.v 3) (a_ (.v 5)) (a_ (.v 10))) (.ix (.v 9) (.e_ 1))) (.cmp .isin (.ix (.v 9) (.e_ 3)) (.ix (.v 4) (.v 10))))) [.mut .app 8 [.v 9]] []]
def N4:List Sx:=[.set 8 (.lst []),.loop c_ [9] (.itv (.v 2)) YT,.set 9 (.ix (.v 8) (.call 19 [.v 0,.bin .add (.v 1) (.blt .len [.v 7]),.e_ 70001,.blt .len [.v 8]])),.mut .app 7 [.v 9],.set 5 (.bin .add (.v 5) (.blt .len [.ix (.v 9) (.e_ 1)])),.set 6 (.ix (.v 9) (.e_ 3))]
def b32:List Sx:=[.set 4 (.call 31 [.v 2,.v 3]),.set 5 (.e_ 0),.set 6 (.f_ "out"),.set 7 (.lst []),.Xx (.cmp .lt (.v 5) (.blt .len [.v 3])) N4,.oI 7]
def b33:List Sx:=[.set 1 (.tup []),.loop c_ [2] (.itv (.v 0)) [.set 1 (.bin .add (.v 1) (.ix (.v 2) (.e_ 2)))],.oI 1]
def b34:List Sx:=[.ifs (.not (.blt (.isi .tuple) [.v 0])) [.ret (.con (.bl d_))] [],.loop c_ [1] (.itv (.v 0)) [.ifs (.not (.call 20 [.v 1])) [.ret (.con (.bl d_))] []],.ret (.con (.bl c_))]
def abf:List Sx:=[.ifs (.or (.not (.blt (.isi .tuple) [.v 6])) (.or (.cmp .nin (.v 6) (.v 1)) (.or (.cmp .ne (.ix (.v 6) (.e_ 0)) (.v 3)) (.not (.call 34 [.ix (.v 6) (.e_ 2)]))))) [.ret (.con (.bl d_))] [],.set 3 (.ix (.v 6) (.e_ 3)),.set 4 (.bin .add (.v 4) (.ix (.v 6) (.e_ 2))),.set 5 (.bin .add (.v 5) (.ix (.v 6) (.e_ 1)))]
def b35:List Sx:=[.ifs (.or (.not (.blt (.isi .tuple) [.v 0])) (.or (.cmp .ne (.blt .len [.v 0]) (.e_ 2)) (.or (.not (.blt (.isi .list) [.ix (.v 0) (.e_ 1)])) (.not (.call 34 [.ix (.v 0) (.e_ 0)]))))) [.ret (.con (.bl d_))] [],.set 3 (.f_ "out"),.set 4 (.tup []),.set 5 (.f_ ""),.loop c_ [6] (.itv (.ix (.v 0) (.e_ 1))) abf,.ret (.and (.cmp .isin (.v 3) (.lst [.f_ "out",.f_ "done",.f_ "num"])) (.and (.cmp .eq (.v 4) (.ix (.v 0) (.e_ 0))) (.cmp .eq (.v 5) (.v 2))))]
def b36:List Sx:=[.set 1 (.call 26 [.v 0]),.set 2 (.call 28 [.v 1]),.set 3 (.call 19 [.v 0,.e_ 2,.e_ 35027,.e_ 13]),.ifs (.cmp .eq (.call 19 [.v 0,.e_ 2,.e_ 35051,.e_ 4]) (.e_ 0)) [.set 3 (.bin .add (.e_ 13) (.call 19 [.v 0,.e_ 30,.e_ 35053,.e_ 20]))] [],.set 4 (.call 30 [.v 0,.v 1,.v 3]),.set 5 (.call 17 [.v 1,.v 4]),.set 6 (.ix (.ix (.call 31 [.v 2,.v 4]) (.e_ 0)) (.f_ "out")),.ifs (.or (.not (.call 35 [.v 5,.v 2,.v 4])) (.cmp .ne (.blt .len [.ix (.v 5) (.e_ 0)]) (.v 6))) [.ret (.con (.bl d_))] [],.ifs (.cmp .lt (.blt .len [.call 33 [.call 32 [.v 0,.e_ 31,.v 2,.v 4]]]) (.v 6)) [.ret (.con (.bl d_))] [],.Xj 5 (.e_ 1) (.e_ 1),.set 7 (.bin .add (.sl (.v 4) (a_ (.bin .fdiv (.v 3) (.e_ 2))) b_) (.sl (.v 4) b_ (a_ (.bin .fdiv (.v 3) (.e_ 2))))),.set 8 (.call 17 [.v 1,.v 7]),.ifs (.or (.not (.call 35 [.v 8,.v 2,.v 7])) (.cmp .ne (.blt .len [.ix (.v 8) (.e_ 0)]) (.ix (.ix (.call 31 [.v 2,.v 7]) (.e_ 0)) (.f_ "out")))) [.ret (.con (.bl d_))] [],.set 9 (.tup [.ix (.v 1) (.e_ 0),.tup [.tup [],.tup [],.tup [],.tup []],.tup []]),.set 10 (.call 30 [.v 0,.v 9,.v 3]),.ifs (.not (.call 35 [.call 17 [.v 9,.v 10],.call 28 [.v 9],.v 10])) [.ret (.con (.bl d_))] [],.ifs (.cmp .ne (.blt .len [.ix (.call 17 [.v 9,.v 10]) (.e_ 0)]) (.ix (.ix (.call 31 [.call 28 [.v 9],.v 10]) (.e_ 0)) (.f_ "out"))) [.ret (.con (.bl d_))] [],.set 11 (.call 17 [.v 1,.v 4]),.ret (.and (.call 35 [.v 11,.v 2,.v 4]) (.cmp .eq (.blt .len [.ix (.v 11) (.e_ 0)]) (.v 6)))]
def d0:Df:=⟨top 5,1,1,b0⟩
def d1:Df:=⟨top 6,1,4,b1⟩
def d2:Df:=⟨top 12,1,1,b2⟩
def d3:Df:=⟨top 13,0,0,b3⟩
def d4:Df:=⟨top 14,2,5,b4⟩
def d5:Df:=⟨top 15,1,8,b5⟩
def d6:Df:=⟨top 16,2,2,b6⟩
def d7:Df:=⟨top 17,2,10,b7⟩
def d8:Df:=⟨top 18,1,4,b8⟩
def d9:Df:=⟨top 19,1,4,b9⟩
def d10:Df:=⟨top 21,2,5,b10⟩
def d11:Df:=⟨top 22,3,3,b11⟩
def d12:Df:=⟨top 23,3,4,b12⟩
def d13:Df:=⟨top 24,4,5,b13⟩
def d14:Df:=⟨top 25,2,5,b14⟩
def d15:Df:=⟨top 26,4,4,b15⟩
def d16:Df:=⟨top 27,1,3,b16⟩
def d17:Df:=⟨top 28,2,8,b17⟩
def d18:Df:=⟨top 30,2,2,b18⟩
def d19:Df:=⟨top 31,4,5,b19⟩
def d20:Df:=⟨top 32,1,1,b20⟩
def d21:Df:=⟨top 33,3,4,b21⟩
def d22:Df:=⟨top 34,1,4,b22⟩
def d23:Df:=⟨top 35,4,8,b23⟩
def d24:Df:=⟨top 36,2,7,b24⟩
def d25:Df:=⟨top 37,3,3,b25⟩
def d26:Df:=⟨top 38,1,5,b26⟩
def d27:Df:=⟨top 39,2,12,b27⟩
def d28:Df:=⟨top 40,1,6,b28⟩
def d29:Df:=⟨top 41,1,3,b29⟩
def d30:Df:=⟨top 42,3,4,b30⟩
def d31:Df:=⟨top 43,2,9,b31⟩
def d32:Df:=⟨top 44,4,11,b32⟩
def d33:Df:=⟨top 45,1,3,b33⟩
def d34:Df:=⟨top 46,1,2,b34⟩
def d35:Df:=⟨top 47,3,7,b35⟩
def d36:Df:=⟨top 48,1,12,b36⟩
def D:List Df:=[d0,d1,d2,d3,d4,d5,d6,d7,d8,d9,d10,d11,d12,d13,d14,d15,d16,d17,d18,d19,d20,d21,d22,d23,d24,d25,d26,d27,d28,d29,d30,d31,d32,d33,d34,d35,d36]
noncomputable def con:List (be×Dat):=[(ab "FIGURES",(.str (ab "0123456789"))),(ab "STATES",(.tup [(.str (ab "out")),(.str (ab "in")),(.str (ab "done")),(.str (ab "num")),(.str (ab "let")),(.str (ab "all"))])),(ab "END_STATES",(.tup [(.str (ab "out")),(.str (ab "done")),(.str (ab "num"))])),(ab "WAYS",(.tup [(.tup [(.str (ab "w")),(.str (ab "out")),(.str (ab "done"))]),(.tup [(.str (ab "w")),(.str (ab "let")),(.str (ab "done"))]),(.tup [(.str (ab "b")),(.str (ab "out")),(.str (ab "in"))]),(.tup [(.str (ab "b")),(.str (ab "let")),(.str (ab "in"))]),(.tup [(.str (ab "m")),(.str (ab "in")),(.str (ab "in"))]),(.tup [(.str (ab "e")),(.str (ab "in")),(.str (ab "done"))])])),(ab "ALL_GREAT_WAYS",(.tup [(.tup [(.str (ab "w")),(.str (ab "out")),(.str (ab "done"))]),(.tup [(.str (ab "w")),(.str (ab "let")),(.str (ab "done"))]),(.tup [(.str (ab "b")),(.str (ab "out")),(.str (ab "all"))]),(.tup [(.str (ab "b")),(.str (ab "let")),(.str (ab "all"))]),(.tup [(.str (ab "m")),(.str (ab "all")),(.str (ab "all"))]),(.tup [(.str (ab "e")),(.str (ab "all")),(.str (ab "done"))])]))]
def G:Sg:=OF D con
def Yz:∀d∈D,Xa G d:=Vb (by kernel_rfl)
end K31
namespace M
open PySem L2
@[simp] def Zf:full []=[]:=rfl
@[simp] def Xm:full (a_ (d,b)::ρ)=a_ d::full ρ:=rfl
@[simp] def Xn:full (b_::ρ)=b_::full ρ:=rfl
section
@[simp] def jA:gp .add (.int i) (.int j)=a_ (.int (i+j),d_):=rfl
@[simp] def EG:gp .sub (.int i) (.int j)=a_ (.int (i - j),d_):=rfl
def oj(h:0<j):gp .mod (.int i) (.int j)=a_ (.int (i % j),d_):=if_pos h
@[simp] def Sw:gp .band (.int i) (.int j)=a_ (.int (uR i j),d_):=rfl
@[simp] def WN:gp .bor (.int i) (.int j)=a_ (.int (Nk i j),d_):=rfl
@[simp] def Z9:gn .lt (.int i) (.int j)=a_ (decide (i<j)):=rfl
@[simp] def aaa:gn .le (.int i) (.int j)=a_ (decide (i<=j)):=rfl
@[simp] def aab:gn .gt (.int i) (.int j)=a_ (decide (j<i)):=rfl
@[simp] def aac:gn .ge (.int i) (.int j)=a_ (decide (j<=i)):=rfl
@[simp] def I0:gn .eq (.int i) (.int j)=a_ (i == j):=rfl
@[simp] def Xp:gn .ne (.int i) (.int j)=a_ (!(i == j)):=rfl
@[simp] def Xr:gn .eq (.bl x) (.bl y)=a_ (x == y):=rfl
@[simp] def Xq:gn .ne (.bl x) (.bl y)=a_ (!(x == y)):=rfl
@[simp] def XE:fW (.bl x)=a_ x:=rfl
@[simp] def wg:gZ .len [.lst xs]=a_ (.int xs.length,d_):=rfl
@[simp] def wc:gZ .len [.tup xs]=a_ (.int xs.length,d_):=rfl
@[simp] def Sv:gZ .list [.lst xs]=a_ (.lst xs,kC xs):=rfl
@[simp] def Su:gZ .list [.tup xs]=a_ (.lst xs,kC xs):=rfl
@[simp] def QY:gZ .tuple [.lst xs]=a_ (.tup xs,d_):=rfl
@[simp] def QX:gZ .tuple [.tup xs]=a_ (.tup xs,d_):=rfl
@[simp] def ZG:gZ .listrev [.lst xs]=a_ (.lst xs.reverse,kC xs.reverse):=rfl
@[simp] def ZH:gZ (.isi t) [d]=a_ (.bl (LY t d),d_):=rfl
@[simp] def Y2:tU (.lst xs) (.int i)=qH xs i:=rfl
@[simp] def R0:tU (.tup xs) (.int i)=qH xs i:=rfl
@[simp] def abX{lo:Option Int}:Dt (.lst xs) lo hi=a_ (.lst (cutD xs lo hi),kC (cutD xs lo hi)):=rfl
@[simp] def abo:im (.int i)=c_:=rfl
@[simp] def ab9:im (.bl x)=c_:=rfl
@[simp] def abl:im (.str x)=c_:=rfl
@[simp] def abm:im .non=c_:=rfl
@[simp] def abn:im (.lst xs)=d_:=rfl
@[simp] def rB(ns:List Int):kC (ns.map Dat.int)=c_:=by
 induction ns with
 |nil=>rfl
 |cons n r a=>show(c_ && kC (r.map Dat.int))=c_;rw[a];rfl
@[simp] def Ze{ρ:dG}{i:Nat}{d:Dat}{b:Bool}:full (ρ.set i (a_ (d,b)))=(full ρ).set i (a_ d):=by
 unfold full;rw[List.map_set];rfl
end
section
def fE{ds:List Dat}(h:ds.length=np)(B:eC C body (ds.map (λd=>a_ (d,d_))++dZ (nl - np) b_)=a_ (.rt d fr)):QA C np nl body ds=a_ (d,fr):=by
 unfold QA;rw[if_pos h,B];rfl
def kK(h:oE C s ρ=a_ (.nx ρ1)):eC C (s::ss) ρ=eC C ss ρ1:=by show(oE C s ρ).bind _=_;rw[h];rfl
def Fb(h:oE C s ρ=a_ (.rt d fr)):eC C (s::ss) ρ=a_ (.rt d fr):=by show(oE C s ρ).bind _=_;rw[h];rfl
def qp(h:oE C s ρ=a_ (.nx ρ1)):eC C [s] ρ=a_ (.nx ρ1):=by show(oE C s ρ).bind _=_;rw[h];rfl
def L8(h:bp C e (full ρ)=a_ (d,fr))(ht:fW d=a_ c_):oE C (.ifs e a b) ρ=eC C a ρ:=by show(bp C e (full ρ)).bind _=_;rw[h];show(fW d).bind _=_;rw[ht];rfl
def Gx(h:bp C e (full ρ)=a_ (d,fr))(ht:fW d=a_ d_):oE C (.ifs e a b) ρ=eC C b ρ:=by show(bp C e (full ρ)).bind _=_;simp_all
end
section
def wj(h1:-18446744073709551616<i)(h2:i<18446744073709551616):gp .mul (.int i) (.int j)=a_ (.int (i * j),d_):=if_pos (.inl ⟨h1,h2⟩)
def qA(h1:-18446744073709551616<j)(h2:j<18446744073709551616):gp .mul (.int i) (.int j)=a_ (.int (i * j),d_):=if_pos (.inr ⟨h1,h2⟩)
def Cy(h1:0<j)(h2:j<1073741824):gp .fdiv (.int i) (.int j)=a_ (.int (i / j),d_):=if_pos ⟨h1,h2⟩
def uJ{C:Fs}{i:Nat}{e:Ex}{ρ:dG}:oE C (.set i e) ρ=(bp C e (full ρ)).bind λx=>if(im x.1 || x.2)=c_ then a_ (.nx (ρ.set i (a_ (x.1,x.2 && !im x.1))))else(bp C e (AG (mN e.fv ρ))).map λy=>.nx ((mN e.fv ρ).set i (a_ (y.1,y.2 && !im y.1))):=by
 show(NB C e ρ).map _=_;unfold NB
 cases bp C e (full ρ)with
 |none=>rfl
 |some x=>
   show jC _ (if(im x.1 || x.2)=c_ then _ else _)=if(im x.1 || x.2)=c_ then _ else _
   cases im x.1 || x.2 with
   |true=>rfl
   |false=>exact Nl ..
def Qz:oE C (.ifs e a b) ρ=(bp C e (full ρ)).bind λx=>(fW x.1).bind λz=>if z=c_ then eC C a ρ else eC C b ρ:=rfl
section
end
def sU{ds:List Dat}(h:ds.length<1000000):jx .app (.lst ds) [d]=a_ (.lst (ds++[d])):=if_pos (by exact aa h br)
def B6:oE C (.loop one ts (.rng es) body) ρ=(zN C (.rng es) (full ρ)).bind λds=>jS (iw one ts) (eC C body) ds ρ:=by
 show((zN C (.rng es) (full ρ)).map _).bind _=_;cases zN C (.rng es) (full ρ)<;>rfl
def yw:oE C (.loop one ts (.itv e) body) ρ=(bp C e (full ρ)).bind λx=>if(im x.1 || x.2)=c_ then(kB x.1).bind λds=>jS (iw one ts) (eC C body) ds ρ
  else(bp C e (AG (mN e.fv ρ))).bind λy=>(kB y.1).bind λds=>jS (iw one ts) (eC C body) ds (mN e.fv ρ):=by
 show((NB C e ρ).bind λx=>(kB x.1).map λds=>(ds,x.2.2)).bind _=_;unfold NB
 cases bp C e (full ρ)with
 |none=>rfl
 |some x=>
   refine (?_ : bB (bB (if(im x.1 || x.2)=c_ then _ else _) _) _=if(im x.1 || x.2)=c_ then _ else _)
   cases im x.1 || x.2 with
   |true=>refine (?_ : ((kB x.1).map _).bind _=(kB x.1).bind _);cases kB x.1<;>rfl
   |false=>
     cases bp C e (AG (mN e.fv ρ))with
     |none=>rfl
     |some y=>refine (?_ : ((kB y.1).map _).bind _=(kB y.1).bind _);cases kB y.1<;>rfl
section
def Zm:gn .eq (.str x) (.str y)=a_ (x == y):=rfl
def YF:gn .ne (.str x) (.str y)=a_ (!(x == y)):=rfl
def Zl(h1:eT 19 ds=c_)(h2:eT 19 ys=c_):gn .eq (.tup ds) (.tup ys)=a_ (nK ds ys):=by simp only[gn,hV,h1,h2,qO,if_true,oQ]
def aaX(h1:eT 19 ds=c_)(h2:eT 19 ys=c_):gn .ne (.tup ds) (.tup ys)=a_ (!nK ds ys):=by simp only[gn,hV,h1,h2,qO,if_true,oQ]
end
def jc(h:bp C a ρ=a_ (.bl x,f)):bp C (.and a b) ρ=if x=c_ then bp C b ρ else a_ (.bl d_,d_):=by
 show(bp C a ρ).bind _=_;rw[h];rfl
def Eo(h:bp C a ρ=a_ (.bl x,f)):bp C (.or a b) ρ=if x=c_ then a_ (.bl c_,d_)else bp C b ρ:=by
 show(bp C a ρ).bind _=_;rw[h];rfl
def GL(h:bp C c ρ=a_ (d,f))(ht:fW d=a_ x):bp C (.ite c a b) ρ=if x=c_ then bp C a ρ else bp C b ρ:=by
 show(bp C c ρ).bind _=_;simp_all
end
section
def Mx:bp C (.con d) ρ=a_ (d,d_):=rfl
def mW:bp C (.v i) ρ=((ρ[i]?).join).map λd=>(d,d_):=rfl
def mX:bp C (.bin o a b) ρ=(bp C a ρ).bind λx=>(bp C b ρ).bind λy=>gp o x.1 y.1:=rfl
def Em:bp C (.cmp o a b) ρ=(bp C a ρ).bind λx=>(bp C b ρ).bind λy=>(gn o x.1 y.1).map λr=>(.bl r,d_):=rfl
def Wf:bp C (.not a) ρ=(bp C a ρ).bind λx=>(fW x.1).map λb=>(.bl (!b),d_):=rfl
def Ek:bp C (.tup es) ρ=(oK C es ρ).bind λx=>if x.1.length<=1000000 then a_ (.tup x.1,x.2)else b_:=rfl
def Wg:bp C (.lst es) ρ=(oK C es ρ).bind λx=>if x.1.length<=1000000 then a_ (.lst x.1,x.2)else b_:=rfl
def yy:bp C (.ix a b) ρ=(bp C a ρ).bind λx=>(bp C b ρ).bind λy=>(tU x.1 y.1).map λd=>(d,d_):=rfl
def GJ:bp C (.sl a b c) ρ=(bp C a ρ).bind λx=>(ZJ C ρ b).bind λl=>(ZJ C ρ c).bind λh=>Dt x.1 l h:=rfl
def kL:bp C (.call f es) ρ=(mY C es ρ).bind λds=>C f ds:=rfl
def En:bp C (.blt f es) ρ=(mY C es ρ).bind λds=>gZ f ds:=rfl
def GI:mY C [] ρ=a_ []:=rfl
def bP:mY C (e::es) ρ=(bp C e ρ).bind λx=>(mY C es ρ).map λr=>x.1::r:=rfl
def gW:oK C (e::es) ρ=(bp C e ρ).bind λx=>(oK C es ρ).map λr=>(x.1::r.1,(x.2 || im x.1) && r.2):=rfl
def uK:bp C (.iF m o es) ρ=(bp C o ρ).bind λx=>(mY C es ρ).bind λds=>iE m x.1 ds:=rfl
def QC:zN C (.itv a) ρ=(bp C a ρ).bind λx=>kB x.1:=rfl
def QB:zN C (.rng es) ρ=(mY C es ρ).bind DD:=rfl
def pN{ifs:List Ex}(hi:zN C it ρ=a_ items)(hl:items.length<=1000000)(B:sZ (qa C nt one (jW nt caps ρ) ifs elt) items=a_ (ys,fr)) :
  bp C (.comp nt one caps it ifs elt) ρ=a_ (.lst ys,fr):=by
 show(zN C it ρ).bind _=_
 simp_all
def yE:qa C 1 c_ ρ0 [] elt d=(bp C elt (ρ0.set 0 (a_ d))).map a_:=rfl
def MM{ρ0:iy}(h:bp C i (ρ0.set 0 (a_ d))=a_ (x,f))(ht:fW x=a_ t):qa C 1 c_ ρ0 [i] elt d=if t=c_ then(bp C elt (ρ0.set 0 (a_ d))).map a_ else a_ b_:=by
 unfold qa;simp only[G8,bH,B7,h,ht];cases t<;>rfl
end
mutual
noncomputable def same:Dat->Dat->Bool
 | .non,c=>match c with
   |.non=>c_
   |_=>d_
 | .bl a,c=>match c with
   |.bl b=>a == b
   |_=>d_
 | .int i,c=>match c with
   |.int j=>i == j
   |_=>d_
 | .str x,c=>match c with
   |.str y=>x == y
   |_=>d_
 | .tup xs,c=>match c with
   |.tup ys=>vg xs ys
   |_=>d_
 | .lst xs,c=>match c with
   |.lst ys=>vg xs ys
   |_=>d_
 |_,_=>d_
noncomputable def vg:List Dat->List Dat->Bool
 |[],[]=>c_
 |x::xs,y::ys=>same x y && vg xs ys
 |_,_=>d_
end
mutual
theorem Fv:∀(x y:Dat),same x y=c_->x=y
 |.non,y,h=>by cases y<;>first|rfl|(simp[same]at h)
 |.bl a,y,h=>by cases y<;>first|(simp[same]at h;rw[h])|(simp[same]at h)
 |.int a,y,h=>by cases y<;>first|(simp[same]at h;rw[h])|(simp[same]at h)
 |.str a,y,h=>by cases y<;>first|(simp[same]at h;rw[h])|(simp[same]at h)
 |.tup a,y,h=>by cases y<;>first|(rw[vf _ _ h])|(simp[same]at h)
 |.lst a,y,h=>by cases y<;>first|(rw[vf _ _ h])|(simp[same]at h)
theorem vf:∀(x y:List Dat),vg x y=c_->x=y
 |[],y,h=>by cases y<;>first|rfl|(simp[vg]at h)
 |x::xs,y,h=>by
   cases y with
   |nil=>simp[vg]at h
   |cons y ys=>
     simp[vg]at h;rw[Fv _ _ h.1,vf _ _ h.2]
end
def qW:g_->g_->Bool
 |some (d,b),a_ (e,c)=>same d e && b == c
 |none,b_=>c_
 |_,_=>d_
def o5(h:qW x y=c_):x=y:=by
 cases x with
 |none=>cases y<;>first|rfl|(simp[qW]at h)
 |some x=>
   cases y with
   |none=>simp[qW]at h
   |some y=>
     obtain⟨d,b⟩:=x;simp[qW]at h;rw[Fv _ _ h.1,h.2]
def A4{n dflt:Nat}{i:Int}(h0:0<=i)(h1:i<=n):HT.iW n dflt (a_ i)=i.toNat:=by
 obtain⟨k,rfl⟩:=j1 h0;exact eB (eU.mp h1)
def GV{α:Type}{xs:List α}{i:Int}(h0:0<=i)(h1:i<=xs.length):cutD xs (a_ i) b_=xs.drop i.toNat:=by
 unfold cutD;rw[A4 h0 h1,HT.A5];rw[dP (by simp)]
def GW{α:Type}{xs:List α}{i:Int}(h0:0<=i)(h1:i<=xs.length):cutD xs b_ (a_ i)=xs.take i.toNat:=by
 unfold cutD;rw[A4 h0 h1];rfl
def om{xs ys:List Dat}(h:xs.length+ys.length<=1000000):gp .add (.lst xs) (.lst ys)=a_ (.lst (xs++ys),kC (xs++ys)):=if_pos (oh h)
noncomputable abbrev T(l:List Nat):be:=⟨l.toArray⟩
def Hd(a b:List Nat):T a++T b=T (a++b):=by
 show Str.mk _=_;simp[T]
def ZO(h:T a=T b):a=b:=by
 simp_all
def SG(a b:List Nat):(T a == T b)=decide (a=b):=by
 by_cases h:a=b
 .subst h;simp
 simp_all
def rP(a:List Nat):(T a).length=a.length:=by show(a.toArray).size=_;simp
def qr:gn .isin (.str (T [c])) (.str (T l))=a_ (decide (c∈l)):=by
 show a_ _=_;rw[ET (T l) c]
def YD:gn .nin (.str (T [c])) (.str (T l))=a_ (!decide (c∈l)):=by
 show a_ _=_;rw[ET (T l) c]
def zk:eV (T l)=l.map λc=>T [c]:=by
 unfold eV;simp[T]
def len_T{l:List Nat}(h:l.length<=1000000):gZ .len [.str (T l)]=a_ (.int l.length,d_):=by
 show(if(T l).length<=aB then a_ (Dat.int (T l).length,d_)else b_)=_;rw[rP,if_pos (by exact aa h br)]
def CC{a b:List Nat}(h:a.length+b.length<=1000000):gp .add (.str (T a)) (.str (T b))=a_ (.str (T (a++b)),d_):=by
 show(if(T a).length+(T b).length<=aB then a_ (Dat.str (T a++T b),d_)else b_)=_;rw[if_pos (by exact aa h br),Hd]
def VX{l:List Nat}(hl:l.length<=1000000)(h:i<l.length):tU (.str (T l)) (.int (i:Nat))=a_ (.str (T [l[i]])):=by
 show(if(T l).length<=aB then(qH (T l).cps.toList (i)).map λc=>Dat.str ⟨#[c]⟩else b_)=_;rw[if_pos (by exact aa hl br)];rw[show qH (T l).cps.toList (i)=a_ l[i]from jX (by simp[h])];rfl
theorem E8:∀ws:List (List Nat),xS (ws.map λl=>Dat.str (T l))=a_ (ws.map T)
 |[]=>rfl
 |x::r=>by simp only[aA,xS,E8 r,cA]
def VT:∀ws:List (List Nat),uc (T []) (ws.map T)=T ws.flatten:=by
 intro ws;rw[show uc (T []) (ws.map T)=Str.join (T []) (ws.map T)from StrLaws.glued_eq_join _ _]
 induction ws with
 |nil=>rfl
 |cons x r a=>
   cases r with
   |nil=>show T x=_;simp
   |cons y r=>
     show(T x++T []++Str.join (T []) ((y::r).map T))=_;rw[a,Hd,Hd];simp
def zx{ws:List (List Nat)}(h:(ws.map (·.length)).sum<=1000000):iE .join (.str (T [])) [.lst (ws.map λl=>Dat.str (T l))]=a_ (.str (T ws.flatten),d_):=by
 simp only[iE,mSL,E8,bH];rw[if_pos,VT];rw[rP,cv];have e:(Rn ((λx:be=>x.length) ∘ T) ws)=ws.map (·.length):=cQ λl _=>rP l;rw[e];simpa using h
def ne_T(a b:List Nat):gn .ne (.str (T a)) (.str (T b))=a_ (!decide (a=b)):=by
 show a_ (!(T a == T b))=_;rw[SG]
def Zq(a b:List Nat):gn .eq (.str (T a)) (.str (T b))=a_ (decide (a=b)):=by
 show a_ (T a == T b)=_;rw[SG]
theorem tz:∀(a b:List Int),nK (a.map Dat.int) (b.map Dat.int)=decide (a=b)
 |[],[]=>rfl
 |[],b::bs=>by simp[nK]
 |a::as,[]=>by simp[nK]
 |a::as,b::bs=>by
   simp only[aA,nK,oQ,tz as bs];by_cases h:a=b
   .subst h;simp
   .simp[h]
theorem qm(k:Nat):∀a:List Int,eT k (a.map Dat.int)=c_
 |[]=>by simp[eT]
 |a::as=>by simp[eT,hV,qm k as]
def EH{xs ys:List Dat}(h:xs.length+ys.length<=1000000):gp .add (.tup xs) (.tup ys)=a_ (.tup (xs++ys),d_):=if_pos (oh h)
def IA{ds es:List Dat}(h:ds.length+es.length<=1000000):jx .ext (.lst ds) [.lst es]=a_ (.lst (ds++es)):=if_pos (oh h)
def Iz{ds es:List Dat}(h:ds.length+es.length<=1000000):jx .ext (.lst ds) [.tup es]=a_ (.lst (ds++es)):=if_pos (oh h)
end M
namespace M
open PySem L2
noncomputable def rk:List Nat:=[97,98,99,100,101,102,103,104,105,106,107,108,109,110,111,112,113,114,115,116,117,118,119,120,121,122]
def NF:List Nat:=[119,98,109,101]
abbrev Fm:=List Nat×List Int×List Nat
abbrev iO(t:Fm):Dat:=.tup [.str (T t.1),.tup (t.2.1.map Dat.int),.str (T t.2.2)]
def OX(h:m<=1000000):DD [.int (m:Nat)]=a_ ((aO m).map λk:Nat=>Dat.int k):=by
 show(if _ then _ else b_)=_;rw[if_pos (by omega)];simp
def Sh(xs:List Nat):(xs.map λc=>[c]).flatten=xs:=by
 induction xs with
 |nil=>rfl
 |cons a r b=>simp_all
def XT(xs:List Nat):((xs.map λc=>[c]).map (·.length)).sum=xs.length:=by
 induction xs with
 |nil=>rfl
 |cons a r b=>rw[aA,aA,List.sum_cons,b];exact Nat.add_comm _ _
def Xd(k:Nat):List Nat:=(aO 4).filterMap λi=>if k / 2 ^ i % 2=1 then NF[i]? else b_
def Gw(f:Fm):im (iO f)=c_:=by
 show(c_ && (kC (f.2.1.map Dat.int) && (c_ && c_)))=c_;rw[rB];rfl
theorem mV:∀fs:List Fm,kC (fs.map iO)=c_
 |[]=>rfl
 |f::fs=>by show(im (iO f) && kC (fs.map iO))=c_;rw[Gw,mV fs];rfl
def zj(a b c:Dat):Dt (.tup [a,b,c]) b_ (a_ 2)=a_ (.tup [a,b],d_):=rfl
def AS(f:Fm):hV 20 (.tup [.str (T f.1),.tup (f.2.1.map Dat.int)])=c_:=by
 show(c_ && (eT 18 (f.2.1.map Dat.int) && c_))=c_;rw[qm];rfl
abbrev tI(l:List Int):Dat:=.tup (l.map Dat.int)
end M
namespace K31
open PySem L2 M
structure Ee(f:Fm):Prop where
 ne:f.1≠[]
 low:∀c∈f.1,c∈rk
 ll:f.1.length<=6
 c1:0<f.2.1.length
 cl:f.2.1.length<=4
 pp:∃k,1<=k/\k<16/\f.2.2=Xd k
abbrev Za(i:Int):N2:=.inl (.inl i)
theorem vH:∀cs:List Int,RT (cs.map Dat.int)=a_ (cs.map Za)
 |[]=>rfl
 |c::r=>by simp only[aA,RT,n2I,vH r,bH,cA]
def Qo{a b:List Int}(e:a.map Za=b.map Za):a=b:=(Jr (λx y z=>Ao (Ao z))).mp e
end K31
namespace K31E
open PySem L2 M K31
abbrev sT(l:List Nat):Dat:=.str (T l)
def wX(h:bp C a (full ρ)=a_ (d,fl)):eC C [.ret a] ρ=a_ (.rt d fl):=by
 show bB (jC _ (bp C a (full ρ))) _=_;rw[h];rfl
def eo(h:bp C a (full ρ)=a_ (d,fl))(hi:im d=c_):oE C (.set i a) ρ=a_ (.nx (ρ.set i (a_ (d,d_)))):=by
 rw[uJ]
 grind
def Fq(h:bp C a (full ρ)=a_ (.lst ds,c_)):oE C (.set i a) ρ=a_ (.nx (ρ.set i (a_ (.lst ds,c_)))):=by
 rw[uJ,h];rfl
def Ev(C:Fs)(e:Ex)(ρ:iy)(P:Dat->Prop):Prop:=∃d f,bp C e ρ=a_ (d,f)/\im d=c_/\P d
def Ei(C:Fs)(e:Ex)(ρ:iy)(P:Nat->Prop):Prop:=∃q f,bp C e ρ=a_ (.int (q:Nat),f)/\P q
def Go(C:Fs)(B:List Sx)(ρ:dG)(Q:Out->Prop):Prop:=∃o,eC C B ρ=a_ o/\Q o
def Dw(C:Fs)(N:Dat):Prop:=∀k p m:Int,0<=k/\k<=1000->0<p->0<m->∃q:Nat,C 19 [N,.int k,.int p,.int m]=a_ (.int (q:Nat),d_)/\(q:Int)<m
section
def gY(hd:Dw C N)(h0:bp C a ρ=a_ (N,f))(h1:bp C k ρ=a_ (.int i,g))(h2:bp C p ρ=a_ (.int j,h))(h3:bp C m ρ=a_ (.int l,w))(hk:0<=i/\i<=1000)(hp:0<j)(B:0<l)(H:∀q:Nat,(q:Int)<l->P q):Ei C (.call 19 [a,k,p,m]) ρ P:=by
 obtain⟨q,r,b⟩:=hd i j l hk hp B;exact⟨q,d_,by rw[kL,bP,h0,bP,h1,bP,h2,bP,h3];exact r,H q b⟩
def MB(c:Nat)(h:Ei C e ρ P)(hp:∀q,P q->P' (c+q)):Ei C (.bin .add (.con (.int (c:Nat))) e) ρ P':=by
 obtain⟨q,f,r,b⟩:=h;refine⟨c+q,d_,?_,hp q b⟩;rw[mX,r];show a_ (Dat.int ((c)+(q)),d_)=_;simp
def Et(h:Ei C e ρ P)(hp:∀q,P q->P' (1+q)):Ei C (.bin .add (.e_ 1) e) ρ P':=MB 1 h hp
def tY{b:Nat}(hd:Dw C N)(h0:bp C a ρ=a_ (N,f))(h1:bp C k ρ=a_ (.int i,g))(h2:bp C p ρ=a_ (.int j,h))(h3:bp C m ρ=a_ (.int l,w))(hk:0<=i/\i<=1000)(hp:0<j)(B:0<l)(hb:l<=b):Ei C (.bin .add (.e_ 1) (.call 19 [a,k,p,m])) ρ λv=>1<=v/\v<=b:=
 Et (gY hd h0 h1 h2 h3 hk hp B λ_ h=>h) λq h=>by omega
def GN{is:List Nat}(B:bp C x ρ=a_ (.lst (is.map λi:Nat=>Dat.int i),f))(h:Ei C e ρ (·< is.length))(hp:∀q∈is,P q):Ei C (.ix x e) ρ P:=by
 obtain⟨q,g,r,a⟩:=h;refine⟨is[q],d_,?_,hp _ (bA a)⟩;rw[yy,B,r];show((qH _ (q)).map λd=>(d,d_))=_;rw[jX (by rw[aP,af a];rfl)];rfl
def tX(h:Ei C e ρ P)(j:Int):∃t f,bp C (.cmp .eq e (.con (.int j))) ρ=a_ (.bl t,f):=by
 obtain⟨q,f,r,_⟩:=h;exact⟨_,d_,by rw[Em,r];rfl⟩
def gH(h1:bp C a ρ=a_ (x',f))(h2:bp C e ρ=a_ (y,g))(h:gn o x' y=a_ r):bp C (.cmp o a e) ρ=a_ (.bl r,d_):=by rw[Em,h2];simp_all
def g7(h1:bp C a ρ=a_ (x',f))(h2:bp C e ρ=a_ (y,g))(h:gp o x' y=r):bp C (.bin o a e) ρ=r:=by rw[mX,h1,h2];exact h
def j5(h1:bp C a ρ=a_ (x',f))(h:gZ o [x']=r):bp C (.blt o [a]) ρ=r:=by rw[En,bP,h1];exact h
def Vu(h1:bp C a ρ=a_ (x',f))(h:iE o x' []=r):bp C (.iF o a []) ρ=r:=by rw[uK,h1];exact h
def Vt(h1:bp C a ρ=a_ (x',f))(h2:bp C e ρ=a_ (y,g))(h:iE o x' [y]=r):bp C (.iF o a [e]) ρ=r:=by rw[uK,h1,bP,h2];exact h
def BD(h1:bp C a ρ=a_ (x',f))(h2:bp C e ρ=a_ (y,g))(h:tU x' y=a_ d):bp C (.ix a e) ρ=a_ (d,d_):=by rw[yy,h1,h2];show(tU x' y).map _=_;rw[h];rfl
def Kk(h1:bp C a ρ=a_ (x',f))(h2:bp C e ρ=a_ (.int i,g))(h:Dt x' b_ (a_ i)=r):bp C (.sl a b_ (a_ e)) ρ=r:=by rw[GJ,h1];show bB (Bi (bp C e ρ)) _=_;rw[h2];exact h
def OC(h1:bp C a ρ=a_ (x',f))(h2:bp C e ρ=a_ (.int i,g))(h:Dt x' (a_ i) b_=r):bp C (.sl a (a_ e) b_) ρ=r:=by rw[GJ,h1];show bB (Bi (bp C e ρ)) _=_;rw[h2];exact h
def wb(h1:bp C a ρ=a_ (x',f)):bp C (.call q [a]) ρ=C q [x']:=by rw[kL,bP,h1];rfl
def wa(h1:bp C a ρ=a_ (x',f))(h2:bp C e ρ=a_ (y,g)):bp C (.call q [a,e]) ρ=C q [x',y]:=by rw[kL,bP,h1,bP,h2];rfl
def MV(h1:bp C a ρ=a_ (x',f))(h2:bp C e ρ=a_ (y,g))(h3:bp C x ρ=a_ (z,h)):bp C (.call q [a,e,x]) ρ=C q [x',y,z]:=by rw[kL,bP,h1,bP,h2,bP,h3];rfl
def qv(h:Ei C e ρ P):Ev C e ρ (λd=>∃q:Nat,d=.int (q:Nat)/\P q):=by
 obtain⟨q,f,r,b⟩:=h;exact⟨_,f,r,rfl,q,rfl,b⟩
def El(h:bp C a ρ=a_ (.int i,f))(h':bp C e ρ=a_ (.int j,g))(hi:0<=i/\i<=1000):bp C (.bin .mul a e) ρ=a_ (.int (i * j),d_):=by
 rw[mX,h,h'];exact wj (Jx hi.1) (eE hi.2 br)
def lZ(h:bp C a ρ=a_ (.int i,f))(h':bp C e ρ=a_ (.int j,g)):bp C (.bin .add a e) ρ=a_ (.int (i+j),d_):=by
 rw[mX,h,h'];rfl
def vX{m:Nat}(h:bp C e ρ=a_ (.int (m:Nat),f))(B:m<=1000):zN C (.rng [e]) ρ=a_ ((aO m).map λk:Nat=>Dat.int k):=by
 rw[QB,bP,h];exact OX (aa B br)
def Mv{ls:List Nat}{P:Nat->Prop}(B:bp C x ρ=a_ (.lst (ls.map λc=>sT [c]),f))(h:Ei C e ρ (·< ls.length))(hl:∀c∈ls,P c):∃c b,bp C (.ix x e) ρ=a_ (sT [c],b)/\P c:=by
 obtain⟨q,g,r,a⟩:=h;refine⟨ls[q],d_,?_,hl _ (bA a)⟩;rw[yy,B,r];show((qH _ (q)).map λd=>(d,d_))=_;rw[jX (by rw[aP,af a];rfl)];rfl
def pO{α β:Type}{caps:List Nat}{it:Iw}{elt:Ex}{xs:List α}{e:α->Dat}(g:β->Dat)(P:α->β->Prop)(hi:zN C it ρ=a_ (xs.map e))(hl:xs.length<=1000)(B:∀y,im (g y)=c_)(h:∀x∈xs,∃y b,bp C elt ((jW 1 caps ρ).set 0 (a_ (e x)))=a_ (g y,b)/\P x y):∃ys:List β,bp C (.comp 1 c_ caps it [] elt) ρ=a_ (.lst (ys.map g),c_)/\ys.length=xs.length/\(∀y∈ys,∃x∈xs,P x y)/\∀x∈xs,∃y∈ys,P x y:=by
 suffices ∃ys:List β,sZ (qa C 1 c_ (jW 1 caps ρ) [] elt) (xs.map e)=a_ (ys.map g,c_)/\ys.length=xs.length/\(∀y∈ys,∃x∈xs,P x y)/\∀x∈xs,∃y∈ys,P x y by
  obtain⟨ys,a,b⟩:=this;exact⟨ys,pN hi (by rw[aw];exact aa hl br) a,b⟩
 clear hi hl
 induction xs with
 |nil=>exact⟨[],rfl,rfl,(λ_ h=>nomatch h),(λ_ h=>nomatch h)⟩
 |cons x xs d=>
   refine ac λ_ i=>?_;obtain⟨y,b,hb,hp⟩:=h x jy;obtain⟨ys,h1,h2,h3,f⟩:=d λz c=>h z (ki _ c);refine i ?_;refine⟨y::ys,?_,by simp_all,λz c=>?_,λz c=>?_⟩
   .rw[aA,sZ,yE,hb,h1];simp[B y]
   .rcases au.mp c with rfl|c
    .exact⟨x,jy,hp⟩
    simp_all
   .rcases au.mp c with rfl|c
    .exact⟨y,jy,hp⟩
    simp_all
end
section
variable{C:Fs}{ρ:dG}{e:Ex}{ss:List Sx}{Q:Out->Prop}{P:Dat->Prop}{i:Nat}
def cF(h:oE C s ρ=a_ (.nx ρ1))(k:Go C ss ρ1 Q):Go C (s::ss) ρ Q:=by
 obtain⟨o,a,b⟩:=k;exact⟨o,by rw[kK h];exact a,b⟩
def oi(h:Ev C e (full ρ) P)(k:∀d,P d->Go C ss (ρ.set i (a_ (d,d_))) Q):Go C (.set i e::ss) ρ Q:=by
 obtain⟨d,f,h1,h2,h3⟩:=h;exact cF (eo h1 h2) (k d h3)
def fI(h:bp C e (full ρ)=a_ (.lst ds,c_))(k:Go C ss (ρ.set i (a_ (.lst ds,c_))) Q):Go C (.set i e::ss) ρ Q:=cF (Fq h) k
def jT(h:bp C e (full ρ)=a_ (d,f))(q:Q (.rt d f)):Go C [.ret e] ρ Q:=⟨_,wX h,q⟩
def bR(q:Q (.nx ρ)):Go C [] ρ Q:=⟨_,rfl,q⟩
def zw(hi:(ρ[i]?).join=a_ (d,c_))(he:oK C es (full ρ)=a_ (ds,c_))(B:jx op d ds=a_ d'):oE C (.mut op i es) ρ=a_ (.nx (ρ.set i (a_ (d',c_)))):=by
 show((oK C es (full ρ)).bind λx=>if x.2=c_ then YJ op i ρ x.1 (ρ[i]?).join else b_)=_;rw[he,hi];show(jx op d ds).map _=_;rw[B];rfl
def tm(h:Ev C e (full ρ) P)(hi:(ρ[i]?).join=a_ (.lst ds,c_))(hl:ds.length<1000000)(k:∀d,P d->Go C ss (ρ.set i (a_ (.lst (ds++[d]),c_))) Q):Go C (.mut .app i [e]::ss) ρ Q:=by
 obtain⟨d,f,h1,h2,h3⟩:=h;exact cF (zw hi (by rw[gW,h1];show a_ ([d],(f || im d) && c_)=_;simp_all) (sU hl)) (k d h3)
def Gk(hb:bnd d ρ=a_ ρ1)(h:body ρ1=a_ (.nx ρ2)):jS bnd body (d::ds) ρ=jS bnd body ds ρ2:=by
 simp only[jS,hb,bH,h];rfl
theorem Bx{α:Type}{O:Dat->dG->Option dG}{body:List Sx}{V:α->Dat}{I:List α->dG->Prop}:∀(xs ys:List α)(ρ:dG),(∀(us:List α)x(vs:List α)ρ,ys++xs=us++x::vs->I us ρ->∃ρ1,O (V x) ρ=a_ ρ1/\Go C body ρ1 λo=>∃B,o=.nx B/\I (us++[x]) B)->I ys ρ->∃ρ',jS O (eC C body) (xs.map V) ρ=a_ (.nx ρ')/\I (ys++xs) ρ'
 |[],ys,ρ,_,h=>⟨ρ,rfl,by simp_all⟩
 |x::xs,ys,ρ,hs,h=>by
   refine ac λ_ b=>?_;obtain⟨ρ1,h1,_,h2,B,rfl,h3⟩:=hs ys x xs ρ rfl h;obtain⟨ρ',a,h5⟩:=Bx xs (ys++[x]) B (λus z vs ρ q=>hs us z vs ρ (by simp_all)) h3;refine b ?_;rw[aA,Gk h1 h2]
   simp_all
def jU{α:Type}{one:Bool}{O:List Nat}{it:Iw}{body:List Sx}{V:α->Dat}{xs:List α}{ρ0:dG}{I:List α->dG->Prop}(Y:oE C (.loop one O it body) ρ=jS (iw one O) (eC C body) (xs.map V) ρ0)(Z:I [] ρ0)(hs:∀(us:List α)x(vs:List α)ρ,xs=us++x::vs->I us ρ->∃ρ1,iw one O (V x) ρ=a_ ρ1/\Go C body ρ1 λo=>∃B,o=.nx B/\I (us++[x]) B)(K:∀ρ',I xs ρ'->Go C ss ρ' Q):Go C (.loop one O it body::ss) ρ Q:=by
 obtain⟨ρ',h1,h2⟩:=Bx xs [] ρ0 hs Z;exact cF (by rw[Y];exact h1) (K ρ' h2)
def k9(he:bp C e (full ρ)=a_ (d,f))(hd:kB d=a_ ds)(hf:(im d || f)=c_):oE C (.loop one ts (.itv e) body) ρ=jS (iw one ts) (eC C body) ds ρ:=by
 rw[yw,he,bH,if_pos hf,hd];rfl
def Ec{O:List Nat}{body:List Sx}{I:List Nat->dG->Prop}{P:Nat->Prop}(he:Ei C e (full ρ) P)(Y:∀m,P m->m<=1000)(Z:I [] ρ)(hs:∀m,P m->∀(us:List Nat)x(vs:List Nat)ρ,aO m=us++x::vs->I us ρ->∃ρ1,iw c_ O (.int (x:Nat)) ρ=a_ ρ1/\Go C body ρ1 λo=>∃B,o=.nx B/\I (us++[x]) B)(K:∀m,P m->∀ρ',I (aO m) ρ'->Go C ss ρ' Q):Go C (.loop c_ O (.rng [e]) body::ss) ρ Q:=by
 obtain⟨m,f,he,a⟩:=he;exact jU (by rw[B6,vX he (Y m a)];rfl) Z (hs m a) (K m a)
def BQ{J:dG->Prop}{A:List Sx}(h:∃t f,bp C e (full ρ)=a_ (.bl t,f))(B:Go C A ρ λo=>∃ρ',o=.nx ρ'/\J ρ')(O:J ρ)(k:∀ρ',J ρ'->Go C ss ρ' Q):Go C (.ifs e A []::ss) ρ Q:=by
 obtain⟨t,f,h⟩:=h;cases t
 .exact cF (by rw[Gx h rfl];rfl) (k ρ O)
 .obtain⟨_,h1,ρ',rfl,h2⟩:=B;exact cF (by rw[L8 h rfl];exact h1) (k ρ' h2)
def vS{e1 e2 e3:Ex}{P:Nat->Prop}(h1:Ei C e1 (full ρ) P)(h2:∀v:Nat,∃t f,bp C e2 (full (ρ.set i (a_ (.int (v:Nat),d_))))=a_ (.bl t,f))(h3:∀v:Nat,Ei C e3 (full (ρ.set i (a_ (.int (v:Nat),d_)))) P)(K:∀v:Nat,P v->Go C ss (ρ.set i (a_ (.int (v:Nat),d_))) Q):Go C (.set i e1::.ifs e2 [.set i e3] []::ss) ρ Q:=by
 refine oi (qv h1) λd hd=>?_;obtain⟨v,rfl,b⟩:=hd;refine BQ (J:=λρ'=>∃v:Nat,P v/\ρ'=ρ.set i (a_ (.int (v),d_))) (h2 v) (oi (qv (h3 v)) λd hd=>?_) ⟨v,b,rfl⟩ λρ' h=>?_
 .obtain⟨w,rfl,a⟩:=hd;exact bR ⟨_,rfl,w,a,List.set_set _⟩
 .obtain⟨w,a,rfl⟩:=h;exact K w a
def kD{A B:List Sx}{b:Bool}{f:Bool}{J:dG->Prop}(h:bp C e (full ρ)=a_ (.bl b,f))(O:b=c_->Go C A ρ λo=>∃ρ',o=.nx ρ'/\J ρ')(Y:b=d_->Go C B ρ λo=>∃ρ',o=.nx ρ'/\J ρ')(k:∀ρ',J ρ'->Go C ss ρ' Q):Go C (.ifs e A B::ss) ρ Q:=by
 cases b
 .obtain⟨_,h1,ρ',rfl,h2⟩:=Y rfl;exact cF (by rw[Gx h rfl];exact h1) (k ρ' h2)
 .obtain⟨_,h1,ρ',rfl,h2⟩:=O rfl;exact cF (by rw[L8 h rfl];exact h1) (k ρ' h2)
end
def Mi(h:bp C e (full ρ)=a_ (.bl c_,f))(O:eC C A ρ=a_ (.rt d g))(q:Q (.rt d g)):Go C (.ifs e A B::ss) ρ Q:=⟨_,by rw[Fb (by rw[L8 h rfl];exact O)],q⟩
def lX(h:bp C e (full ρ)=a_ (.bl d_,f))(k:Go C ss ρ Q):Go C (.ifs e A []::ss) ρ Q:=cF (by rw[Gx h rfl];rfl) k
def ph{ds:List Dat}(B:ds.length=np)(h:Go (Cn D n) body (ds.map (λd=>a_ (d,d_))++dZ (nl - np) b_) λo=>o=.rt d b):QA (Cn D n) np nl body ds=a_ (d,b):=by
 obtain⟨_,h1,rfl⟩:=h;exact fE B h1
def Kx{ns:List Int}:∃c:Int,Cn D (n+1) 18 [.lst (ns.map Dat.int),.int (k:Nat)]=a_ (.int c,d_):=by
 have hl:gZ .len [.lst (ns.map Dat.int)]=a_ (.int (ns.length),d_):=by simp
 by_cases h:k<ns.length
 .refine⟨ns[k],ph rfl (Mi (gH rfl (j5 rfl hl) (congrArg a_ (decide_eq_true ((C9.mpr h))))) (wX (BD rfl rfl (jX (by simp_all)))) rfl)⟩
 .exact⟨0,ph rfl (lX (gH rfl (j5 rfl hl) (congrArg a_ (decide_eq_false ((λz=>(k7 z (eU.mpr (bT h)))))))) (jT rfl rfl))⟩
def IW(hc:C 18 [N,.int k]=a_ (.int c,d_))(B:0<=k)(O:k<=1000)(hp:0<p)(Y:0<m):Go C b19 [a_ (N,d_),a_ (.int k,d_),a_ (.int p,d_),a_ (.int m,d_),b_] λo=>o=.rt (.int ((c * 48271+7919 * k * k+11) % p * 7919 % 999983 % m)) d_:=by
 exact cF (eo (g7 (g7 (g7 (g7 hc rfl (qA br br)) (g7 (g7 rfl rfl (wj br br)) rfl (qA (Jx B) (eE O br))) rfl) rfl rfl) rfl (oj hp)) rfl) (jT (g7 (g7 (g7 rfl rfl (qA br br)) rfl (oj br)) rfl (oj Y)) rfl)
def dw{ns:List Int}:Dw (Cn D (n+2)) (.lst (ns.map Dat.int)):=λk p m hk hp a=>by
 obtain⟨j,b⟩:=j1 hk.1;obtain⟨c,hc⟩:=Kx;rw[<-b]at hc;have h:=IW hc hk.1 hk.2 hp a;generalize e:(c * 48271+7919 * k * k+11) % p * 7919 % 999983=y at h;have e2:y % m<m:=Int.emod_lt_of_pos _ a;obtain⟨q,d⟩:=j1 (Rr _ (Dc a));rw[d]at e2 h;exact⟨q,ph rfl h,e2⟩
def uM{C:Fs}{ρ:iy}{α:Type}{caps:List Nat}{it:Iw}{c:Ex}{xs:List α}{e:α->Dat}(p:α->Bool)(hi:zN C it ρ=a_ (xs.map e))(hl:xs.length<=1000)(B:∀x,im (e x)=c_)(h:∀x∈xs,∃f,bp C c ((jW 1 caps ρ).set 0 (a_ (e x)))=a_ (.bl (p x),f))(O:∀d:Dat,bp C (.v 0) ((jW 1 caps ρ).set 0 (a_ d))=a_ (d,d_):=by intro;rfl):bp C (.comp 1 c_ caps it [c] (.v 0)) ρ=a_ (.lst ((xs.filter p).map e),c_):=by
 refine pN hi (by rw[aw];exact aa hl br) ?_;clear hi hl
 induction xs with
 |nil=>rfl
 |cons x xs a=>
   obtain⟨f,hf⟩:=h x jy;rw[aA,sZ,MM hf rfl,a λy b=>h y (ki _ b),O];cases q:p x<;>simp[q,B]
def G0{C:Fs}{ρ:iy}{α:Type}{caps:List Nat}{it:Iw}{elt:Ex}{xs:List α}{e g:α->Dat}(hi:zN C it ρ=a_ (xs.map e))(hl:xs.length<=1000)(B:∀x∈xs,im (g x)=c_)(h:∀x∈xs,∃f,bp C elt ((jW 1 caps ρ).set 0 (a_ (e x)))=a_ (g x,f)):bp C (.comp 1 c_ caps it [] elt) ρ=a_ (.lst (xs.map g),c_):=by
 refine pN hi (by grind) ?_;clear hi hl
 induction xs with
 |nil=>rfl
 |cons x xs b=>
   obtain⟨f,hf⟩:=h x jy;rw[aA,sZ,yE,hf,b (λy a=>B y (ki _ a)) λy a=>h y (ki _ a)];simp[B x jy]
abbrev Ed:=be×List Nat×List Int×be
abbrev cx(e:Ed):Dat:=.tup [.str e.1,.str (T e.2.1),.tup (e.2.2.1.map Dat.int),.str e.2.2.2]
abbrev MD(e:Ed):List NK:=[.inl (.inr e.1),.inl (.inr (T e.2.1)),.inr (e.2.2.1.map Za),.inl (.inr e.2.2.2)]
def RR(e:Ed):DN (cx e)=a_ (MD e):=by
 simp only[DN,Xg,nkI,vH,cA,bH]
theorem Lp:∀es:List Ed,wY (es.map cx)=a_ (es.map MD)
 |[]=>rfl
 |e::es=>by
   rw[aA,wY,RR,Lp es];rfl
theorem allI:∀l:List Int,(l.map Za).all sI=c_
 |[]=>rfl
 |a::r=>by rw[aA,eh,allI r];rfl
abbrev Z0:List (List Nat):=[[1],[1],[2],[1]]
def xX(e:Ed):(MD e).map sN=Z0:=by
 simp only[aA,List.map_nil,sN,allI,if_true]
abbrev JA(e:Ed):List (List (List Int)):=codeN (MD e)
def HI(es:List Ed):List Dat:=(ip xg (es.map JA)).map (Eu Z0)
def RQ(e:Ed):∀x∈MD e,Bl (sN x)=c_:=λx a=>by
 have:sN x∈(MD e).map sN:=cP a;rw[xX]at this;exact bF.mp br _ this
def Wn(e:Ed):Eu Z0 (JA e)=cx e:=by
 have:=GS (RR e) (RQ e);rw[xX]at this;exact this
def MT(h:JA a=JA b):a=b:=by
 have h1 :=code_inj ((xX a).trans (xX b).symm) (RQ a) h;simp only[MD,fT,Sum.inl.injEq,Sum.inr.injEq,and_true]at h1;obtain⟨h1,h2,h3,c⟩:=h1;exact EY h1 (EY (ZO h2) (EY (Qo h3) c))
def zv{α:Type}[BEq α][LawfulBEq α]{l l':List α}(B:l.Nodup)(h:∀x∈l,x∈l'):l.length<=l'.length:=by
 induction l generalizing l' with
 |nil=>exact aM _
 |cons a r c=>
   have ha:=h a jy;have:=c (aX.mp B).2 λx b=>(List.mem_erase_of_ne (λe:x=a=>(aX.mp B).1 (e▸b))).mpr (h x (ki _ b))
   grind
def TH(es:List Ed):∃E:List Ed,HI es=E.map cx/\E.Nodup/\(∀e,e∈E↔e∈es)/\E.length<=es.length:=by
 have a:∀l:List (List (List (List Int))),(∀c∈l,∃e:Ed,c=JA e)->l.Nodup->∃E:List Ed,l=E.map JA/\E.Nodup:=λl=>by
  induction l with
  |nil=>intro _ _;exact⟨[],rfl,ee⟩
  |cons c r d=>
    intro h b;obtain⟨e,rfl⟩:=h c jy;obtain⟨E,h1,h2⟩:=d (λc hc=>h c (ki _ hc)) (aX.mp b).2;refine⟨e::E,by rw[h1];rfl,aX.mpr ⟨λm=>(aX.mp b).1 ?_,h2⟩⟩;rw[h1];exact cP m
 obtain⟨E,h1,h2⟩:=a (ip xg (es.map JA)) (λc hc=>by
  obtain⟨e,_,rfl⟩:=bQ.mp ((jE Bz).mp hc)
  exact⟨e,rfl⟩) (nD Bz (jR Bz _))
 refine⟨E,?_,h2,λe=>?_,?_⟩
 .unfold HI;rw[h1,cv];exact cQ λe _=>Wn e
 .have:=jE Bz (z:=JA e) (l:=es.map JA);rw[h1]at this;constructor
  .intro h;obtain⟨f,he,q⟩:=bQ.mp (this.mp (cP h));rw[<-MT q];exact he
  .intro h;obtain⟨f,he,q⟩:=bQ.mp (this.mpr (cP h));rw[<-MT q];exact he
 .have:=zv (nD Bz (jR Bz (es.map JA))) λx g=>(jE Bz).mp g;rw[h1,aw,aw]at this;exact this
def SQ(es:List Ed):(ip xg (es.map JA)).length<=es.length:=by
 have:=zv (nD Bz (jR Bz (es.map JA))) λx a=>(jE Bz).mp a
 simp_all
def Oj{es:List Ed}(hl:es.length<=300)(B:es≠[]):gZ .sset [.lst (es.map cx)]=a_ (.lst (HI es),c_):=by
 cases es with
 |nil=>exact absurd rfl B
 |cons e r=>
   have hs:Jw ((e::r).map MD)=Z0:=xX e
   have h3:(((e::r).map MD).all λk=>decide (k.map sN=Jw ((e::r).map MD)))=c_:=by
    rw[bF];intro k hk;obtain⟨q,_,rfl⟩:=bQ.mp hk;rw[hs];exact decide_eq_true (xX q)
   show(wY ((e::r).map cx)).bind xW=_;rw[Lp];show xW ((e::r).map MD)=_;unfold xW Lf;rw[if_pos ⟨by rw[aw];omega,by rfl,by rw[hs];rfl,h3,by rw[cv];exact aa (SQ (e::r)) hl⟩,hs,cv];rfl
structure Tb where
 fs:List Fm
 m0:List Int
 m1:List Int
 m2:List Int
 m3:List Int
 fg:List Int
structure Iu(t:Tb):Prop where
 ho:∀f∈t.fs,Ee f
 hl:t.fs.length<=12
 h0:t.m0.length<=2
 h1:t.m1.length<=2
 h2:t.m2.length<=2
 h3:t.m3.length<=2
 hf:t.fg.length<=10
abbrev Nw(t:Tb):Dat:=.tup [tI t.m0,tI t.m1,tI t.m2,tI t.m3]
abbrev tb(t:Tb):Dat:=.tup [.tup (t.fs.map iO),Nw t,tI t.fg]
def Lo(m:List Int):gn .ne (tI m) (.tup [])=a_ (!m.isEmpty):=by
 cases m with
 |nil=>rfl
 |cons a r=>
   rw[aaX (qm 19 (a::r)) rfl];rfl
def Es(m:List Int):gn .eq (tI m) (.tup [])=a_ m.isEmpty:=by
 cases m with
 |nil=>rfl
 |cons a r=>
   have h :=qm 19 (a::r);rw[Zl h rfl];rfl
def o9(m:List Int):gZ .len [tI m]=a_ (.int (m.length:Nat),d_):=by rw[wc,aw]
def mr(m:List Int):im (tI m)=c_:=rB m
def px(a b:List Int)(h:a.length+b.length<=1000):gp .add (tI a) (tI b)=a_ (tI (a++b),d_):=by
 rw[EH (by rw[aw,aw];exact aa h br),<-dJ]
noncomputable abbrev lu:be:=ab "out"
abbrev j3:be:=ab "let"
def L7(a b c:be)(m:List Int):im (.tup [.str a,.str b,tI m,.str c])=c_:=by
 simp[im,kC,(rB m)]
def upB:(rk.all λc=>decide (ub c=[c - 32]))=c_:=by kernel_rfl
def up1(h:c∈rk):ub c=[c - 32]:=of_decide_eq_true (bF.mp upB c h)
def KS(u:List Nat)(f:Nat->List Nat):(Aq (T u) λ_ c=>f c)=(u.flatMap f).toArray:=by
 apply Array.ext';simp only[Aq];rw[Array.toList_flatten,Array.toList_mapIdx]
 have e:∀(u:List Nat),(u.mapIdx λ_ c=>(f c).toArray)=u.map λc=>(f c).toArray:=λu=>by
  apply jj<;>simp
 rw[e,cv]
 congr 1
def uw(h:∀c∈u,c∈rk)(hl:u.length<=1000):iE .upper (.str (T u)) []=a_ (.str (T (u.map (·- 32))),d_):=by
 show(if(T u).length<=1000000 then a_ (Dat.str (sk (T u)),d_)else b_)=_;rw[rP,if_pos (aa hl br)]
 have:sk (T u)=T (u.map (·- 32)):=by
  show(⟨Aq (T u) λ_ c=>ub c⟩:be)=_;rw[KS];show T _=T _
  congr 1
  clear hl
  induction u with
  |nil=>rfl
  |cons a r b=>
    rw[ni,up1 (h a jy),b λc m=>h c (ki _ m)];rfl
 rw[this]
def Mg(l:List Nat):List Nat:=(T [l.headD 0 - 32]++bY (T l) (a_ 1) b_).cps.toList
def BO(ho:Ee f):∃(c0:Nat) (B:be),tU (.str (T f.1)) (.int 0)=a_ (.str (T [c0]))/\iE .upper (.str (T [c0])) []=a_ (.str (T [c0 - 32]),d_)/\Dt (.str (T f.1)) (a_ 1) b_=a_ (.str B,d_)/\gp .add (.str (T [c0 - 32])) (.str B)=a_ (.str (T (Mg f.1)),d_):=by
 obtain⟨c0,d,hc⟩:∃c r,f.1=c::r:=by
  cases q:f.1 with
  |nil=>exact absurd q ho.ne
  |cons c r=>exact⟨c,r,rfl⟩
 have hlen:=ho.ll;have b :=ho.low c0 (by simp_all);refine⟨c0,bY (T f.1) (a_ 1) b_,?_,uw (λc hc=>by simp_all) (by simp),if_pos (by exact aa hlen br),?_⟩
 .rw[hc];exact VX (by rw[<-hc];exact aa hlen br) (by simp)
 .have e3:(T f.1).length=f.1.length:=rP _;have e1:(T [c0 - 32]).length=1:=rP _;have hh:f.1.headD 0=c0:=by rw[hc];rfl
  show(if(T [c0 - 32]).length+(bY (T f.1) (a_ 1) b_).length<=aB then a_ (Dat.str (T [c0 - 32]++bY (T f.1) (a_ 1) b_),d_)else b_)=_;rw[if_pos (by rw[e1,iP];exact pY (As (T f.1) (a_ 1) b_) (ae e3) hlen)];unfold Mg;rw[hh]
abbrev uT(l:List Nat):List Nat:=l.map (·- 32)
abbrev ua:be:=ab "all"
abbrev iY:be:=ab "done"
theorem D5:∀es:List Ed,kC (es.map cx)=c_
 |[]=>rfl
 |e::es=>by rw[aA,kC,L7,D5 es];rfl
def JS(ho:Ee f):iE .upper (.str (T f.1)) []=a_ (.str (T (uT f.1)),d_):=uw ho.low (aa ho.ll br)
abbrev lI:be:=ab "num"
abbrev FIG:be:=ab "0123456789"
def rL:List Nat:=[48,49,50,51,52,53,54,55,56,57]
def G7:List Ed:=[("out",[32],[0],"out"),("done",[32],[0],"out"),("num",[32],[0],"out")]
def NIL:ab ""=T []:=by decide +kernel
noncomputable abbrev pB:be:=ab "in"
def PW:ab "w"=T [119]:=by decide +kernel
def PB:ab "b"=T [98]:=by decide +kernel
def PE:ab "e"=T [101]:=by decide +kernel
def p8(e:Ed):im (cx e)=c_:=L7 _ _ _ _
def Wj(es:List Ed)(e:Ed):es.map cx++[cx e]=(es++[e]).map cx:=by simp
theorem fU{α β:Type}{g:α->List β}{m:Nat}:∀{l:List α},(∀x∈l,(g x).length<=m)->(l.flatMap g).length<=m * l.length
 |[],_=>by simp
 |a::r,h=>by
   rw[ni,ag,bx,Nat.mul_add];have:=h a jy;have:=fU λx b=>h x (ki _ b);omega
def ite_le{α:Type}{x y:List α}(h1:x.length<=n)(h2:y.length<=n):(if b=c_ then x else y).length<=n:=by
 split
 .exact h1
 .exact h2
def vp{α:Type}{l us vs:List α}{x:α}(h:l=us++x::vs):us.length<l.length:=by
 rw[h,ag];exact bb (aW _ _)
section
variable{es:List Ed}
def lr(h1:bp C a ρ=a_ (.str e.1,f1))(h2:bp C b ρ=a_ (sT e.2.1,f2))(h3:bp C c ρ=a_ (tI e.2.2.1,f3))(B:bp C d ρ=a_ (.str e.2.2.2,f4)):Ev C (.tup [a,b,c,d]) ρ (·= cx e):=
 ⟨cx e,_,by rw[Ek,gW,h1,gW,h2,gW,h3,gW,B];rfl,p8 e,rfl⟩
def abc(h:Ev C x ρ (·= d)):bp C (.lst [x]) ρ=a_ (.lst [d],c_):=by
 obtain⟨_,b,ev,hi,rfl⟩:=h;rw[Wg,gW,ev];show a_ (_,(b || im _) && c_)=_;rw[hi,tN];rfl
def oD(h:Ev C x (full ρ) (·= cx e))(hi:(ρ[i]?).join=a_ (.lst (es.map cx),c_))(hl:es.length<1000)(k:Go C ss (ρ.set i (a_ (.lst ((es++[e]).map cx),c_))) Q):Go C (.mut .app i [x]::ss) ρ Q:=
 tm h hi (by rw[aw];exact aa hl br) λd hd=>by rw[hd,Wj];exact k
def Qs(h:bp C c (full ρ)=a_ (.bl b,f'))(B:Ev C x (full ρ) (·= cx e))(hi:(ρ[i]?).join=a_ (.lst (es.map cx),c_))(O:ρ.set i (a_ (.lst (es.map cx),c_))=ρ)(hl:es.length<1000)(k:Go C ss (ρ.set i (a_ (.lst ((es++if b=c_ then [e]else []).map cx),c_))) Q):Go C (.ifs c [.mut .app i [x]] []::ss) ρ Q:=by
 refine kD (J:=λρ'=>ρ'=ρ.set i (a_ (.lst ((es++if b=c_ then [e]else []).map cx),c_))) h (λq=>?_) (λq=>bR ⟨_,rfl,?_⟩) λρ' e=>by rw[e];exact k
 .rw[if_pos q];exact oD B hi hl (bR ⟨_,rfl,rfl⟩)
 simp_all
def abG(h:bp C a ρ=a_ (.bl x,f))(h':bp C b ρ=a_ (.bl y,g)):∃g,bp C (.and a b) ρ=a_ (.bl (x && y),g):=by
 cases x
 .exact⟨d_,jc h⟩
 .exact⟨g,by rw[jc h];exact h'⟩
def or2(h:bp C a ρ=a_ (.bl x,f))(h':bp C b ρ=a_ (.bl y,g)):∃g,bp C (.or a b) ρ=a_ (.bl (x || y),g):=by
 cases x
 .exact⟨g,by rw[Eo h];exact h'⟩
 .exact⟨d_,Eo h⟩
end
noncomputable def W6:List (Nat×be×be):=[(119,"out","done"),(119,"let","done"),(98,"out","in"),(98,"let","in"),(109,"in","in"),(101,"in","done")]
def A6:List (Nat×be×be):=[(119,"out","done"),(119,"let","done"),(98,"out","all"),(98,"let","all"),(109,"all","all"),(101,"all","done")]
abbrev w6D(w:Nat×be×be):Dat:=.tup [sT [w.1],.str w.2.1,.str w.2.2]
noncomputable abbrev IT(f:Fm)(w:Nat×be×be):List Ed:=if decide (w.1∈f.2.2)=c_ then [(w.2.1,f.1,f.2.1,w.2.2)]else []
abbrev E6(f:Fm):List Ed:=W6.flatMap (IT f)
def D7{α:Type}{b:Bool}{e:α}:(if b=c_ then [e]else []).length<=1:=ite_le (ao 1) (aM 1)
def ME(f:Fm):(E6 f).length<=6:=fU λ_ _=>D7
def L6{fs:List Fm}:(im (.tup (fs.map iO)) || d_)=c_:=by
 show(kC (fs.map iO) || d_)=c_;rw[mV];rfl
def HS{fs:List Fm}(hl:fs.length<=12):Cn D (n+1) 5 [.tup (fs.map iO)]=a_ (.lst ((fs.flatMap E6).map cx),c_):=by
 refine ph rfl ?_;refine fI rfl (jU (I:=λus ρ=>∃d e i a b c,ρ=[a_ (.tup (fs.map iO),d_),a_ (.lst ((us.flatMap E6).map cx),c_),d,e,i,a,b,c]) (k9 rfl rfl L6) ⟨_,_,_,_,_,_,rfl⟩ ?_ λρ ⟨_,_,_,_,_,_,h⟩=>by rw[h];exact⟨_,rfl,rfl⟩);rintro us f vs _ j ⟨_,_,_,a,b,c,rfl⟩;have h1:=fU (l:=us) λf _=>ME f;have h0:=vp j;refine⟨_,rfl,jU (V:=w6D) (xs:=W6) (I:=λws ρ=>∃a b c,ρ=[a_ (.tup (fs.map iO),d_),a_ (.lst ((us.flatMap E6++ws.flatMap (IT f)).map cx),c_),a_ (sT f.1,d_),a_ (tI f.2.1,d_),a_ (sT f.2.2,d_),a,b,c]) (k9 rfl rfl rfl) ⟨a,b,c,by rw[fj,aH];rfl⟩ ?_ λρ ⟨_,_,_,h⟩=>by rw[h];exact bR ⟨_,rfl,_,_,_,_,_,_,by rw[cu,cW]⟩⟩;rintro ws w vs _ k ⟨_,_,_,rfl⟩;have h2:=fU (g:=IT f) (l:=ws) λ_ _=>D7;have h3:ws.length<6:=vp k;exact⟨_,rfl,Qs (gH rfl rfl qr) (lr rfl rfl rfl rfl) rfl rfl (by grind) (bR ⟨_,rfl,_,_,_,by rw[cu,cW,<-aJ];rfl⟩)⟩
def Ic:Cn D (n+1) 3 []=a_ (.lst (G7.map cx),c_):=by
 exact o5 (by kernel_rfl)
abbrev Nz(m:List Int)(e:Ed):Ed:=(e.1,Mg e.2.1,m++e.2.2.1,e.2.2.2)
abbrev GX:Ex:=.tup [.v 0,.bin .add (.iF .upper (.ix (.v 1) (.e_ 0)) []) (.sl (.v 1) (a_ (.e_ 1)) b_),.bin .add (.v 4) (.v 2),.v 3]
theorem yq{m:List Int}(O:m.length<=2)(B:Dat):∀es:List Ed,(∀e∈es,∃f,Ee f/\e.2.1=f.1/\e.2.2.1=f.2.1)->sZ (qa C 4 d_ (jW 4 [1] [a_ B,a_ (tI m)]) [] GX) (es.map cx)=a_ ((es.map (Nz m)).map cx,c_)
 |[],_=>rfl
 |e::es,h=>by
   refine ac λ_ n=>?_;obtain⟨f,hf,e1,e2⟩:=h e jy;obtain⟨c0,l,i,j,k,g⟩:=BO hf;have hl:=hf.cl;obtain⟨d,b,ev,hi,rfl⟩:=lr (ρ:=[a_ (.str e.1),a_ (sT e.2.1),a_ (tI e.2.2.1),a_ (.str e.2.2.2),a_ (tI m)]) (e:=Nz m e) (a:=.v 0) (b:=.bin .add (.iF .upper (.ix (.v 1) (.e_ 0)) []) (.sl (.v 1) (a_ (.e_ 1)) b_)) (c:=.bin .add (.v 4) (.v 2)) (d:=.v 3) rfl (g7 (Vu (BD rfl rfl (by rw[e1];exact i)) j) (OC rfl rfl (by rw[e1];exact k)) (by rw[<-e1]at g;exact g)) (px m e.2.2.1 (by rw[e2];exact aa (dA O hl) br)) rfl
   refine n ?_;have hc:qa C 4 d_ (jW 4 [1] [a_ B,a_ (tI m)]) [] GX (cx e)=a_ (a_ (cx (Nz m e),b)):=by
    show(bp C GX [a_ (.str e.1),a_ (sT e.2.1),a_ (tI e.2.2.1),a_ (.str e.2.2.2),a_ (tI m)]).map a_=_;rw[ev];rfl
   rw[aA];unfold sZ;rw[hc,yq O B es λe he=>h e (ki _ he)]
   simp_all
def HZ{n:Nat}{m:List Int}(B:m.length<=2){es:List Ed}(h:∀e∈es,∃f,Ee f/\e.2.1=f.1/\e.2.2.1=f.2.1)(hl:es.length<=1000):Cn D (n+1) 6 [.lst (es.map cx),tI m]=a_ (.lst ((es.map (Nz m)).map cx),c_):=
 fE rfl (wX (pN rfl (by rw[aw];exact aa hl br) (yq B _ es h)))
noncomputable abbrev bg(f:Fm)(w:Nat×be×be):Bool:=decide (w.1∈f.2.2) && (!decide ([w.1]=[119]) || decide (1<(f.1.length:Int)))
def rH(m:List Int)(f:Fm)(w:Nat×be×be):List Ed:=if bg f w=c_ then [(w.2.1,uT f.1,(if(w.2.1 == ua)=c_ then []else m)++f.2.1,w.2.2)]else []
abbrev H6(m:List Int)(f:Fm):List Ed:=A6.flatMap (rH m f)
def lY:(rH m f w).length<=1:=D7
def Eb(m:List Int)(f:Fm):(H6 m f).length<=6:=fU λ_ _=>lY
def zo{n:Nat}{m:List Int}(B:m.length<=2){fs:List Fm}(ho:∀f∈fs,Ee f)(hl:fs.length<=12):Cn D (n+1) 7 [.tup (fs.map iO),tI m]=a_ (.lst ((fs.flatMap (H6 m)).map cx),c_):=by
 refine ph rfl ?_;generalize Cn D n=C;refine fI rfl (jU (I:=λus ρ=>∃s t u d i j c,ρ=[a_ (.tup (fs.map iO),d_),a_ (tI m,d_),a_ (.lst ((us.flatMap (H6 m)).map cx),c_),s,t,u,d,i,j,c]) (k9 rfl rfl L6) ⟨_,_,_,_,_,_,_,rfl⟩ ?_ λρ ⟨_,_,_,_,_,_,_,h⟩=>by rw[h];exact⟨_,rfl,rfl⟩);rintro us f vs _ p ⟨_,_,_,d,i,j,c,rfl⟩;have h1:=fU (l:=us) λf _=>Eb m f;have h0:=vp p;have hf:=ho f (by rw[p];simp);have k:=hf.ll;have o:=hf.cl;refine⟨_,rfl,jU (V:=w6D) (xs:=A6) (I:=λws ρ=>∃d i j c,ρ=[a_ (.tup (fs.map iO),d_),a_ (tI m,d_),a_ (.lst ((us.flatMap (H6 m)++ws.flatMap (rH m f)).map cx),c_),a_ (sT f.1,d_),a_ (tI f.2.1,d_),a_ (sT f.2.2,d_),d,i,j,c]) (k9 rfl rfl rfl) ⟨d,i,j,c,by rw[fj,aH];rfl⟩ ?_ λρ ⟨_,_,_,_,h⟩=>by rw[h];exact bR ⟨_,rfl,_,_,_,_,_,_,_,by rw[cu,cW]⟩⟩;rintro ws w vs _ x ⟨_,_,_,c,rfl⟩;have h2:=fU (g:=rH m f) (l:=ws) λ_ _=>lY;have h3:ws.length<6:=vp x;refine⟨_,rfl,?_⟩;rw[cu,cW,<-aJ];have r:(us.flatMap (H6 m)++ws.flatMap (rH m f)).length<1000:=by grind
 generalize us.flatMap (H6 m)++ws.flatMap (rH m f)=es at r ⊢;obtain⟨E,y⟩:=or2 (ρ:=full [a_ (.tup (fs.map iO),d_),a_ (tI m,d_),a_ (.lst (es.map cx),c_),a_ (sT f.1,d_),a_ (tI f.2.1,d_),a_ (sT f.2.2,d_),a_ (sT [w.1],d_),a_ (.str w.2.1,d_),a_ (.str w.2.2,d_),c]) (a:=.cmp .ne (.v 6) (.con (sT [119]))) (b:=.cmp .gt (.blt .len [.v 3]) (.e_ 1)) (gH rfl rfl (ne_T _ _)) (gH (j5 rfl (len_T (aa k br))) rfl rfl);obtain⟨F,z⟩:=abG (gH (a:=.v 6) (e:=.v 5) rfl rfl qr) y;refine kD (J:=λρ=>∃c,ρ=[a_ (.tup (fs.map iO),d_),a_ (tI m,d_),a_ (.lst ((es++rH m f w).map cx),c_),a_ (sT f.1,d_),a_ (tI f.2.1,d_),a_ (sT f.2.2,d_),a_ (sT [w.1],d_),a_ (.str w.2.1,d_),a_ (.str w.2.2,d_),c]) z (λq=>?_) (λq=>bR ⟨_,rfl,c,by unfold rH;rw[if_neg (by rw[show bg f w=d_ from q];decide),aH];rfl⟩) λρ ⟨c,h⟩=>bR ⟨_,rfl,_,_,_,c,h⟩
 have A:bp C (.ite (.cmp .eq (.v 7) (.con (.str ua))) (.tup []) (.v 1)) (full [a_ (.tup (fs.map iO),d_),a_ (tI m,d_),a_ (.lst (es.map cx),c_),a_ (sT f.1,d_),a_ (tI f.2.1,d_),a_ (sT f.2.2,d_),a_ (sT [w.1],d_),a_ (.str w.2.1,d_),a_ (.str w.2.2,d_),c])=a_ (tI (if(w.2.1 == ua)=c_ then []else m),w.2.1 == ua):=by
  rw[GL (gH rfl rfl Zm) rfl];cases w.2.1 == ua<;>rfl
 have h5:(if(w.2.1 == ua)=c_ then []else m).length<=2:=ite_le (aM _) B;refine cF (eo A (mr _)) (oD (e:=(w.2.1,uT f.1,(if(w.2.1 == ua)=c_ then []else m)++f.2.1,w.2.2)) (lr rfl (Vu rfl (JS hf)) (px _ _ (aa (dA h5 o) br)) rfl) rfl r (bR ⟨_,rfl,_,by unfold rH;rw[if_pos (q)];rfl⟩))
abbrev pF(t:Tb)(p:Nat×Int):List Ed:=[(lu,[p.1],t.m2++[p.2],lI),(iY,[p.1],t.m2++[p.2],lI),(lI,[p.1],[p.2],lI)]
abbrev xn(t:Tb):List (Nat×Int):=rL.zip t.fg
abbrev fgD(p:Nat×Int):Dat:=.tup [sT [p.1],.int p.2]
theorem E3:∀(l:List Nat)(g:List Int),oV ((l.map λc=>T [c]).map Dat.str) (g.map Dat.int)=(l.zip g).map fgD
 |[],_=>by simp[oV]
 |_::_,[]=>by simp[oV]
 |c::l,x::g=>by
   simp only[aA,oV,Jp,(E3 l g)]
abbrev rF(t:Tb):List Ed:=if t.fg.isEmpty=c_ then []else(lI,[],t.m3,j3)::(xn t).flatMap (pF t)
def B3(t:Tb):(xn t).length<=10:=by
 rw[wD];exact iL _ _
def abE : es++[a]++[b]++[c]=es++[a,b,c]:=by simp
def OQ{t:Tb}(h2:t.m2.length<=2):Cn D (n+1) 4 [Nw t,tI t.fg]=a_ (.lst ((rF t).map cx),c_):=by
 refine ph (body:=b4) rfl ?_;generalize Cn D n=C;have hc:bp C (.cmp .eq (.v 1) (.tup [])) (full [a_ (Nw t,d_),a_ (tI t.fg,d_),b_,b_,b_])=a_ (.bl t.fg.isEmpty,d_):=gH rfl rfl (Es t.fg);unfold K31.b4 rF;revert hc;cases t.fg.isEmpty
 .intro hc;refine lX hc (fI (ds:=[(lI,[],t.m3,j3)].map cx) (by exact abc (lr rfl rfl rfl rfl)) (jU (V:=fgD) (xs:=xn t) (ρ0:=[a_ (Nw t,d_),a_ (tI t.fg,d_),a_ (.lst ([(lI,[],t.m3,j3)].map cx),c_),b_,b_]) (I:=λus ρ=>∃c d,ρ=[a_ (Nw t,d_),a_ (tI t.fg,d_),a_ (.lst (((lI,[],t.m3,j3)::us.flatMap (pF t)).map cx),c_),c,d]) ?_ ⟨_,_,rfl⟩ ?_ λρ ⟨_,_,h⟩=>by rw[h];exact⟨_,rfl,rfl⟩))
  .show bB (jC (λds=>(ds,[a_ (Nw t,d_),a_ (tI t.fg,d_),a_ (.lst ([(lI,[],t.m3,j3)].map cx),c_),b_,b_])) (a_ (oV ((eV FIG).map Dat.str) (t.fg.map Dat.int)))) (λx:List Dat×dG=>jS (iw d_ [3,4]) (eC C _) x.1 x.2)=_;rw[zk,E3];rfl
  .rintro us p vs _ f ⟨_,_,rfl⟩;refine⟨_,rfl,?_⟩;rw[cu,<-oz];have a:((lI,[],t.m3,j3)::us.flatMap (pF t)).length<900:=by exact pY (fU (g:=pF t) (l:=us) λ_ _=>ao 3) (Nat.mul_le_mul_left 3 (vp f)) (Nat.mul_le_mul_left 3 (B3 t))
   generalize (lI,[],t.m3,j3)::us.flatMap (pF t)=es at a ⊢;have b:=px t.m2 [p.2] (by exact aq h2 br);exact oD (e:=(lu,[p.1],t.m2++[p.2],lI)) (lr rfl rfl b rfl) rfl (aa a br) (oD (e:=(iY,[p.1],t.m2++[p.2],lI)) (lr rfl rfl b rfl) rfl (by simp;exact aq a br) (oD (lr rfl rfl rfl rfl) rfl (by simp;exact bb (aq a br)) (bR ⟨_,rfl,_,_,by rw[abE];rfl⟩)))
 .intro hc;exact Mi hc rfl rfl
abbrev Bo(e:Ed):Bool:=!(e.1 == j3)
def Aa(A B:List Ed)(h:A.length+B.length<=1000):gp .add (.lst (A.map cx)) (.lst (B.map cx))=a_ (.lst ((A++B).map cx),c_):=by
 rw[om (by rw[aw,aw];exact aa h br),<-dJ,D5]
abbrev s0(t:Tb):List Ed:=t.fs.flatMap E6
abbrev s1(t:Tb):List Ed:=if t.m0.isEmpty=c_ then s0 t else s0 t++(s0 t).map (Nz t.m0)
abbrev A0(t:Tb):List Ed:=if t.m1.isEmpty=c_ then s1 t else s1 t++t.fs.flatMap (H6 t.m1)
abbrev s3(t:Tb):List Ed:=if t.fg.isEmpty=c_ then(A0 t).filter Bo else A0 t
abbrev got(t:Tb):List Ed:=s3 t++G7++rF t
def DB{t:Tb}(hl:t.fs.length<=12):(s0 t).length<=72:=by
 exact jJ (fU λf _=>ME f) (Nat.mul_le_mul_left 6 hl)
def Kq{t:Tb}(hl:t.fs.length<=12):(s1 t).length<=144:=by
 have h:=DB hl;exact ite_le (aa h br) (by rw[ag,aw];exact aa (dA h h) br)
def DA{t:Tb}(hl:t.fs.length<=12):(A0 t).length<=216:=by
 have h:=Kq hl;exact ite_le (aa h br) (by exact pY h (fU (l:=t.fs) λf _=>Eb t.m1 f) (Nat.mul_le_mul_left 6 hl))
def Kp{t:Tb}(hl:t.fs.length<=12):(s3 t).length<=216:=ite_le (aa (c8 _ _) (DA hl)) (DA hl)
def KI(t:Tb):(rF t).length<=31:=by
 have h:=B3 t;have h':=fU (g:=pF t) (l:=xn t) λ_ _=>ao 3;exact ite_le (aM _) (by grind)
abbrev e5(t:Tb)(es:List Ed):dG:=[a_ (tb t,d_),a_ (.tup (t.fs.map iO),d_),a_ (Nw t,d_),a_ (.lst (es.map cx),c_)]
def D6(t:Tb):im (Nw t)=c_:=by
 simp only[im,kC,iM,aj];exact⟨mr _,mr _,mr _,mr _⟩
def Sa{B:List Ed}(h:bp C c (full (e5 t A))=a_ (.bl (!b),f))(O:bp C y (full (e5 t A))=a_ (.lst (B.map cx),c_))(k:Go C ss (e5 t (if b=c_ then A else B)) Q):Go C (.ifs c [.set 3 y] []::ss) (e5 t A) Q:=by
 refine kD (J:=λρ=>ρ=e5 t (if b=c_ then A else B)) h (λq=>fI O (bR ⟨_,rfl,?_⟩)) (λq=>bR ⟨_,rfl,?_⟩) λρ h=>by rw[h];exact k
 .rw[if_neg (by simpa using q)];rfl
 .rw[if_pos (by simpa using q)]
def Ia(ht:Iu t)(B:(got t).length<=300):Cn D (n+2) 8 [tb t]=a_ (.lst (HI (got t)),c_):=by
 have d:=HZ (n:=n) ht.h0 (λe he=>by
  obtain⟨f,hf,h⟩:=fi.mp he;obtain⟨w,_,h⟩:=fi.mp h;unfold IT at h;split at h
  .rw[aE.mp h];exact⟨f,ht.ho f hf,rfl,rfl⟩
  .cases h) (aa (DB ht.hl) br)
 have a:=DB ht.hl;have b:=Kp ht.hl;refine ph rfl ?_;refine cF (eo rfl (mV _)) (cF (eo rfl (D6 t)) (fI (HS (n:=n) ht.hl) ?_));refine Sa (gH rfl rfl (Lo _)) (g7 rfl d (Aa _ _ (by rw[aw];exact aa (dA a a) br))) ?_;refine Sa (A:=s1 t) (gH rfl rfl (Lo _)) (g7 rfl (zo (n:=n) ht.h1 ht.ho ht.hl) (Aa _ _ (pY (Kq ht.hl) (fU (l:=t.fs) λf _=>Eb t.m1 f) (Nat.mul_le_mul_left 6 ht.hl)))) ?_;refine kD (J:=λρ=>ρ=e5 t (s3 t)) (gH rfl rfl (Es _)) (λq=>fI (uM Bo rfl (aa (DA ht.hl) br) p8 λe _=>⟨d_,gH rfl rfl YF⟩) (bR ⟨_,rfl,?_⟩)) (λq=>bR ⟨_,rfl,?_⟩) ?_
 .show _=e5 t (if t.fg.isEmpty=c_ then(A0 t).filter Bo else A0 t);rw[if_pos q];rfl
 .show _=e5 t (if t.fg.isEmpty=c_ then(A0 t).filter Bo else A0 t);rw[if_neg (show¬t.fg.isEmpty=c_ by rw[q];decide)]
 .rintro _ rfl;exact jT (j5 (g7 (g7 rfl (Ic (n:=n)) (Aa _ _ (by exact Nat.add_le_add_right (aa b br) _))) (OQ (n:=n) ht.h2) (Aa _ _ (by rw[ag];show _+3+_<=_;exact jJ b (KI t)))) (Oj B (by intro e;simp[G7]at e))) rfl
theorem B5:∀{a b:List Sx}{ρ ρ':dG},eC C a ρ=a_ (.nx ρ')->eC C (a++b) ρ=eC C b ρ'
 |[],_,ρ,ρ',h=>by cases h;rfl
 |s::a,b,ρ,ρ',h=>by
   obtain⟨o,h1,h2⟩:=c5 h
   match o,h1,h2 with
   |.nx ρ1,h1,h2=>
     rw[oz,kK h1];exact B5 h2
abbrev m8:List be:=["out","in","done","num","let","all"]
theorem FK{g g':be->Dat}{s:be}:∀{l:List be},l.Nodup->s∈l->(∀s'∈l,s'≠s->g' s'=g s')->∃j,posK (.inr s) (l.map ba)=a_ j/\(l.map g)[j]?=a_ (g s)/\(l.map g).set j (g' s)=l.map g'
 |a::r,b,hs,h=>by
   by_cases q:a=s
   .subst q;refine⟨0,if_pos rfl,rfl,?_⟩;have :=cQ λs' m=>(h s' (ki _ m) λe=>(aX.mp b).1 (e▸m)).symm
    grind
   .obtain⟨j,e1,e2,e3⟩:=FK (aX.mp b).2 ((au.mp hs).resolve_left λe=>q e.symm) λs' m=>h s' (ki _ m);refine⟨j+1,?_,e2,?_⟩
    .show(if(ba a)=.inr s then a_ 0 else(posK (.inr s) (r.map ba)).map (·+ 1))=_
     simp_all
    simp_all
abbrev Ji(E:List Ed)(s:be):List Ed:=E.filter λe=>e.1 == s
abbrev Se(E:List Ed)(s:be):Dat:=.lst ((Ji E s).map cx)
abbrev oM(E:List Ed):Dat:=.dct (m8.map ba) (m8.map (Se E))
def XW:m8.Nodup:=by decide +kernel
def UG{E:List Ed}(hl:E.length<1000)(hs:e.1∈m8):Vm .app (.str e.1) [cx e] (oM E)=a_ (oM (E++[e])):=by
 obtain⟨j,e1,e2,e3⟩:=FK (g':=Se (E++[e])) XW hs λs' _ q=>by
  unfold Se Ji;rw[r8,AB (by simpa using λh=>q h.symm),NZ,aH]
 have a:jx .app (Se E e.1) [cx e]=a_ (Se (E++[e]) e.1):=by
  unfold Se Ji;rw[sU (by rw[aw];exact aq (c8 _ _) (aa hl br)),r8,AA (by simp),dJ];rfl
 show((posK (.inr e.1) (m8.map ba)).bind λj=>((m8.map (Se E))[j]?).bind λd=>(jx .app d [cx e]).map λd'=>Dat.dct (m8.map ba) ((m8.map (Se E)).set j d'))=_;rw[e1,bH,e2,bH,a,cA,e3]
abbrev GO(d:Dat)(E:List Ed)(z:g_):dG:=[a_ (d,d_),a_ (oM E,c_),a_ (.str "all",d_),z]
def LN:List Sx:=[.Xh .app 1 (.ix (.v 3) (.e_ 0)) [.v 3]]
def WL{E:List Ed}(hl:E.length<1000)(hs:e.1∈m8):eC C LN (GO d E (a_ (cx e,d_)))=a_ (.nx (GO d (E++[e]) (a_ (cx e,d_)))):=by
 have hp:=UG hl hs;have hi:=p8 e;refine qp ?_;show((bp C (.ix (.v 3) (.e_ 0)) (full (GO d E (a_ (cx e,d_))))).bind λy=>(oK C [.v 3] (full (GO d E (a_ (cx e,d_))))).bind λx=>if x.2=c_ then YL .app 1 (GO d E (a_ (cx e,d_))) y.1 x.1 (a_ (oM E,c_))else b_)=_;have a:bp C (.ix (.v 3) (.e_ 0)) (full (GO d E (a_ (cx e,d_))))=a_ (.str e.1,d_):=rfl
 have b:oK C [.v 3] (full (GO d E (a_ (cx e,d_))))=a_ ([cx e],c_):=by
  show a_ ([cx e],(d_ || im (cx e)) && c_)=_;rw[hi];rfl
 rw[a,b,bH];show(Vm .app (.str e.1) [cx e] (oM E)).map _=_;rw[hp];rfl
theorem LK:∀(es E:List Ed)(z:g_),E.length+es.length<1000->(∀e∈es,e.1∈m8)->∃B,jS (iw c_ [3]) (eC C LN) (es.map cx) (GO d E z)=a_ (.nx (GO d (E++es) B))
 |[],E,z,_,_=>⟨z,by rw[aH];rfl⟩
 |e::es,E,z,hl,hs=>by
   obtain⟨B,a⟩:=LK es (E++[e]) (a_ (cx e,d_)) (by exact gm hl) λx b=>hs x (ki _ b);refine⟨B,?_⟩;rw[aJ]at a;show((eC C LN (GO d E (a_ (cx e,d_)))).bind (xO _))=_;rw[WL (aq (aW _ _) hl) (hs e jy)];exact a
def aaE:eC C [.set 1 .qy,.loop c_ [2] (.itv (.con (.tup [(.str (ab "out")),(.str (ab "in")),(.str (ab "done")),(.str (ab "num")),(.str (ab "let")),(.str (ab "all"))]))) [(.mut .seti 1 [(.lst []),(.v 2)])]] [a_ (d,d_),b_,b_,b_]=a_ (.nx (GO d [] b_)):=by kernel_rfl
def Uw{E:List Ed}(B:Cn D (n+2) 8 [tb t]=a_ (.lst (E.map cx),c_))(hl:E.length<=300)(hs:∀e∈E,e.1∈m8):Cn D (n+3) 9 [tb t]=a_ (oM E,c_):=by
 refine fE rfl ?_;refine (?_ : eC (Cn D (n+2)) ([.set 1 .qy,.loop c_ [2] (.itv (.con (.tup [(.str (ab "out")),(.str (ab "in")),(.str (ab "done")),(.str (ab "num")),(.str (ab "let")),(.str (ab "all"))]))) [(.mut .seti 1 [(.lst []),(.v 2)])]]++[.loop c_ [3] (.itv (.call 8 [.v 0])) LN,.oI 1]) [a_ (tb t,d_),b_,b_,b_]=_);rw[B5 aaE];obtain⟨a,b⟩:=LK E [] b_ (by exact aq (eX hl _) br) hs
 have h1:oE (Cn D (n+2)) (.loop c_ [3] (.itv (.call 8 [.v 0])) LN) (GO (tb t) [] b_)=a_ (.nx (GO (tb t) E a)):=by
  rw[yw];have:bp (Cn D (n+2)) (.call 8 [.v 0]) (full (GO (tb t) [] b_))=a_ (.lst (E.map cx),c_):=B;rw[this];exact b
 rw[kK h1];rfl
noncomputable abbrev pre(x:List Nat)(p:Nat)(e:Ed):Bool:=decide (e.2.1 <+: x.drop p)
def XS{x:List Nat}(hp:p<=x.length):ic (T x) (T y) (p:Int)=decide (y <+: x.drop p):=by
 have e1:PySem.fromIndex (T x).length (p)=p:=by
  rfl
 unfold ic;rw[e1];have a:(T x).length=x.length:=bD;have b:(T y).length=y.length:=bD;unfold Builtin.Str.subAt;rw[b]
 have e2:((T x).cps.extract p (p+y.length) == (T y).cps)=decide ((x.drop p).take y.length=y):=by
  rw[show(T x).cps.extract p (p+y.length)=((x.drop p).take y.length).toArray by simp]
  grind
 rw[e2];by_cases h:y <+: x.drop p
 .have h1:=h.length_le;rw[dh]at h1;rw[decide_eq_true h,decide_eq_true (jO.mp h).symm,decide_eq_true (pY (ws hp) h1 (ae a.symm))];rfl
 grind
def Ky{es:List Ed}{x:List Nat}(hp:p<=x.length)(hl:es.length<=1000):Cn D (n+1) 11 [.lst (es.map cx),.str (T x),.int (p:Nat)]=a_ (.lst ((es.filter (pre x p)).map cx),c_):=
 fE rfl (wX (uM (pre x p) rfl hl p8 λe _=>⟨d_,by
  refine (?_ : a_ (Dat.bl (ic (T x) (T e.2.1) (p)),d_)=_)
  rw[XS hp]⟩))
abbrev Row:=be->Option Nat
noncomputable def vD:Option Nat->Dat
 |none=>.non
 |some k=>.int (k:Nat)
abbrev dD(l:List be)(g:Row):Dat:=.dct (l.map ba) (l.map λs=>vD (g s))
theorem zD{g:Row}{s:be}:∀{l:List be},s∈l->f7 (.inr s) (l.map ba) (l.map λs=>vD (g s))=a_ (vD (g s))
 |a::r,h=>by
   show(if(ba a)=.inr s then a_ (vD (g a))else f7 (.inr s) (r.map ba) (r.map λs=>vD (g s)))=_;by_cases q:a=s
   .simp_all
   .rw[if_neg λe=>q (mz e)];exact zD ((au.mp h).resolve_left λe=>q e.symm)
noncomputable def P4:Nat->List Nat->Nat
 |a,[]=>a
 |a,b::r=>P4 (if b<a then b else a) r
def sY:List Nat->Option Nat
 |[]=>b_
 |a::r=>a_ (P4 a r)
theorem RU:∀(r:List Nat)(a:Nat),Vr (a:Int) (r.map λk:Nat=>(k:Int))=(P4 a r:Nat)
 |[],_=>rfl
 |b::r,a=>by
   show Vr (if(b:Int)<(a)then(b)else(a)) _=_;rw[show(if(b:Int)<(a)then(b:Int)else(a))=((if b<a then b else a)) by grind];exact RU r _
theorem Lz:∀(r:List Nat)(a:Nat),P4 a r∈a::r/\∀k∈a::r,P4 a r<=k
 |[],a=>⟨by simp[P4],λk h=>by simp[P4]at *;simp_all⟩
 |b::r,a=>by
   obtain⟨h1,h2⟩:=Lz r (if b<a then b else a);show P4 (if b<a then b else a) r∈_/\∀k∈_,P4 (if b<a then b else a) r<=k;refine⟨?_,λk hk=>?_⟩
   .rcases au.mp h1 with h|h
    .rw[h];split<;>simp
    simp_all
   .have h3:=h2 _ jy
    grind
def sX:sY l=a_ m↔m∈l/\∀k∈l,m<=k:=by
 cases l with
 |nil=>exact⟨λh=>(nomatch h),λh=>(nomatch h.1)⟩
 |cons a r=>
   obtain⟨h1,h2⟩:=Lz r a;constructor
   .intro h;cases h;exact⟨h1,h2⟩
   .intro h;exact congrArg a_ (aC (h2 m h.1) (h.2 _ h1))
def x9:sY l=b_↔l=[]:=by
 cases l<;>simp[sY]
def Ku(h1:e.2.1.length<=1000000)(hk:kd[p+e.2.1.length]?=a_ (dD l g))(hs:e.2.2.2∈l) :
  Cn D (n+1) 12 [cx e,.int (p:Nat),.lst kd]=a_ (vD ((g e.2.2.2).map λr=>e.2.2.1.length+r),d_):=by
 refine fE rfl ?_
 have b:bp (Cn D n) (.ix (.ix (.v 2) (.bin .add (.v 1) (.blt .len [.ix (.v 0) (.e_ 1)]))) (.ix (.v 0) (.e_ 3))) [a_ (cx e),a_ (.int (p)),a_ (.lst kd),b_]=a_ (vD (g e.2.2.2),d_):=by
  have a:qH [Dat.str e.1,.str (T e.2.1),.tup (e.2.2.1.map Dat.int),.str e.2.2.2] 1=a_ (.str (T e.2.1)):=rfl;have i3:qH [Dat.str e.1,.str (T e.2.1),.tup (e.2.2.1.map Dat.int),.str e.2.2.2] 3=a_ (.str e.2.2.2):=rfl
  have i2:qH kd ((p)+(e.2.1.length))=a_ (dD l g):=by
   exact jX hk
  have c:tU (dD l g) (.str e.2.2.2)=a_ (vD (g e.2.2.2)):=zD hs;simp only[yy,mX,En,Mx,mW,bP,GI,Az,dF,Jn,cA,bH,R0,Y2,a,i3,len_T h1,jA,i2,c]
 have s1:oE (Cn D n) (.set 3 (.ix (.ix (.v 2) (.bin .add (.v 1) (.blt .len [.ix (.v 0) (.e_ 1)]))) (.ix (.v 0) (.e_ 3)))) [a_ (cx e,d_),a_ (.int (p),d_),a_ (.lst kd,d_),b_]=a_ (.nx [a_ (cx e,d_),a_ (.int (p),d_),a_ (.lst kd,d_),a_ (vD (g e.2.2.2),d_)]):=by
  rw[uJ];show bB (bp (Cn D n) _ [a_ (cx e),a_ (.int (p)),a_ (.lst kd),b_]) _=_;rw[b];cases g e.2.2.2<;>rfl
 refine (?_ : eC (Cn D n) (_::_) [a_ (cx e,d_),a_ (.int (p),d_),a_ (.lst kd,d_),b_]=_);rw[kK s1]
 cases q:g e.2.2.2 with
 |none=>rfl
 |some r=>
   have d:bp (Cn D n) (.ite (.cmp .isn (.v 3) (.con .non)) (.con .non) (.bin .add (.blt .len [.ix (.v 0) (.e_ 2)]) (.v 3))) [a_ (cx e),a_ (.int (p)),a_ (.lst kd),a_ (.int (r))]=a_ (.int ((e.2.2.1.length+r)),d_):=by
    have a:qH [Dat.str e.1,.str (T e.2.1),.tup (e.2.2.1.map Dat.int),.str e.2.2.2] 2=a_ (.tup (e.2.2.1.map Dat.int)):=rfl
    have b2:bp (Cn D n) (.bin .add (.blt .len [.ix (.v 0) (.e_ 2)]) (.v 3)) [a_ (cx e),a_ (.int (p)),a_ (.lst kd),a_ (.int (r))]=a_ (.int ((e.2.2.1.length+r:Nat)),d_):=by
     simp only[yy,mX,En,Mx,mW,bP,GI,Az,dF,Jn,cA,bH,R0,a,wc,aw,jA];simp
    exact b2
   exact wX d
def V3(o:Option Nat):im (vD o)=c_:=by cases o<;>rfl
theorem Dq:∀ws:List (Option Nat),(ws.filter xE).map vD=(ws.filterMap id).map λk:Nat=>Dat.int (k:Nat)
 |[]=>rfl
 |none::r=>Dq r
 |some k::r=>by
   show Dat.int (k)::(r.filter xE).map vD=Dat.int (k)::_;rw[Dq r]
theorem L5:∀ks:List Nat,tV (ks.map λk:Nat=>Dat.int (k:Nat))=a_ (ks.map λk:Nat=>(k:Int))
 |[]=>rfl
 |k::r=>by show(tV _).map _=_;rw[L5 r];rfl
def YM(ks:List Nat):P0 (.lst (ks.map λk:Nat=>Dat.int (k:Nat)))=a_ (vD (sY ks),d_):=by
 show(tV _).map _=_;rw[L5]
 cases ks with
 |nil=>rfl
 |cons a r=>
   show a_ (Dat.int (Vr (a) (r.map λk:Nat=>(k))),d_)=_;rw[RU];rfl
def Us{n:Nat}{es:List Ed}{x:List Nat}{p:Nat}{B:List Dat}{r:Ed->Option Nat}(hp:p<=x.length)(hl:es.length<=1000)
  (h:∀e∈es,pre x p e=c_->e.2.1.length<=1000000/\∃l g,B[p+e.2.1.length]?=a_ (dD l g)/\e.2.2.2∈l/\g e.2.2.2=r e) :
  Cn D (n+2) 13 [.lst (es.map cx),.str (T x),.int (p:Nat),.lst B]=a_ (vD (sY ((es.filter (pre x p)).filterMap λe=>(r e).map λk=>e.2.2.1.length+k)),d_):=by
 have d:(es.filter (pre x p)).length<=1000:=aa (c8 _ _) hl;have a:=Ky (n:=n) hp hl
 have b:∀e∈es.filter (pre x p),Cn D (n+1) 12 [cx e,.int (p),.lst B]=a_ (vD ((r e).map λk=>e.2.2.1.length+k),d_):=λe he=>by
  refine ac λ_ q=>?_;obtain⟨h3,l,g,i,h5,j⟩:=h e (bJ.mp he).1 (bJ.mp he).2;refine q ?_;rw[Ku h3 i h5,j]
 refine ph rfl ?_;generalize Cn D (n+1)=C at a b ⊢;generalize es.filter (pre x p)=fs at d a b ⊢;refine fI (ds:=(fs.map λe=>(r e).map λk=>e.2.2.1.length+k).map vD) ?_ (jT ?_ rfl)
 .rw[cv];exact G0 (by show bB (C 11 [.lst (es.map cx),.str (T x),.int (p)]) _=_;rw[a];rfl) d (λ_ _=>V3 _) λe he=>⟨d_,b e he⟩
 .generalize f:(fs.map λe=>(r e).map λk=>e.2.2.1.length+k)=ws;have m:(fs.filterMap λe=>(r e).map λk=>e.2.2.1.length+k)=ws.filterMap id:=by rw[<-f,Jt];rfl
  have c2:=uM (C:=C) (ρ:=[a_ (.lst (es.map cx)),a_ (.str (T x)),a_ (.int (p)),a_ (.lst B),a_ (.lst (ws.map vD))]) (caps:=[]) (it:=.itv (.v 4)) (c:=.cmp .nisn (.v 0) (.con .non)) xE rfl (by rw[<-f,aw];exact d) V3 λo _=>⟨d_,by cases o<;>rfl⟩
  rw[Dq]at c2;refine (?_ : bB (bp C (.comp 1 c_ [] (.itv (.v 4)) [(.cmp .nisn (.v 0) (.con .non))] (.v 0)) [a_ (.lst (es.map cx)),a_ (.str (T x)),a_ (.int (p)),a_ (.lst B),a_ (.lst (ws.map vD))]) (λy=>P0 y.1)=_);rw[c2,m];exact YM _
abbrev rT:List be:=["out","done","num"]
abbrev Ab:List be:=["all","let","num","done","in","out"]
abbrev v7(E:List Ed)(x:List Nat)(p:Nat)(s:be)(r:Ed->Option Nat):List Nat:=((Ji E s).filter (pre x p)).filterMap λe=>(r e).map λk=>e.2.2.1.length+k
abbrev best(E:List Ed)(x:List Nat)(p:Nat)(s:be)(r:Ed->Option Nat):Option Nat:=sY (v7 E x p s r)
def Ya(E:List Ed)(x:List Nat)(p:Nat)(F:Nat->Row):Option Nat:=best E x p "let" λe=>F (p+e.2.1.length) e.2.2.2
def X9(E:List Ed)(x:List Nat)(p:Nat)(F:Nat->Row):Row:=λs=>if p=x.length/\s∈rT then a_ 0 else best E x p s λe=>if e.2.1=[]then Ya E x p F else F (p+e.2.1.length) e.2.2.2
def tab(E:List Ed)(x:List Nat):Nat->Nat->Row
 |0=>λ_ _=>b_
 |k+1=>λq=>if q+k=x.length then X9 E x q (tab E x k)else tab E x k q
def iS(E:List Ed)(x:List Nat):Nat->Row:=tab E x (x.length+1)
structure gE(E:List Ed):Prop where
 b:∀e∈E,e.1∈m8
 o:∀e∈E,e.2.2.2∈m8
 t:∀e∈E,e.2.1.length<=1000
 n:∀e∈E,e.2.1=[]->e.1="num"/\e.2.2.2="let"
 l:E.length<=300
variable{x:List Nat}
theorem ze:∀(k j q:Nat),x.length<q+k->tab E x (k+j) q=tab E x k q
 |k,0,q,_=>rfl
 |k,j+1,q,h=>by
   show(if q+(k+j)=x.length then _ else tab E x (k+j) q)=_;rw[if_neg (λz=>(Qa h (ae z))),ze k j q h]
def FI(hp:p<=x.length):iS E x p=X9 E x p (tab E x (x.length - p)):=by
 have e:x.length+1=(x.length - p+1)+p:=aC (gm (wt hp)) (gm (ws hp));unfold iS;rw[e,ze _ _ _ (gm (ae e))];show(if p+(x.length - p)=x.length then _ else _)=_
 simp_all
def UK(h:p<q)(hp:p<=x.length):tab E x (x.length - p) q=iS E x q:=by
 by_cases a:q<=x.length
 .unfold iS;rw[show x.length+1=(x.length - p)+(p+1)from(aC (gm (wt hp)) (gm (ws hp))),ze _ _ _ (jJ (wt hp) h)]
 .unfold iS
  have z :=λk=>by
   have:=ze (E:=E) 0 k q (cB a)
   rwa [jo]at this
  simp_all
def t5(h:∀e∈E,e.1=s->r e=r' e):v7 E x p s r=v7 E x p s r':=by
 have b:∀{l:List Ed}{f f':Ed->Option Nat},(∀e∈l,f e=f' e)->l.filterMap f=l.filterMap f':=λ{l f f'}h=>by
  induction l with
  |nil=>rfl
  |cons a r c=>rw[jw,jw,h a jy,c λe he=>h e (ki _ he)]
 refine b λe he=>?_;have h1:=(bJ.mp (bJ.mp he).1)
 rw[h e h1.1 (by simpa using h1.2)]
def Pc(g:gE E)(hp:p<=x.length):iS E x p "let"=Ya E x p (tab E x (x.length - p)):=by
 rw[FI hp];show(if p=x.length/\("let":be)∈rT then a_ 0 else _)=_;rw[if_neg (λh=>absurd h.2 br)];show sY _=sY _;rw[t5 λe he hs=>?_];by_cases q:e.2.1=[]
 .have:=(g.n e he q).1;rw[hs]at this;exact absurd this br
 .rw[if_neg q]
def nY(g:gE E)(hp:p<=x.length):iS E x p s=if p=x.length/\s∈rT then a_ 0 else best E x p s λe=>iS E x (p+e.2.1.length) e.2.2.2:=by
 rw[(congrFun (FI (E:=E) hp) s)];show(if p=x.length/\s∈rT then a_ 0 else sY _)=if p=x.length/\s∈rT then a_ 0 else sY _
 rw[t5 λe he hs=>?_];by_cases q:e.2.1=[]
 .rw[q,(g.n e he q).2];exact(Pc g hp).symm
 .rw[if_neg q,UK _ hp];have :=cT.mpr q
  simp_all
end K31E
namespace K31E
open PySem L2 M K31
variable{E:List Ed}{x:List Nat}
abbrev cellK(f:Nat->Row)(p:Nat)(l:List be)(q:Nat):Dat:=if q<p then .dct [] []else if q=p then dD l (f p)else dD Ab (f q)
abbrev KD(f:Nat->Row)(n p:Nat)(l:List be):List Dat:=(aO (n+1)).map (cellK f p l)
def wu(h:q<=n):(KD f n p l)[q]?=a_ (cellK f p l q):=by
 rw[aP,qG (bb h)];rfl
def W0(h:p<=n):(KD f n p l).set p (dD l' (f p))=KD f n p l':=by
 refine kc λq=>?_;rw[ng];by_cases e:p=q
 .subst e;rw[if_pos rfl,if_pos (by simp;exact bb h),wu h];simp[cellK]
 .rw[if_neg e];by_cases a:q<=n
  .rw[wu a,wu a]
   grind
  .rw[kP (by simp;exact cB a),kP (by simp;exact cB a)]
def Q7:KD f n (p+1) Ab=KD f n p []:=by
 refine cQ λq _=>?_;unfold cellK;by_cases h1:q<p
 .rw[if_pos (by omega),if_pos h1]
 .by_cases h2:q=p
  .simp_all
  .rw[if_neg (λz=>(h2 (xF z h1))),if_neg h1]
   simp_all
theorem RK{g:Row}{s:be}{v:Dat}:∀{l:List be},s∉l->putD (.inr s) v (l.map ba) (l.map λs=>vD (g s))=((l++[s]).map ba,(l.map λs=>vD (g s))++[v])/\vB (.inr s) (l.map ba)=c_
 |[],_=>⟨rfl,rfl⟩
 |a::r,h=>by
   obtain⟨h1,h2⟩:=RK λm=>h (ki _ m);have q:¬(ba a:Key)=.inr s:=λe=>h (mz e▸jy);constructor
   .show(if(ba a)=.inr s then _ else((ba a)::(putD (.inr s) v (r.map ba) (r.map λs=>vD (g s))).1,vD (g a)::(putD (.inr s) v (r.map ba) (r.map λs=>vD (g s))).2))=_;rw[if_neg q,h1];rfl
   .show(if(ba a)=.inr s then _ else vB (.inr s) (r.map ba))=c_;rw[if_neg q,h2]
def YI(h:s∉l)(hl:l.length<=100):jx .seti (dD l g) [vD (g s),.str s]=a_ (dD (l++[s]) g):=by
 obtain⟨h1,h2⟩:=RK h;show(if(l.map ba).length<aB/\vB (.inr s) (l.map ba)=c_ then a_ (Dat.dct (putD (.inr s) (vD (g s)) (l.map ba) (l.map λs=>vD (g s))).1 (putD (.inr s) (vD (g s)) (l.map ba) (l.map λs=>vD (g s))).2)else b_)=_;rw[if_pos ⟨by rw[aw];exact aq hl br,h2⟩,h1];simp[dD]
abbrev yz(E:List Ed)(x:List Nat)(K:List Dat)(a b:g_):dG:=[a_ (oM E,d_),a_ (.str (T x),d_),a_ (.lst K,c_),a,b]
def Gb(hp:p<=n)(B:n<=1000)(hs:s∉l)(hl:l.length<=100)(he:bp C e (full (yz E x (KD f n p l) (a_ (.int (p:Nat),d_)) (a_ (.str s,d_))))=a_ (vD (f p s),fl)) :
  oE C (.LB 2 (.v 3) (.v 4) e) (yz E x (KD f n p l) (a_ (.int (p:Nat),d_)) (a_ (.str s,d_)))=a_ (.nx (yz E x (KD f n p (l++[s])) (a_ (.int (p:Nat),d_)) (a_ (.str s,d_)))):=by
 show bB (bp C e (full (yz E x (KD f n p l) (a_ (.int (p),d_)) (a_ (.str s,d_))))) _=_;rw[he];show(if im (vD (f p s))=c_ then Vn .seti 2 (yz E x (KD f n p l) (a_ (.int (p),d_)) (a_ (.str s,d_))) (.int (p)) [vD (f p s),.str s] (a_ (.lst (KD f n p l),c_))else b_)=_;rw[if_pos (V3 _)]
 have h1:yk (KD f n p l).length ((p))=a_ p:=by
  unfold yk;rw[if_pos (gG _),if_pos (by simp;exact eE (eU.mpr hp) (Int.le_refl _))];simp
 have h2:Lu .seti [vD (f p s),.str s] (.lst (KD f n p l)) (.int (p))=a_ (.lst (KD f n p (l++[s]))):=by
  show((yk (KD f n p l).length ((p))).bind λj=>((KD f n p l)[j]?).bind λd=>(jx .seti d [vD (f p s),.str s]).map λd'=>Dat.lst ((KD f n p l).set j d'))=_;rw[h1,bH,wu hp,bH];have:cellK f p l p=dD l (f p):=by simp[cellK]
  rw[this,YI hs hl,cA,W0 hp]
 refine (?_ : (Lu .seti [vD (f p s),.str s] (.lst (KD f n p l)) (.int (p))).map _=_);rw[h2];rfl
end K31E
namespace K31E
open PySem L2 M K31
variable{x:List Nat}
def Vx(n:Nat):(m8.all λs=>qW (Cn D (n+1) 2 [.str s]) (a_ (.bl (decide (s∈rT)),d_)))=c_:=by kernel_rfl
def Ut(hs:s∈m8):Cn D (n+1) 2 [.str s]=a_ (.bl (decide (s∈rT)),d_):=o5 (bF.mp (Vx n) s hs)
theorem DW:∀{l:List be},s∈l->f7 (.inr s) (l.map ba) (l.map g)=a_ (g s)
 |a::r,h=>by
   show(if(ba a)=.inr s then a_ (g a)else f7 (.inr s) (r.map ba) (r.map g))=_;by_cases q:a=s
   .simp_all
   .rw[if_neg λe=>q (mz e)];exact DW ((au.mp h).resolve_left λe=>q e.symm)
def cX:Ex:=.and (.cmp .eq (.v 3) (.blt .len [(.v 1)])) (.call 2 [(.v 4)])
def pX:Ex:=.call 13 [(.ix (.v 0) (.v 4)),(.v 1),(.v 3),(.v 2)]
def B14:Sx:=.ifs cX [(.LB 2 (.v 3) (.v 4) (.e_ 0))] [(.LB 2 (.v 3) (.v 4) pX)]
def zg:s∈m8↔s∈Ab:=by grind
def Tg(g:gE E)(O:x.length<=1000)(hp:p<=x.length)(hs:s∈m8)(hl:s∉l)(Y:s="num"->("let":be)∈l)(B:l.length<=100) :
  eC (Cn D (n+2)) [B14] (yz E x (KD (iS E x) x.length p l) (a_ (.int (p:Nat),d_)) (a_ (.str s,d_)))=a_ (.nx (yz E x (KD (iS E x) x.length p (l++[s])) (a_ (.int (p:Nat),d_)) (a_ (.str s,d_)))):=by
 have hc:bp (Cn D (n+2)) cX (full (yz E x (KD (iS E x) x.length p l) (a_ (.int (p),d_)) (a_ (.str s,d_))))=a_ (.bl (decide (p=x.length/\s∈rT)),d_):=by
  have b:bp (Cn D (n+2)) (.cmp .eq (.v 3) (.blt .len [(.v 1)])) [a_ (oM E),a_ (.str (T x)),a_ (.lst (KD (iS E x) x.length p l)),a_ (.int (p)),a_ (.str s)]=a_ (.bl (decide (p=x.length)),d_):=by
   show bB (a_ (Dat.int (p),d_)) (λu=>bB (gZ .len [.str (T x)]) λv=>(gn .eq u.1 v.1).map λr=>(Dat.bl r,d_))=_;rw[len_T (aa O br)];show a_ (Dat.bl (decide ((p:Int)=(x.length))),d_)=_
   congr 3
   grind
  show bB (bp (Cn D (n+2)) (.cmp .eq (.v 3) (.blt .len [(.v 1)])) [a_ (oM E),a_ (.str (T x)),a_ (.lst (KD (iS E x) x.length p l)),a_ (.int (p)),a_ (.str s)]) _=_;rw[b];by_cases q:p=x.length
  .rw[decide_eq_true q];show Cn D (n+2) 2 [.str s]=_;rw[Ut hs]
   congr 3
   exact decide_eq_decide.mpr ⟨λh=>⟨q,h⟩,λh=>h.2⟩
  .rw[decide_eq_false q,decide_eq_false λh=>q h.1];rfl
 refine qp ?_;show oE (Cn D (n+2)) (.ifs cX _ _) _=_;rw[Qz,hc];by_cases q:p=x.length/\s∈rT
 .rw[decide_eq_true q];refine qp (Gb (fl:=d_) hp O hl B ?_);rw[nY g hp,if_pos q];rfl
 .rw[decide_eq_false q];refine qp (Gb (fl:=d_) hp O hl B ?_);rw[nY g hp,if_neg q];have hd:tU (oM E) (.str s)=a_ (.lst ((Ji E s).map cx)):=DW hs;show bB (bB (jC _ (tU (oM E) (.str s))) _) _=_;rw[hd];refine Us hp (aa (c8 _ _) (aa g.l br)) λe he a=>?_;obtain⟨h1,h2⟩:=bJ.mp he;have c:e.1=s:=by simpa using h2
  have hlen:=(of_decide_eq_true a).length_le;rw[dh]at hlen;refine⟨aa (g.t e h1) br,?_⟩;rw[wu (jJ (ws hp) hlen)];by_cases z:e.2.1=[]
  .obtain⟨d,f⟩:=g.n e h1 z;refine⟨l,iS E x p,?_,?_,?_⟩
   .rw[z];simp[cellK]
   .simp_all
   .rw[z];rfl
  .have :=cT.mpr z;refine⟨Ab,iS E x (p+e.2.1.length),?_,zg.mp (g.o e h1),rfl⟩
   grind
end K31E
namespace K31E
open PySem L2 M K31
variable{E:List Ed}{x:List Nat}
def OV:∀{l r:List be},l++("num":be)::r=Ab->("let":be)∈l
 |[],r,h=>absurd (eL h).1 br
 |[a],r,h=>absurd (eL (eL h).2).1 br
 |a::b::l,r,h=>by
   simp_all
def UB:Ab.Nodup:=by decide +kernel
theorem Y5(g:gE E)(O:x.length<=1000)(hp:p<=x.length):∀(r l:List be)(z:g_),l++r=Ab->∃B,jS (iw c_ [4]) (eC (Cn D (n+2)) [B14]) (r.map Dat.str) (yz E x (KD (iS E x) x.length p l) (a_ (.int (p:Nat),d_)) z)=a_ (.nx (yz E x (KD (iS E x) x.length p Ab) (a_ (.int (p:Nat),d_)) B))
 |[],l,z,h=>⟨z,by rw[aH]at h;rw[h];rfl⟩
 |s::r,l,z,h=>by
   have a :=h▸UB;have hs :=h▸ai _ jy;have hl :=λm=>(cC.mp a).2.2 s m s jy rfl
   have hlen:l.length<=100:=by
    have:=congrArg fA h;rw[ag]at this;have e:Ab.length=6:=rfl;exact jJ (ae this) (ae e)
   obtain⟨B,b⟩:=Y5 g O hp r (l++[s]) (a_ (.str s,d_)) (by simp_all);refine⟨B,?_⟩;show((eC (Cn D (n+2)) [B14] (yz E x (KD (iS E x) x.length p l) (a_ (.int (p),d_)) (a_ (.str s,d_)))).bind (xO _))=_;rw[Tg g O hp (zg.mpr hs) hl (λe=>OV (e▸h)) hlen];exact b
def STX:Ex:=.con (.tup [(.str (ab "out")),(.str (ab "in")),(.str (ab "done")),(.str (ab "num")),(.str (ab "let")),(.str (ab "all"))])
def Xu:Sx:=.loop c_ [4] (.rev STX) [B14]
def RH(g:gE E)(O:x.length<=1000)(hp:p<=x.length):∃B,eC (Cn D (n+2)) [Xu] (yz E x (KD (iS E x) x.length p []) (a_ (.int (p:Nat),d_)) z)=a_ (.nx (yz E x (KD (iS E x) x.length p Ab) (a_ (.int (p:Nat),d_)) B)):=by
 obtain⟨B,h⟩:=Y5 g O hp Ab [] z rfl;exact⟨B,qp h⟩
abbrev dn(m:Nat):List Dat:=(aO (m+1)).map λk:Nat=>Dat.int ((m:Int) - k)
def QE(m:Nat):dn (m+1)=.int ((m+1:Nat):Int)::dn m:=by
 unfold dn;rw[CM,aA,cv]
 exact congrArg _ (cQ λk _=>by
  grind)
theorem RN(g:gE E)(O:x.length<=1000):∀(m:Nat)(y z:g_),m<=x.length->∃Y B,jS (iw c_ [3]) (eC (Cn D (n+2)) [Xu]) (dn m) (yz E x (KD (iS E x) x.length m []) y z)=a_ (.nx (yz E x (KD (iS E x) x.length 0 Ab) Y B))
 |0,y,z,h=>by
   obtain⟨B,h1⟩:=RH g O (aM x.length);refine⟨a_ (.int (0),d_),B,?_⟩;show((eC (Cn D (n+2)) [Xu] (yz E x (KD (iS E x) x.length 0 []) (a_ (.int ((0:Nat)),d_)) z)).bind (xO _))=_;rw[h1];rfl
 |m+1,y,z,h=>by
   obtain⟨B,h1⟩:=RH g O h;obtain⟨a,b,c⟩:=RN g O m (a_ (.int ((m+1)),d_)) B (aD h);refine⟨a,b,?_⟩;rw[QE];show((eC (Cn D (n+2)) [Xu] (yz E x (KD (iS E x) x.length (m+1) []) (a_ (.int ((m+1:Nat)),d_)) z)).bind (xO _))=_;rw[h1];rw[Q7];exact c
abbrev KR(E:List Ed)(x:List Nat):Dat:=.lst ((aO (x.length+1)).map λq=>dD Ab (iS E x q))
def abO:KD f n 0 Ab=(aO (n+1)).map λq=>dD Ab (f q):=cQ λq _=>by
 unfold cellK
 simp_all
def abN:KD f n n []=dZ n (.dct [] [])++[.dct [] []]:=by
 rw[<-List.replicate_succ',List.eq_replicate_iff];refine⟨by simp,λd hd=>?_⟩;obtain⟨q,a,rfl⟩:=bQ.mp hd;unfold cellK;by_cases h:q<n
 .rw[if_pos h]
 .rw[if_neg h,if_pos (xF (bq.mp a) h)];rfl
theorem zz:∀ds:List Dat,sZ (qa C 1 c_ ρ0 [] .qy) ds=a_ (dZ ds.length (.dct [] []),c_)
 |[]=>rfl
 |d::ds=>by
   show bB (a_ (a_ (Dat.dct [] [],c_))) _=_;rw[zz ds];rfl
def HX(g:gE E)(B:x.length<=1000):Cn D (n+3) 14 [oM E,.str (T x)]=a_ (KR E x,c_):=by
 refine fE rfl ?_
 have c1:bp (Cn D (n+2)) (.cat (.comp 1 c_ [] (.itv (.v 1)) [] .qy) (.lst [.qy])) [a_ (oM E),a_ (.str (T x)),b_,b_,b_]=a_ (.lst (KD (iS E x) x.length x.length []),c_):=by
  have a:bp (Cn D (n+2)) (.comp 1 c_ [] (.itv (.v 1)) [] .qy) [a_ (oM E),a_ (.str (T x)),b_,b_,b_]=a_ (.lst (dZ x.length (.dct [] [])),c_):=by
   refine pN (items:=(T x).cps.toList.map λc=>Dat.str ⟨#[c]⟩) ?_ (by simp;exact aa B br) (by rw[zz];simp)
   first|rfl|(rw[if_pos (by omega)])
  show bB (bp (Cn D (n+2)) (.comp 1 c_ [] (.itv (.v 1)) [] .qy) [a_ (oM E),a_ (.str (T x)),b_,b_,b_]) _=_;rw[a,abN];show(if(dZ x.length (Dat.dct [] [])).length+1<=aB then _ else b_)=_;rw[if_pos (by rw[iQ];exact aq B br)]
 refine (?_ : eC (Cn D (n+2)) (.set 2 _::_) [a_ (oM E,d_),a_ (.str (T x),d_),b_,b_,b_]=_);rw[kK (Fq c1)];obtain⟨b,d,h⟩:=RN g B x.length b_ b_ (ao _)
 have h1:oE (Cn D (n+2)) (.loop c_ [3] (.rng [(.blt .len [(.v 1)]),(.neg (.e_ 1)),(.neg (.e_ 1))]) [Xu]) (yz E x (KD (iS E x) x.length x.length []) b_ b_)=a_ (.nx (yz E x (KD (iS E x) x.length 0 Ab) b d)):=by
  rw[B6];show bB (bB (bB (gZ .len [.str (T x)]) _) _) _=_;rw[len_T (aa B br)];show bB (DD [.int (x.length),.int (-1),.int (-1)]) _=_
  have:DD [.int (x.length),.int (-1),.int (-1)]=a_ (dn x.length):=by
   show(if(-1)=-1/\-1000000<=((x.length):Int)/\((x.length):Int)<=1000000/\-1000000<=(-1)/\(-1)<=1000000 then a_ ((aO (((x.length):Int) - (-1)).toNat).map λk:Nat=>Dat.int (((x.length)) - k))else b_)=_;rw[if_pos ⟨rfl,by simp,fN (eU.mpr B) br,br,by simp⟩,show(((x.length):Int) - (-1)).toNat=x.length+1 by rfl]
  rw[this];exact h
 show eC (Cn D (n+2)) (.loop c_ [3] (.rng [(.blt .len [(.v 1)]),(.neg (.e_ 1)),(.neg (.e_ 1))]) [Xu]::_) (yz E x (KD (iS E x) x.length x.length []) b_ b_)=_;rw[kK h1];show a_ (Out.rt (Dat.lst (KD (iS E x) x.length 0 Ab)) c_)=_;rw[abO]
end K31E
namespace K31E
open PySem L2 M K31
def cq(b:Nat)(cs:List Int):Prop:=0<cs.length/\cs.length<=b/\∀c∈cs,1<=c/\c<=63
def Cw(C:Fs)(N:Dat):Prop:=∀k a:Int,0<=k/\k<=100->0<a/\a<=63->∃cs b,C 21 [N,.int k,.int a]=a_ (tI cs,b)/\cq 4 cs
def Cj(hd:Dw C N)(hi:bp C it ρ=a_ (.int (m:Nat),f))(B:m<=10)(hk:0<=k/\k<=1000)(hp:0<p)(hf:0<few/\few<=63)
  (h1:∀d,bp C e1 ((jW 1 caps ρ).set 0 (a_ d))=a_ (N,d_))(h2:∀d,bp C e2 ((jW 1 caps ρ).set 0 (a_ d))=a_ (.int k,d_))(h3:∀d,bp C e3 ((jW 1 caps ρ).set 0 (a_ d))=a_ (.int few,d_)) :
  ∃cs:List Int,bp C (.comp 1 c_ caps (.rng [it]) [] (.bin .add (.e_ 1) (.call 19 [e1,e2,.bin .add (.con (.int p)) (.bin .mul (.e_ 22) (.v 0)),e3]))) ρ=a_ (.lst (cs.map Dat.int),c_)/\cs.length=m/\∀c∈cs,1<=c/\c<=63:=by
 obtain⟨cs,a,l,h,_⟩:=pO (elt:=.bin .add (.e_ 1) (.call 19 [e1,e2,.bin .add (.con (.int p)) (.bin .mul (.e_ 22) (.v 0)),e3])) (λc:Nat=>.int (c)) (λ_ c:Nat=>(1:Int)<=c/\(c:Int)<=63) (vX hi (aa B br)) (by grind) (λ_=>rfl) λj b=>
  Et (gY hd (h1 _) (h2 _) (lZ rfl (El rfl (j:=(j)) (g:=d_) (by rw[mW];simp[jW]) br)) (h3 _) hk (by omega) hf.1 λ_ h=>h) λq h=>by omega
 rw[bo]at l;refine⟨cs.map λc:Nat=>(c),by rw[cv];exact a,by rw[aw,l],λc hc=>?_⟩;obtain⟨d,hd,rfl⟩:=bQ.mp hc;obtain⟨_,_,q⟩:=h d hd;exact q
def cw{ns:List Int}:Cw (Cn D (n+3)) (.lst (ns.map Dat.int)):=λk c hk hf=>by
 have hd:Dw (Cn D (n+2)) (.lst (ns.map Dat.int)):=dw
 suffices h:Go (Cn D (n+2)) b21 [a_ (.lst (ns.map Dat.int),d_),a_ (.int k,d_),a_ (.int c,d_),b_] λo=>∃cs b,o=.rt (tI cs) b/\cq 4 cs by
  obtain⟨_,h1,cs,b,rfl,h2⟩:=h;exact⟨cs,b,fE rfl h1,h2⟩
 generalize Dat.lst (ns.map Dat.int)=N at hd ⊢;have a:0<=k/\k<=1000:=⟨hk.1,(fN hk.2 br)⟩
 refine vS (P:=λv=>1<=v/\v<=4) (tY hd rfl rfl rfl rfl a br br br) (λv=>tX (gY hd rfl rfl rfl rfl a br br λ_ _=>trivial) 0) (λv=>tY hd rfl rfl rfl rfl a br br br) λm d=>?_;obtain⟨h1,h2⟩:=d
 .obtain⟨cs,e,l,h3⟩:=Cj (ρ:=full [a_ (N,d_),a_ (.int k,d_),a_ (.int c,d_),a_ (.int (m),d_)]) (p:=10039) (caps:=[2,1,0]) (it:=.v 3) (e1:=.v 3) (e2:=.v 2) (e3:=.v 1) hd rfl (aa h2 br) a br hf (λ_=>rfl) (λ_=>rfl) (λ_=>rfl);exact jT (j5 e rfl) ⟨cs,_,rfl,aa h1 (ae l.symm),aa (ae l) h2,h3⟩
section
def Wh{z:Int}{f:Bool}(h:bp C e ρ=a_ (.int z,f)):∃c b,bp C (.ix (.f_ "abcdefghijklmnopqrstuvwxyz") (.bin .mod e (.e_ 26))) ρ=a_ (sT [c],b)/\c∈rk:=by
 have h1:0<=z % 26:=Rr _ br;obtain⟨q,a⟩:=j1 h1;have hl:q<rk.length:=by show q<26;omega
 refine⟨rk[q],d_,?_,bA hl⟩;rw[yy,mX,h];show((gp .mod (.int z) (.int 26)).bind λy=>(tU (.str (T rk)) y.1).map λd=>(d,d_))=_;rw[oj br,a];show((tU (.str (T rk)) (.int (q))).map _)=_;rw[VX br hl];rfl
def Si{elt:Ex}{caps:List Nat}{P:Nat->Prop}{r:Nat->Prop}(h:Ei C e ρ r)(B:∀m,r m->m<=1000)(hs:∀m,r m->∀i,i<m->∃c b,bp C elt ((jW 1 caps ρ).set 0 (a_ (.int ((i:Nat):Int))))=a_ (sT [c],b)/\P c):Ev C (.iF .join (.f_ "") [.comp 1 c_ caps (.rng [e]) [] elt]) ρ λd=>∃W:List Nat,d=sT W/\r W.length/\∀c∈W,P c:=by
 refine ac λ_ k=>?_;obtain⟨m,f,q,g⟩:=h;have a:=B m g;obtain⟨W,e,l,n,_⟩:=pO (λc=>sT [c]) (λ_ c=>P c) (vX q a) (by simp_all) (λ_=>rfl) λi hi=>hs m g i (bq.mp hi);refine k ?_;rw[bo]at l;have j:=zx (by rw[XT];exact aa (ae l) (aa a br));rw[Sh,cv]at j;exact⟨sT W,d_,by rw[uK,bP,e];exact j,rfl,W,rfl,by rw[l];exact g,λc hc=>by obtain⟨_,_,q⟩:=n c hc;exact q⟩
end
def lq(ls:List Nat):Prop:=0<ls.length/\ls.length<=6/\∀c∈ls,c∈rk
abbrev Ny(ls:List Nat):Dat:=.lst (ls.map λc=>sT [c])
def Lw(C:Fs)(N:Dat):Prop:=∃ls,C 22 [N]=a_ (Ny ls,c_)/\lq ls
def lw{ns:List Int}:Lw (Cn D (n+3)) (.lst (ns.map Dat.int)):=by
 have hd:Dw (Cn D (n+2)) (.lst (ns.map Dat.int)):=dw
 suffices h:Go (Cn D (n+2)) b22 [a_ (.lst (ns.map Dat.int),d_),b_,b_,b_] λo=>∃ls,o=.rt (Ny ls) c_/\lq ls by
  obtain⟨_,h1,ls,rfl,h2⟩:=h;exact⟨ls,fE rfl h1,h2⟩
 generalize Dat.lst (ns.map Dat.int)=N at hd ⊢;refine vS (P:=λv=>1<=v/\v<=6) (tY hd rfl rfl rfl rfl br br br br) (λv=>tX (gY hd rfl rfl rfl rfl br br br λ_ _=>trivial) 0) (λv=>tY hd rfl rfl rfl rfl br br br br) λm a=>?_;obtain⟨h1,h2⟩:=a;refine oi (qv (gY hd rfl rfl rfl rfl br br br λq h=>trivial)) ?_;rintro _ ⟨b,rfl,-⟩;refine oi (qv (GN (is:=[1,3,5,7,9,11,15]) rfl (gY hd rfl rfl rfl rfl br br br λq h=>by show q<7;omega) λ_ _=>trivial)) ?_;rintro _ ⟨st,rfl,-⟩;obtain⟨ls,e,l,hl,_⟩:=pO (ρ:=full [a_ (N,d_),a_ (.int (m),d_),a_ (.int (b),d_),a_ (.int (st),d_)]) (caps:=[2,3]) (it:=.rng [.v 1]) (elt:=.ix (.f_ "abcdefghijklmnopqrstuvwxyz") (.bin .mod (.bin .add (.v 1) (.bin .mul (.v 0) (.v 2))) (.e_ 26))) (λc=>sT [c]) (λ_ c=>c∈rk) (vX rfl (aa h2 br)) (by rw[bo];exact aa h2 (by decide)) (λ_=>rfl) λi hi=>Wh (lZ rfl (El rfl rfl (by have:=bq.mp hi;omega)));rw[bo]at l;exact jT e ⟨ls,rfl,aa h1 (ae l.symm),aa (ae l) h2,λc hc=>by obtain⟨_,_,q⟩:=hl c hc;exact q⟩
def lo(ls:List Nat)(f:Fm):Prop:=Ee f/\(∀c∈f.1,c∈ls)/\∀c∈f.2.1,1<=c/\c<=63
def Fw(C:Fs)(N:Dat):Prop:=∀(k a:Int)(ls:List Nat),0<=k/\k<=10->0<a/\a<=63->lq ls->∃f b,C 23 [N,.int k,Ny ls,.int a]=a_ (iO f,b)/\lo ls f
def plX:Ex:=.iF .join (.f_ "") [.comp 1 c_ [6] (.rng [.e_ 4]) [.cmp .eq (.bin .band (.bin .shr (.v 1) (.v 0)) (.e_ 1)) (.e_ 1)] (.ix (.f_ "wbme") (.v 0))]
def plB(C:Fs):((aO 16).all λk=>qW (bp C plX [b_,b_,b_,b_,b_,b_,a_ (.int (k:Nat))]) (a_ (.str (T (Xd k)),d_)))=c_:=by kernel_rfl
def Zh{C:Fs}{a b c d e f g:Option Dat}{k:Nat}(h:k<16):bp C plX [a,b,c,d,e,f,a_ (.int (k:Nat)),g]=a_ (sT (Xd k),d_):=o5 (bF.mp (plB C) k (bq.mpr h))
def fw{ns:List Int}:Fw (Cn D (n+4)) (.lst (ns.map Dat.int)):=λk a ls hk hf hl=>by
 have hd:Dw (Cn D (n+3)) (.lst (ns.map Dat.int)):=dw;have hc:Cw (Cn D (n+3)) (.lst (ns.map Dat.int)):=cw
 suffices h:Go (Cn D (n+3)) b23 [a_ (.lst (ns.map Dat.int),d_),a_ (.int k,d_),a_ (Ny ls,d_),a_ (.int a,d_),b_,b_,b_,b_] λo=>∃f b,o=.rt (iO f) b/\lo ls f by
  refine ac λ_ u=>?_;obtain⟨_,h1,f,b,rfl,h2⟩:=h;refine u ?_;exact⟨f,b,fE rfl h1,h2⟩
 generalize Dat.lst (ns.map Dat.int)=N at hd hc ⊢;generalize Cn D (n+3)=C at hd hc ⊢;refine vS (P:=λv=>1<=v/\v<=6) (tY hd rfl (lZ rfl rfl) rfl rfl (⟨(Jx hk.1),(Jx hk.2)⟩) br br br) (λv=>tX (gY hd rfl (lZ rfl rfl) rfl rfl (⟨(Jx hk.1),(Jx hk.2)⟩) br br λ_ _=>trivial) 0) (λv=>tY hd rfl (lZ rfl rfl) rfl rfl (by omega) br br br) λm t=>?_;have j:gZ .len [Ny ls]=a_ (.int (ls.length),d_):=by simp
 refine oi (Si (r:=λm=>1<=m/\m<=6) ⟨m,_,rfl,t⟩ (λm h=>(aa h.2 br)) λm t i hi=>Mv rfl (gY hd rfl (lZ rfl rfl) (lZ rfl (El rfl rfl br)) (by exact j) (⟨(Jx hk.1),(Jx hk.2)⟩) (by omega) (pE.mpr hl.1) λq h=>by omega) λc hc=>hc) ?_;rintro _ ⟨W,rfl,w,d⟩;refine oi (qv (P:=λm=>1<=m/\m<16) (Et (gY hd rfl (lZ rfl rfl) rfl rfl (⟨(Jx hk.1),(Jx hk.2)⟩) br br λq h=>by omega) λq h=>by omega)) ?_;rintro _ ⟨l,rfl,p,g⟩;refine cF (eo (Zh g) rfl) ?_;refine ac λ_ u=>?_;obtain⟨cs,b,x,c1,c2,y⟩:=hc (20+k) a (⟨(Jx hk.1),(Jx hk.2)⟩) hf
 refine u ?_;have s:∀ρ':iy,ρ'[0]?=a_ (a_ N)->ρ'[1]?=a_ (a_ (.int k))->ρ'[3]?=a_ (a_ (.int a))->bp C (.call 21 [.v 0,.bin .add (.e_ 20) (.v 1),.v 3]) ρ'=a_ (tI cs,b):=λρ' h0 h1 h3=>by
  rw[kL,bP,mW,h0,bP,mX,mW,h1,bP,mW,h3];exact x
 refine jT (f:=c_) ?_ ⟨(W,cs,Xd l),_,rfl,⟨λe=>?_,λc hc=>hl.2.2 c (d c hc),w.2,c1,c2,l,p,g,rfl⟩,d,y⟩
 .rw[Ek,gW,gW,s _ rfl rfl rfl];show a_ (iO (W,cs,Xd l),((b || im (tI cs)) && c_))=_;rw[mr,tN];rfl
 simp_all
section
def Vj{fs:List Fm}(B:bp C x (full ρ)=a_ (.lst (fs.map iO),g))(hl:fs.length<=1000)(O:bp C y (full ρ)=a_ (iO f,g')):∃t f',bp C (.cmp .nin (.sl y b_ (a_ (.e_ 2))) (.comp 1 c_ [] (.itv x) [] (.sl (.v 0) b_ (a_ (.e_ 2))))) (full ρ)=a_ (.bl t,f'):=by
 obtain⟨a,e,_,_⟩:=pO (elt:=.sl (.v 0) b_ (a_ (.e_ 2))) (λf:Fm=>.tup [sT f.1,tI f.2.1]) (λ_ _=>True) (by rw[QC,B];rfl) hl (λf=>by
  show(c_ && (kC (f.2.1.map Dat.int) && c_))=c_
  rw[rB];rfl) λf _=>⟨f,d_,rfl,trivial⟩
 have hs:∀fs:List Fm,eT 20 (fs.map λf=>Dat.tup [sT f.1,tI f.2.1])=c_:=λfs=>by
  induction fs with
  |nil=>rfl
  |cons g r b=>show(hV 20 _ && eT 20 _)=c_;rw[AS,b];rfl
 obtain⟨t,c⟩:∃t,gn .nin (.tup [sT f.1,tI f.2.1]) (.lst (a.map λf=>.tup [sT f.1,tI f.2.1]))=a_ t:=⟨_,if_pos (by rw[AS,hs];rfl)⟩
 refine⟨t,d_,?_⟩;rw[Em,e,GJ,O];show((gn .nin (.tup [sT f.1,tI f.2.1]) _).map λr=>(Dat.bl r,d_))=_;rw[c];rfl
def zJ(h:Ev C x (full ρ) P)(O:bp C y (full ρ)=a_ (.int k,g))(hi:(ρ[i]?).join=a_ (.lst ds,c_))(K:∀d,P d->∃B,jx .seti (.lst ds) [d,.int k]=a_ (.lst B)/\Go C ss (ρ.set i (a_ (.lst B,c_))) Q):Go C (.mut .seti i [x,y]::ss) ρ Q:=by
 refine ac λ_ c=>?_;obtain⟨d,f,h1,h2,h3⟩:=h;obtain⟨B,a,b⟩:=K d h3;refine c ?_;exact cF (zw hi (by rw[gW,h1,gW,O];show a_ ([d,.int k],(f || im d) && ((g || c_) && c_))=_;simp_all) a) b
end
structure fq(ls:List Nat)(fs:List Fm):Prop where
 o:∀f∈fs,lo ls f
 w:∀c∈ls,∃cs,([c],cs,NF)∈fs
abbrev ZU(N:Dat)(B:Int)(ls:List Nat)(fs:List Fm)(O Y Z:g_):dG:=[a_ (N,d_),a_ (.int B,d_),a_ (Ny ls,c_),O,a_ (.lst (fs.map iO),c_),Y,Z]
def I22(N:Dat)(B:Int)(ls:List Nat)(us:List Nat)(ρ:dG):Prop:=∃(fs:List Fm) (a b c:g_),ρ=ZU N B ls fs a b c/\fs.length<=ls.length+us.length/\fq ls fs
def XZ{fs:List Fm}(h:q<=fs.length):Dt (.lst (fs.map iO)) b_ (a_ (q:Int))=a_ (.lst ((fs.take q).map iO),c_):=by
 show a_ (Dat.lst (cutD (fs.map iO) b_ (a_ (q))),kC (cutD (fs.map iO) b_ (a_ (q))))=_;rw[GW (gG _) (by simp_all),show((q:Int)).toNat=q by rfl,<-Aj,mV]
def X0{fs:List Fm}(h:q<=fs.length):Dt (.lst (fs.map iO)) (a_ (q:Int)) b_=a_ (.lst ((fs.drop q).map iO),c_):=by
 show a_ (Dat.lst (cutD (fs.map iO) (a_ (q)) b_),kC (cutD (fs.map iO) (a_ (q)) b_))=_;rw[GV (gG _) (by rw[aw];exact eU.mpr h),show((q:Int)).toNat=q by rfl,<-List.map_drop,mV]
def Nf{A B:List Fm}(h:A.length+B.length<=1000):gp .add (.lst (A.map iO)) (.lst (B.map iO))=a_ (.lst ((A++B).map iO),c_):=by
 rw[om (by rw[aw,aw];exact aa h br),<-dJ,mV]
def Tf(hd:Dw C N)(Y:Fw C N)(hf:0<few/\few<=63)(hl:lq ls){us:List Nat}(Z:us.length<=5)(hx:x<=5)(h:I22 N few ls us ρ):∃ρ1,iw c_ [3] (.int (x:Nat)) ρ=a_ ρ1/\Go C iB ρ1 λo=>∃O,o=.nx O/\I22 N few ls (us++[x]) O:=by
 obtain⟨fs,s,t,u,rfl,h1,h2⟩:=h;refine⟨_,rfl,?_⟩;obtain⟨f,b,l,m⟩:=Y (x) few ls (⟨(gG _),(fN (eU.mpr hx) br)⟩) hf hl;have n:=hl.2.1;refine cF (eo l (Gw f)) ?_;refine BQ (Vj rfl (pY h1 n Z) rfl) ?_ ⟨fs,_,_,_,rfl,by rw[ag];exact cc h1,h2⟩ λρ' h=>bR ⟨_,rfl,h⟩;have d:gZ .len [.lst (fs.map iO)]=a_ (.int (fs.length),d_):=by simp
 refine oi (qv (P:=(·<=fs.length)) (gY hd rfl (lZ rfl rfl) rfl (lZ (by exact d) rfl) (by omega) br (by simp) λq h=>by omega)) ?_;rintro _ ⟨q,rfl,k⟩;have e:(fs.take q).length=q:=by simp_all
 refine fI ?_ (bR ⟨_,rfl,fs.take q++[f]++fs.drop q,_,_,_,rfl,?_,?_,?_⟩)
 .have e1:bp C (.sl (.v 4) b_ (a_ (.v 6))) (full (ZU N few ls fs (a_ (.int (x),d_)) (a_ (iO f,d_)) (a_ (.int (q),d_))))=a_ (.lst ((fs.take q).map iO),c_):=XZ k;have e2:bp C (.sl (.v 4) (a_ (.v 6)) b_) (full (ZU N few ls fs (a_ (.int (x),d_)) (a_ (iO f,d_)) (a_ (.int (q),d_))))=a_ (.lst ((fs.drop q).map iO),c_):=X0 k;have e3:bp C (.lst [.v 5]) (full (ZU N few ls fs (a_ (.int (x),d_)) (a_ (iO f,d_)) (a_ (.int (q),d_))))=a_ (.lst ([f].map iO),im (iO f) && c_):=rfl;show bp C _ (full (ZU N few ls fs (a_ (.int (x),d_)) (a_ (iO f,d_)) (a_ (.int (q),d_))))=_;rw[mX,mX,e1,e2,e3,bH,bH];rw[(Nf (A:=fs.take q) (B:=[f]) (by simp;exact Nx (Nat.min_le_right q fs.length) h1 n Z))];exact (Nf (A:=fs.take q++[f]) (B:=fs.drop q) (by simp;exact a4 (Nat.min_le_left q fs.length) (ad k) h1 n Z))
 .rw[ag,ag,e,dh];grind
 .intro g a
  rcases ax.mp a with a|a
  .rcases ax.mp a with a|a
   .exact h2.o g (cy a)
   simp_all
  .exact h2.o g (eJ a)
 .intro c hc;obtain⟨cs,j⟩:=h2.w c hc;refine⟨cs,?_⟩;rw[<-bh q fs]at j
  grind
def Ow(C:Fs)(N:Dat):Prop:=∀a:Int,0<a/\a<=63->∃(ls:List Nat) (fs:List Fm) (b:Bool),C 24 [N,.int a]=a_ (.tup (fs.map iO),b)/\fs.length<=11/\lq ls/\fq ls fs
def vn(h:aO m=us++x::vs):us.length<m/\x<m:=by
 have h1:=congrArg fA h;rw[bo,ag]at h1;exact⟨aq (aW _ _) (ae h1.symm),bq.mp (by rw[h];simp)⟩
def UW:NF=Xd 15:=br
def ow{ns:List Int}:Ow (Cn D (n+5)) (.lst (ns.map Dat.int)):=λa hf=>by
 have hd:Dw (Cn D (n+4)) (.lst (ns.map Dat.int)):=dw;have hc:Cw (Cn D (n+4)) (.lst (ns.map Dat.int)):=cw;have d:Fw (Cn D (n+4)) (.lst (ns.map Dat.int)):=fw;obtain⟨ls,el,hl⟩:Lw (Cn D (n+4)) (.lst (ns.map Dat.int)):=lw
 suffices h:Go (Cn D (n+4)) b24 [a_ (.lst (ns.map Dat.int),d_),a_ (.int a,d_),b_,b_,b_,b_,b_] λo=>∃(fs:List Fm) (b:Bool),o=.rt (.tup (fs.map iO)) b/\fs.length<=11/\fq ls fs by
  refine ac λ_ y=>?_;obtain⟨_,h1,fs,b,rfl,h2,h3⟩:=h;refine y ?_;exact⟨ls,fs,b,fE rfl h1,h2,hl,h3⟩
 generalize Dat.lst (ns.map Dat.int)=N at hd hc d el ⊢;generalize Cn D (n+4)=C at hd hc d el ⊢;have r:=hl.2.1;have g:gZ .len [Ny ls]=a_ (.int (ls.length),d_):=by simp
 refine fI el ?_
 obtain⟨fs,e,l,h1,h2⟩:=pO (ρ:=full [a_ (N,d_),a_ (.int a,d_),a_ (Ny ls,c_),b_,b_,b_,b_]) (caps:=[1,2,0]) (it:=.rng [.blt .len [.v 2]]) (elt:=.tup [.ix (.v 2) (.v 0),.call 21 [.v 3,.bin .add (.e_ 4) (.v 0),.v 1],.f_ "wbme"]) iO (λ(k)(f)=>lo ls f/\∀h:k<ls.length,f.1=[ls[k]]/\f.2.2=NF) (vX (by exact g) (aa r br)) (by rw[bo];exact aa r (by decide)) (λf=>Gw f) λi hi=>by
  have hi:=bq.mp hi;refine ac λ_ y=>?_;obtain⟨cs,b,t,c1,c2,u⟩:=hc (4+(i)) a (by omega) hf
  refine y ?_;have j:tU (Ny ls) (.int (i))=a_ (sT [ls[i]]):=by
   show qH _ (i)=_;rw[jX (by rw[aP,af hi];rfl)]
  refine⟨([ls[i]],cs,NF),c_,?_,⟨⟨by simp,λc h=>?_,by simp,c1,c2,15,br,br,UW⟩,λc h=>?_,u⟩,λ_=>⟨rfl,rfl⟩⟩
  .show bB (bB (jC _ (tU (Ny ls) (.int (i)))) _) _=_;rw[j];show bB (jC _ (bB (C 21 [N,.int (4+(i)),.int a]) _)) _=_;rw[t];show a_ (iO ([ls[i]],cs,NF),((b || im (tI cs)) && c_))=_;rw[mr,tN];rfl
  .rw[aE.mp h];exact hl.2.2 _ (bA hi)
  simp_all
 rw[bo]at l;refine fI e ?_;refine Ec (I:=I22 N a ls) (gY hd rfl rfl rfl rfl br br br λq h=>by omega) (λm h=>by omega) ⟨fs,_,_,_,rfl,by exact ae l,⟨λf hf=>?_,λc hc=>?_⟩⟩ (λm w us x vs ρ s p=>Tf hd d hf hl (by have:=vn s;omega) (by have:=vn s;omega) p) λm w ρ p=>?_
 .obtain⟨_,_,q,_⟩:=h1 f hf;exact q
 .obtain⟨i,hi,rfl⟩:=lL hc;obtain⟨f,hf,_,q⟩:=h2 i (bq.mpr hi);exact⟨f.2.1,by rw[<-(q hi).1,<-(q hi).2];exact hf⟩
 .obtain⟨fs,B,E,F,rfl,j,A⟩:=p;rw[bo]at j;exact jT (by rfl) ⟨fs,_,rfl,by omega,A⟩
def Mw(C:Fs)(N:Dat):Prop:=∀k a:Int,0<=k/\k<=100->0<a/\a<=63->∃cs b,C 25 [N,.int k,.int a]=a_ (tI cs,b)/\cq 2 cs
def mw{ns:List Int}:Mw (Cn D (n+4)) (.lst (ns.map Dat.int)):=λk a hk hf=>by
 obtain⟨cs,b,e,c1,c2,f⟩:=cw k a hk hf;refine⟨cs.take 2,d_,fE rfl ?_,by rw[dQ];omega,by rw[dQ];exact iL _ _,λc h=>f c (cy h)⟩;generalize Dat.lst (ns.map Dat.int)=N at e ⊢;generalize Cn D (n+3)=C at e ⊢;refine wX ?_;show bB (C 21 [N,.int k,.int a]) _=_;rw[e];show a_ (Dat.tup (cutD (cs.map Dat.int) b_ (a_ 2)),d_)=_
 have:cutD (cs.map Dat.int) b_ (a_ 2)=(cs.take 2).map Dat.int:=by
  by_cases h:2<=cs.length
  .rw[GW (by simp) (by rw[aw];exact eU.mpr h)];exact Aj.symm
  .match cs,c1 with
   |[c],_=>rfl
   |c::d::r,_=>simp at h
 rw[this]
def mq(b:Nat)(m:List Int):Prop:=m.length<=b/\∀c∈m,1<=c/\c<=63
def sW(b:Nat):mq b []:=⟨aM _,λ_ h=>nomatch h⟩
def cq.m{b:Nat}{m:List Int}(h:cq b m):mq b m/\m≠[]:=⟨⟨h.2.1,h.2.2⟩,λe=>by rw[e]at h;exact absurd h.1 br⟩
structure wT(t:Tb):Prop where
 ok:Iu t
 own:∀f∈t.fs,∀c∈f.1,∃cs,([c],cs,NF)∈t.fs
 cf:∀f∈t.fs,∀c∈f.2.1,1<=c/\c<=63
 cm:∀m∈[t.m0,t.m1,t.m2,t.m3,t.fg],∀c∈m,1<=c/\c<=63
 m1:t.m1≠[]->t.m0≠[]
 m3:t.fg≠[]->t.m3≠[]
def uL(B:Mw C N)(h0:ρ[0]?=a_ (a_ (N,d_)))(h1:ρ[1]?=a_ (a_ (.int few,d_)))(hk:0<=k/\k<=100)(hf:0<few/\few<=63):Ev C (.call 25 [.v 0,.con (.int k),.v 1]) (full ρ) λd=>∃cs,d=tI cs/\cq 2 cs:=by
 obtain⟨cs,b,e,h⟩:=B k few hk hf;refine⟨tI cs,b,?_,mr cs,cs,rfl,h⟩;have a:bp C (.v 0) (full ρ)=a_ (N,d_):=by rw[mW,full,aP,h0];rfl
 have c:bp C (.v 1) (full ρ)=a_ (.int few,d_):=by rw[mW,full,aP,h1];rfl
 rw[kL,bP,a,bP,bP,c];exact e
abbrev Z5(m0 m1 m2 m3:List Int):Dat:=.lst [tI m0,tI m1,tI m2,tI m3]
def HR{ns:List Int}:∃t b,Cn D (n+6) 26 [.lst (ns.map Dat.int)]=a_ (tb t,b)/\wT t:=by
 have hd:Dw (Cn D (n+5)) (.lst (ns.map Dat.int)):=dw;have i:Mw (Cn D (n+5)) (.lst (ns.map Dat.int)):=mw;have ho:Ow (Cn D (n+5)) (.lst (ns.map Dat.int)):=ow
 suffices h:Go (Cn D (n+5)) b26 [a_ (.lst (ns.map Dat.int),d_),b_,b_,b_,b_] λo=>∃t b,o=.rt (tb t) b/\wT t by
  refine ac λ_ E=>?_;obtain⟨_,h1,t,b,rfl,h2⟩:=h;refine E ?_;exact⟨t,b,fE rfl h1,h2⟩
 generalize Dat.lst (ns.map Dat.int)=N at hd i ho ⊢;generalize Cn D (n+5)=C at hd i ho ⊢;refine oi (qv (P:=λq=>0<q/\q<=63) (GN (is:=[3,6,63]) rfl (gY hd rfl rfl rfl rfl br br br λq h=>by show q<3;omega) br)) ?_;rintro _ ⟨a,rfl,hf⟩;have hf:(0:Int)<(a)/\(a:Int)<=63:=⟨(pE.mpr hf.1),(eU.mpr hf.2)⟩
 refine fI rfl ?_;refine BQ (J:=λρ=>∃m0 m1,ρ=[a_ (N,d_),a_ (.int (a),d_),a_ (Z5 m0 m1 [] [],c_),b_,b_]/\mq 2 m0/\mq 2 m1/\(m1≠[]->m0≠[])) (tX (gY hd rfl rfl rfl rfl br br br λq h=>trivial) 0) ?_ ⟨[],[],rfl,sW 2,sW 2,λh=>absurd rfl h⟩ ?_
 .refine zJ (uL i rfl rfl br hf) rfl rfl λd g=>?_;obtain⟨m0,rfl,h0⟩:=g;refine⟨[tI m0,tI [],tI [],tI []],rfl,BQ (J:=λρ=>∃m1,ρ=[a_ (N,d_),a_ (.int (a),d_),a_ (Z5 m0 m1 [] [],c_),b_,b_]/\mq 2 m1) (tX (gY hd rfl rfl rfl rfl br br br λq h=>trivial) 0) ?_ ⟨[],rfl,sW 2⟩ ?_⟩
  .refine zJ (uL i rfl rfl br hf) rfl rfl λd g=>?_;obtain⟨m1,rfl,h1⟩:=g;exact⟨[tI m0,tI m1,tI [],tI []],rfl,bR ⟨_,rfl,m1,rfl,h1.m.1⟩⟩
  .rintro _ ⟨m1,rfl,h1⟩;exact bR ⟨_,rfl,m0,m1,rfl,h0.m.1,h1,λ_=>h0.m.2⟩
 rintro _ ⟨m0,m1,rfl,h0,h1,s⟩;refine fI rfl ?_;refine BQ (J:=λρ=>∃m2 m3 fg x,ρ=[a_ (N,d_),a_ (.int (a),d_),a_ (Z5 m0 m1 m2 m3,c_),a_ (.lst (fg.map Dat.int),c_),x]/\mq 2 m2/\mq 2 m3/\mq 10 fg/\(fg≠[]->m3≠[])) (tX (gY hd rfl rfl rfl rfl br br br λq h=>trivial) 0) ?_ ⟨[],[],[],b_,rfl,sW 2,sW 2,sW 10,λh=>absurd rfl h⟩ ?_
 .refine vS (P:=λv=>1<=v/\v<=10) (tY hd rfl rfl rfl rfl br br br br) (λv=>tX (gY hd rfl rfl rfl rfl br br br λ_ _=>trivial) 0) (λv=>tY hd rfl rfl rfl rfl br br br br) λm u=>?_;have k:=u.2;refine ac λ_ E=>?_;obtain⟨fg,e,l,h3⟩:=Cj (ρ:=full [a_ (N,d_),a_ (.int (a),d_),a_ (Z5 m0 m1 [] [],c_),a_ (.lst [],c_),a_ (.int (m),d_)]) (p:=30091) (caps:=[1,0]) (it:=.v 4) (e1:=.v 2) (e2:=.e_ 27) (e3:=.v 1) hd rfl k br br hf (λ_=>rfl) (λ_=>rfl) (λ_=>rfl);refine E ?_;refine fI e ?_;refine zJ (uL i rfl rfl br hf) rfl rfl λd g=>?_;obtain⟨m2,rfl,h2⟩:=g;refine⟨[tI m0,tI m1,tI m2,tI []],rfl,zJ (uL i rfl rfl br hf) rfl rfl λd g=>?_⟩;obtain⟨m3,rfl,r⟩:=g;exact⟨[tI m0,tI m1,tI m2,tI m3],rfl,bR ⟨_,rfl,m2,m3,fg,_,rfl,h2.m.1,r.m.1,⟨aa (ae l) k,h3⟩,λ_=>r.m.2⟩⟩
 rintro _ ⟨m2,m3,fg,x,rfl,h2,h3,y,z⟩;obtain⟨ls,fs,b,e,hl,A,j⟩:=ho a hf;refine jT (d:=tb ⟨fs,m0,m1,m2,m3,fg⟩) (f:=c_) ?_ ⟨_,_,rfl,⟨λf hf=>(j.o f hf).1,by exact cc hl,h0.1,h1.1,h2.1,h3.1,y.1⟩,λf hf c hc=>j.w c ((j.o f hf).2.1 c hc),λf hf=>(j.o f hf).2.2,?_,s,z⟩
 .show bB (bB (C 24 [N,.int (a)]) _) _=_;rw[e];have B:im (Dat.tup (fs.map iO))=c_:=mV fs
  have i2:im (Dat.tup [tI m0,tI m1,tI m2,tI m3])=c_:=by
   simp only[im,kC,iM,aj];exact⟨mr _,mr _,mr _,mr _⟩
  have i3:=mr fg;refine (?_ : a_ (tb ⟨fs,m0,m1,m2,m3,fg⟩,(b || im (Dat.tup (fs.map iO))) && ((_ || im (Dat.tup [tI m0,tI m1,tI m2,tI m3])) && ((_ || im (tI fg)) && c_)))=_)
  simp_all
 .intro m i c hc;simp only[au,bu,or_false]at i
  rcases i with rfl|rfl|rfl|rfl|rfl
  .exact h0.2 c hc
  .exact h1.2 c hc
  .exact h2.2 c hc
  .exact h3.2 c hc
  .exact y.2 c hc
def ltN(a b:Nat):Bool:=decide (a<b)
def loN:M.LO ltN:=⟨λx=>by simp[ltN],λx y z h h'=>by simp[ltN]at *;exact cY h h',λx y h h'=>by simp[ltN]at *;exact aC h' h⟩
def lt1(a b:Nat):wI (T [a]) (T [b])=ltN a b:=by
 refine decide_eq_decide.mpr ⟨λh=>?_,λh=>?_⟩
 .cases h with
  |rel h=>exact h
  |cons h=>cases h
 .exact List.Lex.rel h
theorem BM{α β:Type}{lt:α->α->Bool}{B:β->β->Bool}{g:α->β}(h:∀a b,B (g a) (g b)=lt a b)(x:α):∀l:List α,vP B (g x) (l.map g)=(vP lt x l).map g
 |[]=>rfl
 |y::ys=>by
   simp only[aA,vP,h];split
   .rfl
   .split
    .rw[BM h x ys];rfl
    .rfl
theorem xN{α β:Type}{lt:α->α->Bool}{B:β->β->Bool}{g:α->β}(h:∀a b,B (g a) (g b)=lt a b):∀l:List α,ip B (l.map g)=(ip lt l).map g
 |[]=>rfl
 |x::l=>by simp only[aA,ip,xN h l,BM h]
theorem BK{α β:Type}{lt:α->α->Bool}{B:β->β->Bool}{g:α->β}(h:∀a b,B (g a) (g b)=lt a b)(x:α):∀l:List α,xj B (g x) (l.map g)=(xj lt x l).map g
 |[]=>rfl
 |y::ys=>by
   simp only[aA,xj,h];split
   .rw[BK h x ys];rfl
   .rfl
theorem xJ{α β:Type}{lt:α->α->Bool}{B:β->β->Bool}{g:α->β}(h:∀a b,B (g a) (g b)=lt a b):∀l:List α,oB B (l.map g)=(oB lt l).map g
 |[]=>rfl
 |x::l=>by simp only[aA,oB,xJ h l,BK h]
abbrev c1(l:List Nat):List Dat:=l.map λc=>sT [c]
def Tp{l:List Nat}(h:l.length<4000)(B:(ip ltN l).length<64):gZ .sset [.str (T l)]=a_ (.lst (c1 (ip ltN l)),c_):=by
 show Fd (eV (T l))=_;rw[zk];unfold Fd;rw[xN lt1,if_pos ⟨by simp_all,by simp_all⟩,cv];rfl
def TN{l:List Nat}(h:l.length<64):gZ .sorted [.str (T l)]=a_ (.lst (c1 (oB ltN l)),c_):=by
 show Ff (eV (T l))=_;rw[zk];unfold Ff;rw[xJ lt1,if_pos (by simp_all),cv];rfl
def ZE(l:List Nat):c1 l=(l.map λc=>[c]).map λl=>Dat.str (T l):=by rw[cv];rfl
def join_1{l:List Nat}(h:l.length<=1000):iE .join (.str (T [])) [.lst (c1 l)]=a_ (.str (T l),d_):=by
 have:=zx (by rw[XT];exact aa h br);rw[Sh,<-ZE]at this;exact this
def lets(fs:List Fm):List Nat:=(fs.map (·.1)).flatten
def U(fs:List Fm):List Nat:=ip ltN (lets fs)
def LL(ho:∀f∈fs,Ee f):(lets fs).length<=6 * fs.length:=by
 induction fs with
 |nil=>simp[lets]
 |cons f r c=>
   have a:=c λg m=>ho g (ki _ m);simp only[lets,aA,List.flatten_cons,ag,bx]at a ⊢;exact jJ ((ho f jy).ll) a
def Gf:c∈U fs↔∃f∈fs,c∈f.1:=by
 rw[U,jE loN];unfold lets;simp
def Sz(ho:∀f∈fs,Ee f):∀c∈U fs,c∈rk:=λc hc=>by
 obtain⟨f,h3,h2⟩:=Gf.mp hc;exact(ho f h3).low c h2
def SD(ho:∀f∈fs,Ee f):(U fs).length<=26:=zv (nD loN (jR loN _)) λc hc=>Sz ho c hc
def HW{fs:List Fm}(h:fs.length<=100)(ho:∀f∈fs,Ee f):Cn D (n+1) 0 [.tup (fs.map iO)]=a_ (sT (U fs),d_):=by
 refine fE rfl ?_;have hl:=LL ho
 have h2:iE .join (.str (T [])) [.lst (fs.map λf=>sT f.1)]=a_ (.str (T (lets fs)),d_):=by
  rw[show(fs.map λf=>sT f.1)=(fs.map (·.1)).map λl=>.str (T l) by rw[cv];rfl];refine zx ?_
  have e:((fs.map (·.1)).map (·.length)).sum=(lets fs).length:=by
   unfold lets;rw[List.length_flatten]
  exact pY (Nat.le_of_eq e) hl (Nat.mul_le_mul_left 6 h)
 have a:=SD ho;exact wX (Vt rfl (j5 (Vt rfl (G0 (C:=Cn D n) (ρ:=[a_ (.tup (fs.map iO))]) (caps:=[]) (it:=.itv (.v 0)) (elt:=.ix (.v 0) (.e_ 0)) rfl (aa h br) (λ_ _=>rfl) λf _=>⟨d_,rfl⟩) h2) (Tp (jJ hl (Nat.mul_le_mul_left 6 h)) (aq a br))) (join_1 (aa a br)))
def slB:((aO 11).all λk=>qW (Dt (.str (T rL)) b_ (a_ (k:Nat))) (a_ (.str (T (rL.take k)),d_)))=c_:=by kernel_rfl
def aaF(h:k<=10):Dt (.str (T rL)) b_ (a_ (k:Nat))=a_ (.str (T (rL.take k)),d_):=o5 (bF.mp slB k (bq.mpr (bb h)))
def Mh(t:Tb)(u:List Nat):List Nat:=if t.m0.isEmpty=c_ then []else u.map (·- 32)
def raw(t:Tb):List Nat:=[32]++rL.take t.fg.length++Mh t (U t.fs)++U t.fs
def Qr(t:Tb)(u:List Nat):(Mh t u).length<=u.length:=by
 unfold Mh;split
 .exact aM _
 simp
def Zi(B:∀c∈u,c∈rk)(hl:u.length<=1000):bp C (.ite (.cmp .eq (.ix (.ix (.v 0) (.e_ 1)) (.e_ 0)) (.tup [])) (.f_ "") (.iF .upper (.v 1) [])) [a_ (tb t),a_ (sT u),a,b]=a_ (sT (Mh t u),d_):=by
 have h:bp C (.cmp .eq (.ix (.ix (.v 0) (.e_ 1)) (.e_ 0)) (.tup [])) [a_ (tb t),a_ (sT u),a,b]=a_ (.bl t.m0.isEmpty,d_):=by
  show(gn .eq (tI t.m0) (.tup [])).map _=_;rw[Es];rfl
 rw[GL h rfl];unfold Mh;cases t.m0.isEmpty
 .exact uw B hl
 .rfl
def HU(ht:Iu t):∃s,Cn D (n+2) 1 [tb t]=a_ (sT s,d_)/\∀c,c∈s↔c∈raw t:=by
 refine⟨oB ltN (raw t),?_,λc=>(lQ _).mem_iff⟩;have r:=HW (n:=n) (aa ht.hl br) ht.ho;have e:=SD ht.ho;have low:=Sz ht.ho;have h:=Qr t (U t.fs);have d:(rL.take t.fg.length).length<=10:=by rw[dQ];exact hJ _ _
 have e2:raw t=[32]++rL.take t.fg.length++Mh t (U t.fs)++U t.fs:=rfl;have f:(raw t).length<64:=by rw[e2];exact Nx d h e e
 have m:=CC (a:=[32]) (by exact aa (eX d _) br);have o:=CC (a:=[32]++rL.take t.fg.length) (b:=Mh t (U t.fs)) (by exact pY d h e);have k:=CC (a:=[32]++rL.take t.fg.length++Mh t (U t.fs)) (b:=U t.fs) (by exact Nx d h e e);have hs:=TN f;have p:=join_1 (l:=oB ltN (raw t)) (by rw[(lQ _).length_eq];exact aD (aa f br));have j:=aaF ht.hf;rw[<-e2]at k;refine fE rfl ?_;generalize Cn D (n+1)=C at r ⊢;refine (?_ : eC C (.set 1 _::.set 2 _::.set 3 (.sl (.f_ "0123456789") b_ (a_ (.blt .len [.ix (.v 0) (.e_ 2)])))::.ret (.iF .join (.f_ "") [.blt .sorted [.bin .add (.bin .add (.bin .add (.f_ " ") (.v 3)) (.v 2)) (.v 1)]])::[]) [a_ (tb t,d_),b_,b_,b_]=_);have s1:oE C (.set 1 (.call 0 [.ix (.v 0) (.e_ 0)])) [a_ (tb t,d_),b_,b_,b_]=a_ (.nx [a_ (tb t,d_),a_ (sT (U t.fs),d_),b_,b_]):=eo r rfl;rw[kK s1];generalize q:U t.fs=u at *;rw[kK (eo (C:=C) (i:=2) (ρ:=[a_ (tb t,d_),a_ (sT u,d_),b_,b_]) (Zi low (aa e br)) rfl)];generalize Mh t u=g at *
 have s3:oE C (.set 3 (.sl (.f_ "0123456789") b_ (a_ (.blt .len [.ix (.v 0) (.e_ 2)])))) [a_ (tb t,d_),a_ (sT u,d_),a_ (sT g,d_),b_]=a_ (.nx [a_ (tb t,d_),a_ (sT u,d_),a_ (sT g,d_),a_ (sT (rL.take t.fg.length),d_)]):=by
  exact eo (fl:=d_) (Kk rfl (j5 rfl (o9 t.fg)) j) rfl
 show eC C _ [a_ (tb t,d_),a_ (sT u,d_),a_ (sT g,d_),b_]=_;rw[kK s3];exact wX (Vt rfl (j5 (g7 (g7 (g7 rfl rfl m) rfl o) rfl k) hs) p)
def We{ds:List Dat}(h:ds.length=np)(B:eC C body (ds.map (λd=>a_ (d,d_))++dZ (nl - np) b_)=a_ (.nx ρ)):QA C np nl body ds=a_ (.non,d_):=by
 unfold QA;rw[if_pos h,B];rfl
def YW:List Sx:=[.ifs (.cmp .nin (.v 4) (.v 2)) [.Nu] []]
theorem YQ:∀(x:List Nat)(k:Nat)(B O:g_),(∀c∈x,c∈s)->∃Y Z,jS (iw d_ [3,4]) (eC C YW) (xp k (c1 x)) [a_ (a,d_),a_ (b,d_),a_ (sT s,d_),B,O]=a_ (.nx [a_ (a,d_),a_ (b,d_),a_ (sT s,d_),Y,Z])
 |[],k,B,O,_=>⟨B,O,rfl⟩
 |c::x,k,B,O,h=>by
   obtain⟨f,g,i⟩:=YQ x (k+1) (a_ (.int (k),d_)) (a_ (sT [c],d_)) λd hd=>h d (ki _ hd);refine⟨f,g,?_⟩;have e:bp C (.cmp .nin (.v 4) (.v 2)) (full [a_ (a,d_),a_ (b,d_),a_ (sT s,d_),a_ (.int (k),d_),a_ (sT [c],d_)])=a_ (.bl d_,d_):=gH rfl rfl (by rw[YD,decide_eq_true (h c jy)];rfl);exact (Gk (ρ1:=[a_ (a,d_),a_ (b,d_),a_ (sT s,d_),a_ (.int (k),d_),a_ (sT [c],d_)]) rfl (qp (by rw[Gx e rfl];rfl))).trans i
def Ib(ht:Iu t)(B:∀c∈x,c∈raw t)(hl:x.length<=1000):Cn D (n+3) 10 [tb t,sT x]=a_ (.non,d_):=by
 obtain⟨s,r,hs⟩:=HU ht;obtain⟨d,e,h⟩:=YQ (C:=Cn D (n+2)) (a:=tb t) (b:=sT x) x 0 b_ b_ λc hc=>(hs c).mpr (B c hc);refine We (ρ:=[a_ (tb t,d_),a_ (sT x,d_),a_ (sT s,d_),d,e]) rfl ?_;generalize Cn D (n+2)=C at r h ⊢;have s1:oE C (.set 2 (.call 1 [.v 0])) [a_ (tb t,d_),a_ (sT x,d_),b_,b_,b_]=a_ (.nx [a_ (tb t,d_),a_ (sT x,d_),a_ (sT s,d_),b_,b_]):=eo r rfl;refine (?_ : eC C (.set 2 (.call 1 [.v 0])::.loop d_ [3,4] (.enu (.v 1)) YW::[]) [a_ (tb t,d_),a_ (sT x,d_),b_,b_,b_]=_);rw[kK s1];exact qp h
def aaD:((aO 10).all λk=>qW (gZ .str [.int (k:Nat)]) (a_ (.str (T [48+k]),d_)) && decide (rL[k]?=a_ (48+k)))=c_:=by kernel_rfl
def xT(h:k<10):gZ .str [.int (k:Nat)]=a_ (.str (T [48+k]),d_)/\rL[k]?=a_ (48+k):=by
 have:=bF.mp aaD k (bq.mpr h);rw[aj]at this;exact⟨o5 this.1,of_decide_eq_true this.2⟩
def YE:gn .nin (sT [c]) (.lst (c1 l))=a_ (!decide (c∈l)):=by
 have hs:∀l:List Nat,eT 20 (c1 l)=c_:=λl=>by
  induction l with
  |nil=>rfl
  |cons a r b=>show(c_ && eT 20 (c1 r))=c_;rw[b];rfl
 show(if(c_ && eT 20 (c1 l))=c_ then a_ (!(c1 l).any λy=>oQ y (sT [c]))else b_)=_;rw[hs,qO,if_pos rfl]
 congr 2
 induction l with
 |nil=>rfl
 |cons a r b=>
   show((T [a] == T [c]) || (c1 r).any λy=>oQ y (sT [c]))=_;rw[b]
   grind
def uG(h:bp C a ρ=a_ (tI m,f)):bp C (.cmp .gt (.blt .len [a]) (.e_ 0)) ρ=a_ (.bl (!m.isEmpty),d_):=gH (j5 h (o9 m)) rfl (by
 cases m with
 |nil=>rfl
 |cons a r=>simp)
def Yf{t:Tb}(hf:f∈t.fs)(hc:c∈f.1):c∈raw t:=ai _ (Gf.mpr ⟨f,hf,hc⟩)
def Yd{t:Tb}(hf:f∈t.fs)(hc:c∈f.1)(B:t.m0.isEmpty=d_):c - 32∈raw t:=by
 refine az _ (ai _ ?_);unfold Mh;rw[B];exact bQ.mpr ⟨c,Gf.mpr ⟨f,hf,hc⟩,rfl⟩
def Ye{t:Tb}(hk:k<t.fg.length)(h:k<10):48+k∈raw t:=by
 refine az _ (az _ (ai _ ?_));have:=(xT h).2;exact pD.mpr ⟨k,by simp_all⟩
def Yg(t:Tb):32∈raw t:=az _ (az _ (az _ jy))
def sq(t:Tb)(b:Nat)(B:List Nat):Prop:=B≠[]/\B.length<=b/\∀c∈B,c∈raw t
abbrev W8(t:Tb)(B:List Nat)(z:g_):dG:=[a_ (tb t,d_),a_ (.lst (c1 B),c_),z]
def I27(t:Tb)(us:List Fm)(ρ:dG):Prop:=∃a z,ρ=W8 t a z/\sq t (11+2 * us.length) a
def Kb(h:sq t b ss)(hc:c∈raw t):sq t (b+1) (ss++[c]):=⟨by simp,by rw[ag];have:=h.2.1;exact bb this,λd hd=>by
 rcases ax.mp hd with q|q
 .exact h.2.2 d q
 simp_all⟩
def M3(B:List Nat)(c:Nat):c1 B++[sT [c]]=c1 (B++[c]):=by show _=Rn _ _;rw[dJ];rfl
def Td(ht:Iu t){us:List Fm}(hf:f∈t.fs)(O:us.length<=100)(h:I27 t us ρ):∃ρ1,iw c_ [2] (iO f) ρ=a_ ρ1/\Go C YV ρ1 λo=>∃B,o=.nx B/\I27 t (us++[f]) B:=by
 obtain⟨a,z,rfl,hs⟩:=h;refine⟨_,rfl,?_⟩;have g:=ht.ho f hf;have hlen:=hs.2.1;have fin:∀ss',sq t (11+2 * us.length+2) ss'->∃B,Out.nx (W8 t ss' (a_ (iO f,d_)))=.nx B/\I27 t (us++[f]) B:=λss' h=>⟨_,rfl,ss',_,rfl,h.1,by rw[ag];have:=h.2.1;omega,h.2.2⟩
 have l:bp C (.cmp .eq (.blt .len [.ix (.v 2) (.e_ 0)]) (.e_ 1)) (full (W8 t a (a_ (iO f,d_))))=a_ (.bl (decide (f.1.length=1)),d_):=gH (j5 rfl (len_T (aa g.ll br))) rfl (by
  show a_ (decide (((f.1.length):Int)=1))=_
  rw[decide_eq_decide.mpr (show((f.1.length):Int)=1↔f.1.length=1 by omega)])
 by_cases h1:f.1.length=1
 .obtain⟨c,hc⟩:∃c,f.1=[c]:=by
   match q:f.1,h1 with
   |[c],_=>exact⟨c,rfl⟩
  have e:c∈f.1:=by simp_all
  have j:bp C (.and (.cmp .eq (.blt .len [.ix (.v 2) (.e_ 0)]) (.e_ 1)) (.cmp .nin (.ix (.v 2) (.e_ 0)) (.v 1))) (full (W8 t a (a_ (iO f,d_))))=a_ (.bl (!decide (c∈a)),d_):=by
   rw[jc l,decide_eq_true h1];exact (gH rfl rfl (by rw[hc,YE]))
  refine kD j (λ_=>?_) (λ_=>bR (fin a ⟨hs.1,C7 hlen,hs.2.2⟩)) λρ' h=>bR ⟨_,rfl,h⟩;refine tm (P:=(·= sT [c])) ⟨sT f.1,d_,rfl,rfl,by rw[hc]⟩ rfl (by rw[aw];exact pY hlen O O) λd hd=>?_;rw[hd,M3];have b:=Kb hs (Yf hf e);refine kD (uG rfl) (λq=>?_) (λ_=>bR (fin _ ⟨b.1,cc b.2.1,b.2.2⟩)) λρ' h=>bR ⟨_,rfl,h⟩;refine tm (P:=(·= sT [c - 32])) ⟨sT [c - 32],d_,?_,rfl,rfl⟩ rfl (by rw[aw,ag];show _+1<_;exact pY hlen O O) λd hd=>?_
  .show iE .upper (sT f.1) []=_;rw[hc];exact (uw (λd hd=>by rw[aE.mp hd];exact g.low c e) (by simp))
  .rw[hd,M3];exact bR (fin _ (Kb b (Yd hf e (by simpa using q))))
 .have j:bp C (.and (.cmp .eq (.blt .len [.ix (.v 2) (.e_ 0)]) (.e_ 1)) (.cmp .nin (.ix (.v 2) (.e_ 0)) (.v 1))) (full (W8 t a (a_ (iO f,d_))))=a_ (.bl d_,d_):=by
   rw[jc l,decide_eq_false h1];rfl
  exact kD j (λq=>absurd q br) (λ_=>bR (fin a ⟨hs.1,C7 hlen,hs.2.2⟩)) λρ' h=>bR ⟨_,rfl,h⟩
def DC(ht:Iu t):∃B,Cn D (n+1) 29 [tb t]=a_ (.lst (c1 B),c_)/\sq t 40 B:=by
 suffices h:Go (Cn D n) b29 [a_ (tb t,d_),b_,b_] λo=>∃B,o=.rt (.lst (c1 B)) c_/\sq t 40 B by
  obtain⟨_,h1,B,rfl,h2⟩:=h;exact⟨B,fE rfl h1,h2⟩
 generalize Cn D n=C;have a:=ht.hf
 obtain⟨fs,e,l,h1,_⟩:=pO (ρ:=full [a_ (tb t,d_),b_,b_]) (it:=.rng [.blt .len [.ix (.v 0) (.e_ 2)]]) (elt:=.blt .str [.v 0]) (λc=>sT [c]) (λ(_)c=>c∈raw t) (vX (o9 t.fg) (aa a br)) (by grind) (λ_=>rfl) λk hk=>by
  have hk:=bq.mp hk;exact⟨48+k,d_,(xT (aa hk a)).1,Ye hk (aa hk a)⟩
 rw[bo]at l;refine fI (ds:=c1 (32::fs)) ?_ ?_
 .show bB (bp C (.comp 1 c_ [] (.rng [.blt .len [.ix (.v 0) (.e_ 2)]]) [] (.blt .str [.v 0])) (full [a_ (tb t,d_),b_,b_])) _=_;rw[e];show(if 1+(fs.map λc=>sT [c]).length<=aB then _ else b_)=_;rw[if_pos (by rw[aw,iP];exact jJ (ae l) a)];rfl
 .refine jU (I:=I27 t) (k9 rfl rfl (by show(kC (t.fs.map iO) || d_)=c_;rw[mV];rfl)) ⟨32::fs,_,rfl,by simp,by simp;simp_all,λc hc=>?_⟩ (λus f vs ρ q h=>Td ht (by rw[q];simp) (by have:=ht.hl;grind) h) λρ' h=>?_
  .rcases au.mp hc with rfl|hc
   .exact Yg t
   simp_all
  .obtain⟨B,z,rfl,hs⟩:=h;exact⟨_,rfl,B,rfl,hs.1,by have:=hs.2.1;have:=ht.hl;omega,hs.2.2⟩
def Ks{ns:List Int}(ht:Iu t)(B:m<=100):∃x b,Cn D (n+3) 30 [.lst (ns.map Dat.int),tb t,.int (m:Nat)]=a_ (sT x,b)/\x.length=m/\∀c∈x,c∈raw t:=by
 have hd:Dw (Cn D (n+2)) (.lst (ns.map Dat.int)):=dw;refine ac λ_ y=>?_;obtain⟨g,r,h0,hl,hs⟩:=DC (n:=n+1) ht
 refine y ?_;suffices h:Go (Cn D (n+2)) b30 [a_ (.lst (ns.map Dat.int),d_),a_ (tb t,d_),a_ (.int (m),d_),b_] λo=>∃x b,o=.rt (sT x) b/\x.length=m/\∀c∈x,c∈raw t by
  obtain⟨_,h1,x,b,rfl,h2⟩:=h;exact⟨x,b,fE rfl h1,h2⟩
 generalize Dat.lst (ns.map Dat.int)=N at hd ⊢;have j :=cT.mpr h0;refine fI r ?_
 have hi:∀l:List Nat,kC (c1 l)=c_:=λl=>by
  induction l with
  |nil=>rfl
  |cons a r s=>show(c_ && kC (c1 r))=c_;rw[s];rfl
 refine fI (ds:=c1 (g++g.drop 1)) ?_ ?_
 .have e1:Dt (.lst (c1 g)) (a_ 1) b_=a_ (.lst (c1 (g.drop 1)),c_):=by
   show a_ (Dat.lst (cutD (c1 g) (a_ 1) b_),kC (cutD (c1 g) (a_ 1) b_))=_;rw[GV (by simp) (by rw[aw];exact eU.mpr j)];show a_ (Dat.lst ((c1 g).drop 1),kC ((c1 g).drop 1))=_;rw[List.map_drop.symm,hi]
  refine g7 rfl (OC rfl rfl e1) ?_;rw[om (by grind),dJ.symm,hi]
 .have h2:∀c∈g++g.drop 1,c∈raw t:=λc hc=>by
   grind
  have h3:0<(g++g.drop 1).length:=by rw[ag];exact NT _ j
  generalize g++g.drop 1=s2 at h2 h3 ⊢;have k:gZ .len [.lst (c1 s2)]=a_ (.int (s2.length),d_):=by simp
  refine ac λ_ y=>?_;obtain⟨d,f,e,_,W,rfl,u,p⟩:=Si (ρ:=full [a_ (N,d_),a_ (tb t,d_),a_ (.int (m),d_),a_ (.lst (c1 s2),c_)]) (e:=.v 2) (caps:=[0,3]) (elt:=.ix (.v 2) (.call 19 [.v 1,.bin .add (.e_ 31) (.v 0),.e_ 35023,.blt .len [.v 2]])) (r:=(·= m)) ⟨m,_,rfl,rfl⟩ (λm h=>(aa (ae h) (aa B br))) λw h i hi=>Mv rfl (gY hd rfl (lZ rfl rfl) rfl (by exact k) (by omega) br (pE.mpr h3) λq h=>by omega) h2;refine y ?_;exact jT e ⟨W,f,rfl,u,p⟩
end K31E
namespace M
open PySem L2
open Builtin Builtin.Str
def L9{p q n:Nat}:strSliceIndices (a_ (p:Int)) (a_ (q:Int)) 1 n=strSliceIndices (a_ (p:Int)) (a_ ((min q n:Nat):Int)) 1 n:=by
 have h2:¬((q:Int)<0):=by simp
 have h3:¬(((min q n:Nat):Int)<0):=by simp
 have e:max (0:Int) (min (q) (n))=max 0 (min ((min q n:Nat):Int) (n)):=by omega
 simp only[strSliceIndices,h2,h3,if_false,e,show((1:Int) > 0)=True by simp,if_true]
set_option tactic.hygienic true in
def qU{x:List Nat}(h1:p<=q)(h2:q<=x.length)(h:strSliceIndices l u 1 x.length=strSliceIndices (a_ (p:Int)) (a_ (q:Int)) 1 x.length):bY (T x) l u=T ((x.drop p).take (q - p)):=by
 have e:=PySem.StrLaws.sliced_plain (T x) h1 (by exact h2);rw[rP]at e;unfold bY;rw[rP,h,e,PySem.StrLaws.strSliceIndices_plain h1 h2];split
 .rename_i z;simp at z;have hp:p=0:=aC (pY (ws h1) h2 (ae z.symm)) (lw0);subst hp;rw[z,Rq,Nm]
 .rfl
def Kg{x:List Nat}(hp:p<=x.length)(B:p<=q):bY (T x) (a_ (p:Int)) (a_ (q:Int))=T ((x.drop p).take (q - p)):=by
 rw[qU (by omega) (hJ _ _) L9]
 congr 1
 by_cases h:q<=x.length
 .rw[(eB h)]
 .rw[dP (by rw[dh];exact pY (ad hp) (a1 q x.length (gm (Nat.lt_of_not_le h))) (ay (Min.min q x.length) p)),dP (by rw[dh];exact Nat.sub_le_sub_right (aD (cB h)) _)]
def OA:bY (T (c::r)) b_ (a_ 1)=T [c]:=by
 rw[qU (p:=0) (q:=1) (by simp) (by simp)]
 .rfl
 .rfl
end M
namespace K31E
open PySem L2 M K31
def gX(t:Tb)(f:Fm)(w:Nat×be×be):List Ed:=IT f w++(if t.m0.isEmpty=c_ then []else(IT f w).map (Nz t.m0))
abbrev W4:List (Nat×be):=[(119,iY),(98,pB),(109,pB),(101,iY)]
def hit(b:be)(w:Nat×be):Bool:=decide (w.1∈[119,98]) == !(b == pB)
def hX(t:Tb)(f:Fm)(b:be)(w:Nat×be):List Ed:=if hit b w=c_ then gX t f (w.1,b,w.2)else []
abbrev w2D(w:Nat×be):Dat:=.tup [sT [w.1],.str w.2]
abbrev CQ(t:Tb)(f:Fm)(B:g_)(es:List Ed)(Z O Y:g_):dG:=[a_ (tb t,d_),a_ (iO f,d_),a_ (sT f.1,d_),a_ (tI f.2.1,d_),a_ (sT f.2.2,d_),a_ (tI t.m0,d_),a_ (tI t.m1,d_),B,a_ (.lst (es.map cx),c_),Z,O,Y]
set_option tactic.hygienic true in
def V7(ho:Ee f)(h:bp C a ρ=a_ (sT f.1,g)):bp C (.bin .add (.iF .upper (.sl a b_ (a_ (.e_ 1))) []) (.sl a (a_ (.e_ 1)) b_)) ρ=a_ (sT (Mg f.1),d_):=by
 refine ac λ_ e=>?_;obtain⟨c0,d,_,h2,h3,b⟩:=BO ho
 refine e ?_;have h1:Dt (sT f.1) b_ (a_ 1)=a_ (sT [c0],d_):=by
  show(if(T f.1).length<=aB then a_ (Dat.str (bY (T f.1) b_ (a_ 1)),d_)else b_)=_;rw[if_pos (by exact aa ho.ll br)]
  obtain⟨c,r,hc⟩:∃c r,f.1=c::r:=by
   cases q:f.1 with
   |nil=>exact absurd q ho.ne
   |cons c r=>exact⟨c,r,rfl⟩
  rename_i q;rw[hc]at q ⊢;rw[OA];have:=VX (l:=c::r) (i:=0) (by rw[<-hc];exact aa ho.ll br) (by simp);rw[show((0:Nat):Int)=0 from rfl]at this;rw[this]at q;exact congrArg (λz=>a_ (z,d_)) (bG q)
 exact g7 (Vu (Kk h rfl h1) h2) (OC h rfl h3) b
def R9(q:(decide (w.1∈f.2.2) && hit b w)=d_):hX t f b w=[]:=by
 unfold hX gX IT;by_cases h:hit b w=c_
 .simp_all
 .rw[if_neg h]
def R8(q:(decide (w.1∈f.2.2) && hit b w)=c_):hX t f b w=[(b,f.1,f.2.1,w.2)]++(if t.m0.isEmpty=c_ then []else [(b,Mg f.1,t.m0++f.2.1,w.2)]):=by
 rw[aj]at q;unfold hX gX IT;rw[if_pos q.2,if_pos q.1];rfl
def Ea(t:Tb)(f:Fm)(b:be)(w:Nat×be):(hX t f b w).length<=2:=by
 cases q:(decide (w.1∈f.2.2) && hit b w)with
 |false=>rw[R9 q];exact aM _
 |true=>
   rw[R8 q];cases t.m0.isEmpty
   .exact ao 2
   .exact wC 1
section
variable{t:Tb}{f:Fm}(ht:Iu t)(ho:Ee f)
include ht ho
def WK{es:List Ed}(hl:es.length<900):Go C V4 (CQ t f B es (a_ (.str b,d_)) (a_ (sT [w.1],d_)) (a_ (.str w.2,d_))) λo=>∃O,o=.nx O/\O=CQ t f B (es++hX t f b w) (a_ (.str b,d_)) (a_ (sT [w.1],d_)) (a_ (.str w.2,d_)):=by
 have i:bp C (.cmp .eq (.cmp .isin (.v 10) (.f_ "wb")) (.cmp .ne (.v 9) (.f_ "in"))) (full (CQ t f B es (a_ (.str b,d_)) (a_ (sT [w.1],d_)) (a_ (.str w.2,d_))))=a_ (.bl (hit b w),d_):=by
  exact gH (gH rfl rfl qr) (gH rfl rfl rfl) rfl
 have j:bp C (.and (.cmp .isin (.v 10) (.v 4)) (.cmp .eq (.cmp .isin (.v 10) (.f_ "wb")) (.cmp .ne (.v 9) (.f_ "in")))) (full (CQ t f B es (a_ (.str b,d_)) (a_ (sT [w.1],d_)) (a_ (.str w.2,d_))))=a_ (.bl (decide (w.1∈f.2.2) && hit b w),d_):=by
  rw[jc (gH rfl rfl qr),i];cases decide (w.1∈f.2.2)<;>rfl
 refine kD j (λq=>?_) (λq=>bR ⟨_,rfl,by rw[R9 q,aH]⟩) λρ' h=>bR ⟨_,rfl,h⟩;rw[R8 q,<-aJ];refine oD (e:=(b,f.1,f.2.1,w.2)) (lr rfl rfl rfl rfl) rfl (aa hl br) ?_;refine (?_ : Go C _ (CQ t f B (es++[(b,f.1,f.2.1,w.2)]) (a_ (.str b,d_)) (a_ (sT [w.1],d_)) (a_ (.str w.2,d_))) _);refine kD (uG rfl) (λc=>?_) (λc=>bR ⟨_,rfl,?_⟩) λρ' h=>bR ⟨_,rfl,h⟩
 .refine oD (e:=(b,Mg f.1,t.m0++f.2.1,w.2)) (lr rfl (V7 ho rfl) (px _ _ (by have:=ht.h0;have:=ho.cl;omega)) rfl) rfl (by rw[ag];exact aq hl br) (bR ⟨_,rfl,?_⟩);have d:t.m0.isEmpty=d_:=by simpa using c
  rw[d];rfl
 .have d:t.m0.isEmpty=c_:=by simpa using c
  rw[d,if_pos rfl,aH]
end
abbrev bs(t:Tb):List be:=if t.fg.isEmpty=c_ then [lu]else [lu,j3]
abbrev A2(t:Tb)(f:Fm)(b:be):List Ed:=rH t.m1 f (119,b,iY)++rH t.m1 f (98,b,ua)
abbrev V2:List (Nat×be):=[(109,ua),(101,iY)]
abbrev A3(t:Tb)(f:Fm)(w:Nat×be):List Ed:=rH t.m1 f (w.1,ua,w.2)
abbrev F1(t:Tb)(f:Fm):List Ed:=(bs t++[pB]).flatMap λb=>W4.flatMap (hX t f b)
abbrev rq(t:Tb)(f:Fm):List Ed:=F1 t f++(if t.m1.isEmpty=c_ then []else(bs t).flatMap (A2 t f)++V2.flatMap (A3 t f))
def EE(t:Tb):(bs t).length<=2:=by
 show(if t.fg.isEmpty=c_ then [lu]else [lu,j3]).length<=2;split<;>decide
def Nh(t:Tb)(f:Fm):(F1 t f).length<=24:=by
 have h:=fU (l:=bs t++[pB]) λb _=>fU (l:=W4) λw _=>Ea t f b w;have h2:=EE t;rw[ag]at h;have h:(F1 t f).length<=8 * ((bs t).length+1):=h;omega
def Mo{es:List Ed}(h:bp C c (full ρ)=a_ (.bl (bg f w),f'))(B:Ev C x (full ρ) (·= cx (w.2.1,uT f.1,(if(w.2.1 == ua)=c_ then []else m)++f.2.1,w.2.2)))(hi:(ρ[i]?).join=a_ (.lst (es.map cx),c_))(O:ρ.set i (a_ (.lst (es.map cx),c_))=ρ)(hl:es.length<1000)(k:Go C ss (ρ.set i (a_ (.lst ((es++rH m f w).map cx),c_))) Q):Go C (.ifs c [.mut .app i [x]] []::ss) ρ Q:=by
 refine kD (J:=λρ'=>ρ'=ρ.set i (a_ (.lst ((es++rH m f w).map cx),c_))) h (λq=>?_) (λq=>bR ⟨_,rfl,?_⟩) λρ' e=>by rw[e];exact k
 .unfold rH;rw[if_pos q];exact oD B hi hl (bR ⟨_,rfl,rfl⟩)
 .unfold rH;rw[if_neg (by rw[q];decide),aH,O]
def Uv(ht:Iu t)(ho:Ee f):Cn D (n+1) 27 [tb t,iO f]=a_ (.lst ((rq t f).map cx),c_):=by
 suffices h:Go (Cn D n) b27 [a_ (tb t,d_),a_ (iO f,d_),b_,b_,b_,b_,b_,b_,b_,b_,b_,b_] λo=>o=.rt (.lst ((rq t f).map cx)) c_ by
  obtain⟨_,h1,rfl⟩:=h;exact fE rfl h1
 generalize Cn D n=C;have E:=Nh t f;have hb:=EE t;have s:=JS ho;show Go C (.Xz [2,3,4] (.v 1)::.set 5 (.ix (.ix (.v 0) (.e_ 1)) (.e_ 0))::.set 6 (.ix (.ix (.v 0) (.e_ 1)) (.e_ 1))::.set 7 (.sl (.lst [.con (.str lu),.con (.str j3)]) b_ (a_ (.bin .add (.e_ 1) (.blt .int [.cmp .gt (.blt .len [.ix (.v 0) (.e_ 2)]) (.e_ 0)]))))::.set 8 (.lst [])::.loop c_ [9] (.itv (.bin .add (.v 7) (.lst [.con (.str pB)]))) [.loop d_ [10,11] (.itv (.lst [.tup [.f_ "w",.con (.str iY)],.tup [.f_ "b",.con (.str pB)],.tup [.f_ "m",.con (.str pB)],.tup [.f_ "e",.con (.str iY)]])) V4]::.ifs (.cmp .eq (.blt .len [.v 6]) (.e_ 0)) [.oI 8] []::.loop c_ [9] (.itv (.v 7)) VU::.loop d_ [10,11] (.itv (.lst [.tup [.f_ "m",.con (.str ua)],.tup [.f_ "e",.con (.str iY)]])) YZ::.oI 8::[]) _ _
 have L:oE C (.Xz [2,3,4] (.v 1)) [a_ (tb t,d_),a_ (iO f,d_),b_,b_,b_,b_,b_,b_,b_,b_,b_,b_]=a_ (.nx [a_ (tb t,d_),a_ (iO f,d_),a_ (sT f.1,d_),a_ (tI f.2.1,d_),a_ (sT f.2.2,d_),b_,b_,b_,b_,b_,b_,b_]):=by
  show bB (if(im (iO f) || d_)=c_ then _ else _) _=_;rw[Gw];rfl
 refine cF L (cF (eo rfl (mr _)) (cF (eo rfl (mr _)) ?_))
 have M:bp C (.sl (.lst [.con (.str lu),.con (.str j3)]) b_ (a_ (.bin .add (.e_ 1) (.blt .int [.cmp .gt (.blt .len [.ix (.v 0) (.e_ 2)]) (.e_ 0)])))) (full [a_ (tb t,d_),a_ (iO f,d_),a_ (sT f.1,d_),a_ (tI f.2.1,d_),a_ (sT f.2.2,d_),a_ (tI t.m0,d_),a_ (tI t.m1,d_),b_,b_,b_,b_,b_])=a_ (.lst ((bs t).map Dat.str),c_):=by
  have x:=uG (C:=C) (ρ:=full [a_ (tb t,d_),a_ (iO f,d_),a_ (sT f.1,d_),a_ (tI f.2.1,d_),a_ (sT f.2.2,d_),a_ (tI t.m0,d_),a_ (tI t.m1,d_),b_,b_,b_,b_,b_]) (a:=.ix (.v 0) (.e_ 2)) rfl;unfold bs;revert x;cases t.fg.isEmpty
  .intro x;exact Kk rfl (g7 rfl (j5 x rfl) rfl) rfl
  .intro x;exact Kk rfl (g7 rfl (j5 x rfl) rfl) rfl
 refine fI M (fI rfl ?_);refine jU (I:=λus ρ=>∃k c i,ρ=CQ t f (a_ (.lst ((bs t).map Dat.str),c_)) (us.flatMap λb=>W4.flatMap (hX t f b)) k c i) (k9 (d:=.lst ((bs t++[pB]).map Dat.str)) ?_ rfl rfl) ⟨b_,b_,b_,rfl⟩ ?_ ?_
 .unfold bs;cases t.fg.isEmpty<;>rfl
 .rintro us b vs _ A ⟨k,c,i,rfl⟩
  have u:us.length<=3:=by
   have:=congrArg fA A;simp only[ag,bx,jH]at this;exact jJ (ae this.symm) hb
  have j:=fU (m:=8) (l:=us) λb _=>fU (l:=W4) λw _=>Ea t f b w;refine⟨_,rfl,?_⟩;rw[cu];generalize (us.flatMap λb=>W4.flatMap (hX t f b))=pre at j ⊢;refine jU (I:=λws ρ=>∃c i,ρ=CQ t f (a_ (.lst ((bs t).map Dat.str),c_)) (pre++ws.flatMap (hX t f b)) (a_ (.str b,d_)) c i) (k9 (d:=.lst (W4.map w2D)) rfl rfl rfl) ⟨c,i,by rw[fj,aH];rfl⟩ ?_ ?_
  .rintro ws w vs _ B ⟨c,i,rfl⟩
   have y:ws.length<=4:=by
    have:=congrArg fA B;simp only[ag,bx,jH]at this;exact aa (aW _ _) (ae this.symm)
   have h2:=fU (l:=ws) λw _=>Ea t f b w;refine⟨_,rfl,?_⟩;obtain⟨o,e1,N,rfl,rfl⟩:=WK (es:=pre++ws.flatMap (hX t f b)) ht ho (by rw[ag];exact Nx j h2 (Nat.mul_le_mul_left 8 u) (Nat.mul_le_mul_left 2 y));exact⟨_,e1,_,rfl,_,_,by rw[cu,aJ,cW]⟩
  .rintro _ ⟨c,i,rfl⟩;exact bR ⟨_,rfl,_,_,_,by rw[cW]⟩
 rintro _ ⟨k,c,i,rfl⟩
 have hc:bp C (.cmp .eq (.blt .len [.v 6]) (.e_ 0)) (full (CQ t f (a_ (.lst ((bs t).map Dat.str),c_)) (F1 t f) k c i))=a_ (.bl t.m1.isEmpty,d_):=gH (j5 rfl (o9 t.m1)) rfl (by
  cases t.m1 with
  |nil=>rfl
  |cons a r=>rfl)
 refine (?_ : Go C _ (CQ t f (a_ (.lst ((bs t).map Dat.str),c_)) (F1 t f) k c i) λo=>o=.rt (.lst ((F1 t f++(if t.m1.isEmpty=c_ then []else(bs t).flatMap (A2 t f)++V2.flatMap (A3 t f))).map cx)) c_);generalize F1 t f=G at E hc ⊢
 cases q:t.m1.isEmpty with
 |true=>
   rw[q]at hc;refine Mi hc rfl ?_;rw[if_pos rfl,aH]
 |false=>
   rw[q]at hc;refine lX hc ?_;rw[if_neg br];refine jU (ρ0:=CQ t f (a_ (.lst ((bs t).map Dat.str),d_)) G k c i) (I:=λus ρ=>∃k c i,ρ=CQ t f (a_ (.lst ((bs t).map Dat.str),d_)) (G++us.flatMap (A2 t f)) k c i) (by rfl) ⟨k,c,i,by rw[fj,aH]⟩ ?_ ?_
   .rintro us b vs _ A ⟨k,c,i,rfl⟩
    have z:(b == ua)=d_:=by
     have:b∈bs t:=by rw[A];simp
     unfold bs at this;revert this;cases t.fg.isEmpty
     .intro h
      rcases au.mp h with rfl|h
      .decide
      .rw[aE.mp h];decide
     .intro h;rw[aE.mp h];decide
    have u:us.length<=2:=by
     have:=congrArg fA A;rw[ag]at this;exact jJ (ae this.symm) hb
    have j:=fU (g:=A2 t f) (m:=2) (l:=us) λb _=>by
     have h1:=lY (m:=t.m1) (f:=f) (w:=(119,b,iY));have h2:=lY (m:=t.m1) (f:=f) (w:=(98,b,ua));rw[ag];exact aa (dA h1 h2) br
    refine⟨_,rfl,?_⟩;rw[cu,cW];have hl:(G++us.flatMap (A2 t f)).length<=100:=by rw[ag];exact Nx E j u u
    rw[show G++(us.flatMap (A2 t f)++A2 t f b)=(G++us.flatMap (A2 t f))++rH t.m1 f (119,b,iY)++rH t.m1 f (98,b,ua) by simp[A2]];generalize G++us.flatMap (A2 t f)=H at hl ⊢;have F:=lY (m:=t.m1) (f:=f) (w:=(119,b,iY));have p:=px t.m1 f.2.1 (by have:=ht.h1;have:=ho.cl;omega);unfold VU;rw[PW,PB];refine Mo (f':=d_) ?_ (lr rfl s (by rw[z];exact p) rfl) rfl rfl (aq hl br) (Mo (f':=d_) ?_ (lr rfl s (by rw[z];exact p) rfl) rfl rfl (by rw[ag];exact jJ hl F) (bR ⟨_,rfl,_,_,_,rfl⟩))
    .have O:bp C (.cmp .isin (.con (.str (T [119]))) (.v 4)) (full (CQ t f (a_ (.lst ((bs t).map Dat.str),d_)) H (a_ (.str b,d_)) c i))=a_ (.bl (decide (119∈f.2.2)),d_):=gH rfl rfl qr;have P:bp C (.cmp .gt (.blt .len [.v 2]) (.e_ 1)) (full (CQ t f (a_ (.lst ((bs t).map Dat.str),d_)) H (a_ (.str b,d_)) c i))=a_ (.bl (decide (1<(f.1.length:Int))),d_):=gH (j5 rfl (len_T (aa ho.ll br))) rfl rfl;show bp C (.and _ _) (full (CQ t f (a_ (.lst ((bs t).map Dat.str),d_)) H (a_ (.str b,d_)) c i))=_;rw[jc O,P];unfold bg;cases decide ((119,b,iY).1∈f.2.2)<;>rfl
    .refine gH rfl rfl ?_;rw[qr];show _=a_ (decide (98∈f.2.2) && c_);rw[iM]
   rintro _ ⟨k,c,i,rfl⟩
   have j:=fU (g:=A2 t f) (m:=2) (l:=bs t) λb _=>by
    have h1:=lY (m:=t.m1) (f:=f) (w:=(119,b,iY));have h2:=lY (m:=t.m1) (f:=f) (w:=(98,b,ua));rw[ag];exact aa (dA h1 h2) br
   have hl:(G++(bs t).flatMap (A2 t f)).length<=100:=by rw[ag];exact Nx E j hb hb
   rw[<-aJ];generalize G++(bs t).flatMap (A2 t f)=H at hl ⊢;refine jU (I:=λws ρ=>∃c i,ρ=CQ t f (a_ (.lst ((bs t).map Dat.str),d_)) (H++ws.flatMap (A3 t f)) k c i) (k9 (d:=.lst (V2.map w2D)) rfl rfl rfl) ⟨c,i,by rw[fj,aH]⟩ ?_ ?_
   .rintro ws w vs _ B ⟨c,i,rfl⟩
    have J:w=(109,ua)\/w=(101,iY):=by
     have:w∈V2:=by rw[B];simp
     simpa using this
    have y:ws.length<=2:=by
     have:=congrArg fA B;simp only[ag,bx,jH]at this;exact aa (aW _ _) (ae this.symm)
    have h2:=fU (g:=A3 t f) (l:=ws) λw _=>lY;have K:(H++ws.flatMap (A3 t f)).length<1000:=by rw[ag];exact pY hl h2 y
    refine⟨_,rfl,?_⟩;rw[cu,cW,<-aJ];refine Mo (f':=d_) ?_ (lr rfl s rfl rfl) rfl rfl K (bR ⟨_,rfl,_,_,rfl⟩);refine gH rfl rfl ?_;rw[qr]
    rcases J with rfl|rfl<;>exact congrArg a_ (iM _).symm
   .rintro _ ⟨c,i,rfl⟩;exact⟨_,rfl,rfl⟩
abbrev dg(t:Tb)(k:Nat):List Ed:=pF t (48+k,t.fg.getD k 0)
abbrev LE(t:Tb):List Ed:=G7++(aO t.fg.length).flatMap (dg t)++(if t.fg.isEmpty=c_ then []else [(lI,[],t.m3,j3)])++t.fs.flatMap (rq t)
abbrev W9(t:Tb)(es:List Ed)(B O Y:g_):dG:=[a_ (tb t,d_),a_ (Nw t,d_),a_ (.lst (es.map cx),c_),B,O,Y]
def vN(t:Tb)(f:Fm):(rq t f).length<=30:=by
 have h1:=Nh t f;have h2:=EE t
 have h3:=fU (g:=A2 t f) (m:=2) (l:=bs t) λb _=>by
  rw[ag];exact aa (dA (lY (m:=t.m1) (f:=f) (w:=(119,b,iY))) (lY (m:=t.m1) (f:=f) (w:=(98,b,ua)))) br
 have e:V2.length=2:=rfl;have h5:(if t.m1.isEmpty=c_ then []else(bs t).flatMap (A2 t f)++V2.flatMap (A3 t f)).length<=6:=ite_le (aM _) (by exact Nx h3 (fU (g:=A3 t f) (l:=V2) λw _=>lY) (Nat.mul_le_mul_left 2 h2) (Nat.le_of_eq e));rw[ag];exact aa (dA h1 h5) br
def Te(ht:Iu t){es:List Ed}(hk:k<t.fg.length)(hl:es.length<900):∃ρ1,iw c_ [3] (.int (k:Nat)) (W9 t es Y Z O)=a_ ρ1/\Go C VI ρ1 λo=>∃B,o=.nx B/\∃Y Z O,B=W9 t (es++dg t k) Y Z O:=by
 refine⟨_,rfl,?_⟩;obtain⟨c,hc⟩:∃c,c=t.fg.getD k 0:=⟨_,rfl⟩
 have g:tU (tI t.fg) (.int (k))=a_ (.int c):=by
  show qH _ (k)=_;rw[jX (by rw[aP,af hk];rfl),hc];simp[hk]
 have e1:∀{ρ:dG},(ρ[0]?).join=a_ (tb t,d_)->(ρ[3]?).join=a_ (.int (k),d_)->bp C (.ix (.ix (.v 0) (.e_ 2)) (.v 3)) (full ρ)=a_ (.int c,d_):=λ{ρ}a b=>by
  have i:bp C (.v 0) (full ρ)=a_ (tb t,d_):=by
   cases h:ρ[0]? with
   |none=>rw[h]at a;cases a
   |some o=>rw[h]at a;rw[mW,full,aP,h];rw[show o=a_ (tb t,d_)from a];rfl
  have j:bp C (.v 3) (full ρ)=a_ (.int (k),d_):=by
   cases h:ρ[3]? with
   |none=>rw[h]at b;cases b
   |some o=>rw[h]at b;rw[mW,full,aP,h];rw[show o=a_ (.int (k),d_)from b];rfl
  exact BD (BD i rfl rfl) j g
 have st:=(xT (aa hk ht.hf)).1;have f:=px t.m2 [c] (by exact aq ht.h2 br);unfold VI dg;rw[<-hc];refine oi (P:=(·= tI [c])) ⟨tI [c],_,by rw[Ek,gW,e1 rfl rfl];rfl,rfl,rfl⟩ λd hd=>?_;rw[hd];refine oD (e:=(lu,[48+k],t.m2++[c],lI)) (lr rfl st f rfl) rfl (aa hl br) ?_;refine oD (e:=(iY,[48+k],t.m2++[c],lI)) (lr rfl st f rfl) rfl (by rw[ag];exact aq hl br) ?_;refine oD (e:=(lI,[48+k],[c],lI)) (lr rfl st rfl rfl) rfl (by rw[ag,ag];exact bb (aq hl br)) (bR ⟨_,rfl,a_ (.int (k),d_),a_ (tI [c],d_),O,?_⟩);rw[aJ,aJ];rfl
def Uu(ht:Iu t):Cn D (n+2) 28 [tb t]=a_ (.lst ((LE t).map cx),c_):=by
 have u:∀f∈t.fs,Cn D (n+1) 27 [tb t,iO f]=a_ (.lst ((rq t f).map cx),c_):=λf hf=>Uv ht (ht.ho f hf)
 suffices h:Go (Cn D (n+1)) b28 [a_ (tb t,d_),b_,b_,b_,b_,b_] λo=>o=.rt (.lst ((LE t).map cx)) c_ by
  obtain⟨_,h1,rfl⟩:=h;exact fE rfl h1
 generalize Cn D (n+1)=C at u ⊢;have hf:=ht.hf;have j:=ht.hl;refine cF (eo rfl (D6 t)) (fI rfl ?_);refine Ec (I:=λus ρ=>∃c d b,ρ=W9 t (G7++us.flatMap (dg t)) c d b) (P:=(·= t.fg.length)) ⟨t.fg.length,d_,o9 t.fg,rfl⟩ (λm h=>(aa (ae h) (aa hf br))) ⟨b_,b_,b_,rfl⟩ ?_ ?_
 .rintro m rfl us k vs _ p ⟨c,d,b,rfl⟩;have w:=vn p;refine ac λ_ K=>?_;obtain⟨ρ1,x,o,y,z,rfl,A,B,E,rfl⟩:=Te ht (es:=G7++us.flatMap (dg t)) w.2 (by rw[ag];show 3+_<_;exact pY (fU (g:=dg t) (l:=us) λk _=>ao 3) (Nat.mul_le_mul_left 3 w.1) (Nat.mul_le_mul_left 3 hf));refine K ?_;refine⟨ρ1,x,_,y,_,rfl,A,B,E,?_⟩;rw[cu,<-aJ,cW]
 rintro m rfl _ ⟨c,d,b,rfl⟩;have a:=fU (g:=dg t) (l:=aO t.fg.length) λk _=>ao 3;have i:(G7++(aO t.fg.length).flatMap (dg t)).length<=40:=by rw[ag];show 3+_<=_;exact Nx a hf hf hf
 refine (?_ : Go C _ _ λo=>o=.rt (.lst ((G7++(aO t.fg.length).flatMap (dg t)++(if t.fg.isEmpty=c_ then []else [(lI,[],t.m3,j3)])++t.fs.flatMap (rq t)).map cx)) c_);generalize G7++(aO t.fg.length).flatMap (dg t)=H at i ⊢;refine kD (J:=λρ=>ρ=W9 t (H++if t.fg.isEmpty=c_ then []else [(lI,[],t.m3,j3)]) c d b) (uG rfl) (λq=>?_) (λq=>bR ⟨_,rfl,?_⟩) ?_
 .refine oD (e:=(lI,[],t.m3,j3)) (lr rfl rfl rfl rfl) rfl (aq i br) (bR ⟨_,rfl,?_⟩);have r:t.fg.isEmpty=d_:=by simpa using q
  rw[r];rfl
 .have r:t.fg.isEmpty=c_:=by simpa using q
  rw[r,if_pos rfl,aH]
 .rintro _ rfl
  have s:(H++if t.fg.isEmpty=c_ then []else [(lI,[],t.m3,j3)]).length<=41:=by
   rw[ag];exact aa (dA i (ite_le (aM _) (ao _))) br
  generalize (H++if t.fg.isEmpty=c_ then []else [(lI,[],t.m3,j3)])=H2 at s ⊢;refine jU (I:=λus ρ=>∃b,ρ=W9 t (H2++us.flatMap (rq t)) c d b) (k9 rfl rfl (by show(kC (t.fs.map iO) || d_)=c_;rw[mV];rfl)) ⟨b,by rw[fj,aH]⟩ ?_ ?_
  .rintro us f vs _ p ⟨b,rfl⟩;have a:=fU (l:=us) λf _=>vN t f
   have F:us.length<=12:=by
    have:=congrArg fA p;exact jJ (ae this.symm) j
   have j:=vN t f;refine⟨_,rfl,cF (zw (ds:=[.lst ((rq t f).map cx)]) rfl ?_ (IA (by rw[aw,aw,ag];omega))) (bR ⟨_,rfl,a_ (iO f,d_),?_⟩)⟩
   .have e:bp C (.call 27 [.v 0,.v 5]) (full (W9 t (H2++us.flatMap (rq t)) c d (a_ (iO f,d_))))=a_ (.lst ((rq t f).map cx),c_):=u f (by rw[p];simp);show oK C [.call 27 [.v 0,.v 5]] (full (W9 t (H2++us.flatMap (rq t)) c d (a_ (iO f,d_))))=_;rw[gW,e];rfl
   .rw[<-dJ,cu,cW,<-aJ H2];rfl
  .rintro _ ⟨b,rfl⟩;exact⟨_,rfl,rfl⟩
def Xe(t:Tb)(w:Nat×be×be):Prop:=t.fg.isEmpty=c_->w.2.1≠j3
variable{t:Tb}
def RF(h:e∈IT f w):e.1=w.2.1:=by
 simp_all
def RD(h:e∈gX t f w):e.1=w.2.1:=by
 rcases ax.mp h with h|h
 .exact RF h
 .split at h
  .cases h
  .obtain⟨b,a,rfl⟩:=bQ.mp h;exact RF (e:=b) a
def RE(h:e∈rH m f w):e.1=w.2.1:=by
 unfold rH at h;split at h
 .rw[aE.mp h]
 .cases h
def qq:e∈s0 t↔∃f∈t.fs,∃w∈W6,e∈IT f w:=by
 simp
def DT:e∈s1 t↔∃f∈t.fs,∃w∈W6,e∈gX t f w:=by
 show e∈(if t.m0.isEmpty=c_ then s0 t else s0 t++(s0 t).map (Nz t.m0))↔_;unfold gX;cases t.m0.isEmpty
 .constructor
  .intro h
   rcases ax.mp h with h|h
   .obtain⟨f,hf,w,b,he⟩:=qq.mp h;exact⟨f,hf,w,b,az _ he⟩
   .obtain⟨c,a,rfl⟩:=bQ.mp h;obtain⟨f,hf,w,b,he⟩:=qq.mp a;exact⟨f,hf,w,b,ai _ (cP he)⟩
  .rintro⟨f,hf,w,b,he⟩
   rcases ax.mp he with he|he
   .exact az _ (qq.mpr ⟨f,hf,w,b,he⟩)
   .obtain⟨c,a,rfl⟩:=bQ.mp he;exact ai _ (cP (qq.mpr ⟨f,hf,w,b,a⟩))
 .refine (?_ : e∈s0 t↔∃f∈t.fs,∃w∈W6,e∈IT f w++[])
  simp only[aH];exact qq
def P6:e∈A0 t↔∃f∈t.fs,(∃w∈W6,e∈gX t f w)\/(t.m1.isEmpty=d_/\∃w∈A6,e∈rH t.m1 f w):=by
 show e∈(if t.m1.isEmpty=c_ then s1 t else s1 t++t.fs.flatMap (H6 t.m1))↔_;cases t.m1.isEmpty
 .constructor
  .intro h
   rcases ax.mp h with h|h
   .obtain⟨f,hf,h⟩:=DT.mp h;exact⟨f,hf,.inl h⟩
   .obtain⟨f,hf,h⟩:=fi.mp h;exact⟨f,hf,.inr ⟨rfl,fi.mp h⟩⟩
  .rintro⟨f,hf,h|⟨_,h⟩⟩
   .exact az _ (DT.mpr ⟨f,hf,h⟩)
   .exact ai _ (fi.mpr ⟨f,hf,fi.mpr h⟩)
 .refine (?_ : e∈s1 t↔_);rw[DT];constructor
  .rintro⟨f,hf,h⟩;exact⟨f,hf,.inl h⟩
  .rintro⟨f,hf,h|⟨h,_⟩⟩
   .exact⟨f,hf,h⟩
   .cases h
def zy:e∈s3 t↔e∈A0 t/\(t.fg.isEmpty=c_->e.1≠j3):=by
 show e∈(if t.fg.isEmpty=c_ then(A0 t).filter Bo else A0 t)↔_;cases t.fg.isEmpty
 .simp
 simp
def Gy(h:hit b w=c_):hX t f b w=gX t f (w.1,b,w.2):=if_pos h
def Gz(h:hit b w=d_):hX t f b w=[]:=if_neg (by rw[h];decide)
def W_o:W4.flatMap (hX t f lu)=gX t f (119,lu,iY)++gX t f (98,lu,pB):=by
 show hX t f lu (119,iY)++(hX t f lu (98,pB)++(hX t f lu (109,pB)++(hX t f lu (101,iY)++[])))=_;rw[Gy (by decide +kernel),Gy (by decide +kernel),Gz (by decide +kernel),Gz (by decide +kernel)];simp
def W_l:W4.flatMap (hX t f j3)=gX t f (119,j3,iY)++gX t f (98,j3,pB):=by
 show hX t f j3 (119,iY)++(hX t f j3 (98,pB)++(hX t f j3 (109,pB)++(hX t f j3 (101,iY)++[])))=_;rw[Gy (by decide +kernel),Gy (by decide +kernel),Gz (by decide +kernel),Gz (by decide +kernel)];simp
def W_i:W4.flatMap (hX t f pB)=gX t f (109,pB,pB)++gX t f (101,pB,iY):=by
 show hX t f pB (119,iY)++(hX t f pB (98,pB)++(hX t f pB (109,pB)++(hX t f pB (101,iY)++[])))=_;rw[aH];rfl
def ol:¬lu=j3:=br
def il:¬pB=j3:=br
def al:¬ua=j3:=br
def Ge:e∈rq t f↔(∃w∈W6,Xe t w/\e∈gX t f w)\/(t.m1.isEmpty=d_/\∃w∈A6,Xe t w/\e∈rH t.m1 f w):=by
 have h1:e∈F1 t f↔∃w∈W6,Xe t w/\e∈gX t f w:=by
  unfold Xe;show e∈((if t.fg.isEmpty=c_ then [lu]else [lu,j3])++[pB]).flatMap (λb=>W4.flatMap (hX t f b))↔_;cases t.fg.isEmpty
  .show e∈W4.flatMap (hX t f lu)++(W4.flatMap (hX t f j3)++(W4.flatMap (hX t f pB)++[]))↔_;rw[W_o,W_l,W_i];simp only[W6,ax,au,bu,or_false,exists_eq_or_imp,exists_eq_left,bS,false_implies,true_and];constructor
   .rintro((h|h)|(h|h)|(h|h))
    .exact .inl h
    .exact .inr (.inr (.inl h))
    .exact .inr (.inl h)
    .exact .inr (.inr (.inr (.inl h)))
    .exact .inr (.inr (.inr (.inr (.inl h))))
    .exact .inr (.inr (.inr (.inr (.inr h))))
   .rintro(h|h|h|h|h|h)
    .exact .inl (.inl h)
    .exact .inr (.inl (.inl h))
    .exact .inl (.inr h)
    .exact .inr (.inl (.inr h))
    .exact .inr (.inr (.inl h))
    .exact .inr (.inr (.inr h))
  .show e∈W4.flatMap (hX t f lu)++(W4.flatMap (hX t f pB)++[])↔_;rw[W_o,W_i];simp only[W6,ax,au,bu,or_false,exists_eq_or_imp,exists_eq_left,true_implies];constructor
   .rintro((h|h)|(h|h))
    .exact .inl ⟨ol,h⟩
    .exact .inr (.inr (.inl ⟨ol,h⟩))
    .exact .inr (.inr (.inr (.inr (.inl ⟨il,h⟩))))
    .exact .inr (.inr (.inr (.inr (.inr ⟨il,h⟩))))
   .rintro(⟨_,h⟩|⟨q,h⟩|⟨_,h⟩|⟨q,h⟩|⟨_,h⟩|⟨_,h⟩)
    .exact .inl (.inl h)
    .exact absurd rfl q
    .exact .inl (.inr h)
    .exact absurd rfl q
    .exact .inr (.inl h)
    .exact .inr (.inr h)
 have h2:e∈(bs t).flatMap (A2 t f)++V2.flatMap (A3 t f)↔∃w∈A6,Xe t w/\e∈rH t.m1 f w:=by
  unfold Xe;show e∈(if t.fg.isEmpty=c_ then [lu]else [lu,j3]).flatMap (A2 t f)++V2.flatMap (A3 t f)↔_;cases t.fg.isEmpty
  .show e∈(A2 t f lu++(A2 t f j3++[]))++(rH t.m1 f (109,ua,ua)++(rH t.m1 f (101,ua,iY)++[]))↔_;simp only[A6,A2,ax,au,bu,or_false,exists_eq_or_imp,exists_eq_left,bS,false_implies,true_and];constructor
   .rintro(((h|h)|(h|h))|(h|h))
    .exact .inl h
    .exact .inr (.inr (.inl h))
    .exact .inr (.inl h)
    .exact .inr (.inr (.inr (.inl h)))
    .exact .inr (.inr (.inr (.inr (.inl h))))
    .exact .inr (.inr (.inr (.inr (.inr h))))
   .rintro(h|h|h|h|h|h)
    .exact .inl (.inl (.inl h))
    .exact .inl (.inr (.inl h))
    .exact .inl (.inl (.inr h))
    .exact .inl (.inr (.inr h))
    .exact .inr (.inl h)
    .exact .inr (.inr h)
  .show e∈(A2 t f lu++[])++(rH t.m1 f (109,ua,ua)++(rH t.m1 f (101,ua,iY)++[]))↔_;simp only[A6,A2,ax,au,bu,or_false,exists_eq_or_imp,exists_eq_left,true_implies];constructor
   .rintro((h|h)|(h|h))
    .exact .inl ⟨ol,h⟩
    .exact .inr (.inr (.inl ⟨ol,h⟩))
    .exact .inr (.inr (.inr (.inr (.inl ⟨al,h⟩))))
    .exact .inr (.inr (.inr (.inr (.inr ⟨al,h⟩))))
   .rintro(⟨_,h⟩|⟨q,h⟩|⟨_,h⟩|⟨q,h⟩|⟨_,h⟩|⟨_,h⟩)
    .exact .inl (.inl h)
    .exact absurd rfl q
    .exact .inl (.inr h)
    .exact absurd rfl q
    .exact .inr (.inl h)
    .exact .inr (.inr h)
 rw[ax,h1];cases t.m1.isEmpty
 .exact or_congr Nt (h2.trans ⟨λh=>⟨rfl,h⟩,λh=>h.2⟩)
 .exact or_congr Nt ⟨(λh=>nomatch h),(λh=>nomatch h.1)⟩
def IB:e∈s3 t↔e∈t.fs.flatMap (rq t):=by
 rw[zy,P6,fi];constructor
 .rintro⟨⟨f,hf,h⟩,q⟩;refine⟨f,hf,Ge.mpr ?_⟩
  rcases h with⟨w,a,h⟩|⟨b,w,a,h⟩
  .exact .inl ⟨w,a,λz=>RD h▸q z,h⟩
  .exact .inr ⟨b,w,a,λz=>RE h▸q z,h⟩
 .rintro⟨f,hf,h⟩
  rcases Ge.mp h with⟨w,a,q,h⟩|⟨b,w,a,q,h⟩
  .exact⟨⟨f,hf,.inl ⟨w,a,h⟩⟩,λz=>by rw[RD h];exact q z⟩
  .exact⟨⟨f,hf,.inr ⟨b,w,a,h⟩⟩,λz=>by rw[RE h];exact q z⟩
def Qx(hf:t.fg.length<=10):xn t=(aO t.fg.length).map λk=>(48+k,t.fg.getD k 0):=by
 refine jj (by rw[aw,bo];rw[wD];exact Nat.min_eq_right hf) λi h1 h2=>?_;rw[aw,bo]at h2;rw[List.getElem_zip,((aR.mp (xT (aa h2 hf)).2).2)];simp[h2]
def Vv(hf:t.fg.length<=10):e∈LE t↔e∈got t:=by
 have hd:(xn t).flatMap (pF t)=(aO t.fg.length).flatMap (dg t):=by rw[Qx hf,List.flatMap_map]
 show e∈G7++(aO t.fg.length).flatMap (dg t)++(if t.fg.isEmpty=c_ then []else [(lI,[],t.m3,j3)])++t.fs.flatMap (rq t)↔e∈s3 t++G7++(if t.fg.isEmpty=c_ then []else(lI,[],t.m3,j3)::(xn t).flatMap (pF t))
 rw[hd];simp only[ax,<-IB];cases q:t.fg.isEmpty
 .simp only[bS,if_false,au,bu,or_false];constructor
  .rintro(((h|h)|h)|h)
   .exact .inl (.inr h)
   .exact .inr (.inr h)
   .exact .inr (.inl h)
   .exact .inl (.inl h)
  .rintro((h|h)|h|h)
   .exact .inr h
   .exact .inl (.inl (.inl h))
   .exact .inl (.inr h)
   .exact .inl (.inl (.inr h))
 .have z:t.fg.length=0:=by simp_all
  rw[z];simp only[if_true,bu,or_false,List.range_zero,fj];exact or_comm
end K31E
namespace K31E
open PySem L2 M K31
def vQ:Mg (c::r)=(c - 32)::r:=by
 have h:bY (T (c::r)) (a_ 1) b_=T r:=by
  refine(qU (p:=1) (by simp) (ao _) ?_).trans (by simp);have e:max (0:Int) (min ((c::r).length) ((c::r).length))=((c::r).length):=by omega
  simp only[Builtin.Str.strSliceIndices,show((1) > 0)=True by simp,if_true];rw[if_neg (show¬(((c::r).length):Int)<0 from(λz=>(k7 z (gG _)))),e];rfl
 unfold Mg;rw[h,Hd];rfl
variable{t:Tb}{e:Ed}
def mr1:e∈s1 t↔∃B∈s0 t,e=B\/(t.m0.isEmpty=d_/\e=Nz t.m0 B):=by
 show e∈(if t.m0.isEmpty=c_ then s0 t else s0 t++(s0 t).map (Nz t.m0))↔_;cases t.m0.isEmpty
 .refine (?_ : e∈s0 t++(s0 t).map (Nz t.m0)↔_);rw[ax,bQ];constructor
  .rintro(h|⟨B,h,rfl⟩)
   .exact⟨e,h,.inl rfl⟩
   .exact⟨B,h,.inr ⟨rfl,rfl⟩⟩
  .rintro⟨B,h,rfl|⟨_,rfl⟩⟩
   .exact .inl h
   .exact .inr ⟨B,h,rfl⟩
 .constructor
  .intro h;exact⟨e,h,.inl rfl⟩
  .rintro⟨B,h,rfl|⟨q,_⟩⟩
   .exact h
   .cases q
def mrb:e∈A0 t↔e∈s1 t\/(t.m1.isEmpty=d_/\∃f∈t.fs,∃w∈A6,e∈rH t.m1 f w):=by
 show e∈(if t.m1.isEmpty=c_ then s1 t else s1 t++t.fs.flatMap (H6 t.m1))↔_;cases t.m1.isEmpty
 .simp
 simp
def W6B:(W6.all λw=>decide (w.2.1∈m8) && decide (w.2.2∈m8))=c_:=by decide +kernel
def A6B:(A6.all λw=>decide (w.2.1∈m8) && decide (w.2.2∈m8))=c_:=by decide +kernel
structure Lg(e:Ed):Prop where
 b:e.1∈m8
 o:e.2.2.2∈m8
 t:e.2.1.length<=6
 n:e.2.1=[]->e.1=lI/\e.2.2.2=j3
 c:e.2.2.1≠[]
 z:(∀c∈e.2.2.1,c≠0)\/(e.1∈rT/\e.2.2.2=lu)
 k:e.2.2.1.length<=6
def x5(h1:e.1∈m8)(h2:e.2.2.2∈m8)(h3:e.2.1.length<=6)(B:e.2.1≠[])(h5:e.2.2.1≠[])(O:∀c∈e.2.2.1,c≠0)(Y:e.2.2.1.length<=6):Lg e:=⟨h1,h2,h3,λh=>absurd h B,h5,.inl O,Y⟩
set_option tactic.hygienic true in
def V8(w:wT t):∀e∈got t,Lg e:=λe he=>by
 have ht:=w.ok;have d:∀m∈[t.m0,t.m1,t.m2,t.m3,t.fg],∀c∈m,c≠0:=λm u c hc=>by have:=w.cm m u c hc;exact λz=>(N0 this.1 (eE (oU z) br))
 have app:∀{a b:List Int},(∀c∈a,c≠0)->(∀c∈b,c≠0)->∀c∈a++b,c≠0:=λha hb c hc=>(ax.mp hc).elim (ha c) (hb c)
 rcases ax.mp he with he|he
 .rcases ax.mp he with he|he
  .have j:∀f∈t.fs,Ee f/\(∀c∈f.2.1,c≠0)/\f.2.1≠[]/\∃c r,f.1=c::r:=λf hf=>by
    have go:=ht.ho f hf;refine⟨go,λc hc=>by have:=w.cf f hf c hc;exact λz=>(N0 this.1 (eE (oU z) (by decide))),cT.mp go.c1,?_⟩
    cases q:f.1 with
    |nil=>exact absurd q go.ne
    |cons c r=>exact⟨c,r,rfl⟩
   rcases mrb.mp (zy.mp he).1 with h|⟨_,f,hf,k,n,h⟩
   .obtain⟨v,h0,h⟩:=mr1.mp h;obtain⟨f,hf,k,n,h0⟩:=qq.mp h0;obtain⟨go,l,i,c,r,hc⟩:=j f hf;have g:=bF.mp W6B k n;rw[aj,decide_eq_true_eq,decide_eq_true_eq]at g
    have o:v=(k.2.1,f.1,f.2.1,k.2.2):=by
     unfold IT at h0;split at h0
     .exact aE.mp h0
     .cases h0
    subst o;have ll:=go.ll
    rcases h with rfl|⟨_,rfl⟩
    .exact x5 g.1 g.2 ll go.ne i l (by exact aa go.cl br)
    .refine x5 g.1 g.2 ?_ ?_ ?_ ?_ ?_
     .show(Mg f.1).length<=6;rw[hc,vQ];rw[hc]at ll;exact ll
     .show Mg f.1≠[];rw[hc,vQ];simp
     .exact λh=>i (CO.mp h).2
     .exact app (d t.m0 (by simp)) l
     .show(t.m0++f.2.1).length<=6;rw[ag];have:=ht.h0;have:=go.cl;omega
   .obtain⟨go,l,i,c,r,hc⟩:=j f hf;have g:=bF.mp A6B k n;rw[aj,decide_eq_true_eq,decide_eq_true_eq]at g;unfold rH at h;split at h
    .rw[aE.mp h];refine x5 g.1 g.2 ?_ ?_ ?_ ?_ ?_
     .rw[aw];exact go.ll
     .rw[hc];simp
     .exact λh=>i (CO.mp h).2
     .refine app (λc hc=>?_) l;split at hc
      .cases hc
      .exact d t.m1 (by simp) c hc
     .have h2:=go.cl;rw[ag];split
      .exact aa (eX h2 _) br
      .exact aa (dA ht.h1 h2) br
    .cases h
  .have g:(G7.all λe=>decide (e.1∈m8) && (decide (e.2.2.2∈m8) && (decide (e.2.1.length<=6) && (decide (e.2.1≠[]) && (decide (e.2.2.1≠[]) && (decide (e.1∈rT) && (decide (e.2.2.2=lu) && decide (e.2.2.1.length<=6))))))))=c_:=by decide +kernel
   have:=bF.mp g e he;simp only[aj,decide_eq_true_eq]at this;obtain⟨h1,h2,h3,x,h5,y,A,h8⟩:=this;exact⟨h1,h2,h3,λh=>absurd h x,h5,.inr ⟨y,A⟩,h8⟩
 .have he:e∈(if t.fg.isEmpty=c_ then []else(lI,[],t.m3,j3)::(xn t).flatMap (pF t)):=he;split at he
  .cases he
  .rename_i q
   rcases au.mp he with rfl|he
   .exact⟨by show lI∈m8;decide,by show j3∈m8;decide,aM _,λ_=>⟨rfl,rfl⟩,w.m3 (λz=>q (by rw[z];rfl)),.inl (d t.m3 (by simp)),by exact aa ht.h3 br⟩
   .obtain⟨p,hp,h⟩:=fi.mp he;have s:=d t.fg (by simp) p.2 (iJ hp).2;have h1:∀c∈[p.2],c≠0:=λc hc=>by rw[aE.mp hc];exact s
    simp only[pF,au,bu,or_false]at h
    rcases h with rfl|rfl|rfl
    .exact x5 (by show lu∈m8;decide) (by show lI∈m8;decide) (by simp) (by simp) (by simp) (app (d t.m2 (by simp)) h1) (by rw[ag];exact aq ht.h2 br)
    .exact x5 (by show iY∈m8;decide) (by show lI∈m8;decide) (by simp) (by simp) (by simp) (app (d t.m2 (by simp)) h1) (by rw[ag];exact aq ht.h2 (by decide))
    .exact x5 (by show lI∈m8;decide) (by show lI∈m8;decide) (by simp) (by simp) (by simp) h1 (by show 1<=6;decide)
def GD(ht:Iu t):(got t).length<=300:=by
 rw[ag,ag];show _+3+_<=_;exact jJ (Kp ht.hl) (KI t)
def MC(w:wT t):∃E:List Ed,HI (got t)=E.map cx/\gE E/\(∀e,e∈E↔e∈got t)/\∀e∈E,Lg e:=by
 obtain⟨E,h1,_,h3,a⟩:=TH (got t);have ok:=λe he=>V8 w e ((h3 e).mp he);exact⟨E,h1,⟨λe he=>(ok e he).b,λe he=>(ok e he).o,λe he=>aa (ok e he).t br,λe he=>(ok e he).n,aa a (GD w.ok)⟩,h3,ok⟩
def Ql(t:Tb)(d:Nat):Prop:=∃c∈U t.fs,d=c\/(t.m0.isEmpty=d_/\d=c - 32)
def VG(w:wT t)(hd:Ql t d)(B:v∈W6)(hl:t.fg.isEmpty=c_->v.2.1≠j3):∃cs,(v.2.1,[d],cs,v.2.2)∈got t:=by
 obtain⟨c,hc,h⟩:=hd;obtain⟨f,hf,a⟩:=Gf.mp hc;obtain⟨cs,b⟩:=w.own f hf c a;have g:(W6.all λv=>decide (v.1∈NF))=c_:=br;have h5:=of_decide_eq_true (bF.mp g v B)
 have h0:(v.2.1,[c],cs,v.2.2)∈s0 t:=qq.mpr ⟨_,b,v,B,by
  unfold IT;rw[if_pos (decide_eq_true (show v.1∈NF from h5))]
  exact aE.mpr rfl⟩
 rcases h with rfl|⟨i,rfl⟩
 .exact⟨cs,az _ (az _ (zy.mpr ⟨mrb.mpr (.inl (mr1.mpr ⟨_,h0,.inl rfl⟩)),hl⟩))⟩
 .refine⟨t.m0++cs,az _ (az _ (zy.mpr ⟨mrb.mpr (.inl (mr1.mpr ⟨_,h0,.inr ⟨i,?_⟩⟩)),hl⟩))⟩;show _=(v.2.1,Mg [c],t.m0++cs,v.2.2)
  rw[vQ]
def Wm(hf:t.fg.length<=10)(hk:k<t.fg.length)(hs:s∈rT):∃cs,(s,[48+k],cs,lI)∈got t:=by
 have c:(48+k,t.fg[k])∈xn t:=by
  refine pD.mpr ⟨k,?_⟩;rw[List.getElem?_zip_eq_some];exact⟨((xT (aa hk hf)).2),af hk⟩
 have b:t.fg.isEmpty=d_:=by
  grind
 have a:∀e∈pF t (48+k,t.fg[k]),e∈got t:=λe he=>by
  refine ai _ ?_;show e∈(if t.fg.isEmpty=c_ then []else(lI,[],t.m3,j3)::(xn t).flatMap (pF t));rw[b];exact ki _ (fi.mpr ⟨_,c,he⟩)
 simp only[rT,au,bu,or_false]at hs
 rcases hs with rfl|rfl|rfl
 .exact⟨_,a _ jy⟩
 .exact⟨_,a _ (ki _ jy)⟩
 .exact⟨_,a _ (ki _ (ki _ jy))⟩
def ZI(hs:s∈rT):(s,[32],[0],lu)∈got t:=by
 refine az _ (ai _ ?_);have a:(rT.all λs=>decide ((s,[32],[0],lu)∈G7))=c_:=by decide +kernel
 exact of_decide_eq_true (bF.mp a s hs)
def YC(h:t.fg.isEmpty=d_):(lI,[],t.m3,j3)∈got t:=by
 refine ai _ ?_
 grind
variable{E:List Ed}{x:List Nat}
def fin(E:List Ed)(x:List Nat)(p:Nat)(s:be):Prop:=∃k,iS E x p s=a_ k
def zL(g:gE E)(hs:s∈rT):fin E x x.length s:=⟨0,by rw[nY g (ao _),if_pos ⟨rfl,hs⟩]⟩
def B2(g:gE E)(hp:p<=x.length)(he:e∈E)(B:e.2.1 <+: x.drop p)(h:fin E x (p+e.2.1.length) e.2.2.2):fin E x p e.1:=by
 obtain⟨k,hk⟩:=h;unfold fin;rw[nY g hp];by_cases q:p=x.length/\e.1∈rT
 .exact⟨0,by rw[if_pos q]⟩
 .rw[if_neg q]
  cases a:sY (v7 E x p e.1 λe=>iS E x (p+e.2.1.length) e.2.2.2)with
  |some k=>exact⟨k,a⟩
  |none=>
    exfalso;rw[x9]at a
    have:e.2.2.1.length+k∈v7 E x p e.1 λe=>iS E x (p+e.2.1.length) e.2.2.2:=by
     refine fS.mpr ⟨e,bJ.mpr ⟨bJ.mpr ⟨he,by simp⟩,decide_eq_true B⟩,?_⟩
     simp_all
    rw[a]at this;cases this
set_option tactic.hygienic true in
def Ii(w:wT t)(h:d∈raw t)(B:¬Ql t d):d=32\/∃k,k<t.fg.length/\d=48+k:=by
 rcases ax.mp h with h|h
 .rcases ax.mp h with h|h
  .rcases ax.mp h with h|h
   .exact .inl (aE.mp h)
   .obtain⟨k,hk⟩:=pD.mp h
    have a:k<t.fg.length:=by
     rw[dv]at hk
     simp_all
    rw[dv,if_pos a,(xT (aa a w.ok.hf)).2]at hk;exact .inr ⟨k,a,(bG hk).symm⟩
  .exfalso;unfold Mh at h;split at h
   .cases h
   .rename_i q;obtain⟨c,hc,rfl⟩:=bQ.mp h;exact B ⟨c,hc,.inr ⟨by simpa using q,rfl⟩⟩
 .exact absurd ⟨d,h,.inl rfl⟩ B
structure cl(t:Tb)(E:List Ed)(x:List Nat)(p:Nat):Prop where
 o:fin E x p lu
 i:(∃d,x[p]?=a_ d/\Ql t d)->fin E x p pB
 d:(¬ ∃d,x[p]?=a_ d/\Ql t d)->fin E x p iY
 n:t.fg.isEmpty=d_->fin E x p lI
theorem Hc(w:wT t)(g:gE E)(B:∀e,e∈E↔e∈got t)(O:∀c∈x,c∈raw t):∀(m p:Nat),p+m=x.length->cl t E x p
 |0,p,h=>by
   subst (by omega);refine⟨zL g br,?_,λ_=>zL g br,λ_=>zL g br⟩;rintro⟨d,hd,_⟩;rw[kP (ao _)]at hd;cases hd
 |m+1,p,h=>by
   have hp :=aq (aW _ _) (ae h);have l:=Hc w g B O m (p+1) (aC (gm (ae h)) (gm (ae h.symm)));have hd :=af hp
   have f:[x[p]] <+: x.drop p:=by
    rw[e8 hp];exact⟨x.drop (p+1),rfl⟩
   have go:∀{s o:be}{cs:List Int},(s,[x[p]],cs,o)∈got t->fin E x (p+1) o->fin E x p s:=λ{s o cs}he hf=>B2 g (aD hp) ((B _).mpr he) f hf;by_cases j:Ql t x[p]
   .have b:∀{v:Nat×be×be},v∈W6->(t.fg.isEmpty=c_->v.2.1≠j3)->fin E x (p+1) v.2.2->fin E x p v.2.1:=λ{v} A hl hf=>by
     obtain⟨cs,he⟩:=VG w j A hl;exact go he hf
    have num:=λhl hf=>B2 g (aD hp) ((B _).mpr (YC hf)) (NW) hl;by_cases y:∃d,x[p+1]?=a_ d/\Ql t d
    .have hi:=l.i y;refine⟨b (v:=(98,lu,pB)) br (λ_=>by decide) hi,λ_=>b (v:=(109,pB,pB)) br (λ_=>by decide) hi,λq=>absurd ⟨_,hd,j⟩ q,λq=>num (b (v:=(98,j3,pB)) br (λz=>by rw[q]at z;cases z) hi) q⟩
    .have hi:=l.d y;refine⟨b (v:=(119,lu,iY)) br (λ_=>by decide) hi,λ_=>b (v:=(101,pB,iY)) br (λ_=>by decide) hi,λq=>absurd ⟨_,hd,j⟩ q,λq=>num (b (v:=(119,j3,iY)) br (λz=>by rw[q]at z;cases z) hi) q⟩
   .have hi:¬ ∃d,x[p]?=a_ d/\Ql t d:=by
     rintro⟨d,h1,h2⟩;rw[hd]at h1;exact j (bG h1▸h2)
    rcases Ii w (O _ (bA hp)) j with e|⟨k,hk,e⟩
    .have hb:∀{s:be},s∈rT->fin E x p s:=λ{s}hs=>go (by rw[e];exact ZI hs) l.o;exact⟨hb br,λz=>absurd z hi,λ_=>hb br,λ_=>hb br⟩
    .have u:t.fg.isEmpty=d_:=by
      cases h:t.fg with
      |nil=>rw[h]at hk;cases hk
      |cons a r=>rfl
     have hb:∀{s:be},s∈rT->fin E x p s:=λ{s}hs=>by
      obtain⟨cs,he⟩:=Wm w.ok.hf hk hs;exact go (by rw[e];exact he) (l.n u)
     exact⟨hb br,λz=>absurd z hi,λ_=>hb br,λ_=>hb br⟩
def FT(w:wT t)(g:gE E)(B:∀e,e∈E↔e∈got t)(O:∀c∈x,c∈raw t):fin E x 0 lu:=(Hc w g B O x.length 0 (jo _)).o
end K31E
namespace K31E
open PySem L2 M K31
variable{E:List Ed}{x:List Nat}{p:Nat}{s:be}
abbrev rE(E:List Ed)(x:List Nat)(p:Nat)(e:Ed):Option Nat:=(iS E x (p+e.2.1.length) e.2.2.2).map λk=>e.2.2.1.length+k
def Xy(a b:Option Nat):gn .eq (vD a) (vD b)=a_ (decide (a=b)):=by
 cases a with
 |none=>
   cases b with
   |none=>rfl
   |some k=>rfl
 |some j=>
   cases b with
   |none=>rfl
   |some k=>
     show a_ (decide ((j:Int)=(k)))=_;rw[decide_eq_decide.mpr (show(j:Int)=(k)↔a_ j=a_ k by simp;omega)]
abbrev Xs(E:List Ed)(x:List Nat)(p:Nat)(o:Option Nat)(e:Ed):Bool:=decide (rE E x p e=o)
def OR{es:List Ed}(hl:es.length<=1000)(h:∀e∈es,e.2.1.length<=1000000/\p+e.2.1.length<=x.length/\e.2.2.2∈m8)(he:(es.filter (Xs E x p o)).head? = a_ e) :
  Cn D (n+2) 15 [.lst (es.map cx),.int (p:Nat),KR E x,vD o]=a_ (cx e,d_):=by
 have a:∀e∈es,Cn D (n+1) 12 [cx e,.int (p),KR E x]=a_ (vD (rE E x p e),d_):=λe he=>by
  obtain⟨h1,h2,h3⟩:=h e he;exact Ku h1 (by rw[aP,qG (bb h2)];rfl) (zg.mp h3)
 refine fE rfl (wX ?_);exact BD (uM (Xs E x p o) rfl hl p8 λe he=>⟨d_,gH (a e he) rfl (Xy _ _)⟩) rfl (jX (by rw[aP,<-List.head?_eq_getElem?,he];rfl))
abbrev iD(S:List Ed):List Int:=S.flatMap λe=>e.2.2.1
def OO(hl:(iD S).length<=100000):∃b,Cn D (n+1) 16 [.lst (S.map cx)]=a_ (tI (iD S),b):=by
 suffices h:Go (Cn D n) b16 [a_ (.lst (S.map cx),d_),b_,b_] λo=>∃b,o=.rt (tI (iD S)) b by
  obtain⟨_,h1,b,rfl⟩:=h;exact⟨b,fE rfl h1⟩
 refine fI rfl (jU (I:=λus ρ=>∃z,ρ=[a_ (.lst (S.map cx),d_),a_ (.lst ((iD us).map Dat.int),c_),z]) (by rfl) ⟨b_,rfl⟩ ?_ ?_)
 .rintro us e vs _ a ⟨z,rfl⟩
  have h1:(iD us).length+e.2.2.1.length<=100000:=by
   grind
  refine⟨_,rfl,cF (zw (ds:=[tI e.2.2.1]) rfl ?_ (Iz (by rw[aw,aw];exact aa h1 br))) (bR ⟨_,rfl,a_ (cx e,d_),?_⟩)⟩
  .show a_ ([tI e.2.2.1],(d_ || im (tI e.2.2.1)) && c_)=_;rw[mr];rfl
  simp
 .rintro _ ⟨z,rfl⟩;exact jT rfl ⟨_,rfl⟩
def Ch:be->List Ed->be->Prop
 |s,[],o=>s=o
 |s,e::S,o=>e.1=s/\Ch e.2.2.2 S o
theorem Ey:∀{S:List Ed}{a b:be}{e:Ed},Ch a S b->e.1=b->Ch a (S++[e]) e.2.2.2
 |[],_,_,_,h,q=>⟨q.trans h.symm,rfl⟩
 |_::S,_,_,_,h,q=>⟨h.1,Ey h.2 q⟩
abbrev RA(S:List Ed):List Nat:=S.flatMap λe=>e.2.1
structure Wr(E:List Ed)(x:List Nat)(S:List Ed)(p:Nat)(s:be):Prop where
 hc:Ch lu S s
 he:∀e∈S,e∈E
 hp:p<=x.length
 ht:RA S=x.take p
 hf:fin E x p s
 hs:s∈m8
 hl:S.length<=2 * p+1/\(s≠j3->S.length<=2 * p)
 hk:∃j,iS E x p s=a_ j/\iS E x 0 lu=a_ ((iD S).length+j)
def OW:a_ ((iD S).length+(e.2.2.1.length+j))=a_ ((iD (S++[e])).length+j):=by
 rw[iD,iD,cu,ag,ni,fj,aH,jG]
def FZ(g:gE E)(hp:p<x.length)(hf:fin E x p s):∃e,(((Ji E s).filter (pre x p)).filter (Xs E x p (iS E x p s))).head? = a_ e/\e∈E/\e.1=s/\e.2.1 <+: x.drop p/\∃j,iS E x (p+e.2.1.length) e.2.2.2=a_ j/\iS E x p s=a_ (e.2.2.1.length+j):=by
 obtain⟨k,hk⟩:=hf;have h1:=hk;rw[nY g (aD hp),if_neg (λz=>(aS hp (ae z.1.symm)))]at h1;obtain⟨h2,_⟩:=sX.mp h1;obtain⟨e,he,h3⟩:=fS.mp h2;have f:e∈((Ji E s).filter (pre x p)).filter (Xs E x p (iS E x p s)):=bJ.mpr ⟨he,decide_eq_true (by rw[hk];exact h3)⟩
 cases hh:((Ji E s).filter (pre x p)).filter (Xs E x p (iS E x p s))with
 |nil=>rw[hh]at f;cases f
 |cons a r=>
   have h5:a∈((Ji E s).filter (pre x p)).filter (Xs E x p (iS E x p s)):=by rw[hh];exact jy
   refine ac λ_ o=>?_;obtain⟨h,i⟩:=bJ.mp h5;obtain⟨h8,l⟩:=bJ.mp h;obtain⟨b,c⟩:=bJ.mp h8;have d:rE E x p a=a_ k:=by rw[<-hk];exact of_decide_eq_true i
   obtain⟨j,m,n⟩:=dY d;refine o ?_;exact⟨a,rfl,b,by simpa using c,of_decide_eq_true l,j,m,by rw[hk,n]⟩
abbrev Jk(t:Tb)(x:List Nat)(E S:List Ed)(p:Nat)(s:be)(z:g_):dG:=[a_ (tb t,d_),a_ (sT x,d_),a_ (oM E,c_),a_ (KR E x,c_),a_ (.lst (S.map cx),c_),a_ (.int (p:Nat),d_),a_ (.str s,d_),z]
abbrev Jz(C:Fs)(ρ:dG):Option Bool:=(bp C (.cmp .lt (.v 5) (.blt .len [(.v 1)])) (full ρ)).bind λx=>fW x.1
def AX(h:bp C a (full ρ)=a_ (d,c_))(hi:im d=d_):oE C (.set i a) ρ=a_ (.nx (ρ.set i (a_ (d,c_)))):=by
 rw[uJ,h];show(if(im d || c_)=c_ then a_ (Out.nx (ρ.set i (a_ (d,c_ && !im d))))else _)=_;rw[hi];rfl
def XU(g:gE E)(Y:x.length<=1000)(h:Wr E x S p s)(hp:p<x.length):∃e O,eC (Cn D (n+2)) wB (Jk t x E S p s z)=a_ (.nx (Jk t x E (S++[e]) (p+e.2.1.length) e.2.2.2 O))/\Wr E x (S++[e]) (p+e.2.1.length) e.2.2.2/\(e.2.1=[]->s=lI/\e.2.2.2=j3):=by
 refine ac λ_ w=>?_;obtain⟨e,hh,he,hs,a,j,F,I⟩:=FZ g hp h.hf;refine w ?_;have hlen:=a.length_le;have m:=g.n e he;have b:=Ky (n:=n+1) (es:=Ji E s)   (aD hp) (aa (c8 _ _) (aa g.l br))
 have c:=OR (n:=n) (aa (c8 _ _) (aa (c8 _ _) (aa g.l br))) (λk h'=>by
  obtain⟨h1,h2⟩:=bJ.mp h';have:=(of_decide_eq_true h2).length_le;exact⟨aa (g.t k (bJ.mp h1).1) br,jJ (ws (aD hp)) this,g.o k (bJ.mp h1).1⟩) hh
 have G:Wr E x (S++[e]) (p+e.2.1.length) e.2.2.2:=by
  refine⟨Ey h.hc hs,λk h'=>?_,jJ (ws (aD hp)) hlen,?_,⟨j,F⟩,g.o e he,?_,j,F,?_⟩
  .rcases ax.mp h' with q|q
   .exact h.he k q
   .rw[aE.mp q];exact he
  .show(S++[e]).flatMap (λe=>e.2.1)=_;rw[cu,ni,fj,aH,show(S.flatMap λe=>e.2.1)=x.take p from h.ht,List.take_add]
   congr 1
   exact jO.mp a
  .rw[ag];show S.length+1<=_/\(_->S.length+1<=_)
   obtain⟨H,J⟩:=h.hl;by_cases q:e.2.1=[]
   .obtain⟨f,r⟩:=m q;rw[hs]at f;exact⟨gm (J (by rw[f];decide)),λz=>absurd r z⟩
   .have:=cT.mpr q;exact⟨jJ H this,λ_=>(pY H this this)⟩
  .obtain⟨i,f,r⟩:=h.hk;rw[I]at f;cases f;rw[r,OW]
 refine⟨e,a_ (cx e,d_),?_,G,λq=>⟨hs▸(m q).1,(m q).2⟩⟩;generalize Cn D (n+2)=C at b c ⊢;have d1:tU (oM E) (.str s)=a_ (.lst ((Ji E s).map cx)):=DW h.hs
 have d2:tU (KR E x) (.int (p))=a_ (dD Ab (iS E x p)):=by
  show qH _ (p)=_;exact jX (by rw[aP,qG (cc hp)];rfl)
 have d3:tU (dD Ab (iS E x p)) (.str s)=a_ (vD (iS E x p s)):=zD (zg.mp h.hs)
 have u:bp C (.call 11 [(.ix (.v 2) (.v 6)),(.v 1),(.v 5)]) (full (Jk t x E S p s z))=a_ (.lst (((Ji E s).filter (pre x p)).map cx),c_):=by
  rw[kL,bP,BD rfl rfl d1];exact b
 have y:bp C (.call 15 [(.call 11 [(.ix (.v 2) (.v 6)),(.v 1),(.v 5)]),(.v 5),(.v 3),(.ix (.ix (.v 3) (.v 5)) (.v 6))]) (full (Jk t x E S p s z))=a_ (cx e,d_):=by
  rw[kL,bP,u,bP,bP,bP,(BD (BD rfl rfl d2) rfl d3)];exact c
 have A:gZ .len [sT e.2.1]=a_ (.int (e.2.1.length),d_):=len_T (aa (g.t e he) br)
 have B:Go C wB (Jk t x E S p s z) λo=>o=.nx (Jk t x E (S++[e]) (p+e.2.1.length) e.2.2.2 (a_ (cx e,d_))):=by
  refine cF (eo y (p8 e)) (tm (P:=(·= cx e)) ⟨cx e,d_,rfl,p8 e,rfl⟩ rfl (by rw[aw];exact pY h.hl.1 (Nat.mul_le_mul_left 2 hp) (Nat.mul_le_mul_left 2 Y)) λd hd=>?_);rw[hd,show S.map cx++[cx e]=(S++[e]).map cx by rw[dJ];rfl];refine cF (eo (g7 rfl (j5 rfl A) (by rw[jA,show((p):Int)+((e.2.1.length):Int)=((p+e.2.1.length):Int) by rfl])) rfl) ?_;exact cF (eo rfl rfl) (bR rfl)
 obtain⟨_,h1,rfl⟩:=B;exact h1
theorem RW(g:gE E)(B:x.length<=1000):∀(m fuel:Nat)(S:List Ed)(p:Nat)(s:be)(z:g_),Wr E x S p s->2 * (x.length - p)+(if s=lI then 1 else 0)<=m->m<fuel->∃S' s' O,wV (Jz (Cn D (n+2))) (eC (Cn D (n+2)) wB) fuel (Jk t x E S p s z)=a_ (.nx (Jk t x E S' x.length s' O))/\Wr E x S' x.length s'
 |m,0,S,p,s,z,h,a,hf=>absurd hf (pC _)
 |m,fuel+1,S,p,s,z,h,a,hf=>by
   have hc:Jz (Cn D (n+2)) (Jk t x E S p s z)=a_ (decide (p<x.length)):=by
    generalize Cn D (n+2)=C
    have:bp C (.cmp .lt (.v 5) (.blt .len [(.v 1)])) (full (Jk t x E S p s z))=a_ (.bl (decide (p<x.length)),d_):=gH rfl (j5 rfl (len_T (aa B br))) (by
     simp)
    unfold Jz;rw[this];rfl
   unfold wV;rw[hc];by_cases hp:p<x.length
   .rw[decide_eq_true hp];refine ac λ_ b=>?_;obtain⟨e,O,h1,h2,h3⟩:=XU g B h hp;have f:=h2.hp
    obtain⟨c,d⟩:∃c,m=c+1:=⟨m - 1,by
     omega⟩
    subst d
    obtain⟨S',s',i,j,h5⟩:=RW g B c fuel (S++[e]) (p+e.2.1.length) e.2.2.2 O h2 (by
     by_cases q:e.2.1=[]
     .rw[if_pos (h3 q).1]at a;rw[q,(h3 q).2];exact aU a
     .have :=cT.mpr q
      split<;>omega) (aU hf)
    refine b ?_;refine⟨S',s',i,?_,h5⟩;rw[h1];exact j
   .rw[decide_eq_false hp];have :=aC h.hp (bT hp);subst this;exact⟨S,s,z,rfl,h⟩
def JN:oE C (.Xx c b) ρ=wV (λρ=>(bp C c (full ρ)).bind λx=>fW x.1) (eC C b) mJ ρ:=rfl
def GG(h:n<=1000):2 * n+1<mJ:=by
 unfold mJ;exact jJ h h
def A7(w:wT t)(Y:HI (got t)=E.map cx)(g:gE E)(O:∀e,e∈E↔e∈got t)(ok:∀e∈E,Lg e)(B:∀c∈x,c∈raw t)(hl:x.length<=1000):∃S s,Cn D (n+5) 17 [tb t,sT x]=a_ (.tup [tI (iD S),.lst (S.map cx)],c_)/\Wr E x S x.length s/\(iD S).length<=100000:=by
 have d:=Ib (n:=n+1) w.ok B hl;have f:=Uw (n:=n+1) (by rw[Ia w.ok (GD w.ok),Y]) g.l g.b;have i:=HX (n:=n+1) g hl;refine ac λ_ p=>?_;obtain⟨A,q⟩:=FT w g O B;obtain⟨S,s,y,z,r⟩:=RW (t:=t) g hl (2 * x.length+1) mJ [] 0 lu b_ ⟨rfl,(λ_ h=>nomatch h),aM _,rfl,FT w g O B,br,by simp,A,q,by simp_all⟩ (by split<;>simp) (GG hl)
 have a:(iD S).length<=100000:=by
  have h1:=fU λe he=>(ok e (r.he e he)).k;have:=r.hl.1
  grind
 obtain⟨j,m⟩:=OO a;refine p ?_;refine⟨S,s,fE rfl ?_,r,a⟩
 suffices h:Go (Cn D (n+4)) b17 [a_ (tb t,d_),a_ (sT x,d_),b_,b_,b_,b_,b_,b_] λo=>o=.rt (.tup [tI (iD S),.lst (S.map cx)]) c_ by
  obtain⟨_,h1,rfl⟩:=h;exact h1
 generalize Cn D (n+4)=C at d f i m z ⊢
 have s1:oE C (.exp (.call 10 [.v 0,.v 1])) [a_ (tb t,d_),a_ (sT x,d_),b_,b_,b_,b_,b_,b_]=a_ (.nx [a_ (tb t,d_),a_ (sT x,d_),b_,b_,b_,b_,b_,b_]):=by
  show jC _ (C 10 [tb t,sT x])=_;rw[d];rfl
 refine cF s1 (cF (AX f rfl) (cF (AX i rfl) (fI rfl (cF (eo rfl rfl) (cF (eo rfl rfl) (cF (by rw[JN];exact z) ?_))))));have u:bp C (.call 16 [.v 4]) (full (Jk t x E S x.length s y))=a_ (tI (iD S),j):=m;refine⟨_,Fb ?_,rfl⟩;show(bp C (.call 16 [.v 4]) (full (Jk t x E S x.length s y))).bind _=_;rw[u];show(if im (tI (iD S))=c_ then _ else b_)=_;rw[mr];rfl
end K31E
namespace K31E
open PySem L2 M K31
variable{F:List Ed}{x:List Nat}{p:Nat}{s:be}
structure Rw(ks:List be)(g:Row):Prop where
 nd:ks.Nodup
 mem:∀s,s∈ks↔∃k,g s=a_ k
 st:∀s∈ks,s∈m8
abbrev SR(g:Row)(s:be)(v:Nat):Row:=λr=>if r=s then a_ v else g r
theorem By:∀{l:List be},s∉l->f7 (.inr s) (l.map ba) (l.map g)=b_
 |[],_=>rfl
 |a::r,h=>by
   have q:¬(ba a:Key)=.inr s:=λe=>h (mz e▸jy);show(if(ba a)=.inr s then _ else f7 (.inr s) (r.map ba) (r.map g))=b_;rw[if_neg q,By λm=>h (ki _ m)]
def DV(h:Rw ks g):f7 (.inr s) (ks.map ba) (ks.map λs=>vD (g s))=(g s).map λk=>.int (k:Nat):=by
 by_cases m:s∈ks
 .obtain⟨k,hk⟩:=(h.mem s).mp m;rw[zD m,hk];rfl
 .rw[By m]
  cases q:g s with
  |none=>rfl
  |some k=>exact absurd ((h.mem s).mpr ⟨k,q⟩) m
theorem RJ{g:Row}{v:Nat}:∀{ks:List be},ks.Nodup->∃B:List be,putD (.inr s) (.int (v:Nat)) (ks.map ba) (ks.map λs=>vD (g s))=(B.map ba,B.map λr=>vD (SR g s v r))/\vB (.inr s) (ks.map ba)=c_/\B.Nodup/\∀r,r∈B↔r∈ks\/r=s
 |[],_=>⟨[s],by show([ba s],[Dat.int (v)])=([ba s],[vD (if s=s then a_ v else g s)]);rw[if_pos rfl];rfl,rfl,by simp,by simp⟩
 |a::l,h=>by
   obtain⟨h1,h2⟩:=aX.mp h;by_cases q:a=s
   .subst q
    have e :=cQ λr m=>by
     show vD (g r)=vD (if r=a then a_ v else g r);rw[if_neg λz:r=a=>h1 (z▸m)]
    refine⟨a::l,?_,?_,h,λr=>⟨.inl,λz=>z.elim id λz=>z▸jy⟩⟩
    .show(if(ba a)=.inr a then((ba a)::l.map ba,Dat.int (v)::l.map λr=>vD (g r))else _)=(_,vD (if a=a then a_ v else g a)::_)
     rw[if_pos rfl,if_pos rfl,e];rfl
    .show(if(ba a)=.inr a then !((l.map ba).any λi=>decide (i=(ba a)))else _)=c_
     grind
   .refine ac λ_ d=>?_;obtain⟨B,e1,e2,e3,c⟩:=RJ h2;refine d ?_;have b:¬(ba a:Key)=.inr s:=λe=>q (mz e);refine⟨a::B,?_,?_,aX.mpr ⟨λm=>?_,e3⟩,λr=>?_⟩
    .show(if(ba a)=.inr s then _ else((ba a)::(putD (.inr s) (.int (v)) (l.map ba) (l.map λs=>vD (g s))).1,vD (g a)::(putD (.inr s) (.int (v)) (l.map ba) (l.map λs=>vD (g s))).2))=(_,vD (if a=s then a_ v else g a)::_)
     rw[if_neg b,if_neg q,e1];rfl
    .show(if(ba a)=.inr s then _ else vB (.inr s) (l.map ba))=c_;rw[if_neg b,e2]
    .grind
    .rw[au,au,c,or_assoc]
def YH{ks:List be}{g:Row}(h:Rw ks g)(hs:s∈m8)(v:Nat):∃B,jx .seti (dD ks g) [.int (v:Nat),.str s]=a_ (dD B (SR g s v))/\Rw B (SR g s v):=by
 obtain⟨B,e1,e2,e3,a⟩:=RJ h.nd;refine⟨B,?_,e3,λr=>?_,λr m=>?_⟩
 .show(if(ks.map ba).length<aB/\vB (.inr s) (ks.map ba)=c_ then a_ (Dat.dct (putD (.inr s) (.int (v)) (ks.map ba) (ks.map λs=>vD (g s))).1 (putD (.inr s) (.int (v)) (ks.map ba) (ks.map λs=>vD (g s))).2)else b_)=_;rw[if_pos ⟨by rw[aw];exact aq (zv h.nd h.st) br,e2⟩,e1]
 .rw[a];show _↔∃k,(if r=s then a_ v else g r)=a_ k;by_cases q:r=s
  .simp[q]
  .rw[h.mem];simp[q]
 .rcases(a r).mp m with m|m
  .exact h.st r m
  .exact m▸hs
structure CT(L:List Dat)(n:Nat)(G:Nat->Row):Prop where
 l:L.length=n+1
 r:∀q,q<=n->∃ks,L[q]?=a_ (dD ks (G q))/\Rw ks (G q)
abbrev SU(G:Nat->Row)(p:Nat)(s:be)(v:Nat):Nat->Row:=λq=>if q=p then SR (G p) s v else G q
section
variable{L:List Dat}{G:Nat->Row}
def RV{ρ:dG}{ke xi xe:Ex}{O Y Z:Bool}(h:CT L n G)(hp:p<=n)(hs:s∈m8)(h2:(ρ[2]?).join=a_ (.lst L,c_))(e1:bp C xe (full ρ)=a_ (.int (v:Nat),O))(e2:bp C ke (full ρ)=a_ (.int (p:Nat),Y))(e3:bp C xi (full ρ)=a_ (.str s,Z)) :
  ∃B,oE C (.LB 2 ke xi xe) ρ=a_ (.nx (ρ.set 2 (a_ (.lst B,c_))))/\CT B n (SU G p s v):=by
 obtain⟨ks,f,b⟩:=h.r p hp;obtain⟨a,b1,b2⟩:=YH b hs v;refine⟨L.set p (dD a (SR (G p) s v)),?_,by rw[List.length_set];exact h.l,λq c=>?_⟩
 .have h1:yk L.length ((p))=a_ p:=by
   unfold yk;rw[if_pos (gG _),if_pos (by rw[h.l];exact C9.mpr (bb hp))];simp
  have h3:Lu .seti [.int (v),.str s] (.lst L) (.int (p))=a_ (.lst (L.set p (dD a (SR (G p) s v)))):=by
   show((yk L.length ((p))).bind λj=>(L[j]?).bind λd=>(jx .seti d [.int (v),.str s]).map λd'=>Dat.lst (L.set j d'))=_
   simp_all
  show bB (bp C xe (full ρ)) _=_;rw[e1];rw[e2];rw[e3];rw[h2];show(Lu .seti [.int (v),.str s] (.lst L) (.int (p))).map _=_;rw[h3];rfl
 .by_cases e:q=p
  .subst e;rw[j8 (by rw[h.l];exact bb hp)];show ∃ks,a_ (dD a _)=a_ (dD ks (if q=q then _ else _))/\Rw ks (if q=q then _ else _);rw[if_pos rfl];exact⟨a,rfl,b2⟩
  .rw[lj (dR e)];show ∃ks,L[q]?=a_ (dD ks (if q=p then _ else _))/\Rw ks (if q=p then _ else _);rw[if_neg e];exact h.r q c
def GY(h:CT L n G)(B:q<=n):∃ks,tU (.lst L) (.int (q:Nat))=a_ (dD ks (G q))/\Rw ks (G q):=
 let ⟨ks,a,b⟩:=h.r q B
 ⟨ks,jX a,b⟩
def LX(h:Rw ks g):gn .isin (.str s) (dD ks g)=a_ (g s).isSome:=by
 show a_ (f7 (.inr s) (ks.map ba) (ks.map λs=>vD (g s))).isSome=_;rw[DV h];cases g s<;>rfl
def Y0(h:Rw ks g)(e:g s=a_ v):tU (dD ks g) (.str s)=a_ (.int (v:Nat)):=by
 show f7 (.inr s) (ks.map ba) (ks.map λs=>vD (g s))=_;rw[DV h,e];rfl
def Zd(h:Rw ks g):iE .get (dD ks g) [.str s,.int (v:Nat)]=a_ (.int ((g s).getD v:Nat),d_):=by
 show a_ ((f7 (.inr s) (ks.map ba) (ks.map λs=>vD (g s))).getD (.int (v)),d_)=_;rw[DV h];cases g s<;>rfl
def aa4(h1:bp C a ρ=a_ (x',f))(h2:bp C b ρ=a_ (y,g))(h3:bp C c ρ=a_ (z,h))(h:iE o x' [y,z]=r):bp C (.iF o a [b,c]) ρ=r:=by rw[uK,h1,bP,h2,bP,h3];exact h
def wH(x:List Nat)(p:Nat)(e:Ed)(G:Nat->Row):Nat->Row:=if pre x p e=c_ then match G (p+e.2.1.length) e.2.2.2 with
 |none=>G
 |some c=>SU G p e.1 (min ((G p e.1).getD (e.2.2.1.length+c)) (e.2.2.1.length+c))else G
abbrev W7(F:List Ed)(x:List Nat)(L:List Dat)(B O Y Z z8:g_)(p:Nat):dG:=[a_ (.lst (F.map cx),d_),a_ (sT x,d_),a_ (.lst L,c_),B,O,a_ (.int (p:Nat),d_),Y,Z,z8]
def UJ(e:Ed):decide ((x.drop p).take e.2.1.length=e.2.1)=pre x p e:=decide_eq_decide.mpr ⟨λh=>jO.mpr h.symm,λh=>(jO.mp h).symm⟩
def Kj(B:x.length<=1000)(hp:p<=x.length)(h1:bp C a ρ=a_ (sT x,f1))(h2:bp C b ρ=a_ (.int (p:Nat),f2))(h3:bp C c ρ=a_ (.int ((p+e.2.1.length:Nat):Int),f3))(O:bp C d ρ=a_ (sT e.2.1,f4)) :
  bp C (.cmp .eq (.sl a (a_ b) (a_ c)) d) ρ=a_ (.bl (pre x p e),d_):=by
 refine gH (x':=sT ((x.drop p).take e.2.1.length)) (f:=d_) ?_ O ?_
 .rw[GJ,h1];show bB (Bi (bp C b ρ)) _=_;rw[h2];show bB (Bi (bp C c ρ)) _=_;rw[h3];show(if(T x).length<=aB then a_ (Dat.str (bY (T x) (a_ (p)) (a_ ((p+e.2.1.length:Nat)))),d_)else b_)=_;rw[if_pos (by exact aa B br),Kg hp (aW _ _),di]
 .rw[Zq,UJ]
def Tc{e:Ed}{Y Z z6 z7 O:g_}(hx:x.length<=1000)(hp:p<=x.length)(he:Lg e)(h:CT L x.length G):∃ρ1,iw c_ [6] (cx e) (W7 F x L Y Z z6 z7 O p)=a_ ρ1/\Go C YU ρ1 λo=>∃ρ2,o=.nx ρ2/\∃B z6 z7 O,ρ2=W7 F x B Y Z z6 z7 O p/\CT B x.length (wH x p e G):=by
 refine⟨_,rfl,?_⟩;have hl:=he.t;refine cF (eo (g7 rfl (j5 rfl (len_T (aa hl br))) (by rw[jA])) rfl) ?_;have f:=Kj (C:=C) (ρ:=full (W7 F x L Y Z (a_ (cx e,d_)) (a_ (.int ((p+e.2.1.length)),d_)) O p)) (a:=.v 1) (b:=.v 5) (c:=.v 7) (d:=.ix (.v 6) (.e_ 1)) hx hp rfl rfl rfl rfl;by_cases q:pre x p e=c_
 .have hlen:=(of_decide_eq_true q).length_le;rw[q]at f;obtain⟨ks,c1,c2⟩:=GY h (q:=p+e.2.1.length) (jJ (ws hp) hlen);have l:bp C (.cmp .isin (.ix (.v 6) (.e_ 3)) (.ix (.v 2) (.v 7))) (full (W7 F x L Y Z (a_ (cx e,d_)) (a_ (.int ((p+e.2.1.length)),d_)) O p))=a_ (.bl (G (p+e.2.1.length) e.2.2.2).isSome,d_):=gH rfl (BD rfl rfl c1) (LX c2);have g:=(jc f).trans ((if_pos rfl).trans l)
  cases k:G (p+e.2.1.length) e.2.2.2 with
  |none=>
    rw[k]at g;exact lX g (bR ⟨_,rfl,L,_,_,_,rfl,by unfold wH;simp_all⟩)
  |some c=>
    rw[k]at g;refine kD (J:=λρ=>∃B O,ρ=W7 F x B Y Z (a_ (cx e,d_)) (a_ (.int ((p+e.2.1.length)),d_)) O p/\CT B x.length (wH x p e G)) g (λ_=>?_) (λz=>nomatch z) λρ' h=>bR ⟨_,rfl,by obtain⟨B,z,h1,h2⟩:=h;exact⟨B,_,_,z,h1,h2⟩⟩;refine cF (eo (g7 (j5 rfl (o9 _)) (BD (BD rfl rfl c1) rfl (Y0 c2 k)) (by rw[jA,show((e.2.2.1.length):Int)+((c))=((e.2.2.1.length+c)) by rfl])) rfl) ?_;refine ac λ_ j=>?_;obtain⟨kp,d1,d2⟩:=GY h hp
    obtain⟨B,m1,m2⟩:=RV (ρ:=W7 F x L Y Z (a_ (cx e,d_)) (a_ (.int ((p+e.2.1.length)),d_)) (a_ (.int ((e.2.2.1.length+c)),d_)) p) (v:=min ((G p e.1).getD (e.2.2.1.length+c)) (e.2.2.1.length+c)) (ke:=.v 5) (xi:=.ix (.v 6) (.e_ 0)) (xe:=.bin .mn (.v 8) (.iF .get (.ix (.v 2) (.v 5)) [(.ix (.v 6) (.e_ 0)),(.v 8)])) h hp he.b rfl (g7 rfl (aa4 (BD rfl rfl d1) rfl rfl (Zd d2)) (by
     refine congrArg (λi=>a_ (Dat.int i,d_)) ?_
     split<;>omega)) rfl rfl
    refine j ?_;exact cF m1 (bR ⟨_,rfl,B,_,rfl,by unfold wH;simp_all⟩)
 .rw[Bool.not_eq_true]at q;rw[q]at f;exact lX ((jc f).trans (if_neg br)) (bR ⟨_,rfl,L,_,_,_,rfl,by unfold wH;simp_all⟩)
end
end K31E
namespace K31E
open PySem L2 M K31
variable{E F:List Ed}{x:List Nat}{p:Nat}{s:be}{G:Nat->Row}
def KQ(g:gE E)(hp:p<=x.length)(he:e∈E)(B:pre x p e=c_)(h:iS E x (p+e.2.1.length) e.2.2.2=a_ c):∃j,iS E x p e.1=a_ j/\j<=e.2.2.1.length+c:=by
 rw[nY g hp];split
 .simp
 .have m:e.2.2.1.length+c∈v7 E x p e.1 λe=>iS E x (p+e.2.1.length) e.2.2.2:=fS.mpr ⟨e,bJ.mpr ⟨bJ.mpr ⟨he,by simp⟩,B⟩,by simp_all⟩;refine (?_ : ∃j,sY _=a_ j/\_)
  cases q:sY (v7 E x p e.1 λe=>iS E x (p+e.2.1.length) e.2.2.2)with
  |none=>rw[x9.mp q]at m;cases m
  |some j=>exact⟨j,rfl,(sX.mp q).2 _ m⟩
set_option tactic.hygienic true in
def DI(g:gE E)(hp:p<=x.length)(h:iS E x p s=a_ k):(p=x.length/\s∈rT/\k=0)\/∃e∈E,e.1=s/\pre x p e=c_/\∃j,iS E x (p+e.2.1.length) e.2.2.2=a_ j/\k=e.2.2.1.length+j:=by
 rw[nY g hp]at h;split at h
 .rename_i q;cases h;exact .inl ⟨q.1,q.2,rfl⟩
 .obtain⟨e,he,q⟩:=fS.mp (sX.mp h).1;obtain⟨h1,h2⟩:=bJ.mp he;obtain⟨j,b,rfl⟩:=dY q;exact .inr ⟨e,(bJ.mp h1).1,by simpa using (bJ.mp h1).2,h2,j,b,rfl⟩
def zq(hp:p<=x.length)(h:pre x p e=c_):p+e.2.1.length<=x.length:=by
 grind
structure Iv(E F:List Ed)(x:List Nat)(p:Nat)(us:List Ed)(G:Nat->Row):Prop where
 hi:∀q,p<q->q<=x.length->G q=iS E x q
 lo:∀q,q<p->∀s,G q s=b_
 a:∀s k,G p s=a_ k->∃j,iS E x p s=a_ j/\j<=k
 b:∀e∈us,pre x p e=c_->e.2.1≠[]->∀j,iS E x (p+e.2.1.length) e.2.2.2=a_ j->∃k,G p e.1=a_ k/\k<=e.2.2.1.length+j
 c:∀e∈us.drop F.length,e.2.1=[]->∀j,iS E x p j3=a_ j->∃k,G p lI=a_ k/\k<=e.2.2.1.length+j
 z:p=x.length->∀s∈rT,G p s=a_ 0
def JT:SU G p s v p=SR (G p) s v:=if_pos rfl
def Rz(h:q≠p):SU G p s v q=G q:=if_neg h
def LM(g:gE E)(B:∀e,e∈F↔e∈E)(hp:p<=x.length)(h:Iv E F x p us G)(O:∀e∈F,e∈us)(Y:iS E x p j3=a_ j):∃k,G p j3=a_ k/\k<=j:=by
 rcases DI g hp Y with⟨_,q,_⟩|⟨e,he,h1,h2,i,hi,rfl⟩
 .exact absurd q br
 .have a:e.2.1≠[]:=λq=>by
   have:=(g.n e he q).1;rw[h1]at this;exact absurd this br
  rw[<-h1];exact h.b e (O e ((B e).mpr he)) h2 a i hi
def Qi(g:gE E)(O:∀e,e∈F↔e∈E)(hp:p<=x.length)(Y:F++F=us++e::vs)(h:Iv E F x p us G):Iv E F x p (us++[e]) (wH x p e G):=by
 have C:e∈F:=by
  have:e∈F++F:=by rw[Y];simp
  rcases ax.mp this with m|m<;>exact m
 have he:=(O e).mp C
 have i:∀d∈(us++[e]).drop F.length,d∈us.drop F.length\/(d=e/\F.length<=us.length):=λd m=>by
  by_cases q:F.length<=us.length
  .rw[uV q]at m
   rcases ax.mp m with m|m
   .exact .inl m
   .exact .inr ⟨aE.mp m,q⟩
  .rw[List.drop_of_length_le (by rw[ag];exact cB q)]at m;cases m
 have o:F.length<=us.length->∀d∈F,d∈us:=λq d m=>by
  exact(List.prefix_of_prefix_length_le (by rw[<-Y];exact Jq _ _) (Jq _ _) q).subset m
 unfold wH;by_cases q:pre x p e=c_
 .rw[if_pos q];have hlen:=zq hp q
  cases t:G (p+e.2.1.length) e.2.2.2 with
  |none=>
    refine⟨h.hi,h.lo,h.a,λd m f u j l=>?_,λd m f j l=>?_,h.z⟩
    .rcases ax.mp m with m|m
     .exact h.b d m f u j l
     .cases aE.mp m;rw[h.hi _ (eX (cT.mpr u) _) hlen,l]at t;cases t
    .rcases i d m with m|⟨rfl,D⟩
     .exact h.c d m f j l
     .obtain⟨k,hk,_⟩:=LM g O hp h (o D) l;rw[f,(g.n d he f).2]at t;rw[show G (p+([]).length) "let"=G p j3 from rfl,hk]at t;cases t
  |some c=>
    show Iv E F x p _ (SU G p e.1 (min ((G p e.1).getD (e.2.2.1.length+c)) (e.2.2.1.length+c)));generalize v:min ((G p e.1).getD (e.2.2.1.length+c)) (e.2.2.1.length+c)=w;have K :=aa (ae v.symm) (hJ _ _);have B:w=e.2.2.1.length+c\/G p e.1=a_ w:=by
     cases hk:G p e.1 with
     |none=>rw[hk]at v;left;rw[<-v];exact C6 _
     |some k=>
       rw[hk]at v;have:min k (e.2.2.1.length+c)=w:=v;by_cases z:k<=e.2.2.1.length+c
       .right;rw[<-this,eB z]
       .left;exact Nat.le_antisymm (gm K) (jJ (a1 k (e.snd.snd.fst.length + c) (gm (Nat.lt_of_not_le z))) (Nat.le_of_eq this))
    have dn:∀s k,G p s=a_ k->∃k',SU G p e.1 w p s=a_ k'/\k'<=k:=λs k hk=>by
     rw[JT];show ∃k',(if s=e.1 then a_ w else G p s)=a_ k'/\_;by_cases z:s=e.1
     .rw[if_pos z];exact⟨w,rfl,(λk hk=>by rw[hk]at v;rw[<-v];exact iL _ _) k (z▸hk)⟩
     .rw[if_neg z];exact⟨k,hk,ao _⟩
    have hs:SU G p e.1 w p e.1=a_ w:=by rw[JT];exact if_pos rfl
    refine⟨λr h1 h2=>by rw[Rz (kr h1)];exact h.hi r h1 h2,λr h1=>by rw[Rz (bw h1)];exact h.lo r h1,λs k hk=>?_,λd m f u j l=>?_,λd m f j l=>?_,λz s H=>?_⟩
    .rw[JT]at hk;have hk:(if s=e.1 then a_ w else G p s)=a_ k:=hk;by_cases z:s=e.1
     .rw[if_pos z]at hk;cases hk;subst z
      rcases B with B|B
      .have:∃I,iS E x (p+e.2.1.length) e.2.2.2=a_ I/\I<=c:=by
        by_cases y:e.2.1=[]
        .rw[y]at t ⊢;exact h.a _ _ t
        .rw[h.hi _ (eX (cT.mpr y) _) hlen]at t;exact⟨c,t,ao _⟩
       obtain⟨I,h1,h2⟩:=this;obtain⟨j,h3,A⟩:=KQ g hp he q h1;exact⟨j,h3,pY A (ae B.symm) h2⟩
      .exact h.a _ _ B
     .rw[if_neg z]at hk;exact h.a s k hk
    .rcases ax.mp m with m|m
     .obtain⟨k,h1,h2⟩:=h.b d m f u j l;obtain⟨k',h3,A⟩:=dn _ _ h1;exact⟨k',h3,aa A h2⟩
     .cases aE.mp m;have :=cT.mpr u;rw[h.hi _ (eX this _) hlen,l]at t;cases t;exact⟨w,hs,K⟩
    .rcases i d m with m|⟨rfl,D⟩
     .obtain⟨k,h1,h2⟩:=h.c d m f j l;obtain⟨k',h3,A⟩:=dn _ _ h1;exact⟨k',h3,aa A h2⟩
     .obtain⟨k,hk,J⟩:=LM g O hp h (o D) l;obtain⟨M,N⟩:=g.n d he f;rw[f,N]at t;rw[show G (p+([]).length) "let"=G p j3 from rfl,hk]at t;cases t;rw[show(lI)=d.1 from M.symm];exact⟨w,hs,aa K (eX J _)⟩
    .obtain⟨k',h3,A⟩:=dn _ _ (h.z z s H);rw[h3,Nat.le_zero.mp A]
 .rw[if_neg q];refine⟨h.hi,h.lo,h.a,λd m f u j l=>?_,λd m f j l=>?_,h.z⟩
  .rcases ax.mp m with m|m
   .exact h.b d m f u j l
   .cases aE.mp m;exact absurd f q
  .rcases i d m with m|⟨rfl,_⟩
   .exact h.c d m f j l
   .exact absurd (decide_eq_true (by rw[f];exact NW)) q
def VZ(g:gE E)(B:∀e,e∈F↔e∈E)(hp:p<=x.length)(h:Iv E F x p (F++F) G):G p=iS E x p:=by
 have up:∀s j,iS E x p s=a_ j->∃k,G p s=a_ k/\k<=j:=λs j l=>by
  rcases DI g hp l with⟨o,d,rfl⟩|⟨e,he,h1,h2,i,hi,rfl⟩
  .exact⟨0,h.z o s d,ao _⟩
  .by_cases y:e.2.1=[]
   .rw[y,(g.n e he y).2]at hi;rw[<-h1,(g.n e he y).1];exact h.c e (by rw[jf];exact(B e).mpr he) y i hi
   .rw[<-h1];exact h.b e ((λe m=>az _ m) e ((B e).mpr he)) h2 y i hi
 funext s
 cases q:iS E x p s with
 |none=>
   cases d:G p s with
   |none=>rfl
   |some k=>obtain⟨j,h1,_⟩:=h.a s k d;rw[q]at h1;cases h1
 |some j=>
   obtain⟨k,h1,h2⟩:=up s j q;obtain⟨j',h3,u⟩:=h.a s k h1;rw[q]at h3;cases h3;rw[h1,aC h2 u]
end K31E
namespace K31E
open PySem L2 M K31
variable{F:List Ed}{x:List Nat}{s:be}
def CT.to{G:Nat->Row}(h:CT L n G)(e:∀q,q<=n->G q=G' q):CT L n G':=⟨h.l,λq a=>by rw[<-e q a];exact h.r q a⟩
def WS(h:aO m=us++b::vs):b=us.length/\us.length<m:=by
 have h1:us.length<m:=by have:=congrArg fA h;simp at this;simp_all
 have h2:=congrArg (·[us.length]?) h;simp[h1]at h2;exact⟨h2.symm,h1⟩
set_option tactic.hygienic true in
def xY(g:gE E)(Y:∀e,e∈F↔e∈E)(ok:∀e∈F,Lg e)(hl:F.length<=1000)(B:x.length<=900):∃L,Cn D (n+1) 31 [.lst (F.map cx),sT x]=a_ (.lst L,c_)/\CT L x.length (iS E x):=by
 suffices h:Go (Cn D n) b31 [a_ (.lst (F.map cx),d_),a_ (sT x,d_),b_,b_,b_,b_,b_,b_,b_] λo=>∃L,o=.rt (.lst L) c_/\CT L x.length (iS E x) by
  refine ac λ_ V=>?_;obtain⟨_,h1,L,rfl,h2⟩:=h;refine V ?_;exact⟨L,fE rfl h1,h2⟩
 generalize Cn D n=C;have l :=len_T (aa B br);have u:∀{ρ:iy},bp C (.v 1) ρ=a_ (sT x,d_)->bp C (.bin .add (.blt .len [.v 1]) (.e_ 1)) ρ=a_ (.int ((x.length+1)),d_):=λh=>g7 (j5 h l) rfl (by rfl);refine fI (pN (vX (u rfl) (aq B br)) (by rw[aw,bo];exact aq B br) (by rw[zz])) ?_
 refine jU (xs:=rT) (I:=λus ρ=>∃L c,ρ=[a_ (.lst (F.map cx),d_),a_ (sT x,d_),a_ (.lst L,c_),c,b_,b_,b_,b_,b_]/\CT L x.length λq s=>if q=x.length/\s∈us then a_ 0 else b_)
  (k9 rfl rfl rfl) ⟨_,b_,rfl,by simp,λq r=>⟨[],?_,ee,λs=>?_,λs m=>nomatch m⟩⟩ ?_ ?_
 .rw[eK,if_pos (by simp;exact bb r)];rfl
 .simp
 .rintro us s vs _ H ⟨L,c,rfl,h⟩;refine⟨_,rfl,?_⟩
  obtain⟨J,m1,m2⟩:=RV (ρ:=[a_ (.lst (F.map cx),d_),a_ (sT x,d_),a_ (.lst L,c_),a_ (.str s,d_),b_,b_,b_,b_,b_]) (ke:=.blt .len [.v 1]) (xi:=.v 3) (xe:=.e_ 0) h (ao _) (by
   exact(by decide:∀s∈rT,s∈m8) s (by rw[H];simp)) rfl rfl (j5 rfl l) rfl
  refine cF m1 (bR ⟨_,rfl,J,_,rfl,m2.to λq r=>?_⟩)
  grind
 rintro _ ⟨L,c,rfl,h⟩
 refine Ec (P:=(·= x.length+1)) (I:=λus ρ=>∃L G c K M d i j,ρ=[a_ (.lst (F.map cx),d_),a_ (sT x,d_),a_ (.lst L,c_),c,K,M,d,i,j]/\CT L x.length G/\∀q,q<=x.length->(x.length<q+us.length->G q=iS E x q)/\(¬x.length<q+us.length->∀s,G q s=if q=x.length/\s∈rT then a_ 0 else b_))
  ⟨_,d_,u rfl,rfl⟩ (λm S=>(aa (ae S) (aq B br))) ⟨L,_,c,b_,b_,b_,b_,b_,rfl,h,λq r=>⟨λz=>absurd z (by simp;omega),λ_ s=>rfl⟩⟩ ?_ ?_
 .rintro m rfl us b vs _ H ⟨L,G,c,K,M,d,i,j,rfl,h,t⟩;obtain⟨rfl,hb⟩:=WS H;refine⟨_,rfl,?_⟩;obtain⟨p,hp⟩:∃p,p+us.length=x.length:=⟨x.length - us.length,mR (aU hb)⟩
  refine cF (eo (g7 (j5 rfl l) rfl (by rw[EG,show((x.length):Int) - ((us.length))=(p) by omega])) rfl) ?_;have a :=aa (aW _ _) (ae hp)
  have N:Iv E F x p [] G:=by
   refine⟨λq h1 h2=>(t q h2).1 (jJ (ae hp.symm) h1),λq h1 s=>?_,λs k hk=>?_,(λ_ m=>nomatch m),(λ_ m=>by simp_all),λz s hs=>?_⟩
   .rw[(t q (aD (aa h1 a))).2 (λz=>(P9 z h1 (ae hp))) s,if_neg (λz=>(aS h1 (aa a (ae z.1.symm))))]
   .rw[(t p a).2 (λz=>(aS z (ae hp))) s]at hk;split at hk
    .rename_i q;exact⟨0,by rw[nY g a,if_pos q],aM _⟩
    .cases hk
   .rw[(t p a).2 (λz=>(aS z (ae hp))) s,if_pos ⟨z,hs⟩]
  refine jU (I:=λw ρ=>∃L G d i j,ρ=W7 F x L c (a_ (.int (us.length),d_)) d i j p/\CT L x.length G/\Iv E F x p w G)
   (k9 (f:=kC (F.map cx++F.map cx)) (g7 rfl rfl (by rw[om (by simp;exact aa (dA hl hl) br),<-dJ])) rfl (by rw[<-dJ,D5,tN])) ⟨L,G,_,_,_,rfl,h,N⟩ ?_ ?_
  .rintro w e T _ y ⟨L,G,d,i,j,rfl,h,A⟩
   have he:e∈F:=by
    have:e∈F++F:=by rw[y];simp
    grind
   refine ac λ_ V=>?_;obtain⟨ρ1,h1,o,h2,U,rfl,J,O,Q,R,rfl,h3⟩:=Tc (aa B br) a (ok e he) h;refine V ?_;exact⟨ρ1,h1,_,h2,_,rfl,J,_,O,Q,R,rfl,h3,Qi g Y a y A⟩
  .rintro _ ⟨L,G,d,i,j,rfl,h,A⟩;refine bR ⟨_,rfl,L,G,c,_,_,d,i,j,rfl,h,λq r=>?_⟩;rw[ag];show(_<q+(us.length+1)->_)/\(¬_<q+(us.length+1)->_)
   refine⟨λz=>?_,λz s=>?_⟩
   .by_cases e:q=p
    .rw[e];exact VZ g Y a A
    .exact A.hi q (bC (jJ (ae hp) z) (dR e)) r
   .rw[A.lo q (jJ (cB z) (ae hp.symm)) s,if_neg (λz=>by omega)]
 .rintro m rfl _ ⟨L,G,c,K,M,d,i,j,rfl,h,t⟩;exact⟨_,rfl,L,rfl,h.to λq r=>(t q r).1 (by simp;exact lK _ _)⟩
end K31E
namespace K31E
open PySem L2 M K31
variable{E F:List Ed}{x:List Nat}{p:Nat}{s:be}
def Zr(g:gE E)(h:iS E x x.length s=a_ j):s∈rT/\j=0:=by
 have hs:s∈rT:=by
  rcases DI g (ao _) h with⟨_,q,_⟩|⟨e,he,rfl,h2,_⟩
  .exact q
  .have a:=of_decide_eq_true h2;rw[uv]at a;rw[(g.n e he (List.prefix_nil.mp a)).1];decide
 rw[nY g (ao _),if_pos ⟨rfl,hs⟩]at h
 grind
abbrev sel(E:List Ed)(x:List Nat)(p:Nat)(s:be)(e:Ed):Bool:=e.1 == s && (pre x p e && (iS E x (p+e.2.1.length) e.2.2.2).isSome)
abbrev EW(N:Dat)(F:List Ed)(x:List Nat)(L:List Dat)(p:Nat)(s:be)(S:List Ed)(O Y B:g_):dG:=[a_ (N,d_),a_ (.int 31,d_),a_ (.lst (F.map cx),d_),a_ (sT x,d_),a_ (.lst L,c_),a_ (.int (p:Nat),d_),a_ (.str s,d_),a_ (.lst (S.map cx),c_),O,Y,B]
section
variable{C:Fs}{S:List Ed}
def Ta{us:List Ed}(Z:x.length<=900)(hp:p<=x.length)(he:Lg e)(hu:us.length<1000)(h:CT L x.length (iS E x)):∃ρ1,iw c_ [9] (cx e) (EW N F x L p s S (a_ (.lst ((us.filter (sel E x p s)).map cx),c_)) Y B)=a_ ρ1/\Go C YT ρ1 λo=>∃O,o=.nx O/\∃Y B,O=EW N F x L p s S (a_ (.lst (((us++[e]).filter (sel E x p s)).map cx),c_)) Y B:=by
 refine⟨_,rfl,?_⟩;have hl:=he.t;have g :=len_T (aa hl br);refine cF (eo (g7 rfl (j5 rfl g) (by rw[jA])) rfl) ?_;have i:(us.filter (sel E x p s)).length<=us.length:=c8 _ _;rw[r8];generalize us.filter (sel E x p s)=R at *;have j:bp C (.cmp .eq (.ix (.v 9) (.e_ 0)) (.v 6)) (full (EW N F x L p s S (a_ (.lst (R.map cx),c_)) (a_ (cx e,d_)) (a_ (.int ((p+e.2.1.length:Nat)),d_))))=a_ (.bl (e.1 == s),d_):=gH rfl rfl Zm;have k:=Kj (C:=C) (ρ:=full (EW N F x L p s S (a_ (.lst (R.map cx),c_)) (a_ (cx e,d_)) (a_ (.int ((p+e.2.1.length:Nat)),d_)))) (a:=.v 3) (b:=.v 5) (c:=.v 10) (d:=.ix (.v 9) (.e_ 1)) (aa Z br) hp rfl rfl rfl rfl
 have f:bp C (.and (.cmp .eq (.ix (.v 9) (.e_ 0)) (.v 6)) (.and (.cmp .eq (.sl (.v 3) (a_ (.v 5)) (a_ (.v 10))) (.ix (.v 9) (.e_ 1))) (.cmp .isin (.ix (.v 9) (.e_ 3)) (.ix (.v 4) (.v 10))))) (full (EW N F x L p s S (a_ (.lst (R.map cx),c_)) (a_ (cx e,d_)) (a_ (.int ((p+e.2.1.length:Nat)),d_))))=a_ (.bl (sel E x p s e),d_):=by
  rw[jc j,sel]
  cases e.1 == s with
  |false=>rfl
  |true=>
    rw[jc k]
    cases q:pre x p e with
    |false=>rfl
    |true=>
      obtain⟨ks,c1,c2⟩:=GY h (zq hp q);exact gH rfl (BD rfl rfl c1) (LX c2)
 cases q:sel E x p s e with
 |false=>
   rw[q]at f;rw[AB (by rw[q];decide),NZ,aH];exact lX f (bR ⟨_,rfl,_,_,rfl⟩)
 |true=>
   rw[q]at f;rw[AA q,dJ];refine kD (J:=λρ=>ρ=EW N F x L p s S (a_ (.lst (R.map cx++[cx e]),c_)) (a_ (cx e,d_)) (a_ (.int ((p+e.2.1.length):Int),d_))) f (λ_=>?_) (λz=>nomatch z) λρ' h=>bR ⟨_,rfl,_,_,h⟩;refine tm ⟨cx e,d_,rfl,p8 e,rfl⟩ rfl (by rw[aw];exact aa (aq i hu) br) λd hd=>?_;rw[hd];exact bR ⟨_,rfl,rfl⟩
structure Wk(E:List Ed)(x:List Nat)(S:List Ed)(p:Nat)(s:be):Prop where
 he:∀e∈S,e∈E
 hp:p<=x.length
 hs:s∈m8
 hl:S.length<=2 * p+1/\(s≠j3->S.length<=2 * p)
 hk:∃j,iS E x p s=a_ j/\∀k,iS E x 0 lu=a_ k->k<=(iD S).length+j
def stepK(hd:Dw C N)(g:gE E)(hF:∀e,e∈F↔e∈E)(ok:∀e∈F,Lg e)(hFl:F.length<=1000)(hx:x.length<=400)(h:Wk E x S p s)(hp:p<x.length)(hL:CT L x.length (iS E x)):∃e y8 y9 Y,eC C N4 (EW N F x L p s S Z O B)=a_ (.nx (EW N F x L (p+e.2.1.length) e.2.2.2 (S++[e]) y8 y9 Y))/\Wk E x (S++[e]) (p+e.2.1.length) e.2.2.2/\(e.2.1=[]->s=lI/\e.2.2.2=j3):=by
 obtain⟨j,D,hk⟩:=h.hk
 have ne:(F.filter (sel E x p s))≠[]:=by
  obtain⟨e,_,he,hs,b,i,hi,_⟩:=FZ g hp ⟨j,D⟩;have:e∈F.filter (sel E x p s):=bJ.mpr ⟨(hF e).mpr he,by rw[sel,hs,hi,show pre x p e=c_ from decide_eq_true b];simp⟩;exact λz=>by simp_all
 have pick:∀e∈F.filter (sel E x p s),Wk E x (S++[e]) (p+e.2.1.length) e.2.2.2/\(e.2.1=[]->s=lI/\e.2.2.2=j3)/\Lg e:=λe m=>by
  obtain⟨m1,m2⟩:=bJ.mp m;rw[aj,aj]at m2;obtain⟨m2,m3,K⟩:=m2;have hs:e.1=s:=by simpa using m2
  have he:=(hF e).mp m1;obtain⟨i,hi⟩:=jv.mp K;obtain⟨j',h1,h2⟩:=KQ g (aD hp) he m3 hi;rw[hs,D]at h1;cases h1;refine⟨⟨λM h'=>?_,(zq (aD hp) m3),g.o e he,?_,i,hi,λk q=>?_⟩,λq=>hs▸g.n e he q,ok e m1⟩
  .rcases ax.mp h' with q|q
   .exact h.he M q
   simp_all
  .rw[ag];show S.length+1<=_/\(_->S.length+1<=_)
   obtain⟨X,Q⟩:=h.hl;by_cases q:e.2.1=[]
   .obtain⟨G,q2⟩:=g.n e he q;rw[hs]at G;have:=Q (by rw[G];decide)
    simp_all
   .have :=cT.mpr q
    grind
  .have:=hk k q
   grind
 generalize T:F.filter (sel E x p s)=R at ne pick;have hS:=h.hl.1
 suffices r:Go C N4 (EW N F x L p s S Z O B) λo=>∃e∈R,∃Z O B,o=.nx (EW N F x L (p+e.2.1.length) e.2.2.2 (S++[e]) Z O B) by
  refine ac λ_ f=>?_;obtain⟨_,h1,e,m,u,w,c,rfl⟩:=r;refine f ?_;exact⟨e,u,w,c,h1,(pick e m).1,(pick e m).2.1⟩
 refine fI rfl (jU (I:=λus ρ=>∃O B,ρ=EW N F x L p s S (a_ (.lst ((us.filter (sel E x p s)).map cx),c_)) O B) (by rfl) ⟨O,B,rfl⟩ ?_ ?_)
 .rintro us e vs _ U ⟨O,B,rfl⟩;exact Ta (aa hx br) (aD hp) (ok e (by rw[U];simp)) (by grind) hL
 rintro _ ⟨O,B,rfl⟩;rw[T];obtain⟨q,l,V⟩:=hd ((31+S.length)) 70001 (R.length) (by omega) br (pE.mpr (cT.mpr ne));have a:q<R.length:=by omega
 have W:bp C (.call 19 [(.v 0),(.bin .add (.v 1) (.blt .len [(.v 7)])),(.e_ 70001),(.blt .len [(.v 8)])]) (full (EW N F x L p s S (a_ (.lst (R.map cx),c_)) O B))=a_ (.int (q),d_):=by
  rw[kL,bP,bP,g7 rfl (j5 rfl (by rw[wg,aw])) (by exact congrArg (λi=>a_ (Dat.int i,d_)) (by rfl)),bP,bP,j5 rfl (by rw[wg,aw])];exact l
 obtain⟨H,J,y⟩:=pick R[q] (bA a);refine cF (eo (BD rfl W (jX (by rw[aP,af a];rfl))) (p8 _)) ?_;refine tm (P:=(·= cx R[q])) ⟨cx R[q],d_,rfl,p8 _,rfl⟩ rfl (by rw[aw];exact pY hS (Nat.mul_le_mul_left 2 hp) (Nat.mul_le_mul_left 2 hx)) λd hd=>?_;rw[hd,show S.map cx++[cx R[q]]=(S++[R[q]]).map cx by simp];refine cF (eo (g7 rfl (j5 rfl (len_T (aa y.t br))) (by rw[jA])) rfl) ?_;exact cF (eo rfl rfl) (bR ⟨R[q],bA a,_,_,_,rfl⟩)
abbrev Wx(C:Fs)(ρ:dG):Option Bool:=(bp C (.cmp .lt (.v 5) (.blt .len [(.v 3)])) (full ρ)).bind λx=>fW x.1
theorem RX(hd:Dw C N)(g:gE E)(hF:∀e,e∈F↔e∈E)(ok:∀e∈F,Lg e)(Y:F.length<=1000)(hx:x.length<=400)(hL:CT L x.length (iS E x)):∀(m fuel:Nat)(S:List Ed)(p:Nat)(s:be)(Z z9 B:g_),Wk E x S p s->2 * (x.length - p)+(if s=lI then 1 else 0)<=m->m<fuel->∃S' s' y8 y9 O,wV (Wx C) (eC C N4) fuel (EW N F x L p s S Z z9 B)=a_ (.nx (EW N F x L x.length s' S' y8 y9 O))/\Wk E x S' x.length s'
 |m,0,S,p,s,_,_,_,h,a,hf=>absurd hf (pC _)
 |m,fuel+1,S,p,s,Z,z9,B,h,a,hf=>by
   have hc:Wx C (EW N F x L p s S Z z9 B)=a_ (decide (p<x.length)):=by
    have:bp C (.cmp .lt (.v 5) (.blt .len [(.v 3)])) (full (EW N F x L p s S Z z9 B))=a_ (.bl (decide (p<x.length)),d_):=gH rfl (j5 rfl (len_T (aa hx br))) (by
     show a_ (decide ((p:Int)<(x.length)))=_
     rw[decide_eq_decide.mpr (show(p:Int)<(x.length)↔p<x.length by simp)])
    unfold Wx;rw[this];rfl
   unfold wV;rw[hc];by_cases hp:p<x.length
   .rw[decide_eq_true hp];refine ac λ_ b=>?_;obtain⟨e,y8,y9,O,h1,h2,h3⟩:=stepK hd g hF ok Y hx h hp hL;have i:=h2.hp
    obtain⟨c,d⟩:∃c,m=c+1:=⟨m - 1,by
     omega⟩
    subst d
    obtain⟨S',s',j,k,f,l,h5⟩:=RX hd g hF ok Y hx hL c fuel (S++[e]) (p+e.2.1.length) e.2.2.2 y8 y9 O h2 (by
     by_cases q:e.2.1=[]
     .rw[if_pos (h3 q).1]at a;rw[q,(h3 q).2];exact aU a
     .have :=cT.mpr q
      split<;>omega) (aU hf)
    refine b ?_;refine⟨S',s',j,k,f,?_,h5⟩;rw[h1];exact l
   .rw[decide_eq_false hp];have:=aC h.hp (bT hp);subst this;exact⟨S,s,Z,z9,B,rfl,h⟩
end
def Kr{ns:List Int}(g:gE E)(O:∀e,e∈F↔e∈E)(ok:∀e∈F,Lg e)(B:F.length<=1000)(Y:x.length<=60)(hk:iS E x 0 lu=a_ k):∃S:List Ed,Cn D (n+3) 32 [.lst (ns.map Dat.int),.int 31,.lst (F.map cx),sT x]=a_ (.lst (S.map cx),c_)/\k<=(iD S).length/\(iD S).length<=1000:=by
 obtain⟨L,hc,b⟩:=xY g O ok B (aa Y br);have hd:Dw (Cn D (n+2)) (.lst (ns.map Dat.int)):=dw;generalize Dat.lst (ns.map Dat.int)=N at hd ⊢;refine ac λ_ p=>?_;obtain⟨S,s,l,m,c,d,a⟩:=RX hd g O ok B (aa Y br) b (2 * x.length+1) mJ [] 0 lu b_ b_ b_ ⟨(λ_ h=>nomatch h),aM _,br,by simp,k,hk,λk' q=>by simp_all⟩ (by split<;>simp) (GG (aa Y br));obtain⟨j,f,h2⟩:=a.hk;refine p ?_;have:=h2 k hk;have i:=(Zr g f).2;refine⟨S,?_,jJ this (ae i),?_⟩
 .refine fE rfl ?_
  suffices h:Go (Cn D (n+2)) b32 [a_ (N,d_),a_ (.int 31,d_),a_ (.lst (F.map cx),d_),a_ (sT x,d_),b_,b_,b_,b_,b_,b_,b_] λo=>o=.rt (.lst (S.map cx)) c_ by
   obtain⟨_,h1,rfl⟩:=h;exact h1
  exact cF (Fq ((wa rfl rfl).trans hc)) (cF (eo rfl rfl) (cF (eo rfl rfl) (fI rfl (cF (by rw[JN];exact d) ⟨_,rfl,rfl⟩))))
 .have h1:=fU λe he=>(ok e ((O e).mpr (a.he e he))).k;have:=a.hl.1
  grind
end K31E
namespace K31E
open PySem L2 M K31
variable{F:List Ed}{x:List Nat}{s:be}
def A8(us:List Ed)(e:Ed):iD (us++[e])=iD us++e.2.2.1:=by simp[iD]
def N9(us:List Ed)(e:Ed):RA (us++[e])=RA us++e.2.1:=by simp[RA]
def RZ(B:S=us++e::vs):(iD us).length+e.2.2.1.length<=(iD S).length/\(RA us).length+e.2.1.length<=(RA S).length:=by
 subst B;simp
def Kt(hl:(iD S).length<=1000):Cn D (n+1) 33 [.lst (S.map cx)]=a_ (tI (iD S),d_):=by
 refine ph rfl ?_;refine cF (eo rfl rfl) (jU (I:=λus ρ=>∃z,ρ=[a_ (.lst (S.map cx),d_),a_ (tI (iD us),d_),z]) (by rfl) ⟨b_,rfl⟩ ?_ ?_)
 .rintro us e vs _ a ⟨z,rfl⟩;have h1:=(RZ a).1;exact⟨_,rfl,cF (eo (g7 rfl rfl (px _ _ (aa h1 hl))) (mr _)) (bR ⟨_,rfl,_,by rw[A8];rfl⟩)⟩
 .rintro _ ⟨z,rfl⟩;exact⟨_,rfl,rfl⟩
def HQ:Cn D (n+1) 20 [.int k]=a_ (.bl c_,d_):=fE rfl (wX rfl)
def Iy(h:bp C a ρ=a_ (.bl b,f)):bp C (.not a) ρ=a_ (.bl (!b),d_):=by
 rw[Wf,h];rfl
def tQ(h:bp C a ρ=a_ (.bl d_,f))(h':bp C b ρ=a_ (.bl d_,g)):bp C (.or a b) ρ=a_ (.bl d_,g):=by rw[Eo h];exact h'
def HY:Cn D (n+2) 34 [tI cs]=a_ (.bl c_,d_):=by
 refine ph rfl ?_;refine lX rfl (jU (I:=λus ρ=>∃z,ρ=[a_ (tI cs,d_),z]) (k9 rfl rfl (by rw[mr];rfl)) ⟨b_,rfl⟩ ?_ ?_)
 .rintro us k vs _ b ⟨z,rfl⟩;exact⟨_,rfl,lX (Iy ((wb rfl).trans ((λk=>HQ) k))) (bR ⟨_,rfl,_,rfl⟩)⟩
 .rintro _ ⟨z,rfl⟩;exact jT rfl rfl
def Fk(e:Ed):hV 20 (cx e)=c_:=by
 show(c_ && (c_ && (eT 18 (e.2.2.1.map Dat.int) && (c_ && c_))))=c_;rw[qm];rfl
def Zp(e:Ed):oQ (cx e) (cx e)=c_:=by
 have h:nK (e.2.2.1.map Dat.int) (e.2.2.1.map Dat.int)=c_:=by rw[tz];simp
 show((e.1 == e.1) && ((T e.2.1 == T e.2.1) && (nK (e.2.2.1.map Dat.int) (e.2.2.1.map Dat.int) && ((e.2.2.2 == e.2.2.2) && c_))))=c_;rw[h];simp
def Vk(h:e∈F):gn .nin (cx e) (.lst (F.map cx))=a_ d_:=by
 have hs:∀l:List Ed,eT 20 (l.map cx)=c_:=λl=>by
  induction l with
  |nil=>rfl
  |cons a r b=>show(hV 20 (cx a) && eT 20 (r.map cx))=c_;rw[Fk,b];rfl
 show(if(hV 20 (cx e) && eT 20 (F.map cx))=c_ then a_ (!(F.map cx).any λy=>oQ y (cx e))else b_)=_;rw[Fk,hs,show((F.map cx).any λy=>oQ y (cx e))=c_ from oA.mpr ⟨cx e,cP h,Zp e⟩];rfl
theorem zU:∀{S:List Ed}{a b c:be},Ch a S b->Ch a S c->b=c
 |[],_,_,_,h,h'=>h.symm.trans h'
 |_::_,_,_,_,h,h'=>zU h.2 h'.2
theorem MS:∀{us vs:List Ed}{a b:be}{e:Ed},Ch a (us++e::vs) b->Ch a us e.1
 |[],_,_,_,_,h=>h.1.symm
 |_::_,_,_,_,_,h=>⟨h.1,MS h.2⟩
def Zk(a:List Int):gn .eq (tI a) (tI a)=a_ c_:=by rw[Zl (qm 19 _) (qm 19 _),tz,decide_eq_true rfl]
def Y4:∀s∈rT,gn .isin (.str s) (.lst [.str lu,.str iY,.str lI])=a_ c_:=by
 intro s h;rcases (by simpa using h) with rfl|rfl|rfl<;>decide +kernel
abbrev AJ(S:List Ed):Dat:=.tup [tI (iD S),.lst (S.map cx)]
def HV(hc:Ch lu S s)(hs:s∈rT)(he:∀e∈S,e∈F)(ht:RA S=x)(B:(iD S).length<=1000)(O:x.length<=1000):Cn D (n+3) 35 [AJ S,.lst (F.map cx),sT x]=a_ (.bl c_,d_):=by
 have c:∀cs:List Int,Cn D (n+2) 34 [tI cs]=a_ (.bl c_,d_):=λcs=>HY;refine ph rfl ?_;refine lX (tQ rfl (tQ rfl (tQ rfl (Iy ((wb rfl).trans (c _)))))) ?_;refine cF (eo rfl rfl) (cF (eo rfl rfl) (cF (eo (show a_ (Dat.str (ab ""),d_)=a_ (sT [],d_) by rw[NIL]) rfl) ?_));refine jU (I:=λus ρ=>∃st z,ρ=[a_ (AJ S,d_),a_ (.lst (F.map cx),d_),a_ (sT x,d_),a_ (.str st,d_),a_ (tI (iD us),d_),a_ (sT (RA us),d_),z]/\Ch lu us st) (by rfl) ⟨lu,b_,rfl,rfl⟩ ?_ ?_
 .rintro us e vs _ b ⟨st,z,rfl,a⟩;obtain⟨h1,h2⟩:=RZ b;rw[ht]at h2;have d:=MS (b▸hc);have e1:=zU a d;subst e1;refine⟨_,rfl,?_⟩;refine lX (tQ rfl (tQ (gH rfl rfl (Vk (he e (by rw[b];simp)))) (tQ (gH rfl rfl (by rw[YF];simp)) (Iy ((wb rfl).trans (c _)))))) ?_;refine cF (eo rfl rfl) (cF (eo (g7 rfl rfl (px _ _ (aa h1 B))) (mr _)) (cF (eo (g7 rfl rfl (CC (aa h2 (aa O br)))) rfl) (bR ⟨_,rfl,e.2.2.2,a_ (cx e,d_),by rw[A8,N9];rfl,Ey a rfl⟩)))
 .rintro _ ⟨st,z,rfl,a⟩;obtain rfl:=zU a hc;refine jT ?_ rfl;rw[jc (gH rfl rfl (Y4 _ hs)),jc (gH rfl rfl (Zk _))];exact gH rfl rfl (by rw[Zq,decide_eq_true ht])
end K31E
namespace M
open PySem L2
open Builtin Builtin.Str
def Ki{x:List Nat}{p:Nat}(h:p<=x.length):bY (T x) (a_ (p:Int)) b_=T (x.drop p):=by
 rw[qU h (ao _)]
 .rw[dP (by simp)]
 .have h2:¬((x.length:Int)<0):=by simp
  have e:max (0:Int) (min (x.length) (x.length))=x.length:=by simp
  simp only[strSliceIndices,h2,if_false,e,show((1:Int) > 0)=True by simp,if_true]
def Kh{x:List Nat}{q:Nat}(h:q<=x.length):bY (T x) b_ (a_ (q:Int))=T (x.take q):=by
 rw[qU (aM _) h]
 .rfl
 .have e:max (0:Int) (min ((0)) (x.length))=0:=by rfl
  simp only[strSliceIndices,Int.lt_irrefl,if_false,e,show((1) > 0)=True by simp,if_true]
  simp_all
end M
namespace K31E
open PySem L2 M K31
variable{x:List Nat}
def VH(ht:Iu t):(LE t).length<=1000:=by
 have h1:=fU (g:=dg t) (l:=aO t.fg.length) λk _=>ao 3;have h2:=fU (l:=t.fs) λf _=>vN t f;have h3:=ht.hf;have a:=ht.hl;have h5:(if t.fg.isEmpty=c_ then []else [(lI,[],t.m3,j3)]:List Ed).length<=1:=by split<;>simp
 rw[bo]at h1;rw[ag,ag,ag];show 3+_+_+_<=_;omega
structure Pk(C:Fs)(N:Dat)(t:Tb)(x:List Nat)(S:List Ed)(d0:Dat)(L:List Dat)(k:Nat):Prop where
 w:C 17 [tb t,sT x]=a_ (AJ S,c_)
 e:C 28 [tb t]=a_ (.lst ((LE t).map cx),c_)
 c:C 31 [.lst ((LE t).map cx),sT x]=a_ (.lst L,c_)
 c0:tU (.lst L) (.int 0)=a_ d0
 c1:tU d0 (.str lu)=a_ (.int (k:Nat))
 r:C 35 [AJ S,.lst ((LE t).map cx),sT x]=a_ (.bl c_,d_)
 q:(iD S).length=k
 l:S.length<=1000
 wk:∃S':List Ed,C 32 [N,.int 31,.lst ((LE t).map cx),sT x]=a_ (.lst (S'.map cx),c_)/\C 33 [.lst (S'.map cx)]=a_ (tI (iD S'),d_)/\k<=(iD S').length
def pack{ns:List Int}(w:wT t)(B:∀c∈x,c∈raw t)(hl:x.length<=60):∃S d0 L k,Pk (Cn D (n+6)) (.lst (ns.map Dat.int)) t x S d0 L k:=by
 refine ac λ_ z=>?_;obtain⟨E,q,g,p,ok⟩:=MC w;have h :=λe=>(Vv w.ok.hf).trans (p e).symm;have b :=λe m=>ok e ((h e).mp m);have d:=VH w.ok;obtain⟨S,s,i,a,_⟩:=A7 w q g p ok B (aa hl br);obtain⟨j,r,h0⟩:=a.hk;obtain⟨hs,rfl⟩:=Zr g r;have u:=a.hl.1
 have f:(iD S).length<=1000:=by
  have h1:=fU λe he=>(ok e (a.he e he)).k
  grind
 obtain⟨L,l,v⟩:=xY g h b d (aa hl br);obtain⟨ks,c0,y⟩:=GY v (aM _);obtain⟨S',o,h1,h2⟩:=Kr g h b d hl h0;refine z ?_;refine⟨S,_,L,_,i,Uu w.ok,l,c0,Y0 y h0,HV a.hc hs (λe m=>(h e).mpr (a.he e m)) ?_ f (aa hl br),rfl,pY u hl hl,S',o,Kt h2,h1⟩;rw[a.ht,Nm]
def zH(S:List Ed):im (AJ S)=d_:=by
 show(im (tI (iD S)) && (d_ && c_))=d_;rw[mr];rfl
def R3(t:Tb):im (tb t)=c_:=by
 show(kC (t.fs.map iO) && (im (Nw t) && (im (tI t.fg) && c_)))=c_;rw[mV,D6,mr];rfl
section
variable{C:Fs}{N:Dat}{t:Tb}{S:List Ed}{d0:Dat}{L:List Dat}{k:Nat}{ρ:iy}{a b c:Ex}{f1 f2 f3:Bool}
def Pk.least(h:Pk C N t x S d0 L k)(h1:bp C a ρ=a_ (.lst ((LE t).map cx),f1))(h2:bp C b ρ=a_ (sT x,f2)):bp C (.ix (.ix (.call 31 [a,b]) (.e_ 0)) (.con (.str lu))) ρ=a_ (.int (k:Nat),d_):=
 BD (BD ((wa h1 h2).trans h.c) rfl h.c0) rfl h.c1
def Pk.right(h:Pk C N t x S d0 L k)(h0:bp C c ρ=a_ (AJ S,f3))(h1:bp C a ρ=a_ (.lst ((LE t).map cx),f1))(h2:bp C b ρ=a_ (sT x,f2)):bp C (.call 35 [c,a,b]) ρ=a_ (.bl c_,d_):=(MV h0 h1 h2).trans h.r
def Pk.len(h:Pk C N t x S d0 L k)(h0:bp C c ρ=a_ (AJ S,f3)):bp C (.blt .len [.ix c (.e_ 0)]) ρ=a_ (.int (k:Nat),d_):=
 j5 (BD h0 rfl rfl) (by rw[o9,h.q])
def Vl:gn .ne (.int (k:Nat)) (.int (k:Nat))=a_ d_:=by
 simp
end
def OP{ns:List Int}:Cn D (n+7) 36 [.lst (ns.map Dat.int)]=a_ (.bl c_,d_):=by
 obtain⟨t,b,G,w⟩:=HR ;have hd:Dw (Cn D (n+6)) (.lst (ns.map Dat.int)):=dw;have u:=λ(t)(w:wT t)(m)(h:m<=100)=>Ks (n:=n+3) (ns:=ns) w.ok h;have F:=λ(t)(w)(x)(h1:∀c∈x,c∈raw t)(h2)=>pack (n:=n) (ns:=ns) w h1 h2
 suffices h:Go (Cn D (n+6)) b36 [a_ (.lst (ns.map Dat.int),d_),b_,b_,b_,b_,b_,b_,b_,b_,b_,b_,b_] λo=>o=.rt (.bl c_) d_ by
  obtain⟨_,h1,rfl⟩:=h;exact fE rfl h1
 generalize Dat.lst (ns.map Dat.int)=N at *;generalize Cn D (n+6)=C at *;let s:Tb:=⟨t.fs,[],[],[],[],[]⟩
 have M:wT s:=⟨⟨w.ok.ho,w.ok.hl,aM _,aM _,aM _,aM _,aM _⟩,w.own,w.cf,(λm R c hc=>by
  have:m=[]:=by simpa [s]using R
  rw[this]at hc;cases hc),λh=>absurd rfl h,λh=>absurd rfl h⟩
 refine cF (eo G (R3 t)) ?_;obtain⟨_,_,_,_,O⟩:=F t w [] (λ_ h=>nomatch h) br;refine cF (Fq ((wb rfl).trans O.e)) ?_;refine vS (P:=(·<=32)) (gY hd rfl rfl rfl rfl br br br λq h=>by omega) (λv=>tX  (gY hd rfl rfl rfl rfl br br br λ_ _=>trivial) 0) (λv=>MB 13 (P:=(·< 20)) (gY hd rfl rfl rfl rfl br br br λq h=>by omega) λq h=>(gm h)) λm a=>?_;refine ac λ_ f=>?_;obtain⟨x,b',I,i,j⟩:=u t w m (aa a br);obtain⟨S,d0,L,k,g⟩:=F t w x j (aa (ae i) (aa a br));obtain⟨S',U,V,k3⟩:=g.wk;refine f ?_;refine cF (eo ((MV rfl rfl rfl).trans I) rfl) ?_;refine cF (AX ((wa rfl rfl).trans g.w) (zH S)) ?_;refine cF (eo (g.least rfl rfl) rfl) ?_;refine lX (tQ (Iy (g.right rfl rfl rfl)) (gH (g.len rfl) rfl Vl)) ?_
 refine lX (gH (j5 ((wb ((kL.trans (by rw[bP];exact U)))).trans V) (o9 _)) rfl (by
  show a_ (decide (((iD S').length:Int)<(k)))=_
  rw[decide_eq_false (by omega)])) ?_
 have W:oE C (.Xj 5 (.e_ 1) (.e_ 1)) [a_ (N,d_),a_ (tb t,d_),a_ (.lst ((LE t).map cx),c_),a_ (.int (m),d_),a_ (sT x,d_),a_ (AJ S,c_),a_ (.int (k),d_),b_,b_,b_,b_,b_]=a_ (.nx [a_ (N,d_),a_ (tb t,d_),a_ (.lst ((LE t).map cx),c_),a_ (.int (m),d_),a_ (sT x,d_),a_ (.tup [tI (iD S),.lst (S.map cx++[.int 1])],c_),a_ (.int (k),d_),b_,b_,b_,b_,b_]):=by
  have:jx .app (.lst (S.map cx)) [.int 1]=a_ (.lst (S.map cx++[.int 1])):=sU (by rw[aw];exact aq g.l br);refine (?_ : (jC _ (jC _ (jx .app (.lst (S.map cx)) [.int 1])))=_);rw[this];rfl
 refine cF W ?_;refine ac λ_ f=>?_;obtain⟨h,hh,A⟩:∃h:Nat,((m):Int) / 2=h/\h<=x.length:=⟨m / 2,by rfl,aa (Rk _ _) (ae i.symm)⟩
 refine f ?_;have Q:∀{ρ:iy},bp C (.v 3) ρ=a_ (.int (m),d_)->bp C (.bin .fdiv (.v 3) (.e_ 2)) ρ=a_ (.int (h),d_):=λq=>g7 q rfl (by rw[Cy br br,hh]);have hsz:(T x).length<=aB:=by rw[rP];exact aa (ae i) (aa a br)
 refine cF (eo  (g7 (OC  rfl (Q rfl)  (by
  show(if(T x).length<=aB then a_ (Dat.str (bY (T x) (a_ (h)) b_),d_)else b_)=_
  rw[if_pos hsz,Ki A])) (Kk  rfl (Q rfl)  (by
  show(if(T x).length<=aB then a_ (Dat.str (bY (T x) b_ (a_ (h))),d_)else b_)=_
  rw[if_pos hsz,Kh A])) (CC (by rw[dh,dQ];exact Nx (Nat.sub_le x.length h) (Nat.min_le_right h x.length) (Nat.mul_le_mul_left 2 (Nat.le_of_eq i)) (Nat.mul_le_mul_left 2 a)))) rfl) ?_
 refine ac λ_ f=>?_;obtain⟨X,d2,L2,Y,B⟩:=F t w (x.drop h++x.take h) (λc hc=>by
  rcases ax.mp hc with q|q
  .exact j c (eJ q)
  .exact j c (cy q)) (by rw[ag,dh,dQ];exact Nx (ad A) (Nat.min_le_left h x.length) (Nat.le_of_eq i) a)
 refine f ?_;refine cF (AX ((wa rfl rfl).trans B.w) (zH X)) ?_;refine lX (tQ (Iy (B.right rfl rfl rfl)) (gH (B.len rfl) (B.least rfl rfl) Vl)) ?_;refine cF (eo (d:=tb s) rfl (R3 s)) ?_;refine ac λ_ f=>?_;obtain⟨z,b2,E,J,K⟩:=u s M m (aa a br);obtain⟨S3,d3,L3,Z,p⟩:=F s M z K (aa (ae J) (aa a br));refine f ?_;refine cF (eo ((MV rfl rfl rfl).trans E) rfl) ?_;refine lX (Iy (p.right ((wa rfl rfl).trans p.w) ((wb rfl).trans p.e) rfl)) ?_;refine lX (gH (p.len ((wa rfl rfl).trans p.w)) (p.least ((wb rfl).trans p.e) rfl) Vl) ?_;refine cF (AX ((wa rfl rfl).trans g.w) (zH S)) ?_;refine jT  ?_ rfl;rw[jc (g.right rfl rfl rfl)];exact gH (g.len rfl) rfl (by simp)
end K31E
namespace K31
open M
def math(ns:List Int)(h:ns.length<=63):∃fr,Cn D 12 36 [.lst (ns.map Dat.int)]=a_ (.bl c_,fr):=⟨d_,K31E.OP⟩
end K31
namespace M
open PySem PySem.Spec PyProof.Rows L2
section
variable{K:Fg}
mutual
noncomputable def OZ(K:Fg):Dat->ah->Bool
 |.str x,.str y _=>decide (x=y)
 |.int i,.int j _=>decide (i=j)
 | .tup ds,.ref p=>match K.lookup p with
   |some ⟨.type c,b_,.seq its _,_⟩=>decide (c="tuple") && decide (its.size<=aB) && KE K ds its.toList
   |_=>d_
 |_,_=>d_
noncomputable def KE(K:Fg):List Dat->List ah->Bool
 |[],[]=>c_
 |d::ds,u::us=>OZ K d u && KE K ds us
 |_,_=>d_
end
set_option tactic.hygienic true
mutual
theorem FC:∀(d:Dat)(u:ah),OZ K d u=c_->∃v,RelV v u/\CV K d v
 |.str x,.str y t,h=>by
   cases of_decide_eq_true h;exact⟨.str x,⟨t,rfl⟩,λ_=>rfl,λ_ z=>nomatch z⟩
 |.int i,.int j t,h=>by
   cases of_decide_eq_true h;exact⟨.int i,⟨t,rfl⟩,λ_=>rfl,λ_ z=>nomatch z⟩
 |.tup ds,.ref p,h=>by
   unfold OZ at h;split at h
   .rename_i c its n l a;obtain⟨h,h3⟩:=jg.mp h;obtain⟨h1,h2⟩:=jg.mp h;cases of_decide_eq_true h1;obtain⟨vs,r,q⟩:=Bb ds its.toList h3;exact⟨.ref p,rfl,λF=>⟨p,vs,rfl,.inr ⟨_,its,n,a,rfl,rfl,of_decide_eq_true h2,r⟩,q F⟩,λb z=>by cases z;exact⟨_,a,rfl,rfl⟩⟩
   .cases h
theorem Bb:∀(ds:List Dat)(us:List ah),KE K ds us=c_->∃vs,c7 vs us/\∀F,c9 K F ds vs
 |[],[],_=>⟨[],.nil,λ_=>rfl⟩
 |d::ds,u::us,h=>by
   obtain⟨h1,h2⟩:=jg.mp h;obtain⟨v,r,q⟩:=FC d u h1;obtain⟨vs,a,b⟩:=Bb ds us h2;exact⟨v::vs,.cons r a,λF=>⟨v,vs,rfl,q.1 F,b F⟩⟩
end
def Zv(K:Fg)(p:be×Dat):Bool:=match nU K mainGlobals p.1 with
 |some (a_ u)=>OZ K p.2 u
 |_=>d_
theorem GZ(X:K.In h)(G:h.Ns mainGlobals mg):∀{con:List (be×Dat)},con.all (Zv K)=c_->∀x d,con.lookup x=a_ d->∃v u,mg x=a_ u/\RelV v u/\CV K d v
 |(y,e)::L,h,x,d,q=>by
   obtain⟨h1,h2⟩:=jg.mp h;rw[fP]at q;split at q
   .rename_i z;cases q;rw[eq_of_beq z];unfold Zv at h1;split at h1
    .rename_i u a;obtain⟨v,r,c⟩:=FC _ _ h1;exact⟨v,u,Ni X G a,r,c⟩
    .cases h1
   .exact GZ X G h2 x d q
set_option tactic.hygienic false
end
end M
open PySem PySem.W PyProof.Rows
structure PySem.W.Fast:Prop where(tw13842233171794293128 tw3528448143332356483 tw546550095221344973 tw1302939159318824714 tw15868856463969318186 tw4552079939397098194 tw5978227078341127610 tw6830453079477106861 tw3097594424655988279 tw2261286000835718333 tw6477172475813697218 tw3863580498426697085 tw17644626669242778132 tw17533200727482990342 tw6528629950796141540 tw10338270234603316383 tw3388258966018520184 tw13128926751226369082 tw4317251846982768228 tw6523662598678849319 tw3689953644999974911 tw11153792744090227468 tw12835696189590349306 tw9872370662564123372 tw13854712933567813732 tw3917603910010038193 tw14819254291196901003 tw14969422503377436834 tw5203591509221878848 tw7146026121621706928 tw688264715063837246 tw277508764567656765 tw10759945849577081050 tw15649490852936432570 tw5571566564313780668 tw17817342451259843765 tw6985766552349692546 tw11925283755810891469 tw1542979384484578516 tw9071103587274138582 tw2085806144856918011 tw7644642550734630181 tw6775187102213385192 tw4704282833346308219 tw16235730293962421237 tw3332397512518772696 tw5806476335086535621 tw516803757526319144 tw5060912296616197253 tw13067904382605484074 tw8481224664340409542 tw5800802582993583043 tw18246166570037900388 tw15534300375511769201 tw6452052274375076669 tw15203465728364716183 tw4704394610886280747 tw9634833036620029419 tw4088415248646345999 tw8144828666626090940 tw15125648287932956224 tw9624019201785035485 tw606027527206219264 tw11812491409924010932 tw11159239456720033118 tw14014135365308896135 tw11960169623813444794 tw591741600153235810 tw6114249815836107960 tw1380033467950685080 tw17407010028741744278 tw10422928758386290840 tw2893914676712271243 tw13987805355514014167 tw7003866210951729205 tw2797445165405809324 tw10084829246936497649 tw14528416404786468373 tw2544505379475439888 tw8286837448120720852 tw16629470266489203226 tw9319590439285012668 tw3567338906446303123 tw3248684690847951992 tw17758903215252184422 tw12189156826732159342 tw9653537715923320432 tw16614307022523305118 tw9299738160919060370 tw97736252064058630 tw6391945243353661797 tw15888438241974856445 tw14175096194711981950 tw49392478548361960 tw16183824152308272579 tw14023199828872151494 tw730844991045811190 tw1107109549256168623 tw13662896785414849908 tw1642985736046662487 tw7542231755185123965 tw17825624487957027084 tw10467756157922826331 tw5988969889810617864 tw4645623068068987887 tw15871412516383227572 tw831427120512147195 tw5575391841729590108 tw7427834401614518524 tw4665904870008509621 tw15624068864227387252 tw1166730958023952921 tw2225464979788538989 tw11706062225283778706 tw13704302390741738612 tw8120110841592781245 tw13233320334051889594 tw9606009776666987632 tw11413653416176670833 tw15778696502061875708 tw2814633357090956463 tw3466435641416190458 tw16881046652299079408 tw5023937063859276459 tw7241544379956922040 tw11909276416246794655 tw9132644295969789189 tw12583692336583141739 tw1939814949926140467 tw2268514997487034943 tw43170928938905052 tw10302713770748444367 tw15760263084220634342 tw1189350038359692062 tw13915298379507784530 tw13407499321237807892 tw4193476892283243793 tw4944862684891134378 tw8058279766438344772 tw4609888106659513373 tw570943860210701816 tw16668218899233129612 tw2544692313708051267 tw11152369347166417788 tw4811734078473001948 tw11220790762543457451 tw2822176047305023202 tw9539435973767490167 tw4275909845286144191 tw15259480867192443627 tw13258987089813078657 tw3988267339757152270 tw7588191810969077192 tw13572448662078416841 tw10354624138419553650 tw16543556637918482270 tw11905046033713795709 tw11842279418018219793 tw15242345908131206659 tw4929742690491264150 tw12891474544413056545 tw13726843268160534756 tw9186394004226986703 tw5767096782390799846 tw7695410959119898183 tw12540434064139520795 tw3375549774268587076 tw4705468940964465481 tw10978621745178919220 tw16120850984812974089 tw17256977231156472507 tw14835281827960767253 tw14521183936430519492 tw11557930940252863595 tw12678259260391672396 tw5335669626964438839 tw8879399791855063246 tw7648197966339367102 tw16121296931582867869 tw12481718215537565421 tw1399780183874701242 tw8930955750601893651 tw7331322259133715393 tw10126697486653885965 tw11023902742611388296 tw8967779649915665881 tw10556435262529564865 tw18016672289202687040 tw2279363491738039754 tw7342243556663973560 tw10083594109169869984 tw14550367127178348716 tw6258318253809021250 tw18293225503170792394:True)
set_option maxRecDepth 100000 in
set_option maxHeartbeats 0 in
theorem PySem.Challenge.cw_dots_k31_written_holds : PySem.Challenge.rw_dots_k31_written.Holds := by
 w_on;o_law;k_head;(case hw=>w_witness2)
 k_fill
 refine M.walk (l:=nP) (n:=12) (x:="_law_script") rfl ⟨rfl,br,br⟩ rfl (λw h Y=>PySem.W.kIn_of Y) ?F
 case F=>
  intro w mg fa h KX G hmg
  have Z:∀x∈M.l5,mg x=b_:=by
   refine M.QW KX G ?_
   kernel_rfl
  have T:M.Here (L2.KOf KX) mg K31.D K31.con:=⟨K31.Yz,M.WT KX G (by kernel_rfl) (by kernel_rfl) (λ_ _ _ _ _ _ _=>by kernel_rfl),Z,M.GZ KX G (by kernel_rfl)⟩
  exact M.VJ (l:=nP) T (j:=36) rfl rfl hmg K31.math
