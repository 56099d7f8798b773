import PyProof.Rows.All
import Wide.All
import OpenK.AllK
import Wide.FinOn
import Lean
import PyProof.EqAt
import PyProof.EqKinds
import PyProof.TupleCall
import PySem.Challenge.RW_dots_k34_read
set_option tactic.hygienic false
open Option renaming some->Y,none->L
open Bool renaming true->U,false->J
noncomputable section
set_option bootstrap.genMatcherCode false
set_option genInjectivity false
set_option genSizeOf false
open And renaming intro->uW
open Array renaming getElem?_eq_getElem->aU,length_toList->bh,getElem?_eq_some_iff->bY,getElem?_eq_none->iu,getElem?_toList->iP,forIn_toList->my,getElem_toList->p4,ext_getElem?->qP,replicate->uV,getD_eq_getD_getElem?->wF,getD->Hj,toList_push->Jj
open Bool renaming and_eq_true->ag,false_eq_true->bS,and_eq_true_iff->gD,and_true->gR,not_eq_true'->iW,eq_false_iff->iX,or_eq_true->lM,true_and->nN,and_self->qO,or_true->tD,eq_iff_iff->wD,not_eq_true->Nl,not_false->Rq,and_assoc->Rt
open Classical renaming propDecidable->mX,em->JE
open Eq renaming symm->uo
open False renaming elim->jf
open ForInStep renaming yield->jv
open Iff renaming rfl->Nk
open Int renaming ofNat->e8,ofNat_zero_le->fB,ofNat_le->fJ,le_trans->fK,lt_of_le_of_lt->fU,eq_ofNat_of_zero_le->j7,not_le->mW,ofNat_lt->oY,le_of_eq->oZ,natCast_pos->pO,toNat_natCast->t7,toNat->uR,not_le_of_gt->uU,fdiv_eq_ediv_of_nonneg->yN,ne_of_gt->C6,le_of_lt->C7,not_lt_of_ge->NY,le_antisymm->Rn,emod_nonneg->Ro
open Int.ofNat renaming inj->uS
open List renaming length->Z,getElem?_eq_getElem->af,length_append->aj,mem_append_right->aq,mem_append->au,mem_cons->aw,mem_singleton->az,map_cons->aA,length_map->aB,mem_append_left->aC,append_nil->aI,append_assoc->aJ,getElem?_eq_some_iff->aN,range->aQ,getElem?_map->aR,getElem?_append_right->aS,getElem?_append_left->aY,mem_of_getElem?->aZ,nodup_cons->a6,length_range->a8,take_append_drop->bo,length_pos_iff->bp,replicate->br,mem_range->bu,not_mem_nil->bx,getElem_mem->bA,size_toArray->bC,all_eq_true->bE,mem_filter->bJ,length_cons->bM,mem_map->bX,nodup_append->cj,mem_of_mem_take->cy,pairwise_cons->cD,map_map->cF,getElem?_replicate->cG,flatMap_append->cL,mem_iff_getElem->cQ,flatMap_singleton->cR,length_filter_le->c8,mem_map_of_mem->c9,take_of_length_le->dq,getElem?_take->dt,prefix_iff_eq_take->dF,getElem?_set_ne->dI,map_append->dJ,map_congr_left->dP,perm_append_comm->dS,nodup_nil->dT,all_cons->dU,pairwise_append->eA,mem_flatMap->eB,length_drop->eC,pairwise_iff_getElem->eO,drop_eq_getElem_cons->eP,mem_of_mem_drop->fe,pairwise_map->fo,getElem?_cons_succ->fu,drop_sublist->fA,length->fI,nodup_range->fM,lookup_cons->fN,length_take->fO,flatMap_nil->fP,perm_ext_iff_of_nodup->fR,length_replicate->fT,reverse_perm->gr,mem_of_mem_tail->gu,getElem?_of_mem->gC,getElem?_set_self->iD,of_mem_zip->iM,take_sublist->iU,drop_left->jl,isEmpty_iff->jt,ext_getElem->ju,mem_filterMap->jQ,length_eq_zero_iff->jV,set_eq_take_append_cons_drop->j5,take_take->ki,getElem?_inj->kj,drop_eq_nil_of_le->km,drop_drop->kn,pairwise_reverse->kN,getElem?_toArray->kO,eq_nil_of_length_eq_zero->lu,getElem_of_mem->lO,take_zero->mI,getD_eq_getElem?_getD->mJ,reverse_cons->nj,ext_getElem?->nr,take_length->ot,pairwise_singleton->ou,drop_length->ox,cons_append->oy,any_eq_true->oz,pairwise_lt_range->oU,mem_iff_getElem?->pK,length_singleton->pL,getElem?_eq_none->pN,filterMap_cons->qH,any_cons->qN,getElem_range->rP,getElem?_drop->rQ,filter_append->rR,zipWith->tu,map_inj_left->tv,getElem?_set->tw,flatMap_cons->tz,zipIdx_cons->uk,getElem_map->um,take_append_of_le_length->uP,drop_append_of_le_length->uQ,length_zip->wz,length_set->wA,forIn_cons->wC,take_left->xw,map->xx,drop_take->xA,take_add->Ai,find?_range_eq_none->Aj,pairwise_filterMap->Aw,filter_cons_of_pos->Ax,filter_cons_of_neg->Ay,zipWith_cons_cons->CF,length_eq_one_iff->CG,append_eq_nil_iff->CH,getElem?_reverse->C5,filter_sublist->Hi,zip_cons_cons->Jf,prefix_append->Jg,map_inj_right->Jh,length_modify->Ji,tail_sublist->JD,reverse_nil->Nh,range'_succ->Ni,perm_middle->Nj,zip_append->NP,zipIdx_nil->NQ,prefix_nil->NR,nil_prefix->NS,length_nil->NT,head?_drop->NU,head?_cons->NV,foldl_cons->NW,filter_nil->NX,tail_drop->Ri,forIn_nil->Rj,drop_zero->Rk
open List.Nodup renaming sublist->Ak
open List.Pairwise renaming imp_of_mem->iV,imp->oX,nil->xC
open List.Perm renaming append_left->j6,eq_of_pairwise->mr,trans->EN
open List.cons renaming inj->eD,injEq->fS
open Nat renaming le_trans->aa,le_of_eq->ae,le_refl->ak,lt_of_le_of_lt->ao,le_of_lt->ax,le_antisymm->aD,zero_le->aK,lt_of_lt_of_le->aT,le_of_succ_le_succ->aV,le_add_right->aX,not_le_of_lt->a7,ne_of_lt->a9,succ_le_succ->bb,lt_of_le_of_ne->bq,lt_irrefl->bB,le_of_not_lt->bV,pos_of_ne_zero->ck,lt_of_not_le->cz,lt_trans->cT,le_succ_of_le->cU,add_sub_cancel_left->de,add_le_add->dW,min_eq_left->dY,zero_add->fH,le_add_left->gp,lt_or_ge->gH,add_sub_of_le->gJ,add_le_of_le_sub->gP,lt_succ_self->hV,add_right_comm->iH,add_assoc->iS,ne_of_gt->jx,add_le_add_left->jD,not_lt_zero->jO,min_le_left->jP,mod_lt->jU,lt_add_of_pos_right->j4,lt_succ_of_lt->kA,min_le_right->k9,sub_self->mo,sub_add_cancel->mV,lt_trichotomy->nM,sub_le->oW,add_lt_of_lt_sub->qp,lt_succ_of_le->t6,le_of_add_le_add_left->Ah,le_add_right_of_le->C3,add_comm->C4,lt_sub_of_add_lt->Hf,le_succ->Hg,le_sub_of_add_le->Hh,sub_lt_of_lt->NL,not_lt_of_le->NM,min_eq_right->NN,lt_add_right->NO,div_le_self->Rh
open Ne renaming symm->cu
open Option renaming bind->bc,bind_some->bG,map_some->c7,isNone_iff_eq_none->dN,isSome_iff_exists->eX,map->kG,getD_some->tm,bind_eq_some_iff->yM,map_eq_some_iff->Ag,getD_none->Je,map_map->Ng,isSome->NJ
open Option.some renaming inj->bI,injEq->ie
open Prod renaming ext->EM
open Prod.mk renaming injEq->wO
open PyProof renaming noPylong_small->yL
open PyProof.Rows renaming SortSt->bP,callWith_type1->cO,slot_tuple_getitem->dB,Keyed->jN,lt_int->oo,StrsAre->oR,AllBare->oT,SortKind->p3,callWith_builtin1->p8,getItem_tuple->rO,len_tuple->uh,IsTup->Af,IntsAre->CD,listUpdate_at->He,subscriptTail_builtinR->JB,tail_any->NH,seqEpoch_at->NI
open PyProof.Rows.F renaming plain_set_update_loop->nK,entry_set_update_loop->nL
open PyProof.Rows.IsTup renaming new->JC
open PyProof.Rows.SortSt renaming mk'->mf
open PySem renaming Value->ah,Shared->ai,sizeLine->aE,wpAny->aF,model->aG,Addr->aL,starEach->aO,Str->aW,Expr->ba,SetTable->bD,wpAny_setField_rec->bN,wpAny_call_entry->bO,Around->bT,Program->cg,Heap->cx,wpAny_holding->cB,wpAny_callSpecial?_slot->cM,World->c6,wpAny_field->df,wpAny_seqItems->dh,wpAny_isInstance->di,wpAny_mono->dE,wpAny_setState_of->dG,wpAny_newObj_type->dH,cLine->dR,wpAny_specialOf->eE,wpAny_Call_Name_kw->eK,codeAny_builtin->fG,wpAny_rule->gm,mem_of_lookup->gY,wpAny_truthy_bool->gZ,plainId_quiet->g8,Builtin->iC,wpAny_forIn_list->iG,sizeLine_eq->iR,wpAny_typeOf->iT,wpAny_updateSeq->jd,wpAny_passesOwn->je,wpAny_attempt->jj,Paired->jR,FuncData->j9,wpAny_tupleItemsOf->ku,wpAny_of_eq->kE,wpAny_getItem_str_slice->kF,KeyKind->kW,codeAny_mono->kY,Stmt->kZ,NameKind->k8,Obj->lD,wpAny_letGo->mj,codeAny_call_builtin->mm,Scope->m9,GenState->nP,wpAny_pyIter_strU->oQ,PassesOwn->pZ,IsPair->qm,wpAny_loadPart'->qE,post_val_or_str->qF,isSubtype_tuple_tuple->qJ,wpAny_updateSeq_pair->rV,wpAny_tryCatch->rW,isSubtype_stop->rX,IsPart->rZ,wpAny_onRaise->uf,Pos->wo,wpAny_pyIter_slot->wI,wpAny_pyIter_list->wJ,concat_meets->wL,wpAny_askSetting->yD,scanBound->yE,noFill_tuple_add->yF,wpAny_execs_nil->Ao,placed->Ap,Sem->Au,wpAny_richCompare_same_room->CB,BindsTo->CC,wpAny_runValue->CO,wpAny_newTuple->CP,wpAny_call->CQ,typeIs_str->CS,pyIter->CU,entryFor_alias->CW,Operator->CZ,MulOk->C0,wpAny_standAt->G5,wpAny_newList->G6,wpAny_comprehension_free->G7,seq_tuple_add->G8,call->G9,Tok->Ha,wpAny_pyNext_range_end->Jr,wpAny_pyIter_rangeiter->Js,wpAny_Call_method_late->Jt,seqIndex_neg->Ju,callType_new->Jv,Slot->Jw,ItemsOf->Jy,Env->Nf,wpAny_pyIter_revIter->Nz,seqIndex_of->NA,codeAny_extend_loopS->NB,wpAny_setEntries_of->Ra,ElemsOf->Rg
open PySem.Builtin renaming bitAnd->JA
open PySem.Builtin.Frozenset renaming updateFrom->ND,sizeOf->NF,isAnySet->NG
open PySem.Builtin.List renaming listLengthHint->hJ,listTooLong->jb,listExtendWith->qM,listSameRef->tj
open PySem.Builtin.Range renaming rangeSize->jk,small->wx
open PySem.Builtin.Slice renaming slicePlaces->iL,sliceAdjust->rN
open PySem.Builtin.SmallTypes renaming nextOf->iq
open PySem.Builtin.Str renaming occurrences->jr
open PySem.Builtin.Tuple renaming tupleHashOf->eJ,tupleItemsOf->kM
open PySem.Calls renaming spliced_nil->nc,callWith_builtin->oJ,spliced_cons->qL,Name_function_global->wN,call_function_entry->xv,evalArgs_plain->C2
open PySem.Challenge renaming rw_dots_k34_read->oI
open PySem.Env renaming kindOf->r8
open PySem.F renaming slot_tuple_iterator_next->fY,slot_tuple_hash->gV,slot_list_append->jw,plainAttrs_list->jG,plain_min_loop->jS,plainAttrs_str->jT,slot_zip_next->kg,slot_str_join->kh,type_list_append->mS,slot_list_extend->mT,args_tuple_add_2->mU,entry_tuple_add->ni,slot_tuple_add->nQ,slot_tuple_eq->oH,args_tuple_iterator_next_1->qo,entry_tuple_iterator_next->qG,entry_proto_collect->ug,slot_tuple_getitem->uN,args_object_init_2->uO,slot_dict_getitem->wq,plain_extend_loop->wu,plain_list_iadd->xr,entry_list_iadd->xt,args_zip_next_1->xu,entry_zip_next->yI,entry_set_init->yJ,entry_min_loop->yK,type_str_join->Ab,slot_tuple_lt->Ac,slot_set_iter->Ad,slot_dict_get->Ae,called_set->C1,args_list_extend_2->Jz,entry_list_extend->Nd
open PySem.Heap renaming get?_push_size->aH,SameBut->cP,get?_update_other->dM,get?_update_self->eT,size_push->fQ,get?_none_of_le->EJ,ExtBut->EK
open PySem.Heap.SameBut renaming update->om,refl->yH
open PySem.IsRange renaming new->Rf
open PySem.ItemsOf renaming nil->Rc
open PySem.NameKind renaming free->eG,cell->mH
open PySem.Obj renaming mapSeq->eZ,data_mapFields->Jx
open PySem.Paired renaming length->xq
open PySem.PassesOwn renaming never->EH
open PySem.ScopeKind renaming function->Av
open PySem.SeqAt renaming RcNeAt->As,RcAt->Hc,EqAt->Hd
open PySem.SetTable renaming below->aM,Probe->bK,insertAt->dc,grown->dO,runEnd->dQ,advance->dX,bits->eF,toList_insertAt->eR,sizeAbove->fF,leap->ip,turns->lL,slot->mE,laid->mF,fits->mG,fill->pY,has->xp,layClean->CY,tooFull->EG,relaid->Hb,Met->Nc
open PySem.SetTable.below renaming go->k7
open PySem.SetTable.layClean renaming free->dA
open PySem.SetTable.probe renaming go->bW
open PySem.Str renaming ofString->ab
open PySem.StrLaws renaming found_one->EF
open PySem.Txt renaming slice->cJ,startswith3->ik,join->oG,upper->rY,slice_le->Aq
open PySem.Unicode renaming upperOf->t5
open PySem.Value renaming ref->dn,none->fm,type->gG,isStrOf->Rb
open PySem.W renaming Frag->aP,keepIn->eY,kia_one->ig,OpenLaw->jA,nsIn->nO,fnOf->qK,codeIn->uM,WalkO->wM,cellsFrom_some->yG,mg_of->Nb,kas_item->NC
open PySem.pickOrder renaming go->wK
open Sum renaming inr->bF,inl->CN
open Sum.inl renaming inj->An
open Sum.inr renaming inj->oV
open True renaming intro->oP
set_option Elab.async false
set_option compiler.extract_closed false
set_option linter.all false
set_option maxRecDepth 100000
set_option maxHeartbeats 4000000
def cA{α g:Type _}{x:Option α}{f:α->Option g}{b:g}(h:x.bind f=Y b):∃a,x=Y a/\f a=Y b:=yM.mp h
def ee{α g:Type _}{x:Option α}{f:α->g}{b:g}(h:x.map f=Y b):∃a,x=Y a/\f a=b:=Ag.mp h
open PySem PySem.Spec in def wb9:=@wpAny_bind
open PySem PySem.Spec in def wu9:=@wpAny_pure
open PySem in def hp9:=@Heap.get?_push_of_some
open PySem in def hl9:=@Heap.lt_size
def jL{α:Type _}{a:α}{l:List α}:a∈a::l:=List.mem_cons_self
def jZ{α:Type _}(y:α){a:α}{l:List α}(h:a∈l):a∈y::l:=List.mem_cons_of_mem y h
def bR{p:Prop}[Decidable p](h:decide p=U:=by rfl):p:=of_decide_eq_true h
theorem W:a=a:=rfl
theorem ac{G:Prop}(h:∀P:Prop,(G->P)->P):G:=h G id
def lw0{e f:Nat}(h:e<=f:=by simp +arith):e<=f:=h
def lwq{e f:Nat}(h:e=f:=by simp +arith):e=f:=h
def iF{a b e f:Nat}(h1:a<=b)(h:e+b<=f+a:=by simp +arith):e<=f:=by omega
def kX{a b c d e f:Nat}(h1:a<=b)(h2:c<=d)(h:e+b+d<=f+a+c:=by simp +arith):e<=f:=by omega
def qt{a b c d i j e f:Nat}(h1:a<=b)(h2:c<=d)(h3:i<=j)(h:e+b+d+j<=f+a+c+i:=by simp +arith):e<=f:=by omega
def Nr{a b c d i j k l e f:Nat}(h1:a<=b)(h2:c<=d)(h3:i<=j)(B:k<=l)(h:e+b+d+j+l<=f+a+c+i+k:=by simp +arith):e<=f:=by omega
def abg{a b:Nat}(h1:a<=b)(h:b+1<=a:=by simp +arith):False:=a7 h h1
def VN{a b c d:Nat}(h1:a<=b)(h2:c<=d)(h:b+d+1<=a+c:=by simp +arith):False:=a7 h (dW h1 h2)
def VM{a b c d i j:Nat}(h1:a<=b)(h2:c<=d)(h3:i<=j)(h:b+d+j+1<=a+c+i:=by simp +arith):False:=a7 h (dW (dW h1 h2) h3)
def VL{a b c d i j k l:Nat}(h1:a<=b)(h2:c<=d)(h3:i<=j)(B:k<=l)(h:b+d+j+l+1<=a+c+i+k:=by simp +arith):False:=by omega
def ws{a b:Nat}(h:b<=a):a - b+b<=a:=gP h (ak _)
def wt{a b:Nat}(h:b<=a):a<=a - b+b:=by omega
def iw0{e f:Int}(h:e<=f:=by simp +arith):e<=f:=h
def Jl{a b e f:Int}(h1:a<=b)(h:e+b<=f+a:=by simp +arith):e<=f:=by omega
def iw2{a b c d e f:Int}(h1:a<=b)(h2:c<=d)(h:e+b+d<=f+a+c:=by simp +arith):e<=f:=by omega
def iw3{a b c d i j e f:Int}(h1:a<=b)(h2:c<=d)(h3:i<=j)(h:e+b+d+j<=f+a+c+i:=by simp +arith):e<=f:=by omega
def ac5{a b:Int}(h1:a<=b)(h:b+1<=a:=by simp +arith):False:=by omega
def ac4{a b c d:Int}(h1:a<=b)(h2:c<=d)(h:b+d+1<=a+c:=by simp +arith):False:=by omega
def ac3{a b c d i j:Int}(h1:a<=b)(h2:c<=d)(h3:i<=j)(h:b+d+j+1<=a+c+i:=by simp +arith):False:=by omega
theorem ad{a b:Nat}(h:b<=a):a-b+b<=a:=by omega
theorem am{a b:Nat}(h:b<=a):a<=a-b+b:=by omega
theorem ar(a b:Nat)(h:b<=a):a-b+b<=a:=ad h
theorem ay(a b:Nat):a<=a-b+b:=by omega
theorem a0(a b:Nat)(h:a<=b):a<=min a b:=by omega
theorem a1(a b:Nat)(h:b<=a):b<=min a b:=by omega
theorem a2(l r:Nat)(h:l+1<=r):l<=(l+r)/2/\(l+r)/2+1<=r:=by omega
theorem a3(l r:Nat)(h:l+1<=r):(r-l)/2+1<=r-l:=by omega
theorem a4{a b c d i j k l m n e f:Nat}(h1:a<=b)(h2:c<=d)(h3:i<=j)(g:k<=l)(B:m<=n)(h:e+b+d+j+l+n<=f+a+c+i+k+m:=by simp +arith):e<=f:=by omega
def wS(a b:Nat)(h:b<=a):a - b+b<=a:=ws h
def wT(a b:Nat):a<=a - b+b:=by omega
def wd(a:Nat):2 * (a / 2)<=a:=by omega
namespace L2
open PySem PySem.Spec PyProof.Rows
abbrev Key:=Sum Int aW
noncomputable def tK:Key->ah->Bool
 |.inl k,v=>Value.isInt k v
 |.inr x,v=>Rb x v
noncomputable def abo(w:c6):Key->Int
 |.inl k=>hashInt k
 |.inr x=>hashStr w x
def c5:∀{k:Key}{v:ah},tK k v=U->(∃i t,k=CN i/\v=Value.int i t)\/(∃x t,k=bF x/\v=Value.str x t)
 |.inl i,v,h=>by
   obtain⟨t,e⟩:=Value.isInt_shape h;exact .inl ⟨i,t,W,e⟩
 |.inr x,v,h=>by
   obtain⟨t,e⟩:=Value.isStrOf_shape h;exact .inr ⟨x,t,W,e⟩
def Ip(i:Int)(t:Ha):tK (.inl i) (.int i t)=U:=by simp[tK,Value.isInt]
def x4(x:aW)(t:Ha):tK (.inr x) (.str x t)=U:=by simp[tK,Rb]
def V6(a b:Int):decide ((CN a:Key)=CN b)=(a == b):=by
 grind
def V3(a b:aW):decide ((bF a:Key)=bF b)=decide (a=b):=by
 simp
def V5(a:Int)(b:aW):decide ((CN a:Key)=bF b)=J:=decide_eq_false (λq=>nomatch q)
def V4(a:aW)(b:Int):decide ((bF a:Key)=CN b)=J:=decide_eq_false (λq=>nomatch q)
def dm(prog:cg)(w:c6):kW prog w Key where
 is:=tK
 hash:=abo w
 inj:=λv a b ha hb=>by
  rcases c5 ha with⟨i,t,rfl,rfl⟩|⟨x,t,rfl,rfl⟩
  .rcases c5 hb with⟨j,u,rfl,e⟩|⟨y,u,rfl,e⟩
   .injection e with e1 _;rw[e1]
   .exact nomatch e
  .rcases c5 hb with⟨j,u,rfl,e⟩|⟨y,u,rfl,e⟩
   .exact nomatch e
   .injection e with e1 _;rw[e1]
 byValue:=λk v h=>by
  rcases c5 h with⟨i,t,rfl,rfl⟩|⟨x,t,rfl,rfl⟩<;>rfl
 pyHash:=λc h=>by
  rcases c5 c with⟨i,t,rfl,rfl⟩|⟨x,t,rfl,rfl⟩
  .exact wpAny_pyHash_int h
  .exact wpAny_pyHash_str h
 eqBool:=λd c h=>by
  rcases c5 d with⟨i,t,rfl,rfl⟩|⟨x,t,rfl,rfl⟩
  .rcases c5 c with⟨j,u,rfl,rfl⟩|⟨y,u,rfl,rfl⟩
   .rw[V6]at h;exact wpAny_eqBool_int h
   .rw[V5]at h;exact SeqAt.EqAt.int_str i t y u _ _ _ _ h
  .rcases c5 c with⟨j,u,rfl,rfl⟩|⟨y,u,rfl,rfl⟩
   .rw[V4]at h;exact SeqAt.EqAt.str_int x t j u _ _ _ _ h
   .rw[V3]at h;exact wpAny_eqBool_str h
 «strs» :=λk x t v h=>by
  rcases c5 h with⟨i,u,rfl,e⟩|⟨y,u,rfl,e⟩
  .exact nomatch e
  .injection e with e1 _
   subst e1;cases v<;>rfl
def Bp(prog:cg)(w:c6)(i:Int)(t:Ha):(dm prog w).is (.inl i) (.int i t)=U:=Ip i t
def Bo(prog:cg)(w:c6)(x:aW)(t:Ha):(dm prog w).is (.inr x) (.str x t)=U:=x4 x t
def Q2(h g:cx):Prop:=∀b o,h.get? b=Y o->o.cls=.type "tuple"->(∃a n,o.data=.seq a n)->g.get? b=Y o
structure Ik(P:cg)(w:c6) where
 κ:Type
 d:Nat
 is:cx->κ->ah->Prop
 hash:κ->Int
 draw:κ->Nat
 inj:∀{h:cx}{x y:κ}{v:ah},is h x v->is h y v->x=y
 oK:∀{h h':cx}{k:κ}{v:ah},Q2 h h'->is h k v->is h' k v
 hsh:∀{A:bT}{E:ah->ai->Prop}{s:ai}{k:κ}{v:ah}{Q:Int->ai->Prop},A.units+d<=dR->is s.heap k v->Q (hash k) { s with toks:=s.toks+draw k }->aF (aG P w) A (pyHash v) Q E s
 eqb:∀{A:bT}{E:ah->ai->Prop}{s:ai}{x y:κ}{u v:ah}{Q:Bool->ai->Prop},A.units+d<=dR->is s.heap x u->is s.heap y v->(x=y->Q U s)->(x≠y->Q J s)->aF (aG P w) A (eqBool u v) Q E s
 qui:∀{A:bT}{E:ah->ai->Prop}{s:ai}{k:κ}{v:ah}{Q:Bool->ai->Prop}{n:Nat},d<=n->is s.heap k v->Q U s->aF (aG P w) A (eqIsQuiet n v) Q E s
 cla:∀{A:bT}{E:ah->ai->Prop}{s:ai}{k:κ}{v:ah}{Q:Bool->ai->Prop}{n:Nat},d<=n->is s.heap k v->Q J s->aF (aG P w) A (ofAClassStatement n v) Q E s
 hbv:∀{A:bT}{E:ah->ai->Prop}{s:ai}{k:κ}{v:ah}{Q:Bool->ai->Prop}{n:Nat},d<=n->is s.heap k v->(∀b,Q b s)->aF (aG P w) A (hashByValue n v) Q E s
section
variable{P:cg}{w:c6}{A:bT}{E:ah->ai->Prop}{z0:ai}{I:Ik P w}
def MM(B:carriedByValue v=U)(h:Q J z0):aF (aG P w) A (ofAClassStatement n v) Q E z0:=by
 cases v<;>first|(cases B;done)|(exact wu9 h)|(cases n<;>(exact wu9 h))
def Wi(B:carriedByValue v=U)(h:∀b,Q b z0):aF (aG P w) A (hashByValue n v) Q E z0:=by
 cases v<;>first|(cases B;done)|(unfold hashByValue;exact wu9 (h _))|simp
abbrev Iq(P:cg)(w:c6):Ik P w where
 κ:=Key
 d:=0
 is:=λ_ k v=>(dm P w).is k v=U
 hash:=(dm P w).hash
 draw:=λ_=>1
 inj:=λex b=>(dm P w).inj _ _ _ ex b
 oK:=λ_ x=>x
 hsh:=λ_ a h=>(dm P w).pyHash a h
 eqb:=λ{A E s x y u v Q}_ ex b h1 h2=>(dm P w).eqBool ex b (by
  by_cases e:x=y
  .rw[decide_eq_true e];exact h1 e
  .rw[decide_eq_false e];exact h2 e)
 qui:=λ_ a h=>by rw[eqIsQuiet_byValue _ ((dm P w).byValue _ _ a)];exact wu9 h
 cla:=λ_ a h=>MM ((dm P w).byValue _ _ a) h
 hbv:=λ_ a h=>Wi ((dm P w).byValue _ _ a) h
inductive rS (I:Ik P w) (h:cx):List I.κ->List ah->Prop
 |nil:rS I h [] []
 |cons {k:I.κ} {v:ah} {ks:List I.κ} {vs:List ah}:I.is h k v->rS I h ks vs->rS I h (k::ks) (v::vs)
def rT(I:Ik P w)(h:cx)(g:List I.κ)(p:aL):Prop:=∃o a n,h.get? p=Y o/\o.cls=.type "tuple"/\o.data=.seq a n/\rS I h g a.toList
theorem rS.inj(ex:rS I h x vs)(B:rS I h y vs):x=y:=by
 induction ex generalizing y with
 |nil=>cases B;rfl
 |cons h1 _ a=>
   cases B with
   |cons h2 b=>rw[I.inj h1 h2,a b]
theorem rS.length(x:rS I h g vs):Z vs=Z g:=by
 induction x with
 |nil=>rfl
 |cons _ _ a=>simp[a]
theorem rS.oK(k:Q2 h g)(x:rS I h B vs):rS I g B vs:=by
 induction x with
 |nil=>exact .nil
 |cons h1 _ a=>exact .cons (I.oK k h1) a
def rT.typeIs(x:rT I z0.heap g p):z0.TypeIs (.ref p) "tuple":=let ⟨o,_,_,go,a,_⟩:=x;⟨o,go,a⟩
def rT.inj(ex:rT I h x p)(B:rT I h y p):x=y:=by
 refine ac λ_ j=>?_;obtain⟨o,e,n,go,_,f,g⟩:=ex;obtain⟨k,b,i,c,_,a,d⟩:=B;obtain rfl:o=k:=bI (go.symm.trans c);refine j ?_;rw[f]at a
 injection a with h1 _
 subst h1;exact g.inj d
def rT.oK(k:Q2 h g)(x:rT I h B p):rT I g B p:=
 let ⟨o,a,n,h1,h2,h3,b⟩:=x;⟨o,_,n,k p o h1 h2 ⟨_,_,h3⟩,h2,h3,b.oK k⟩
def ZS{h g:cx}(go:h.get? d=Y o)(B:o.cls≠.type "tuple")(k:∀b o,b≠d->h.get? b=Y o->g.get? b=Y o):Q2 h g:=λb a e c _=>
 k b a (λz=>by
   simp_all) e
noncomputable def Gi(I:Ik P w)(g:List I.κ):Int:=reduceHash (eJ (g.map I.hash))
def D4(O:A.units+(I.d+1)<=dR)(B:rT I z0.heap C p)(h:Q (Gi I C) { z0 with toks:=z0.toks+((C.map I.draw).sum+1) }) :
  aF (aG P w) A (pyHash (.ref p)) Q E z0:=by
 have gt:=B.typeIs;obtain⟨o,j,n,go,_,l,m⟩:=B
 first|unfold pyHashByItsType|skip
 first|refine wb9 (wpAny_cRoomFor_or (.inr (ao (aX _ _) O)) ?_)|skip
 refine wb9 (eE gt gV.lookup ?_);refine wb9 (eE gt gV.lookup ?_);refine wb9 (wpAny_callSpecialIfBoundUnlessNone?_slot gt gV (bO gV gt PySem.F.entry_tuple_hash ?_ (PySem.F.args_tuple_hash_1 _)));refine (?_ : aF _ _ (kM _ >>= _) _ _ z0);refine wb9 (ku go l ?_);refine wb9 ?_;rw[<-my]
 refine iG _
  (λtl(b)c=>∃pre a,C=pre++a/\rS I _ a tl/\b.toList=pre.map I.hash/\c={ z0 with toks:=z0.toks+(pre.map I.draw).sum })
  _ ?_ ?_ _ _ ⟨[],C,W,m,W,W⟩
 .rintro x tl b c ⟨pre,a,rfl,e,f,rfl⟩
  cases e with
  | @cons k _ g _ h1 i=>
    refine wb9 (I.hsh ?_ h1 ?_)
    .grind
    first
     |exact wu9 ⟨pre++[k],g,by simp,i,by simp[f],by simp[iS]⟩
     |simp
 .rintro b c ⟨pre,a,rfl,e,f,rfl⟩;refine ac λ_ q=>?_;cases e;refine q ?_;rw[aI]at h;show aF _ _ (retInt (eJ _)) ..;rw[f];refine wpAny_ret_mkInt ?_;refine (?_ : aF _ _ (if(decide (-(2) ^ 63<=eJ (pre.map _)) && decide (eJ (pre.map _)<2 ^ 63))=U then _ else _) Q E _);unfold Gi reduceHash at h;by_cases ge:(decide (-(2) ^ 63<=eJ (pre.map I.hash)) && decide (eJ (pre.map I.hash)<2 ^ 63))=U
  .rw[if_pos ge];rw[if_pos ge]at h;exact wu9 (by simpa [iS]using h)
  .rw[if_neg ge];rw[if_neg ge]at h;exact wb9 (gm (wu9 (by simpa [iS]using h)))
def Mt(S:A.units+I.d<=dR)(ex:rT I z0.heap x p)(O:rT I z0.heap y b)(h1:x=y->R (.done (.ret (.bool U))) z0)(h2:x≠y->R (.done (.ret (.bool J))) z0) :
  aF (aG P w) A (iC.«tuple.__eq__» ⟨[.ref p,.ref b],[]⟩) R E z0:=by
 have l:=O.typeIs;refine ac λ_ N=>?_;obtain⟨G,xs,na,m,_,n,o⟩:=ex;obtain⟨H,ys,nb,q,_,s,t⟩:=O;refine N ?_;show aF _ _ (isInstance _ (.type _) >>= _) _ _ z0;refine wb9 (di l qJ ?_);refine wb9 (ku m n ?_);refine wb9 (ku q s ?_);refine wb9 ?_
 refine iG _
  (λtl r j=>r.1=L/\j=z0/\∃x' k a c,tl=List.zip a c/\rS I _ x' a/\rS I _ k c/\(x'=k↔x=y)/\(Z a == Z c)=(xs.size == ys.size))
  _ ?_ ?_ _ _ ⟨W,W,x,y,_,_,W,o,t,Nk,by simp⟩
 .rintro⟨u,v⟩ tl r j ⟨ge,rfl,x',k,a,c,gz,X,V,Q,T⟩
  cases X with
  |nil=>simp at gz
  | @cons J' K z f D g=>
    cases V with
    |nil=>simp at gz
    | @cons L' M B h F i=>
      refine ac λ_ N=>?_;obtain⟨⟨rfl,rfl⟩,rfl⟩:=gz;refine N ?_;refine wb9 (I.eqb S D F (λC=>?_) λC=>(wb9 (wu9 (wu9 (wu9 (h2 λe=>C (eD (Q.mpr e)).1))))))
      .refine wu9 ⟨W,W,z,B,f,h,W,g,i,?_,by simpa using T⟩
       simp_all
 .rintro⟨r1,r2⟩ j ⟨rfl,rfl,x',k,a,c,gz,X,V,Q,T⟩;refine wu9 ?_;show R (.done (.ret (.bool (xs.size == ys.size)))) j;rw[<-T]
  cases X with
  |nil=>
    cases V with
    |nil=>exact h1 (Q.mp W)
    |cons _ _=>simp_all
  |cons _ _=>
    cases V with
    |nil=>simp_all
    |cons _ _=>simp at gz
def ZD{x y:List I.κ}{p b:aL}{Q:Bool->ai->Prop}(O:A.units+(I.d+1)<=dR)(ex:rT I z0.heap x p)(B:rT I z0.heap y b)(h1:x=y->Q U z0)(h2:x≠y->Q J z0) :
  aF (aG P w) A (eqBool (.ref p) (.ref b)) Q E z0:=by
 unfold eqBool
 try with_reducible refine cB ?_
 by_cases a:(dn p == dn b)=U
 .rw[if_pos a];have e:p=b:=by simp_all
  subst e;obtain rfl:=ex.inj B;exact wb9 (gm (wu9 (h1 W)))
 .rw[if_neg a]
  exact wb9 (CB ex.typeIs B.typeIs oH
   (bO oH ex.typeIs PySem.F.entry_tuple_eq (Mt (by exact iF O) ex B (λe=>⟨_,W,(λe=>nomatch e),gZ (h1 e)⟩) λe=>⟨_,W,(λe=>nomatch e),gZ (h2 e)⟩) (PySem.F.args_tuple_eq_2 _ _)) (ao (aX _ _) O))
def uw(O:I.d<=n)(B:rT I z0.heap C p)(h:Q U z0):aF (aG P w) A (eqIsQuiet (n+1) (.ref p)) Q E z0:=by
 have gt:=B.typeIs;obtain⟨o,e,m,go,_,f,g⟩:=B;unfold eqIsQuiet;refine wb9 (eE gt oH.lookup ?_);refine wb9 (di gt qJ ?_);refine wb9 (dh go f ?_);refine wb9 ?_;rw[<-my];refine iG _ (λtl r a=>r.1=L/\a=z0/\∃l,rS I _ l tl) _ ?_ ?_ _ _ ⟨W,W,_,g⟩
 .rintro v tl r a ⟨ge,rfl,l,i⟩
  cases i with
  | @cons k _ b _ h1 c=>
    exact wb9 (I.qui O h1 (wu9 ⟨W,W,b,c⟩))
 .rintro⟨j,q⟩ a ⟨rfl,rfl,_⟩;exact wu9 h
def zN(B:I.d<=n)(O:rT I z0.heap C p)(h:Q J z0):aF (aG P w) A (ofAClassStatement (n+1) (.ref p)) Q E z0:=by
 obtain⟨o,e,m,go,f,g,i⟩:=O;unfold ofAClassStatement;refine wb9 (wpAny_typeOf_ref go ?_);rw[f];refine wb9 (wu9 ?_);refine wb9 (dh go g ?_);refine wb9 ?_;rw[<-my];refine iG _ (λtl r a=>r.1=L/\a=z0/\∃l,rS I _ l tl) _ ?_ ?_ _ _ ⟨W,W,_,i⟩
 .rintro v tl r a ⟨ge,rfl,l,j⟩
  cases j with
  | @cons k _ b _ h1 c=>
    exact wb9 (I.cla B h1 (wu9 ⟨W,W,b,c⟩))
 .rintro⟨q,s⟩ a ⟨rfl,rfl,_⟩;exact wu9 h
def RY(O:I.d<=n)(B:rT I z0.heap C p)(h:∀b,Q b z0):aF (aG P w) A (hashByValue (n+1) (.ref p)) Q E z0:=by
 have gt:=B.typeIs;obtain⟨o,f,m,go,q,g,i⟩:=B;refine wb9 (eE gt gV.lookup ?_);refine wb9 (dh go g ?_);refine wb9 ?_;rw[<-my];refine iG _ (λtl r a=>r.1=L/\a=z0/\∃l,rS I _ l tl) _ ?_ ?_ _ _ ⟨W,W,_,i⟩
 .rintro v tl r a ⟨ge,rfl,l,j⟩
  cases j with
  | @cons k _ c _ h1 e=>
    refine wb9 (I.hbv O h1 λb=>?_);cases b
    .exact wu9 (wu9 (h _))
    .exact wu9 ⟨W,W,c,e⟩
 .rintro⟨s,t⟩ a ⟨rfl,rfl,_⟩;exact wu9 (h _)
abbrev tupI(I:Ik P w):Ik P w where
 κ:=Sum Key (List I.κ)
 d:=I.d+1
 is:=λh k v=>match k with
  |.inl k=>(dm P w).is k v=U
  |.inr r=>∃b,v=.ref b/\rT I h r b
 hash:=λk=>match k with
  |.inl k=>(dm P w).hash k
  |.inr r=>Gi I r
 draw:=λk=>match k with
  |.inl _=>1
  |.inr r=>(r.map I.draw).sum+1
 inj:=λ{h x y v}ex c=>by
  cases x with
  |inl k=>
    cases y with
    |inl C=>exact congrArg _ ((dm P w).inj _ _ _ ex c)
    |inr r=>obtain⟨b,rfl,_⟩:=c;exact nomatch ((dm P w).byValue _ _ ex)
  |inr r=>
    obtain⟨b,rfl,q⟩:=ex
    cases y with
    |inl C=>exact nomatch ((dm P w).byValue _ _ c)
    |inr j=>obtain⟨p,e,l⟩:=c;cases e;exact congrArg _ (q.inj l)
 oK:=λ{h D k v}q x=>by
  cases k with
  |inl k=>exact x
  |inr r=>obtain⟨b,e,z⟩:=x;exact⟨b,e,z.oK q⟩
 hsh:=λ{A E s k v Q}g a h=>by
  cases k with
  |inl k=>exact(dm P w).pyHash a h
  |inr r=>obtain⟨b,rfl,z⟩:=a;exact D4 g z h
 eqb:=λ{A E s x y u v Q}g ex c h1 h2=>by
  cases x with
  |inl k=>
    cases y with
    |inl C=>exact(Iq P w).eqb (by show A.units+0<=dR;exact aa (aX _ _) g) ex c (λe=>h1 (by rw[e])) λe=>h2 λz=>e (An z)
    |inr r=>
      obtain⟨b,rfl,o,B,n,go,m,gd,_⟩:=c;have ht:s.heap.IsTuple b B:=⟨o,go,m,n,gd⟩
      rcases c5 ex with⟨i,t,rfl,rfl⟩|⟨z,t,rfl,rfl⟩
      .exact SeqAt.EqAt.int_tuple i t ht (ao (aX _ _) g) _ _ _ _ (h2 λe=>nomatch e)
      .exact SeqAt.EqAt.str_tuple z t ht (by omega) _ _ _ _ (h2 λe=>nomatch e)
  |inr r=>
    obtain⟨b,rfl,q⟩:=ex
    cases y with
    |inl C=>
      obtain⟨o,B,n,go,m,gd,_⟩:=q;have ht:s.heap.IsTuple b B:=⟨o,go,m,n,gd⟩
      rcases c5 c with⟨i,t,rfl,rfl⟩|⟨z,t,rfl,rfl⟩
      .exact SeqAt.EqAt.tuple_int i t ht (by omega) _ _ _ _ (h2 λe=>nomatch e)
      .exact SeqAt.EqAt.tuple_str z t ht (by omega) _ _ _ _ (h2 λe=>nomatch e)
    |inr j=>
      obtain⟨p,rfl,l⟩:=c;exact ZD g q l (λe=>h1 (by rw[e])) λe=>h2 λz=>e (oV z)
 qui:=λ{A E s k v Q n}f a h=>by
  cases k with
  |inl k=>exact(Iq P w).qui (aK _) a h
  |inr r=>
    obtain⟨b,rfl,z⟩:=a
    cases n with
    |zero=>exact((a7 f (aK _))).elim
    |succ n=>exact uw (aV f) z h
 cla:=λ{A E s k v Q n}f a h=>by
  cases k with
  |inl k=>exact(Iq P w).cla (aK _) a h
  |inr r=>
    obtain⟨b,rfl,z⟩:=a
    cases n with
    |zero=>omega
    |succ n=>exact zN (aV f) z h
 hbv:=λ{A E s k v Q n}f a h=>by
  cases k with
  |inl k=>exact(Iq P w).hbv (aK _) a h
  |inr r=>
    obtain⟨b,rfl,z⟩:=a
    cases n with
    |zero=>omega
    |succ n=>exact RY (aV f) z h
end
abbrev N2:=Sum Key (List Key)
abbrev NK:=Sum Key (List N2)
noncomputable instance acm:DecidableEq N2:=instDecidableEqSum
instance ack:DecidableEq NK:=instDecidableEqSum
abbrev i2(P:cg)(w:c6):Ik P w:=tupI (Iq P w)
abbrev i3(P:cg)(w:c6):Ik P w:=tupI (i2 P w)
abbrev nIs(P:cg)(w:c6):cx->NK->ah->Prop:=(i3 P w).is
abbrev Xm(P:cg)(w:c6):cx->List NK->List ah->Prop:=rS (i3 P w)
abbrev qI(P:cg)(w:c6):cx->List NK->aL->Prop:=rT (i3 P w)
abbrev eo(P:cg)(w:c6):List NK->Int:=Gi (i3 P w)
section
variable{A:bT}{z0:ai}
def Hl:(i3 P w).d<=7:=by show 2<=7;simp
def ZC(B:A.units+3<=dR)(ex:qI P w z0.heap x p)(O:qI P w z0.heap y b)(h:Q (decide (x=y)) z0) :
  aF (aG P w) A (eqBool (.ref p) (.ref b)) Q E z0:=
 ZD B ex O (λe=>by simp_all) λe=>by simp_all
end
def YU(P:cg)(w:c6):HeapKind P w (List NK) where
 is:=qI P w
 hash:=eo P w
 draws:=λm=>(m.map (i3 P w).draw).sum+1
 room:=λA=>A.units+3<=dR
 inj:=λex c=>ex.inj c
 keeps:=λ{h n k a d o p r}x go gd f=>x.oK λb s e _ ⟨j,l,q⟩=>(f.2 b λz=>by
  subst z;rw[go]at e;cases e
  rw[gd]at q;cases q).trans e
 pyHash:=λg i h=>D4 g i h
 eqBool:=λg ex c h=>ZC g ex c h
 quiet:=λi h=>uw Hl i h
inductive V where
 |non|bl (b:Bool)|int (i:Int)|str (x:aW)|byt (b:Array UInt8)|flt (b:UInt64)|ref (a:aL)|ty (n:String)
 deriving DecidableEq
def RelV:V->ah->Prop
 |.non,u=>u=fm
 |.bl b,u=>u=Value.bool b
 |.int i,u=>∃t,u=Value.int i t
 |.str x,u=>∃t,u=Value.str x t
 |.byt b,u=>∃t,u=Value.bytes b t
 |.flt b,u=>∃t,u=Value.float b t
 |.ref a,u=>u=dn a
 |.ty n,u=>u=gG n
abbrev cV:List V->List ah->Prop:=jR RelV
def cV.length(r:cV xs us):Z xs=Z us:=xq r
theorem cV.get:∀{xs:List V}{us:List ah}{i:Nat}{x:V},cV xs us->xs[i]?=Y x->∃u,us[i]?=Y u/\RelV x u
 |_,_,_,_,.nil,e=>by simp at e
 |_,_,0,_,.cons r _,e=>by simp at e;subst e;exact⟨_,W,r⟩
 |_,_,i+1,x,.cons _ t,e=>by
   obtain⟨u,h1,h2⟩:=cV.get t (by simpa using e);exact⟨u,by simpa using h1,h2⟩
theorem cV.set(r:RelV x u):∀{xs:List V}{us:List ah}(i:Nat),cV xs us->cV (xs.set i x) (us.set i u)
 |_,_,_,.nil=>.nil
 |_,_,0,.cons _ t=>.cons r t
 |_,_,i+1,.cons q t=>.cons q (cV.set r i t)
theorem cV.append(h:cV xs us)(s:cV g vs):cV (xs++g) (us++vs):=by
 induction h with
 |nil=>exact s
 |cons r _ i=>exact .cons r i
theorem cV.take:∀{xs:List V}{us:List ah}(n:Nat),cV xs us->cV (xs.take n) (us.take n)
 |_,_,0,_=>.nil
 |_,_,_+1,.nil=>.nil
 |_,_,n+1,.cons r t=>.cons r (cV.take n t)
theorem cV.drop:∀{xs:List V}{us:List ah}(n:Nat),cV xs us->cV (xs.drop n) (us.drop n)
 |_,_,0,r=>r
 |_,_,_+1,.nil=>.nil
 |_,_,n+1,.cons _ t=>cV.drop n t
def Cz:Option V->Option ah->Prop
 |some v,Y u=>RelV v u
 |none,L=>True
 |_,_=>False
def KV{κ:Type}:List (κ×V)->List (κ×ah)->Prop:=jR λ(p:κ×V)(q:κ×ah)=>p.1=q.1/\RelV p.2 q.2
noncomputable def kV:Key->V
 |.inl i=>.int i
 |.inr x=>.str x
inductive HO where
 |lst (xs:List V)
 |tup (xs:List V)
 |dK (k_:List (Key×V))
 |lZ (o:lD) (u:HO)
abbrev Hp:=aL->Option HO
noncomputable def upd(H:Hp)(a:aL)(o:HO):Hp:=λb=>if b=a then Y o else H b
def cW:upd H a o a=Y o:=by unfold upd;rw[if_pos W]
def eh(h:b≠a):upd H a o b=H b:=by unfold upd;rw[if_neg h]
def i4{H:Hp}{a b:aL}{o:HO}(h:H a=Y o)(g:H b=L):a≠b:=by
 intro e;simp_all
section
variable(P:cg)(w:c6)
def kU(H:Hp)(h:cx)(a:aL):HO->Prop
 |.lst c=>Z c<=aE/\∃(b:List ah) (n:Nat),cV c b/\h.get? a=Y { cls:=.type "list",data:=.seq b.toArray n }
 |.tup c=>Z c<=aE/\∃b:List ah,cV c b/\Af h a b.toArray
 |.dK d=>Z d<=aE/\(a == sysModules)=J/\∃vs,KV d vs/\h.DictOf (dm P w) a vs
 |.lZ o u=>h.get? a=Y o/\kU H h a u
def t4(H:Hp)(h:cx):Prop:=∀a o,H a=Y o->kU P w H h a o
end
section
variable{P:cg}{w:c6}{H:Hp}{h h':cx}{a:aL}{o:HO}
theorem kU.lt(x:kU P w H h a o):a<h.objs.size:=by
 cases o with
 |lst c=>obtain⟨_,_,_,_,e⟩:=x;exact hl9 e
 |tup c=>obtain⟨_,_,_,p⟩:=x;exact p.lt
 |dK d=>obtain⟨_,_,_,_,o,_,_,e,_⟩:=x;exact hl9 e
 |lZ b u=>exact hl9 x.1
def kU.oK(x:kU P w H h a o)(k:∀u,h.get? a=Y u->h'.get? a=Y u):kU P w B h' a o:=by
 induction o with
 |lst g=>obtain⟨z,f,n,r,e⟩:=x;exact⟨z,_,n,r,k _ e⟩
 |tup g=>obtain⟨z,f,r,b,e,c⟩:=x;exact⟨z,_,r,b,k _ e,c⟩
 |dK l=>obtain⟨z,y,vs,r,b,i,j,e,c⟩:=x;exact⟨z,y,vs,r,b,i,j,k _ e,c⟩
 |lZ b u d=>exact⟨k _ x.1,d x.2⟩
def t4.lt(x:t4 P w H h)(e:H a=Y o):a<h.objs.size:=(x a o e).lt
def t4.fresh(x:t4 P w H h)(e:h.objs.size<=a):H a=L:=by
 cases q:H a with
 |none=>rfl
 |some u=>exact absurd (aT (x.lt q) e) (bB _)
def t4.kept(x:t4 P w H h)(k:∀b u,h.get? b=Y u->h'.get? b=Y u):t4 P w H h':=λa o e=>
 (x a o e).oK (k a)
def t4.laid(x:t4 P w H h)(k:∀b u,h.get? b=Y u->h'.get? b=Y u)(hp:h.objs.size<=a)(new:kU P w (upd H a o) h' a o):t4 P w (upd H a o) h':=λb u e=>by
 by_cases hb:b=a
 .subst hb;rw[cW]at e;cases e;exact new
 .rw[eh hb]at e;exact(x b u e).oK (k b)
end
def Rd(H:Hp)(a:aL)(u:HO):Prop:=H a=Y u\/∃o,H a=Y (.lZ o u)
def Rd.ok(r:Rd H a u)(x:t4 P w H h):kU P w H h a u:=by
 rcases r with r|⟨o,r⟩
 .exact x a u r
 .exact (x a _ r).2
def Mut:Option HO->Prop
 |some (.lst _)=>True
 |some (.dK _)=>True
 |_=>False
section
variable{h':cx}
def t4.write(ok:t4 P w H h)(k:∀b u,b≠x->h.get? b=Y u->h'.get? b=Y u)(new:kU P w (upd H x g) h' x g):t4 P w (upd H x g) h':=λb u q=>by
 by_cases hb:b=x
 .subst hb;rw[cW]at q;cases q;exact new
 .rw[eh hb]at q;exact(ok b u q).oK λv=>k b v hb
end
structure Un(fs ex:List aL)(H H':Hp)(h h':cx):Prop where
 keep:∀b o,h.get? b=Y o->H b=L->b∉fs->b∉ex->h'.get? b=Y o
 slot:∀b o,h.get? b=Y o->H b=L->b∈fs->b∉ex->∃sl,h'.get? b=Y { o with slots:=sl }
 free:∀b o,h.get? b=Y o->H b=L->b∉ex->H' b=L
 there:∀b o,h.get? b=Y o->b∉ex->∃o',h'.get? b=Y o'
 tups:∀b xs,H b=Y (.tup xs)->H' b=Y (.tup xs)
 frzs:∀b o u,H b=Y (.lZ o u)->H' b=Y (.lZ o u)
section
variable{h h':cx}
def Un.any(u:Un fs ex H C h h1)(q:h.get? b=Y g)(n:H b=L)(B:b∉ex):∃sl,h1.get? b=Y { g with slots:=sl }:=by
 by_cases hb:b∈fs
 .exact u.slot b g q n hb B
 .exact⟨_,u.keep b g q n hb B⟩
def Un.kept(k:∀b u,h.get? b=Y u->h'.get? b=Y u):Un fs ex H H h h':=
 ⟨λb a q _ _ _=>k b a q,λb a q _ _ _=>⟨_,k b a q⟩,λ_ _ _ n _=>n,λb a q _=>⟨a,k b a q⟩,λ_ _ q=>q,λ_ _ _ q=>q⟩
def Un.refl:Un fs ex H H h h:=Un.kept λ_ _ q=>q
def Un.laid(k:∀b u,h.get? b=Y u->h'.get? b=Y u)(hp:h.objs.size<=a)(B:H a=L):Un fs ex H (upd H a o) h h' where
 keep:=λb u q _ _ _=>k b u q
 slot:=λb u q _ _ _=>⟨u.slots,k b u q⟩
 free:=λb u q n _=>by rw[eh (a9 (aT (hl9 q) hp))];exact n
 there:=λb u q _=>⟨u,k b u q⟩
 tups:=λb c q=>by rw[eh (i4 q B)];exact q
 frzs:=λb u c q=>by rw[eh (i4 q B)];exact q
def Un.write(B:Mut (H x))(k:∀b u,b≠x->h.get? b=Y u->h'.get? b=Y u)(O:∃u,h'.get? x=Y u):Un fs ex H (upd H x o) h h':=by
 have c:∀b,H b=L->b≠x:=λb n z=>by subst z;rwa[n]at B
 have d:∀b u,H b=Y u->¬Mut (Y u)->b≠x:=λb u q nm z=>by subst z;rw[q]at B;exact nm B
 refine⟨λb u q n _ _=>k b u (c b n) q,λb u q n _ _=>⟨_,k b u (c b n) q⟩,λb u q n _=>by rwa[eh (c b n)],λb u q _=>?_,
  λb e q=>by rwa[eh (d b _ q λz=>z)],λb u e q=>by rwa[eh (d b _ q λz=>z)]⟩
 by_cases a:b=x
 .subst a;exact O
 .exact⟨u,k b u a q⟩
end
noncomputable def trk(h:cx)(H:Hp):List aL:=(aQ h.objs.size).filter λa=>(H a).isSome
def BH(h:cx)(H:Hp):cx:=PySem.W.hideAll h (trk h H)
def ID(h:cx)(H:Hp):(BH h H).objs.size=h.objs.size:=PySem.W.hideAll_size _ _
def L8{h:cx}(e:h.get? b=Y o)(n:H b=L):(BH h H).get? b=Y o:=
 PySem.W.hideAll_get _ e λa=>by
  have q :=(bJ.mp a).2;rw[n]at q;simp at q
def PC(e:(BH h H).get? b=Y o):h.get? b=Y o/\H b=L:=by
 have a :=PySem.W.of_hideAll _ e;refine⟨a,?_⟩
 cases q:H b with
 |none=>rfl
 |some x=>
   have z:(BH h H).get? b=L:=PySem.W.hideAll_none _ (bJ.mpr ⟨bu.mpr (hl9 a),by simp[q]⟩);rw[z]at e;cases e
noncomputable def Q0(g h:cx)(B:aL):List (aL×lD):=(aQ h.objs.size).filterMap λa=>if a=B\/(g.get? a).isSome=U then L else(h.get? a).map λo=>(a,o)
def rest(g h:cx)(B d:aL):List (aL×lD):=(Q0 g h B).filter λp=>decide (p.1≠d)
structure Mod(K:aP)(mg:aW->Option ah)(base:cx):Prop where
 kin:K.In base
 glob:base.Ns mainGlobals mg
 blt:∃mb,base.Ns builtinsNs mb/\∀x:aW,x≠"__name__"->mb x=bootBuiltins x
 nolimit:base.NoLimit
structure Cx where
 prog:cg
 w:c6
 K:aP
 mg:aW->Option ah
 base:cx
 A:bT
 N:List aW
 s₀:ai
 H₀:Hp
 env:Nf
 outer:List Nf
 stack:List Nf
 ex:List aL
 fn:aW->Bool
 calm:Bool
 pn:List (aL×lD)
 xe:ah->ai->Prop
noncomputable def Jm(l:List Nf):List aL:=l.filterMap (·.frame)
abbrev Cx.fs(X:Cx):List aL:=Jm X.outer
def So(sc:m9)(x:aW):Prop:=sc.names.lookup x=Y .local\/sc.names.lookup x=Y .cell\/sc.names.lookup x=Y .free
def Loc(sc:m9)(x:aW):Prop:=sc.names.lookup x=Y .local\/sc.names.lookup x=Y .cell
def Look(env:Nf)(h:cx)(m:aW->Option ah)(x:aW)(u:ah):Prop:=
 (env.kindOf x=Y .local/\m x=Y u)\/((env.kindOf x=Y .cell\/env.kindOf x=Y .free)/\∃c,env.cells.lookup x=Y c/\h.IsCell c (Y u))
structure Cx.Ok(X:Cx):Prop where
 mod:Mod X.K X.mg X.base
 kind:X.env.scope.kind=.function
 glob:X.env.globals=mainGlobals
 blt:X.env.builtins=builtinsNs
 above:X.s₀.heap.objs.size<=X.env.locals
 inj:∀x y c,X.env.cells.lookup x=Y c->X.env.cells.lookup y=Y c->x=y
 has:∀x,(X.env.kindOf x=Y .cell\/X.env.kindOf x=Y .free)->∃c,X.env.cells.lookup x=Y c
 cab:∀x c,X.fn x=U->X.env.cells.lookup x=Y c->X.s₀.heap.objs.size<=c
 hd:X.calm=U->X.A.handled=L
 frames:X.A.frames=Y X.stack
 Nn:X.stack=X.outer\/(X.stack=X.env::X.outer/\X.env.frame=Y X.env.locals)
 exf:∀b∈X.ex,b≠X.env.locals/\∀x c,X.env.cells.lookup x=Y c->c≠b
 bs:∀b o,X.base.get? b=Y o->X.s₀.heap.get? b=Y o/\X.H₀ b=L
 bsz:X.base.objs.size<=X.s₀.heap.objs.size
 noex:∀b o,X.base.get? b=Y o->b∉X.ex
 exfs:∀b∈X.ex,b∉X.fs
 vW:X.s₀.heap.FunFrames X.base X.outer
 frf:∀b∈X.fs,X.H₀ b=L
structure Inv(X:Cx)(h_:List (aL×lD))(σ:List (Option V))(H:Hp)(s:ai):Prop where
 ok:X.Ok
 os:s.os=X.s₀.os
 bare:oT s.gens
 base:Un X.fs X.ex X.H₀ H X.s₀.heap s.heap
 loc:∃m,s.heap.Ns X.env.locals m/\∀(i:Nat)(x:aW)(v:V),X.N[i]?=Y x->σ[i]?=Y (Y v)->So X.env.scope x->∃u,RelV v u/\Look X.env s.heap m x u
 cell:∀x c,X.env.cells.lookup x=Y c->∃v,s.heap.IsCell c v
 free:H X.env.locals=L
 freeC:∀x c,X.env.cells.lookup x=Y c->H c=L
 pin:∀p∈X.pn++h_,s.heap.get? p.1=Y p.2/\H p.1=L/\p.1≠X.env.locals/\p.1∉X.fs/\∀v,p.2.data≠.cell v
 hok:t4 X.prog X.w H s.heap
 len:Z σ=Z X.N
section
variable{X:Cx}{h_:List (aL×lD)}{σ:List (Option V)}{H:Hp}{s:ai}{h':cx}
def Cx.Ok.aa4(ok:X.Ok)(e:X.base.get? b=Y o):b∉X.fs:=λhb=>by
 have:=(ok.vW.mem hb).1
 simp_all
def Inv.bs(I:Inv X h_ σ H s):∀b o,X.base.get? b=Y o->s.heap.get? b=Y o/\H b=L:=λb o e=>
 ⟨I.base.keep b o (I.ok.bs b o e).1 (I.ok.bs b o e).2 (I.ok.aa4 e) (I.ok.noex b o e),I.base.free b o (I.ok.bs b o e).1 (I.ok.bs b o e).2 (I.ok.noex b o e)⟩
def Inv.bk(I:Inv X h_ σ H s):∀b o,X.base.get? b=Y o->s.heap.get? b=Y o:=λb o e=>(I.bs b o e).1
def Inv.mod(I:Inv X h_ σ H s):Mod X.K X.mg X.base:=I.ok.mod
def Inv.F7(I:Inv X h_ σ H s):X.K.In s.heap:=I.ok.mod.kin.keeps I.bk
def Inv.fr(I:Inv X h_ σ H s):∃m,Fr X.base X.env.locals s.heap m:=
 let ⟨m,a,_⟩:=I.loc
 ⟨m,a,I.bk,aa I.ok.bsz I.ok.above⟩
def Inv.lt(I:Inv X h_ σ H s):X.env.locals<s.heap.objs.size:=let ⟨_,a,_⟩:=I.loc;a.lt
def Inv.sz(I:Inv X h_ σ H s):X.s₀.heap.objs.size<=s.heap.objs.size:=aa I.ok.above (ax I.lt)
def Inv.YQ(I:Inv X h_ σ H s)(h:s.heap.objs.size<=a):a∉X.fs:=λhb=>by
 obtain⟨_,o,ho,_⟩:=I.ok.vW.mem hb;exact absurd (aT (hl9 ho) (aa I.sz h)) (bB _)
def Inv.WT(I:Inv X h_ σ H s):∀x c,X.env.cells.lookup x=Y c->c≠X.env.locals:=λx c e z=>by
 obtain⟨v,o,ho,hd⟩:=I.cell x c e;obtain⟨m,⟨d,f,g,a,b,_⟩,_⟩:=I.loc
 grind
theorem Inv.vW(I:Inv X h_ σ H s):s.heap.FunFrames X.base X.outer:=by
 have all:∀(l:List Nf),(∀b∈Jm l,b∈X.fs)->X.s₀.heap.FunFrames X.base l->s.heap.FunFrames X.base l:=by
  intro l
  induction l with
  |nil=>intro _ _;trivial
  |cons env r c=>
    intro hs hl;obtain⟨hk,⟨g,o,hf,d,ho,hd⟩,f⟩:=hl;have a :=hs g (by unfold Jm;simp_all);obtain⟨sl,e⟩:=I.base.slot g o ho (I.ok.frf g a) a λz=>I.ok.exfs g z a;exact⟨hk,⟨g,_,hf,d,e,hd⟩,c (λb hb=>hs b (by unfold Jm;rw[qH,hf];exact jZ _ hb)) f⟩
 exact all _ (λ_ hb=>hb) I.ok.vW
def Inv.stack(I:Inv X h_ σ H s):s.heap.FunFrames X.base X.stack:=by
 rcases I.ok.Nn with e|⟨e,hf⟩
 .rw[e];exact I.vW
 .rw[e];obtain⟨m,a,_⟩:=I.loc;exact .cons (by rw[I.ok.kind];decide) hf a (EJ (aa I.ok.bsz I.ok.above)) I.vW
def Inv.u7(I:Inv X h_ σ H s):∀b∈Jm X.stack,b∈X.env.locals::X.fs:=λb hb=>by
 rcases I.ok.Nn with e|⟨e,hf⟩
 .simp_all
 .rw[e]at hb;unfold Jm at hb;rwa[qH,hf]at hb
def Inv.EY(I:Inv X h_ σ H s):∀b∈Jm X.stack,H b=L:=λb hb=>by
 rcases aw.mp (I.u7 b hb)with e|hb
 .rw[e];exact I.free
 .obtain⟨_,o,ho,_⟩:=I.ok.vW.mem hb;exact I.base.free b o ho (I.ok.frf b hb) λz=>I.ok.exfs b z hb
def Inv.step{g':Array nP}{t':Nat}{P:Drawn}{ch:List aL}(I:Inv X h_ σ H s)
  (B:∀b∈ch,(b∈X.ex\/X.s₀.heap.objs.size<=b)/\b≠X.env.locals/\(∀x c,X.env.cells.lookup x=Y c->c≠b)/\∀p∈X.pn++h_,p.1≠b)
  (keep:∀b o,b≠X.env.locals->b∉X.fs->b∉ch->s.heap.get? b=Y o->H b=L->h'.get? b=Y o)
  (slot:∀b o,b≠X.env.locals->b∈X.fs->b∉ch->s.heap.get? b=Y o->H b=L->∃sl,h'.get? b=Y { o with slots:=sl })(free:∀b o,b∉ch->s.heap.get? b=Y o->H b=L->F b=L)
  (there:∀b o,b∉ch->s.heap.get? b=Y o->∃C,h'.get? b=Y C)
  (tups:∀b xs,H b=Y (.tup xs)->F b=Y (.tup xs))(frzs:∀b o u,H b=Y (.lZ o u)->F b=Y (.lZ o u))
  (ns:∀m,s.heap.Ns X.env.locals m->h'.Ns X.env.locals m)(hok:t4 X.prog X.w F h')(O:oT g') :
  Inv X h_ σ F { s with heap:=h',gens:=g',drawn:=P,toks:=t' }:=by
 have g:∀b o,X.s₀.heap.get? b=Y o->b∉X.ex->b∉ch:=λb o e a hb=>by
  rcases(B b hb).1 with z|z
  .exact a z
  .exact absurd (aT (hl9 e) z) (bB _)
 have cellK:∀x c,X.env.cells.lookup x=Y c->∀v,s.heap.IsCell c v->h'.IsCell c v:=λx c e v A=>by
  obtain⟨o,ho,hd⟩:=A;have f :=λz=>(B c z).2.2.1 x c e W;by_cases hc:c∈X.fs
  .obtain⟨sl,q⟩:=slot c o (I.WT x c e) hc f ho (I.freeC x c e);exact⟨_,q,hd⟩
  .exact⟨o,keep c o (I.WT x c e) hc f ho (I.freeC x c e),hd⟩
 refine⟨I.ok,I.os,O,⟨λb o e n hb a=>(keep b o ((λb o e=>a9 (aT (hl9 e) I.ok.above)) b o e) hb (g b o e a) (I.base.keep b o e n hb a) (I.base.free b o e n a)),λb o e n hb a=>?_,λb o e n a=>?_,λb o e a=>?_,λb xs e=>tups b xs (I.base.tups b xs e),λb o xs e=>frzs b o xs (I.base.frzs b o xs e)⟩,?_,λx c e=>?_,?_,λx c e=>?_,λp hp=>?_,hok,I.len⟩
 .obtain⟨sl,h⟩:=I.base.slot b o e n hb a;obtain⟨j,y⟩:=slot b _ ((λb o e=>a9 (aT (hl9 e) I.ok.above)) b o e) hb (g b o e a) h (I.base.free b o e n a);exact⟨j,y⟩
 .obtain⟨C,h⟩:=I.base.there b o e a;exact free b C (g b o e a) h (I.base.free b o e n a)
 .obtain⟨C,h⟩:=I.base.there b o e a;exact there b C (g b o e a) h
 .obtain⟨m,t,hl⟩:=I.loc;refine⟨m,ns m t,λi x v h y D=>?_⟩;obtain⟨u,r,l⟩:=hl i x v h y D;refine⟨u,r,?_⟩
  rcases l with l|⟨k,c,e,z⟩
  .exact .inl l
  .exact .inr ⟨k,c,e,cellK x c e _ z⟩
 .obtain⟨v,z⟩:=I.cell x c e;exact⟨v,cellK x c e v z⟩
 .obtain⟨m,⟨o,_,_,ho,_⟩,_⟩:=I.loc;exact free _ o (λz=>(B _ z).2.1 W) ho I.free
 .obtain⟨v,o,ho,hd⟩:=I.cell x c e;exact free c o (λz=>(B c z).2.2.1 x c e W) ho (I.freeC x c e)
 .obtain⟨e,n,ne,nf,d⟩:=I.pin p hp;have f :=λz=>(B _ z).2.2.2 p hp W;exact⟨keep _ _ ne nf f e n,free _ _ f e n,ne,nf,d⟩
def Inv.un(I:Inv X h_ σ H s)(u:Un X.fs [] H B s.heap h')(hok:t4 X.prog X.w B h'):Inv X h_ σ B { s with heap:=h',toks:=t' }:=by
 refine ac λ_ i=>?_;obtain⟨m,⟨o,k,l,ho,r⟩,_⟩:=id I.loc;obtain⟨sl,d⟩:=u.any ho I.free (by simp)
 refine i ?_;exact I.step (ch:=[]) (λ_ z=>nomatch z) (λb o _ hb _ e n=>u.keep b o e n hb (by simp)) (λb o _ hb _ e n=>u.slot b o e n hb (by simp)) (λb o _ e n=>u.free b o e n (by simp)) (λb o _ e=>u.there b o e (by simp)) u.tups u.frzs (λh f=>by
  obtain⟨p,j,c,a,g⟩:=f;rw[ho]at a;cases a
  exact⟨_,_,c,d,g⟩) hok I.bare
def Inv.call(I:Inv X h_ σ H s)(u:Un (Jm X.stack) ch H C s.heap h')(hok:t4 X.prog X.w C h')(O:oT g')
  (B:∀b∈ch,(b∈X.ex\/X.s₀.heap.objs.size<=b)/\b≠X.env.locals/\(∀x c,X.env.cells.lookup x=Y c->c≠b)/\∀p∈X.pn++h_,p.1≠b) :
  Inv X h_ σ C { s with heap:=h',gens:=g',drawn:=F,toks:=t' }:=by
 refine ac λ_ j=>?_;obtain⟨m,⟨o,l,q,ho,r⟩,_⟩:=id I.loc;obtain⟨sl,d⟩:=u.any ho I.free λz=>(B _ z).2.1 W
 refine j ?_;exact I.step B (λb o d hb hc e n=>u.keep b o e n (λz=>(aw.mp (I.u7 b z)).elim d hb) hc) (λb o _ _ hc e n=>u.any e n hc) (λb o hc e n=>u.free b o e n hc) (λb o hc e=>u.there b o e hc) u.tups u.frzs (λi g=>by
  obtain⟨t,k,f,a,h⟩:=g;rw[ho]at a;cases a
  exact⟨_,_,f,d,h⟩) hok O
def Inv.turned(I:Inv X h_ σ H s)(k:∀b o,b≠it->s.heap.get? b=Y o->h'.get? b=Y o)(O:H it=L)(B:it≠X.env.locals)
  (h1:it∈X.ex\/X.s₀.heap.objs.size<=it)(h2:∀x c,X.env.cells.lookup x=Y c->c≠it)(h3:∀p∈X.pn++h_,p.1≠it):Inv X h_ σ H { s with heap:=h',toks:=t' }:=by
 refine I.step (ch:=[it]) (λb hb=>?_) (λb o _ _ hc e _=>k b o (λz=>hc (by simp[z])) e) (λb o _ _ hc e _=>⟨_,k b o (λz=>hc (by simp[z])) e⟩) (λ_ _ _ _ n=>n)
  (λb o hc e=>⟨o,k b o (λz=>hc (by simp[z])) e⟩) (λ_ _ e=>e) (λ_ _ _ e=>e) (λm d=>?_) (λb u e=>((I.hok b u e).oK λv=>k b v ((λb u e z=>by simp_all) b u e))) I.bare
 .have e:b=it:=by simpa using hb
  subst e;exact⟨h1,B,h2,h3⟩
 .obtain⟨o,a,f,ho,r⟩:=d;exact⟨o,a,f,k _ o (cu B) ho,r⟩
def Inv.tok(I:Inv X h_ σ H s)(t:Nat):Inv X h_ σ H { s with toks:=t }:=I.un Un.refl I.hok
def Inv.kept(I:Inv X h_ σ H s)(k:∀b u,s.heap.get? b=Y u->h'.get? b=Y u):Inv X h_ σ H { s with heap:=h',toks:=t' }:=I.un (Un.kept k) (I.hok.kept k)
def Inv.laid(I:Inv X h_ σ H s)(k:∀b u,s.heap.get? b=Y u->h'.get? b=Y u)(hp:s.heap.objs.size<=a)(new:kU X.prog X.w (upd H a o) h' a o) :
  Inv X h_ σ (upd H a o) { s with heap:=h',toks:=t' }:=I.un (Un.laid k hp (I.hok.fresh hp)) (I.hok.laid k hp new)
def Inv.write(I:Inv X h_ σ H s)(O:Mut (H x))(k:∀b u,b≠x->s.heap.get? b=Y u->h'.get? b=Y u)(B:∃u,h'.get? x=Y u)
  (new:kU X.prog X.w (upd H x o) h' x o):Inv X h_ σ (upd H x o) { s with heap:=h',toks:=t' }:=I.un (Un.write O k B) (I.hok.write k new)
def Inv.weak{B:List (Option V)}(I:Inv X h_ σ H s)(hl:Z B=Z σ)(w:∀(i:Nat)v,B[i]?=Y (Y v)->σ[i]?=Y (Y v)):Inv X h_ B H s:=
 ⟨I.ok,I.os,I.bare,I.base,let ⟨m,b,a⟩:=I.loc;⟨m,b,λi x v c d e=>a i x v c (w i v d) e⟩,I.cell,I.free,I.freeC,I.pin,I.hok,hl.trans I.len⟩
def Inv.qX(I:Inv X h_ σ H s)(h:∀p∈g,s.heap.get? p.1=Y p.2/\H p.1=L/\p.1≠X.env.locals/\p.1∉X.fs/\∀v,p.2.data≠.cell v):Inv X g σ H s:=
 ⟨I.ok,I.os,I.bare,I.base,I.loc,I.cell,I.free,I.freeC,λp hp=>(au.mp hp).elim (λz=>I.pin p (aC _ z)) (h p),I.hok,I.len⟩
def Bi{N:List aW}(B:N.Nodup){i j:Nat}{x:aW}(a:N[i]?=Y x)(b:N[j]?=Y x):i=j:=by
 exact(List.getElem_inj B).mp ((aN.mp a).2.trans (aN.mp b).2.symm)
def Hv(I:Inv X h_ σ H s)(a5:X.N.Nodup)(hi:X.N[i]?=Y x)(B:Loc X.env.scope x)(r:RelV v u)
  (h:∀s',Inv X h_ (σ.set i (Y v)) H s'->(∃a,cP a s.heap s'.heap/\(a=X.env.locals\/X.env.cells.lookup x=Y a))->Q () s')(hf:X.fn x=U\/X.env.scope.names.lookup x=Y .local):aF M A (storeName X.env x u) Q E s:=by
 obtain⟨m,G,hl⟩:=id I.loc;have f:i<Z σ:=by rw[I.len];exact(aN.mp hi).1
 have tracked:∀{a:aL}{h':cx},(∃o,s.heap.get? a=Y o/\H a=L)->cP a _ h'->t4 _ _ H h':=λ{a h'}ha hs b t e=>by
  obtain⟨_,_,J'⟩:=ha;refine(I.hok b t e).oK λK q=>(hs.2 b ?_).trans q;rintro rfl
  simp_all
 rcases B with hk|hk
 .refine wpAny_storeName_local hk G (λh' L' hs=>?_) (by rw[I.ok.kind];rfl);obtain⟨w,_,_,O,_⟩:=id G;refine h _ ⟨I.ok,I.os,I.bare,⟨λb o e n hb B=>((hs.2 b (a9 (aT (hl9 e) I.ok.above))).trans (I.base.keep b o e n hb B)),λb o e n hb B=>?_,I.base.free,λb o e B=>?_,I.base.tups,I.base.frzs⟩,⟨_,L',λj y P e1 e2 e3=>?_⟩,λy c e=>?_,I.free,I.freeC,λp hp=>?_,tracked ⟨w,O,I.free⟩ hs,by simpa using I.len⟩ ⟨_,hs,.inl W⟩
  .obtain⟨sl,e1⟩:=I.base.slot b o e n hb B;exact⟨sl,(hs.2 b (a9 (aT (hl9 e) I.ok.above))).trans e1⟩
  .obtain⟨o',e1⟩:=I.base.there b o e B;exact⟨o',(hs.2 b (a9 (aT (hl9 e) I.ok.above))).trans e1⟩
  .by_cases g:j=i
   .subst g;rw[hi]at e1;cases e1;rw[iD f]at e2;cases e2;exact⟨u,r,.inl ⟨hk,by simp⟩⟩
   .rw[dI (cu g)]at e2;obtain⟨R,S,q⟩:=hl j y P e1 e2 e3;refine⟨R,S,?_⟩
    rcases q with⟨k,e⟩|⟨k,c,e,z⟩
    .refine .inl ⟨k,?_⟩;have:y≠x:=λe=>g (Bi a5 e1 (e▸hi));simp[this,e]
    .exact .inr ⟨k,c,e,z.sameBut hs (I.WT y c e)⟩
  .obtain⟨K,z⟩:=I.cell y c e;exact⟨K,z.sameBut hs (I.WT y c e)⟩
  .obtain⟨e,n,ne,nf,d⟩:=I.pin p hp;exact⟨(hs.2 _ ne).trans e,n,ne,nf,d⟩
 .have l:X.fn x=U:=by
   grind
  obtain⟨c,hc⟩:=I.ok.has x (.inl hk);obtain⟨K,z⟩:=I.cell x c hc;refine wpAny_storeName_cell I.ok.kind hk hc z (λh' C hs=>?_);obtain⟨oc,T,U'⟩:=id z;refine h _ ⟨I.ok,I.os,I.bare,⟨λb o e n hb B=>((hs.2 b (a9 (aT (hl9 e) (I.ok.cab x c l hc)))).trans (I.base.keep b o e n hb B)),λb o e n hb B=>?_,I.base.free,λb o e B=>?_,I.base.tups,I.base.frzs⟩,⟨m,G.sameBut hs (cu (I.WT x c hc)),λj y P e1 e2 e3=>?_⟩,λy F e=>?_,I.free,I.freeC,λp hp=>?_,tracked ⟨oc,T,I.freeC x c hc⟩ hs,by simpa using I.len⟩ ⟨c,hs,.inr hc⟩
  .obtain⟨sl,e1⟩:=I.base.slot b o e n hb B;exact⟨sl,(hs.2 b (a9 (aT (hl9 e) (I.ok.cab x c l hc)))).trans e1⟩
  .obtain⟨o',e1⟩:=I.base.there b o e B;exact⟨o',(hs.2 b (a9 (aT (hl9 e) (I.ok.cab x c l hc)))).trans e1⟩
  .by_cases g:j=i
   .subst g;rw[hi]at e1;cases e1;rw[iD f]at e2;cases e2;exact⟨u,r,.inr ⟨.inl hk,c,hc,C⟩⟩
   .rw[dI (cu g)]at e2;obtain⟨R,S,q⟩:=hl j y P e1 e2 e3;refine⟨R,S,?_⟩
    rcases q with q|⟨k,F,e,z'⟩
    .exact .inl q
    .refine .inr ⟨k,F,e,z'.sameBut hs ?_⟩;rintro rfl;exact g (Bi a5 e1 (I.ok.inj _ _ _ e hc▸hi))
  .by_cases D:F=c
   .subst D;exact⟨_,C⟩
   .obtain⟨w2,z2⟩:=I.cell y F e;exact⟨w2,z2.sameBut hs D⟩
  .obtain⟨e,n,ne,nf,d⟩:=I.pin p hp;refine⟨(hs.2 _ ?_).trans e,n,ne,nf,d⟩
   grind
def u6(I:Inv X h_ σ H s)(B:X.N.Nodup)(hi:X.N[i]?=Y x)(O:Loc X.env.scope x)(r:RelV v u)
  (h:∀g,Inv X h_ (σ.set i (Y v)) H g->Q () g)(hf:X.fn x=U\/X.env.scope.names.lookup x=Y .local):aF M A (storeName X.env x u) Q E s:=
 Hv I B hi O r (λg a _=>h g a) hf
def Inv.ZK{g:ai}(I:Inv X h_ σ H s)(ho:g.os=s.os)(u:Un (Jm X.stack) ch H C s.heap g.heap)(hok:t4 X.prog X.w C g.heap)(O:oT g.gens)
  (B:∀b∈ch,(b∈X.ex\/X.s₀.heap.objs.size<=b)/\b≠X.env.locals/\(∀x c,X.env.cells.lookup x=Y c->c≠b)/\∀p∈X.pn++h_,p.1≠b):Inv X h_ σ C g:=by
 obtain⟨h',a,d,e,f⟩:=g;subst ho;exact I.call u hok O B
end
abbrev XK:=ah->Option aL->Hp->Prop
abbrev St:=List (Option V)
abbrev VK:=V->Hp->Prop
abbrev TE:=St->Hp->VK->Prop
abbrev TT:=St->Hp->(Bool->Hp->Prop)->Prop
abbrev TA:=St->Hp->(List V->Hp->Prop)->Prop
structure Ends where
 nx:St->Hp->Prop
 rt:VK
 bk:St->Hp->Prop:=λ_ _=>False
 ct:St->Hp->Prop:=λ_ _=>False
abbrev TS:=Ends->St->Hp->Prop
def EP(X:Cx)(h_:List (aL×lD))(σ:St)(Q:VK)(u:ah)(g:ai):Prop:=∃v a,Inv X h_ σ a g/\RelV v u/\Q v a
def TP(X:Cx)(h_:List (aL×lD))(σ:St)(Q:Bool->Hp->Prop)(b:Bool)(g:ai):Prop:=∃a,Inv X h_ σ a g/\Q b a
def AP(X:Cx)(h_:List (aL×lD))(σ:St)(Q:List V->Hp->Prop)(us:List ah)(g:ai):Prop:=∃vs a,Inv X h_ σ a g/\cV vs us/\Q vs a
def SP(X:Cx)(h_:List (aL×lD))(D:Ends)(f:Flow)(g:ai):Prop:=
 match f with
 |.next=>∃a b,Inv X h_ a b g/\D.nx a b
 |.brk=>∃a b,Inv X h_ a b g/\D.bk a b
 |.cont=>∃a b,Inv X h_ a b g/\D.ct a b
 |.ret u=>∃v a b,Inv X h_ a b g/\RelV v u/\D.rt v b
def PE(X:Cx)(e:ba)(t:TE):Prop:=
 ∀(h_:List (aL×lD))(s:ai)(σ:St)(H:Hp)(Q:VK),Inv X h_ σ H s->t σ H Q->aF (aG X.prog X.w) X.A (eval e X.env) (EP X h_ σ Q) X.xe s
def PT(X:Cx)(e:ba)(t:TT):Prop:=
 ∀(h_:List (aL×lD))(s:ai)(σ:St)(H:Hp)(Q:Bool->Hp->Prop),Inv X h_ σ H s->t σ H Q->aF (aG X.prog X.w) X.A (isTrue e X.env (eval e X.env)) (TP X h_ σ Q) X.xe s
def PW(X:Cx)(e:ba)(t:TT):Prop:=
 ∀(whole:Au ah)(h_:List (aL×lD))(s:ai)(σ:St)(H:Hp)(Q:Bool->Hp->Prop),Inv X h_ σ H s->t σ H Q->aF (aG X.prog X.w) X.A (isTrue e X.env whole) (TP X h_ σ Q) X.xe s
def PW.pt(h:PW X e t):PT X e t:=h _
def PA(X:Cx)(es:List ba)(t:TA):Prop:=
 ∀(pos:wo)(h_:List (aL×lD))(s:ai)(σ:St)(H:Hp)(Q:List V->Hp->Prop),Inv X h_ σ H s->t σ H Q->aF (aG X.prog X.w) X.A (spliced (backTo pos (aO es X.env))) (AP X h_ σ Q) X.xe s
def PS(X:Cx)(st:kZ)(t:TS):Prop:=
 ∀(h_:List (aL×lD))(s:ai)(σ:St)(H:Hp)(D:Ends),Inv X h_ σ H s->t D σ H->aF (aG X.prog X.w) X.A (exec st X.env) (SP X h_ D) X.xe s
def Am(X:Cx)(st:List kZ)(t:TS):Prop:=
 ∀(h_:List (aL×lD))(s:ai)(σ:St)(H:Hp)(D:Ends),Inv X h_ σ H s->t D σ H->aF (aG X.prog X.w) X.A (execs st X.env) (SP X h_ D) X.xe s
def iN (h:aF M A t Q E s)(B:∀a s,Q a s->g a s):aF M A t g E s:=dE h B λ_ _ x=>x
section
variable{X:Cx}
def bin{a b:ba}{C tb:TE}(ha:PE X a C)(hb:PE X b tb){h_:List (aL×lD)}{s:ai}{σ:St}{H:Hp}{R:V->V->Hp->Prop}(I:Inv X h_ σ H s)(h:C σ H λx O=>tb σ O λy F=>R x y F)
  {α:Type}{Q:α->ai->Prop}{f:ah->ah->Au α}
  (hf:∀v u s2 x y F,Inv X h_ σ F s2->RelV x v->RelV y u->R x y F->aF (aG X.prog X.w) X.A (f v u) Q X.xe s2) :
  aF (aG X.prog X.w) X.A (eval a X.env) (λv P=>aF (aG X.prog X.w) X.A (eval b X.env) (λu B=>aF (aG X.prog X.w) X.A (f v u) Q X.xe B) X.xe P) X.xe s:=by
 refine iN (ha h_ s σ H _ I h) λv s1 l=>?_;obtain⟨x,O,c,d,e⟩:=l;exact iN (hb h_ s1 σ O _ c e) λu s2 ⟨y,F,g,i,j⟩=>hf v u s2 x y F g d i j
def se(i:Nat):TE:=λσ H Q=>∃v,σ[i]?=Y (Y v)/\Q v H
def tC(v:V):TE:=λ_ H Q=>Q v H
def nW(O:X.N[i]?=Y x)(g:So X.env.scope x)(hd:(x == ("__debug__":aW))=J)(B:(x == ("__classdict__":aW))=J):PE X (.Name x pos) (se i):=by
 intro h_ s σ H Q I h;obtain⟨v,e,h⟩:=h;obtain⟨m,b,hl⟩:=I.loc;obtain⟨u,r,l⟩:=hl i x v O e g;have fin:EP X h_ σ Q u s:=⟨v,H,I,r,h⟩
 rcases l with⟨hk,d⟩|⟨hk,c,hc,a⟩
 .exact wpAny_Name (wpAny_loadName_local I.ok.kind hk b d fin) hd
 .rcases hk with hk|hk
  .exact wpAny_Name (wpAny_loadName_cell I.ok.kind hk hc a fin) hd
  .exact wpAny_Name (wpAny_loadName_free I.ok.kind hk hc a fin B) hd
def U1{i j pos}:PE X (.Constant (.int i) j pos) (tC (.int i)):=λ_ _ _ H _ I h=>wpAny_Constant_int ⟨.int i,H,I.tok _,⟨_,W⟩,h⟩
def YK{b j pos}:PE X (.Constant (.bool b) j pos) (tC (.bl b)):=λ_ _ _ H _ I h=>Constant_bool ⟨.bl b,H,I,W,h⟩
def UZ{j pos}:PE X (.Constant .none j pos) (tC .non):=λ_ _ _ H _ I h=>Constant_none ⟨.non,H,I,W,h⟩
def UX{x j pos}:PE X (.Constant (.str x) j pos) (tC (.str x)):=λ_ _ _ H _ I h=>Calls.Constant_str ⟨.str x,H,I.tok _,⟨_,W⟩,h⟩
def Gl(X:Cx)(x:aW):Prop:=X.env.kindOf x=Y .globalImplicit
def zx(I:Inv X h_ σ H s)(B:Gl X x)(O:X.mg x=Y u)(h:Q u s)
  (hd:(x == ("__debug__":aW))=J):aF (aG X.prog X.w) X.A (eval (.Name x pos) X.env) Q E s:=
 wN I.ok.kind B (Calls.loadGlobal_global (by rw[I.ok.glob];exact I.mod.glob.keeps I.bk) O h) hd
def lp(I:Inv X h_ σ H s)(B:Gl X x)(O:X.mg x=L)(g:bootBuiltins x=Y u)(h:Q u s)
  (C:x≠"__name__":=by decide)(hd:(x == ("__debug__":aW))=J:=by decide):aF (aG X.prog X.w) X.A (eval (.Name x pos) X.env) Q E s:=by
 obtain⟨a,h1,h2⟩:=I.mod.blt;exact wN I.ok.kind B (Calls.loadGlobal_builtin (by rw[I.ok.glob];exact I.mod.glob.keeps I.bk) O (by rw[I.ok.blt];exact h1.keeps I.bk) ((h2 x C).trans g) h) hd
def Pe(B:Gl X x)(O:X.mg x=Y u)(r:RelV v u)(hd:(x == ("__debug__":aW))=J):PE X (.Name x pos) (tC v):=
 λ_ _ _ H _ I h=>zx I B O ⟨v,H,I,r,h⟩ hd
def Ph(B:Gl X x)(O:X.mg x=L)(g:bootBuiltins x=Y u)(r:RelV v u)(C:x≠"__name__")(hd:(x == ("__debug__":aW))=J):PE X (.Name x pos) (tC v):=
 λ_ _ _ H _ I h=>lp I B O g ⟨v,H,I,r,h⟩ C hd
variable{ta tb:TE}
def tB(t:TE):TT:=λσ H Q=>t σ H λx a=>∃c,x=.bl c/\Q c a
variable{rest:List ba}
def aaJ(t u:TT):TT:=λσ H Q=>t σ H λc a=>if c=U then u σ a Q else Q J a
def tOr(t u:TT):TT:=λσ H Q=>t σ H λc a=>if c=U then Q U a else u σ a Q
def aaE(t:TT):TT:=λσ H Q=>t σ H λc a=>Q (!c) a
def O5(ha:PT X a g):PW X (.BoolOp .And [a] pos) g:=by
 intro b h_ s σ H Q I h;refine isTrue_and (iN (ha h_ s σ H Q I h) λc s1 e=>?_)
 cases c with
 |true=>exact isTrue_and_nil e
 |false=>exact e
def UN(ha:PT X a g):PW X (.BoolOp .Or [a] pos) g:=by
 intro b h_ s σ H Q I h;refine isTrue_or (iN (ha h_ s σ H Q I h) λc s1 e=>?_)
 cases c with
 |false=>exact isTrue_or_nil e
 |true=>exact e
def UO(ha:PT X a C)(hb:PW X (.BoolOp .And (b::rest) pos) B):PW X (.BoolOp .And (a::b::rest) pos) (aaJ C B):=by
 intro g h_ s σ H Q I h;refine isTrue_and (iN (ha h_ s σ H _ I h) λc s1 j=>?_)
 obtain⟨d,e,f⟩:=j;cases c with
 |true=>exact hb g h_ s1 σ d Q e f
 |false=>exact⟨d,e,f⟩
def YD(ha:PT X a C)(hb:PW X (.BoolOp .Or (b::rest) pos) B):PW X (.BoolOp .Or (a::b::rest) pos) (tOr C B):=by
 intro g h_ s σ H Q I h;refine isTrue_or (iN (ha h_ s σ H _ I h) λc s1 j=>?_)
 obtain⟨d,e,f⟩:=j;cases c with
 |true=>exact⟨d,e,f⟩
 |false=>exact hb g h_ s1 σ d Q e f
def UQ(ha:PT X a g):PT X (.UnaryOp .Not a pos) (aaE g):=by
 intro h_ s σ H Q I h;exact isTrue_not (ha h_ s σ H (λc b=>Q _ b) I h)
def X7(ta tb:TE):TE:=λσ H Q=>ta σ H λx a=>∃c,x=.bl c/\if c=U then tb σ a Q else Q (.bl J) a
def aaD(ta tb:TE):TE:=λσ H Q=>ta σ H λx a=>∃c,x=.bl c/\if c=U then Q (.bl U) a else tb σ a Q
def UY{op}(h:PE X a t):PE X (.BoolOp op [a] pos) t:=λh_ s σ H Q I b=>BoolOp_one (h h_ s σ H Q I b)
def U3(ha:PE X a ta)(hb:PE X (.BoolOp .And (b::rest) pos) tb):PE X (.BoolOp .And (a::b::rest) pos) (X7 ta tb):=by
 intro h_ s σ H Q I h;refine BoolOp_and (iN (ha h_ s σ H _ I h) λv s1 j=>?_);obtain⟨x,e,f,g,d⟩:=j;obtain⟨c,rfl,d⟩:=d;cases g;refine gZ ?_
 cases c with
 |true=>exact hb h_ s1 σ e Q f d
 |false=>exact⟨.bl J,e,f,W,d⟩
def YJ(ha:PE X a ta)(hb:PE X (.BoolOp .Or (b::rest) pos) tb):PE X (.BoolOp .Or (a::b::rest) pos) (aaD ta tb):=by
 intro h_ s σ H Q I h;refine BoolOp_or (iN (ha h_ s σ H _ I h) λv s1 j=>?_);obtain⟨x,e,f,g,d⟩:=j;obtain⟨c,rfl,d⟩:=d;cases g;refine gZ ?_
 cases c with
 |false=>exact hb h_ s1 σ e Q f d
 |true=>exact⟨.bl U,e,f,W,d⟩
def tIf(t:TT)(ta tb:TE):TE:=λσ H Q=>t σ H λc a=>if c=U then ta σ a Q else tb σ a Q
def K2(hc:PT X c B)(ha:PE X a ta)(hb:PE X b tb):PE X (.IfExp c a b pos) (tIf B ta tb):=by
 intro h_ s σ H Q I h;refine wpAny_IfExp (iN (hc h_ s σ H _ I h) λd s1 j=>?_)
 obtain⟨e,f,g⟩:=j;cases d with
 |true=>exact ha h_ s1 σ e Q f g
 |false=>exact hb h_ s1 σ e Q f g
end
def ng(K:aP)(H:Hp)(a:aL)(xs:List V):Prop:=
 Rd H a (.lst xs)\/
  ∃(o:lD) (b:Array ah) (n:Nat),K.lookup a=Y o/\o.cls=.type "list"/\o.dict=L/\o.data=.seq b n/\b.size<=aE/\cV xs b.toList
def tZ(K:aP)(H:Hp)(a:aL)(xs:List V):Prop:=
 Rd H a (.tup xs)\/
  ∃(o:lD) (b:Array ah) (n:Nat),K.lookup a=Y o/\o.cls=.type "tuple"/\o.data=.seq b n/\b.size<=aE/\cV xs b.toList
noncomputable def abN:ah->Option V
 |.none=>Y .non
 |.bool b=>Y (.bl b)
 |.int i _=>Y (.int i)
 |.str x _=>Y (.str x)
 |.bytes b _=>Y (.byt b)
 |.float b _=>Y (.flt b)
 |.ref a=>Y (.ref a)
 |.type n=>Y (.ty n)
 |_=>L
def RelV.abs(r:RelV x u):abN u=Y x:=by
 cases x with
 |non=>cases r;rfl
 |bl _=>cases r;rfl
 |int _=>obtain⟨t,rfl⟩:=r;rfl
 |str _=>obtain⟨t,rfl⟩:=r;rfl
 |byt _=>obtain⟨t,rfl⟩:=r;rfl
 |flt _=>obtain⟨t,rfl⟩:=r;rfl
 |ref _=>cases r;rfl
 |ty _=>cases r;rfl
def RelV.inj(r:RelV x u)(q:RelV y u):x=y:=bI (r.abs.symm.trans q.abs)
theorem cV.inj{xs g:List V}(h:cV xs us):cV g us->xs=g:=by
 induction h generalizing g with
 |nil=>intro h;cases h;rfl
 |cons r _ i=>intro h;cases h with|cons a b=>rw[r.inj a,i b]
section
def ng.of{K:aP}(h:H a=Y (.lst xs)):ng K H a xs:=.inl (.inl h)
def Inv.list(I:Inv X h_ σ H s)(h:ng X.K H a xs):∃its:List ah,cV xs its/\PlainL s.heap a its.toArray/\Z xs<=aE:=by
 rcases h with h|⟨o,its,n,hk,hc,hd,hs,b,r⟩
 .obtain⟨z,its,n,r,e⟩:=h.ok I.hok;exact⟨_,r,⟨_,n,e,W,W,W⟩,z⟩
 .refine⟨_,r,⟨o,n,I.F7 a o hk,hc,hd,by simpa using hs⟩,?_⟩;have e:=r.length
  simp_all
def Inv.tuple(I:Inv X h_ σ H s)(h:tZ X.K H a xs):∃its:List ah,cV xs its/\Af s.heap a its.toArray/\Z xs<=aE:=by
 rcases h with h|⟨o,its,n,hk,hc,hs,b,r⟩
 .obtain⟨z,its,r,p⟩:=h.ok I.hok;exact⟨_,r,p,z⟩
 .refine⟨_,r,⟨o,I.F7 a o hk,hc,n,by simpa using hs⟩,?_⟩;have e:=r.length
  simp_all
def Inv.pv(I:Inv X h_ σ H s)(h:ng X.K H a xs)(B:ng X.K H a C):xs=C:=by
 obtain⟨i,r,⟨o,n,e,_,_,d⟩,_⟩:=I.list h;obtain⟨b,f,⟨k,g,c,_,_,j⟩,_⟩:=I.list B;rw[e]at c;cases c;rw[d]at j
 injection j with d1 _
 have:i=b:=by simp_all
 subst this;exact r.inj f
def Inv.pP(I:Inv X h_ σ H s)(h:tZ X.K H a xs)(B:tZ X.K H a C):xs=C:=by
 obtain⟨i,r,⟨o,e,_,n,d⟩,_⟩:=I.tuple h;obtain⟨b,f,⟨k,c,_,g,j⟩,_⟩:=I.tuple B;rw[e]at c;cases c;rw[d]at j
 injection j with d1 _
 have:i=b:=by simp_all
 subst this;exact r.inj f
end
noncomputable abbrev Cx.wQ(X:Cx)(E:ah->ai->Prop):Cx:={ X with xe:=E }
abbrev Cx.RK(X:Cx):Cx:=X.wQ λ_ _=>False
def Cx.Ok.wQ{X:Cx}(ok:X.Ok)(E:ah->ai->Prop):(X.wQ E).Ok:=
 ⟨ok.mod,ok.kind,ok.glob,ok.blt,ok.above,ok.inj,ok.has,ok.cab,ok.hd,ok.frames,ok.Nn,ok.exf,ok.bs,ok.bsz,ok.noex,ok.exfs,ok.vW,ok.frf⟩
def Cx.Ok.o8{X:Cx}(ok:(X.wQ E).Ok):X.Ok:=
 ⟨ok.mod,ok.kind,ok.glob,ok.blt,ok.above,ok.inj,ok.has,ok.cab,ok.hd,ok.frames,ok.Nn,ok.exf,ok.bs,ok.bsz,ok.noex,ok.exfs,ok.vW,ok.frf⟩
section
variable{X:Cx}
def Inv.wQ(I:Inv X h_ σ H s)(E:ah->ai->Prop):Inv (X.wQ E) h_ σ H s:=⟨I.ok.wQ E,I.os,I.bare,I.base,I.loc,I.cell,I.free,I.freeC,I.pin,I.hok,I.len⟩
def Inv.o8(I:Inv (X.wQ E) h_ σ H s):Inv X h_ σ H s:=⟨I.ok.o8,I.os,I.bare,I.base,I.loc,I.cell,I.free,I.freeC,I.pin,I.hok,I.len⟩
theorem SP.o8{D:Ends}(h:SP (X.wQ E) h_ D f g):SP X h_ D f g:=by
 cases f with
 |next=>obtain⟨a,b,I,q⟩:=h;exact⟨a,b,I.o8,q⟩
 |brk=>obtain⟨a,b,I,q⟩:=h;exact⟨a,b,I.o8,q⟩
 |cont=>obtain⟨a,b,I,q⟩:=h;exact⟨a,b,I.o8,q⟩
 |ret u=>obtain⟨v,a,b,I,r,q⟩:=h;exact⟨v,a,b,I.o8,r,q⟩
def Am.RK{st:List kZ}(h:Am X.RK st t):Am X st t:=λh_ s σ H D I a=>
 dE (h h_ s σ H D (I.wQ _) a) (λ_ _ q=>q.o8) λ_ _ z=>jf z
end
section
variable{st:kZ}{rest:List kZ}{t u:TS}{te:TE}{pos:wo}
def X4:TS:=λD σ H=>D.nx σ H
def aaC(t u:TS):TS:=λD σ H=>t { D with nx:=u D } σ H
def O9:Am X [] X4:=λ_ _ σ H _ I h=>Ao ⟨σ,H,I,h⟩
def KH(h1:PS X st t)(h2:Am X rest u):Am X (st::rest) (aaC t u):=by
 intro h_ s σ H D I h;refine wpAny_execs_cons (iN (h1 h_ s σ H _ I h) λf s1 q=>?_)
 cases f with
 |next=>
   obtain⟨a,b,c,q⟩:=q;exact h2 h_ s1 a b D c q
 |ret v=>exact q
 |brk=>exact q
 |cont=>exact q
def Inv.quiet(I:Inv X h_ σ H s):interactive X.env=J:=by simp[interactive,I.ok.kind]
def AG(te:TE):TS:=λD σ H=>te σ H λ_ a=>D.nx σ a
def qW(he:PE X e te)(hs:swapsWith e L pos.line X.env=pure J):PS X (.Expr e pos) (AG te):=by
 intro h_ s σ H D I h;exact wpAny_Expr_any (iN (he h_ s σ H _ I h) λv s1 ⟨x,a,b,d,c⟩=>⟨σ,a,b,c⟩) I.quiet hs
def X1(te:TE):TS:=λD σ H=>te σ H D.rt
def KL(he:PE X e te):PS X (.Return (Y e) pos) (X1 te):=by
 intro h_ s σ H D I h;exact wpAny_Return_some (iN (he h_ s σ H _ I h) λv s1 ⟨x,a,b,c,d⟩=>⟨x,σ,a,b,c,d⟩)
def aaG(c:TT)(t u:TS):TS:=λD σ H=>c σ H λb a=>if b=U then t D σ a else u D σ a
def YE(hc:PT X c B)(ha:Am X a t)(hb:Am X b u):PS X (.If c a b pos) (aaG B t u):=by
 intro h_ s σ H D I h;refine wpAny_If (iN (hc h_ s σ H _ I h) λd s1 j=>?_)
 obtain⟨e,f,g⟩:=j;cases d with
 |true=>exact ha h_ s1 σ e D f g
 |false=>exact hb h_ s1 σ e D f g
end
abbrev TG:=V->St->Hp->(St->Hp->Prop)->Prop
abbrev Sy:=List V->St->Hp->(St->Hp->Prop)->Prop
def PG(X:Cx)(target:ba)(t:TG):Prop:=
 ∀(h_:List (aL×lD))(s:ai)(σ:St)(H:Hp)(v:V)(u:ah)(Q:St->Hp->Prop),Inv X h_ σ H s->RelV v u->t v σ H Q->
  aF (aG X.prog X.w) X.A (assign target X.env u) (λ_ c=>∃a b,Inv X h_ a b c/\Q a b) X.xe s
def XN(X:Cx)(B:List ba)(t:Sy):Prop:=
 ∀(h_:List (aL×lD))(s:ai)(σ:St)(H:Hp)(vs:List V)(us:List ah)(Q:St->Hp->Prop),Inv X h_ σ H s->cV vs us->t vs σ H Q->
  aF (aG X.prog X.w) X.A (assignInOrder ((assignEach B X.env).map (·.2)) us) (λ_ c=>∃a b,Inv X h_ a b c/\Q a b) X.xe s
abbrev Z0:=V->V->V->Hp->(Hp->Prop)->Prop
def Xk(X:Cx)(t:Z0):Prop:=
 ∀(h_:List (aL×lD))(s:ai)(σ:St)(H:Hp)(o i v:V)(a b u:ah)(Q:Hp->Prop),Inv X h_ σ H s->RelV o a->RelV i b->RelV v u->t o i v H Q->
  aF (aG X.prog X.w) X.A (setItem a b u) (λ_ d=>∃c,Inv X h_ σ c d/\Q c) X.xe s
section
variable{X:Cx}{pos:wo}
def lz(i:Nat):TG:=λv σ H Q=>Q (σ.set i (Y v)) H
def FD(B:X.N.Nodup)(hi:X.N[i]?=Y x)(O:Loc X.env.scope x)(hf:X.fn x=U\/X.env.scope.names.lookup x=Y .local):PG X (.Name x pos) (lz i):=by
 intro h_ s σ H v u Q I r h;exact wpAny_assign_Name (u6 I B hi O r (λb a=>⟨_,H,a,h⟩) hf)
def IG:Sy:=λvs σ H Q=>vs=[]/\Q σ H
def yi(t:TG)(u:Sy):Sy:=λvs σ H Q=>∃v r,vs=v::r/\t v σ H λa b=>u r a b Q
def FC:XN X [] IG:=by
 intro h_ s σ H vs us Q I r h;obtain⟨rfl,h⟩:=h;cases r;exact assignInOrder_nil ⟨σ,H,I,h⟩
def Bb(h1:PG X e t)(h2:XN X es u)
  (hs:(assignEach (e::es) X.env).map (·.2)=assign e X.env::(assignEach es X.env).map (·.2):=by rfl):XN X (e::es) (yi t u):=by
 intro h_ s σ H vs us Q I r h;obtain⟨v,g,rfl,h⟩:=h;cases r with
 |cons r b=>
   rw[hs];exact assignInOrder_cons (iN (h1 h_ s σ H _ _ _ I r h) λ_ s1 ⟨a,c,d,f⟩=>h2 h_ s1 a c _ _ Q d b f)
def Mb(K:aP)(n:Nat)(t:Sy):TG:=λv σ H Q=>∃a b,v=.ref a/\tZ K H a b/\Z b=n/\t b σ H Q
def KU(hc:X.calm=U)(h:XN X es t)
  (O:Z (assignEach es X.env)=n)(B:(assignEach es X.env).findIdx? (·.1)=L):PG X (.Tuple es k pos) (Mb X.K n t):=by
 intro h_ s σ H v u Q I r c;refine ac λ_ i=>?_;obtain⟨a,l,rfl,f,hl,c⟩:=c;cases r;obtain⟨m,d,ht,j⟩:=I.tuple f;refine i ?_;refine assign_Tuple_tuple (I.ok.hd hc) ht (by simp[O,<-hl,d.length]) B λp g=>?_;exact h h_ _ σ H l _ Q (I.kept λb o e=>g b o (a9 (hl9 e)) e) (by simpa using d) c
def Wp(to B:TE)(t:Z0):TG:=λv σ H Q=>to σ H λo a=>B σ a λi c=>t o i v c λb=>Q σ b
def KY(ho:PE X o to)(hi:PE X i C)(hs:Xk X t)
  (ha:∀v,assign (.Subscript o i pos) X.env v=(do
   let B <-holding [v] (eval o X.env);let O <-holding [v,B] (eval i X.env)
   standAt pos
   holding [v,B,O] (setItem B O v)
   release [v,B,O] []):=by intro _;rfl):PG X (.Subscript o i pos) (Wp to C t):=by
 intro h_ s σ H v u Q I r h;rw[ha];refine wb9 (cB (iN (ho h_ s σ H _ I h) λB s1 z=>?_));obtain⟨x,a,b,c,d⟩:=z;refine wb9 (cB (iN (hi h_ s1 σ a _ b d) λO s2 D=>?_));obtain⟨y,m,e,f,g⟩:=D;exact wb9 (G5 (wb9 (cB (iN (hs h_ s2 σ m x y v B O u _ e c f r g) λ_ s3 ⟨j,k,l⟩=>wpAny_release ⟨σ,j,k,l⟩))))
def Hu(B:TE)(g:TG):TS:=λD σ H=>B σ H λx a=>g x σ a D.nx
def DC(he:PE X e C)(B:PG X tg g)(hs:swapsWithSole [tg] e pos.line X.env=pure J)(O:swappedStores [tg] e X.env=pure L)
  (h1:(assignEach [tg] X.env).map (·.2)=[assign tg X.env]):PS X (.Assign [tg] e pos) (Hu C g):=by
 intro h_ s σ H D I h;refine wpAny_Assign_stores (iN (he h_ s σ H _ I h) λv s1 j=>?_) hs O;obtain⟨x,a,b,c,d⟩:=j;rw[h1];exact iN (B h_ s1 σ a x v _ b c d) λ_ s2 q=>q
def KJ(B:X.N.Nodup)(hi:X.N[i]?=Y x)(O:Loc X.env.scope x)(he:PE X e g)(hs:swapsWith e (Y (.Name x pos')) pos.line X.env=pure J)(hf:X.fn x=U\/X.env.scope.names.lookup x=Y .local) :
  PS X (.Assign [.Name x pos'] e pos) (Hu g (lz i)):=by
 intro h_ s σ H D I h;exact wpAny_Assign_Name (iN (he h_ s σ H _ I h) λv s1 ⟨y,a,b,c,d⟩=>u6 b B hi O c (λs2 f=>⟨_,a,f,d⟩) hf) hs
end
section
variable{X:Cx}
def S6(c:TT)(tb:TS):TS:=λD σ H=>∃f:Nat->St->Hp->Prop,(∃m,f m σ H)/\∀m σ H,f m σ H->
 c σ H λb d=>if b=U then ∃N:St->Hp->Prop,(∀a g,N a g->∃e,e<m/\f e a g)/\tb { D with nx:=N,ct:=N,bk:=D.nx } σ d else D.nx σ d
def KI{tb:TS}(hp:pZ (aG X.prog X.w) X.A X.env X.xe)(hc:PT X c F)(hb:Am X body tb):PS X (.While c body [] pos) (S6 F tb):=by
 intro h_ s σ H D I h;obtain⟨B,⟨m0,u⟩,turn⟩:=h;refine wpAny_While (codeAny_whileLoop (λn G=>∃e C,Inv X h_ e C G/\B n e C) ?_ m0 ⟨σ,H,I,u⟩);rintro n s1 ⟨d,q,x,y⟩;refine je hp (iN (hc h_ s1 d q _ x (turn n d q y)) λb s2 z=>?_)
 obtain⟨E,r,i⟩:=z;cases b with
 |true=>
   obtain⟨N,t,i⟩:=i;refine je hp (iN (hb h_ s2 d E _ r i) λf s3 j=>?_)
   cases f with
   |next=>
     obtain⟨a,g,k,l⟩:=j;obtain⟨m,o,p⟩:=t a g l;exact⟨m,o,a,g,k,p⟩
   |cont=>
     obtain⟨a,g,k,l⟩:=j;obtain⟨m,o,p⟩:=t a g l;exact⟨m,o,a,g,k,p⟩
   |brk=>exact j
   |ret v=>exact j
 |false=>
   exact Ao ⟨d,E,r,i⟩
end
structure It where
 go:Nat->Hp->Prop
 yld:Nat->Hp->V->Hp->Prop
 stop:Nat->Hp->Prop
def rM(X:Cx)(h_:List (aL×lD))(H:Hp)(b:aL):Prop:=
 H b=L/\b≠X.env.locals/\b∉X.fs/\(b∈X.ex\/X.s₀.heap.objs.size<=b)/\(∀x c,X.env.cells.lookup x=Y c->c≠b)/\∀p∈X.pn++h_,p.1≠b
def Inv.w5(I:Inv X h_ σ H s)(hb:s.heap.objs.size<=b)(B:g b=L):rM X h_ g b:=by
 refine⟨B,jx (aT I.lt hb),I.YQ hb,.inr (aa I.sz hb),λx c e z=>?_,λp hp z=>(absurd (aT (hl9 (I.pin p hp).1) (by rwa[z])) (bB _))⟩
 .obtain⟨v,q⟩:=I.cell x c e;exact absurd (aT q.lt (by rwa[z])) (bB _)
structure Turn(P:cg)(w:c6)(K:aP)(tg:ba)(J':It)(fp:List aL)(it:aL)(tn:Nat->cx->Prop):Prop where
 mem:it∈fp
 obj:∀i h,tn i h->∀b∈fp,∃o,h.get? b=Y o/\∀v,o.data≠.cell v
 keep:∀i h h',tn i h->(∀b∈fp,∀o,h.get? b=Y o->h'.get? b=Y o)->tn i h'
 item:∀(X:Cx),X.prog=P->X.w=w->X.K=K->X.calm=U->∀(i:Nat)(h_:List (aL×lD))(s:ai)(σ:St)(H:Hp)(E:ah->ai->Prop),Inv X h_ σ H s->(∀b∈fp,rM X h_ H b)->tn i s.heap->J'.go i H->
  aF (aG P w) X.A (pyNext (.ref it)) (λr s1=>∃u,r=Y u/\
   aF (aG P w) X.A (letOwnedTupleGo tg (.ref it) u) (λ_ s2=>∃x H',Inv X h_ σ H' s2/\RelV x u/\J'.yld i H x H'/\tn (i+1) s2.heap/\∀b∈fp,H' b=L) E s1) E s
 done:∀(X:Cx),X.prog=P->X.w=w->X.K=K->X.calm=U->∀(i:Nat)(h_:List (aL×lD))(s:ai)(σ:St)(H:Hp)(E:ah->ai->Prop),Inv X h_ σ H s->(∀b∈fp,rM X h_ H b)->tn i s.heap->J'.stop i H->
  aF (aG P w) X.A (pyNext (.ref it)) (λr s1=>r=L/\Inv X h_ σ H s1) E s
 self:∀(A:bT)(i:Nat)(s:ai)(Q:ah->ai->Prop)(E:ah->ai->Prop),tn i s.heap->Q (.ref it) s->aF (aG P w) A (CU (.ref it)) Q E s
abbrev TI:=St->Hp->(It->Hp->Prop)->Prop
def PIE(X:Cx)(h_:List (aL×lD))(σ:St)(tg:ba)(R:It->Hp->Prop)(itv:ah)(s2:ai):Prop:=
 ∃(it:aL) (fp:List aL) (c:Nat->cx->Prop) (d:It) (a:Hp),itv=.ref it/\Inv X h_ σ a s2/\Turn X.prog X.w X.K tg d fp it c/\c 0 s2.heap/\(∀b∈fp,rM X h_ a b)/\R d a
def PI(X:Cx)(tg iter:ba)(g:TI):Prop:=
 ∀(h_:List (aL×lD))(s:ai)(σ:St)(H:Hp)(R:It->Hp->Prop),Inv X h_ σ H s->g σ H R->
  aF (aG X.prog X.w) X.A (eval iter X.env) (λv s1=>aF (aG X.prog X.w) X.A (CU v) (PIE X h_ σ tg R) X.xe s1) X.xe s
def vT{s:ai}(ho:s.heap.get? it=Y o)(hc:o.cls=.type n)(hd:o.data=.fields vs)
  (O:["enumerate","zip","dict_itemiterator","dict_reverseitemiterator","odict_iterator","itertools.zip_longest","itertools.pairwise"].contains n=J)(B:Q () s):aF M A (letOwnedTupleGo tg (.ref it) u) Q E s:=by
 cases tg<;>first
  |exact wu9 B
  | (cases u<;>first
    |exact wu9 B
    | (refine wb9 (wpAny_load ho ?_)
       rw[hc,hd];show aF M A (if(["enumerate","zip","dict_itemiterator","dict_reverseitemiterator","odict_iterator","itertools.zip_longest","itertools.pairwise"].contains n && vs[0]? == Y _)=U then _ else _) Q E s;rw[if_neg (by grind)]
       exact wu9 B))
noncomputable def Itl(K:aP)(a:aL):It:=
 ⟨λi H=>∃b x,ng K H a b/\b[i]?=Y x,λi H x c=>c=H/\∀b,ng K H a b->b[i]?=Y x,λi H=>∃b,ng K H a b/\Z b<=i⟩
noncomputable def Itt(K:aP)(a:aL):It:=
 ⟨λi H=>∃b x,tZ K H a b/\b[i]?=Y x,λi H x c=>c=H/\∀b,tZ K H a b->b[i]?=Y x,λi H=>∃b,tZ K H a b/\Z b<=i⟩
noncomputable def Itr(lo:Int)(n:Nat):It:=⟨λi _=>i<n,λi H x a=>a=H/\x=.int (lo+i),λi _=>n<=i⟩
def Hn{K:aP}(a it:aL):Turn P w K tg (Itl K a) [it] it (λi h=>h.IsListIter it a i) where
 mem:=by simp
 obj:=λi h st b hb=>by
  have e:b=it:=by simpa using hb
  subst e;obtain⟨o,e,c,d⟩:=st;exact⟨o,e,λv z=>by rw[d]at z;cases z⟩
 keep:=λi h Q st k=>st.at λo e=>k it (by simp) o e
 item:=by
  intro X l m n hc i h_ s σ H E I hf st q;subst l m n;obtain⟨S,x,g,j⟩:=q;obtain⟨R,r,p,D⟩:=I.list g;obtain⟨u,F,G⟩:=r.get j;obtain⟨t,y,T,A,B,C⟩:=hf it (by simp);refine wpAny_pyNext_list_item st p.isList (x:=u) (by simpa using F) λQ f V=>?_;have M:Inv X h_ σ H { s with heap:=Q }:=I.turned (t':=s.toks) (λb o hb e=>(V.2 b hb).trans e) t y A B C;obtain⟨o,e,c,d⟩:=id f;exact⟨u,W,vT (s:={ s with heap:=Q }) e c d bR ⟨x,H,M,G,⟨W,λys N=>by rw[I.pv N g];exact j⟩,f,λb hb=>(hf b hb).1⟩⟩
 done:=by
  intro X l m n hc i h_ s σ H E I hf st q;subst l m n;obtain⟨S,g,j⟩:=q;obtain⟨R,r,p,D⟩:=I.list g;obtain⟨t,y,T,A,B,C⟩:=hf it (by simp);have hl:=r.length;exact wpAny_pyNext_list_end (I.ok.hd hc) st p.isList (by simp;exact aa (ae hl.symm) j) λQ O=>⟨W,I.turned (t':=s.toks) (λb o hb e=>O b o hb e) t y A B C⟩
 self:=λ_ _ _ _ _ st h=>wpAny_pyIter_listiter st h
def Dd{K:aP}(a it:aL):Turn P w K tg (Itt K a) [it] it (λi h=>h.IsTupleIter it a i) where
 mem:=by simp
 obj:=λi h st b hb=>by
  have e:b=it:=by simpa using hb
  subst e;obtain⟨o,e,c,d⟩:=st;exact⟨o,e,λv z=>by rw[d]at z;cases z⟩
 keep:=λi h R st k=>st.at λo e=>k it (by simp) o e
 item:=by
  intro X l m n hc i h_ s σ H E I hf st q;subst l m n;obtain⟨S,x,g,j⟩:=q;obtain⟨Q,r,p,D⟩:=I.tuple g;obtain⟨u,F,G⟩:=r.get j;obtain⟨t,y,T,A,B,C⟩:=hf it (by simp);refine wpAny_pyNext_tuple_item st (show s.heap.IsTuple a Q.toArray from p) (x:=u) (by simpa using F) λR f V=>?_;have M:Inv X h_ σ H { s with heap:=R }:=I.turned (t':=s.toks) (λb o hb e=>(V.2 b hb).trans e) t y A B C;obtain⟨o,e,c,d⟩:=id f;exact⟨u,W,vT (s:={ s with heap:=R }) e c d bR ⟨x,H,M,G,⟨W,λys N=>by rw[I.pP N g];exact j⟩,f,λb hb=>(hf b hb).1⟩⟩
 done:=by
  intro X l m n hc i h_ s σ H E I hf st q;subst l m n;obtain⟨S,g,j⟩:=q;obtain⟨Q,r,p,D⟩:=I.tuple g;obtain⟨t,y,T,A,B,C⟩:=hf it (by simp);have hl:=r.length;exact wpAny_pyNext_tuple_end (I.ok.hd hc) st (show s.heap.IsTuple a Q.toArray from p) (by simp;exact aa (ae hl.symm) j) λR O=>⟨W,I.turned (t':=s.toks) (λb o hb e=>O b o hb e) t y A B C⟩
 self:=λ_ _ _ _ _ st h=>wpAny_pyIter_tupleiter st h
def De{K:aP}(it:aL)(lo:Int)(n:Nat):Turn P w K tg (Itr lo n) [it] it (λi h=>IsRangeIter h it (lo+(i:Nat) * 1) ((n:Int) - (i:Nat)) 1) where
 mem:=by simp
 obj:=λi h st b hb=>by
  have e:b=it:=by simpa using hb
  subst e
  exact⟨_,st,λv z=>by
   have u:Data.fields _=Data.cell v:=z
   cases u⟩
 keep:=λi h D st k=>k it (by simp) _ st
 item:=by
  intro X c d f hc i h_ s σ H E I hf st g;subst c d f;obtain⟨j,l,x,m,p,q⟩:=hf it (by simp);have C:=Walks.range (prog:=X.prog) (w:=X.w) (I.ok.hd hc) it lo 1 n;refine C.item i s _ _ g st λv D r y a F=>?_;obtain⟨t,rfl⟩:=y;have A:Inv X h_ σ H { s with heap:=D,toks:=r }:=I.turned (λb o hb e=>F b o (by simpa using hb) e) j l m p q;refine⟨_,W,vT (s:={ s with heap:=D,toks:=r }) (n:="range_iterator") a W rfl bR ⟨.int (lo+i),H,A,⟨t,?_⟩,⟨W,W⟩,a,λb hb=>(hf b hb).1⟩⟩;rw[Int.mul_one]
 done:=by
  intro X c d f hc i h_ s σ H E I hf st g;subst c d f;obtain⟨j,l,x,m,p,q⟩:=hf it (by simp);exact Jr (I.ok.hd hc) st (by have:n<=i:=g;omega) λD B=>⟨W,I.turned (t':=s.toks) (λb o hb e=>B b o hb e) j l m p q⟩
 self:=λ_ _ _ _ _ st h=>Js st h
section
variable{X:Cx}
def Zr(K:aP)(tl:TE):TI:=λσ H R=>tl σ H λx b=>∃a,x=.ref a/\(∃c,ng K b a c)/\R (Itl K a) b
def abw(K:aP)(tl:TE):TI:=λσ H R=>tl σ H λx b=>∃a,x=.ref a/\(∃c,tZ K b a c)/\R (Itt K a) b
def zj(hl:PE X l tl):PI X tg l (Zr X.K tl):=by
 intro h_ s σ H R I h;refine iN (hl h_ s σ H _ I h) λv s1 y=>?_;obtain⟨x,d,c,f,g⟩:=y;refine ac λ_ m=>?_;obtain⟨a,rfl,⟨r,i⟩,q⟩:=g;cases f;obtain⟨n,j,p,k⟩:=c.list i;refine m ?_;refine wJ p.isList ?_;refine⟨_,_,_,_,d,W,c.kept λb o e=>hp9 _ e,Hn a _,⟨_,aH _ W,W,W⟩,λb hb=>?_,q⟩;have e:b=s1.heap.objs.size:=by simpa using hb
 subst e;exact c.w5 (ak _) (c.hok.fresh (ak _))
def KR(hl:PE X l tl):PI X tg l (abw X.K tl):=by
 intro h_ s σ H R I h;refine iN (hl h_ s σ H _ I h) λv s1 y=>?_;obtain⟨x,d,c,f,g⟩:=y;refine ac λ_ m=>?_;obtain⟨a,rfl,⟨r,i⟩,q⟩:=g;cases f;obtain⟨n,j,p,k⟩:=c.tuple i;refine m ?_;refine wpAny_pyIter_tuple (p) ?_;refine⟨_,_,_,_,d,W,c.kept λb o e=>hp9 _ e,Dd a _,⟨_,aH _ W,W,W⟩,λb hb=>?_,q⟩;have e:b=s1.heap.objs.size:=by simpa using hb
 subst e;exact c.w5 (ak _) (c.hok.fresh (ak _))
def Kz{lo:Int}(I:Inv X h_ σ H s)(h1:-(2 ^ 62)<=lo)(h2:lo<2 ^ 62)(h3:-(2 ^ 62)<=hi)(B:hi<2 ^ 62)
  (q:R (Itr lo (hi - lo).toNat) H):aF (aG X.prog X.w) X.A (CU (.ref s.heap.objs.size)) (PIE X h_ σ tg R) E { s with heap:=s.heap.push { cls:=.type "range",data:=.fields #[.int lo t,.int hi u,.int 1 v] },toks:=g }:=by
 refine wpAny_pyIter_range (Rf ..) (small_one h1 h2 h3 B) ?_;have a:Inv X h_ σ H { s with heap:=s.heap.push { cls:=.type "range",data:=.fields #[.int lo t,.int hi u,.int 1 v] },toks:=g }:=I.kept λb o e=>hp9 _ e
 refine⟨(s.heap.push { cls:=.type _,data:=.fields _ }).objs.size,[(s.heap.push { cls:=.type _,data:=.fields _ }).objs.size],_,_,H,W,
  a.kept λb o e=>hp9 _ e,De _ lo _,?_,λb hb=>?_,q⟩
 .have c:lo+((0:Nat)) * 1=lo:=by simp
  have d:(((hi - lo).toNat)) - ((0:Nat))=jk lo hi 1:=by rw[rangeSize_one];split<;>omega
  rw[c,d];exact aH _ W
 .have e:b=(s.heap.push { cls:=.type "range",data:=.fields #[.int lo t,.int hi u,.int 1 v] }).objs.size:=by simpa using hb
  subst e;exact a.w5 (ak _) (a.hok.fresh (ak _))
def Zp(B:TA):TI:=λσ H R=>B σ H λvs a=>∃j:Int,vs=[.int j]/\-(2 ^ 62)<=j/\j<2 ^ 62/\R (Itr 0 j.toNat) a
def HY(B:Gl X "range")(O:X.mg "range"=L)(ha:PA X [a] C)(hs:aO [a] X.env=[(J,eval a X.env)]):PI X tg (.Call (.Name "range" p) [a] [] pos) (Zp C):=by
 intro h_ s σ H R I h;refine Call_ (lp I B O boot_range (cO (iN (ha _ h_ s σ H _ I h) λus s1 l=>?_) hs W));obtain⟨vs,i,c,d,b⟩:=l;obtain⟨j,rfl,b,f,q⟩:=b;cases d with
 |cons r g=>
   cases g;obtain⟨t,rfl⟩:=r;exact call_range_1 (Kz c (by simp) (by simp) b f (by simpa using q))
def aaH(B:TI)(g:TG)(tb:TS):TS:=λD σ H=>B σ H λf c=>∃d:Nat->Nat->St->Hp->Prop,(∃m,d 0 m σ c)/\∀i m σ H,d i m σ H->
 (f.stop i H/\D.nx σ H)\/(f.go i H/\∃N:St->Hp->Prop,(∀a e,N a e->∃b,b<m/\d (i+1) b a e)/\∀x e,f.yld i H x e->g x σ e λh j=>tb { D with nx:=N,ct:=N,bk:=D.nx } h j)
noncomputable def mY(fp:List aL)(h:cx):List (aL×lD):=fp.filterMap λb=>(h.get? b).map λo=>(b,o)
def n4{h:cx}(hb:b∈fp)(e:h.get? b=Y o):(b,o)∈mY fp h:=jQ.mpr ⟨b,hb,by rw[e];rfl⟩
def xW(hp:p∈mY fp h):p.1∈fp/\h.get? p.1=Y p.2:=by
 obtain⟨b,hb,e⟩:=jQ.mp hp
 cases q:h.get? b with
 |none=>rw[q]at e;cases e
 |some o=>
   rw[q]at e;have a :=bI e;subst a;exact⟨hb,q⟩
def Inv.pinned(I:Inv X h_ σ H s)(hf:∀b∈fp,rM X h_ H b)(ho:∀b∈fp,∃o,s.heap.get? b=Y o/\∀v,o.data≠.cell v):Inv X (h_++mY fp s.heap) σ H s:=
 I.qX λp hp=>(au.mp hp).elim (λz=>I.pin p (aq _ z)) λz=>by
  refine ac λ_ h=>?_;obtain⟨hb,e⟩:=xW z;obtain⟨a,c,f,_⟩:=hf _ hb;obtain⟨o,g,d⟩:=ho _ hb
  refine h ?_;simp_all
def Inv.nu(I:Inv X (h_++pl) σ H s):Inv X h_ σ H s:=I.qX λp hp=>I.pin p (aq _ (aC _ hp))
def DB{iter:ba}{tb:TS}(hp:pZ (aG X.prog X.w) X.A X.env X.xe)(hc:X.calm=U)(hi:PI X tg iter wi)(a5:PG X tg g)(hb:Am X body tb)
  (hs:∀x,foldedSetIterable iter X.env x=pure x):PS X (.For tg iter body [] pos) (aaH wi g tb):=by
 intro h_ s σ H D I h;refine wpAny_For (iN (hi h_ s σ H _ I h) λv s1 h1=>iN h1 λitv s2 h2=>?_) hs;refine ac λ_ K=>?_;obtain⟨it,fp,tn,J',H2,rfl,S,T,E,O,c0,⟨m0,U'⟩,turn⟩:=h2;refine K ?_;have c:∀{H':Hp},(∀b∈fp,H' b=L)->∀b∈fp,rM X h_ H' b:=λV b hb=>⟨V b hb,(O b hb).2⟩
 refine codeAny_forLoop_any (λn s'=>∃i j H',Inv X h_ j H' s'/\tn i s'.heap/\(∀b∈fp,H' b=L)/\c0 i n j H') ?_ m0 ⟨0,σ,H2,S,E,λb hb=>(O b hb).1,U'⟩;rintro n s3 ⟨i,k,C,P,y,z,c3⟩
 rcases turn i n k C c3 with⟨stop,qn⟩|⟨go,N,hN,step⟩
 .refine je hp (iN (T.done X W rfl rfl hc i h_ s3 k C _ P (c z) y stop) λr s4 q0=>?_);obtain⟨F,I4⟩:=q0;subst F;exact Ao ⟨k,C,I4,qn⟩
 .refine je hp (iN (T.item X W rfl rfl hc i h_ s3 k C _ P (c z) y go) λr s4 z0=>?_);obtain⟨u,F,h4⟩:=z0;subst F;refine je hp (iN h4 λ_ Q z1=>?_);obtain⟨x,R,I5,r5,y5,t,G⟩:=z1;refine je hp (iN (a5 _ Q k R x u _ (I5.pinned (c G) (T.obj _ _ t)) r5 (step x R y5)) λ_ s6 z7=>?_);obtain⟨L',H6,I6,q6⟩:=z7;refine je hp (iN (hb _ s6 L' H6 _ I6 q6) λf M q=>?_)
  have again:∀{a:St}{l:Hp},Inv X (h_++mY fp _) a l M->N a l->∃m,m<n/\∃i j H',Inv X h_ j H' M/\tn i _/\(∀b∈fp,H' b=L)/\c0 i m j H':=λ{a l}p B=>by
   obtain⟨m',hm,w7⟩:=hN a l B;refine⟨m',hm,_,a,l,p.nu,T.keep _ _ _ t λb hb o e=>(p.pin _ (aq _ (aq _ (n4 hb e)))).1,λb hb=>?_,w7⟩;obtain⟨o,e,d⟩:=T.obj _ _ t b hb;exact(p.pin _ (aq _ (aq _ (n4 hb e)))).2.1
  cases f with
  |next=>obtain⟨a,l,p,B⟩:=q;exact again p B
  |cont=>obtain⟨a,l,p,B⟩:=q;exact again p B
  |brk=>obtain⟨a,l,p,q⟩:=q;exact⟨a,l,p.nu,q⟩
  |ret v=>refine ac λ_ K=>?_;obtain⟨x7,a,l,p,r7,q⟩:=q;refine K ?_;exact⟨x7,a,l,p.nu,r7,q⟩
end
abbrev R2:=V->V->Hp->VK->Prop
def j8(X:Cx)(f:ah->ah->Au ah)(r:R2):Prop:=
 ∀(h_:List (aL×lD))(s:ai)(σ:St)(H:Hp)(x y:V)(v u:ah)(Q:VK),Inv X h_ σ H s->RelV x v->RelV y u->r x y H Q->
  aF (aG X.prog X.w) X.A (f v u) (EP X h_ σ Q) X.xe s
def UnR(X:Cx)(f:ah->Au ah)(r:V->Hp->VK->Prop):Prop:=
 ∀(h_:List (aL×lD))(s:ai)(σ:St)(H:Hp)(x:V)(v:ah)(Q:VK),Inv X h_ σ H s->RelV x v->r x H Q->
  aF (aG X.prog X.w) X.A (f v) (EP X h_ σ Q) X.xe s
def ko(X:Cx)(f:ah)(r:List V->Hp->VK->Prop):Prop:=
 ∀(h_:List (aL×lD))(s:ai)(σ:St)(H:Hp)(a:List V)(us:List ah)(Q:VK),Inv X h_ σ H s->cV a us->r a H Q->
  aF (aG X.prog X.w) X.A (call f us) (EP X h_ σ Q) X.xe s
def abQ(X:Cx)(r:V->Hp->(Bool->Hp->Prop)->Prop):Prop:=
 ∀(h_:List (aL×lD))(s:ai)(σ:St)(H:Hp)(x:V)(v:ah)(Q:Bool->Hp->Prop),Inv X h_ σ H s->RelV x v->r x H Q->
  aF (aG X.prog X.w) X.A (truthy v) (TP X h_ σ Q) X.xe s
def Nm(r:R2)(B tb:TE):TE:=λσ H Q=>B σ H λx a=>tb σ a λy b=>r x y b Q
def tUn(r:V->Hp->VK->Prop)(B:TE):TE:=λσ H Q=>B σ H λx a=>r x a Q
def rI(C:Int->Int->Prop)(g:Int->Int->V):R2:=λx y H Q=>∃i j,x=.int i/\y=.int j/\C i j/\Q (g i j) H
def O2(g:Int->Int->V):R2:=λx y H Q=>∃i j,x=.int i/\y=.int j/\Q (g i j) H
def rU(g:Int->V):V->Hp->VK->Prop:=λx H Q=>∃i,x=.int i/\Q (g i) H
section
variable{X:Cx}{tb:TE}
def Xc(ha:PE X a P)(hb:PE X b tb){h_:List (aL×lD)}{s:ai}{σ:St}{H:Hp}{R:V->V->Hp->Prop}(I:Inv X h_ σ H s)
  (h:P σ H λx O=>tb σ O λy C=>R x y C){Q:ah->ai->Prop}{f:ah->ah->Au ah}
  (hf:∀v u s2 x y C,Inv X h_ σ C s2->RelV x v->RelV y u->R x y C->aF (aG X.prog X.w) X.A (f v u) Q X.xe s2) :
  aF (aG X.prog X.w) X.A (eval a X.env) (λv F=>aF (aG X.prog X.w) X.A (eval b X.env) (λu B=>aF (aG X.prog X.w) X.A (f v u) Q X.xe B) X.xe F) X.xe s:=by
 refine iN (ha h_ s σ H _ I h) λv s1 l=>?_;obtain⟨x,O,c,d,e⟩:=l;exact iN (hb h_ s1 σ O _ c e) λu s2 ⟨y,C,g,i,j⟩=>hf v u s2 x y C g d i j
def RG(ho:j8 X (binaryOp op) r)(ha:PE X a g)(hb:PE X b tb):PE X (.BinOp a op b pos) (Nm r g tb):=by
 intro h_ s σ H Q I h;exact wpAny_BinOp (Xc ha hb I h λv u s2 x y f c d e q=>ho h_ s2 σ f x y v u Q c d e q)
def YI(ho:UnR X (unaryOp op) r)(ha:PE X a g):PE X (.UnaryOp op a pos) (tUn r g):=by
 intro h_ s σ H Q I h;exact UnaryOp_ (iN (ha h_ s σ H _ I h) λv s1 ⟨x,b,c,d,e⟩=>ho h_ s1 σ b x v Q c d e)
def opI{f:ah->ah->Au ah}{C:Int->Int->Prop}{g:Int->Int->Int}
  (rule:∀(i j:Int)(t u:Ha)(s:ai)(Q:ah->ai->Prop)(E:ah->ai->Prop),C i j->Q (.int (g i j) s.toks) { s with toks:=s.toks+1 }->aF (aG X.prog X.w) X.A (f (.int i t) (.int j u)) Q E s) :
  j8 X f (rI C λi j=>.int (g i j)):=by
 intro h_ s σ H x y v u Q I a b h;obtain⟨i,j,rfl,rfl,hc,q⟩:=h;obtain⟨t,rfl⟩:=a;obtain⟨c,rfl⟩:=b;exact rule i j t c s _ _ hc ⟨.int _,H,I.tok _,⟨_,W⟩,q⟩
def Vi{f:ah->ah->Au ah}{g:Int->Int->Int}
  (rule:∀(i j:Int)(t u:Ha)(s:ai)(Q:ah->ai->Prop)(E:ah->ai->Prop),Q (.int (g i j) s.toks) { s with toks:=s.toks+1 }->aF (aG X.prog X.w) X.A (f (.int i t) (.int j u)) Q E s) :
  j8 X f (O2 λi j=>.int (g i j)):=by
 intro h_ s σ H x y v u Q I a b h;obtain⟨i,j,rfl,rfl,q⟩:=h;obtain⟨t,rfl⟩:=a;obtain⟨c,rfl⟩:=b;exact rule i j t c s _ _ ⟨.int _,H,I.tok _,⟨_,W⟩,q⟩
def YN{f:ah->ah->Au ah}{g:Int->Int->Bool}
  (rule:∀(i j:Int)(t u:Ha)(s:ai)(Q:ah->ai->Prop)(E:ah->ai->Prop),Q (.bool (g i j)) s->aF (aG X.prog X.w) X.A (f (.int i t) (.int j u)) Q E s) :
  j8 X f (O2 λi j=>.bl (g i j)):=by
 intro h_ s σ H x y v u Q I a b h;obtain⟨i,j,rfl,rfl,q⟩:=h;obtain⟨t,rfl⟩:=a;obtain⟨c,rfl⟩:=b;exact rule i j t c s _ _ ⟨.bl _,H,I,W,q⟩
def Q9(i j:Int):Prop:=0<j/\j<1073741824
def Jd(i j:Int):Prop:=(-(2 ^ 64)<i/\i<2 ^ 64)\/(-(2 ^ 64)<j/\j<2 ^ 64)
def Jd.ok(h:Jd i j):IntMulOk i j:=by
 rcases h with⟨h1,h2⟩|⟨h1,h2⟩
 .exact .of_left (intBits_le_64 h1 h2)
 .exact .of_right (intBits_le_64 h1 h2)
def Dc(k:Nat):(0:Int)<=2 ^ k:=by
 exact Int.natCast_nonneg _
def Vh:j8 X (binaryOp .Add) (O2 λi j=>.int (i+j)):=Vi λ_ _ _ _ _ _ _ q=>add_int q
def U5:j8 X (binaryOp .Sub) (O2 λi j=>.int (i - j)):=Vi λ_ _ _ _ _ _ _ q=>sub_int q
def U8:j8 X (binaryOp .Mult) (rI Jd λi j=>.int (i * j)):=opI λ_ _ _ _ _ _ _ hc q=>mul_int q hc.ok
def Pu:j8 X (binaryOp .FloorDiv) (rI Q9 λi j=>.int (i / j)):=opI λi j _ _ _ _ _ hc q=>by
 have h1 :=hc.1;have h2 :=hc.2;exact floordiv_int (C6 h1) (by rwa[yN i (C7 h1)]) (.inl (yL (by omega)))
def U9:j8 X (binaryOp .Mod) (rI (λ_ j=>0<j) λi j=>.int (i % j)):=opI λi j _ _ _ _ _ hc q=>by
 exact mod_int' (C6 hc) (by rwa[Int.fmod_eq_emod_of_nonneg i (C7 hc)])
def U6:j8 X (binaryOp .RShift) (rI (λ_ j=>0<=j) λi j=>.int (i / 2 ^ j.toNat)):=opI λi j _ _ _ _ _ hc q=>
 rshift_int hc (by rwa[yN i (Dc _)])
def Vg:j8 X (binaryOp .BitAnd) (O2 λi j=>.int (JA i j)):=Vi λ_ _ _ _ _ _ _ q=>and_int q
def unI{f:ah->Au ah}{g:Int->Int}
  (rule:∀(i:Int)(t:Ha)(s:ai)(Q:ah->ai->Prop)(E:ah->ai->Prop),Q (.int (g i) s.toks) { s with toks:=s.toks+1 }->aF (aG X.prog X.w) X.A (f (.int i t)) Q E s) :
  UnR X f (rU λi=>.int (g i)):=by
 intro h_ s σ H x v Q I a h;obtain⟨i,rfl,q⟩:=h;obtain⟨t,rfl⟩:=a;exact rule i t s _ _ ⟨.int _,H,I.tok _,⟨_,W⟩,q⟩
def SV:UnR X (unaryOp .USub) (rU λi=>.int (-i)):=unI λ_ _ _ _ _ q=>neg_int q
end
section
variable{b:ba}{tb:TE}
def Ec(I:Inv X h_ σ H s)(q:Q (.bl k) H)(e:k=k'):EP X h_ σ Q (.bool k') s:=by
 subst e;exact⟨.bl k,H,I,W,q⟩
def YL:j8 X (compareOp .Lt) (O2 λi j=>.bl (decide (i<j))):=YN λ_ _ _ _ _ _ _ q=>oo q
def YM:j8 X (compareOp .Gt) (O2 λi j=>.bl (decide (j<i))):=YN λ_ _ _ _ _ _ _ q=>gt_int q
def Ib:j8 X (compareOp .In) (λx y H Q=>∃i j,x=.str i/\y=.str j/\Q (.bl (!(jr j i 0 j.length 1).isEmpty)) H):=by
 intro h_ s σ H x y v u Q I a c h;obtain⟨i,j,rfl,rfl,q⟩:=h;obtain⟨t,rfl⟩:=a;obtain⟨d,rfl⟩:=c;exact in_str (Ec I q W)
def Vb:j8 X (compareOp .Is) (λx y H Q=>y=.non/\Q (.bl (decide (x=.non))) H):=by
 intro h_ s σ H x y v u Q I a c h;obtain⟨rfl,q⟩:=h;cases c;refine is_none_gen (Ec I q ?_)
 cases x<;>first
  |(cases a;rfl)
  |(obtain⟨t,rfl⟩:=a;rfl)
def Pl:j8 X (compareOp .IsNot) (λx y H Q=>y=.non/\Q (.bl (!decide (x=.non))) H):=by
 intro h_ s σ H x y v u Q I a c h;obtain⟨rfl,q⟩:=h;cases c;refine isnot_none_gen (Ec I q ?_)
 cases x<;>first
  |(cases a;rfl)
  |(obtain⟨t,rfl⟩:=a;rfl)
def Pg(ho:j8 X (compareOp op) r)(ha:PE X a g)(hb:PE X b tb)(B:behindInMarks op b=J):PE X (.Compare a [op] [b] pos) (Nm r g tb):=by
 intro h_ s σ H Q I h;exact wpAny_Compare1 (Xc ha hb I h λv u s2 x y f c d e q=>ho h_ s2 σ f x y v u Q c d e q) B
def X0(t:TE):TT:=λσ H Q=>t σ H λx a=>∃k,x=.bl k/\Q k a
def O8(ho:j8 X (compareOp op) r)(ha:PE X a C)(hb:PE X b tb)(B:behindInMarks op b=J):PT X (.Compare a [op] [b] pos) (X0 (Nm r C tb)):=by
 intro h_ s σ H Q I h
 refine wpAny_isTrue_Compare1 (iN (ha h_ s σ H _ I h) λv s1 ⟨x,d,f,g,i⟩=>iN (hb h_ s1 σ d _ f i) λu s2 ⟨y,t,j,l,m⟩=>
  iN (ho h_ s2 σ t x y v u _ j g l m) λc s3 ⟨z,n,o,p,k,e,q⟩=>?_) B
 subst e;cases p;exact gZ ⟨n,o,q⟩
def Xi(K:aP)(x:V)(H:Hp)(k:Bool):Prop:=
 match x with
 |.non=>k=J
 |.bl b=>k=b
 |.int i=>k=(i != 0)
 |.str y=>y.length<=aE/\k=((y.length:Int) != 0)
 |.byt y=>y.size<=aE/\k=((y.size:Int) != 0)
 |.ref p=>(∃a,ng K H p a/\k=!a.isEmpty)\/(∃a,tZ K H p a/\k=!a.isEmpty)\/∃c,H p=Y (.dK c)/\k=!c.isEmpty
 |_=>False
def DZ{κ:Type}{g:List (κ×V)}{vs:List (κ×ah)}(r:KV g vs):(!vs.isEmpty)=!g.isEmpty:=by
 cases r<;>rfl
def vP(r:cV xs its):(!its.toArray.isEmpty)=!xs.isEmpty:=by
 cases r<;>simp
def sP:(aE:Nat)<2 ^ 63:=bR
def JQ:abQ X (λx H Q=>∃k,Xi X.K x H k/\Q k H):=by
 intro h_ s σ H x v Q I c h;obtain⟨k,e,q⟩:=h;have hs :=iR
 cases x with
 |non=>
   cases c;subst e;exact truthy_none ⟨H,I,q⟩
 |bl b=>
   cases c;subst e;exact gZ ⟨H,I,q⟩
 |int i=>
   obtain⟨t,rfl⟩:=c;subst e;exact PySem.P.truthy_int ⟨H,I,q⟩
 |str y=>
   obtain⟨t,rfl⟩:=c;obtain⟨f,rfl⟩:y.length<=aE/\k=((y.length:Int) != 0):=e;exact PySem.P.truthy_str (by omega) ⟨H,I.tok _,q⟩
 |byt y=>
   obtain⟨t,rfl⟩:=c;obtain⟨f,rfl⟩:y.size<=aE/\k=((y.size:Int) != 0):=e;exact PySem.W.truthy_bytes (aa f bR) ⟨H,I.tok _,q⟩
 |ref p=>
   cases c;have a :=e
   rcases a with⟨o,d,a⟩|⟨o,d,a⟩|⟨n,d,a⟩
   .subst a;obtain⟨l,r,pl,g⟩:=I.list d;have hlen:=r.length;exact wpAny_truthy_list pl.isList (by simp only[bC];omega) ⟨H,I.tok _,by rwa[vP r]⟩
   .subst a;obtain⟨l,r,pl,g⟩:=I.tuple d;have hlen:=r.length;exact truthy_tuple pl (by simp only[bC];omega) ⟨H,I.tok _,by rwa[vP r]⟩
   .subst a;obtain⟨g,j,vs,r,m⟩:n.length<=aE/\(p == sysModules)=J/\∃vs,KV n vs/\s.heap.DictOf (dm _ _) p vs:=I.hok p _ d;have hlen :=xq r;exact wpAny_truthy_dict j m (by omega) ⟨H,I.tok _,by rwa[DZ r]⟩
 |_=>exact(e).elim
def KG(ha:PE X a B)(he:∀whole,isTrue a X.env whole=(do let v <-whole;standAt a.pos;holding [v] (truthy v))) :
  PT X a (λσ H Q=>B σ H λx g=>∃k,Xi X.K x g k/\Q k g):=by
 intro h_ s σ H Q I h;exact isTrue_plain (iN (ha h_ s σ H _ I h) λv s1 ⟨x,c,d,e,f⟩=>JQ h_ s1 σ c x v Q d e f) (he _)
def DG:j8 X (binaryOp .Add) (λx y H Q=>∃i j,x=.str i/\y=.str j/\i.length+j.length<=aE/\Q (.str (i++j)) H):=by
 intro h_ s σ H x y v u Q I a c h;obtain⟨i,j,rfl,rfl,d,q⟩:=h;obtain⟨t,rfl⟩:=a;obtain⟨f,rfl⟩:=c;exact add_str (λf e=>⟨.str _,H,I.tok _,⟨_,W⟩,q⟩) d
def vals1(r:cV [x] us):∃u,us=[u]/\RelV x u:=by
 cases r with
 |cons a c=>cases c;exact⟨_,W,a⟩
def vals2(r:cV [x,y] us):∃u B,us=[u,B]/\RelV x u/\RelV y B:=by
 cases r with
 |cons a c=>
   cases c with
   |cons d e=>cases e;exact⟨_,_,W,a,d⟩
def IY:ko X (.type "int") (λxs H Q=>(∃i,xs=[.int i]/\Q (.int i) H)\/∃k,xs=[.bl k]/\Q (.int (if k then 1 else 0)) H):=by
 intro h_ s σ H xs us Q I r h
 rcases h with⟨i,rfl,q⟩|⟨k,rfl,q⟩
 .obtain⟨u,rfl,t,rfl⟩:=vals1 r;exact call_int_int ⟨.int i,H,I,⟨_,W⟩,q⟩
 .obtain⟨u,rfl,a⟩:=vals1 r;cases a;exact call_int_bool ⟨.int _,H,I.tok _,⟨_,W⟩,q⟩
def zP:ko X (.type "str") (λxs H Q=>∃i,xs=[.int i]/\i.natAbs.log2<1920/\Q (.str (toString i)) H):=by
 intro h_ s σ H xs us Q I r h;obtain⟨i,rfl,a,q⟩:=h;obtain⟨u,rfl,t,rfl⟩:=vals1 r;exact PySem.P.str_of_int a ⟨.str _,H,I.tok _,⟨_,W⟩,q⟩
end
section
variable{K:aP}
end
noncomputable def sk(f:aW)(v:V):List (aW×V)->List (aW×V)
 |[]=>[(f,v)]
 |(g,x)::r=>if g=f then(g,v)::r else(g,x)::sk f v r
def Cz.some_of(r:Cz (Y v) o):∃u,o=Y u/\RelV v u:=by
 cases o with
 |none=>exact(r).elim
 |some u=>exact⟨u,W,r⟩
section
end
section
end
section
end
section
end
structure lJ(k:Nat)(A:bT):Prop where
 hd:A.handled=L
 dp:A.depth+3 * k+5<recursionLimit
 un:A.units+16 * k+200<dR
def lJ.deeper(r:lJ (k+1) A)(env:Nf):lJ k (A.deeper env):=
 ⟨r.hd,by refine (?_ : A.depth+1+3 * k+5<_);exact iF r.dp,by exact iF r.un⟩
def lJ.depth(r:lJ k A):A.depth<recursionLimit:=iF r.dp
def lJ.units(r:lJ k A):A.units+64<dR:=iF r.un
def X3:TA:=λ_ H Q=>Q [] H
def X5(B:TE)(tr:TA):TA:=λσ H Q=>B σ H λx a=>tr σ a λb c=>Q (x::b) c
section
variable{t:TA}
def vA:PA X [] X3:=λ_ _ _ _ H Q I h=>nc ⟨[],H,I,.nil,h⟩
def mN(ha:PE X e C)(B:PA X es t)(hs:aO (e::es) X.env=(J,eval e X.env)::aO es X.env:=by rfl):PA X (e::es) (X5 C t):=by
 intro pos h_ s σ H Q I h;rw[hs];exact qL (iN (ha h_ s σ H _ I h) λu s1 ⟨x,a,b,c,d⟩=>iN (B _ h_ s1 σ a _ b d) λus s2 ⟨k,j,f,g,i⟩=>⟨_,j,f,.cons c g,i⟩)
def aaB(t:TA):TE:=λσ H Q=>t σ H λb a=>Z b<=aE/\∀p,a p=L->Q (.ref p) (upd a p (.tup b))
def aaF(t:TA):TE:=λσ H Q=>t σ H λb a=>Z b<=aE/\∀p,a p=L->Q (.ref p) (upd a p (.lst b))
def UW{x1}(h:PA X es t):PE X (.Tuple es x1 pos) (aaB t):=by
 intro h_ s σ H Q I c;refine wpAny_Tuple_spliced (iN (h _ h_ s σ H _ I c) λus s1 ⟨f,d,a,r,z,q⟩=>⟨by rwa[<-r.length],?_⟩);exact ⟨.ref _,upd d _ (.tup f),a.laid (λb u e=>hp9 _ e) (ak _) (⟨z,us,r,⟨_,aH _ W,W,_,W⟩⟩),W,q _ (a.hok.fresh (ak _))⟩
def U0(h:PA X es t):PE X (.List es pos) (aaF t):=by
 intro h_ s σ H Q I c;refine wpAny_List_spliced (iN (h _ h_ s σ H _ I c) λus s1 ⟨f,d,a,r,z,q⟩=>⟨by rwa[<-r.length],?_⟩);exact ⟨.ref _,upd d _ (.lst f),a.laid (λb u e=>hp9 _ e) (ak _) ⟨z,us,0,r,aH _ W⟩,W,q _ (a.hok.fresh (ak _))⟩
end
abbrev Sp:=List V->Hp->VK->XK->Prop
abbrev XQ:=List Nf->Hp->ai->XK->ah->ai->Prop
structure ic(P:cg)(w:c6)(K:aP)(mg:aW->Option ah)(base:cx)(A:bT)(outer:List Nf)(s:ai)(H:Hp):Prop where
 frames:A.frames=Y outer
 mod:Mod K mg base
 bs:∀b o,base.get? b=Y o->s.heap.get? b=Y o/\H b=L
 bsz:base.objs.size<=s.heap.objs.size
 vW:s.heap.FunFrames base outer
 frf:∀b∈Jm outer,H b=L
 hok:t4 P w H s.heap
 bare:oT s.gens
def CE(outer:List Nf)(P:cg)(w:c6)(H:Hp)(s:ai)(Q:VK)(u:ah)(g:ai):Prop:=
 ∃v a,g.os=s.os/\oT g.gens/\Un (Jm outer) [] H a s.heap g.heap/\t4 P w a g.heap/\RelV v u/\Q v a
def CR(B:XQ)(outer:List Nf)(P:cg)(w:c6)(H:Hp)(s:ai)(Q:VK)(E:XK)(r:Result)(g:ai):Prop:=
 match r with
 |.ok (.ret u)=>CE outer P w H s Q u g
 |.ok _=>False
 |.error e=>B outer H s E e g
structure lK(P:cg)(w:c6)(K:aP)(mg:aW->Option ah)(base:cx)(CX:XQ)(k:Nat)(f:aL)(fd:j9)(ps:List aW)(sp:Sp):Prop where
 len:∀vs H Q E,sp vs H Q E->Z vs=Z ps
 run:∀(A:bT)(outer:List Nf)(s:ai)(H:Hp)(args:Args)(us:List ah)(vs:List V)(Q:VK)(E:XK),lJ k A->ic P w K mg base A outer s H->CC s fd args (ps.zip us)->cV vs us->sp vs H Q E->
  codeAny (aG P w) A (.call (.ref f) args) (CR CX outer P w H s Q E) s
def lK.imp{K:aP}{base:cx}(F:lK P w K mg base B k f fd ps sp)
  (h:∀vs H Q E,g vs H Q E->sp vs H Q E):lK P w K mg base B k f fd ps g:=
 ⟨λvs H Q E q=>F.len vs H Q E (h _ _ _ _ q),λA outer s H args us vs Q E a he hb b hs=>F.run A _ s H _ us vs Q E a he hb b (h _ _ _ _ hs)⟩
section
def Inv.abB(I:Inv X h_ σ H s):ic X.prog X.w X.K X.mg X.base X.A X.stack s H:=
 ⟨I.ok.frames,I.ok.mod,I.bs,aa I.ok.bsz I.sz,I.stack,I.EY,I.hok,I.bare⟩
def Inv.after(I:Inv X h_ σ H s)(h:CE X.stack X.prog X.w H s Q u B):EP X h_ σ Q u B:=by
 obtain⟨v,c,os,bare,un,hok,r,q⟩:=h;obtain⟨hh,g,d,t,a⟩:=B;obtain rfl:a=s.os:=os;exact⟨v,c,I.call un hok bare (λb z=>absurd z (by simp)),r,q⟩
end
def Rx(sp:Sp)(B:List V)(E:XK)(t:TA):TE:=λσ H Q=>t σ H λvs a=>sp (vs++B) a Q E
def Binds(K:aP)(g:j9)(ps:List aW)(ds:List ah):Prop:=
 ∀(s:ai)(us:List ah),K.In s.heap->Z (us++ds)=Z ps->CC s g ⟨us,[]⟩ (ps.zip (us++ds))
def Binds.all{K:aP}{ps:List aW}(h:∀us:List ah,Z us=Z ps->bindArgs fd ⟨us,[]⟩=pure (ps.zip us)):Binds K fd ps []:=λs us _ hl=>by
 rw[aI]at hl ⊢;exact .of_eq (h us hl)
def Aa(g:XQ)(X:Cx)(E:XK):Prop:=∀(h_:List (aL×lD))(σ:St)(H:Hp)(s:ai)(e:ah)(a:ai),Inv X h_ σ H s->g X.stack H s E e a->X.xe e a
section
variable{X:Cx}{f C:aL}
def Kp(F:lK X.prog X.w X.K X.mg X.base P k f fd ps sp)(B:lJ k X.A)(hb:Binds X.K fd ps ds)(hd:cV g ds)(O:Aa P X E)
  (I:Inv X h_ σ H s)(r:cV vs us)(h:sp (vs++g) H Q E):aF (aG X.prog X.w) X.A (call (.ref f) us) (EP X h_ σ Q) X.xe s:=by
 have b :=r.append hd;refine wpAny_call (kY (F.run _ _ s H _ _ _ Q E B I.abB (hb s us I.F7 (by rw[<-b.length];exact F.len _ _ _ _ h)) b h) λr c a=>?_)
 cases r with
 |error e=>exact O h_ σ H s e c I a
 |ok d=>
   cases d with
   |ret u=>exact I.after a
   |next=>exact jf a
   |brk=>exact jf a
   |cont=>exact jf a
def FE(F:lK X.prog X.w X.K X.mg X.base S k f fd ps sp)(g:lJ k X.A)(P:Gl X x)(hm:X.mg x=Y (.ref f))(hk:eY X.K (.ref f)=U)(hb:Binds X.K fd ps ds)(hd:cV R ds)(hx:Aa S X E)
  (ha:PA X (e::es) t)(B:(x == ("__debug__":aW))=J)(he:aO (e::es) X.env=(J,eval e X.env)::aO es X.env)(O:(backTo pos (aO es X.env)).any (·.1)=J) :
  PE X (.Call (.Name x p) (e::es) [] pos) (Rx sp R E t):=by
 intro h_ s σ H Q I h;refine eK (zx I P hm ?_ B);exact PySem.W.callWith_K I.ok.mod.kin hk (iN (ha _ h_ s σ H _ I h) λus s1 ⟨vs,b,a,r,q⟩=>⟨a.F7,(Kp F g hb hd hx a r q)⟩) he O
def K4(F:lK X.prog X.w X.K X.mg X.base S k f fd ps sp)(O:lJ k X.A)(g:Gl X x)(P:X.mg x=Y (.ref f))(hk:eY X.K (.ref f)=U)(hb:Binds X.K fd ps ds)(hd:cV R ds)(hx:Aa S X E)
  (B:(x == ("__debug__":aW))=J):PE X (.Call (.Name x p) [] [] pos) (Rx sp R E X3):=by
 intro h_ s σ H Q I h;exact eK (zx I g P (PySem.W.callWith_K0 I.F7 hk (Kp F O hb hd hx I .nil h)) B)
structure Mk(K:aP)(C f:aL):Prop where
 makes:PySem.W.makesIn K C=U
 init:PySem.W.findIn K (.ref C) "__init__"=Y (Y (.ref f))
 fn:PySem.W.isFn K (.ref f)=U
 kp:eY K (.ref C)=U
end
section
end
structure pX(N P:List aW)(sc:m9):Prop where
 kind:sc.kind=.function
 co:sc.isCoroutine=J
 gen:sc.isGenerator=J
 nd:N.Nodup
 pre:N.take (Z P)=P
 par:∀x∈P,sc.names.lookup x=Y .local\/sc.names.lookup x=Y .cell
 nofree:∀y∈sc.names,y.2≠.free
theorem yu{kindOf:aW->Option k8}:∀{binds:List (aW×ah)}{m:aW->Option ah},(∀v,(x,v)∉binds)->bindL kindOf binds m x=m x
 |[],_,_=>rfl
 |(n,v)::r,m,h=>by
   unfold bindL;rw[yu λw a=>h w (jZ _ a)];split
   .grind
   .rfl
theorem yw{kindOf:aW->Option k8}:∀{binds:List (aW×ah)}{m:aW->Option ah},(∀v,(x,v)∉binds)->bindC kindOf binds m x=m x
 |[],_,_=>rfl
 |(n,v)::r,m,h=>by
   unfold bindC;rw[yw λw a=>h w (jZ _ a)];split
   .rfl
   grind
theorem yv{kindOf:aW->Option k8}:∀{P:List aW} {vs:List ah} {i:Nat} {m:aW->Option ah},P.Nodup->P[i]?=Y x->vs[i]?=Y v->kindOf x=Y .local->
  bindL kindOf (P.zip vs) m x=Y v
 |[],_,_,_,_,h,_,_=>by simp at h
 |_::_,[],_,_,_,_,h,_=>by simp at h
 |p::P,w::vs,0,m,nd,h1,h2,hk=>by
   simp at h1 h2;subst h1;subst h2;show bindL _ ((p,w)::P.zip vs) m p=_;unfold bindL;rw[yu λv a=>(a6.mp nd).1 (iM a).1,if_pos hk];simp
 |p::P,w::vs,i+1,m,nd,h1,h2,hk=>by
   show bindL _ ((p,w)::P.zip vs) m x=_;exact yv (a6.mp nd).2 (by simpa using h1) (by simpa using h2) hk
theorem yy{kindOf:aW->Option k8}:∀{P:List aW} {vs:List ah} {i:Nat} {m:aW->Option ah},P.Nodup->P[i]?=Y x->vs[i]?=Y v->kindOf x≠Y .local->
  bindC kindOf (P.zip vs) m x=Y v
 |[],_,_,_,_,h,_,_=>by simp at h
 |_::_,[],_,_,_,_,h,_=>by simp at h
 |p::P,w::vs,0,m,nd,h1,h2,hk=>by
   simp at h1 h2;subst h1;subst h2;show bindC _ ((p,w)::P.zip vs) m p=_;unfold bindC;rw[yw λv a=>(a6.mp nd).1 (iM a).1,if_neg hk];simp
 |p::P,w::vs,i+1,m,nd,h1,h2,hk=>by
   show bindC _ ((p,w)::P.zip vs) m x=_;exact yy (a6.mp nd).2 (by simpa using h1) (by simpa using h2) hk
noncomputable def start(N:List aW)(vs:List V):St:=vs.map Y++br (Z N - Z vs) L
noncomputable def xj(g:XQ)(P:cg)(w:c6)(K:aP)(mg:aW->Option ah)(base:cx)(N:List aW)(qual:aW)(scope:m9)(f:aL)(B:ah)(A:bT)(outer:List Nf)(s:ai)(H:Hp)(E:XK):Cx where
 prog:=P
 w:=w
 K:=K
 mg:=mg
 base:=base
 A:=A.deeper (envOfC qual scope s.heap.objs.size f B)
 N:=N
 s₀:=s
 H₀:=H
 env:=envOfC qual scope s.heap.objs.size f B
 outer:=outer
 stack:=envOfC qual scope s.heap.objs.size f B::outer
 ex:=[]
 calm:=U
 fn:=λ_=>U
 pn:=[]
 xe:=λe c=>aF (aG P w) (A.deeper (envOfC qual scope s.heap.objs.size f B)) (leaving (envOfC qual scope s.heap.objs.size f B) e) (λ_ a=>g outer H s E e a) (λb a=>g outer H s E b a) c
def B9{sc:m9}(h:sc.names.lookup x=Y .cell):∃c,(cellsFrom n sc.names []).lookup x=Y c:=by
 exact eX.mp (yG _ n [] (.inl h))
def IC{K:aP}{base:cx}{A:bT}{s1:ai}{vs:List V}
  (S:pX N ps scope)(hd:A.handled=L)(B:ic P w K mg base A outer s H)(hl:Z vs=Z ps)(r:cV vs us)
  (x:InCallC s s.heap.objs.size (bindL (envOfC qual scope s.heap.objs.size f cd).kindOf (ps.zip us) λ_=>L) (cellsFrom (s.heap.objs.size+1) scope.names []) (bindC (envOfC qual scope s.heap.objs.size f cd).kindOf (ps.zip us) λ_=>L) s1) :
  Inv (xj C P w K mg base N qual scope f cd A outer s H E) [] (start N vs) H s1:=by
 obtain⟨h1,n,rfl,hk⟩:=x.done;have a:∀b:aL,b∉(xj C P w K mg base N qual scope f cd A outer s H E).ex:=λb z=>absurd (show b∈([])from z) (by simp)
 refine⟨⟨B.mod,S.kind,W,W,ak _,λy z c h1 h2=>(name_of_addr x.apart (gY h1) (gY h2)),λy d=>?_,λy c _ h=>(ax (x.above y c (gY h))),λ_=>hd,Around.frames_deeper B.frames,.inr ⟨W,W⟩,λb z=>absurd z (a b),B.bs,B.bsz,λb _ _=>a b,λb z=>absurd z (a b),B.vW,B.frf⟩,
  rfl,B.bare,Un.kept hk,⟨_,x.toInCall.ns,λi y v h1 h2 h3=>?_⟩,λy c h=>⟨_,x.cell y c h⟩,B.hok.fresh (ak _),λy c h=>(B.hok.fresh (ax (x.above y c (gY h)))),λp hp=>absurd (show p∈([])from hp) (by simp),B.hok.kept hk,?_⟩
 .rcases d with d|d
  .exact B9 d
  .exact absurd rfl (S.nofree _ (gY d))
 .have hi:i<Z vs:=by
   unfold start at h2;by_cases hi:i<Z vs
   .exact hi
   .rw[aS (by simpa using hi)]at h2;rw[cG]at h2
    grind
  have ha:vs[i]?=Y v:=by
   unfold start at h2;rw[aY (by simpa using hi),aR]at h2
   simp_all
  obtain⟨u,l,m⟩:=r.get ha
  have hp:ps[i]?=Y y:=by
   rwa[<-S.pre,List.getElem?_take_of_lt (aa hi (ae hl))]
  have g:ps.Nodup:=by rw[<-S.pre];exact S.nd.sublist (iU _ _)
  refine⟨u,m,?_⟩
  rcases S.par y (aZ hp)with k|k
  .exact .inl ⟨k,yv g hp l k⟩
  .obtain⟨c,e⟩:=B9 k;refine .inr ⟨.inl k,c,e,?_⟩;have q:=x.cell y c e;rwa[yy g hp l (by show scope.names.lookup y≠_;rw[k];decide)]at q
 .unfold start;rw[aj,aB,fT];exact gJ (aa (ae hl) (by have:=congrArg fI S.pre;rw[fO]at this;exact aa (ae this.symm) (k9 _ _)))
def Zv{K:aP}{base:cx}{kV:ah}
  (C:K.lookup f=Y ⟨oc,od,.func (qK name qual params body scope R kV doc pm an cdv ct),osl⟩)(O:uM K cdv qual=U)(S:pX N ps scope)
  (len:∀vs H Q E,sp vs H Q E->Z vs=Z ps)
  (B:∀(A:bT)(outer:List Nf)(s:ai)(H:Hp)(vs:List V)(Q:VK)(E:XK),lJ k (A.deeper (envOfC qual scope s.heap.objs.size f cdv))->sp vs H Q E->
   ∃t,Am (xj I P w K mg base N qual scope f cdv A outer s H E) body t/\t { nx:=λ_ F=>Q .non F,rt:=Q } (start N vs) H) :
  lK P w K mg base I (k+1) f (qK name qual params body scope R kV doc pm an cdv ct) ps sp:=by
 refine⟨len,λA outer s H args us vs Q E h d hb r g=>?_⟩;have l :=d.mod.kin.keeps λb o e=>(d.bs b o e).1;have c:∀y∈ps.zip us,scope.names.lookup _=Y _\/(scope.names.lookup _=Y _/\((cellsFrom (s.heap.objs.size+1) _ []).lookup _).isSome=U):=λm p=>by
  rcases S.par _ (iM p).1 with q|q
  .exact .inl q
  .exact .inr ⟨q,yG _ _ _ (.inl q)⟩
 refine codeAny_call_function h.depth (l _ _ C) W S.co S.gen W (PySem.W.codeRec_of l O) (hb _ _ _ _ ?_);refine wpAny_newFunctionEnv_cells S.kind c λenv he s1 x=>?_;subst he;refine⟨(d.mod.nolimit.keeps λb o e=>(d.bs b o e).1).keeps x.toInCall.keep,codeAny_func ?_⟩;obtain⟨t,ht,z⟩:=B A _ s H vs Q E (h.deeper _) g;refine dE (ht [] s1 _ H _ (IC S h.hd d (len _ _ _ _ g) r x) z) (λD n hs=>?_) λe n hs=>hs
 have fin:∀{a:St}{F:Hp}{v:V}{u:ah},Inv (xj I P w K mg base N qual scope f cdv A outer s H E) [] a F n->RelV v u->Q v F->CE _ P w H s Q u n:=
  λ{a F v u}i j q=>⟨v,F,i.os,i.bare,i.base,i.hok,j,q⟩
 cases D with
 |ret u=>
   obtain⟨v,a,F,i,j,q⟩:=hs;exact fin i j q
 |next=>
   obtain⟨a,F,i,q⟩:=hs;exact fin (v:=V.non) i W q
 |brk=>
   obtain⟨_,_,_,q⟩:=hs;exact jf q
 |cont=>
   obtain⟨_,_,_,q⟩:=hs;exact jf q
section
variable{t:TA}{id T:String}{r:List V->Hp->VK->Prop}
def tCB(r:List V->Hp->VK->Prop)(t:TA):TE:=λσ H Q=>t σ H λvs a=>r vs a Q
def qY(hc:ko X (.builtin id) r)(g:Gl X x)(C:X.mg x=L)(F:bootBuiltins x=Y (.builtin id))(ha:PA X (e::es) t)(P:x≠"__name__")(B:(x == ("__debug__":aW))=J)
  (he:aO (e::es) X.env=(J,eval e X.env)::aO es X.env)(O:(backTo pos (aO es X.env)).any (·.1)=J):PE X (.Call (.Name x p) (e::es) [] pos) (tCB r t):=by
 intro h_ s σ H Q I h;exact eK (lp I g C F (p8 (iN (ha _ h_ s σ H _ I h) λus s1 ⟨vs,a,b,c,d⟩=>hc h_ s1 σ a vs us Q b c d) he O) P B)
def Ia(hc:ko X (.type T) r)(g:Gl X x)(C:X.mg x=L)(F:bootBuiltins x=Y (.type T))(ha:PA X (e::es) t)(P:x≠"__name__")(B:(x == ("__debug__":aW))=J)
  (he:aO (e::es) X.env=(J,eval e X.env)::aO es X.env)(O:(backTo pos (aO es X.env)).any (·.1)=J):PE X (.Call (.Name x p) (e::es) [] pos) (tCB r t):=by
 intro h_ s σ H Q I h;exact eK (lp I g C F (cO (iN (ha _ h_ s σ H _ I h) λus s1 ⟨vs,a,b,c,d⟩=>hc h_ s1 σ a vs us Q b c d) he O) P B)
end
end L2
namespace HT
open PySem PyProof.Rows
section
open PySem.SeqAt
open PySem.AutoSeq1 (wpAny_loadPart')
open PySem.MeetsSeq PySem.MeetsSeq2 PySem.MeetsSeq3
end
section
variable{s:ai}
def QJ{vs ws:List ah}(ht:Af s.heap t vs.toArray)(hb:Af s.heap b ws.toArray)(B:vs≠[])
  (h1:ws=[]->Q (.ref t) s)(h2:ws≠[]->Q (.ref s.heap.objs.size) { s with heap:=s.heap.push { cls:=.type "tuple",data:=.seq (vs++ws).toArray } })
  (hsz:Z vs+Z ws<=aE):aF (aG prog w) A (binaryOp .Add (.ref t) (.ref b)) Q E s:=by
 refine ac λ_ k=>?_;obtain⟨⟨cls,h,data,sl⟩,ho,hc,n,hd⟩:=id ht;obtain⟨⟨i,c,data2,yW⟩,a,f,j,g⟩:=id hb;subst hc hd f g;refine k ?_;have e:vs.toArray++ws.toArray=(vs++ws).toArray:=by simp
 by_cases d:ws=[]
 .exact wL ⟨_,ho,W⟩ ⟨_,a,W⟩ yF G8 nQ ni (mU _ _)
   (tuple_addW1 t b _ _ n j h c sl yW (by simpa using B) (by simp[d])) ⟨ho,a,h1 d⟩
 .refine wL ⟨_,ho,W⟩ ⟨_,a,W⟩ yF G8 nQ ni (mU _ _)
   (tuple_addW2 t b _ _ n j h c sl yW (by simpa using B) (by simpa using d) (by exact hsz)) ⟨ho,a,?_⟩
  rw[e];exact h2 d
noncomputable def jC(n d:Nat):Option Int->Nat
 |none=>d
 |some v=>if v<0 then(v+(n:Int)).toNat else min v.toNat n
def AX(n d:Nat):jC n d L=d:=rfl
def Fi(n d k:Nat):jC n d (Y (k:Int))=min k n:=by
 show(if(k)<0 then((k:Int)+(n)).toNat else min _ n)=min k n;simp
def UC(n d:Nat)(hd:d<=n)(o:Option Int):jC n d o<=n:=by
 cases o with
 |none=>exact hd
 |some v=>
   show(if v<0 then(v+(n)).toNat else min _ n)<=n;by_cases a:v<0
   .rw[if_pos a];omega
   .rw[if_neg a];exact k9 _ _
def GK(v:Int)(n d:Nat):(if v<0 then max (v+(n:Int)) 0 else min v (n:Int))=((jC n d (Y v):Nat):Int):=by
 show(if v<0 then max _ 0 else min v _)=(((if v<0 then(v+(n)).toNat else min _ n):Nat))
 grind
def cl9(i:Int)(n:Nat):max 0 (min (if i<0 then i+(n:Int) else i) (n:Int))=if i<0 then max (i+(n:Int)) 0 else min i (n:Int):=by
 split
 .rw[Int.min_eq_left (by omega),Int.max_comm]
 .exact Int.max_eq_right (Int.le_min.mpr ⟨by omega,by omega⟩)
def EA(lo hi:Option Int)(n:Nat):rN lo hi 1 (n:Int)=(((jC n 0 lo:Nat):Int),((jC n n hi:Nat):Int)):=by
 refine EM ?_ ?_
 .cases lo with
  |none=>rfl
  |some v=>exact GK v n 0
 .cases hi with
  |none=>rfl
  |some v=>exact GK v n n
def DD(i j:Nat):iL (i:Int) (j:Int) 1=j - i:=by
 unfold iL;rw[if_pos (by decide)];split
 .rw[Int.ediv_one];omega
 .omega
def ve(p:rZ v o)(h:Q o s):aF (aG prog w) A (Builtin.Slice.slicePartIndex v) Q E s:=by
 cases p with
 |none=>exact slicePart_none h
 |int i t=>exact slicePart_int h
def nv{sl:aL}{B O:ah}{lo hi:Option Int}{n:Nat}{Q:Int×Int×Nat->ai->Prop}(hs:s.heap.IsSliceOf sl B O .none)(pl:rZ B lo)(g:rZ O hi)
  (h:Q (((jC n 0 lo:Nat):Int),1,jC n n hi - jC n 0 lo) s):aF (aG prog w) A (Builtin.Slice.sliceApplied (.ref sl) (pure (n:Int))) Q E s:=by
 obtain⟨os,a,c,b⟩:=id hs;refine wb9 (wb9 (df a b (x:=B) W (wb9 (df a b (x:=O) W (wb9 (df a b W (wu9 ?_)))))));refine wb9 (slicePart_none ?_);refine wb9 (ve pl (wb9 (ve g (wb9 (wu9 ?_)))));show aF _ _ (match rN lo hi 1 (n)with|(lo,hi)=>pure (lo,(1:Int),iL lo hi 1)) _ _ s;rw[EA lo hi n];show aF _ _ (pure (((jC n 0 lo):Int),(1),iL _ _ 1)) _ _ s;rw[DD];exact wu9 h
def KQ(xs:Array ah)(i k:Nat):((aQ k).filterMap λ(m:Nat)=>xs[((i:Int)+(m:Int) * 1).toNat]?).toArray=((xs.toList.drop i).take k).toArray:=by
 have e:(λ(m:Nat)=>xs[((i:Int)+(m) * 1).toNat]?)=λm=>xs[i+m]? :=by
  funext m
  grind
 rw[e];have:=pick_run xs i k;have a:((λx=>xs[x]?) ∘ λx=>i+x)=λm=>xs[i+m]? :=rfl
 simp_all
def rq{sl:aL}{lo:Option Int}(ht:Af s.heap t items)(hs:s.heap.IsSliceOf sl g C .none)(pl:rZ g lo)(B:rZ C hi)
  (O:¬(jC items.size 0 lo=0/\jC items.size items.size hi=items.size))
  (h:Q (.ref s.heap.objs.size) { s with heap:=s.heap.push { cls:=.type "tuple",data:=.seq ((items.toList.drop (jC items.size 0 lo)).take (jC items.size items.size hi - jC items.size 0 lo)).toArray } })
  (hsz:items.size<=aE):aF (aG prog w) A (getItem (.ref t) (.ref sl)) Q E s:=by
 have a:sizeOk (.seq ((items.toList.drop (jC items.size 0 lo)).take (jC items.size items.size hi - jC items.size 0 lo)).toArray):=by
  show((items.toList.drop (jC _ 0 lo)).take (jC _ _ hi - jC _ 0 lo)).toArray.size<=aE;rw[bC,fO,eC,bh];omega
 obtain⟨os,b,c,f⟩:=id hs;unfold getItem
 try with_reducible refine cB ?_
 first|grind|skip
 refine wb9 (wpAny_sequenceKey ht.typeIs bR ?_)
 refine wb9 (cM ht.typeIs dB
  (bO dB ht.typeIs entry_tuple_getitem ?_ (args_tuple_getitem _ _)))
 show aF _ _ (kM _ >>= _) _ _ s;refine wb9 (tupleItemsOf_ ht ?_);refine wb9 (iT ⟨os,b,c⟩ ?_);refine wb9 (nv hs pl B ?_)
 have e:¬((((jC items.size 0 lo):Int) == 0 && (1:Int) == 1 && (jC items.size items.size hi - jC items.size 0 lo) == items.size)=U):=by
  simp_all
 show aF _ _ (if(((jC _ 0 lo):Int) == 0 && (1) == 1 && (jC _ _ hi - jC _ 0 lo) == items.size)=U then _ else _) _ _ s;rw[if_neg e,KQ]
 first
  |exact wb9 (dH (wu9 ⟨_,rfl,wu9 h⟩) a)
  |simp
  |simp
  |simp
end
end HT
namespace L2
open PySem PySem.Spec PyProof.Rows
abbrev TO:=St->Hp->(Option Int->Hp->Prop)->Prop
def PO(X:Cx)(e:Option ba)(t:TO):Prop:=
 ∀(h_:List (aL×lD))(s:ai)(σ:St)(H:Hp)(Q:Option Int->Hp->Prop),Inv X h_ σ H s->t σ H Q->
  aF (aG X.prog X.w) X.A (evalPart e X.env) (λu b=>∃o a,Inv X h_ σ a b/\rZ u o/\Q o a) X.xe s
def N9:TO:=λ_ H Q=>Q L H
def X2(t:TE):TO:=λσ H Q=>t σ H λx a=>∃i,x=.int i/\Q (Y i) a
section
variable{X:Cx}{te:TE}{lo hi:Option ba}{tl th:TO}
def Pb:PO X L N9:=by
 intro h_ s σ H Q I h;exact wu9 ⟨L,H,I,.none,h⟩
def Pa(h:PE X e te):PO X (Y e) (X2 te):=by
 intro h_ s σ H Q I a;refine iN (h h_ s σ H _ I a) λu s1 g=>?_;obtain⟨x,b,c,d,f⟩:=g;obtain⟨i,rfl,q⟩:=f;obtain⟨t,rfl⟩:=d;exact⟨_,b,c,.int i t,q⟩
def SlR(X:Cx)(r:V->Option Int->Option Int->Hp->VK->Prop):Prop:=
 ∀(h_:List (aL×lD))(s:ai)(σ:St)(H:Hp)(x:V)(v a b:ah)(lo hi:Option Int)(sl:aL)(Q:VK),Inv X h_ σ H s->RelV x v->s.heap.IsSliceOf sl a b .none->rZ a lo->rZ b hi->r x lo hi H Q->
  ∃T c,typeLookup (.type T) "__getitem__"=pure (Y (.builtin c))/\s.TypeIs v T/\aF (aG X.prog X.w) X.A (getItem v (.ref sl)) (EP X h_ σ Q) X.xe s
def tSl(r:V->Option Int->Option Int->Hp->VK->Prop)(te:TE)(tl th:TO):TE:=λσ H Q=>te σ H λx a=>tl σ a λl c=>th σ c λu b=>r x l u b Q
def K1(B:SlR X r)(he:PE X e te)(hl:PO X lo tl)(O:PO X hi th):PE X (.Subscript e (.Slice lo hi L F) pos) (tSl r te tl th):=by
 intro h_ s σ H Q I h;refine Subscript_ (iN (he h_ s σ H _ I h) λv s1 D=>?_);obtain⟨x,f,g,i,j⟩:=D;refine wpAny_Slice (iN (hl h_ s1 σ f _ g j) λa s2 ⟨l,t,k,pl,m⟩=>iN (O h_ s2 σ t _ k m) λc s3 C=>?_);obtain⟨u,d,n,o,p⟩:=C;refine wu9 ?_;obtain⟨T,A,w,ht,y⟩:=B h_ { s3 with heap:=s3.heap.push { cls:=.type _,data:=.fields _ } } σ d x v a c l u _ Q (n.kept λb z q=>hp9 _ q) i (Heap.IsSliceOf.new ..) pl o p;exact NH ht w y (by with_unfolding_all rfl)
def Em(xs:List V)(lo hi:Option Int):List V:=(xs.drop (HT.jC xs.length 0 lo)).take (HT.jC xs.length xs.length hi - HT.jC xs.length 0 lo)
def tS(xs:List V)(lo hi:Option Int):Z (Em xs lo hi)<=Z xs:=by
 unfold Em;rw[fO,eC];exact aa (k9 _ _) (oW _ _)
def aaU(K:aP):V->Option Int->Option Int->Hp->VK->Prop:=λx lo hi H Q=>∃a b,x=.ref a/\tZ K H a b/\
 ¬(HT.jC b.length 0 lo=0/\HT.jC b.length b.length hi=Z b)/\∀p,H p=L->Q (.ref p) (upd H p (.tup (Em b lo hi)))
def T7:SlR X (aaU X.K):=by
 intro h_ s σ H x v i j lo hi sl Q I d hs pl e h;refine ac λ_ l=>?_;obtain⟨a,n,rfl,f,g,q⟩:=h;cases d;obtain⟨m,r,ht,c⟩:=I.tuple f;refine l ?_;have hlen:m.toArray.size=Z n:=by exact r.length.symm
 refine⟨_,_,dB.lookup,ht.typeIs,?_⟩;refine HT.rq ht hs pl e (by rwa[hlen]) ?_ (by rwa[hlen]);rw[hlen];refine⟨.ref _,_,I.laid (λb k q=>hp9 _ q) (ak _) ?_,W,q _ (I.hok.fresh (ak _))⟩;exact⟨aa (tS n lo hi) c,_,(r.drop (HT.jC _ 0 lo)).take (HT.jC _ _ hi - HT.jC _ 0 lo),JC _ _⟩
def YB(K:aP):R2:=λx y H Q=>∃a b d c,x=.ref a/\y=.ref b/\tZ K H a d/\tZ K H b c/\d≠[]/\Z d+Z c<=aE/\
 (c=[]->Q (.ref a) H)/\(c≠[]->∀p,H p=L->Q (.ref p) (upd H p (.tup (d++c))))
def cV.zl(r:cV xs us):us=[]↔xs=[]:=by
 cases r with
 |nil=>simp
 |cons _ _=>simp
def Pw:j8 X (binaryOp .Add) (YB X.K):=by
 intro h_ s σ H x y v u Q I e f h;refine ac λ_ p=>?_;obtain⟨a,b,t,A,rfl,rfl,ha,hb,g,i,j,k⟩:=h;cases e;cases f;obtain⟨r,d,l,_⟩:=I.tuple ha;obtain⟨n,c,m,_⟩:=I.tuple hb;refine p ?_;refine HT.QJ l m (λz=>g (d.zl.mp z)) (λz=>⟨.ref a,H,I,W,j (c.zl.mp z)⟩) (λz=>?_) (by rwa[<-d.length,<-c.length]);refine⟨.ref _,_,I.laid (λb o q=>hp9 _ q) (ak _) ?_,W,k (λw=>z (c.zl.mpr w)) _ (I.hok.fresh (ak _))⟩;exact⟨by simp_all,_,d.append c,JC _ _⟩
end
noncomputable def tL(n:Nat)(i:Int):Option Nat:=if 0<=i then(if i<n then Y i.toNat else L)else if -(n:Int)<=i then Y (i+n).toNat else L
def uK{α:Type}(xs:List α)(i:Int):Option α:=(tL xs.length i).bind λj=>xs[j]?
def zy(h:tL n i=Y j):seqIndex? i n=Y j/\j<n/\-(n:Int)<=i/\i<n:=by
 unfold tL at h;by_cases h0:0<=i
 .rw[if_pos h0]at h;by_cases h1:i<n
  .rw[if_pos h1]at h;have e :=bI h;exact⟨by rw[NA h0 h1,e],by omega,by omega,h1⟩
  simp_all
 .rw[if_neg h0]at h;by_cases h1:-(n)<=i
  .rw[if_pos h1]at h;have e :=bI h;exact⟨by rw[Ju (mW.mp h0) h1,e],by omega,h1,fK (mW.mp h0) (fB _)⟩
  simp_all
def zV (h:uK xs i=Y v):∃j,seqIndex? i (Z xs)=Y j/\xs[j]?=Y v/\j<Z xs/\-(Z xs:Int)<=i/\i<Z xs:=by
 unfold uK at h
 cases e:tL _ i with
 |none=>rw[e]at h;cases h
 |some j=>
   rw[e]at h;obtain⟨h1,h2,h3,a⟩:=zy e;exact⟨j,h1,h,h2,h3,a⟩
def j3{α:Type}{xs:List α}{j:Nat}{v:α}(h:xs[j]?=Y v):uK xs (j:Int)=Y v:=by
 have a :=(aN.mp h).1
 have e:tL xs.length (j)=Y j:=by
  unfold tL
  simp_all
 unfold uK;rwa[e]
def zZ(b:ba):Prop:=∀o i,subscripted b J o i=operate [o,i] (getItem o i)
def Xn(X:Cx)(r:R2):Prop:=
 ∀(value slice:ba)(h_:List (aL×lD))(s:ai)(σ:St)(H:Hp)(x y:V)(v u:ah)(Q:VK),Inv X h_ σ H s->RelV x v->RelV y u->r x y H Q->
  subscripted slice J v u=operate [v,u] (getItem v u)->aF (aG X.prog X.w) X.A (subscriptTail value slice v u) (EP X h_ σ Q) X.xe s
def Q5(X:Cx)(B:String)(r:V->List V->Hp->VK->Prop):Prop:=
 ∀(h_:List (aL×lD))(s:ai)(σ:St)(H:Hp)(x:V)(a:List V)(v:ah)(us:List ah)(Q:VK),Inv X h_ σ H s->RelV x v->cV a us->r x a H Q->
  aF (aG X.prog X.w) X.A (call (.builtin B) (v::us)) (EP X h_ σ Q) X.xe s
section
variable{a:ba}{tb:TE}
def Bc(B:Xn X r)(ha:PE X a g)(hb:PE X b tb)(hs:zZ b):PE X (.Subscript a b pos) (Nm r g tb):=by
 intro h_ s σ H Q I h;exact Subscript_ (Xc ha hb I h λv u s2 x y f c d e q=>B a b h_ s2 σ f x y v u Q c d e q (hs _ _))
def KC(K:aP):R2:=λx y H Q=>∃p b i v,x=.ref p/\y=.int i/\ng K H p b/\uK b i=Y v/\Q v H
def aaX(K:aP):R2:=λx y H Q=>∃p b i v,x=.ref p/\y=.int i/\tZ K H p b/\uK b i=Y v/\Q v H
def aaY:R2:=λx y H Q=>∃z i c,x=.str z/\y=.int i/\z.length<=aE/\uK z.cps.toList i=Y c/\Q (.str ⟨#[c]⟩) H
def uE:Xn X (KC X.K):=by
 intro value slice h_ s σ H x y v u Q I e f h hs;refine ac λ_ a=>?_;obtain⟨p,A,i,z,rfl,rfl,g,he,q⟩:=h;cases e;obtain⟨t,rfl⟩:=f;obtain⟨n,r,pl,k⟩:=I.list g;obtain⟨j,h1,h2,h3,l,o⟩:=zV he;obtain⟨w,d,b⟩:=r.get h2;refine a ?_;have hl:=r.length;have m:=sP;by_cases h0:0<=i
 .have c:i.toNat=j:=by
   rw[NA h0 o]at h1
   simp_all
  exact item_listR pl.isList h0 (fK o (fK (fJ.mpr k) bR)) (by rw[c];simpa using d) ⟨z,H,I,b,q⟩ hs
 .have c:(i+(n.toArray.size)).toNat=j:=by
   rw[Ju (mW.mp h0) l]at h1
   simp_all
  exact JB pl.isList.typeIs slot_list_getitem.lookup
   (wpAny_getItem_list_neg pl.isList (mW.mp h0) (by simp_all) (by omega) (by rw[c];simpa using d) ⟨W,⟨z,H,I,b,q⟩⟩) hs
def V9:Xn X (aaX X.K):=by
 intro value slice h_ s σ H x y v u Q I c d h hs;refine ac λ_ a=>?_;obtain⟨p,o,i,z,rfl,rfl,e,he,q⟩:=h;cases c;obtain⟨t,rfl⟩:=d;obtain⟨m,r,pl,f⟩:=I.tuple e;obtain⟨j,h1,h2,h3,k,n⟩:=zV he;obtain⟨w,g,b⟩:=r.get h2;refine a ?_;have l:=sP;exact JB pl.typeIs slot_tuple_getitem.lookup
  (rO pl (by omega) (fK n (fK (fJ.mpr f) bR)) (by rwa[bC,<-r.length]) (by simpa using g) ⟨W,⟨z,H,I,b,q⟩⟩) hs
def Wa:Xn X aaY:=by
 intro value slice h_ s σ H x y v u Q I b d h hs;refine ac λ_ a=>?_;obtain⟨z,i,c,rfl,rfl,f,he,q⟩:=h;obtain⟨t,rfl⟩:=b;obtain⟨l,rfl⟩:=d;obtain⟨j,h1,h2,h3,e,k⟩:=zV he;refine a ?_;have hl:z.cps.toList.length=z.length:=by simp[Str.length]
 rw[hl]at h1 e k;have g:=sP
 exact NH (typeIs_str s z t) slot_str_getitem.lookup (getItem_str (by
  grind) (by rw[h1];simpa using h2) ⟨.str ⟨_⟩,H,I.tok _,⟨_,W⟩,q⟩) hs
def DO(its:List ah)(n j:Nat)(u:ah):eZ (·.setIfInBounds j u) { cls:=.type "list",data:=.seq its.toArray n }={ cls:=.type "list",data:=.seq (its.set j u).toArray n }:=by
 simp[eZ]
def Inv.lst(I:Inv X h_ σ H s)(h:H p=Y (.lst xs)) :
  ∃(its:List ah) (n:Nat),cV xs its/\s.heap.get? p=Y { cls:=.type "list",data:=.seq its.toArray n }/\Z xs<=aE:=by
 obtain⟨z,its,n,r,e⟩:=I.hok p _ h;exact⟨_,n,r,e,z⟩
def Inv.VQ{its B:List ah}(I:Inv X h_ σ H s)(h:H p=Y (.lst xs))
  (ho:s.heap.get? p=Y { cls:=.type "list",data:=.seq its.toArray n })(hf:f { cls:=.type "list",data:=.seq its.toArray n }={ cls:=.type "list",data:=.seq B.toArray g })(r:cV C B)(O:Z C<=aE)(t:Nat) :
  Inv X h_ σ (upd H p (.lst C)) { s with heap:=s.heap.update p f,toks:=t }:=by
 have e:(s.heap.update p f).get? p=Y { cls:=.type "list",data:=.seq B.toArray g }:=by
  rw[eT f ho (by rw[hf]<;>rfl),hf]
 exact I.write (by rw[h];trivial) (λb u hb q=>(dM _ _ (cu hb)).trans q) ⟨_,e⟩ ⟨O,B,g,r,e⟩
def Fo:V->V->V->Hp->(Hp->Prop)->Prop:=λo i v H Q=>∃p b k j,o=.ref p/\i=.int k/\H p=Y (.lst b)/\tL b.length k=Y j/\Q (upd H p (.lst (b.set j v)))
def set_list:Xk X Fo:=by
 intro h_ s σ H o i v l m u Q I c d e h;refine ac λ_ a=>?_;obtain⟨p,z,k,j,rfl,rfl,hp,f,q⟩:=h;cases c;obtain⟨t,rfl⟩:=d;obtain⟨x,n,r,ho,g⟩:=I.lst hp;obtain⟨h1,h2,h3,b⟩:=zy f;refine a ?_;have hl:=r.length;have w:=sP
 have y :=
  I.VQ hp ho (DO _ n j u) (r.set e j) (by simp_all) s.toks
 by_cases h0:0<=k
 .have hk:k.toNat=j:=by
   rw[NA h0 b]at h1
   simp_all
  exact PySem.W.ki_setAt ho h0 (fK b (fK (fJ.mpr g) bR)) (by simp_all) (by rw[hk];exact⟨_,y,q⟩)
 .have hk:(k+(x.toArray.size)).toNat=j:=by
   rw[Ju (mW.mp h0) h3]at h1
   simp_all
  exact PySem.W.ki_setBack ho (mW.mp h0) (by simp_all) (by omega) (by rw[hk];exact⟨_,y,q⟩)
def yV(lo hi:Option Int)(n:Nat):(sliceBounds lo hi L n).1=((HT.jC n 0 lo:Nat):Int)/\(sliceBounds lo hi L n).2.1=((HT.jC n n hi:Nat):Int)/\(sliceBounds lo hi L n).2.2=1:=by
 refine⟨?_,?_,W⟩
 .cases lo with
  |none=>simp[sliceBounds,HT.jC]
  |some i=>
    rw[<-HT.GK];simp only[sliceBounds,Je,show(1:Int) > 0 by decide,if_true];exact HT.cl9 i n
 .cases hi with
  |none=>simp[sliceBounds,HT.jC]
  |some i=>
    rw[<-HT.GK];simp only[sliceBounds,Je,show(1:Int) > 0 by decide,if_true];exact HT.cl9 i n
def wR(its:List ah)(lo hi:Option Int):slicePick its.toArray lo hi L=((its.drop (HT.jC its.length 0 lo)).take (HT.jC its.length its.length hi - HT.jC its.length 0 lo)).toArray:=by
 obtain⟨h1,h2,h3⟩:=yV lo hi _;unfold slicePick;rw[h1,h2,h3];simp only[sliceRange_one,pick_run,bC]<;>rfl
def aaV(K:aP):V->Option Int->Option Int->Hp->VK->Prop:=λx lo hi H Q=>∃a b,x=.ref a/\ng K H a b/\∀p,H p=L->Q (.ref p) (upd H p (.lst (Em b lo hi)))
def OA:SlR X (aaV X.K):=by
 intro h_ s σ H x v g i lo hi sl Q I c hs pl d h;refine ac λ_ k=>?_;obtain⟨a,l,rfl,e,q⟩:=h;cases c;obtain⟨m,r,ht,f⟩:=I.list e;refine k ?_;have hlen:=r.length;refine⟨_,_,slot_list_getitem.lookup,ht.isList.typeIs,?_⟩;refine wpAny_getItem_list_slice ht.isList hs pl d .none (by simp) ?_ (by simp_all);rw[wR,<-hlen];refine⟨.ref _,_,I.laid (λb j q=>hp9 _ q) (ak _) ?_,W,q _ (I.hok.fresh (ak _))⟩;exact⟨aa (tS l lo hi) f,_,0,(r.drop (HT.jC _ 0 lo)).take (HT.jC _ _ hi - HT.jC _ 0 lo),aH _ W⟩
def zk:j8 X (compareOp .NotIn) (λx y H Q=>∃i j,x=.str i/\y=.str j/\Q (.bl (!(!(jr j i 0 j.length 1).isEmpty))) H):=by
 intro h_ s σ H x y v u Q I b c h;obtain⟨i,j,rfl,rfl,q⟩:=h;obtain⟨t,rfl⟩:=b;obtain⟨d,rfl⟩:=c;exact notIn_str ⟨.bl _,H,I,W,q⟩
def rK:ko X (.builtin "len") (λxs H Q=>∃p g,xs=[.ref p]/\(ng X.K H p g\/tZ X.K H p g)/\Q (.int g.length) H):=by
 intro h_ s σ H xs us Q I r h;obtain⟨p,g,rfl,b,q⟩:=h;obtain⟨u,rfl,d⟩:=vals1 r;cases d;have f:=sP
 rcases b with b|b
 .obtain⟨i,c,pl,e⟩:=I.list b;have hlen:=c.length;exact Calls.call_len_list pl.isList (by simp only[bC]<;>omega) ⟨.int _,H,I.tok _,⟨_,by rw[bC,hlen]⟩,q⟩
 .obtain⟨i,c,pl,e⟩:=I.tuple b;have hlen:=c.length;exact uh pl (by simp only[bC]<;>omega) ⟨.int _,H,I.tok _,⟨_,by rw[bC,hlen]⟩,q⟩
def zR:ko X (.builtin "len") (λxs H Q=>∃z,xs=[.str z]/\z.length<=aE/\Q (.int z.length) H):=by
 intro h_ s σ H xs us Q I r h;obtain⟨z,rfl,b,q⟩:=h;obtain⟨u,rfl,t,rfl⟩:=vals1 r;have c:=sP;exact len_str (by omega) ⟨.int _,H,I.tok _,⟨_,W⟩,q⟩
def qf:ko X (.type "tuple") (λxs H Q=>∃p B,xs=[.ref p]/\((ng X.K H p B/\∀l,H l=L->Q (.ref l) (upd H l (.tup B)))\/(tZ X.K H p B/\Q (.ref p) H))):=by
 intro h_ s σ H xs us Q I r h;obtain⟨p,B,rfl,h⟩:=h;obtain⟨u,rfl,i⟩:=vals1 r;cases i
 rcases h with⟨c,q⟩|⟨c,q⟩
 .obtain⟨k,d,pl,f⟩:=I.list c;have hlen:=d.length;refine call_tuple_list pl.isList (λm kp=>?_) (by grind);have g:Inv X h_ σ H { s with heap:=m }:=I.kept kp
  have j:Inv X h_ σ (upd H _ (.tup B)) { s with heap:=m.push { cls:=.type _,data:=.seq _ } }:=
   g.laid (λb o e=>hp9 _ e) (ak _) (⟨f,_,d,JC _ _⟩)
  exact⟨.ref _,_,j,W,q _ (g.hok.fresh (ak _))⟩
 .obtain⟨k,d,pl,f⟩:=I.tuple c;exact call_tuple_same pl ⟨.ref p,H,I,W,q⟩
def tyV(K:aP)(T:String)(x:V)(H:Hp):Prop:=match x with
 |.str _=>T="str"
 |.int _=>T="int"
 | .ref p=>(T="list"/\∃b,ng K H p b)\/(T="tuple"/\∃o,K.lookup p=Y o/\o.cls=.type "tuple"/\o.dict=L)\/
   T="dict"/\∃c,H p=Y (.dK c)
 |_=>False
def JL{T:String}(I:Inv X h_ σ H s)(r:RelV x v)(ty:tyV X.K T x H) :
  s.TypeIs v T/\∀a,v=.ref a->∃B,s.heap.get? a=Y B/\B.dict=L:=by
 cases x with
 |str z=>
   obtain⟨t,rfl⟩:=r;cases(ty);exact⟨typeIs_str s z t,λ_ e=>nomatch e⟩
 |int i=>
   obtain⟨t,rfl⟩:=r;cases(ty);exact⟨typeIs_int s i t,λ_ e=>nomatch e⟩
 |ref p=>
   cases r
   rcases ty with⟨rfl,h,b⟩|⟨rfl,o,hk,hc,hd⟩|⟨rfl,j,hk⟩
   .obtain⟨f,_,pl,_⟩:=I.list b;refine⟨pl.isList.typeIs,λa e=>?_⟩;cases e;obtain⟨o,n,e,c,hd,_⟩:=pl;exact⟨o,e,hd⟩
   .refine⟨⟨o,I.F7 p o hk,hc⟩,λa e=>?_⟩;cases e;exact⟨o,I.F7 _ o hk,hd⟩
   .refine ac λ_ d=>?_;obtain⟨_,_,_,_,o,_,_,e,ex,_⟩:=I.hok p _ hk;refine d ?_;refine⟨⟨o,e,ex.1⟩,λa g=>?_⟩;cases g;exact⟨o,e,ex.2.1⟩
 |_=>exact jf ty
def X6(K:aP)(T:String)(r:V->List V->Hp->VK->Prop)(to:TE):TE:=λσ H Q=>to σ H λx b=>tyV K T x b/\r x [] b Q
def Ta(K:aP)(T:String)(r:V->List V->Hp->VK->Prop)(to:TE)(t:TA):TE:=λσ H Q=>to σ H λx b=>tyV K T x b/\t σ b λc d=>r x c d Q
variable{apos cpos:wo}{T id:String}
def U2(C:PlainAttrs T)(slot:Jw T name id)(F:typeOf (.builtin id)=pure (.type "method_descriptor"))(P:Q5 X id r)(ho:PE X o to)
  (B:attributeBase o name X.env (eval o X.env)=eval o X.env)(O:(apos.endLine == cpos.line)=U):PE X (.Call (.Attribute o name apos) [] [] cpos) (X6 X.K T r to):=by
 intro h_ s σ H Q I h;refine wpAny_Call_method0_late B O (iN (ho h_ s σ H _ I h) λv s1 g=>?_);obtain⟨x,d,b,c,ty,e⟩:=g;exact⟨T,id,C,slot,F,(JL b c ty).1,(JL b c ty).2,oJ W (PySem.evalArgs_none (P h_ s1 σ d x [] v [] Q b c .nil e))⟩
def vx(R:PlainAttrs T)(slot:Jw T name id)(P:typeOf (.builtin id)=pure (.type "method_descriptor"))(S:Q5 X id r)(ho:PE X o to)(ha:PA X (e::es) t)
  (O:attributeBase o name X.env (eval o X.env)=eval o X.env)
  (C:((backTo cpos (aO (e::es) X.env)).all (λx=>!x.1) && (backToKw cpos (keywordEach [] X.env)).all (λx=>x.1.isSome)
   && decide (Z (e::es)+Z ([]:List Keyword)+(if([]:List Keyword).isEmpty then 0 else 1)<30))=U:=by rfl)
  (F:(apos.endLine == cpos.line)=U:=by rfl)(hs:aO (e::es) X.env=(J,eval e X.env)::aO es X.env:=by rfl)(B:(backTo cpos (aO es X.env)).any (·.1)=J:=by rfl) :
  PE X (.Call (.Attribute o name apos) (e::es) [] cpos) (Ta X.K T r to t):=by
 intro h_ s σ H Q I h;refine wpAny_Call_method_late O C F W (iN (ho h_ s σ H _ I h) λv s1 l=>?_);obtain⟨x,f,b,c,ty,g⟩:=l;refine⟨T,id,R,slot,P,(JL b c ty).1,(JL b c ty).2,?_⟩;have d:=ha cpos h_ s1 σ f _ b g;rw[hs]at d ⊢;exact oJ (by show(J || (backTo _ (aO es _)).any _)=J;rw[B]<;>rfl) (Calls.evalArgs_plain (iN d λus s2 ⟨vs,m,i,j,k⟩=>S h_ s2 σ m x vs v us Q i c j k))
end
def MtM(X:Cx)(B:String)(r:V->List V->Hp->VK->Prop):Prop:=
 ∀(h_:List (aL×lD))(s:ai)(σ:St)(H:Hp)(x:V)(a:List V)(v:ah)(us:List ah)(Q:VK),Inv X h_ σ H s->RelV x v->cV a us->r x a H Q->
  aF (aG X.prog X.w) X.A (call (.builtin B) (v::us)) (EP X h_ σ Q) X.xe s
def cV.one(h:cV [x] us):∃u,us=[u]/\RelV x u:=by
 cases h with
 |cons r t=>cases t;exact⟨_,W,r⟩
theorem cV.reverse(h:cV xs us):cV xs.reverse us.reverse:=by
 induction h with
 |nil=>exact .nil
 |cons r t a=>rw[nj,nj];exact cV.append a (.cons r .nil)
section
def Inv.Y3{its B:List ah}(I:Inv X h_ σ H s)(O:H l=Y (.lst xs))
  (e:s.heap.get? l=Y { cls:=.type "list",data:=.seq its.toArray n })(hf:f its.toArray=B.toArray)(g:cV F B)(C:Z F<=aE) :
  Inv X h_ σ (upd H l (.lst F)) { s with heap:=s.heap.update l (eZ f),toks:=t' }:=by
 have q:=PySem.IsL.update e f;rw[hf]at q;exact I.write (by rw[O];exact trivial) (λb u hb a=>(dM _ _ (cu hb)).trans a) ⟨_,q⟩ ⟨C,B,_,g,q⟩
def Inv.Y6(I:Inv X h_ σ H s)(B:cV g its)(O:Z g<=aE) :
  Inv X h_ σ (upd H s.heap.objs.size (.lst g)) { s with heap:=s.heap.push { cls:=.type "list",data:=.seq its.toArray },toks:=t' }:=
 I.laid (λ_ _ q=>hp9 _ q) (ak _) ⟨O,_,0,B,aH _ W⟩
def Inv.fresh(I:Inv X h_ σ H s):H s.heap.objs.size=L:=I.hok.fresh (ak _)
def Inv.P6(I:Inv X h_ σ H s)(B:H l=Y (.lst xs)):Z xs<=aE/\∃(its:List ah) (n:Nat),cV xs its/\Z xs=Z its/\s.heap.get? l=Y { cls:=.type "list",data:=.seq its.toArray n }:=by
 obtain⟨z,its,n,r,e⟩:=I.hok l _ B;exact⟨z,_,n,r,r.length,e⟩
def Lh(h:n<=aE):jb n=J:=by
 exact decide_eq_false (λz=>(a7 z h))
end
section
def Fq:V->List V->Hp->VK->Prop:=λx vs H Q=>∃l a y,x=.ref l/\vs=[y]/\H l=Y (.lst a)/\Z a<aE/\Q .non (upd H l (.lst (a++[y])))
def sH:MtM X "list.append" Fq:=by
 intro h_ s σ H x vs v us Q I b c h;refine ac λ_ g=>?_;obtain⟨l,j,y,rfl,rfl,a,d,q⟩:=h;cases b;obtain⟨u,rfl,f⟩:=c.one;obtain⟨z,i,n,r,hl,e⟩:=I.P6 a;refine g ?_;refine PySem.call_meets jw ⟨_,e,W⟩ F.entry_list_append (F.args_list_append_2 _ _) (PySem.list_append l _ n u (by simp_all)) ⟨e,?_⟩;refine⟨.non,_,I.Y3 a e (by simp) (r.append (.cons f .nil)) ?_,W,q⟩;rwa[aj]
def aa0:R2:=λx y H Q=>∃l b c a,x=.ref l/\y=.ref b/\H l=Y (.lst c)/\H b=Y (.lst a)/\Z c+Z a<=aE/\∀p,H p=L->Q (.ref p) (upd H p (.lst (c++a)))
def Vf:j8 X (binaryOp .Add) aa0:=by
 intro h_ s σ H x y v u Q I c d h;refine ac λ_ w=>?_;obtain⟨l,b,C,m,rfl,rfl,f,g,o,q⟩:=h;cases c;cases d;obtain⟨z,A,n,r,hl,e⟩:=I.P6 f;obtain⟨p,a,t,i,j,B⟩:=I.P6 g;refine w ?_;refine PySem.P.add_list e B ?_ (by simp_all);have k:A.toArray++a.toArray=(A++a).toArray:=by simp
 rw[k];exact⟨.ref _,_,I.Y6 (r.append i) (by rw[aj];omega),W,q _ I.fresh⟩
end
section
end
section
end
end L2
namespace Att
open PySem PySem.W PySem.Calls PyProof.Rows
def uc:∀(ns:List Int)(vs:List ah),WellAll P h vs (ns.map WData.int)->CD vs ns:=by
 intro ns
 induction ns with
 |nil=>
   intro vs w;cases w;exact .nil
 |cons n ns c=>
   intro vs w
   cases w with
   |cons a b=>
     cases a;exact .cons _ _ (c _ b)
def HC{l:jA}(g:l.most=Y n)
  (B:l.row.toRowW.claim.pre args=U)(O:WellAll P h vals args) :
  ∃a vs ns,vals=[dn a]/\args=[WData.list (ns.map WData.int)]/\h.get? a=Y { cls:=.type "list",data:=.seq vs.toArray }/\CD vs ns/\Z ns<=n:=by
 obtain⟨d,r,rfl,h1,h2⟩:=hasAllW_cons ((pre_splitW B).1);obtain rfl:=hasAllW_nil h2;obtain⟨i,rfl,h3⟩:=hasW_list h1;obtain⟨ns,rfl⟩:=items_int h3
 have hlen:Z ns<=n:=by
  have c:(WTm.not (.lt (.lit (.int (n))) (.len (.arg 0)))).holds [] { args:=[.list (ns.map .int)] }=U:=by
   have c:=(holds_andW ((pre_splitW B).2)).1;rwa[g]at c
  have j:=condW_of c (w_not (w_lt w_lit (w_len_list (w_arg W))))
  simp_all
 cases O with
 |cons e f=>
   cases f
   cases e with
   |list ho b=>exact⟨_,_,ns,W,W,ho,uc ns _ b,hlen⟩
def HW(l:jA)(args:List WData):l.row.toRowW.claim.post args (.bool U) args=U:=
 postW_of
  (by first|rfl|decide|simp)
  (w_eq_bool (w_res W) w_lit) W
def Cr{l:jA}{d:DefRec}
  (R:l.most=Y n)(C:d.params.defaults=[])
  (call:∀(w:c6)(s₀ F:ai)(mg P:aW->Option ah)(B:aL)(o:lD)(pm O doc:ah)(a:aL)(vs:List ah)(ns:List Int),
   Ground q loose [] S w s₀ mg P F.heap->YP w F.heap->
   F.heap.get? B=Y o->o.data=.func (docDef d.name d.params d.body d.scope pm O doc)->F.heap.CodeRec O d.name->mg d.name=Y (.ref B)->
   F.heap.get? a=Y { cls:=.type "list",data:=.seq vs.toArray }->CD vs ns->Z ns<=n->F.gens=#[]->
   codeAny (aG l.prog w) callerA (.call (.ref B) ⟨[.ref a],[]⟩) (λr I=>r=.ok (.ret (.bool U))/\OldK F.heap I.heap/\I.os=F.os/\oT I.gens) F) :
  wM q loose S YP l.row.toRowW d [] (λf vs=>G9 f vs):=by
 intro w s₀ F mg P G y B o pm O doc k kV ho hd e i g m args vals as b j p h s;refine ac λ_ x=>?_;obtain rfl:k=.none:=Dflts.none i C;obtain rfl:kV=.none:=Dflts.noKw i;obtain⟨a,vs,ns,rfl,rfl,c,hints,hlen⟩:=HC R b h;refine x ?_;refine enter_call (kY (call w _ _ mg P B o pm O _ a vs ns G y ho (fd_plain hd) e g c hints hlen m) λr I t=>?_);obtain⟨rfl,h2,h3,u⟩:=t;exact⟨.inl ⟨_,_,[],W,λ_=>W,.bool U,HW l _,λ_=>⟨xC,λ_ v=>(nomatch v)⟩⟩,h2,h3,u⟩
section
variable{K:aP}
end
end Att
namespace L2
open PySem PySem.Spec PyProof.Rows
theorem xE{vs:List ah}{ns:List Int}(h:CD vs ns):cV (ns.map V.int) vs:=by
 induction h with
 |nil=>exact .nil
 |cons n t _ i=>exact .cons ⟨t,W⟩ i
def Xl(H:Hp):Prop:=∀b,H b=L\/∃o a,H b=Y (.lZ o (.lst a))
def LL{K:aP}{S:ai}{vs:List ah}
  (KX:K.In S.heap)(O:S.heap.Ns mainGlobals mg)(hb:S.heap.Ns builtinsNs mb)(I:∀x:aW,x≠"__name__"->mb x=bootBuiltins x)(R:S.heap.NoLimit)(hg:S.gens=#[])
  (ha:S.heap.get? a=Y { cls:=.type "list",data:=.seq vs.toArray })(hi:CD vs ns)(hl:Z ns<=aE)(hr:lJ k callerA)
  (F:∀base:cx,K.In base->base.Ns mainGlobals mg->lK P w K mg base CX k fa fd [x] sp)(B:∀(s:ai)(u:ah),CC s fd ⟨[u],[]⟩ [(x,u)])
  (hsp:∀H:Hp,Xl H->ng K H a (ns.map V.int)->sp [.ref a] H (λv _=>v=.bl U) λ_ _ _=>False)
  (hCX:∀H e s',CX [] H S (λ_ _ _=>False) e s'->False) :
  codeAny (aG P w) callerA (.call (.ref fa) ⟨[.ref a],[]⟩) (λr s'=>r=.ok (.ret (.bool U))/\OldK S.heap s'.heap/\s'.os=S.os/\oT s'.gens) S:=by
 have y:=xE hi;have core:∀H:Hp,Xl H->ng K H a (ns.map V.int)->t4 P w H S.heap->(∀b,H b≠L->b=a)->(H a≠L->K.lookup a=L)->
   codeAny (aG P w) callerA (.call (.ref fa) ⟨[.ref a],[]⟩) (λr s'=>r=.ok (.ret (.bool U))/\OldK S.heap s'.heap/\s'.os=S.os/\oT s'.gens) S:=by
  intro H A D hok C E;have c:∀{b:aL}{o:lD},S.heap.get? b=Y o->H b=L->(BH _ H).get? b=Y o:=λe n=>L8 e n
  have l:∀{b:aL}{o:lD}{G:Array _}{Q:Nat},S.heap.get? b=Y o->o.data=.dict G Q->H b=L:=λ{b o G Q}e d=>by
   cases q:H b with
   |none=>rfl
   |some u=>
     have p :=C b (by rw[q];simp);subst p;rw[ha]at e;cases e;cases d
  have f:∀{b:aL}{m:aW->Option ah},S.heap.Ns b m->(BH _ H).Ns b m:=λ{b m} ⟨o,G,Q,e,d,r⟩=>⟨o,G,Q,c e (l e d),d,r⟩
  have i :=λb o e=>c (KX b o e) (by
   cases q:H b with
   |none=>rfl
   |some u=>
     have p :=C b (by rw[q];simp);subst p
     rw[E (by rw[q];simp)]at e;cases e)
  refine kY ((F _ i (f O)).run _ [] _ H ⟨_,[]⟩ _ [.ref a] _ _ hr ⟨W,(⟨i,f O,⟨mb,f hb,I⟩,let ⟨X,h1,h2⟩:=R;⟨X,f h1,h2⟩⟩),λb o e=>PC e,ae (ID _ _),trivial,λb hb=>absurd (show b∈([])from hb) (by simp),hok,.of_eq hg⟩ (B _ _) (.cons W .nil) (hsp H A D)) λr s' h=>?_
  cases r with
  |error e=>exact(hCX H e s' h).elim
  |ok fl=>
    cases fl with
    |next=>exact jf h
    |brk=>exact jf h
    |cont=>exact jf h
    |ret u=>
      refine ac λ_ g=>?_;obtain⟨v,H',os,bare,un,j,J',rfl⟩:=h;obtain rfl:u=Value.bool U:=J';refine g ?_;refine⟨W,OldK.of_keep λb o e=>?_,os,bare⟩
      cases q:H b with
      |none=>exact un.keep b o e q (by intro z;exact absurd (show b∈([])from z) (by simp)) (by simp)
      |some u=>
        rcases A b with z|⟨M,xs,z⟩
        .rw[q]at z;cases z
        .have N:=un.frzs b M _ z;obtain⟨T,_⟩:=hok b _ z;rw[e]at T;cases T;exact (j b _ N).1
 cases hk:K.lookup a with
 |some o=>
   have e:=KX a o hk;rw[ha]at e;refine ac λ_ g=>?_;cases e;refine g ?_;refine core _ (λ_=>.inl W) (.inr ⟨_,_,_,hk,W,W,W,by rwa[bC,hi.length],by simpa using y⟩) (λb u z=>by cases z) (λb z=>absurd rfl z) λz=>absurd rfl z
 |none=>
   refine core (λb=>if b=a then Y (.lZ { cls:=.type "list",data:=.seq vs.toArray } (.lst (ns.map _)))else L) (λb=>?_) (.inl (.inr ⟨{ cls:=.type _,data:=.seq _ },if_pos W⟩)) (λb u z=>?_) (λb z=>?_) λ_=>hk
   .by_cases hb:b=a
    .exact .inr ⟨_,_,if_pos hb⟩
    .exact .inl (if_neg hb)
   .by_cases hb:b=a
    .have t:=(if_pos hb).symm.trans z;cases t;subst hb;exact⟨ha,by simp_all,vs,_,y,ha⟩
    simp_all
   simp_all
noncomputable abbrev KOf{K:aP}{h:cx}(_:K.In h):aP:=K
def N3{l:jA}{n k:Nat}{q:cg}{loose:List aW}{XP:(aW->Option ah)->cx->Prop}{YP:c6->cx->Prop}{d:DefRec}{K:Params->aP}{CX:c6->XQ}{sp:c6->Sp}{x:aW}
  (hn:l.most=Y n)(O:n<=aE)(C:d.params.defaults=[])(hr:lJ k callerA)
  (hY:∀(w:c6)(h:cx),YP w h->(K w.params).In h)
  (F:∀(w:c6)(mg:aW->Option ah)(B:aL)(h:cx),(K w.params).In h->h.Ns mainGlobals mg->mg d.name=Y (.ref B)->
   ∃I:j9,(∀(s:ai)(u:ah),CC s I ⟨[u],[]⟩ [(x,u)])/\
    ∀base:cx,(K w.params).In base->base.Ns mainGlobals mg->lK l.prog w (K w.params) mg base (CX w) k B I [x] (sp w))
  (P:∀(w:c6)(H:Hp)(a:aL)(ns:List Int),Z ns<=n->Xl H->ng (K w.params) H a (ns.map V.int)->sp w [.ref a] H (λv _=>v=.bl U) λ_ _ _=>False)
  (R:∀(w:c6)(H:Hp)(s:ai)(e:ah)(S:ai),CX w [] H s (λ_ _ _=>False) e S->False) :
  wM q loose XP YP l.row.toRowW d [] (λf vs=>G9 f vs):=by
 refine Att.Cr hn C λw s₀ D mg E B o pm z doc a vs ns G A ho hd m i c hints hlen p=>?_;have j:=hY w _ A;obtain⟨I,hb,r⟩:=F w mg B _ j G.T.g i;exact LL j G.T.g G.T.b G.T.builtins G.T.nolimit p c hints (aa hlen O) hr r hb (λH t y=>P w H a ns hlen t y) λH e S=>R w H _ e S
end L2
namespace L2
open PySem PySem.Spec PyProof.Rows
noncomputable def zJ(s:kZ):Arguments:=match s with
 |.FunctionDef _ a _ _ _ _ _ _ _ _=>a
 |_=>{ posonlyargs:=[],args:=[],vararg:=L,kwonlyargs:=[],kw_defaults:=[],kwarg:=L,defaults:=[] }
noncomputable def mP(s:kZ):List kZ:=match s with
 |.FunctionDef _ _ b _ _ _ _ _ _ _=>b
 |_=>[]
noncomputable def dz(s:kZ):m9:=match s with
 |.FunctionDef _ _ _ _ _ _ sc _ _ _=>sc
 |_=>{ kind:=.function,names:=[],isGenerator:=J,isCoroutine:=J }
abbrev yA:XQ:=λ_ _ _ _ _ _=>False
abbrev E0:XK:=λ_ _ _=>False
def K5:Aa yA X E0:=λ_ _ _ _ _ _ _ h=>h.elim
structure Z6(K:aP)(x qual:aW)(st:kZ)(f:aL)(fd:j9):Prop where
 ex:∃(oc:ah) (od:Option aL) (kV doc pm:ah) (an:Option aL) (cdv ct:ah) (osl:Array (Option ah)),
  fd=qK x qual (zJ st) (mP st) (dz st) .none kV doc pm an cdv ct/\K.lookup f=Y ⟨oc,od,.func fd,osl⟩/\uM K cdv qual=U
 kp:eY K (.ref f)=U
section
variable{K:aP}{base:cx}
def Z6.ok{st:kZ}(F:Z6 K x qual st f fd)(S:pX N ps (dz st))(len:∀vs H Q E,sp vs H Q E->Z vs=Z ps)
  (B:∀(cdv:ah)(A:bT)(outer:List Nf)(s:ai)(H:Hp)(vs:List V)(Q:VK)(E:XK),lJ k (A.deeper (envOfC qual (dz st) s.heap.objs.size f cdv))->sp vs H Q E->
   ∃t,Am (xj yA P w K mg base N qual (dz st) f cdv A outer s H E).RK (mP st) t/\t { nx:=λ_ g=>Q .non g,rt:=Q } (start N vs) H):lK P w K mg base yA (k+1) f fd ps sp:=by
 refine ac λ_ e=>?_;obtain⟨oc,od,kV,doc,pm,an,cdv,ct,osl,rfl,c,a⟩:=F.ex;refine e ?_;refine Zv c a S len λA outer s H vs Q E d b=>?_;obtain⟨t,h,q⟩:=B _ A _ s H vs Q E d b;exact⟨t,h.RK,q⟩
end
section
end
def DW{A B:Prop}(h:B):if J=U then A else B:=by
 exact h
def DV{A B:Prop}(h:A):if U=U then A else B:=by
 exact h
def cc(H g:Hp):Prop:=∀b o,H b=Y o->g b=Y o
def cc.refl(H:Hp):cc H H:=λ_ _ h=>h
def cc.trans(a:cc H g)(b:cc g B):cc H B:=λc o h=>b c o (a c o h)
def cc.free(e:cc H g)(h:g l=L):H l=L:=by
 cases q:H l with
 |none=>rfl
 |some o=>
   rw[e l o q]at h;cases h
def cc.seq{K:aP}(e:cc H g)(h:ng K H a xs):ng K g a xs:=by
 rcases h with(h|⟨o,h⟩)|h
 .exact .inl (.inl (e _ _ h))
 .exact .inl (.inr ⟨o,e _ _ h⟩)
 .exact .inr h
section
variable{κ:Type}[DecidableEq κ]
noncomputable def o7(g:List (κ×V))(k:κ):Option V:=(g.find? λa=>decide (a.1=k)).map (·.2)
noncomputable def putK(g:List (κ×V))(k:κ)(v:V):List (κ×V):=
 if(g.any λa=>decide (a.1=k))=U then g.map (λa=>if a.1=k then(a.1,v)else a)else g++[(k,v)]
def AE{p:κ×V}{r:List (κ×V)}{k:κ}(e:p.1=k):o7 (p::r) k=Y p.2:=by simp[o7,e]
def uX{p:κ×V}{r:List (κ×V)}{k:κ}(e:¬p.1=k):o7 (p::r) k=o7 r k:=by simp[o7,e]
def Bw(g:List (κ×V))(k:κ)(v:V):Z (putK g k v)<=Z g+1:=by
 unfold putK;split
 .simp
 simp
def Cz.Iz(r:Cz o u):o.isSome=u.isSome:=by
 cases o with
 | none=>cases u with
   |none=>rfl
   |some _=>exact(r).elim
 | some _=>cases u with
   |none=>exact(r).elim
   |some _=>rfl
theorem Cz.getD(r:Cz o u)(B:RelV d g):RelV (o.getD d) (u.getD g):=by
 cases o with
 | none=>cases u with
   |none=>exact B
   |some _=>exact(r).elim
 | some _=>cases u with
   |none=>exact(r).elim
   |some _=>exact r
def KV.val(r:KV g vs)(k:κ):Cz (o7 g k) (valueAt vs k):=by
 induction r with
 |nil=>exact oP
 | @cons p q ps a h t d=>
   obtain⟨h1,h2⟩:=h;by_cases e:p.1=k
   .have c :=h1.symm.trans e;have b:valueAt (q::a) k=Y q.2:=by simp[valueAt,c]
    rwa[AE e,b]
   .have c:¬q.1=k:=λz=>e (h1.trans z);have b:valueAt (q::a) k=valueAt a k:=by simp[valueAt,c]
    rwa[uX e,b]
theorem KV.any(r:KV g vs)(k:κ):(g.any λB=>decide (B.1=k))=vs.any λB=>decide (B.1=k):=by
 induction r with
 |nil=>rfl
 |cons h t a=>simp_all
def KV.aaT(r:KV g vs)(k:κ)(O:RelV y u) :
  KV (g.map λB=>if B.1=k then(B.1,y)else B) (vs.map λB=>if B.1=k then(B.1,u)else B):=by
 induction r with
 |nil=>exact .nil
 | @cons p q ps b h t a=>
   rw[aA];refine .cons ?_ a;by_cases e:p.1=k
   .simp_all
   simp_all
def KV.put(r:KV g vs)(k:κ)(B:RelV y u):KV (putK g k y) (stored vs k u):=by
 unfold putK stored;rw[r.any k];by_cases e:(vs.any λa=>decide (a.1=k))=U
 .rw[if_pos e,if_pos e];exact r.aaT k B
 .rw[if_neg e,if_neg e];exact Paired.snoc r ⟨W,B⟩
def KV.length{g:List (κ×V)}{vs:List (κ×ah)}(r:KV g vs):Z g=Z vs:=xq r
end
def vO(r:RelV (kV k) u):(dm P w).is k u=U:=by
 cases k with
 |inl i=>obtain⟨t,rfl⟩:=(r);exact Bp P w i t
 |inr x=>obtain⟨t,rfl⟩:=(r);exact Bo P w x t
section
def Yt(ok:t4 P w H h)(e:Rd H a u):kU P w H h a u:=e.ok ok
def yo(ok:t4 P w H h)(e:Rd H a (.dK g)):Z g<=aE/\(a == sysModules)=J/\∃vs,KV g vs/\h.DictOf (dm P w) a vs:=
 Yt ok e
def ZF(ok:t4 P w H h)(e:H a=Y (.dK g)):Z g<=aE/\(a == sysModules)=J/\∃vs,KV g vs/\h.DictOf (dm P w) a vs:=yo ok (.inl e)
end
def tf(H:Hp)(a:aL)(y:V)(r:Option V):Prop:=∃b k,Rd H a (.dK b)/\y=kV k/\r=o7 b k
def Q8(H:Hp)(a:aL)(y v:V)(g:Hp):Prop:=∃b k,H a=Y (.dK b)/\y=kV k/\Z b<aE/\g=upd H a (.dK (putK b k v))
def tf.k{H:Hp}{a:aL}{g:List (Key×V)}{k:Key}(e:H a=Y (.dK g)):tf H a (kV k) (o7 g k):=⟨g,k,.inl e,W,W⟩
def Q8.k{H:Hp}{a:aL}{g:List (Key×V)}{k:Key}{v:V}(e:H a=Y (.dK g))(hl:Z g<aE):Q8 H a (kV k) v (upd H a (.dK (putK g k v))):=⟨g,k,e,W,hl,W⟩
section
def Inv.big(I:Inv X h_ σ H s):sysModules<s.heap.objs.size:=by
 exact cT bR ((I.mod.glob.keeps I.bk).lt)
def yp(I:Inv X h_ σ H s)(g:tf H a y (Y v))(O:RelV y u)(h:∀B C,Inv X h_ σ H C->RelV v B->Q B C) :
  aF (aG X.prog X.w) A (getItem (.ref a) u) Q E s:=by
 refine ac λ_ d=>?_;obtain⟨j,k,e,rfl,l⟩:=g;obtain⟨z,hd,vs,b,f⟩:=yo I.hok e;obtain⟨B,i,c⟩:=Cz.some_of (by rw[l];exact b.val k);refine d ?_;exact wpAny_getItem_of (vO O) f.mapOf i (h B _ (I.tok _) c)
def abD(I:Inv X h_ σ H s)(g:tf H a y o)(B:RelV y u)(h:∀C,Inv X h_ σ H C->Q (.bool o.isSome) C) :
  aF (aG X.prog X.w) A (compareOp .In u (.ref a)) Q E s:=by
 refine ac λ_ c=>?_;obtain⟨f,k,e,rfl,l⟩:=g;obtain⟨z,hd,vs,b,d⟩:=yo I.hok e;refine c ?_;refine wpAny_in_of (vO B) hd d.mapOf ?_;rw[<-(b.val k).Iz,<-l];exact h _ (I.tok _)
def QG(I:Inv X h_ σ H s)(B:Mut (H a))(hs:cP a s.heap g)(he:∃q,g.get? a=Y q)(new:kU X.prog X.w (upd H a C) g a C) :
  Inv X h_ σ (upd H a C) { s with heap:=g,toks:=t' }:=
 I.write B (λb q hb z=>(hs.2 b hb).trans z) he new
def WG{C:cx}{g:List (Key×V)}(z:Z g<=aE)(hd:(a == sysModules)=J)(rel:KV g vs)(B:C.DictOf (dm P w) a vs) :
  kU P w F C a (.dK g):=⟨z,hd,vs,rel,B⟩
def IM(I:Inv X h_ σ H s)(g:Q8 H a y v F)(B:RelV y u)(O:RelV v r)(h:∀C,Inv X h_ σ F C->Q () C) :
  aF (aG X.prog X.w) A (setItem (.ref a) u r) Q E s:=by
 refine ac λ_ m=>?_;obtain⟨n,k,e,d,l,f⟩:=g;subst d f;obtain⟨z,hd,vs,b,i⟩:=ZF I.hok e;refine m ?_;have j:Z vs<=aE:=by rwa[<-b.length]
 refine wpAny_setItem_pairs (vO B) i λp c hs=>h _ ?_;exact QG I (by rw[e];exact oP) hs (let ⟨q,_,_,o,_⟩:=c;⟨q,o⟩) (WG (aa (Bw n k v) l) hd (b.put k O) c)
end
section
def ZG(I:Inv X h_ σ H s)(e:Rd H a (.dK B))(h:∀t g,Inv X h_ σ H g->Q (.int B.length t) g):aF (aG X.prog X.w) A (call (.builtin "len") [.ref a]) Q E s:=by
 obtain⟨z,hd,vs,rel,b⟩:=yo I.hok e;refine call_len_dict hd b (by rw[<-rel.length];exact fU (fJ.mpr z) bR) ?_;rw[<-rel.length];exact h _ _ (I.tok _)
end
def tR(I:Inv X h_ σ H s)(g:tf H a y o):s.TypeIs (.ref a) "dict":=by
 obtain⟨c,k,e,_,_⟩:=g;obtain⟨_,_,vs,_,b⟩:=yo I.hok e;exact b.typeIs
section
end
def MA(h:cx)(hb:sysModules<h.objs.size):kU P w H (h.push { cls:=.type "dict",data:=.dict #[] }) h.objs.size (.dK []):=
 ⟨aK _,beq_eq_false_iff_ne.mpr (cu (a9 hb)),[],.nil,Heap.DictOf.new h⟩
def S8:TE:=λ_ H Q=>∀p,H p=L->Q (.ref p) (upd H p (.dK []))
section
def K3:PE X (.Dict [] [] pos) S8:=λh_ s σ H Q I h=>
 wpAny_Dict_empty ⟨.ref _,_,I.laid (λ_ _ q=>hp9 _ q) (ak _) (MA _ I.big),W,h _ (I.hok.fresh (ak _))⟩
end
section
def WK(I:Inv X h_ σ H s)(g:tf H a y o)(O:RelV y u)(C:RelV d r)(h:∀B P,Inv X h_ σ H P->RelV (o.getD d) B->Q B P) :
  aF (aG X.prog X.w) A (call (.builtin "dict.get") [.ref a,u,r]) Q E s:=by
 refine ac λ_ f=>?_;obtain⟨i,k,e,rfl,l⟩:=g;obtain⟨z,hd,vs,b,c⟩:=yo I.hok e;refine f ?_;refine call_meetsIn Ae c.typeIs PySem.F.entry_dict_get (PySem.F.args_dict_get_3 ..) (meets_dict_get_default (dm _ _) a (vO O) hd r) ⟨_,c.mapOf,h _ _ (I.tok _) ?_⟩;rw[l];exact(b.val k).getD C
end
section
end
section
end
section
end
end L2
namespace M
open PySem PySem.Spec PyProof.Rows L2
set_option genInjectivity true in
inductive Dat where
 |non|bl (b:Bool)|int (i:Int)|str (x:aW)|tup (xs:List Dat)|lst (xs:List Dat)|dct (ks:List Key) (vs:List Dat)|any
 deriving Inhabited
abbrev Fg:=aP
def Tq(K:Fg)(F:Hp)(a:aL)(vs:List V):Prop:=F a=Y (.tup vs)\/∃(o:lD) (b:Array ah) (n:Nat),K.lookup a=Y o/\o.cls=.type "tuple"/\o.data=.seq b n/\b.size<=aE/\cV vs b.toList
def Tq.sq{K:Fg}(h:Tq K F a vs):tZ K F a vs:=by
 rcases h with h|h
 .exact .inl (.inl h)
 .exact .inr h
def Tq.mono{K:Fg}(s:cc F g)(h:Tq K F a vs):Tq K g a vs:=by
 rcases h with h|h
 .exact .inl (s _ _ h)
 .exact .inr h
def Z4(K:Fg)(F:Hp):List N2->List V->Prop
 |[],vs=>vs=[]
 |.inl k::a,vs=>∃r,vs=kV k::r/\Z4 K F a r
 |.inr q::a,vs=>∃b r,vs=.ref b::r/\Tq K F b (q.map kV)/\Z4 K F a r
def Z3(K:Fg)(F:Hp):List NK->List V->Prop
 |[],vs=>vs=[]
 |.inl k::a,vs=>∃r,vs=kV k::r/\Z3 K F a r
 |.inr q::a,vs=>∃b r us,vs=.ref b::r/\Tq K F b us/\Z4 K F q us/\Z3 K F a r
def NKy(K:Fg)(F:Hp)(k:List NK)(a:aL):Prop:=∃vs,Tq K F a vs/\Z3 K F k vs
mutual
def Rep(K:Fg)(F:Hp):Dat->V->Prop
 |.non,v=>v=.non
 |.bl b,v=>v=.bl b
 |.int i,v=>v=.int i
 |.str x,v=>v=.str x
 |.tup c,v=>∃a vs,v=.ref a/\Tq K F a vs/\cX K F c vs
 |.lst c,v=>∃a vs,v=.ref a/\ng K F a vs/\cX K F c vs
 |.dct e c,v=>∃a d,v=.ref a/\F a=Y (.dK d)/\d.map (·.1)=e/\cX K F c (d.map (·.2))
 |.any,_=>True
def cX(K:Fg)(F:Hp):List Dat->List V->Prop
 |[],vs=>vs=[]
 |d::a,vs=>∃v r,vs=v::r/\Rep K F d v/\cX K F a r
end
mutual
theorem Rep.mono{K:Fg}(s:cc F g):∀(d:Dat){v:V},Rep K F d v->Rep K g d v
 |.non,_,h=>h
 |.bl _,_,h=>h
 |.int _,_,h=>h
 |.str _,_,h=>h
 |.tup b,_,h=>by obtain⟨a,vs,e,t,r⟩:=h;exact⟨a,vs,e,t.mono s,cX.mono s b r⟩
 |.lst b,_,h=>by obtain⟨a,vs,e,t,r⟩:=h;exact⟨a,vs,e,s.seq t,cX.mono s b r⟩
 |.dct _ b,_,h=>by obtain⟨a,c,e,t,k,r⟩:=h;exact⟨a,c,e,s _ _ t,k,cX.mono s b r⟩
 |.any,_,_=>trivial
theorem cX.mono{K:Fg}(s:cc F g):∀(ds:List Dat){vs:List V},cX K F ds vs->cX K g ds vs
 |[],_,h=>h
 |d::ds,_,h=>by obtain⟨v,r,e,h1,h2⟩:=h;exact⟨v,r,e,Rep.mono s d h1,cX.mono s ds h2⟩
end
theorem cX.length{K:Fg}:∀{ds:List Dat}{vs:List V},cX K F ds vs->Z vs=Z ds
 |[],_,h=>by rw[h];rfl
 |d::ds,_,a=>by obtain⟨v,r,e,_,h2⟩:=a;rw[e,bM,bM,cX.length h2]
theorem cX.get{K:Fg}:∀{ds:List Dat}{vs:List V}{i:Nat}{d:Dat},cX K F ds vs->ds[i]?=Y d->∃v,vs[i]?=Y v/\Rep K F d v
 |[],_,_,_,_,e=>by simp at e
 |d::ds,_,0,_,a,z=>by obtain⟨v,r,rfl,h1,_⟩:=a;simp at z;subst z;exact⟨v,W,h1⟩
 |d::ds,_,i+1,_,a,z=>by
   obtain⟨v,r,rfl,_,h2⟩:=a;obtain⟨w,b,c⟩:=cX.get h2 (by simpa using z);exact⟨w,by simpa using b,c⟩
theorem cX.append{K:Fg}:∀{ds es:List Dat}{vs us:List V},cX K F ds vs->cX K F es us->cX K F (ds++es) (vs++us)
 |[],_,_,_,h,a=>by rw[h];exact a
 |d::ds,_,_,_,b,a=>by obtain⟨v,r,e,h1,h2⟩:=b;subst e;exact⟨v,r++_,W,h1,cX.append h2 a⟩
def cX.one{K:Fg}(h:Rep K F d v):cX K F [d] [v]:=⟨v,[],W,h,W⟩
theorem cX.take{K:Fg}:∀(n:Nat){ds:List Dat}{vs:List V},cX K F ds vs->cX K F (ds.take n) (vs.take n)
 |0,_,_,_=>by simp[cX]
 |n+1,[],_,h=>by rw[h];exact rfl
 |n+1,d::ds,_,a=>by obtain⟨v,r,rfl,h1,h2⟩:=a;exact⟨v,_,W,h1,cX.take n h2⟩
theorem cX.drop{K:Fg}:∀(n:Nat){ds:List Dat}{vs:List V},cX K F ds vs->cX K F (ds.drop n) (vs.drop n)
 |0,_,_,h=>h
 |n+1,[],_,h=>by rw[h];exact rfl
 |n+1,d::ds,_,a=>by obtain⟨v,r,rfl,h1,h2⟩:=a;exact cX.drop n h2
theorem cX.reverse{K:Fg}:∀{ds:List Dat}{vs:List V},cX K F ds vs->cX K F ds.reverse vs.reverse
 |[],_,h=>by rw[h];exact rfl
 |d::ds,_,a=>by obtain⟨v,r,rfl,h1,h2⟩:=a;rw[nj,nj];exact(cX.reverse h2).append (.one h1)
mutual
noncomputable def im:Dat->Bool
 |.lst _=>J
 |.dct _ _=>J
 |.any=>J
 |.tup a=>lW a
 |_=>U
noncomputable def lW:List Dat->Bool
 |[]=>U
 |d::a=>im d && lW a
end
structure Good(F H:Hp):Prop where
 sub:cc F H
 tup:∀a vs,H a=Y (.tup vs)->F a=Y (.tup vs)
structure Step(F H F' H':Hp):Prop where
 good:Good F' H'
 ff:cc F F'
 hh:cc H H'
 un:∀a o,H a=Y o->F a=L->F' a=L
def Step.refl(g:Good F H):Step F H F H:=⟨g,cc.refl _,cc.refl _,λ_ _ _ n=>n⟩
def Step.trans{F1:Hp}(a:Step F H F1 g)(b:Step F1 g B C):Step F H B C:=
 ⟨b.good,a.ff.trans b.ff,a.hh.trans b.hh,λx o h n=>b.un x o (a.hh x o h) (a.un x o h n)⟩
def cc.upd(hp:H p=L):cc H (upd H p o):=λb u e=>by rwa[eh (i4 e hp)]
def Step.alloc(g:Good F H)(hp:H p=L):Step F H (upd F p o) (upd H p o):=by
 have c:F p=L:=by
  cases q:F p with
  |none=>rfl
  |some u=>rw[g.sub p u q]at hp;cases hp
 refine⟨⟨λb u e=>?_,λa vs e=>?_⟩,cc.upd c,cc.upd hp,λa u h n=>?_⟩
 .by_cases hb:b=p
  .subst hb;rwa[cW]at e ⊢
  .rw[eh hb]at e ⊢;exact g.sub b u e
 .by_cases hb:a=p
  .subst hb;rwa[cW]at e ⊢
  .rw[eh hb]at e ⊢;exact g.tup a vs e
 .rwa[eh (i4 h hp)]
noncomputable def shr(F H F1:Hp):Hp:=λa=>match F a,H a with
 |none,Y _=>L
 |_,_=>F1 a
def Ud{F1:Hp}(h:shr F H F1 a=Y o):F1 a=Y o:=by
 unfold shr at h
 cases q:F a with
 |none=>
   cases b:H a with
   |none=>simp_all
   |some u=>simp_all
 |some u=>rwa[q]at h
def Dq{F1:Hp}(h:F a≠L\/H a=L):shr F H F1 a=F1 a:=by
 unfold shr
 cases q:F a with
 |none=>
   simp_all
 |some u=>rfl
def Step.shrink{F1:Hp}(g:Good F H)(s:cc F B)(st:Step B H F1 C):Step F H (shr F H F1) C:=by
 refine⟨⟨λa o e=>st.good.sub a o (Ud e),λa vs e=>?_⟩,λa o e=>?_,st.hh,λa o h n=>?_⟩
 .rw[Dq ?_]
  .exact (st.good.tup a vs e)
  .cases q:H a with
   |none=>exact .inr W
   |some u=>
     have:=st.hh a u q;rw[e]at this;cases this;exact .inl (by rw[g.tup a vs q];simp)
 .rw[Dq (.inl (by rw[e];simp))];exact st.ff a o (s a o e)
 .unfold shr;rw[n,h]
def Tq.shrink{K:Fg}{F1:Hp}(g:Good F H)(st:Step B H F1 C)(h:Tq K F1 a vs):Tq K (shr F H F1) a vs:=by
 rcases h with h|h
 .refine .inl ?_;rw[Dq ?_]
  .exact h
  .cases q:H a with
   |none=>exact .inr W
   |some u=>
     have:=st.hh a u q;rw[st.good.sub a _ h]at this;cases this;exact .inl (by rw[g.tup a vs q];simp)
 .exact .inr h
mutual
theorem Rep.shrink{K:Fg}{F1:Hp}(g:Good F H)(st:Step B H F1 C):∀(d:Dat){v:V},im d=U->Rep K F1 d v->Rep K (shr F H F1) d v
 |.non,_,_,h=>h
 |.bl _,_,_,h=>h
 |.int _,_,_,h=>h
 |.str _,_,_,h=>h
 |.tup b,_,m,⟨a,vs,e,t,r⟩=>⟨a,vs,e,t.shrink g st,cX.shrink g st b m r⟩
 |.lst b,_,m,_=>nomatch m
 |.dct _ _,_,m,_=>nomatch m
 |.any,_,m,_=>nomatch m
theorem cX.shrink{K:Fg}{F1:Hp}(g:Good F H)(st:Step B H F1 C):∀(ds:List Dat){vs:List V},lW ds=U->cX K F1 ds vs->cX K (shr F H F1) ds vs
 |[],_,_,h=>h
 |d::ds,_,m,b=>by
   obtain⟨v,r,e,h1,h2⟩:=b;have a:im d=U/\lW ds=U:=by simpa [lW]using m
   exact⟨v,r,e,Rep.shrink g st d a.1 h1,cX.shrink g st ds a.2 h2⟩
end
mutual
def kL(K:Fg)(H:Hp):Dat->V->List aL->Prop
 |.non,v,S=>v=.non/\S=[]
 |.bl b,v,S=>v=.bl b/\S=[]
 |.int i,v,S=>v=.int i/\S=[]
 |.str x,v,S=>v=.str x/\S=[]
 |.tup c,v,S=>∃a vs,v=.ref a/\Tq K H a vs/\cZ K H c vs S
 |.lst c,v,S=>∃a vs d,v=.ref a/\H a=Y (.lst vs)/\cZ K H c vs d/\S=a::d
 |.dct f c,v,S=>∃a e d,v=.ref a/\H a=Y (.dK e)/\e.map (·.1)=f/\cZ K H c (e.map (·.2)) d/\S=a::d
 |.any,_,S=>S=[]
def cZ(K:Fg)(H:Hp):List Dat->List V->List aL->Prop
 |[],vs,S=>vs=[]/\S=[]
 |d::c,vs,S=>∃v r a b,vs=v::r/\kL K H d v a/\cZ K H c r b/\S=a++b
end
mutual
theorem kL.mono{K:Fg}(s:cc H g):∀(d:Dat){v:V}{S:List aL},kL K H d v S->kL K g d v S
 |.non,_,_,h=>h
 |.bl _,_,_,h=>h
 |.int _,_,_,h=>h
 |.str _,_,_,h=>h
 |.tup b,_,_,h=>by obtain⟨a,vs,e,t,r⟩:=h;exact⟨a,vs,e,t.mono s,cZ.mono s b r⟩
 |.lst b,_,_,h=>by obtain⟨a,vs,c,e,t,r,q⟩:=h;exact⟨a,vs,c,e,s _ _ t,cZ.mono s b r,q⟩
 |.dct _ b,_,_,h=>by obtain⟨a,f,c,e,t,k,r,q⟩:=h;exact⟨a,f,c,e,s _ _ t,k,cZ.mono s b r,q⟩
 |.any,_,_,h=>h
theorem cZ.mono{K:Fg}(s:cc H g):∀(ds:List Dat){vs:List V}{S:List aL},cZ K H ds vs S->cZ K g ds vs S
 |[],_,_,h=>h
 |d::ds,_,_,h=>by obtain⟨v,r,a,b,e,h1,h2,q⟩:=h;exact⟨v,r,a,b,e,kL.mono s d h1,cZ.mono s ds h2,q⟩
end
def Jb:HO->Prop
 |.lst _=>True
 |.dK _=>True
 |_=>False
mutual
theorem kL.ud{K:Fg}:∀(d:Dat){v:V}{S:List aL},kL K H d v S->∀a∈S,∃o,H a=Y o/\Jb o
 |.non,_,_,h=>by rw[h.2];intro a m;cases m
 |.bl _,_,_,h=>by rw[h.2];intro a m;cases m
 |.int _,_,_,h=>by rw[h.2];intro a m;cases m
 |.str _,_,_,h=>by rw[h.2];intro a m;cases m
 |.tup f,_,_,⟨a,vs,e,t,r⟩=>cZ.ud f r
 |.lst f,_,_,c=>by
   obtain⟨a,vs,g,e,t,r,rfl⟩:=c;intro b m
   rcases aw.mp m with rfl|m
   .exact⟨_,t,trivial⟩
   .exact cZ.ud f r b m
 |.dct _ f,_,_,c=>by
   obtain⟨a,i,g,e,t,k,r,rfl⟩:=c;intro b m
   rcases aw.mp m with rfl|m
   .exact⟨_,t,trivial⟩
   .exact cZ.ud f r b m
 |.any,_,S,h=>by rw[h];intro a m;cases m
theorem cZ.ud{K:Fg}:∀(ds:List Dat){vs:List V}{S:List aL},cZ K H ds vs S->∀a∈S,∃o,H a=Y o/\Jb o
 |[],_,_,h=>by rw[h.2];intro a m;cases m
 |d::ds,_,_,c=>by
   obtain⟨v,r,f,g,e,h1,h2,q⟩:=c;subst q;intro b m
   rcases au.mp m with m|m
   .exact kL.ud d h1 b m
   .exact cZ.ud ds h2 b m
end
noncomputable def fz(F H:Hp)(S:List aL):Hp:=λa=>if a∈S then H a else F a
def Gq(h:a∈S):fz F H S a=H a:=if_pos h
def n9(h:a∉S):fz F H S a=F a:=if_neg h
def Ws(g:cc F H):cc (fz F H S) H:=λa o e=>by
 by_cases m:a∈S
 .rwa[Gq m]at e
 .rw[n9 m]at e;exact g a o e
def qw(g:cc F H):cc F (fz F H S):=λa o e=>by
 by_cases m:a∈S
 .rw[Gq m];exact g a o e
 .rwa[n9 m]
def uG(g:Good F H):Good (fz F H S) H:=⟨Ws g.sub,λa vs e=>qw g.sub a _ (g.tup a vs e)⟩
mutual
theorem kL.lZ{K:Fg}(g:Good F H):∀(d:Dat){v:V}{S T:List aL},kL K H d v S->(∀a∈S,a∈T)->Rep K (fz F H T) d v
 |.non,_,_,_,h,_=>h.1
 |.bl _,_,_,_,h,_=>h.1
 |.int _,_,_,_,h,_=>h.1
 |.str _,_,_,_,h,_=>h.1
 |.tup c,_,_,_,f,m=>by
   obtain⟨a,vs,e,t,r⟩:=f;refine⟨a,vs,e,?_,cZ.lZ g c r m⟩
   rcases t with t|t
   .exact .inl (qw g.sub _ _ (g.tup _ _ t))
   .exact .inr t
 |.lst c,_,_,_,f,m=>by
   obtain⟨a,vs,i,e,t,r,rfl⟩:=f;refine⟨a,vs,e,.inl (.inl ?_),cZ.lZ g c r λb hb=>m b (jZ _ hb)⟩;rwa[Gq (m a jL)]
 |.dct _ c,_,_,_,f,m=>by
   obtain⟨a,j,i,e,t,k,r,rfl⟩:=f;refine⟨a,j,e,?_,k,cZ.lZ g c r λb hb=>m b (jZ _ hb)⟩;rwa[Gq (m a jL)]
 |.any,_,_,_,_,_=>trivial
theorem cZ.lZ{K:Fg}(g:Good F H):∀(ds:List Dat){vs:List V}{S T:List aL},cZ K H ds vs S->(∀a∈S,a∈T)->cX K (fz F H T) ds vs
 |[],_,_,_,h,_=>h.1
 |d::ds,_,_,_,b,m=>by
   obtain⟨v,r,c,f,e,h1,h2,q⟩:=b;subst q;exact⟨v,r,e,kL.lZ g d h1 λa ha=>m a (aC _ ha),cZ.lZ g ds h2 λa ha=>m a (aq _ ha)⟩
end
mutual
theorem kL.kQ{K:Fg}(g:cc F H):∀(d:Dat){v:V},im d=U->Rep K F d v->kL K H d v []
 |.non,_,_,h=>⟨h,W⟩
 |.bl _,_,_,h=>⟨h,W⟩
 |.int _,_,_,h=>⟨h,W⟩
 |.str _,_,_,h=>⟨h,W⟩
 |.tup b,_,m,⟨a,vs,e,t,r⟩=>⟨a,vs,e,t.mono g,cZ.kQ g b m r⟩
 |.lst b,_,m,_=>nomatch m
 |.dct _ _,_,m,_=>nomatch m
 |.any,_,m,_=>nomatch m
theorem cZ.kQ{K:Fg}(g:cc F H):∀(ds:List Dat){vs:List V},lW ds=U->cX K F ds vs->cZ K H ds vs []
 |[],_,_,h=>⟨h,W⟩
 |d::ds,_,m,b=>by
   obtain⟨v,r,e,h1,h2⟩:=b;have a:im d=U/\lW ds=U:=by simpa [lW]using m
   exact⟨v,r,[],[],e,kL.kQ g d a.1 h1,cZ.kQ g ds a.2 h2,W⟩
end
mutual
theorem kL.upd{K:Fg}(hp:∀vs,H p≠Y (.tup vs)):∀(d:Dat){v:V}{S:List aL},kL K H d v S->p∉S->kL K (upd H p o) d v S
 |.non,_,_,h,_=>h
 |.bl _,_,_,h,_=>h
 |.int _,_,_,h,_=>h
 |.str _,_,_,h,_=>h
 |.tup f,_,_,c,n=>by
   obtain⟨a,vs,e,t,r⟩:=c;refine⟨a,vs,e,?_,cZ.upd hp f r n⟩
   rcases t with t|t
   .refine .inl ?_;rwa[eh (λz=>hp vs (by rwa[<-z]))]
   .exact .inr t
 |.lst f,_,_,c,n=>by
   obtain⟨a,vs,g,e,t,r,rfl⟩:=c;have b:a≠p:=λz=>n (z▸jL);exact⟨a,vs,g,e,(eh b).trans t,cZ.upd hp f r (λm=>n (jZ _ m)),W⟩
 |.dct _ f,_,_,c,n=>by
   obtain⟨a,i,g,e,t,k,r,rfl⟩:=c;have b:a≠p:=λz=>n (z▸jL);exact⟨a,i,g,e,(eh b).trans t,k,cZ.upd hp f r (λm=>n (jZ _ m)),W⟩
 |.any,_,_,h,_=>h
theorem cZ.upd{K:Fg}(hp:∀vs,H p≠Y (.tup vs)):∀(ds:List Dat){vs:List V}{S:List aL},cZ K H ds vs S->p∉S->cZ K (upd H p o) ds vs S
 |[],_,_,h,_=>h
 |d::ds,_,_,a,n=>by
   obtain⟨v,r,b,c,e,h1,h2,q⟩:=a;subst q;exact⟨v,r,b,c,e,kL.upd hp d h1 (λm=>n (aC _ m)),cZ.upd hp ds h2 (λm=>n (aq _ m)),W⟩
end
theorem cZ.length{K:Fg}:∀{ds:List Dat}{vs:List V}{S:List aL},cZ K H ds vs S->Z vs=Z ds
 |[],_,_,h=>by rw[h.1];rfl
 |d::ds,_,_,a=>by obtain⟨v,r,b,c,e,_,h2,_⟩:=a;rw[e,bM,bM,cZ.length h2]
theorem cZ.append{K:Fg}:∀{ds es:List Dat}{vs us:List V}{S T:List aL},cZ K H ds vs S->cZ K H es us T->cZ K H (ds++es) (vs++us) (S++T)
 |[],_,_,_,_,_,h,c=>by rw[h.1,h.2];exact c
 |d::ds,_,_,_,_,_,f,c=>by obtain⟨v,r,a,b,e,h1,h2,q⟩:=f;subst e q;exact⟨v,r++_,a,b++_,W,h1,cZ.append h2 c,by rw[aJ]⟩
def cZ.one{K:Fg}(h:kL K H d v S):cZ K H [d] [v] S:=⟨v,[],S,[],W,h,⟨W,W⟩,by simp⟩
abbrev St:=L2.St
abbrev ic:=List (Option Dat)
def nJ(K:Fg)(F:Hp)(σ:St)(ρ:ic):Prop:=∀(i:Nat)d,ρ[i]?=Y (Y d)->∃v,σ[i]?=Y (Y v)/\Rep K F d v
def nJ.mono{K:Fg}(s:cc F g)(h:nJ K F σ ρ):nJ K g σ ρ:=λi d e=>let ⟨v,a,b⟩:=h i d e;⟨v,a,b.mono s⟩
def gh(K:Fg)(H g:Hp)(d:Dat)(v:V):Prop:=∃S:List aL,S.Nodup/\(∀a∈S,H a=L)/\kL K g d v S
def fD(K:Fg)(H g:Hp)(ds:List Dat)(vs:List V):Prop:=∃S:List aL,S.Nodup/\(∀a∈S,H a=L)/\cZ K g ds vs S
def gh.back{K:Fg}{F:Hp}(s:cc g H)(h:gh K H B d v):gh K g B d v:=by
 obtain⟨S,n,e,r⟩:=h;exact⟨S,n,λa m=>s.free (e a m),r⟩
def fD.back{K:Fg}{F:Hp}(s:cc g H)(h:fD K H B ds vs):fD K g B ds vs:=by
 obtain⟨S,n,e,r⟩:=h;exact⟨S,n,λa m=>s.free (e a m),r⟩
def gh.kQ{K:Fg}(g:Good F B)(m:im d=U)(r:Rep K F d v):gh K H B d v:=⟨[],dT,(λa z=>by cases z),kL.kQ g.sub d m r⟩
def fD.kQ{K:Fg}(g:Good F B)(m:lW ds=U)(r:cX K F ds vs):fD K H B ds vs:=⟨[],dT,(λa z=>by cases z),cZ.kQ g.sub ds m r⟩
def fD.cons{K:Fg}{H B C:Hp}{d:Dat}{ds:List Dat}{v:V}{vs:List V}(s:cc H B)(F:cc B C)(h:gh K H B d v)(hs:fD K B C ds vs):fD K H C (d::ds) (v::vs):=by
 obtain⟨S,n,e,r⟩:=h;obtain⟨T,c,f,g⟩:=hs;refine⟨_,cj.mpr ⟨n,c,λa ha b hb z=>?_⟩,λa m=>?_,v,vs,S,T,W,r.mono F,g,W⟩
 .subst z;obtain⟨o,ho,_⟩:=r.ud _ a ha
  grind
 .rcases au.mp m with m|m
  .exact e a m
  .exact s.free (f a m)
def fD.snoc{K:Fg}(s:cc H B)(F:cc B C)(hs:fD K H B ds vs)(h:gh K B C d v):fD K H C (ds++[d]) (vs++[v]):=by
 refine ac λ_ i=>?_;obtain⟨S,n,e,r⟩:=hs;obtain⟨T,c,f,g⟩:=h;refine i ?_;refine⟨_,cj.mpr ⟨n,c,λa ha b hb z=>?_⟩,λa m=>?_,(r.mono F).append (.one g)⟩
 .subst z;obtain⟨o,ho,_⟩:=r.ud _ a ha
  grind
 .rcases au.mp m with m|m
  .exact e a m
  .exact s.free (f a m)
def fD.mono{K:Fg}(s:cc g B)(h:fD K H g ds vs):fD K H B ds vs:=by
 obtain⟨S,n,e,r⟩:=h;exact⟨S,n,e,r.mono s⟩
def fD.nil{K:Fg}:fD K H g [] []:=⟨[],dT,(λa z=>by cases z),W,W⟩
def gh.lst{K:Fg}(s:cc H g)(hp:g p=L)(h:fD K H g ds vs):gh K H (L2.upd g p (.lst vs)) (.lst ds) (.ref p):=by
 obtain⟨S,n,e,r⟩:=h;refine⟨_,a6.mpr ⟨λm=>?_,n⟩,λa m=>?_,p,vs,S,W,cW,r.mono (cc.upd hp),W⟩
 .obtain⟨o,ho,_⟩:=r.ud _ p m;rw[hp]at ho;cases ho
 .rcases aw.mp m with rfl|m
  .exact s.free hp
  .exact e a m
def gh.tup{K:Fg}(hp:g p=L)(h:fD K H g ds vs):gh K H (L2.upd g p (.tup vs)) (.tup ds) (.ref p):=by
 obtain⟨S,n,e,r⟩:=h;exact⟨S,n,e,p,vs,W,.inl cW,r.mono (cc.upd hp)⟩
def tE(K:Fg)(ρ:ic)(d:Dat)(fr:Bool):TE:=λσ H Q=>∃F,Good F H/\nJ K F σ ρ/\∀v b a,Step F H b a->Rep K b d v->(fr=U->gh K H a d v)->Q v a
def tEs(K:Fg)(ρ:ic)(ds:List Dat):TA:=λσ H Q=>∃F,Good F H/\nJ K F σ ρ/\∀vs a b,Step F H a b->cX K a ds vs->Q vs b
def tT(K:Fg)(ρ:ic)(b:Bool):TT:=λσ H Q=>∃F,Good F H/\nJ K F σ ρ/\∀c a,Step F H c a->Q b a
def tFs(K:Fg)(ρ:ic)(ds:List Dat)(al:Bool):TA:=λσ H Q=>∃F,Good F H/\nJ K F σ ρ/\∀vs b a,Step F H b a->cX K b ds vs->(al=U->fD K H a ds vs)->Q vs a
def rD(K:Fg)(g B:Dat)(d:Dat)(fr:Bool):R2:=λx y H Q=>∃F,Good F H/\Rep K F g x/\Rep K F B y/\∀v b a,Step F H b a->Rep K b d v->(fr=U->gh K H a d v)->Q v a
def rDs(K:Fg)(ds:List Dat)(d:Dat)(fr:Bool):List V->Hp->VK->Prop:=λc H Q=>∃F,Good F H/\cX K F ds c/\∀v b a,Step F H b a->Rep K b d v->(fr=U->gh K H a d v)->Q v a
section
def PE.imp(h:PE X e t)(f:∀σ H Q,t' σ H Q->t σ H Q):PE X e t':=λh_ s σ H Q I q=>h h_ s σ H Q I (f _ _ _ q)
def PT.imp(h:PT X e t)(f:∀σ H Q,t' σ H Q->t σ H Q):PT X e t':=λh_ s σ H Q I q=>h h_ s σ H Q I (f _ _ _ q)
def PA.imp(h:PA X e t)(f:∀σ H Q,t' σ H Q->t σ H Q):PA X e t':=λp h_ s σ H Q I q=>h p h_ s σ H Q I (f _ _ _ q)
def PS.imp(h:PS X e t)(f:∀D σ H,t' D σ H->t D σ H):PS X e t':=λh_ s σ H D I q=>h h_ s σ H D I (f _ _ _ q)
def Am.imp(h:Am X e t)(f:∀D σ H,t' D σ H->t D σ H):Am X e t':=λh_ s σ H D I q=>h h_ s σ H D I (f _ _ _ q)
def j8.imp(h:j8 X f r)(g:∀x y H Q,B x y H Q->r x y H Q):j8 X f B:=λh_ s σ H x y v u Q I a b q=>h h_ s σ H x y v u Q I a b (g _ _ _ _ q)
end
end M
namespace L2
open PySem PySem.Spec PyProof.Rows
def Cu(xs:Array Nat):Prop:=xs.toList.Pairwise (·< ·)
def Cu.get(h:Cu xs)(O:j<xs.size)(B:i<j):xs[i]'(cT B O)<xs[j]:=by
 have:=(eO.mp h) i j (by simpa using(cT B O)) (by simpa using O) B;simpa using this
theorem Ew(hs:Cu xs):∀(fuel lo hi:Nat),lo<=hi->hi<=xs.size->hi - lo<=fuel->(∀i (h:i<xs.size),i<lo->xs[i]<j)->(∀i (h:i<xs.size),hi<=i->j<=xs[i])->
  k7 xs j fuel lo hi<=xs.size/\(∀i(h:i<xs.size),i<k7 xs j fuel lo hi->xs[i]<j)/\∀i(h:i<xs.size),k7 xs j fuel lo hi<=i->j<=xs[i]
 |0,lo,hi,h1,h2,h3,c,g=>by
   have e:lo=hi:=aD (iF h1) (kX (wt h1) h3);subst e;exact⟨h2,c,g⟩
 |fuel+1,lo,hi,h1,h2,h3,c,g=>by
   simp only[k7];by_cases hl:lo<hi
   .rw[if_pos hl];have d:(lo+hi) / 2<xs.size:=kX (a2 lo hi (iF hl)).2 h2
    have f:xs.getD ((lo+hi) / 2) j=xs[(lo+hi) / 2]:=by simp_all
    rw[f];by_cases b:xs[(lo+hi) / 2]<j
    .rw[if_pos b];refine Ew hs _ _ hi (iF (a2 lo hi (iF hl)).2) h2 (Nat.sub_le_of_le_add (qt (am (ax hl)) h3 (a2 lo hi (iF hl)).1)) (λi h q=>?_) g;by_cases a:i=(lo+hi) / 2
     .subst a;exact b
     .exact cT (hs.get d (bq (iF q) a)) b
    .rw[if_neg b];refine Ew hs _ lo _ (iF (a2 lo hi (iF hl)).1) (ax d) (Nat.sub_le_of_le_add (qt (a2 lo hi (iF hl)).2 (am (ax hl)) h3)) c (λi h q=>?_);by_cases a:(lo+hi) / 2=i
     .subst a;simp_all
     .exact ax (aa (cz b) (hs.get h ((bq q a))))
   .rw[if_neg hl];have e :=aD h1 (bV hl);subst e;exact⟨h2,c,g⟩
def MZ(hs:Cu xs)(j:Nat):aM xs j<=xs.size/\(∀i(h:i<xs.size),i<aM xs j->xs[i]<j)/\∀i(h:i<xs.size),aM xs j<=i->j<=xs[i]:=
 Ew hs _ 0 _ (aK _) (ak _) (by simp) (λi _ q=>absurd q (jO _)) (λi h q=>((a7 h q)).elim)
def MX(hs:Cu xs):aM xs 0=0:=by
 cases q:aM xs 0 with
 |zero=>rfl
 |succ n=>exact absurd ((MZ hs 0).2.1 0 (aa (ao (aK _) (ae q.symm)) (MZ hs 0).1) (ao (aK _) (ae q.symm))) (jO _)
def MY(hs:Cu xs)(hi:i<xs.size):aM xs (xs[i]+1)=i+1:=by
 obtain⟨h1,h2,h3⟩:=MZ hs (xs[i]+1)
 rcases nM (aM xs _) (i+1)with h|h|h
 .exact(abg (h3 i hi (aV h))).elim
 .exact h
 .exact(VN (hs.get  (aa h h1) (ak _)) (h2 _ (aa h h1) h)).elim
def OW(hs:Cu xs)(B:xs[aM xs j]?≠Y j):Cu (dc xs (aM xs j) j):=by
 obtain⟨h1,h2,h3⟩:=MZ hs j;unfold Cu;rw[eR];refine eA.mpr ⟨hs.sublist (iU _ _),cD.mpr ⟨λy h=>?_,hs.sublist (fA _ _)⟩,λx p y h=>?_⟩
 .obtain⟨k,hk,rfl⟩:=cQ.mp h;have d:aM xs j+k<xs.size:=by grind
  have i:xs[aM xs j+k]≠j:=by
   intro e
   cases k with
   |zero=>exact B (by rw[aU _];simpa using e)
   |succ k=>
     exact a7 (hs.get d ((bb (aX _ _)))) (aa (ae e) (h3 _ (ao (aX _ _) d) (ak _)))
  simpa using (bq (iF (h3 _ d (aX _ _))) (cu i))
 .obtain⟨k,hk,rfl⟩:=cQ.mp p;rw[List.getElem_take];have f:k<aM xs j:=by simp at hk;simp_all
  have n:xs.toList[k]'(by exact aa f h1)<j:=by simpa using (h2 k (aa f h1) f)
  rcases aw.mp h with rfl|h
  .exact n
  .obtain⟨m,o,rfl⟩:=cQ.mp h;exact aa n (by simpa using (h3 (aM xs j+m) (by simp at o;exact kX (ws h1) o) (aX _ _)))
structure qj(led:Bool)(t:bD):Prop where
 d:t.dummies=#[]
 r:Cu t.place
 l:t.led=led
def HN(n:Nat):Cu (Array.range n):=by
 unfold Cu;rw[Array.toList_range];exact oU
def qj.fresh(led:Bool):qj led (.fresh 0 0 led):=⟨W,by exact xC,W⟩
def qj.qS(h:qj led t)(n:Nat):qj led (t.standIn n):=⟨W,HN n,h.l⟩
def qj.off(h:qj led t):qj led { t with plain:=J }:=⟨h.d,h.r,h.l⟩
def Gj(j:Nat):xp #[] j=J:=by simp[xp]
def vd{t:bD}(hd:t.dummies=#[])(h:t.slot j=.empty):t.place[aM t.place j]?≠Y j:=by
 intro e;unfold mE at h
 simp_all
def lP{t:bD}(hd:t.dummies=#[])(h:t.slot j=.dummy):False:=by
 unfold mE at h;rw[hd,Gj]at h
 grind
def td{t:bD}{p:bK}(h:p.dummy=L):(t.advance p).dummy=L:=by
 unfold dX;split
 .exact h
 .exact h
theorem vq{t:bD}(hd:t.dummies=#[]):∀(fuel:Nat) (p:bK) {j:Nat} {d:Option Nat},p.dummy=L->bW t ha hh fuel p=Y (.empty j d)->
  d=L/\t.place[aM t.place j]?≠Y j
 |0,_,_,_,_,h=>by cases h
 |fuel+1,p,j,d,hp,h=>by
   simp only[bW]at h
   cases q:t.slot p.j with
   |empty=>
     rw[q]at h
     injection h with h
     injection h with h1 h2
     subst h1;subst h2;exact⟨hp,vd hd q⟩
   |dummy=>exact(lP hd q).elim
   |live i=>
     rw[q]at h;dsimp only at h;split at h
     .grind
     .exact vq hd fuel _ (td hp) h
set_option tactic.hygienic true
def Qt{t:bD}(hd:t.dummies=#[])(h:t.freeSlot hh=Y (j,b)):t.place[aM t.place j]?≠Y j:=by
 unfold SetTable.freeSlot at h;split at h
 .rename_i c d a;have:=vq hd _ _ (by rfl) a
  grind
 .cases h
def qj.put(h:qj led t)(B:t.place[aM t.place j]?≠Y j):qj led (t.put j).1:=by
 refine⟨?_,OW h.r B,h.l⟩;show(if xp _ j then _ else t.dummies)=_;rw[h.d];rfl
def qj.or(h:qj led t)(n:Nat):qj led (t.orStandIn n):=by
 unfold SetTable.orStandIn;split
 .exact h
 .exact h.qS n
def qj.lay(h:qj led t)(es:Array (Int×ah))(hh:Int)(x:ah):qj led (layNew t es hh x).2.1:=by
 unfold layNew;split
 .rename_i j b a;exact(h.put (Qt h.d a)).or _
 .exact h.qS _
def qj.laid(h:mF mask f m led pl hs=Y (t,o)):qj led t:=by
 unfold mF at h;simp only[Option.bind_eq_bind,yM]at h;obtain⟨ow,h1,h⟩:=h
 injection h with h
 injection h with h2 h3
 subst h2;refine⟨W,?_,W⟩;show(xx _ _).toArray.toList.Pairwise _;rw[fo,Aw];refine oX ?_ oU
 simp_all
def qj.Ys(h:qj led t)(es:Array (Int×ah))(n:Nat):qj led (relayAll t es n).2.1:=by
 unfold relayAll;split
 .rename_i b o a;dsimp only;split
  .unfold Hb at a;rw[h.l]at a;exact qj.laid a
  .exact h.qS _
 .exact h.qS _
set_option tactic.hygienic false
end L2
namespace L2
open PySem
noncomputable def ua(mask:Nat):Nat->Nat->Nat->Nat×Nat
 |0,i,p=>(i,p)
 |n+1,i,p=>ua mask n (ip mask i p).1 (ip mask i p).2
theorem uC(mask:Nat):∀(a b i p:Nat),ua mask (a+b) i p=ua mask b (ua mask a i p).1 (ua mask a i p).2
 |0,b,i,p=>by rw[fH];rfl
 |a+1,b,i,p=>by rw[(iH _ _ _)];exact uC mask a b _ _
theorem vL(mask:Nat):∀(n i p:Nat),(ua mask n i p).2=p / 32 ^ n
 |0,i,p=>by simp[ua]
 |n+1,i,p=>by
   rw[ua,vL _ n,ip,Nat.div_div_eq_div_mul,Nat.pow_succ,Nat.mul_comm]
theorem LH(mask:Nat):∀(n i p:Nat),i<mask+1->(ua mask n i p).1<mask+1
 |0,i,p,h=>h
 |n+1,i,p,h=>LH _ n _ _ (jU _ (by simp))
noncomputable def orb(mask:Nat):Nat->Nat->List Nat
 |0,i=>[i]
 |n+1,i=>i::orb mask n ((i * 5+1) % (mask+1))
theorem FG(mask:Nat):∀(n i j:Nat),j∈orb mask n i->∃m,m<=n/\(ua mask m i 0).1=j
 |0,i,j,h=>by
   simp[orb]at h;exact⟨0,by simp,h.symm⟩
 |n+1,i,j,h=>by
   rcases aw.mp h with h|h
   .exact⟨0,aK _,h.symm⟩
   .obtain⟨m,a,e⟩:=FG _ n _ j h;refine⟨_,bb a,?_⟩;rw[ua];simpa [ip]using e
def MD(mask:Nat):Bool:=(aQ (mask+1)).all λj=>(orb mask mask 0).any λx=>Nat.beq x j
def abF:MD 7=U:=by decide +kernel
def ZH:MD 31=U:=by decide +kernel
def WR:MD 127=U:=by decide +kernel
def WQ:MD 511=U:=by decide +kernel
def aa2:(ua 7 8 0 0).1=0:=by decide +kernel
def YH:(ua 31 32 0 0).1=0:=by decide +kernel
def UU:(ua 127 128 0 0).1=0:=by decide +kernel
def UT:(ua 511 512 0 0).1=0:=by decide +kernel
def MC(h:mask=7\/mask=31\/mask=127\/mask=511):MD mask=U/\(ua mask (mask+1) 0 0).1=0:=by
 rcases h with rfl|rfl|rfl|rfl
 .exact⟨abF,aa2⟩
 .exact⟨ZH,YH⟩
 .exact⟨WR,UU⟩
 .exact⟨WQ,UT⟩
def Hk(mask n i:Nat):(ua mask n i 0).2=0:=by rw[vL,Nat.zero_div]
def vK(mask a b i:Nat):(ua mask (a+b) i 0).1=(ua mask b (ua mask a i 0).1 0).1:=by rw[uC,Hk]
def R9(h:mask=7\/mask=31\/mask=127\/mask=511)(B:j<mask+1):∃n,n<=mask/\(ua mask n 0 0).1=j:=by
 obtain⟨x,a,e⟩:=oz.mp (bE.mp (MC h).1 j (bu.mpr B));have e:=Nat.eq_of_beq_eq_true e;subst e;exact FG _ _ 0 x a
def FZ(h:mask=7\/mask=31\/mask=127\/mask=511)(hi:i<mask+1)(hp:p<2 ^ 64)(B:j<mask+1):∃n,n<=mask+13/\(ua mask n i p).1=j:=by
 have c:(ua mask 13 i p).2=0:=by
  rw[vL];exact Nat.div_eq_of_lt (aa hp bR)
 obtain⟨a,ha,f⟩:=R9 h (LH _ 13 i p hi);obtain⟨b,hb,g⟩:=R9 h B;by_cases e:a<=b
 .refine⟨13+(b - a),kX (oW b a) hb,?_⟩;rwa[uC,c,<-f,<-vK,(gJ e)]
 .refine⟨13+(mask+1 - a+b),by omega,?_⟩;rwa[uC,c,<-f,<-vK,show a+(mask+1 - a+b)=(mask+1)+b by omega,vK,((MC h).2)]
structure yB(t:bD)(p:bK):Prop where
 j:p.j=p.i
 m:p.more=dQ t.mask p.i - p.i
 d:p.dummy=L
def vj(h:yB t p):p.more<=9:=by
 rw[h.m];unfold dQ;split<;>simp
set_option tactic.hygienic true
theorem zB{t:bD}(hd:t.dummies=#[]):∀(k f:Nat) (p:bK),p.more=k->p.dummy=L->bW t ha hh (k+1+f) p=L->
  t.slot p.j≠.empty/\∃q:bK,bW t ha hh f q=L/\yB t q/\q.i=(ip t.mask p.i p.perturb).1/\q.perturb=(ip t.mask p.i p.perturb).2
 |0,f,p,hk,hp,h=>by
   rw[(C4 _ _),bW]at h
   cases hs:t.slot p.j with
   |empty=>rw[hs]at h;cases h
   |dummy=>exact(lP hd hs).elim
   |live i=>
     rw[hs]at h;dsimp only at h;split at h
     .cases h
     rename_i a;refine⟨by simp,_,h,?_,?_,?_⟩
     .unfold dX;rw[if_neg (λz=>(a7 z (ae hk)))];exact⟨W,W,hp⟩
     .unfold dX;rw[if_neg (λz=>(a7 z (ae hk)))]
     .unfold dX;rw[if_neg (λz=>(a7 z (ae hk)))]
 |k+1,f,p,hk,hp,h=>by
   rw[(iH _ _ _),bW]at h
   cases hs:t.slot p.j with
   |empty=>rw[hs]at h;cases h
   |dummy=>exact(lP hd hs).elim
   |live i=>
     rw[hs]at h;dsimp only at h;split at h
     .cases h
     rename_i a;have e:t.advance p={ p with j:=p.j+1,more:=p.more - 1 }:=by unfold dX;simp_all
     rw[e]at h;obtain⟨_,q,h1,h2,h3,b⟩:=zB hd k f { p with j:=p.j+1,more:=p.more - 1 } (by grind) hp h;exact⟨by simp,q,h1,h2,h3,b⟩
theorem uF:∀(f g:Nat)(p:bK),bW t ha hh (f+g) p=L->bW t ha hh f p=L
 |0,g,p,h=>rfl
 |f+1,g,p,h=>by
   rw[show f+1+g=(f+g)+1 from(iH _ _ _),bW]at h;rw[bW]
   cases hs:t.slot p.j with
   |empty=>rw[hs]at h;cases h
   |dummy=>rw[hs]at h;exact uF f g _ h
   |live i=>
     rw[hs]at h;simp only at h ⊢;split
     .grind
     .rename_i q;rw[if_neg q]at h;exact uF f g _ h
set_option tactic.hygienic false
theorem BK{t:bD}(hd:t.dummies=#[]):∀(m:Nat)(p:bK),yB t p->bW t ha hh (10 * (m+1)) p=L->∀n≤m,t.slot (ua t.mask n p.i p.perturb).1≠.empty
 |m,p,hp,h,0,_=>by
   have b:=vj hp;obtain⟨h1,_⟩:=zB hd p.more (10 * (m+1) - (p.more+1)) p W hp.d (by rw[show p.more+1+(10 * (m+1) - (p.more+1))=10 * (m+1)from(gJ (bb (Nat.le_add_left_of_le b)))];exact h);rw[hp.j]at h1;exact h1
 |0,p,hp,h,n+1,a=>(λz=>(a7 a (aK _)))
 |m+1,p,hp,h,n+1,a=>by
   have b:=vj hp;obtain⟨_,q,h1,h2,h3,c⟩:=zB hd p.more (10 * (m+1+1) - (p.more+1)) p W hp.d (by rw[show p.more+1+(10 * (m+1+1) - (p.more+1))=10 * (m+1+1)from(aD (iF (wS (10 * (m+1+1)) (p.more+1) (iF b))) (iF (wT (10 * (m+1+1)) (p.more+1))))];exact h);have e:=uF (10 * (m+1)) (9 - p.more) q (by rw[show 10 * (m+1)+(9 - p.more)=10 * (m+1+1) - (p.more+1)from(aD (kX (wT (10 * (m+1+1)) (p.more+1)) (ws b)) (kX (wS (10 * (m+1+1)) (p.more+1) (iF b)) (wt b)))];exact h1);have:=BK hd m q h2 e n (aV a);rw[h3,c]at this;exact this
def xO(t:bD)(h:Int):yB t (t.probeStart h):=⟨W,W,W⟩
structure wm(t:bD)(p:bK):Prop where
 m:p.more<=9
 i:p.i<t.mask+1
 q:p.perturb<2 ^ 64
 d:p.dummy=L
def xN(t:bD)(h:Int):wm t (t.probeStart h):=
 ⟨vj (xO t h),jU _ (by simp),by show eF h<_;unfold eF;omega,W⟩
def wm.adv(h:wm t p):wm t (t.advance p):=by
 unfold dX;split
 .exact⟨by exact aa (oW _ _) h.m,h.i,h.q,h.d⟩
 .refine⟨?_,jU _ (by simp),(ao (Rh _ _) h.q),h.d⟩
  .show dQ _ _ - _<=9;unfold dQ;split<;>simp
def tH{t:bD}(B:t.mask=7\/t.mask=31\/t.mask=127\/t.mask=511)(hd:t.dummies=#[])(hp:wm t p)(O:j<t.mask+1)(he:t.slot j=.empty) :
  ∃m,t.probe ha hh p=Y m:=by
 cases q:t.probe ha hh p with
 |some m=>exact⟨m,W⟩
 |none=>
   exfalso;have a:=hp.m;have c:=hp.q;obtain⟨_,r,h1,h2,h3,b⟩:=zB hd _ _ p W hp.d (by rwa[show p.more+1+(10 * (t.mask+15) - (p.more+1))=10 * (t.mask+15)from(aD (iF (wS (10 * (t.mask+15)) (p.more+1) (iF a))) (iF (wT (10 * (t.mask+15)) (p.more+1))))]);obtain⟨n,e,f⟩:=FZ B (i:=r.i) (p:=r.perturb) (by rw[h3];exact jU _ (by simp)) (by rw[b];show p.perturb / 32<2 ^ 64;omega) O;have:=BK hd _ r h2 (uF _ _ r (by rwa[show 10 * (t.mask+14)+(9 - p.more)=10 * (t.mask+15) - (p.more+1)from(aD (kX (wT (10 * (t.mask+15)) (p.more+1)) (ws a)) (kX (wS (10 * (t.mask+15)) (p.more+1) (iF a)) (wt a)))])) n e;rw[f]at this;exact this he
noncomputable def way(t:bD):Nat->bK->bK
 |0,p=>p
 |n+1,p=>way t n (t.advance p)
theorem lE(t:bD):∀(a b:Nat)(p:bK),way t (a+b) p=way t b (way t a p)
 |0,b,p=>by rw[fH];rfl
 |a+1,b,p=>by rw[show a+1+b=(a+b)+1 from(iH _ _ _)];exact lE t a b _
theorem JG:∀(n:Nat){p:bK},wm t p->wm t (way t n p)
 |0,p,h=>h
 |n+1,p,h=>JG n h.adv
set_option tactic.hygienic true
theorem xU{t:bD}(hd:t.dummies=#[]):∀(fuel:Nat) (p:bK) {m:Nc},p.dummy=L->bW t ha hh fuel p=Y m->
  ∃n,(∀k<n,∃i,t.slot (way t k p).j=.live i/\ha i≠hh)/\((m=.empty (way t n p).j L/\t.slot (way t n p).j=.empty)\/∃i,m=.candidate (way t n p).j i (way t (n+1) p)/\t.slot (way t n p).j=.live i/\ha i=hh)
 |0,p,m,_,h=>by cases h
 |fuel+1,p,m,hp,h=>by
   rw[bW]at h
   cases hs:t.slot p.j with
   |empty=>
     rw[hs]at h
     injection h with h
     exact⟨0,λk hk=>((a7 hk (aK _))).elim,.inl ⟨by rw[<-h,hp];rfl,hs⟩⟩
   |dummy=>exact(lP hd hs).elim
   |live i=>
     rw[hs]at h;dsimp only at h;split at h
     .rename_i e
      injection h with h
      exact⟨0,λk hk=>((a7 hk (aK _))).elim,.inr ⟨i,h.symm,hs,by simpa using e⟩⟩
     .rename_i e;obtain⟨n,h1,h2⟩:=xU hd fuel _ (td hp) h;refine⟨n+1,λk hk=>?_,h2⟩
      cases k with
      |zero=>exact⟨i,hs,by simpa using e⟩
      |succ k=>exact h1 k (aV hk)
def PD(hs:Cu xs)(h:j∈xs.toList):xs[aM xs j]?=Y j:=by
 obtain⟨i,hi,e⟩:=cQ.mp h;have c:i<xs.size:=by simpa using hi
 obtain⟨h1,h2,h3⟩:=MZ hs j
 have hb:aM xs j<=i:=by
  rcases gH i (aM xs j)with hl|hl
  .have:=h2 i c hl;simp_all
  .exact hl
 have f:aM xs j=i:=by
  rcases gH _ i with hl|hl
  .exact((a7 (hs.get c hl) (aa (ae (by simpa using e)) (h3 _ (ao hb c) (ak _))))).elim
  .exact aD hb hl
 simp_all
def AL{t:bD}(B:Cu t.place)(h:j∈t.place.toList):t.slot j=.live (aM t.place j):=by
 unfold mE;simp only[PD B h,beq_self_eq_true,if_true]
def Le{t:bD}(hd:t.dummies=#[])(h:t.slot j≠.empty):j∈t.place.toList:=by
 unfold mE at h;dsimp only at h;split at h
 .rename_i e;exact cQ.mpr ⟨_,by simpa using (bY.mp (by simpa using e)).1,by simpa using (bY.mp (by simpa using e)).2⟩
 .rw[hd,Gj]at h;simp at h
set_option tactic.hygienic false
def Qa{t:bD}(h:t.slot j=.live i):t.place[i]?=Y j:=by
 unfold mE at h;dsimp only at h;split at h
 .simp_all
 grind
def M6{t t':bD}(h:t.mask=t'.mask)(p:bK):t.advance p=t'.advance p:=by
 unfold dX;rw[h]
theorem o6{t t':bD}(h:t.mask=t'.mask):∀(n:Nat)(p:bK),way t n p=way t' n p
 |0,p=>rfl
 |n+1,p=>by rw[way,way,M6 h,o6 h n]
def u9{t t':bD}(h:t.mask=t'.mask)(x:Int):t.probeStart x=t'.probeStart x:=by
 unfold SetTable.probeStart;rw[h]
def nH(t:bD)(x:Int)(j:Nat):Prop:=∃n,(way t n (t.probeStart x)).j=j/\∀k<n,(way t k (t.probeStart x)).j∈t.place.toList
def nH.mono{t t':bD}(h:t.mask=t'.mask)(hs:∀j∈t.place.toList,j∈t'.place.toList)(y:nH t x j):nH t' x j:=by
 obtain⟨n,h1,h2⟩:=y;refine⟨n,?_,λk hk=>?_⟩
 .rwa[<-u9 h,<-o6 h]
 .rw[<-u9 h,<-o6 h];exact hs _ (h2 k hk)
def FT{t:bD}:a∈(t.put j).1.place.toList↔a=j\/a∈t.place.toList:=by
 show a∈(dc _ _ j).toList↔_;rw[eR];have e:=bo (aM t.place j) t.place.toList;constructor
 .grind
 grind
def nH.new(h:∀k<n,(way t k (t.probeStart x)).j∈t.place.toList):nH (t.put (way t n (t.probeStart x)).j).1 x (way t n (t.probeStart x)).j:=by
 exact nH.mono (t:=t)  rfl (λj a=>FT.mpr (.inr a)) ⟨n,W,h⟩
def Q7(t:bD)(p:bK):Prop:=p.j+p.more<=t.mask
def Ko(h:i<mask+1):i+(dQ mask i - i)<=mask:=by
 unfold dQ;split<;>omega
def Q7.start(t:bD)(x:Int):Q7 t (t.probeStart x):=Ko (jU _ (by simp))
def Q7.adv(h:Q7 t p):Q7 t (t.advance p):=by
 unfold Q7 at h ⊢;unfold dX;split
 .grind
 .exact Ko (jU _ (by simp))
theorem JH:∀(n:Nat){p:bK},Q7 t p->Q7 t (way t n p)
 |0,p,h=>h
 |n+1,p,h=>JH n h.adv
def C8(n:Nat)(x:Int):(way t n (t.probeStart x)).j<=t.mask:=by
 exact aa (aX _ _) (JH n (Q7.start t x))
theorem qQ:∀(k:Nat)(p:bK),k<=p.more->way t k p={ p with j:=p.j+k,more:=p.more - k }
 |0,p,h=>rfl
 |k+1,p,h=>by
   rw[way];have e:t.advance p={ p with j:=p.j+1,more:=p.more - 1 }:=by unfold dX;rw[if_pos (ao (aK _) h)]
   rw[e,qQ k _ (by exact Hh h)]
   grind
noncomputable abbrev CJ(ow:Array (Option Nat))(j:Nat):Bool:=(ow.getD j (Y 0)).isSome
set_option tactic.hygienic true
theorem BQ{ow:Array (Option Nat)}:∀(fuel:Nat) (p:bK) {j:Nat},yB t p->dA t.mask ow fuel p.i p.perturb=Y j->
  ∃n,(way t n p).j=j/\(∀k<n,CJ ow (way t k p).j=U)/\ow.getD j (Y 0)=L
 |0,p,j,_,h=>by cases h
 |fuel+1,p,j,hp,h=>by
   have a:p.i<=dQ t.mask p.i:=by unfold dQ;split<;>simp
   have b:dQ t.mask p.i+1 - p.i=p.more+1:=by rw[hp.m];exact Nat.sub_add_comm a
   rw[dA,b]at h;split at h
   .rename_i k hk
    injection h with h
    subst h;obtain⟨h1,h2,h3⟩:=List.find?_range_eq_some.mp hk;have h2 :=bu.mp h2;refine⟨k,?_,λm e=>?_,by simpa using h1⟩
    .rw[qQ k p (aV h2)];rw[hp.j]
    .rw[qQ m p (aV (cT e h2))];have:=h3 m e;rw[hp.j];simpa [CJ,dN]using this
   .rename_i hk;have hk:=Aj.mp hk;have f:way t (p.more+1) p=t.advance (way t p.more p):=by rw[lE];rfl
    have g:=qQ (t:=t) p.more p (ak _)
    have l:yB t (way t (p.more+1) p)/\(way t (p.more+1) p).i=(ip t.mask p.i p.perturb).1/\(way t (p.more+1) p).perturb=(ip t.mask p.i p.perturb).2:=by
     rw[f,g];unfold dX;rw[if_neg (by simp)];exact⟨⟨W,W,hp.d⟩,W,W⟩
    obtain⟨o,q,r⟩:=l;dsimp only at h;rw[<-q,<-r]at h;obtain⟨n,s,u,v⟩:=BQ fuel _ o h;refine⟨p.more+1+n,by rw[lE];exact s,λk c=>?_,v⟩
    rcases gH k (p.more+1)with hl|hl
    .rw[qQ k p (aV hl)];have:=hk k hl;rw[hp.j];simpa [CJ,dN]using this
    .have:=u (k - (p.more+1)) (kX (ws hl) c);rw[<-lE,(gJ hl)]at this;exact this
def M9(t:bD)(ow:Array (Option Nat))(x:Int)(j:Nat):Prop:=∃n,(way t n (t.probeStart x)).j=j/\∀k<n,CJ ow (way t k (t.probeStart x)).j=U
structure Lay(t:bD)(hs:List Int)(ow:Array (Option Nat))(c:Nat):Prop where
 sz:ow.size=t.mask+1
 st:∀j k:Nat,ow[j]?=Y (Y k)->k<c/\M9 t ow (hs.getD k 0) j
 ex:∀k<c,∃j:Nat,ow[j]?=Y (Y k)
 un:∀j j' k:Nat,ow[j]?=Y (Y k)->ow[j']?=Y (Y k)->j=j'
def getD_none{ow:Array (Option Nat)}(h:ow.getD j (Y 0)=L):ow[j]?=Y L:=by
 unfold Hj at h;split at h
 .simp_all
 .cases h
def Vk{ow:Array (Option Nat)}(h:CJ ow a=U):CJ (ow.setIfInBounds j (Y c)) a=U:=by
 unfold CJ Hj at h ⊢;by_cases ha:a<ow.size
 .rw[dif_pos ha]at h;rw[dif_pos (by simpa using ha)];by_cases e:j=a
  .subst e;simp
  simp_all
 .rw[dif_neg (by simpa using ha)];rfl
def M9.set{ow:Array (Option Nat)}(h:M9 t ow x a):M9 t (ow.setIfInBounds j (Y c)) x a:=
 let ⟨n,h1,h2⟩:=h
 ⟨n,h1,λk hk=>Vk (h2 k hk)⟩
def get_set{ow:Array (Option Nat)}(B:j<ow.size):(ow.setIfInBounds j (Y c))[a]?=if j=a then Y (Y c)else ow[a]? :=by
 rw[Array.getElem?_setIfInBounds];split
 .simp
 .rfl
def Lay.step{ow:Array (Option Nat)}(y:Lay t hs ow c)(h:dA t.mask ow (lL t.mask) (eF (hs.getD c 0) % (t.mask+1)) (eF (hs.getD c 0))=Y j):Lay t hs (ow.setIfInBounds j (Y c)) (c+1):=by
 obtain⟨n,h1,h2,h3⟩:=BQ _ (t.probeStart _) (xO t _) h;have h3:=getD_none h3;have d :=(bY.mp h3).1;refine⟨by simpa using y.sz,λa k ha=>?_,λk hk=>?_,λa f k ha b=>?_⟩
 .rw[get_set d]at ha;split at ha
  .rename_i e;subst e
   injection ha with ha
   injection ha with ha
   subst ha;exact⟨ak _,M9.set ⟨n,h1,h2⟩⟩
  .obtain⟨g,i⟩:=y.st a k ha;exact⟨cU g,i.set⟩
 .rcases gH k c with hl|hl
  .obtain⟨a,ha⟩:=y.ex k hl;refine⟨a,?_⟩;rwa[get_set d,if_neg (λe=>by grind)]
  .refine⟨j,?_⟩;rw[get_set d,if_pos W,(aD (aV hk) hl)]
 .rw[get_set d]at ha b;split at ha<;>split at b
  .grind
  .injection ha with ha
   injection ha with ha
   have:=(y.st f k b).1
   simp_all
  .injection b with b
   injection b with b
   exact((a7 ((y.st a k ha).1) (ae b))).elim
  .exact y.un a f k ha b
theorem yj{ow:Array (Option Nat)}:∀(fuel i p:Nat),dA mask ow fuel i p=L->∀n<fuel,CJ ow (ua mask n i p).1=U
 |0,i,p,h,n,a=>((a7 a (aK _))).elim
 |fuel+1,i,p,h,n,a=>by
   have b:i<=dQ mask i:=by unfold dQ;split<;>simp
   rw[dA]at h;split at h
   .cases h
   .rename_i hk;cases n with
    |zero=>
      show CJ ow i=U;simpa [CJ]using ((Aj.mp hk) 0 (by omega))
    |succ n=>exact yj _ _ _ h n (aV a)
set_option tactic.hygienic false
def Qu(B:mask=7\/mask=31\/mask=127\/mask=511){ow:Array (Option Nat)}(O:j<mask+1)(he:CJ ow j=J):∃a,dA mask ow (lL mask) (eF x % (mask+1)) (eF x)=Y a:=by
 cases q:dA mask ow (lL mask) (eF x % (mask+1)) (eF x)with
 |some a=>exact⟨a,W⟩
 |none=>
   exfalso;obtain⟨n,h1,h2⟩:=FZ B (p:=eF x) (jU _ (by simp)) (by unfold eF;omega) O;have:=yj _ _ _ q n (by exact cU (bb h1));rw[h2,he]at this;cases this
def Li{l:List Nat}(B:l.Nodup)(h:∀x∈l,x<c):Z l<=c:=by
 have hp:l.Perm ((aQ c).filter λx=>decide (x∈l)):=by
  rw[fR B (Ak Hi fM)]
  simp_all
 rw[hp.length_eq];exact aa (c8 _ _) (by simp)
def FH{ow:Array (Option Nat)}(B:j<ow.size)(h:CJ ow j=U):∃k,ow[j]?=Y (Y k):=by
 unfold CJ Hj at h;rw[dif_pos B]at h;obtain⟨k,hk⟩:=eX.mp h
 simp_all
def Lay.room{ow:Array (Option Nat)}(y:Lay t hs ow c)(hc:c<t.mask+1):∃j,j<t.mask+1/\CJ ow j=J:=by
 rcases JE (∃j,j<t.mask+1/\CJ ow j=J)with h|h
 .exact h
 .exfalso
  have g:∀j,j<t.mask+1->∃k:Nat,ow[j]?=Y _:=λj f=>FH (by rwa[y.sz]) (by
   cases q:CJ ow j with
   |true=>rfl
   |false=>exact absurd ⟨j,f,q⟩ h)
  have hk:∀j,j<t.mask+1->ow[j]?=Y (Y ((ow.getD j L).getD 0)):=λj f=>by
   obtain⟨k,e⟩:=g j f
   simp_all
  have l:((aQ (t.mask+1)).map λj=>(ow.getD j L).getD 0).Nodup:=by
   refine List.Pairwise.map _ (R:=λa b=>a∈aQ (t.mask+1)/\b∈aQ (t.mask+1)/\a≠b) ?_ (iV (λha hb d=>⟨ha,hb,d⟩) fM)
   .rintro a b ⟨ha,hb,d⟩ e;have i:=hk a (bu.mp ha);rw[e]at i;exact d (y.un _ _ _ i (hk b (bu.mp hb)))
  have:=Li l (λx n=>by
   obtain⟨j,f,rfl⟩:=bX.mp n
   exact(y.st j _ (hk j (bu.mp f))).1)
  rw[aB,a8]at this;exact a7 hc this
noncomputable def FY(mask:Nat)(B:Option (Array (Option Nat)×Nat))(h:Int):Option (Array (Option Nat)×Nat):=do
 let (owner,k) <-B;let j <-dA mask owner (lL mask) (eF h % (mask+1)) (eF h)
 pure (owner.setIfInBounds j (Y k),k+1)
theorem Bx{t:bD}(O:t.mask=7\/t.mask=31\/t.mask=127\/t.mask=511){hs:List Int}(hl:Z hs<=t.mask):∀(rest pre:List Int)(ow:Array (Option Nat)),hs=pre++rest->Lay t hs ow pre.length->∃B,rest.foldl (FY t.mask) (Y (ow,pre.length))=Y (B,hs.length)/\Lay t hs B hs.length
 |[],pre,ow,e,y=>⟨ow,by simp_all,by grind⟩
 |x::rest,pre,ow,e,y=>by
   have hlen:Z pre<Z hs:=by rw[e];simp
   obtain⟨g,h1,h2⟩:=y.room (cU (aa hlen hl));have c:hs.getD pre.length 0=x:=by rw[e];simp
   obtain⟨a,ha⟩:=Qu O h1 h2;have b:=y.step (by rw[c];exact ha);obtain⟨B,d,f⟩:=Bx O hl rest (pre++[x]) _ (by simp_all) (by rw[aj];exact b);refine⟨B,?_,f⟩;rw[NW]
   have:FY t.mask (Y (ow,pre.length)) x=Y (ow.setIfInBounds a (Y pre.length),(pre++[x]).length):=by
    unfold FY
    simp_all
   rw[this];exact d
def Kx{n j k:Nat}(h:(uV n (L:Option Nat))[j]?=Y (Y k)):False:=by
 rw[Array.getElem?_replicate]at h
 simp_all
def Lay.nil(t:bD)(hs:List Int):Lay t hs (uV (t.mask+1) L) 0:=
 ⟨by simp,λj k h=>(Kx h).elim,λk hk=>((a7 hk (aK _))).elim,λj a k h _=>(Kx h).elim⟩
def Qb{t:bD}(B:t.mask=7\/t.mask=31\/t.mask=127\/t.mask=511){hs:Array Int}(hl:hs.size<=t.mask):∃ow,CY t.mask hs=Y ow/\Lay t hs.toList ow hs.size:=by
 obtain⟨ow,h1,h2⟩:=Bx B (by simpa using hl) hs.toList [] _ W (Lay.nil t _);refine⟨ow,?_,by simpa using h2⟩;unfold CY;rw[<-Array.foldl_toList]
 have e:(hs.toList.foldl (FY t.mask) (Y (uV (t.mask+1) L,0))).map (·.1)=Y ow:=by
  simp_all
 exact e
def Qc{hs:Array Int}(B:mask=7\/mask=31\/mask=127\/mask=511)(hl:hs.size<=mask) :
  ∃t o,mF mask f m led pl hs=Y (t,o)/\t.mask=mask/\t.led=led/\o.toList.Perm (aQ hs.size)/\t.place.size=o.size/\(∀j∈t.place.toList,j<=mask)/\∀(i:Nat)(h:i<o.size)(I:i<t.place.size),nH t (hs.toList.getD o[i] 0) t.place[i]:=by
 let d:bD:={ mask,place:=#[],dummies:=#[],finger:=f,led,moves:=m,plain:=pl }
 obtain⟨ow,h1,y⟩:=Qb (t:=d) B hl;have s :=y.sz;let live:=(aQ (mask+1)).filterMap λj=>(ow.getD j L).map (j,·)
 have c:∀j k,(j,k)∈live↔ow[j]?=Y _:=λj k=>by
  simp only[live,jQ,bu,Ag,wO];constructor
  .rintro⟨a,ha,b,hb,rfl,rfl⟩;rw[wF]at hb;rw[aU (aa ha (ae s.symm))]at hb ⊢;exact congrArg Y hb
  .intro h;exact⟨j,aa ((bY.mp h).1) (ae s),k,by rw[wF,h];rfl,W,W⟩
 let t:bD:={ mask,place:=(live.map (·.1)).toArray,dummies:=#[],finger:=f,led,moves:=m,plain:=pl }
 refine⟨t,(live.map (·.2)).toArray,?_,W,W,?_,by simp[t],λj g=>?_,λi hi v=>?_⟩
 .unfold mF;rw[h1];rfl
 .have l:(live.map (·.2)).Nodup:=by
   have hp:live.Pairwise λa b=>a.1≠b.1:=by
    refine Aw.mpr (oX ?_ oU);intro a b p x w z A;obtain⟨_,_,rfl⟩:=ee w;obtain⟨_,_,rfl⟩:=ee A;exact a9 p
   refine fo.mpr (iV ?_ hp);intro a b ha hb q e;have u:=(c _ _).mp ha;rw[e]at u;exact q (y.un _ _ _ u ((c _ _).mp hb))
  rw[fR l fM];intro k;rw[bX,bu];constructor
  .rintro⟨a,ha,rfl⟩;exact(y.st _ _ ((c _ _).mp ha)).1
  .intro hk;obtain⟨j,g⟩:=y.ex k hk;exact⟨_,(c j k).mpr g,W⟩
 .obtain⟨a,ha,rfl⟩:=bX.mp g;exact aV (aa ((bY.mp ((c _ _).mp ha)).1) (ae s))
 .have r:i<Z live:=by simpa using hi
  have C:(live.map (·.2)).toArray[i]=live[i].2:=by simp
  have F:t.place[i]=live[i].1:=by simp[t]
  rw[C,F];obtain⟨_,n,D,E⟩:=y.st _ _ ((c live[i].1 live[i].2).mp (bA r));refine⟨n,?_,λk hk=>?_⟩
  .rwa[o6 (t:=t) (t':=d) W]
  .rw[o6 (t:=t) (t':=d) W];obtain⟨b,hb⟩:=FH (ao (C8 k _) (ae s.symm)) (E k hk);exact bX.mpr ⟨_,(c _ b).mpr hb,W⟩
theorem BM{t:bD}(hd:t.dummies=#[])(B:∀i,ha i≠hh):∀(fuel:Nat)(p:bK){m:Nc},p.dummy=L->bW t ha hh fuel p=Y m->∃n,n<fuel/\t.slot (way t n p).j=.empty/\∀k<n,t.slot (way t k p).j≠.empty
 |0,p,m,_,h=>by cases h
 |fuel+1,p,m,hp,h=>by
   rw[bW]at h
   cases hs:t.slot p.j with
   |empty=>exact⟨0,by simp,hs,λk hk=>by omega⟩
   |dummy=>exact(lP hd hs).elim
   |live i=>
     rw[hs]at h;dsimp only at h;rw[if_neg (by simpa using B i)]at h;obtain⟨n,h1,h2,h3⟩:=BM hd B _ _ (td hp) h;refine⟨_,bb h1,h2,λk hk=>?_⟩
     cases k with
     |zero=>show t.slot p.j≠_;rw[hs];simp
     |succ k=>exact h3 k (aV hk)
def Eb{t:bD}(B:t.mask=7\/t.mask=31\/t.mask=127\/t.mask=511)(hd:t.dummies=#[])(x:Int)(O:j<t.mask+1)(he:t.slot j=.empty) :
  ∃N,N<6000/\t.slot (way t N (t.probeStart x)).j=.empty/\∀k<N,t.slot (way t k (t.probeStart x)).j≠.empty:=by
 obtain⟨m,h⟩:=tH B hd (ha:=λ_=>x+1) (xN t x) O he;obtain⟨n,h1,h2,h3⟩:=BM hd (λ_=>(λz=>(uU (oZ z) (Int.le_refl _)))) _ _ W h;refine⟨n,?_,h2,h3⟩;unfold lL at h1;omega
def Dr{t:bD}(O:t.mask=7\/t.mask=31\/t.mask=127\/t.mask=511)(hd:t.dummies=#[])(h1:t.slot (way t N (t.probeStart x)).j=.empty)(h2:∀k<N,t.slot (way t k (t.probeStart x)).j≠.empty)(B:a<=N) :
  (t.probe ha x (way t a (t.probeStart x))=Y (.empty (way t N (t.probeStart x)).j L)/\∀k,a<=k->k<N->∃i,t.slot (way t k (t.probeStart x)).j=.live i/\ha i≠x)\/
  ∃b i,a<=b/\b<N/\t.probe ha x (way t a (t.probeStart x))=Y (.candidate (way t b (t.probeStart x)).j i (way t (b+1) (t.probeStart x)))/\t.slot (way t b (t.probeStart x)).j=.live i/\ha i=x/\∀k,a<=k->k<b->∃i,t.slot (way t k (t.probeStart x)).j=.live i/\ha i≠x:=by
 have g :=JG a (xN t x);obtain⟨m,h⟩:=tH O hd g (bb (C8 (t:=t) N x)) h1;obtain⟨c,u,l⟩:=xU hd _ _ g.d h
 have f:∀k,a<=k->k<a+c->∃i,t.slot (way t k _).j=.live i/\ha i≠x:=λk n q=>by
  have:=u (k - a) (kX (ws n) q);rwa[<-lE,(gJ n)]at this
 have r:a+c<=N:=by
  rcases gH N (a+c)with hl|hl
  .obtain⟨i,e,_⟩:=f N B hl
   grind
  .exact hl
 rcases l with⟨l,o⟩|⟨i,l,o,v⟩
 .rw[<-lE]at l o
  have:a+c=N:=by
   rcases gH (a+c) N with hl|hl
   .simp_all
   .exact aD r hl
  refine .inl ⟨by rw[h,l,this],λk n q=>f k n (aa q (ae this.symm))⟩
 .rw[<-lE]at o
  have s:a+c<N:=by
   grind
  refine .inr ⟨_,i,aX _ _,s,?_,o,v,f⟩;rw[h,l,<-lE,<-lE];rfl
end L2
namespace L2
open PySem PySem.Spec PyProof.Rows
structure kT(led:Bool)(h:cx)(S:aL)(es:Array (Int×ah))(ep:Nat)(t:bD):Prop where
 obj:h.get? S=Y { cls:=.type "set",dict:=L,data:=.set es ep t }
 fits:t.fits es.size=U
 ok:qj led t
def kT.keep{g:cx}(y:kT led h S es B t)(k:∀o,h.get? S=Y o->g.get? S=Y o):kT led g S es B t:=⟨k _ y.obj,y.fits,y.ok⟩
noncomputable abbrev px(w:c6):Bool:=!w.params.followText "set-order"
def mL{α F:Type}{R:α->F->Prop}{l I:List α}(p:I.Perm l):∀{C:List F},jR R l C->∃B,jR R I B/\B.Perm C:=by
 induction p with
 |nil=>intro C h;cases h;exact⟨[],.nil,.nil⟩
 | cons x p g=>intro C h;cases h with
   |cons a b=>obtain⟨B,c,d⟩:=g b;exact⟨_,.cons a c,d.cons _⟩
 | swap x y l=>intro C h;cases h with
   | cons a b=>cases b with
     |cons c d=>exact⟨_,.cons c (.cons a d),.swap ..⟩
 |trans p q e f=>
   intro C h;obtain⟨j,a,b⟩:=f h;obtain⟨i,c,d⟩:=e a;exact⟨i,c,d.trans b⟩
theorem ph{α g:Type}{R:α->g->Prop}{x:α}{y:g}(h:R x y){l:List α}{B:List g}(h0:jR R l B):jR R (l++[x]) (B++[y]):=by
 induction h0 with
 |nil=>exact .cons h .nil
 |cons a _ i=>exact .cons a i
theorem lT{α g:Type}{R:α->g->Prop}{l:List α}{B:List g}(h0:jR R l B):Z l=Z B:=by
 induction h0 with
 |nil=>rfl
 |cons _ _ i=>rw[bM,bM,i]
theorem mM{α g:Type}{R:α->g->Prop}{x:α}{l:List α}{B:List g}(h0:jR R l B):x∈l->∃y∈B,R x y:=by
 induction h0 with
 |nil=>intro h;cases h
 |cons a _ i=>
  intro h;rcases aw.mp h with rfl|h
  .exact⟨_,.head _,a⟩
  .obtain⟨y,c,d⟩:=i h;exact⟨y,.tail _ c,d⟩
theorem nX{α g:Type}{R:α->g->Prop}{y:g}{l:List α}{B:List g}(h0:jR R l B):y∈B->∃x∈l,R x y:=by
 induction h0 with
 |nil=>intro h;cases h
 |cons a _ i=>
  intro h;rcases aw.mp h with rfl|h
  .exact⟨_,.head _,a⟩
  .obtain⟨y,c,d⟩:=i h;exact⟨y,.tail _ c,d⟩
section
variable{prog:cg}{w:c6}{K:Type}[DecidableEq K]{knd:kW prog w K}{s:ai}
def qT{g:Array (Int×ah)}{t':bD}(y:kT led s.heap S es F t)(f:t'.fits g.size=U)(o:qj led t')(B:g.size<=aE)
  (k:∀C,cP S s.heap C->kT led C S g (F+1) t'->Q () { s with heap:=C }):aF (aG prog w) A (storeSet S g t') Q E s:=by
 refine wpAny_storeSet_of y.obj W (k _ (om ..) ⟨?_,f,o⟩) B;exact (eT (Obj.putSet _ t') y.obj (by rfl))
def EZ{g:Bool->Au Unit}(hg:∀(c:Bool) (s1:ai) (R:Unit->ai->Prop),R () s1->aF (aG prog w) A (g c) R E s1){B:Array (Int×ah)}{O:bD}{d:Bool}{R:Option Bool->ai->Prop}
  (y:kT led s.heap S es ep t)(f:O.fits B.size=U)(o:qj led O)(C:B.size<yE)
  (k:∀P I F t',cP S s.heap P->kT led P S I F t'->I.toList.Perm B.toList->R (Y U) { s with heap:=P }) :
  aF (aG prog w) A (do
      storeSet S B O
      if(!d && O.tooFull)=U then do
         g (relayAll O B (dO B.size)).2.2
         storeSet S (relayAll O B (dO B.size)).1 (relayAll O B (dO B.size)).2.1
         pure (Y U)
       else pure (Y U)) R E s:=by
 refine wb9 (qT y f o (fits_of_scanBound C) λh1 a b=>?_);split
 .have hp:=relayAll_perm O B (dO B.size);have sz:(relayAll O B (dO B.size)).1.size=B.size:=by rw[<-bh,hp.length_eq,bh]
  exact wb9 (hg _ _ _ (wb9 (qT b (relayAll_fits ..) (o.Ys ..) (by rw[sz];exact fits_of_scanBound C) λh2 AV e=>wu9 (k h2 _ _ _ (a.trans AV) e hp))))
 .exact wu9 (k h1 _ _ _ a b (.refl _))
def TB(hk:knd.is k x=U)(C:x.scannable=U)(y:kT led s.heap S es P t)(el:Rg knd es.toList)(room:es.size+1<yE)
  (O:∀b,(∃e∈es.toList,knd.is k e.2=U)->Q b s)
  (new:∀b I F B t',(¬ ∃e∈es.toList,knd.is k e.2=U)->cP S s.heap I->kT led I S F B t'->F.toList.Perm (es.toList++[(knd.hash k,x)])->Q b { s with heap:=I }) :
  aF (aG prog w) A (setAddHashed S x (knd.hash k)) Q E s:=by
 refine cB (wb9 (dG y.obj W y.fits ?_));dsimp only;rw[byScan_of C (Nat.lt_of_succ_lt room) el];refine wb9 (wb9 (gm (wb9 (wpAny_setScan_of hk y.obj W y.fits el ?_))))
 cases q:List.findIdx? (λe=>knd.is k _) es.toList with
 |some j=>
   obtain⟨o,hp,_⟩:=List.findIdx?_eq_some_iff_getElem.mp q;exact wu9 (wu9 (O _ ⟨_,bA o,hp⟩))
 |none=>
   have p:¬ ∃e∈es.toList,knd.is k e.2=U:=by
    rintro⟨e,he,hp⟩;have:=List.findIdx?_eq_none_iff.mp q e he
    simp_all
   have m:∀(c:Bool)(s1:ai)(R:Unit->ai->Prop),R () s1->aF (aG prog w) A (match c with|true=>rule "set.scan.the-table-gave-way"|false=>pure ()) R E s1:=by
    intro c s1 R h;cases c
    .exact wu9 h
    .exact gm h
   have f:=layNew_perm t es (knd.hash k) x;have g:=layNew_fits t es (knd.hash k) x;have i:=y.ok.lay es (knd.hash k) x;generalize layNew t es _ x=L' at f g i ⊢;obtain⟨l,r,d,u⟩:=L';rw[Jj]at f;have n:l.size=es.size+1:=by rw[<-bh,f.length_eq,aj];rfl
   refine wb9 (m _ _ _ ?_);have fin:∀I F B t',cP S _ I->kT _ I S F B t'->F.toList.Perm _->Q U _:=λI F B t' a b c=>new _ I _ B t' p a b (c.trans f);split
   .refine wb9 ?_;rw[hashByValue_scannable 8 C];refine wu9 ?_;refine EZ m y ?_ ?_ (ao (ae n) room) λI F B t' a b c=>wu9 (fin I _ B t' a b c)
    .split
     .exact g
     .exact SetTable.fits_plain_off g
    .split
     .exact i
     .exact i.off
   .exact wb9 (wu9 (EZ m y g i (ao (ae n) room) λI F B t' a b c=>wu9 (fin I _ B t' a b c)))
end
section
variable{prog:cg}{w:c6}{K:Type}[DecidableEq K]{G:Array nP->Array nP->Prop}{St:Nat->ai->Prop}
end
section
variable{prog:cg}{w:c6}{K:Type}[DecidableEq K]{knd:kW prog w K}{A:bT}{G:Array nP->Array nP->Prop}{n:Nat}{P:Nat->ah->Prop}{St:Nat->ai->Prop}{led:Bool}
def pJ{prog:cg}{w:c6}{K:Type}[DecidableEq K](knd:kW prog w K)(led:Bool)(h:cx)(S:aL)(n:Nat)(M:K->Prop):Prop:=
 ∃b c t a,kT led h S b c t/\Rg knd b.toList/\jR (λ(e:Int×ah)k=>knd.is k e.2=U) b.toList a/\a.Nodup/\Z a<=n/\∀q,q∈a↔M q
def pJ.keep{g:cx}(y:pJ knd led h S n M)(k:∀o,h.get? S=Y o->g.get? S=Y o):pJ knd led g S n M:=by
 obtain⟨b,c,t,d,a,r⟩:=y;exact⟨b,c,t,d,a.keep k,r⟩
def vJ{val:Nat->K}{i:Nat}{q:K}:(∃j,j<i+1/\val j=q)↔(∃j,j<i/\val j=q)\/val i=q:=by
 constructor
 .rintro⟨j,h,e⟩;by_cases a:j=i
  .subst a;exact .inr e
  .exact .inl ⟨j,bq (aV h) a,e⟩
 .rintro(⟨j,h,e⟩|e)
  .exact⟨j,cU h,e⟩
  .exact⟨i,ak _,e⟩
section
variable{prog:cg}{w:c6}{A:bT}{G:Array nP->Array nP->Prop}{n:Nat}{P:Nat->ah->Prop}{St:Nat->ai->Prop}{Hs:cx->Nat->Prop}{S:aL}
def G4(prog:cg)(w:c6)(A:bT)(S:aL)(n:Nat)(P:Nat->ah->Prop)(Hs:cx->Nat->Prop):Prop:=
 ∀(i:Nat)(v:ah)(s:ai)(Q:Bool->ai->Prop)(E:ah->ai->Prop),i<n->P i v->Hs s.heap i->(∀b c a,cP S s.heap c->s.toks<=a->Hs c (i+1)->Q b { s with heap:=c,toks:=a })->aF (aG prog w) A (setAdd S v) Q E s
def XT(C:WalksS prog w A.in1 I fp wr G n P St)(B:S∉fp)(keep:∀{i h O},(∀b o,b∉wr->h.get? b=Y o->O.get? b=Y o)->Hs h i->Hs O i)(add:G4 prog w A.in1 S n P Hs) :
  ∀(k i:Nat)(s:ai),n - i=k->i<=n->St i s->Hs s.heap i->(∀F,Moved (S::wr) G s F->Hs F.heap n->R (.ok (.ret .none)) F)->
   codeAny (aG prog w) A (.builtin "set.update.loop" ⟨[.ref S,.ref I],[]⟩) R s:=by
 have sub:∀b∈wr,b∈S::wr:=λb m=>jZ _ m;intro k
 induction k with
 |zero=>
   intro i s hk hi c y g;obtain rfl:i=n:=aD (iF hi) (kX (wt hi) (ae hk));refine fG nL ?_;refine wb9 (C.done s _ _ c λF m=>?_);exact wu9 (g F (m.mono sub) (keep m.heap y))
 |succ k l=>
   intro i s hk hi c y g;refine fG nL ?_;rw[Around.under_plainId nK];have a:i<n:=kX (ws hi) (ae hk.symm);refine wb9 (C.item i s _ _ a c λv F p d m=>?_);refine wb9 (cB (add _ _ _ _ _ a p (keep m.heap y) λb O t j f q=>?_));refine wu9 ⟨g8 nK _,l (i+1) _ (aD (qt (ws a) (wt (ax a)) (ae hk)) (qt (ae hk.symm) (ws (ax a)) (wt a))) a (C.frame _ F _ _ d f λb hb o e=>?_) q λs2 m2 r=>?_⟩
   .rw[j.2 b λz=>B (z▸hb)];exact e
   .refine g s2 (Moved.trans C.gtrans ((m.mono sub).then_heap f λb o hb e=>?_) m2) r;rw[j.2 b λz=>hb (z▸jL)];exact e
end
section
variable{prog:cg}{w:c6}{K:Type}[DecidableEq K]{knd:kW prog w K}
def ZY(val:Nat->K)(O:∀i v,P i v->knd.is (val i) v=U/\v.scannable=U)(hb:n+1<yE):G4 prog w A S n P λh i=>pJ knd led h S i (λq=>∃j,j<i/\val j=q):=by
 intro i v s Q E hi C y k;obtain⟨d,u⟩:=O i v C;obtain⟨V,ep,t,X,x,f,c,B,g,l⟩:=y;refine cB (wb9 (knd.pyHash d ?_));have len:=lT c;rw[bh]at len
 have has:(∃e∈V.toList,knd.is (val i) e.2=U)↔val i∈X:=by
  constructor
  .rintro⟨e,M,N⟩;obtain⟨q,D,F⟩:=mM c M;rw[knd.inj _ _ _ N F];exact D
  .intro q;obtain⟨e,M,N⟩:=nX c q;exact⟨e,M,N⟩
 refine TB d u x f (Nr (ae len) hb g hi) (λb m=>?_) (λb h' T o t' m H I p=>?_)
 .refine k _ _ _ (yH ..) (Hg _) ⟨V,ep,t,X,x,f,c,B,cU g,λq=>?_⟩;show _↔∃j,_;rw[vJ];exact⟨λz=>.inl ((l q).mp z),λz=>z.elim (l q).mpr λe=>e▸has.mp m⟩
 .obtain⟨r,c1,c2⟩:=mL p (ph (R:=λ(e)k=>knd.is k e.2=U) d c);have J' :=λz=>m (has.mpr z);refine k _ h' _ H (Hg _) ⟨T,o,t',r,I,(f.push d u).perm p,c1,?_,?_,λq=>?_⟩
  .refine c2.nodup_iff.mpr (cj.mpr ⟨B,a6.mpr ⟨by simp,dT⟩,λa ha b hb=>?_⟩)
   grind
  .rw[c2.length_eq,aj];exact bb g
  .show _↔∃j,_;rw[c2.mem_iff,au,az,vJ,@eq_comm _ q];exact or_congr (l q) .rfl
end
end
section
variable{z0:ai}
def ME{st:List ah}(B:qI P w z0.heap g p)(hs:∀v∈st,∃l b,v=.ref b/\qI P w z0.heap l b)(h:Q J z0):aF (aG P w) A (searchCouldBeSeen (.ref p) st) Q E z0:=by
 refine wb9 ?_;refine iG _ (λtl r d=>r.1=L/\d=z0/\∀v∈tl,∃l b,v=.ref b/\qI P w _ l b) _ ?_ ?_ _ _ ⟨W,W,hs⟩
 .rintro v tl r d ⟨ge,rfl,a⟩;obtain⟨l,b,rfl,e⟩:=a v jL;dsimp only;split
  .exact wu9 ⟨W,W,λu c=>a u (jZ _ c)⟩
  .refine wb9 (uw Hl B ?_);refine wb9 (uw Hl e ?_);refine wb9 (zN Hl B ?_);exact wb9 (zN Hl e (wu9 ⟨W,W,λu c=>a u (jZ _ c)⟩))
 .rintro⟨f,i⟩ d ⟨rfl,rfl,_⟩;exact wu9 h
end
def below_at(hs:Cu xs)(hi:i<xs.size):aM xs xs[i]=i:=by
 obtain⟨h1,h2,h3⟩:=MZ hs _
 rcases nM (aM xs _) i with hl|hl|hl
 .exact((a7 (hs.get hi hl) (h3 (aM xs _) (cT hl hi) (ak _)))).elim
 .exact hl
 .exact((a7 (h2 i hi hl) (ak _))).elim
def Ox{t:bD}(B:Cu t.place)(hi:i<t.place.size):t.slot t.place[i]=.live i:=by
 rw[AL B (by simp),below_at B hi]
noncomputable abbrev hAt(es:Array (Int×ah))(i:Nat):Int:=(es[i]?.map (·.1)).getD 0
section
variable{P:cg}{w:c6}{A:bT}{s:ai}{es:Array (Int×ah)}{t:bD}
structure Z2(P:cg)(w:c6)(h:cx)(es:Array (Int×ah))(t:bD)(kf:Nat->List NK):Prop where
 mask:t.mask=7\/t.mask=31\/t.mask=127\/t.mask=511
 el:∀(i:Nat)(hi:i<es.size),∃b,es[i].2=.ref b/\qI P w h (kf i) b/\es[i].1=eo P w (kf i)
 std:∀(i:Nat)(hi:i<es.size)(hp:i<t.place.size),nH t es[i].1 t.place[i]
 le:∀j∈t.place.toList,j<=t.mask
theorem AU(a5:A.units+3<=dR)(y:kT led s.heap S es ep t)(z:Z2 P w s.heap es t kf)(O:qI P w s.heap ks p)
  (h1:t.slot (way t N (t.probeStart (eo P w ks))).j=.empty)(h2:∀k<N,t.slot (way t k (t.probeStart (eo P w ks))).j≠.empty)
  (B:∀i,i<es.size->kf i=ks->Q (.there L) s)(new:(∀i,i<es.size->kf i≠ks)->Q (.free (way t N (t.probeStart (eo P w ks))).j J) s) :
  ∀(fuel a:Nat)(qS:Option bK),a<=N->N - a<fuel->qS.getD (t.probeStart (eo P w ks))=way t a (t.probeStart (eo P w ks))->(∀k<a,∀i,t.slot (way t k (t.probeStart (eo P w ks))).j=.live i->kf i≠ks)->
   aF (aG P w) A (setSearchFrom S (.ref p) (eo P w ks) U fuel qS) Q E s
 |0,a,qS,ha,hf,_,_=>((a7 hf (aK _))).elim
 |fuel+1,a,qS,ha,hf,G,o=>by
   have hsz:t.place.size=es.size:=by
    have:=y.fits;simp only[mG,ag,beq_iff_eq]at this;exact this.1
   have g:=z.mask
   have U':t.gaveWay=J:=by
    unfold SetTable.gaveWay
    rcases g with e|e|e|e<;>rw[e]<;>rfl
   have l:∀{j i:Nat},t.slot j=.live i->∃hi:i<es.size,hAt es i=es[i].1:=λ{j i}e=>by
    have hi:=(bY.mp (Qa e)).1;refine⟨aa hi (ae hsz),?_⟩;unfold hAt;simp[aU ((aa hi (ae hsz)))]
   refine wb9 (dG y.obj W y.fits ?_);dsimp only;rw[U'];simp only[if_false,bS];rw[G]
   rcases Dr g y.ok.d (ha:=hAt es) h1 h2 ha with⟨H,D⟩|⟨b,i,b1,b2,H,D,g3,V⟩
   .erw [H]
    refine wu9 (new λi hi e=>?_);obtain⟨n,R,T⟩:=z.std i hi (aa hi (ae hsz.symm));have hh:es[i].1=eo P w ks:=by obtain⟨_,_,_,q⟩:=z.el i hi;rw[q,e]
    rw[hh]at R T;have f:t.slot (way t n (t.probeStart (eo P w ks))).j=.live i:=by rw[R];exact Ox y.ok.r (aa hi (ae hsz.symm))
    have I:n<N:=by
     rcases nM n N with hl|hl|hl
     .exact hl
     .simp_all
     .have:=T N hl;rw[AL y.ok.r this]at h1;cases h1
    rcases gH n a with hl|hl
    .exact o n hl i f e
    .obtain⟨h,e1,e2⟩:=D n hl I;rw[f]at e1
     injection e1 with e1
     subst e1;obtain⟨_,e3⟩:=l f
     simp_all
   .erw [H]
    dsimp only;obtain⟨hi,e3⟩:=l D;obtain⟨c,c1,c2,c3⟩:=z.el i hi
    have u:es[i]?=Y (es[i].1,.ref c):=by
     rw[aU hi,<-c1]
    have next:aF (aG P w) A (do
      let Y (_,v):=es[i]? | unsupported "internal:set-entry"
      let equal <-holding [v] (eqBool v (.ref p));let (es',_,t') <-setState S
      if(U && equal)=U then return .there L
      let Y same:=t'.sameMemory t.moves t.mask|unsupported "set.changed-during-lookup:is-the-new-block-at-the-old-address"
      let still <-match(if same=U then t'.slot (way t b (t.probeStart (eo P w ks))).j else .empty)with
       | .live h=>match es'[h]? with
         |some (_,c0)=>do pure (if(<-isSame c0 v)=U then Y h else L)
         |none=>pure L
       |_=>pure L
      match still with
      |none=>rule "set.search.anew";setSearchFrom S (.ref p) (eo P w ks) U fuel L
      |some h=>if equal=U then return .there (Y h)else setSearchFrom S (.ref p) (eo P w ks) U fuel (Y (way t (b+1) (t.probeStart (eo P w ks))))) Q E s:=by
     rw[u];dsimp only;refine wb9 (cB (ZC a5 c2 O ?_));refine wb9 (dG y.obj W y.fits ?_);by_cases e:kf i=ks
     .rw[decide_eq_true e];exact wu9 (B i hi e)
     .rw[decide_eq_false e];have J':t.sameMemory t.moves t.mask=Y U:=by unfold SetTable.sameMemory;simp
      rw[J'];simp only[if_true];rw[D];dsimp only;rw[u];refine wb9 (wpAny_isSame_ref_self (wb9 (wu9 ?_)));refine AU a5 y z O h1 h2 B new _ _ _ (b2) (Nr (ws b2) (wt ha) hf b1) W λk hk h K L'=>?_
      rcases nM k b with hl|hl|hl
      .rcases gH k a with m|m
       .exact o k m h K L'
       .obtain⟨i2,F,q2⟩:=V k m hl;rw[K]at F
        injection F with F
        subst F;obtain⟨M,q3⟩:=l K;obtain⟨_,_,_,q4⟩:=z.el h M
        simp_all
      .simp_all
      .exact a7 hk hl
    split
    .refine wb9 (ME O (λv X=>?_) next)
     .obtain⟨x,C,rfl⟩:=bX.mp X;obtain⟨k,hk,rfl⟩:=Array.mem_iff_getElem.mp (Array.mem_filter.mp (Array.mem_toList_iff.mp C)).1;obtain⟨c4,d1,d2,_⟩:=z.el k hk;exact⟨_,c4,d1,d2⟩
    .exact next
end
section
variable{z0:ai}
def Zs(B:qI P w z0.heap g p)(h:∀b,Q b z0):aF (aG P w) A (hashByValue 8 (.ref p)) Q E z0:=RY Hl B h
end
section
variable{P:cg}{w:c6}{A:bT}{s:ai}{es:Array (Int×ah)}{t:bD}
def _root_.L2.rT.keepsC(x:rT I h g p)(go:h.get? d=Y o)(B:o.cls≠.type "tuple")(O:cP d h C):rT I C g p:=
 x.oK (ZS go B λb o n e=>(O.2 b n).trans e)
structure EC(P:cg)(w:c6)(h:cx)(es:Array (Int×ah))(t:bD):Prop where
 mask:t.mask=7\/t.mask=31\/t.mask=127\/t.mask=511
 el:∀e∈es.toList,∃l b,e.2=.ref b/\qI P w h l b/\e.1=eo P w l
 std:∀q∈es.toList.zip t.place.toList,nH t q.1.1 q.2
 le:∀j∈t.place.toList,j<=t.mask
 nf:t.place.size * 5<t.mask * 3
def EC.toN(z:EC P w h es t):∃g,Z2 P w h es t g:=by
 refine⟨λi=>if hi:i<es.size then(z.el es[i] (by simp)).choose else [],z.mask,λi hi=>?_,λi hi hp=>?_,z.le⟩
 .obtain⟨b,h1,h2,h3⟩:=(z.el es[i] (by simp)).choose_spec;refine⟨b,h1,?_,?_⟩
  .rwa[dif_pos hi]
  .rwa[dif_pos hi]
 .refine z.std (es[i],t.place[i]) ?_;refine cQ.mpr ⟨i,by simp;omega,by simp⟩
def sD{l g:List Nat}(O:l.Nodup)(B:g.Nodup)(h:∀x∈l,x∈g):Z l<=Z g:=by
 have hp:l.Perm (g.filter λx=>decide (x∈l)):=by
  rw[fR O (Ak Hi B)]
  simp_all
 rw[hp.length_eq];exact c8 _ _
def Wu(B:Cu t.place)(hf:t.place.size<t.mask+1)(hd:t.dummies=#[]):∃j,j<t.mask+1/\t.slot j=.empty:=by
 rcases JE (∃j,j<t.mask+1/\t.slot j=.empty)with h|h
 .exact h
 .exfalso;have:=sD fM (oX (λh=>(a9 h)) B) λj(b)=>Le hd λe=>h ⟨j,bu.mp b,e⟩;rw[a8]at this;exact a7 hf this
def Ds(O:A.units+3<=dR)(y:kT led s.heap S es I t)(z:EC P w s.heap es t)(C:qI P w s.heap F p)
  (B:(∃e∈es.toList,∃b,e.2=.ref b/\qI P w s.heap F b)->Q (.there L) s)
  (new:∀j,(¬ ∃e∈es.toList,∃b,e.2=.ref b/\qI P w s.heap F b)->t.slot j=.empty->j<=t.mask->nH (t.put j).1 (eo P w F) j->Q (.free j J) s) :
  aF (aG P w) A (setSearch S (.ref p) (eo P w F) U) Q E s:=by
 refine ac λ_ x=>?_;obtain⟨v,n⟩:=z.toN;have f:=z.nf;obtain⟨j,l,he⟩:=Wu y.ok.r (by rcases z.mask with e|e|e|e<;>rw[e]at f ⊢<;>omega) y.ok.d;obtain⟨N,m,h1,h2⟩:=Eb z.mask y.ok.d _ l he;refine x ?_;refine AU O y n C h1 h2 (λi hi e=>B ?_) (λg=>new _ ?_ h1 (C8 N _) (nH.new λk hk=>Le y.ok.d (h2 k hk))) _ 0 L (aK _) (aa m bR) W λk hk=>((a7 hk (aK _))).elim
 .obtain⟨b,a,h,_⟩:=n.el i hi;exact⟨_,by simp,b,a,e▸h⟩
 .rintro⟨e,he,b,a,h⟩;obtain⟨i,hi,rfl⟩:=cQ.mp he;have c:i<es.size:=by simpa using hi
  obtain⟨u,o,q,_⟩:=n.el i c;rw[p4]at a;rw[o]at a;cases a;exact g i c (q.inj h)
end
section
variable{s:ai}
def OY(y:kT led s.heap S es C t)(B:fF wanted<=aE)(hl:t.relaid (es.map (·.1)) wanted=Y (t',o))(hs:(o.filterMap (es[·]?)).size=es.size)
  (f:t'.fits (o.filterMap (es[·]?)).size=U)(ok:qj led t')(O:es.size<=aE)(k:∀g,cP S s.heap g->kT led g S (o.filterMap (es[·]?)) (C+1) t'->Q () { s with heap:=g }) :
  aF (aG P w) A (setRelay S wanted) Q E s:=by
 refine wb9 (dG y.obj W y.fits ?_);dsimp only;rw[if_neg (λz=>(a7 z B)),hl];refine wb9 ?_;change aF _ _ (if((o.filterMap _).size != es.size)=U then(unsupported _ >>= λ_=>pure (o.filterMap _,t'))else pure (o.filterMap _,t')) ..;rw[if_neg (by simp[hs])];exact wu9 (qT y f ok (by rwa[hs]) k)
end
theorem filterMap_map{α B:Type}{f:α->Option B}{g:α->B}:∀{l:List α},(∀k∈l,f k=Y (g k))->l.filterMap f=l.map g
 |[],_=>rfl
 |a::l,h=>by rw[qH,h a jL,aA,filterMap_map λk hk=>h k (jZ _ hk)]
def HS(es:Array (Int×ah)):(aQ es.size).map (λk=>(es[k]?).getD (0,.none))=es.toList:=by
 apply ju
 .simp
 simp_all
section
variable{es:Array (Int×ah)}
def Bd{o:Array Nat}(hp:o.toList.Perm (aQ es.size)):(o.filterMap (es[·]?)).toList=o.toList.map (λk=>(es[k]?).getD (0,.none)):=by
 rw[Array.toList_filterMap];refine filterMap_map λk hk=>?_;have :=bu.mp (hp.mem_iff.mp hk)
 simp_all
def vB{o:Array Nat}(hp:o.toList.Perm (aQ es.size)):(o.filterMap (es[·]?)).toList.Perm es.toList:=by
 rw[Bd hp];have:=hp.map (λk=>(es[k]?).getD (0,fm));rwa[HS]at this
def OZ{h:cx}(B:mask=7\/mask=31\/mask=127\/mask=511)(O:es.size<=mask)(g:es.size * 5<mask * 3)(el:∀e∈es.toList,∃l b,e.2=.ref b/\qI P w C l b/\e.1=eo P w l) :
  ∃t' o,mF mask f m led pl (es.map (·.1))=Y (t',o)/\(o.filterMap (es[·]?)).size=es.size/\t'.fits (o.filterMap (es[·]?)).size=U/\qj led t'/\(o.filterMap (es[·]?)).toList.Perm es.toList/\EC P w C (o.filterMap (es[·]?)) t':=by
 obtain⟨t',o,h1,h2,h3,a,u,k,n⟩:=Qc (hs:=es.map _) B (by simpa using O);have a:o.toList.Perm (aQ es.size):=by simpa using a
 have hp:=vB a;have t:(o.filterMap (es[·]?)).size=es.size:=by rw[<-bh,hp.length_eq,bh]
 have p:o.size=es.size:=by rw[<-bh,a.length_eq,a8]
 have ok:=qj.laid h1;refine⟨t',o,h1,t,?_,ok,hp,?_⟩
 .simp only[mG,pY,ag,beq_iff_eq,decide_eq_true_eq,ok.d]
  simp_all
 .refine⟨by rwa[h2],λe he=>el e (hp.mem_iff.mp he),λq r=>?_,λj s=>by rw[h2];exact k j s,Nr (Nat.mul_le_mul_left 5 (ae u)) g (Nat.mul_le_mul_left 5 (ae p)) (Nat.mul_le_mul_left 3 (ae h2.symm))⟩;obtain⟨i,hi,rfl⟩:=cQ.mp r;rw[wz]at hi;have c:i<o.size:=by simp at hi;omega
  have hk:o[i]<es.size:=bu.mp (a.mem_iff.mp (by simp))
  have v:(o.filterMap _).toList[i]'(by exact aa hi (jP _ _))=es[o[i]]:=by
   simp only[Bd a,um,p4,aU hk,tm]
  have x:=n i c (aa c (ae u.symm))
  simp_all
end
def Gb{α:Type}(xs:Array α)(hp:p<=xs.size)(x:α):(dc xs p x).size=xs.size+1:=by
 rw[<-bh,eR,aj,bM,fO,eC];exact aD (kX (jP p _) (ad hp)) (kX (am hp) (a0 p xs.size (iF hp)))
def BD{α:Type}(xs:Array α)(p:Nat)(x:α):(dc xs p x).toList.Perm (xs.toList++[x]):=by
 rw[eR];refine Nj.trans ?_;rw[bo];exact dS (l₁:=[x])
def Ql{α C:Type}(xs:Array α)(g:Array C)(h:xs.size=g.size){p:Nat}(hp:p<=xs.size)(x:α)(y:C){q:α×C}(B:q∈(dc xs p x).toList.zip (dc g p y).toList):q=(x,y)\/q∈xs.toList.zip g.toList:=by
 rw[eR,eR,NP (by simp;exact aD (kX (jP p _) (a0 p g.size (kX hp (ae h)))) (kX (jP p _) (a0 p xs.size (iF hp))))]at B
 have a:xs.toList.zip g.toList=(xs.toList.take p).zip (g.toList.take p)++(xs.toList.drop p).zip (g.toList.drop p):=by
  rw[<-NP (by simp;exact aD (kX (jP p xs.size) (a0 p g.size (kX hp (ae h)))) (kX (jP p g.size) (a0 p xs.size (iF hp)))),bo,bo]
 rw[a]
 rcases au.mp B with B|B
 .simp_all
 .rcases aw.mp B with B|B
  .exact .inl B
  .exact .inr (au.mpr (.inr B))
section
def AB{c:Prop}[Decidable c]{m O:Au Bool}{k:Bool->Au Bool}{Q:Bool->ai->Prop}(h:∀b,aF (aG P w) A (k b) Q E s)(g:∀{C:Bool->ai->Prop},(∀b,C b s)->aF (aG P w) A m C E s)(B:∀{C:Bool->ai->Prop},(∀b,C b s)->aF (aG P w) A O C E s) :
  aF (aG P w) A (if c then m >>= k else O >>= k) Q E s:=by
 split
 .exact wb9 (g h)
 .exact wb9 (B h)
def nH.plain(h:nH t x j):nH { t with plain:=b } x j:=
 nH.mono (t:=t)  rfl (λ_ h=>h) h
def Qp(B:mask=7\/mask=31\/mask=127\/mask=511)(h0:n * 5<mask * 3)(h1:(n+1) * 5>=mask * 3)(O:n<300):(fF (dO (n+1)) - 1=31\/fF (dO (n+1)) - 1=127\/fF (dO (n+1)) - 1=511)/\n+1<=fF (dO (n+1)) - 1/\(n+1) * 5<(fF (dO (n+1)) - 1) * 3/\fF (dO (n+1))<=512:=by
 rcases B with rfl|rfl|rfl|rfl
 .obtain rfl:n=4:=by omega
  decide +kernel
 .obtain rfl:n=18:=by omega
  decide +kernel
 .obtain rfl:n=76:=by omega
  decide +kernel
 .exact ⟨(.inl (VN h1 (Nat.mul_le_mul_left 5 O)).elim),⟨(VN h1 (Nat.mul_le_mul_left 5 O)).elim,⟨(VN h1 (Nat.mul_le_mul_left 5 O)).elim,(VN h1 (Nat.mul_le_mul_left 5 O)).elim⟩⟩⟩
end
section
variable{s:ai}{A:bT}
set_option tactic.hygienic true in
def add_n(i_:A.units+3<=dR)(y:kT led s.heap S es ep t)(z:EC P w s.heap es t)(O:qI P w s.heap ks p)(room:es.size<300)
  (a5:∀b,(∃e∈es.toList,∃b,e.2=.ref b/\qI P w s.heap ks b)->Q b s)
  (new:∀b h' es' c0 t',(¬ ∃e∈es.toList,∃b,e.2=.ref b/\qI P w s.heap ks b)->cP S s.heap h'->kT led h' S es' c0 t'->EC P w h' es' t'->es'.toList.Perm (es.toList++[(eo P w ks,.ref p)])->Q b { s with heap:=h' }) :
  aF (aG P w) A (setAddHashed S (.ref p) (eo P w ks)) Q E s:=by
 have hsz:t.place.size=es.size:=by
  have:=y.fits;simp only[mG,ag,beq_iff_eq]at this;exact this.1
 refine cB ?_;refine wb9 (dG y.obj W y.fits ?_);dsimp only;refine wb9 (Ds i_ y z O (λh=>(wu9 (a5 _ h))) (λj F hs N R=>?_))
 .refine wb9 (dG y.obj W y.fits ?_);refine AB (λb=>?_) (λq=>Zs O q) (λq=>wu9 (q _));have i :=(MZ y.ok.r j).1
  have n:({ cls:=.type "set",dict:=L,data:=.set es ep t }:lD).cls≠.type "tuple":=by
   simp
  generalize m:(if b=U then(t.put j).1 else { (t.put j).1 with plain:=J })=t1;have T:t1.place=dc t.place (aM t.place j) j:=by rw[<-m];split<;>rfl
  have L':t1.mask=t.mask:=by rw[<-m];split<;>rfl
  have G:qj led t1:=by
   have:=y.ok.put (vd y.ok.d hs);rw[<-m];split
   .exact this
   .exact this.off
  have q4:∀x a,nH _ x a->nH t1 x a:=λx a h=>by
   rw[<-m];split
   .exact h
   .exact h.plain
  have C:t1.place.size=es.size+1:=by rw[T,Gb _ i,hsz]
  have g:(dc es (aM _ j) (eo P w ks,dn p)).size=es.size+1:=Gb _ (aa i (ae hsz)) _;have c:=BD es (aM t.place j) (eo P w ks,dn p)
  have u:∀e,e∈(dc es (aM _ j) _).toList->e∈es.toList\/e=(eo P w ks,dn p):=λe he=>by
   rcases au.mp (c.mem_iff.mp he)with h|h
   .exact .inl h
   .exact .inr (az.mp h)
  have H:=z.nf
  have v:t1.fits (dc es (aM t.place j) (eo P w ks,dn p)).size=U:=by
   simp only[mG,pY,ag,beq_iff_eq,decide_eq_true_eq,G.d];refine⟨aD (aa (ae C) (ae g.symm)) (aa (ae g) (ae C.symm)),?_⟩;show t1.place.size+0<=t1.mask;rw[L']
   rcases z.mask with e|e|e|e<;>rw[e]at H ⊢<;>omega
  have I:∀a∈t1.place.toList,a<=t1.mask:=λa ha=>by
   rw[T]at ha;rw[L']
   rcases au.mp ((BD _ (aM _ j) j).mem_iff.mp ha)with h|h
   .exact z.le a h
   .rwa[az.mp h]
  have k:∀q∈(dc es (aM _ j) (eo P w ks,dn p)).toList.zip t1.place.toList,nH t1 q.1.1 q.2:=λq hq=>by
   rw[T]at hq
   rcases Ql es _ hsz.symm (aa i (ae hsz)) _ _ hq with h|h
   .rw[h];exact q4 _ _ R
   .exact q4 _ _ (nH.mono (t:=t)  rfl (λa ha=>FT.mpr (.inr ha)) (z.std q h))
  rw[show(t.put j).2=aM _ j from rfl];generalize dc es (aM _ j) _=es1 at g c u v k ⊢;refine wb9 (qT y v G (by rw[g];exact aa room bR) λh1 M U'=>?_)
  have B:∀h',cP S _ h'->∀e∈es1.toList,∃l b,e.2=.ref b/\qI P w h' l b/\e.1=eo P w l:=λh' J' e he=>by
   rcases u e he with h|h
   .obtain⟨l,b,V,c3,X⟩:=z.el e h;exact⟨l,b,V,c3.keepsC y.obj n J',X⟩
   .rw[h];exact⟨ks,p,W,O.keepsC y.obj n J',W⟩
  split
  .rename_i f
   have f:(es.size+1) * 5>=t.mask * 3:=by
    simp only[Rq,nN,EG,pY,G.d,decide_eq_true_eq]at f;have:(#[]:Array Nat).size=0:=rfl;exact Nr (Nat.mul_le_mul_left 3 (ae L'.symm)) f (Nat.mul_le_mul_left 5 (ae C)) (Nat.mul_le_mul_left 5 (ae this))
   refine ac λ_ kq=>?_;obtain⟨m1,m2,m3,m4⟩:=Qp z.mask (by rwa[<-hsz]) f room;obtain⟨t',o,V,c3,X,r4,r5,K⟩:=OZ (h:=s.heap) (.inr m1) (aa (ae g) m2) (kX (Nat.mul_le_mul_left 5 (ae g)) m3) (B h1 M)
   refine kq ?_;have hrl:t1.relaid (es1.map (·.1)) (dO (es.size+1))=Y (t',o):=by
    unfold Hb;rwa[G.l]
   refine wb9 (OY U' (by exact aa m4 bR) hrl c3 X r4 (by rw[g];exact aa room bR) λh2 AV y2=>?_)
   have D:({ cls:=.type "set",dict:=L,data:=.set es1 (ep+1) t1 }:lD).cls≠.type "tuple":=by
    simp
   refine wu9 (new _ h2 _ _ _ F (M.trans AV) y2 ⟨K.mask,λe he=>?_,K.std,K.le,K.nf⟩ (r5.trans c));obtain⟨l,b,s1,s2,s3⟩:=K.el e he;exact⟨l,b,s1,s2.keepsC U'.obj D AV,s3⟩
  .rename_i f
   have f:(es.size+1) * 5<t.mask * 3:=by
    simp only[Rq,nN,EG,pY,G.d,decide_eq_true_eq]at f;exact qt (Nat.mul_le_mul_left 5 (ae C.symm)) (cz f) (Nat.mul_le_mul_left 3 (ae L'))
   exact wu9 (new _ h1 _ _ _ F M U' ⟨by rw[L'];exact z.mask,B h1 M,k,I,by rwa[L',C]⟩ c)
end
section
variable{prog:cg}{w:c6}{A:bT}{s:ai}
abbrev yZ(w:c6):lD:={ cls:=.type "set",dict:=L,data:=.set #[] 0 (.fresh 0 0 (px w)) }
def OF(a:ah)(k:Q (.ref s.heap.objs.size) { s with heap:=s.heap.push (yZ w) }):codeAny (aG prog w) A (.call (.builtin "set.__new__") ⟨[.type "set",a],[]⟩) (wants Q E) s:=by
 refine mm PySem.F.plain_set_new PySem.F.entry_set_new (kE (PySem.F.newCall_set_1 a) ?_);have b:=sub_set_self;obtain⟨hp,g,d,c,os⟩:=s
 wp_walk
 refine yD ?_;exact wu9 (wb9 (wpAny_alloc (wu9 (wu9 k))))
def zS{T:String}(O:TypeCalled T R P)(ct:checkTypeCall T ⟨args,[]⟩=pure ())(eI:entryFor table P=Y B)
  (C:codeAny (aG prog w) A.in1 (.call (.builtin R) ⟨.type T::args,[]⟩) (wants Q1 E) s)
  (S:∀I s1,Q1 I s1->s1.TypeIs I T/\codeAny (aG prog w) A.in1 (.call (.builtin P) ⟨I::args,[]⟩) (wants (λr s2=>r=.none/\Q I s2) E) s1) :
  aF (aG prog w) A (call (.type T) args) Q E s:=by
 obtain⟨c,tl,n⟩:=O.mro;have o:=O.made;have p:=O.sub;refine wpAny_call (codeAny_of_tree ?_);refine wu9 (uW (Code.quiet_builtin _ (by decide +kernel)) (fG PySem.F.entry_type_call ?_));have h:=O.notType;have e5:=O.canCreate
 repeat any_goals first|assumption|wp_step
 refine kY C λr s1 b=>?_
 cases r with
 |error e=>exact b
 |ok m=>
   cases m with
   |ret I=>
     obtain⟨i,f⟩:=S _ _ b;have j:=O.init.lookup;have k:=O.init.bind I
     repeat any_goals first|assumption|wp_step
     refine kY f λg s2 a=>?_
     cases g with
     |error e=>exact a
     |ok d=>
       cases d with
       |ret r=>
         obtain⟨rfl,l⟩:=a
         repeat any_goals first|assumption|wp_step
       |_=>exact a.elim
   |_=>exact b.elim
def I0{T:String}(ty:s.TypeIs v T)(a:isSubtype (.type T) (.type "set")=pure J)(b:isSubtype (.type T) (.type "frozenset")=pure J)(k:Q J s):aF M A (NG v) Q E s:=by
 exact wb9 (di ty a (di ty b k))
variable{K:Type}[DecidableEq K]{knd:kW prog w K}
def CA(prog:cg)(w:c6)(h:cx)(v:ah)(n:Nat)(P:Nat->ah->Prop):Prop:=
 ∀(A1:bT)(c:ah->ai->Prop)(s1:ai)(d:ah->ai->Prop),h.objs.size<s1.heap.objs.size->(∀b o,h.get? b=Y o->s1.heap.get? b=Y o)->
  (∀(o:lD)(fp:List aL)(St:Nat->cx->Prop),(∀a,a.handled=L->Walks prog w a s1.heap.objs.size fp [s1.heap.objs.size] n P St)->(∀b∈fp,b=s1.heap.objs.size\/b<h.objs.size)->St 0 (s1.heap.push o)->
   d (.ref s1.heap.objs.size) { s1 with heap:=s1.heap.push o })->aF (aG prog w) A1 (CU v) d c s1
def RC{T:String}(hh:A.handled=L)(ty:∀s1:ai,(∀b o,s.heap.get? b=Y o->s1.heap.get? b=Y o)->s1.TypeIs v T)
  (a:isSubtype (.type T) (.type "set")=pure J)(b:isSubtype (.type T) (.type "frozenset")=pure J)(nd:(gG T == gG "dict")=J)(B:CA prog w s.heap v n P)
  (keep:∀{i h C},(∀b o,b≠s.heap.objs.size+1->h.get? b=Y o->C.get? b=Y o)->Hs h i->Hs C i)(add:G4 prog w A.in1.in1.in1 s.heap.objs.size n P Hs)
  (h0:∀o,Hs ((s.heap.push (yZ w)).push o) 0)
  (k:∀C O,Hs C n->(∀b o,s.heap.get? b=Y o->C.get? b=Y o)->Q (.ref s.heap.objs.size) { s with heap:=C,toks:=O }) :
  aF (aG prog w) A (call (.type "set") [v]) Q E s:=by
 refine zS (Q1:=λg s1=>g=.ref s.heap.objs.size/\s1={ s with heap:=s.heap.push (yZ w) }) C1 (PySem.F.typeCall_set_1 v) yJ (OF v ⟨W,W⟩) ?_;rintro g s1 ⟨rfl,rfl⟩;have gS:(s.heap.push (yZ w)).get? s.heap.objs.size=Y (yZ w):=aH _ W;have j:Shared.TypeIs { s with heap:=s.heap.push (yZ w) } (.ref s.heap.objs.size) "set":=⟨_,gS,W⟩
 refine⟨j,mm C1.init.plain yJ (check_set_init_1 j ?_)⟩;have r:∀b o,s.heap.get? b=Y o->(s.heap.push (yZ w)).get? b=Y o:=λb o e=>hp9 _ e;unfold iC.«set.__init__» noKeywords;generalize l:ND=U'
 wp_walk
 subst l;refine wb9 (I0 (ty _ r) a b ?_);refine wb9 (iT (ty _ r) ?_);rw[nd];have sz:(s.heap.push (yZ w)).objs.size=s.heap.objs.size+1:=fQ ..;refine wb9 (B _ _ _ _ (by simp) r λo fp St p c st=>?_);refine wb9 (CO ?_);refine XT (Hs:=Hs) (p _ (by simp[hh])).toS (λm=>?_) (λh=>keep λb o hb=>h b o (by simpa [sz]using hb)) add n 0 _ W (aK _) st (h0 o) λt m y=>?_
 .rcases c _ m with q|q
  .exact absurd (q.trans sz) (a9 (hV _))
  .exact absurd q (bB _)
 .refine wu9 ?_;obtain⟨C,u,x,d,f⟩:=t;obtain rfl:u=s.gens:=m.gens;obtain rfl:x=s.drawn:=m.drawn;obtain rfl:f=s.os:=m.os;refine wu9 ⟨W,k C d y λb o e=>m.heap b o (λz=>?_) (hp9 _ (hp9 _ e))⟩;have lt:=hl9 e
  grind
def Kc{T:String}(hh:A.handled=L)(ty:∀s1:ai,(∀b o,s.heap.get? b=Y o->s1.heap.get? b=Y o)->s1.TypeIs v T)
  (a:isSubtype (.type T) (.type "set")=pure J)(b:isSubtype (.type T) (.type "frozenset")=pure J)(nd:(gG T == gG "dict")=J)(B:CA prog w s.heap v n P)
  (val:Nat->K)(O:∀i v,P i v->knd.is (val i) v=U/\v.scannable=U)(hb:n+1<yE)
  (k:∀C g,pJ knd (px w) C s.heap.objs.size n (λq=>∃j,j<n/\val j=q)->(∀b o,s.heap.get? b=Y o->C.get? b=Y o)->Q (.ref s.heap.objs.size) { s with heap:=C,toks:=g }) :
  aF (aG prog w) A (call (.type "set") [v]) Q E s:=by
 refine RC (Hs:=λh i=>pJ knd (px w) h s.heap.objs.size i (λq=>∃j,j<i/\val j=q)) hh ty a b nd B (λq y=>y.keep λo=>q _ o (a9 (hV _))) (ZY val O hb) (λo=>?_) k;exact⟨#[],0,_,[],⟨hp9 _ (aH _ W),by rfl,qj.fresh _⟩,λe he=>by simp at he,.nil,dT,ak _,λq=>by simp⟩
end
section
variable{P:cg}{w:c6}
def _root_.L2.rT.mono{g:cx}(x:rT I h B p)(k:∀b o,h.get? b=Y o->g.get? b=Y o):rT I g B p:=x.oK λb o e _ _=>k b o e
def ED(P:cg)(w:c6)(led:Bool)(h:cx)(S:aL)(g:Nat->List NK)(B:Nat->aL)(i:Nat):Prop:=
 ∃b c t a,kT led h S b c t/\EC P w h b t/\jR (λ(e:Int×ah)j=>e.2=.ref (B j)) b.toList a/\(a.map g).Nodup/\(∀j∈a,j<i)/\∀j,j<i->g j∈a.map g
variable{kf:Nat->List NK}{av:Nat->aL}
def ED.keep{B:cx}(y:ED P w led h S kf av i)(k:∀o,h.get? S=Y o->B.get? S=Y o)(a:∀j,j<i->qI P w h (kf j) (av j))(b:∀j,j<i->qI P w B (kf j) (av j)):ED P w led B S kf av i:=by
 refine ac λ_ r=>?_;obtain⟨v,x,t,z,n,c,f,p,d,q⟩:=y;refine r ?_;refine⟨v,x,t,z,n.keep k,⟨c.mask,λe he=>?_,c.std,c.le,c.nf⟩,f,p,d,q⟩;refine ac λ_ r=>?_;obtain⟨l,b0,s,A,u⟩:=c.el e he;obtain⟨j,g,m⟩:=mM f he;refine r ?_;rw[m]at s;cases s;rw[A.inj (a j (d j g))]at u;exact⟨_,_,m,b j (d j g),u⟩
variable{A:bT}{G:Array nP->Array nP->Prop}{St:Nat->ai->Prop}
def Qo{h:cx}{es:Array (Int×ah)}{C:List Nat}{i m:Nat}(B:jR (λ(e:Int×ah) j=>e.2=.ref (av j)) es.toList C)(O:∀j∈C,j<i)(a:∀j,j<m->qI P w h (kf j) (av j))(hi:i<m) :
  (∃e∈es.toList,∃b,e.2=.ref b/\qI P w h (kf i) b)↔kf i∈C.map kf:=by
 constructor
 .rintro⟨e,he,b,c,k⟩;obtain⟨j,d,f⟩:=mM B he;rw[f]at c;cases c;rw[k.inj (a j (cT (O j d) hi))];exact c9 d
 .intro q;obtain⟨j,d,e⟩:=bX.mp q;obtain⟨x,g,f⟩:=nX B d;exact⟨x,g,_,f,e▸a j (cT (O j d) hi)⟩
def ZX(a5:∀i v,Pv i v->v=.ref (av i))(hk:∀j,j<n->qI P w h0 (kf j) (av j))(B:h0.get? S=L)(hb:n<=300)(O:A.units+3<=dR) :
  G4 P w A S n Pv λh i=>(i<=n/\∀b o,h0.get? b=Y o->h.get? b=Y o)/\ED P w led h S kf av i:=by
 intro i v s Q E hi I y k;obtain⟨⟨M,g⟩,X,ep,t,T,x,C,f,l,m,D⟩:=y;obtain rfl:=a5 i v I;have kin:∀j,j<n->qI P w s.heap (kf j) (av j):=λj c=>(hk j c).mono g;refine cB (wb9 (D4 O (kin i hi) ?_));have len:=lT f;rw[bh]at len
 have q:Z T<=i:=by
  have J' :=(fo.mp l).imp λh e=>h (congrArg kf e);have:=sD J' fM λj c=>bu.mpr (m j c)
  simp_all
 have has:=Qo f m kin hi;refine add_n O x C (kin i hi) (Nr (ae len) q hi hb) (λb r=>?_) (λb h' V u t' r F K L' p=>?_)
 .refine k _ _ _ (yH ..) (aX _ _) ⟨⟨hi,g⟩,X,ep,t,T,x,C,f,l,λj c=>kA (m j c),λj c=>?_⟩;by_cases e:j=i
  .subst e;exact has.mp r
  .exact D j (bq (iF c) e)
 .obtain⟨d,c1,c2⟩:=mL p (ph (R:=λ(e)j=>e.2=.ref (av j)) W f);have N :=λz=>r (has.mpr z)
  have H:(d.map kf).Perm (T.map kf++[kf i]):=by
   have:=c2.map kf
   rwa [dJ]at this
  refine k _ h' _ F (aX _ _) ⟨⟨hi,λb o e=>?_⟩,V,u,t',d,K,L',c1,?_,λj c=>?_,λj c=>?_⟩
  .rw[F.2 b λz=>by rw[z,B]at e;cases e];exact g b o e
  .refine H.nodup_iff.mpr (cj.mpr ⟨l,a6.mpr ⟨by simp,dT⟩,λa ha b hb=>?_⟩)
   grind
  .grind
  .rw[H.mem_iff];by_cases e:j=i
   .grind
   .exact aC _ (D j (bq (iF c) e))
end
section
variable{A:bT}{s:ai}
def HB{T:String}(hh:A.handled=L)(ty:∀s1:ai,(∀b o,s.heap.get? b=Y o->s1.heap.get? b=Y o)->s1.TypeIs v T)
  (a:isSubtype (.type T) (.type "set")=pure J)(b:isSubtype (.type T) (.type "frozenset")=pure J)(nd:(gG T == gG "dict")=J)(B:CA P w s.heap v n S)
  (g:∀i v,S i v->v=.ref (I i))(hk:∀j,j<n->qI P w s.heap (R j) (I j))(hb:n<=300)(C:A.in1.in1.in1.units+3<=dR)
  (k:∀F O,ED P w (px w) F s.heap.objs.size R I n->(∀b o,s.heap.get? b=Y o->F.get? b=Y o)->Q (.ref s.heap.objs.size) { s with heap:=F,toks:=O }) :
  aF (aG P w) A (call (.type "set") [v]) Q E s:=by
 have l:∀o b f,s.heap.get? b=Y f->((s.heap.push (yZ w)).push o).get? b=Y f:=λo b f e=>hp9 _ (hp9 _ e);have low:∀b o,s.heap.get? b=Y o->b≠s.heap.objs.size+1:=λb o e=>a9 (kA (hl9 e));refine RC (Hs:=λh i=>(i<=n/\∀b o,s.heap.get? b=Y o->h.get? b=Y o)/\ED P w (px w) h s.heap.objs.size R I i) hh ty a b nd B (λ{i h F}q y=>have m:=λb o e=>q b o (low b o e) (y.1.2 b o e);⟨⟨y.1.1,m⟩,y.2.keep (λo=>q _ o (a9 (hV _))) (λj c=>(hk j (aT c y.1.1)).mono y.1.2) λj c=>(hk j (aT c y.1.1)).mono m⟩) (ZX g hk (EJ (ak _)) hb C) (λo=>⟨⟨aK _,l o⟩,?_⟩) λF O y=>k F O y.2;refine⟨#[],0,_,[],⟨hp9 _ (aH _ W),by rfl,qj.fresh _⟩,⟨.inl W,λe he=>by simp at he,λq d=>by simp at d,λj c=>?_,by show 0 * 5<7 * 3;decide⟩,.nil,dT,λj c=>by simp at c,λj c=>((a7 c (aK _))).elim⟩;simp[SetTable.fresh]at c
end
end L2
local macro_rules | `(tactic| walk_at $s:str) => if s.getString.startsWith "u " then do let n := Lean.mkIdent (Lean.mkPrivateNameCore `PySem.Builtin.List.W1All (`PySem.Builtin ++ (s.getString.drop 2).toString.toName)); `(tactic| delta $n:ident) else Lean.Macro.throwUnsupported
namespace L2
open PySem PySem.W PySem.Spec PyProof.Rows
structure Lt(lt:Nat->Nat->Bool):Prop where
 tr:∀i j k,lt i j=U->lt j k=U->lt i k=U
 co:∀i j,i≠j->lt i j=J->lt j i=U
 as:∀i j,lt i j=U->lt j i=J
noncomputable def zD:Bool->jN->Array jN->Nat->Nat->Nat->StateT bP Au (Option Nat):=sortPriv% PySem.Builtin.gallop
noncomputable def Br:Array jN->Array jN->StateT bP Au (Array jN):=sortPriv% PySem.Builtin.mergeLo
noncomputable def Bs:Array jN->Array jN->StateT bP Au (Array jN):=sortPriv% PySem.Builtin.mergeHi
section
variable{P:cg}{w:c6}{A:bT}{E:ah->ai->Prop}{s:ai}{κ:p3}{it:Nat->jN}{lt:Nat->Nat->Bool}{N:Nat}
def Wt(P:cg)(w:c6)(A:bT)(E:ah->ai->Prop)(s:ai){α:Type}(m:StateT bP Au α)(G:α->bP->Prop)(st:bP):Prop:=
 kasC (aG P w) A E m (λr a b=>G r a/\b=s) st s
variable{α β:Type}{G:β->bP->Prop}{st:bP}
def Wt.pure(h:G b st):Wt P w A E s (pure b) G st:=kasC_pure ⟨h,W⟩
def Wt.bind(h:Wt P w A E s m (λa B=>Wt P w A E s (f a) G B) st):Wt P w A E s (m >>= f) G st:=
 kasC_bind (dE h (λ_ _ z=>by obtain⟨z,rfl⟩:=z;exact z) λ_ _ e=>e)
def Wt.mono(h:Wt P w A E s m g st)(f:∀b B,g b B->G b B):Wt P w A E s m G st:=
 dE h (λ_ _ z=>⟨f _ _ z.1,z.2⟩) λ_ _ e=>e
def Wt.get{G:bP->bP->Prop}(h:G st st):Wt P w A E s (get:StateT bP Au bP) G st:=kasC_get ⟨h,W⟩
def Wt.modify{G:PUnit->bP->Prop}(h:G ⟨⟩ (f st)):Wt P w A E s (modify f:StateT bP Au PUnit) G st:=kasC_modify ⟨h,W⟩
def Wt.set{G:PUnit->bP->Prop}(h:G ⟨⟩ g):Wt P w A E s (MonadStateOf.set g:StateT bP Au PUnit) G st:=by
 exact wu9 ⟨h,W⟩
def Wt.rule{G:Unit->bP->Prop}(h:G () st):Wt P w A E s (liftM (rule n):StateT bP Au Unit) G st:=kasC_lift (gm ⟨h,W⟩)
abbrev Z1(G I:β->bP->Prop):ForInStep β->bP->Prop
 |.done b,st=>G b st
 |.yield b,st=>I b st
def Wt.loop{l:List Nat}{b:β}{f:Nat->β->StateT bP Au (ForInStep β)}(I:Nat->β->bP->Prop)(h0:I 0 b st)
  (hb:∀j x b st,l[j]?=Y x->I j b st->Wt P w A E s (f x b) (Z1 G (I (j+1))) st)(he:∀b st,I l.length b st->G b st):Wt P w A E s (forIn l b f) G st:=by
 have go:∀(r:List _)(j:Nat)(b:β)(st:bP),j+Z r=Z l->(∀k,r[k]?=l[j+k]?)->I j b st->Wt P w A E s (forIn r b f) G st:=by
  intro r
  induction r with
  |nil=>
    intro j b st a _ hi;exact kasC_nil ⟨he b st (by rwa[<-a]),W⟩
  |cons x r i=>
    intro j b st a g hi;refine kasC_cons (dE (hb j x b st ((g 0).symm) hi) (λc m z=>?_) λ_ _ e=>e);obtain⟨c,d⟩:=c;obtain⟨z,rfl⟩:=z
    cases c with
    |done h=>exact⟨z,W⟩
    |yield h=>
      exact i _ h d (by exact aD (iF (ae a)) (iF (ae a.symm))) (λk=>by have:=g (k+1);grind) z
 simp_all
def Wt.range(I:Nat->β->bP->Prop)(h0:I 0 c st)
  (hb:∀j B st,j<b - a->I j B st->Wt P w A E s (f (a+j) B) (Z1 G (I (j+1))) st)(he:∀B st,I (b - a) B st->G B st):Wt P w A E s (forIn [a:b] c f) G st:=
 kasC_range (Wt.loop I h0 (λj x B st d hi=>by
  have e:j<b - a:=by simpa using ((aN.mp d).1)
  rw[List.getElem?_range' e]at d;cases d
  simp_all) λB st hi=>he B st (by simp_all))
def ue(P:cg)(w:c6)(A:bT)(s:ai)(κ:p3)(it:Nat->jN)(lt:Nat->Nat->Bool)(N:Nat):Prop:=
 ∀i j,i<N->j<N->∀C:Bool->ai->Prop,C (lt i j) s->aF (aG P w) A (keyLt' κ (it i).1 (it j).1) C (λ_ _=>False) s
def Wt.ask{G:Option Bool->bP->Prop}(h:ue P w A s κ it lt N)(hk:kindOf st=κ)(hi:i<N)(B:j<N)(g:G (Y (lt i j)) st):Wt P w A E s (lt' (it i) (it j)) G st:=by
 rw[lt'_eq];refine kasC_bind (kasC_get ?_);refine kasC_bind (kasC_lift (jj ?_));rw[hk];exact dE (h i j hi B (λc a=>c=lt i j/\a=s) ⟨W,W⟩) (λc a ⟨b,d⟩=>by subst b d;exact kasC_pure ⟨g,W⟩) λ_ _ z=>z.elim
noncomputable abbrev Ar(it:Nat->jN)(l:List Nat):Array jN:=(l.map it).toArray
def Wt.elem{G:jN->bP->Prop}(h:l[i]?=Y x)(g:G (it x) st):Wt P w A E s (elem' (Ar it l) i) G st:=by
 rw[elem'_eq];have:(Ar it l)[i]?=Y (it x):=by simp[h]
 rw[this];exact .pure g
end
section
variable{st:bP}
abbrev GSt:=Option (Option Nat)×Nat×Nat
def Gk{lo:Nat}(h1:lo<=k)(h2:k<=hi)(h3:hi<=n)
  (hf:∀x lo hi(C:ForInStep GSt->bP->Prop),lo<=k->k<=hi->hi<=n->(lo>=hi->C (.done (L,lo,hi)) st)->(lo<hi->lo+(hi - lo) / 2<k->C (.yield (L,lo+(hi - lo) / 2+1,hi)) st)->
   (lo<hi->¬lo+(hi - lo) / 2<k->C (.yield (L,lo,lo+(hi - lo) / 2)) st)->Wt P w A E s (f x (L,lo,hi)) C st) :
  Wt P w A E s (forIn [0:n] ((L,lo,hi):GSt) f) (λb B=>B=st/\∃lo,b=(L,lo,k)) st:=by
 refine Wt.range (λj b B=>B=st/\∃lo hi,b=(L,lo,hi)/\lo<=k/\k<=hi/\hi<=n/\hi - lo<=n - j) ⟨W,lo,hi,W,h1,h2,h3,aa (oW _ _) h3⟩ (λj b B i z=>?_) λb B z=>by grind
 refine ac λ_ m=>?_;obtain⟨e,lo,hi,o,a,c,d,l⟩:=z;subst e o;refine m ?_;refine hf _ lo hi _ a c d (λq=>⟨W,lo,by congr;exact aD (aa q a) c⟩) (λh g=>⟨W,_,_,W,g,c,d,a4 (ar hi (lo + (hi - lo) / 2 + 1) (kX g c)) (am (ax h)) l (ad (ax i)) (am i)⟩) λh g=>⟨W,_,_,W,a,bV g,qt (ws (ax h)) (wd (hi - lo)) d,a4 (ar (lo + (hi - lo) / 2) lo (lw0)) (a3 lo hi (iF h)) l (ad (ax i)) (am i)⟩
def IE{left:Bool}{x:Nat}{l:List Nat}{base n hint k:Nat}{g:Nat->Nat}{G:Option Nat->bP->Prop}(as:ue P w A s κ it lt N)(hk:kindOf st=κ)(O:x<N)(hl:∀i,i<n->l[base+i]?=Y (g i)/\g i<N)
  (F:∀i,i<n->(if left=U then lt (g i) x else !(lt x (g i)))=decide (i<k))(B:k<=n)(hh:hint<n)(q:G (Y k) st):Wt P w A E s (zD left (it x) (Ar it l) base n hint) G st:=by
 have hb:∀i,i<n->∀{K:Option _->bP->Prop},K (Y (decide (i<k))) st->Wt P w A E s (do
   let y <-elem' (Ar it l) (base+i)
   if left=U then lt' y (it x)else do
    let b <-lt' (it x) y
    pure (b.map λz=>!z)) K st:=by
  intro i hi K D;obtain⟨H,M⟩:=hl i hi;refine .bind (.elem H ?_)
  cases left with
  |true=>
    refine Wt.ask as hk M O ?_
    simp_all
  |false=>
    refine .bind (Wt.ask as hk O M (.pure ?_))
    simp_all
 unfold zD;walk_at "u gallop";refine .bind (hb _ hh ?_);by_cases c:hint<k
 .rw[decide_eq_true c]
  refine .bind (Wt.mono (Wt.range (G:=λb a=>a=st/\∃lo of:Nat,b=((L,lo,of))/\hint+lo<k/\lo<of/\(k<=hint+of\/n - hint<=of)) (λj b a=>a=st/\∃lo of:Nat,b=((L,lo,of))/\hint+lo<k/\lo<of/\j+1<=of)
   ⟨W,0,1,W,by omega,by simp,bR⟩ (λj b a C z=>?_) λb a z=>by obtain⟨e,lo,of,H,f,h,m⟩:=z;exact⟨e,lo,of,H,f,h,.inl (qt B (wT n 0) m)⟩) λb a z=>?_)
  .refine ac λ_ t=>?_;obtain⟨e,lo,of,H,f,h,m⟩:=z;subst e H;refine t ?_;by_cases d:of>=n - hint
   .rw[if_pos d];exact .pure ⟨W,lo,of,W,f,h,.inr d⟩
   .rw[if_neg d];refine .bind (hb (hint+of) (kX (ws (ax hh)) (cz d)) ?_);by_cases I:hint+of<k
    .rw[decide_eq_true I];exact .pure ⟨W,of,_,W,I,lw0,iF m⟩
    .rw[decide_eq_false I];exact .pure ⟨W,lo,of,W,f,h,.inl (bV I)⟩
  .obtain⟨e,lo,of,H,f,h,m⟩:=z;subst e H;refine .bind (Wt.mono (Gk (hi:=hint+min of _) (f) (by omega) (kX (ad (ax hh)) (k9 of (n - hint))) λy lo hi K f h m p r v=>?_) λb a z=>by refine ac λ_ t=>?_;obtain⟨e,lo,H⟩:=z;subst e H;refine t ?_;exact .pure q);by_cases c:lo>=hi
   .rw[if_pos c];exact .pure (p c)
   .rw[if_neg c];refine .bind (hb (lo+(hi - lo) / 2) (qt (ad (ax (cz c))) (a3 lo hi (iF (cz c))) m) ?_);by_cases d:lo+(hi - lo) / 2<k
    .rw[decide_eq_true d];exact .pure (r (cz c) d)
    .rw[decide_eq_false d];exact .pure (v (cz c) d)
 .rw[decide_eq_false c]
  refine .bind (Wt.mono (Wt.range (G:=λb a=>a=st/\∃lo of:Nat,b=((L,lo,of))/\k<=hint - lo/\lo<=hint/\lo<of/\(hint - of<k/\of<=hint\/hint+1<=of)) (λj b a=>a=st/\∃lo of:Nat,b=((L,lo,of))/\k<=hint - lo/\lo<=hint/\lo<of/\j+1<=of)
   ⟨W,0,1,W,bV c,aK _,by simp,by decide⟩ (λj b a C z=>?_) λb a z=>by obtain⟨e,lo,of,H,o,f,h,m⟩:=z;exact⟨e,lo,of,H,o,f,h,.inr (cT hh m)⟩) λb a z=>?_)
  .obtain⟨e,lo,of,H,o,f,h,m⟩:=z;subst e H;by_cases d:of>=hint+1
   .rw[if_pos d];exact .pure ⟨W,lo,of,W,o,f,h,.inr d⟩
   .rw[if_neg d];refine .bind (hb (hint - of) (NL hh) ?_);by_cases I:hint - of<k
    .rw[decide_eq_true I];exact .pure ⟨W,lo,of,W,o,f,h,.inl ⟨I,bV d⟩⟩
    .rw[decide_eq_false I];exact .pure ⟨W,of,_,W,bV I,bV d,lw0,iF m⟩
  .obtain⟨e,lo,of,H,o,f,h,m⟩:=z;subst e H;refine .bind (Wt.mono (Gk (k:=k) (lo:=hint+1 - min of _) (by omega) (by omega) (ax (NL hh)) λy lo hi K f h m p r v=>?_) λb a z=>by obtain⟨e,lo,H⟩:=z;subst e H;exact .pure q);by_cases c:lo>=hi
   .rw[if_pos c];exact .pure (p c)
   .rw[if_neg c];refine .bind (hb (lo+(hi - lo) / 2) (qt (ad (ax (cz c))) (a3 lo hi (iF (cz c))) m) ?_);by_cases d:lo+(hi - lo) / 2<k
    .rw[decide_eq_true d];exact .pure (r (cz c) d)
    .rw[decide_eq_false d];exact .pure (v (cz c) d)
end
noncomputable def RD:Nat->StateT bP Au Unit:=sortPriv% PySem.Builtin.setMinGallop
section
variable{st:bP}{β:Type}{G:β->bP->Prop}
def Wt.OE{G:Unit->bP->Prop}(h:G () (mf (kindOf st) (arrOf st) (pendingOf st) g (failedOf st))):Wt P w A E s (RD g) G st:=by
 unfold RD;walk_at "u setMinGallop";exact .modify h
def Wt.wy(Q:(StateT bP Au β->Prop)->Prop)(h1:Q λm=>Wt P w A E s m G st)(h2:(Q λm=>Wt P w A E s m G st)->Wt P w A E s m G st):Wt P w A E s m G st:=h2 h1
def Wt.Zj{c:Prop}[Decidable c](h:c)(x:Wt P w A E s m G st):Wt P w A E s (if c then m else g) G st:=by rwa[if_pos h]
def Wt.F9{c:Prop}[Decidable c](h:¬c)(x:Wt P w A E s g G st):Wt P w A E s (if c then m else g) G st:=by rwa[if_neg h]
def Wt.ite{c:Prop}[Decidable c](x:c->Wt P w A E s m G st)(y:¬c->Wt P w A E s g G st):Wt P w A E s (if c then m else g) G st:=by
 by_cases h:c
 .exact .Zj h (x h)
 .exact .F9 h (y h)
end
abbrev eN(lt:Nat->Nat->Bool)(l:List Nat):Prop:=l.Pairwise λx y=>lt x y=U
section
variable{lt:Nat->Nat->Bool}{a b out:List Nat}{ia ib:Nat}
structure ML(lt:Nat->Nat->Bool)(a b out:List Nat)(ia ib:Nat):Prop where
 so:eN lt out
 MZ:∀x∈out,∀y,y∈a.drop ia\/y∈b.drop ib->lt x y=U
 pm:(out++(a.drop ia++b.drop ib)).Perm (a++b)
def ML.swap(h:ML lt a b out ia ib):ML lt b a out ib ia:=
 ⟨h.so,λx c y d=>h.MZ x c y d.symm,((j6 _ dS).trans h.pm).trans dS⟩
def ML.start:ML lt a b [] 0 0:=⟨.nil,λx c=>by simp at c,by simp⟩
def ML.p9(h:ML lt a b out ia ib)(B:eN lt b)(k:Nat)(hc:∀y∈(b.drop ib).take k,∀x∈a.drop ia,lt y x=U):ML lt a b (out++(b.drop ib).take k) ia (ib+k):=by
 have e:b.drop ib=(b.drop ib).take k++b.drop (ib+k):=by rw[<-kn];exact(bo k _).symm
 have f:eN lt (b.drop ib):=B.sublist (fA _ _);rw[e]at f;refine⟨eA.mpr ⟨h.so,(eA.mp f).1,λx d y c=>h.MZ x d y (.inr (cy c))⟩,λx d y c=>?_,?_⟩
 .rcases au.mp d with d|d
  .refine h.MZ x d y (c.imp id λc=>?_);rw[e];exact aq _ c
  .rcases c with c|c
   .exact hc x d y c
   .exact (eA.mp f).2.2 x d y c
 .refine EN ?_ h.pm
  conv=>rhs;rw[e]
  rw[aJ];refine j6 _ ?_;rw[<-aJ,<-aJ];exact List.Perm.append_right _ dS
def ML.xH(h:ML lt a b out ia ib)(sa:eN lt a)(k:Nat)(hc:∀y∈(a.drop ia).take k,∀x∈b.drop ib,lt y x=U):ML lt a b (out++(a.drop ia).take k) (ia+k) ib:=
 (h.swap.p9 sa k hc).swap
def ML.fin(h:ML lt a b out ia ib)(sa:eN lt a)(hb:Z b<=ib):eN lt (out++a.drop ia++b.drop ib)/\(out++a.drop ia++b.drop ib).Perm (a++b):=by
 refine⟨?_,by rw[aJ];exact h.pm⟩;rw[(km hb),aI];exact eA.mpr ⟨h.so,sa.sublist (fA _ _),λx c y d=>h.MZ x c y (.inl d)⟩
def j1{l:List Nat}{i x:Nat}(h:l[i]?=Y x):l.drop i=x::l.drop (i+1):=by
 rw[eP (aN.mp h).1,(aN.mp h).2]
def take_one{l:List Nat}{i x:Nat}(h:l[i]?=Y x):(l.drop i).take 1=[x]:=by rw[j1 h];rfl
def rB(o:Lt lt)(sl:eN lt l)(h:l[i]?=Y x)(c:lt y x=U):∀z∈l.drop i,lt y z=U:=λz d=>by
 rw[j1 h]at d;have e:=sl.sublist (fA i _);rw[j1 h]at e
 rcases aw.mp d with rfl|d
 .exact c
 .exact o.tr _ _ _ c ((cD.mp e).1 z d)
def ML.rG(h:ML lt a b out ia ib)(sa:eN lt a)(B:eN lt b)(hc:∀y∈b.drop ib,∀x∈a.drop ia,lt y x=U):eN lt (out++b.drop ib++a.drop ia)/\(out++b.drop ib++a.drop ia).Perm (a++b):=by
 have q:=(h.p9 B _ (λy c=>hc y (cy c))).fin sa (gp _ _);rw[dq (by simp)]at q;rwa[(km (gp _ _)),aI]at q
def mR:(Ar it l).push (it x)=Ar it (l++[x]):=by simp
def m8:Ar it l++(Ar it b).extract i j=Ar it (l++(b.drop i).take (j - i)):=by
 simp
def cC:(Ar it l).size=Z l:=by simp
def iA{l:List Nat}:(l.drop i).take (Z l - i)=l.drop i:=dq (by simp)
def FF(o:Lt lt)(sl:eN lt l)(y:Nat):∃k,k<=Z l/\∀i x,l[i]?=Y x->lt x y=decide (i<k):=by
 induction l with
 |nil=>simp
 |cons a l e=>
   obtain⟨s1,s2⟩:=cD.mp sl;obtain⟨k,h1,h2⟩:=e s2
   cases c:lt a y with
   |true=>
     refine⟨k+1,by simpa using h1,λi x h=>?_⟩
     cases i with
     |zero=>cases h;rw[c];simp
     |succ i=>rw[h2 i x (by simpa using h)];simp
   |false=>
     refine⟨0,by simp,λi x h=>?_⟩
     cases i with
     |zero=>cases h;rw[c];simp
     |succ i=>
       cases d:lt x y with
       |false=>simp
       |true=>rw[o.tr _ _ _ (s1 x (aZ (by simpa using h))) d]at c;cases c
section
def sS(o:Lt lt)(as:ue P w A s κ it lt N){l:List Nat}{base:Nat}(C:base+n<=Z l)(sl:eN lt ((l.drop base).take n))(B:∀x∈(l.drop base).take n,x<N/\x≠y)(O:y<N) :
  ∃k,k<=n/\(∀z∈((l.drop base).take n).take k,lt z y=U)/\(∀z∈((l.drop base).take n).drop k,lt y z=U)/\
   ∀{E:ah->ai->Prop}(left:Bool)(hint:Nat){G:Option Nat->bP->Prop}{st:bP},kindOf st=κ->hint<n->G (Y k) st->Wt P w A E s (zD left (it y) (Ar it l) base n hint) G st:=by
 generalize r:(l.drop _).take n=L' at sl B;have d:Z L'=n:=by grind
 have f:∀i,i<n->L'[i]?=l[base+i]? :=λi hi=>by grind
 obtain⟨k,m,p⟩:=FF o sl y;refine⟨k,aa m (ae d),λz h=>?_,λz h=>?_,λleft hint G st hk hh q=>?_⟩
 .obtain⟨i,hi⟩:=gC h;rw[dt]at hi
  grind
 .obtain⟨i,hi⟩:=gC h;rw[rQ]at hi;refine o.co _ _ (B z (aZ hi)).2 ?_;rw[p _ z hi,decide_eq_false (by simp)]
 .refine IE (g:=λi=>L'.getD i 0) as hk O (λi hi=>?_) (λi hi=>?_) (aa m (ae d)) hh q
  .have e:=af ((aa hi (ae d.symm)));refine⟨by rw[<-f i hi];simp[e],?_⟩;simpa [e]using ((B _ (aZ e)).1)
  .have e:=af ((aa hi (ae d.symm)));have j:L'.getD i 0=L'[i]:=by simp[e]
   rw[j]
   cases left with
   |true=>exact (p i _ e)
   |false=>
     rw[<-(p i _ e)]
     cases c:lt _ y with
     |true=>rw[o.as _ _ c];rfl
     |false=>rw[o.co _ _ ((B _ (aZ e)).2) c];rfl
end
end
section
variable{it:Nat->jN}{lt:Nat->Nat->Bool}
noncomputable abbrev vc(st:bP)(g:Nat):bP:=mf (kindOf st) (arrOf st) (pendingOf st) g (failedOf st)
def Res(it:Nat->jN)(lt:Nat->Nat->Bool)(l:List Nat)(r:Array jN):Prop:=∃R,r=Ar it R/\eN lt R/\R.Perm l
structure Mid(lt:Nat->Nat->Bool)(a b out:List Nat)(ia ib m:Nat):Prop where
 ml:ML lt a b out ia ib
 ha:ia+1<Z a
 hb:ib<Z b
 m:m<=ia+ib
def Wt.rg{τ τ' R β' γ:Type}{a b:Nat}{f:Nat->Option R×β'->StateT bP Au (ForInStep (Option R×β'))}{k:Option R×β'->StateT bP Au γ}{G:γ->bP->Prop}{Q:R->Prop}{t:τ->bP}{I':List Nat->Nat->Nat->Prop}{z:List Nat->Nat->Nat->τ->β'}{out:List Nat}{F S:Nat}{r:τ}(I:Nat->List Nat->Nat->Nat->Prop)(O:List Nat->Nat->Nat->τ'->β')(t':τ'->bP)(h0:I 0 out F S)(he:∀out F S,¬I (b - a) out F S)
  (g:∀r x B,Q r->Wt P w A E s (k (Y r,x)) G (t' B))(C:∀out F S r,I' out F S->Wt P w A E s (k (L,O out F S r)) G (t' r))
  (hb:∀j out F S r,j<b - a->I j out F S->Wt P w A E s (f (a+j) (L,z out F S r)) (Z1 (λb st=>(∃r x B,b=(Y r,x)/\st=t' B/\Q r)\/∃out F S r,b=(L,O out F S r)/\st=t' r/\I' out F S) λb st=>∃out F S r,b=(L,z out F S r)/\st=t r/\I (j+1) out F S) (t r)) :
  Wt P w A E s (forIn [a:b] (L,z out F S r) f >>= k) G (t r):=
 .bind (Wt.mono (Wt.range (λj b st=>∃out F S r,b=(L,z out F S r)/\st=t r/\I j out F S) ⟨_,F,S,r,W,W,h0⟩ (λj b st c q=>by refine ac λ_ d=>?_;obtain⟨_,_,_,_,rfl,rfl,h⟩:=q;refine d ?_;exact hb _ _ _ _ _ c h) λb st q=>by simp_all) λb st q=>by
  rcases q with⟨_,_,_,rfl,rfl,h⟩|⟨_,_,_,_,rfl,rfl,h⟩
  .exact g _ _ _ h
  .exact C _ _ _ _ h)
def DK{st:bP}{G:Array jN->bP->Prop}(o:Lt lt)(as:ue P w A s κ it lt N)(hk:kindOf st=κ)(na:∀x∈a,x<N)(nb:∀x∈b,x<N)(sa:eN lt a)(a5:eN lt b)(GB:∀x∈a,x∉b)
  (h0:0<Z a)(O:b[0]?=Y y0)(hf:∀x∈a,lt y0 x=U)(hl:∀y∈b,∀x∈a.drop (Z a - 1),lt y x=U)
  (q:∀r g,Res it lt (a++b) r->G r (vc st g)):Wt P w A E s (Br (Ar it a) (Ar it b)) G st:=by
 have c0 :=(aN.mp O).1
 have v:∀{out:List Nat}{ia ib:Nat},ML lt a b out ia ib->Z b<=ib->Res it lt (a++b) (Ar it out++(Ar it a).extract ia (Ar it a).size++(Ar it b).extract ib (Ar it b).size):=λh hb=>by
  obtain⟨F,I⟩:=h.fin sa hb;exact⟨_,by rw[m8,m8,cC,cC,iA,iA],F,I⟩
 have J':∀{out:List Nat}{ia ib:Nat},ML lt a b out ia ib->Z a<=ia->Res it lt (a++b) (Ar it out++(Ar it a).extract ia (Ar it a).size++(Ar it b).extract ib (Ar it b).size):=λ{out ia ib}h ha=>by
  obtain⟨F,I⟩:=h.swap.fin a5 ha;have e :=km ha;rw[e,aI]at F I;refine⟨out++b.drop ib,by rw[m8,m8,cC,cC,iA,iA,e,aI],F,I.trans dS⟩
 have rG:∀{out:List Nat}{ia ib:Nat},ML lt a b out ia ib->ia+1=Z a->Res it lt (a++b) (Ar it out++(Ar it b).extract ib (Ar it b).size++(Ar it a).extract ia (Ar it a).size):=λ{out ia ib}h ha=>by
  obtain⟨F,I⟩:=h.rG sa a5 λy hy x M=>hl y (fe hy) x (by rw[show Z a - 1=ia from(aD (kX (ws h0) (ae ha.symm)) (kX (ae ha) (wt h0)))];exact M);exact⟨_,by rw[m8,m8,cC,cC,iA,iA],F,I⟩
 have C:∀{ib:Nat},ib<Z b->∃y,b[ib]?=Y y/\y<N/\y∉a:=λ{ib}h=>⟨b[ib],af h,nb _ (bA h),λz=>GB _ z (bA h)⟩
 have H:∀{ia:Nat},ia<Z a->∃x,a[ia]?=Y x/\x<N/\x∉b:=λ{ia}h=>⟨a[ia],af h,na _ (bA h),λz=>GB _ (bA h) z⟩
 have X:∀{ia ib x y:Nat},a[ia]?=Y x->b[ib]?=Y y->x≠y:=λh1 h2 e=>GB _ (aZ h1) (e▸aZ h2)
 have tB:∀{out:List Nat}{ia ib x y:Nat},ML lt a b out ia ib->a[ia]?=Y x->b[ib]?=Y y->lt y x=U->ML lt a b (out++[y]) ia (ib+1):=λ{out ia ib x y}h h1 h2 c=>by
  have:=h.p9 a5 1 (λz p=>by rw[take_one h2,az]at p;subst p;exact rB o sa h1 c);rw[take_one h2]at this;exact this
 have tA:∀{out:List Nat}{ia ib x y:Nat},ML lt a b out ia ib->a[ia]?=Y x->b[ib]?=Y y->lt x y=U->ML lt a b (out++[x]) (ia+1) ib:=λ{out ia ib x y}h h1 h2 c=>by
  have:=h.xH sa 1 (λz p=>by rw[take_one h1,az]at p;subst p;exact rB o a5 h2 c);rw[take_one h1]at this;exact this
 unfold Br;walk_at "u mergeLo";refine .bind (.rule (.bind (.elem O ?_)))
 have m0:ML lt a b [y0] 0 1:=by
  have:=(ML.start ).p9 a5 1 (λz p x M=>by rw[take_one O,az]at p;subst p;exact hf x M);rw[take_one O]at this;exact this
 refine .ite (λc=>.pure (q _ (gallopOf st) (v m0 (by have c:=beq_iff_eq.mp c;rw[cC]at c;exact ae c.symm)))) λc1=>?_;refine .ite (λc=>.pure (q _ (gallopOf st) (rG m0 (by have c:=beq_iff_eq.mp c;rw[cC]at c;omega)))) λc2=>?_;refine .bind (.get ?_);have b1:1<Z b:=by have c :=λe=>c1 (beq_iff_eq.mpr e);rw[cC]at c;exact bq c0 c
 have b2:0+1<Z a:=by have c :=λe=>c2 (beq_iff_eq.mpr e);rw[cC]at c;exact bq h0 c
 refine Wt.rg (I':=λ_ _ _=>False) (r:=(_,gallopOf st)) (t:=λr:Nat×Nat=>vc st r.2) (z:=λout ia ib r=>(Ar it out,ia,ib,r.1)) (λj out ia ib=>Mid lt a b out ia ib (j+1)) (λout ia ib r=>(Ar it out,ia,ib,r.1)) (λr:Nat×Nat=>vc st r.2) ⟨m0,b2,b1,bR⟩
  (λout ia ib f=>by have h1:=f.m;have h2:=f.ha;have h3:=f.hb;rw[cC,cC]at h1;exact VL h3 (wT (Z a+Z b) 0) h1 h2) (λr _ g e=>.pure (q r g.2 e)) (λ_ _ _ _ h=>h.elim) λj out ia ib V hj f=>?_
 refine Wt.rg (I':=λout ia ib=>Mid lt a b out ia ib (j+1+1)) (r:=(0,0)) (t:=λ_:Nat×Nat=>vc st V.2) (z:=λout ia ib r=>(Ar it out,ia,ib,r.1,r.2)) (λi out ia ib=>Mid lt a b out ia ib (j+1+i)) (λout ia ib r=>(Ar it out,ia,ib,r.1,r.2)) (λ_:Nat×Nat=>vc st V.2) f
  (λout ia ib f=>by have h1:=f.m;have h2:=f.ha;have h3:=f.hb;rw[cC,cC]at h1;exact VL h3 (wT (Z a+Z b) 0) h1 h2) (λr _ _ e=>.pure (.inl ⟨r,_,(0,V.2),W,W,e⟩)) (λout ia ib c3 f=>?_) λi out ia ib c3 hi f=>?_
 rotate_left
 .obtain⟨y,D,y2,y3⟩:=C f.hb;obtain⟨x,x1,x2,x3⟩:=H (ax f.ha);have B:=f.m;refine .bind (.elem D (.bind (.elem x1 (.bind (Wt.ask as hk y2 x2 ?_)))))
  cases c:lt y x with
  |true=>
    refine .bind (.elem D ?_);have m2:=tB f.ml x1 D c;rw[mR];refine .ite (λd=>.pure (.inl ⟨_,_,(0,0),W,W,v m2 (by simp_all)⟩)) λd=>?_;have d:ib+1<Z b:=by have c :=λe=>d (beq_iff_eq.mpr e);rw[cC]at c;have:=f.hb;exact bq this c
    exact .ite (λ_=>.pure (.inr ⟨_,ia,ib+1,(_,_),W,W,m2,f.ha,d,iF B⟩)) λ_=>.pure ⟨_,ia,ib+1,(_,_),W,W,m2,f.ha,d,bb B⟩
  |false=>
    refine .bind (.elem x1 ?_);have m2:=tA f.ml x1 D (o.co _ _ (X x1 D).symm c);rw[mR];refine .ite (λd=>.pure (.inl ⟨_,_,(0,0),W,W,rG m2 (by simp_all)⟩)) λd=>?_;have d:ia+1+1<Z a:=by have c :=λe=>d (beq_iff_eq.mpr e);rw[cC]at c;have:=f.ha;exact bq this c
    exact .ite (λ_=>.pure (.inr ⟨_,ia+1,ib,(_,_),W,W,m2,d,f.hb,iF B⟩)) λ_=>.pure ⟨_,ia+1,ib,(_,_),W,W,m2,d,f.hb,iF B⟩
 refine .bind (.rule (Wt.rg (r:=(_,c3.1,c3.2,V.2)) (t:=λr:Nat×Nat×Nat×Nat=>vc st r.2.2.2) (z:=λout ia ib r=>(Ar it out,ia,ib,r.1,r.2.1,r.2.2.1)) (λi out ia ib=>Mid lt a b out ia ib (j+1+1+i)) (λout ia ib r=>(Ar it out,ia,ib,r.1,r.2.1,r.2.2.1)) (λr:Nat×Nat×Nat×Nat=>vc st r.2.2.2) f
  (λout ia ib f=>by have h1:=f.m;have h2:=f.ha;have h3:=f.hb;rw[cC,cC]at h1;exact VL h3 (wT (Z a+Z b) 0) h1 h2) (λr _ g e=>.pure (.inl ⟨r,_,(0,g.2.2.2),W,W,e⟩)) (λout ia ib r f=>.bind (.OE (.pure ⟨out,ia,ib,(_,_),W,W,f⟩))) λi out ia ib r2 hi f=>?_))
 extract_lets s1 o1 s2 ia1 s3 ib1 s4 mg1 s5 ac1 bc1 ib2 jp mg2
 refine Wt.wy (λR=>∀mg,R (jp () mg)) ?_ λh=>?_
 rotate_left
 .exact .ite (λ_=>h _) λ_=>h _
 intro mg;have B:=f.m;refine ac λ_ kq=>?_;obtain⟨y,D,y2,y3⟩:=C f.hb;obtain⟨k,k1,k2,Q,k4⟩:=sS o as (l:=a) (base:=ia) (n:=Z a - ia) (iF (wS a.length ia (iF f.ha))) (by rw[iA];exact sa.sublist (fA _ _)) (λx M=>by rw[iA]at M;have:=fe M;exact⟨na x this,λe=>y3 (e▸this)⟩) y2;refine kq ?_;rw[iA]at k2 Q;rw[<-cC ]at k4;refine .bind (.OE (.bind (.elem D (.bind (k4 J 0 hk (by rw[cC];have:=f.ha;exact kX this (wT a.length ia)) ?_)))));have K :=f.ml.xH sa k λz p=>rB o a5 D (k2 z p);rw[kn]at Q;dsimp -zeta -zetaHave only
 extract_lets +onlyGivenNames ac1 jp2
 refine Wt.wy (λR=>∀out ia,ML lt a b out ia ib->ia+1<Z a->(∀z∈a.drop ia,lt y z=U)->j+1+1+i<=ia+ib->R (jp2 () (Ar it out) ia)) ?_ λh=>?_
 rotate_left
 .refine .ite (λ_=>?_) λc=>?_
  .rw[m8,(de _ _)];refine .ite (λd=>.pure (.inl ⟨_,_,(0,0,0,_),W,W,rG K (by have d:=beq_iff_eq.mp d;rw[cC]at d;omega)⟩)) λd=>?_;refine .ite (λd=>.pure (.inl ⟨_,_,(0,0,0,_),W,W,J' K (by have d:=beq_iff_eq.mp d;rw[cC]at d;exact ae d.symm)⟩)) λd'=>?_;have c1:¬ia+k+1=(Ar it a).size:=λe=>d (beq_iff_eq.mpr e);have c2:¬ia+k=(Ar it a).size:=λe=>d' (beq_iff_eq.mpr e);rw[cC]at c1 c2;exact h (out++(a.drop ia).take k) (ia+k) K (by omega) Q (iF B)
  .obtain rfl:k=0:=aD (bV c) (aK _);rw[mI,aI]at K;exact h out ia K f.ha Q B
 intro out ia K U' Q B;obtain⟨x,x1,x2,x3⟩:=H ((ax U'));have yx :=Q x (by rw[j1 x1];simp);have m2:=tB K x1 D yx;refine .bind (.elem D ?_);rw[mR];refine .ite (λd=>.pure (.inl ⟨_,_,(0,0,0,_),W,W,v m2 (by simp_all)⟩)) λd=>?_;have d:ib+1<Z b:=by have c :=λe=>d (beq_iff_eq.mpr e);rw[cC]at c;have:=f.hb;exact bq this c
 refine ac λ_ kq=>?_;obtain⟨k',l1,l2,S,l4⟩:=sS o as (l:=b) (base:=ib+1) (n:=Z b - (ib+1)) (iF (ws (ax d))) (by rw[iA];exact a5.sublist (fA _ _)) (λz p=>by rw[iA]at p;have:=fe p;exact⟨nb z this,λe=>x3 (e▸this)⟩) x2;refine kq ?_;rw[iA]at l2 S;rw[<-cC ]at l4;refine .bind (.elem x1 (.bind (l4 U 0 hk (by rw[cC];exact kX d (wt (ax d))) ?_)));have T :=m2.p9 a5 k' λz p=>rB o sa x1 (l2 z p);rw[kn]at S;dsimp -zeta -zetaHave only
 extract_lets +onlyGivenNames bc1 ia2 jp3
 refine Wt.wy (λR=>∀out ib',ML lt a b out ia ib'->ib'<Z b->(∀z∈b.drop ib',lt x z=U)->j+1+1+i+1<=ia+ib'->R (jp3 () (Ar it out) ib')) ?_ λh=>?_
 rotate_left
 .refine .ite (λ_=>?_) λc=>?_
  .rw[m8,(de _ _)];refine .ite (λd=>.pure (.inl ⟨_,_,(0,0,0,_),W,W,v T (by simp_all)⟩)) λd'=>?_;have c2:¬ib+1+k'=(Ar it b).size:=λe=>d' (beq_iff_eq.mpr e);rw[cC]at c2;exact h (out++[y]++(b.drop (ib+1)).take k') (ib+1+k') T (bq (kX (ws (ax d)) l1) c2) S (iF B)
  .obtain rfl:k'=0:=aD (bV c) (aK _);rw[mI,aI]at T;exact h (out++[y]) (ib+1) T d S (bb B)
 intro out ib' T L' S B;refine ac λ_ kq=>?_;obtain⟨z,F,I,z3⟩:=C L';refine kq ?_;have m3:=tA T x1 F (S z (by rw[j1 F];simp));refine .bind (.elem x1 ?_);rw[mR];refine .ite (λd=>.pure (.inl ⟨_,_,(0,0,0,_),W,W,rG m3 (by simp_all)⟩)) λd=>?_;have d:ia+1+1<Z a:=by have c :=λe=>d (beq_iff_eq.mpr e);rw[cC]at c;exact bq U' c
 exact .ite (λ_=>.pure (.inr ⟨_,ia+1,_,(_,_,_,_),W,W,m3,d,L',iF B⟩)) λ_=>.pure ⟨_,ia+1,_,(_,_,_,_),W,W,m3,d,L',iF B⟩
end
section
variable{lt:Nat->Nat->Bool}{a b out:List Nat}{na nb:Nat}
noncomputable abbrev Wj(lt:Nat->Nat->Bool):Nat->Nat->Bool:=λx y=>lt y x
def eN.rev(h:eN lt a):eN (Wj lt) a.reverse:=kN.mpr h
structure MH(lt:Nat->Nat->Bool)(a b out:List Nat)(na nb:Nat):Prop where
 ml:ML (Wj lt) a.reverse b.reverse out (Z a - na) (Z b - nb)
 la:na<=Z a
 lb:nb<=Z b
def MH.swap(h:MH lt a b out na nb):MH lt b a out nb na:=⟨h.ml.swap,h.lb,h.la⟩
def lQ{l:List Nat}:l.reverse.drop (Z l - n)=(l.take n).reverse:=by rw[List.reverse_take]
def MH.p9(h:MH lt a b out na nb)(B:eN lt b)(ht:at_<=nb)(hc:∀y∈(b.drop at_).take (nb - at_),∀x∈a.take na,lt x y=U):MH lt a b (out++((b.drop at_).take (nb - at_)).reverse) na at_:=by
 have hb:=h.lb
 have e:(b.reverse.drop (Z b - nb)).take (nb - at_)=((b.drop at_).take (nb - at_)).reverse:=by
  rw[lQ,List.take_reverse,fO,dY hb,show nb - (nb - at_)=at_ by omega,xA]
 have:=h.ml.p9 B.rev (nb - at_) (λy c x d=>by
  rw[lQ]at d
  simp_all)
 rw[e,show Z b - nb+(nb - at_)=Z b - at_ from(aD (qt (ws hb) (ws ht) (wT b.length at_)) (qt (wS b.length at_ (kX ht hb)) (wt hb) (wt ht)))]at this;exact⟨this,h.la,aa ht hb⟩
def MH.xH(h:MH lt a b out na nb)(sa:eN lt a)(ht:at_<=na)(hc:∀y∈(a.drop at_).take (na - at_),∀x∈b.take nb,lt x y=U):MH lt a b (out++((a.drop at_).take (na - at_)).reverse) at_ nb:=
 (h.swap.p9 sa ht hc).swap
def MH.fin(h:MH lt a b out na nb)(B:eN lt b)(O:na=0):eN lt (a.take na++b.take nb++out.reverse)/\(a.take na++b.take nb++out.reverse).Perm (a++b):=by
 obtain⟨c,d⟩:=h.ml.swap.fin B.rev (by simp_all)
 have e:(a.take na++b.take nb++out.reverse)=(out++b.reverse.drop (Z b - nb)++a.reverse.drop (Z a - na)).reverse:=by
  rw[lQ,lQ];simp
 rw[e];exact ⟨kN.mpr c,((gr _).trans d).trans (((gr b).append (gr a)).trans dS)⟩
def MH.rG(h:MH lt a b out na nb)(sa:eN lt a)(B:eN lt b)(hc:∀y∈a.take na,∀x∈b.take nb,lt x y=U):eN lt (b.take nb++a.take na++out.reverse)/\(b.take nb++a.take na++out.reverse).Perm (a++b):=by
 obtain⟨c,d⟩:=h.ml.swap.rG B.rev sa.rev (λy f x g=>by
  rw[lQ]at f g
  simp_all)
 have e:(b.take nb++a.take na++out.reverse)=(out++a.reverse.drop (Z a - na)++b.reverse.drop (Z b - nb)).reverse:=by
  rw[lQ,lQ];simp
 rw[e];exact ⟨kN.mpr c,((gr _).trans d).trans (((gr b).append (gr a)).trans dS)⟩
def lU{l:List Nat}{n x:Nat}(h:l[n]?=Y x):(l.drop n).take (n+1 - n)=[x]:=by rw[(de _ _)];exact take_one h
set_option tactic.hygienic true in
def rn(o:Lt lt)(sl:eN lt l)(h:l[n]?=Y x)(c:lt x y=U):∀z∈l.take (n+1),lt z y=U:=λz f=>by
 obtain⟨i,hi⟩:=gC f;rw[dt]at hi;split at hi
 .rename_i d;by_cases e:i=n
  .grind
  .obtain⟨g,j⟩:=aN.mp hi;obtain⟨k,m⟩:=aN.mp h;have:=eO.mp sl i n g k (bq (iF d) e);rw[j,m]at this;exact o.tr _ _ _ this c
 .cases hi
def Ey:(Ar it l).extract 0 i++(Ar it m).extract 0 j++(Ar it n).reverse=Ar it (l.take i++m.take j++n.reverse):=by
 simp[List.map_take]
def GW:Ar it l++((Ar it b).extract i j).reverse=Ar it (l++((b.drop i).take (j - i)).reverse):=by
 simp
structure Q6(lt:Nat->Nat->Bool)(a b out:List Nat)(na nb m:Nat):Prop where
 mh:MH lt a b out na nb
 ha:0<na
 hb:1<nb
 m:m+na+nb<=Z a+Z b
end
section
def DL{st:bP}{G:Array jN->bP->Prop}(o:Lt lt)(as:ue P w A s κ it lt N)(hk:kindOf st=κ)(na:∀x∈a,x<N)(nb:∀x∈b,x<N)(sa:eN lt a)(O:eN lt b)(GB:∀x∈a,x∉b)
  (hb0:0<Z b)(a5:Z a=n+1)(c0:a[n]?=Y y0)(hf:∀x∈b,lt x y0=U)(hl:∀y∈a,∀x∈b.take 1,lt x y=U)
  (q:∀r g,Res it lt (a++b) r->G r (vc st g)):Wt P w A E s (Bs (Ar it a) (Ar it b)) G st:=by
 have v:∀{out:List Nat}{ia ib:Nat},MH lt a b out ia ib->ia=0->Res it lt (a++b) ((Ar it a).extract 0 ia++(Ar it b).extract 0 ib++(Ar it out).reverse):=λh p=>by
  exact⟨_,Ey,(h.fin O p).1,(h.fin O p).2⟩
 have K:∀{out:List Nat}{ia ib:Nat},MH lt a b out ia ib->ib=0->Res it lt (a++b) ((Ar it a).extract 0 ia++(Ar it b).extract 0 ib++(Ar it out).reverse):=λ{out ia ib}h p=>by
  obtain⟨H,T⟩:=h.swap.fin sa p;subst p;exact⟨a.take ia++out.reverse,by rw[Ey,mI,aI],H,T.trans dS⟩
 have rG:∀{out:List Nat}{ia ib:Nat},MH lt a b out ia ib->ib=1->Res it lt (a++b) ((Ar it b).extract 0 ib++(Ar it a).extract 0 ia++(Ar it out).reverse):=λ{out ia ib}h p=>by
  subst p;obtain⟨H,T⟩:=h.rG sa O λy hy x hx=>hl y (cy hy) x hx;exact⟨_,Ey,H,T⟩
 have D:∀{ib:Nat},ib<Z b->∃y,b[ib]?=Y y/\y<N/\y∉a:=λ{ib}h=>⟨b[ib],af h,nb _ (bA h),λz=>GB _ z (bA h)⟩
 have I:∀{ia:Nat},ia<Z a->∃x,a[ia]?=Y x/\x<N/\x∉b:=λ{ia}h=>⟨a[ia],af h,na _ (bA h),λz=>GB _ (bA h) z⟩
 have nex:∀{ia ib x y:Nat},a[ia]?=Y x->b[ib]?=Y y->x≠y:=λh1 h2 e=>GB _ (aZ h1) (e▸aZ h2)
 have tB:∀{out:List Nat}{ia ib x y:Nat},MH lt a b out (ia+1) (ib+1)->a[ia]?=Y x->b[ib]?=Y y->lt x y=U->MH lt a b (out++[y]) (ia+1) ib:=λ{out ia ib x y}h h1 h2 c=>by
  have:=h.p9 O (at_:=ib) (by simp) (λz p=>by rw[lU h2,az]at p;subst p;exact rn o sa h1 c);rw[lU h2]at this;exact this
 have tA:∀{out:List Nat}{ia ib x y:Nat},MH lt a b out (ia+1) (ib+1)->a[ia]?=Y x->b[ib]?=Y y->lt y x=U->MH lt a b (out++[x]) ia (ib+1):=λ{out ia ib x y}h h1 h2 c=>by
  have:=h.xH sa (at_:=ia) (by simp) (λz p=>by rw[lU h1,az]at p;subst p;exact rn o O h2 c);rw[lU h1]at this;exact this
 have m0:MH lt a b [y0] n b.length:=by
  have h:MH lt a b [] (n+1) b.length:=⟨by rw[a5,mo,mo];exact ML.start,ae a5.symm,ak _⟩
  have:=h.xH sa (at_:=n) (by simp) (λz p x hx=>by rw[lU c0,az]at p;simp_all);rw[lU c0]at this;exact this
 have hsz:(Ar it a).size - 1=n:=by rw[cC];exact aD (kX (wS a.length 1 (iF (ae a5.symm))) (ae a5)) (kX (ae a5.symm) (wT a.length 1))
 unfold Bs;walk_at "u mergeHi";rw[hsz];refine .bind (.rule (.bind (.elem c0 ?_)));have L':MH lt a b [y0] n (Ar it b).size:=by rw[cC];exact m0
 refine .ite (λc=>.pure (q _ (gallopOf st) (v L' (beq_iff_eq.mp c)))) λc1=>?_;refine .ite (λc=>.pure (q _ (gallopOf st) (rG L' (beq_iff_eq.mp c)))) λc2=>?_;refine .bind (.get ?_);have b1:0<n:=by exact ck (λe=>c1 (beq_iff_eq.mpr e))
 refine Wt.rg (I':=λ_ _ _=>False) (r:=(_,gallopOf st)) (t:=λr:Nat×Nat=>vc st r.2) (z:=λout ia ib r=>(ia,ib,Ar it out,r.1)) (λj out ia ib=>Q6 lt a b out ia ib (j+1)) (λout ia ib r=>(ia,ib,Ar it out,r.1)) (λr:Nat×Nat=>vc st r.2) ⟨L',b1,(by grind),by exact iF (ae a5.symm)⟩
  (λout ia ib f=>by have h1:=f.m;grind) (λr _ g e=>.pure (q r g.2 e)) (λ_ _ _ _ h=>h.elim) λj out ia ib r0 hj f=>?_
 refine Wt.rg (I':=λout ia ib=>Q6 lt a b out ia ib (j+1+1)) (r:=(0,0)) (t:=λ_:Nat×Nat=>vc st r0.2) (z:=λout ia ib r=>(ia,ib,Ar it out,r.1,r.2)) (λi out ia ib=>Q6 lt a b out ia ib (j+1+i)) (λout ia ib r=>(ia,ib,Ar it out,r.1,r.2)) (λ_:Nat×Nat=>vc st r0.2) f
  (λout ia ib f=>by have h1:=f.m;exact VN h1 (wT (Z a+Z b) 0)) (λr _ _ e=>.pure (.inl ⟨r,_,(0,r0.2),W,W,e⟩)) (λout ia ib r1 f=>?_) λi out ia ib r1 hi f=>?_
 rotate_left
 .have C:=f.m;refine ac λ_ l=>?_;obtain⟨ia,rfl⟩:∃k,ia=k+1:=⟨ia - 1,uo (mV f.ha)⟩
  obtain⟨ib,rfl⟩:∃k,ib=k+1:=⟨ib - 1,by have:=f.hb;exact aD (iF (wt (ax this))) (iF (ws (ax this)))⟩
  obtain⟨y,F,y2,y3⟩:=D (f.mh.lb);obtain⟨x,x1,x2,x3⟩:=I (f.mh.la);refine l ?_;refine .bind (.elem F (.bind (.elem x1 (.bind (Wt.ask as hk y2 x2 ?_)))))
  cases c:lt y x with
  |true=>
    refine .bind (.elem x1 ?_);have m2:=tA f.mh x1 F c;rw[mR];refine .ite (λd=>.pure (.inl ⟨_,_,(0,0),W,W,v m2 (beq_iff_eq.mp d)⟩)) λd=>?_;have d:0<ia:=by exact ck (λe=>d (beq_iff_eq.mpr e))
    exact .ite (λ_=>.pure (.inr ⟨_,ia,ib+1,(_,_),W,W,m2,d,f.hb,iF C⟩)) λ_=>.pure ⟨_,ia,ib+1,(_,_),W,W,m2,d,f.hb,iF C⟩
  |false=>
    refine .bind (.elem F ?_);have m2:=tB f.mh x1 F (o.co _ _ (nex x1 F).symm c);rw[mR];refine .ite (λd=>.pure (.inl ⟨_,_,(0,0),W,W,rG m2 (beq_iff_eq.mp d)⟩)) λd=>?_;have d:1<ib:=by have c:=λe=>d (beq_iff_eq.mpr e);exact bq (iF f.hb) (cu c)
    exact .ite (λ_=>.pure (.inr ⟨_,ia+1,ib,(_,_),W,W,m2,f.ha,d,iF C⟩)) λ_=>.pure ⟨_,ia+1,ib,(_,_),W,W,m2,f.ha,d,iF C⟩
 refine .bind (.rule (Wt.rg (r:=(_,r1.1,r1.2,r0.2)) (t:=λr:Nat×Nat×Nat×Nat=>vc st r.2.2.2) (z:=λout ia ib r=>(ia,ib,Ar it out,r.1,r.2.1,r.2.2.1)) (λi out ia ib=>Q6 lt a b out ia ib (j+1+1+i)) (λout ia ib r=>(ia,ib,Ar it out,r.1,r.2.1,r.2.2.1)) (λr:Nat×Nat×Nat×Nat=>vc st r.2.2.2) f
  (λout ia ib f=>by have h1:=f.m;exact VN h1 (wT (Z a+Z b) 0)) (λr _ g e=>.pure (.inl ⟨r,_,(0,g.2.2.2),W,W,e⟩)) (λout ia ib r f=>.bind (.OE (.pure ⟨out,ia,ib,(_,_),W,W,f⟩))) λi out ia ib r2 hi f=>?_))
 extract_lets s1 o1 s2 ia1 s3 ib1 s4 mg1 s5 U' V ib2 jp mg2
 subst s1 o1 s2 ia1 s3 ib1 s4 mg1 s5 U' V ib2 mg2;refine Wt.wy (λR=>∀mg,R (jp () mg)) ?_ λh=>?_
 rotate_left
 .exact .ite (λ_=>h _) λ_=>h _
 intro mg;have C:=f.m;have la:=f.mh.la;have lb:=f.mh.lb;have Q:=f.ha;obtain⟨ib,rfl⟩:∃k,ib=k+1:=⟨ib - 1,by have:=f.hb;exact aD (iF (wt (ax this))) (iF (ws (ax this)))⟩
 obtain⟨y,F,y2,y3⟩:=D (lb);obtain⟨k,k1,M,k3,k4⟩:=sS o as (gP la (aK _)) (by exact sa.sublist (iU _ _)) (λx hx=>by have:=cy hx;exact⟨na x this,λe=>y3 (e▸this)⟩) y2;rw[xA]at k3;rw[ki,dY k1]at M;refine .bind (.OE (.bind (.elem F (.bind (k4 J (ia - 1) hk (gP Q (ak _)) ?_)))));have S :=f.mh.xH sa k1 λz p=>rn o O F (k3 z p);dsimp -zeta -zetaHave only
 extract_lets +onlyGivenNames ka U' jp2
 refine Wt.wy (λR=>∀out ia,MH lt a b out ia (ib+1)->0<ia->(∀z∈a.take ia,lt z y=U)->j+1+1+i+ia+(ib+1)<=Z a+Z b->R (jp2 () ia (Ar it out))) ?_ λh=>?_
 rotate_left
 .refine .ite (λ_=>?_) λc=>?_
  .rw[GW];refine .ite (λd=>.pure (.inl ⟨_,_,(0,0,0,_),W,W,v S (beq_iff_eq.mp d)⟩)) λd=>?_;exact h (out++((a.drop k).take (ia - k)).reverse) k S (ck (λe=>d (beq_iff_eq.mpr e))) M (kX C k1)
  .obtain rfl:k=ia:=by omega
   rw[mo,mI,Nh,aI]at S;exact h out k S f.ha M C
 intro out ia S Q M C;obtain⟨ia,rfl⟩:∃k,ia=k+1:=⟨ia - 1,uo (mV Q)⟩
 obtain⟨x,x1,x2,x3⟩:=I (S.la);have m2:=tB S x1 F (M x (aZ (by rw[dt,if_pos (hV _)];exact x1)));refine .bind (.elem F ?_);rw[mR];refine .ite (λd=>.pure (.inl ⟨_,_,(0,0,0,_),W,W,rG m2 (beq_iff_eq.mp d)⟩)) λd=>?_;have d:1<ib:=by have c:=λe=>d (beq_iff_eq.mpr e);exact bq (iF f.hb) (cu c)
 refine ac λ_ l=>?_;obtain⟨k',l1,X,l3,l4⟩:=sS o as  (base:=0) (n:=ib) (iF lb) (by exact O.sublist (iU _ _)) (λz p=>by have:=cy p;exact⟨nb z this,λe=>x3 (e▸this)⟩) x2;refine l ?_;rw[xA]at l3;rw[ki,dY l1]at X;refine .bind (.elem x1 (.bind (l4 U (ib - 1) hk (iF (ws (ax d))) ?_)));have J' :=m2.p9 O l1 λz p=>rn o sa x1 (l3 z p);dsimp -zeta -zetaHave only
 extract_lets +onlyGivenNames kb V ia2 jp3
 refine Wt.wy (λR=>∀out ib',MH lt a b out (ia+1) ib'->1<ib'->(∀z∈b.take ib',lt z x=U)->j+1+1+i+1+(ia+1)+ib'<=Z a+Z b->R (jp3 () ib' (Ar it out))) ?_ λh=>?_
 rotate_left
 .refine .ite (λ_=>?_) λc=>?_
  .rw[GW];refine .ite (λd=>.pure (.inl ⟨_,_,(0,0,0,_),W,W,rG J' (beq_iff_eq.mp d)⟩)) λd=>?_;refine .ite (λd=>.pure (.inl ⟨_,_,(0,0,0,_),W,W,K J' (beq_iff_eq.mp d)⟩)) λd'=>?_;have c1:=λe=>d (beq_iff_eq.mpr e);have c2:=λe=>d' (beq_iff_eq.mpr e);exact h (out++[y]++((b.drop k').take _).reverse) k' J' (bq (iF (ck c2)) (cu c1)) X (kX C l1)
  .obtain rfl:k'=ib:=by omega
   rw[mo,mI,Nh,aI]at J';exact h _ k' J' d X (iF C)
 intro out ib' J' B X C;refine ac λ_ l=>?_;obtain⟨ib',rfl⟩:∃k,ib'=k+1:=⟨ib' - 1,aD (iF (wt (ax B))) (iF (ws (ax B)))⟩
 obtain⟨z,H,T,z3⟩:=D (J'.lb);refine l ?_;have m3:=tA J' x1 H (X z (aZ (by rw[dt,if_pos (hV _)];exact H)));refine .bind (.elem x1 ?_);rw[mR];refine .ite (λd=>.pure (.inl ⟨_,_,(0,0,0,_),W,W,v m3 (beq_iff_eq.mp d)⟩)) λd=>?_;have d:0<ia:=by exact ck (λe=>d (beq_iff_eq.mpr e))
 exact .ite (λ_=>.pure (.inr ⟨_,ia,_,(_,_,_,_),W,W,m3,d,B,iF C⟩)) λ_=>.pure ⟨_,ia,_,(_,_,_,_),W,W,m3,d,B,iF C⟩
end
abbrev qa(κ:p3)(it:Nat->jN)(l:List Nat)(B:List (Nat×Nat×Nat))(g:Nat):bP:=mf κ (Ar it l) B.toArray g L
section
theorem A9:∀(R B u v:List Nat)(c n:Nat),Z B=Z R->c+n=Z u->((R.map it).zipIdx n).foldl (λ(a:Array jN)(x:jN×Nat)=>a.setIfInBounds (c+x.2) x.1) (Ar it (u++B++v))=Ar it (u++R++v)
 |[],[],u,v,c,n,_,_=>rfl
 |r::R,p::B,u,v,c,n,hl,hc=>by
   rw[aA,uk,NW]
   have e:(Ar it (u++(p::B)++v)).setIfInBounds (c+n) (it r)=Ar it ((u++[r])++B++v):=by
    simp_all
   rw[e,A9 R B _ v c _ (by simpa using hl) (by simp;grind)];simp
def nA(ha:eN lt a)(hb:eN lt b)(h:∀x∈a,∀y∈b,lt x y=U):eN lt (a++b):=eA.mpr ⟨ha,hb,h⟩
def DM{pre:List Nat}{G:Bool->bP->Prop}(o:Lt lt)(as:ue P w A s κ it lt N)(sB:eN lt B)(a5:eN lt C)(nB:0<Z B)(nC:0<Z C)(lB:∀x∈B,x<N)(lC:∀x∈C,x<N)(GB:∀x∈B,x∉C)
  (q:∀M g,eN lt M->M.Perm (B++C)->G U (qa κ it (pre++M++post) (O++(pre.length,Z B+Z C,pw)::c0) g)) :
  Wt P w A E s (mergeAt' O.length) G (qa κ it (pre++(B++C)++post) (O++(pre.length,B.length,pw)::(Z pre+Z B,C.length,pw')::c0) g):=by
 generalize D:pre++(B++C)++post=L';have K:∃y,C[0]?=Y y:=⟨C[0],af nC⟩
 refine ac λ_ kq=>?_;obtain⟨y,K⟩:=K;have H:∃x,B[Z B - 1]?=Y x:=⟨_,af (gP nB (ak _))⟩
 obtain⟨x,H⟩:=H;have yC:=aZ K;have xB:=aZ H;have I:(L'.drop pre.length).take (Z B)=B:=by rw[<-D,aJ,jl,aJ,xw]
 have yW:(L'.drop (Z pre+Z B)).take (Z C)=C:=by
  rw[<-D,<-kn,aJ,jl,aJ,jl,xw]
 have Q:Z pre+Z B+Z C<=Z L':=by rw[<-D];exact lw0
 have gy:L'[Z pre+Z B]?=Y y:=by
  rw[<-D,aJ,aS (aX _ _),aJ,aS (by simp),aY (by omega)];rw[(Nat.sub_eq_zero_of_le (ae (de _ _)))];exact K
 have gx:L'[Z pre+Z B - 1]?=Y x:=by
  rw[<-D,aJ,aS (Hh (jD nB _)),aJ,aY (by omega)];rw[show Z pre+Z B - 1 - Z pre=Z B - 1 by omega];exact H
 obtain⟨k,J',k2,k3,k4⟩:=sS o as (aa (aX _ _) Q) (by rw[I];exact sB) (λz d=>by rw[I]at d;exact⟨lB z d,λe=>GB z d (e▸yC)⟩) (lC y yC);obtain⟨m,m1,m2,m3,m4⟩:=sS o as (by omega) (by rw[yW];exact a5) (λz d=>by rw[yW]at d;exact⟨lC z d,λe=>GB x xB (e▸d)⟩) (lB x xB);refine kq ?_;rw[I]at k2 k3;rw[yW]at m2 m3
 have p:∀z∈C,z=y\/lt y z=U:=λz d=>by
  have e:=j1 K;rw[Rk]at e;rw[e]at d a5
  rcases aw.mp d with h|h
  .exact .inl h
  .exact .inr ((cD.mp a5).1 z h)
 have S:∀z∈B,z=x\/lt z x=U:=λz d=>by
  obtain⟨i,hi⟩:=gC d;obtain⟨O,c0⟩:=aN.mp hi;by_cases e:i=Z B - 1
  .subst e;rw[H]at hi;cases hi;exact .inl W
  .have:=eO.mp sB i (Z B - 1) O (aN.mp H).1 (bq (kX O (wt nB)) e);rw[c0,(aN.mp H).2]at this;exact .inr this
 have low:∀u,(∀z∈C,z=y\/lt y z=U)->lt u y=U->∀z∈C,lt u z=U:=λu _ h z d=>by
  rcases p z d with rfl|h'
  .exact h
  .exact o.tr _ _ _ h h'
 have high:∀u,lt x u=U->∀z∈B,lt z u=U:=λu h z d=>by
  rcases S z d with rfl|h'
  .exact h
  .exact o.tr _ _ _ h' h
 unfold mergeAt';walk_at "u mergeAt";refine .bind (.get ?_)
 have e1:(pendingOf (qa κ it L' (O++(pre.length,B.length,pw)::(Z pre+Z B,C.length,pw')::c0) g))[O.length]?=Y (pre.length,B.length,pw):=by
  rw[kO,aS (ak _),mo];rfl
 have e2:(pendingOf (qa κ it L' (O++(pre.length,B.length,pw)::(Z pre+Z B,C.length,pw')::c0) g))[Z O+1]?=Y (Z pre+Z B,C.length,pw'):=by
  rw[kO,aS (by simp),(de _ _)];rfl
 rw[e1,e2]
 have e3:((pendingOf (qa κ it L' (O++(pre.length,B.length,pw)::(Z pre+Z B,C.length,pw')::c0) g)).setIfInBounds O.length (pre.length,Z B+Z C,pw)).eraseIdxIfInBounds (Z O+1)=(O++(pre.length,Z B+Z C,pw)::c0).toArray:=by
  rw[List.setIfInBounds_toArray,List.set_append_right (h:=ak _),mo];unfold Array.eraseIdxIfInBounds;rw[dif_pos (by simp)];rw[List.eraseIdx_toArray,List.eraseIdx_append_of_length_le (by simp),(de _ _)];rfl
 refine .bind (.set ?_);rw[e3];refine .bind (.elem gy (.bind (k4 J 0 W nB ?_)));refine .ite (λc=>?_) λc=>?_
 .refine .pure ?_;rw[<-D];refine q (B++C) g (nA sB a5 λu n=>low u p (k2 u ?_)) (.refl _);rw[dq (kX (wt J') (ae (beq_iff_eq.mp c)))];exact n
 have c:=λe=>c (beq_iff_eq.mpr e);refine .bind (.elem (by rw[show Z pre+k+(Z B - k) - 1=Z pre+Z B - 1 from(aD (qt (wS (Z pre+k+(Z B - k)) 1 (iF (ck c))) (wT (Z pre+Z B) 1) (ws J')) (qt (wS (Z pre+Z B) 1 (iF nB)) (wT (Z pre+k+(Z B - k)) 1) (wt J')))];exact gx) (.bind (m4 U (Z C - 1) W (gP nC (ak _)) ?_)));refine .ite (λc=>?_) λc'=>?_
 .have c :=beq_iff_eq.mp c;subst c;refine .pure ?_;rw[<-D];exact q (B++C) g (nA sB a5 λu n z d=>high z (m3 z d) u n) (.refl _)
 have c':0<m:=by exact ck (λe=>c' (beq_iff_eq.mpr e))
 have ex:(Ar it L').extract (Z pre+k) (Z pre+Z B)=Ar it (B.drop k):=by
  have:(L'.drop (Z pre+k)).take (Z pre+Z B - (Z pre+k))=B.drop k:=by
   rw[<-D,<-kn,aJ,jl,aJ,uQ J',show Z pre+Z B - (Z pre+k)=(Z (B.drop k)) by simp;omega,xw]
  have h:=m8 (it:=it) (l:=[]) (b:=L') (i:=Z pre+k) (j:=Z pre+Z B);rw[this]at h;simpa using h
 have ey:(Ar it L').extract (Z pre+Z B) (Z pre+Z B+m)=Ar it (C.take m):=by
  have:(L'.drop (Z pre+Z B)).take (Z pre+Z B+m - (Z pre+Z B))=C.take m:=by
   rw[<-D,<-kn,aJ,jl,aJ,jl,(de _ _),uP m1]
  have h:=m8 (it:=it) (l:=[]) (b:=L') (i:=Z pre+Z B) (j:=Z pre+Z B+m);rw[this]at h;simpa using h
 have T:eN lt (B.drop k):=sB.sublist (fA _ _);have U':eN lt (C.take m):=a5.sublist (iU _ _)
 have fin:∀r g',Res it lt (B.drop k++C.take m) r->G U (mf κ (r.toList.zipIdx.foldl (λ(a)(x)=>a.setIfInBounds (Z pre+k+x.2) x.1) (Ar it L')) (O++(pre.length,Z B+Z C,pw)::c0).toArray g' L):=by
  rintro r g' ⟨R,rfl,sR,pR⟩
  have hLs:L'=(pre++B.take k)++(B.drop k++C.take m)++(C.drop m++post):=by
   rw[<-D]
   conv=>lhs;rw[<-bo k B,<-bo m C]
   grind
  rw[hLs,(A9 (it:=it) R _ _ _ _ 0 pR.length_eq.symm (by simp;exact uo (dY J')))];have:=q (B.take k++R++C.drop m) g' ?_ ?_
  .simpa only[aJ]using this
  .refine nA (nA (sB.sublist (iU _ _)) sR λu n z d=>?_) (a5.sublist (fA _ _)) λu n z d=>?_
   .rcases au.mp (pR.mem_iff.mp d)with h|h
    .have:=sB;rw[<-bo k B]at this;exact(eA.mp this).2.2 u n z h
    .exact low u p (k2 u n) z (cy h)
   .have V:=m3 z d
    rcases au.mp n with h|h
    .exact high z V u (cy h)
    .rcases au.mp (pR.mem_iff.mp h)with h|h
     .exact high z V u (fe h)
     .have:=a5;rw[<-bo m C]at this;exact(eA.mp this).2.2 u h z d
  .conv=>rhs;rw[<-bo k B,<-bo m C]
   simpa only[aJ]using ((pR.append_left _).append_right _)
 have c3:∀x∈B.drop k,x<N:=λz h=>lB z (fe h);have X:∀x∈C.take m,x<N:=λz h=>lC z (cy h);have F:∀x∈B.drop k,x∉C.take m:=λz h h'=>GB z (fe h) (cy h');have t:Z (B.drop k)=Z B - k:=by simp
 have hlC:Z (C.take m)=m:=by simp;exact dY m1
 have v:(B.drop k)[Z B - k - 1]?=Y x:=by rw[rQ,show k+(Z B - k - 1)=Z B - 1 from(aD (qt (ws J') (ws (ck c)) (wt nB)) (qt (ws nB) (wt J') (wt (ck c))))];exact H
 have f:(C.take m)[0]?=Y y:=by rw[dt,if_pos c'];exact K
 extract_lets +onlyGivenNames lx ly jp
 subst lx ly
 have h:∀r g',Res it lt (B.drop k++C.take m) r->Wt P w A E s (jp r) G (mf κ (Ar it L') (O++(pre.length,Z B+Z C,pw)::c0).toArray g' L):=by
  intro r g' hr;exact .bind (.modify (.bind (.get (.pure (fin r g' hr)))))
 refine .ite (λ_=>?_) λ_=>?_
 .refine .bind ?_;rw[ex,ey];refine DK o as rfl c3 X T U' F (aa (ck c) (ae t.symm)) f k3 (λz d u n=>?_) λr g' hr=>h r g' hr;rw[t,j1 v]at n;rw[(km (kX (ae t) (wt (ck c)))),az]at n
  grind
 .refine .bind ?_;rw[ex,ey];refine DL o as rfl c3 X T U' F (aa c' (ae hlC.symm)) (aD (kX (ae t) (wt (ck c))) (kX (ws (ck c)) (ae t.symm))) v m2 (λz d u n=>?_) λr g' hr=>h r g' hr;have e:=take_one f
  simp_all
end
section
def Wt.Y2{G:Option Bool->bP->Prop}(as:ue P w A s κ it lt N)(B:l[i]?=Y x)(O:l[j]?=Y y)(nx:x<N)(C:y<N)(h:G (Y (lt x y)) (qa κ it l F g)):Wt P w A E s (ltAt' i j) G (qa κ it l F g):=by
 exact .bind (.get (.bind (.elem B (.bind (.elem O (Wt.ask as rfl nx C h))))))
set_option tactic.hygienic true
def Bq(pre X g:List Nat):mirror (Ar it (pre++X++g)) pre.length (Z pre+Z X) ((Z pre+Z X - Z pre) / 2)=Ar it (pre++X.reverse++g):=by
 apply qP;intro k;rw[getElem?_mirror_all (by simp)];simp only[kO,aR];split
 .rename_i h;rw[aJ,aJ,aS (by omega),aY (by omega),aS (h.1),aY (by simp;exact kX (ws h.1) h.2),C5 (kX (ws h.1) h.2)]
  congr 2;omega
 grind
def Co(p V g:List Nat)(x:Nat):bubble (Ar it (p++(V++x::g))) (p.length+V.length) V.length=Ar it (p++(x::V++g)):=by
 apply qP;intro k;rw[getElem?_bubble (by rw[cC];simp) _ (gp _ _)];simp only[kO,aR];by_cases c:k<p.length
 .rw[if_neg (λz=>(VM c (wT (p.length+V.length) V.length) (ae z.symm))),if_neg (λz=>(VM z.1 c (wT (p.length+V.length) V.length))),aY c,aY c]
 .obtain⟨m,rfl⟩:∃m,k=p.length+m:=⟨_,uo (gJ (bV c))⟩
  clear c;have ap:∀(b:List _)(i:Nat),(p++b)[p.length+i]?=b[i]? :=λb i=>by rw[aS (aX _ _),de]
  rw[ap _ m,ap,ap];split
  .simp_all
  cases m with
  |zero=>simp_all
  |succ m=>
    split
    .rename_i h d;have a :=Ah d.2;rw[show p.length+(m+1) - 1=p.length+m from rfl,ap,aY a,oy,fu,aY a]
    .rename_i h d;have a:V.length<=m:=by omega
     rw[aS (cU a),oy,fu,aS a,Nat.succ_sub a,fu]
set_option tactic.hygienic false
def sj(o:Lt lt){l:List Nat}(h:eN lt (l.take (n+1)))(O:l[n]?=Y u)(B:l[n+1]?=Y v)(c:lt u v=U):eN lt (l.take (n+1+1)):=by
 rw[List.take_succ,B];refine nA h (ou _ _) λz b y a=>?_;have a:y=v:=by simpa using a
 subst a;have:=rn o h (n:=n) (by grind) c z;rw[ki,Nat.min_self]at this;exact this b
abbrev ASt:=Option (Option Nat)×Nat
def Fk{rest:List Nat}{st:bP}(o:Lt lt)(nd:rest.Nodup)(ha:1<=a)(hb:a<=Z rest)(h:eN lt (rest.take a))
  (hf:∀x n u v(C:ForInStep ASt->bP->Prop),rest[n]?=Y u->rest[n+1]?=Y v->(lt v u=U->C (.done (L,n+1)) st)->(lt v u=J->C (.yield (L,n+1+1)) st)->Wt P w A E s (f x (L,n+1)) C st) :
  Wt P w A E s (forIn [a:rest.length] ((L,a):ASt) f) (λb B=>B=st/\∃n,b=(L,n)/\a<=n/\n<=Z rest/\eN lt (rest.take n)/\∀k u v,n=k+1->rest[k]?=Y u->rest[k+1]?=Y v->lt v u=U) st:=by
 refine Wt.range (λj b B=>B=st/\b=(L,a+j)/\eN lt (rest.take (a+j))) ⟨W,W,h⟩ (λj b B g z=>?_) λb B z=>⟨z.1,_,z.2.1,aX _ _,ae (gJ hb),z.2.2,λk u v hk _ i=>by simp_all⟩
 obtain⟨e,r,l⟩:=z;subst e r;obtain⟨n,d⟩:∃n,a+j=n+1:=⟨a+j - 1,aD (iF (wT _ 1)) (iF (wS (a+j) 1 (iF ha)))⟩
 rw[d]at l ⊢;have m:=af (show n<(Z rest) from(qt (ae d.symm) (ws hb) g));have i:=af (show n+1<(Z rest) from(qt (ae d.symm) g (ws hb)))
 refine hf _ n _ _ _ m i (λc=>⟨W,_,W,aa (aX _ _) (ae d),qt (ae d.symm) (ws hb) g,l,λk u v hk p q=>by
  obtain rfl:n=k:=Nat.add_right_cancel hk
  simp_all⟩) λc=>⟨W,by rw[show a+(j+1)=n+1+1 from(aD (bb (ae d)) (bb (ae d.symm)))],?_⟩
 rw[show a+(j+1)=n+1+1 from(aD (bb (ae d)) (bb (ae d.symm)))];refine sj o l m i (o.co _ _ (λe=>?_) c);have:=(kj (qt (ae d.symm) g (ws hb)) nd).mp (i.trans (by rw[e];exact m.symm))
 grind
def ux{pre rest:List Nat}:(pre++rest)[Z pre+n]?=rest[n]? :=by rw[aS (aX _ _)];simp
def B6{pre rest:List Nat}{G:Option Nat->bP->Prop}(o:Lt lt)(as:ue P w A s κ it lt N)(a5:0<Z rest)(O:∀x∈rest,x<N)(nd:rest.Nodup)
  (q:∀n rest',1<=n->n<=Z rest->rest'.Perm rest->eN lt (rest'.take n)->G (Y n) (qa κ it (pre++rest') pd g)):Wt P w A E s (countRun' pre.length rest.length) G (qa κ it (pre++rest) pd g):=by
 have ask:∀{rest':List Nat}{i j x y:Nat}{X:Option Bool->bP->Prop},rest'.Perm rest->rest'[i]?=Y x->rest'[j]?=Y y->X (Y (lt x y)) (qa κ it (pre++rest') pd g)->Wt P w A E s (ltAt' (Z pre+i) (Z pre+j)) X (qa κ it (pre++rest') pd g):=λhp J' K h=>
  Wt.Y2 as (ux.trans J') (ux.trans K) (O _ (hp.mem_iff.mp (aZ J'))) (O _ (hp.mem_iff.mp (aZ K))) h
 unfold countRun';walk_at "u countRun"
 refine .bind (Wt.mono (Fk o nd (ak 1) a5 (by
  cases rest with
  |nil=>exact .nil
  |cons z r=>exact ou _ _) λx n u v X f l C D=>?_) λb d z=>?_)
 .refine .bind (ask (.refl _) l f ?_)
  cases c:lt v u with
  |true=>exact .pure (C c)
  |false=>exact .pure (D c)
 obtain⟨e,n,V,h1,h2,B,hs⟩:=z;subst e V;refine .ite (λc=>.pure (q n rest h1 h2 (.refl _) B)) λc=>?_;have c:n<Z rest:=by exact bq h2 (λe=>c (beq_iff_eq.mpr e))
 extract_lets +onlyGivenNames T U' L'
 refine Wt.wy (λR=>n=1->R (L' ())) ?_ λh=>?_
 rotate_left
 .refine .ite (λc1=>?_) λc1=>h (by exact aD (bV c1) h1);obtain⟨k,rfl⟩:∃k,n=k+1:=⟨n - 1,uo (mV h1)⟩
  refine .bind (ask (i:=0) (.refl _) (af (show 0<(Z rest) by omega)) (af (h2)) ?_)
  have:lt rest[0] rest[k]=U:=by
   have:=eO.mp B 0 k (by exact iF (a0 (k + 1) rest.length (iF c))) (by simp;exact iF (a0 (k + 1) rest.length (iF c))) (aV c1);simpa using this
  rw[this];exact .pure (q _ _ h1 h2 (.refl _) B)
 rintro rfl;have l:=af (by omega);have f:=af (show 0<(Z rest) by omega);have o':Lt (Wj lt):=⟨λi j k a b=>o.tr _ _ _ b a,λi j a b=>o.co _ _ (cu a) b,λi j a=>o.as _ _ a⟩
 have M:eN (Wj lt) (rest.take 2):=by
  refine sj o' ?_ f l (hs 0 _ _ W f l)
  cases rest with
  |nil=>exact .nil
  |cons z r=>exact ou _ _
 refine .bind (.rule (.bind (Wt.mono (Wt.range (G:=λ(b)d=>d=qa κ it _ pd g/\∃m,b=(L,m,0)/\2<=m/\m<=Z rest/\eN _ (rest.take m))
  (λj b d=>d=qa κ it _ pd g/\b=(L,j+2,0)/\eN _ (rest.take (j+2))) ⟨W,W,M⟩ (λj b d F z=>?_) λb d z=>⟨z.1,_,z.2.1,by simp,gP c (ak _),z.2.2⟩) λb d z=>?_)))
 .obtain⟨e,V,hd⟩:=z;subst e V;have f:=af (show j+1<(Z rest) from(ax (qp F)));have l:=af (show j+2<(Z rest) from(qp F));refine .bind (ask (.refl _) l f ?_)
  cases c:lt _ rest[j+1]with
  |true=>
    refine .pure ⟨W,W,?_⟩;have H:=hd;exact (sj o' H f (l) c)
  |false=>
    have I:rest[j+2]≠rest[j+1]:=λe=>by
     have:=(kj (by omega) nd).mp (l.trans (by rw[e];exact f.symm))
     simp_all
    refine .bind (ask (.refl _) f l ?_);rw[o.co _ _ I c];exact .pure ⟨W,_,W,gp _ _,ax (qp F),hd⟩
 obtain⟨e,m,V,m1,m2,hd⟩:=z;subst e V;have p:((rest.take m).reverse++rest.drop m).Perm rest:=by
  conv=>rhs;rw[<-bo m rest]
  exact(gr _).append_right _
 refine .bind ?_;show Wt P w A E s (reverseSlice' _ _) _ _;rw[reverseSlice'_eq];refine .modify ?_
 have Q:mirror (Ar it (pre++rest)) pre.length (Z pre+m) ((Z pre+m - Z pre) / 2)=Ar it (pre++((rest.take m).reverse++rest.drop m)):=by
  have:=Bq (it:=it) pre (rest.take m) (rest.drop m)
  simp_all
 rw[Q];have t :=p.length_eq;generalize S:(rest.take m).reverse++rest.drop m=rest' at p t;have ht:rest'.take m=(rest.take m).reverse:=by grind
 rw[<-t];refine .bind (Wt.mono (Fk o (p.nodup_iff.mpr nd) ((ax m1)) (aa m2 (ae t.symm)) (by rw[ht];exact kN.mpr hd) λx n u v X f l C D=>?_) λb d z=>?_)
 .refine .bind (ask p l f ?_)
  cases c:lt v u with
  |true=>exact .pure (C c)
  |false=>exact .pure (D c)
 .obtain⟨e,n,V,h1,h2,B,_⟩:=z;subst e V;exact .pure (q n _ (ax (aa m1 h1)) (aa h2 (ae t)) p B)
end
section
set_option tactic.hygienic true in
def xm{pre rest:List Nat}{G:Bool->bP->Prop}(o:Lt lt)(as:ue P w A s κ it lt N)(h1:1<=ok)(h2:ok<=n)(hn:n<=Z rest)(a5:∀x∈rest,x<N)(nd:rest.Nodup)(c0:eN lt (rest.take ok))
  (q:∀rest',rest'.Perm rest->eN lt (rest'.take n)->G U (qa κ it (pre++rest') pd g)):Wt P w A E s (binarySort' pre.length n ok) G (qa κ it (pre++rest) pd g):=by
 unfold binarySort';walk_at "u binarySort";rw[Nat.max_eq_left h1]
 refine .bind (Wt.mono (Wt.range (G:=λ(b)a=>b=(L,())/\∃rest',a=qa κ it (pre++rest') pd g/\rest'.Perm rest/\eN lt (rest'.take n))
  (λj b a=>b=(L,())/\∃rest',a=qa κ it (pre++rest') pd g/\rest'.Perm rest/\eN lt (rest'.take (ok+j))) ⟨W,_,W,.refl _,c0⟩ (λj b a S z=>?_) λb a z=>by simp_all) λb a z=>by obtain⟨X,rest',e,hp,f⟩:=z;subst e X;exact .pure (q _ hp f))
 refine ac λ_ V=>?_;obtain⟨X,rest',e,hp,f⟩:=z;subst e X;refine V ?_;generalize hk:ok+j=k at f;have B:k<Z rest':=a4 (ae hk.symm) S (ad h2) hn (ae hp.length_eq.symm)
 have C:=af B;generalize rest'[k]=x at C;have mem:∀{i z:Nat},rest'[i]?=Y z->z<N:=λh=>a5 _ (hp.mem_iff.mp (aZ h));obtain⟨t,p,M⟩:=FF o f x;have p:t<=k:=by simp at p;exact aa p (jP _ _)
 have less:∀m,m<k->∃z,rest'[m]?=Y z/\lt x z=decide (¬m<t):=λm F=>by
  have v:=af ((cT F B));refine⟨_,v,?_⟩;have e:=M m _ (by rw[dt,if_pos F];exact v)
  have I:rest'[m]≠x:=λe=>by
   exact a7 F (ae ((kj ((cT F B)) (hp.nodup_iff.mpr nd)).mp (v.trans (by rw[e];exact C.symm))).symm)
  by_cases c:m<t
  .rw[decide_eq_true c]at e;rw[decide_eq_false (λz=>(z c))];exact o.as _ _ e
  .rw[decide_eq_false c]at e;rw[decide_eq_true c];exact o.co _ _ I e
 refine .bind (Wt.mono (Wt.range (G:=λ(b)a=>a=qa κ it (pre++rest') pd g/\∃r,b=(L,t,r))
  (λi b a=>a=qa κ it _ pd g/\∃l r,b=(L,l,r)/\l<=t/\t<=r/\r<=k/\r - l<=k - i) ⟨W,0,k,W,aK _,p,ak _,by simp⟩ (λi b a hi z=>?_) λb a z=>by refine ac λ_ V=>?_;obtain⟨e,l,r,X,H,J',K,Q⟩:=z;refine V ?_;grind) λb a z=>?_)
 .refine ac λ_ V=>?_;obtain⟨e,l,r,X,H,J',K,Q⟩:=z;subst e X;refine V ?_;refine .ite (λc=>.pure ⟨W,r,by rw[(aD (aa J' c) H)]⟩) λc=>?_;have c:=c;obtain⟨z,L',O⟩:=less ((l+r) / 2) (kX (a2 l r (iF (cz c))).2 K);refine .bind (Wt.Y2 as (ux.trans C) (ux.trans L') (mem C) (mem L') ?_);rw[O];by_cases d:(l+r) / 2<t
  .rw[decide_eq_false (λz=>(z d))];exact .pure ⟨W,_,r,W,d,J',K,Nat.sub_le_of_le_add (a4 (am (ax (cz c))) Q (a2 l r (iF (cz c))).1 (ad (ax hi)) (am hi))⟩
  .rw[decide_eq_true d];exact .pure ⟨W,l,_,W,H,bV d,Nr (wd (l+r)) H K (cz d),Nat.sub_le_of_le_add (a4 (a2 l r (iF (cz c))).2 (am (ax (cz c))) Q (ad (ax hi)) (am hi))⟩
 obtain⟨e,r,X⟩:=z;subst e X;refine .bind ?_;show Wt P w A E s (moveDown' _ _) _ _;rw[moveDown'_eq];refine .modify (.pure ⟨W,rest'.take t++(x::(rest'.take k).drop t++rest'.drop (k+1)),?_,?_,?_⟩)
 .have hb:=Co (it:=it) (pre++rest'.take t) ((rest'.take k).drop t) (rest'.drop (k+1)) x
  have X:rest'.take t++(rest'.take k).drop t=rest'.take k:=by
   conv=>rhs;rw[<-bo t (rest'.take k)]
   rw[ki,dY p]
  have e2:rest'=rest'.take k++x::rest'.drop (k+1):=by rw[<-j1 C,bo]
  have e3:pre++rest'.take t++((rest'.take k).drop t++x::rest'.drop (k+1))=pre++rest':=by
   rw[aJ,<-aJ (rest'.take t),X,<-e2]
  have e4:Z (rest'.take k)=k:=by rw[fO];exact dY (ax (List.getElem?_eq_some_iff.mp C).1)
  have R:Z (pre++rest'.take t)+Z ((rest'.take k).drop t)=Z pre+k:=by rw[<-aj,aJ,X,aj,e4]
  have e5:Z ((rest'.take k).drop t)=Z pre+k - (Z pre+t):=by rw[eC,e4,Nat.add_sub_add_left]
  rw[e3,R,e5,aJ]at hb;rw[hb]
 .refine EN ?_ hp
  have e2:rest'=rest'.take t++((rest'.take k).drop t++x::rest'.drop (k+1)):=by
   rw[<-aJ]
   have X:rest'.take t++(rest'.take k).drop t=rest'.take k:=by
    conv=>rhs;rw[<-bo t (rest'.take k)]
    rw[ki,dY p]
   rw[X,<-j1 C,bo]
  conv=>rhs;rw[e2]
  exact j6 _ Nj.symm
 .have X:rest'.take t++(rest'.take k).drop t=rest'.take k:=by
   conv=>rhs;rw[<-bo t (rest'.take k)]
   rw[ki,dY p]
  have e2:(rest'.take t++(x::(rest'.take k).drop t++rest'.drop (k+1))).take (ok+(j+1))=rest'.take t++(x::(rest'.take k).drop t):=by
   rw[<-aJ,uP (by simp;exact Nr (ae hk) (a0 k rest'.length (iF B)) (ay (min k _) t) (a0 t rest'.length (kX p B))),dq (by simp;omega)]
  rw[e2];have D:=f;rw[<-X]at D;have lo:∀z∈rest'.take t,lt z x=U:=λz v=>by
   obtain⟨i,hi⟩:=gC v;rw[dt]at hi;split at hi
   .rename_i c;rw[M i z (by rw[dt,if_pos (aT c p)];exact hi),decide_eq_true c]
   .cases hi
  have hi:∀z∈(rest'.take k).drop t,lt x z=U:=λz v=>by
   obtain⟨i,hi⟩:=gC v;rw[rQ,dt]at hi;split at hi
   .rename_i c;obtain⟨T,L',O⟩:=less _ c
    simp_all
   .cases hi
  refine nA (eA.mp D).1 (cD.mpr ⟨hi,(eA.mp D).2.1⟩) λz v y U'=>?_
  grind
end
inductive me (lt:Nat->Nat->Bool):Nat->List (Nat×Nat×Nat)->List (List Nat)->Prop
 |nil {o:Nat}:me lt o [] []
 |cons {o pw:Nat} {R:List Nat} {ps:List (Nat×Nat×Nat)} {Rs:List (List Nat)}:0<Z R->eN lt R->me lt (o+Z R) ps Rs->me lt o ((o,R.length,pw)::ps) (R::Rs)
section
def me.split(h:me lt o S Rs):∀{i:Nat},i+1<Z S->∃F pw I P O B C R2,S=F++(o+Z (O.flatten:List Nat),B.length,pw)::(o+Z O.flatten+Z B,C.length,I)::P/\Rs=O++B::C::R2/\Z F=i/\
  0<Z B/\0<Z C/\eN lt B/\eN lt C/\∀M:List Nat,Z M=Z B+Z C->eN lt M->me lt o (F++(o+Z O.flatten,Z B+Z C,pw)::P) (O++M::R2):=by
 induction h with
 |nil=>intro i hi;simp at hi
 | @cons o pw R ps Rs h1 h2 h3 c=>
   intro i hi
   cases i with
   |zero=>
     cases h3 with
     |nil=>simp at hi
     | @cons _ I C ps Rs d f g=>
       refine⟨[],pw,I,ps,[],R,C,Rs,W,W,W,h1,d,h2,f,λM a b=>?_⟩;have:=me.cons (pw:=pw) (aa (NO _ h1) (ae a.symm)) b (by rwa[a,<-iS])
       simp_all
   |succ i=>
     refine ac λ_ l=>?_;obtain⟨F,j,k,P,O,B,C,R2,m,n,p,b1,b2,b3,b4,b5⟩:=c (by simpa using hi);refine l ?_;have e:o+(R::O).flatten.length=o+Z R+Z O.flatten:=by simp;exact uo (iS ..)
     refine⟨(o,R.length,pw)::F,j,k,P,_,B,C,R2,by rw[e,m];rfl,by rw[n];rfl,by simp[p],b1,b2,b3,b4,λM a b=>?_⟩;rw[e];exact .cons h1 h2 (b5 M a b)
def me.push{R:List Nat}(h:me lt o g Rs)(h1:0<Z R)(h2:eN lt R):me lt o (g++[(o+Z Rs.flatten,R.length,x)]) (Rs++[R]):=by
 induction h with
 |nil=>exact .cons h1 h2 .nil
 | @cons o f a ps Rs b c e d=>
   refine .cons b c ?_;rwa[show o+(a::Rs).flatten.length=o+Z a+(Z Rs.flatten) by simp;exact uo (iS ..)]
def me.mod(hf:∀a b c,∃d,f (a,b,c)=(a,b,d))(h:me lt o B Rs):∀k,me lt o (B.modify k f) Rs:=by
 induction h with
 |nil=>intro k;simp;exact .nil
 | @cons o g l ps Rs i j m n=>
   intro k
   cases k with
   |zero=>
     obtain⟨d,e⟩:=hf o _ g;rw[List.modify_zero_cons,e];exact .cons i j m
   |succ k=>exact .cons i j (n k)
def me.len(h:me lt o g Rs):Z g<=Z Rs.flatten:=by
 induction h with
 |nil=>exact ak _
 |cons b c d a=>simp at a ⊢;exact kX a b
end
section
variable{κ:p3}{it:Nat->jN}{lt:Nat->Nat->Bool}
def vH{Rs:List (List Nat)}{rest:List Nat}{G:Bool->bP->Prop}(o:Lt lt)(as:ue P w A s κ it lt N)(O:∀x∈l,x<N)(nd:l.Nodup)(hl:l=Rs.flatten++rest)(hp:me lt 0 R Rs)(hi:i+1<Z R)
  (q:∀S F g' I,S=I.flatten++rest->me lt 0 F I->S.Perm l->Z I.flatten=Z Rs.flatten->Z F+1=Z R->G U (qa κ it S F g')):Wt P w A E s (mergeAt' i) G (qa κ it l R g):=by
 refine ac λ_ r=>?_;obtain⟨n,y,e,p,c,B,C,R2,t,u,v,b1,b2,b3,b4,b5⟩:=hp.split hi;refine r ?_;rw[fH]at t b5;have el:l=c.flatten++(B++C)++(R2.flatten++rest):=by rw[hl,u];simp
 have f:∀x∈B,x∈l:=λx a=>by rw[el];simp[a]
 have h:∀x∈C,x∈l:=λx a=>by rw[el];simp[a]
 have GB :=λx j k=>by
  rw[el]at nd;exact(cj.mp ((cj.mp (cj.mp nd).1).2.1)).2.2 x j x k W
 subst v;rw[t,el];refine DM o as b3 b4 b1 b2 (λx a=>O x (f x a)) (λx a=>O x (h x a)) GB λM g' m d=>?_;have b:Z M=Z B+Z C:=by rw[d.length_eq];simp
 refine q _ _ g' _ (by simp) (b5 M b m) ?_ (by rw[u];simp;exact aD (iF (ae b)) (iF (ae b.symm))) (by rw[t];simp;rfl);rw[el];exact(d.append_left _).append_right _
abbrev Xq(κ:p3)(it:Nat->jN)(lt:Nat->Nat->Bool)(O:List Nat)(n:Nat)(b:Option Unit×Nat)(B:bP):Prop:=∃l a g Rs,b=(L,n)/\B=qa κ it l a g/\l=(Rs:List (List Nat)).flatten/\me lt 0 a Rs/\l.Perm O
abbrev Xp(κ:p3)(it:Nat->jN)(lt:Nat->Nat->Bool)(O:List Nat)(j:Nat)(b:Option Unit×Nat)(B:bP):Prop:=∃l a g Rs rest,b=(L,(Rs.flatten:List Nat).length)/\B=qa κ it l a g/\l=Rs.flatten++rest/\me lt 0 a Rs/\l.Perm O/\(rest=[]\/j<=Z Rs.flatten)
def ite_le{c:Prop}[Decidable c]:(if c then a - 1 else a)<=a:=by split<;>simp
def AK{G:Unit->bP->Prop}(o:Lt lt)(as:ue P w A s κ it lt N)(O:∀x∈l0,x<N)(a5:l0.Nodup)(q:∀l B g,l.Perm l0->eN lt l->G () (qa κ it l B g)):Wt P w A E s sortRuns' G (qa κ it l0 [] g0):=by
 have L':∀{l:List Nat},l.Perm l0->∀x∈l,x<N:=λh x H=>O x (h.mem_iff.mp H);have nd:∀{l:List Nat},l.Perm l0->l.Nodup:=λh=>h.nodup_iff.mpr a5;unfold sortRuns';walk_at "u sortRuns";refine .bind (.get ?_);have hsz:(arrOf (qa κ it l0 [] g0)).size=Z l0:=cC;rw[hsz];generalize M:Z l0=n
 refine .bind (Wt.mono (Wt.range (G:=Xq κ it lt l0 n) (Xp κ it lt l0) ⟨l0,[],g0,[],l0,W,W,W,.nil,.refl _,.inr (ak _)⟩
  (λj b f c0 z=>?_) λb f z=>?_) λb f z=>?_)
 rotate_left
 .refine ac λ_ kq=>?_;obtain⟨l,B,g,Rs,rest,e1,e2,hl,hp,e,v⟩:=z;have h1:=e.length_eq
  have Q:rest=[]:=by
   rcases v with h|h
   .exact h
   .rw[hl,aj]at h1;exact jV.mp (aD (qt (ae h1) (ae M) h) (lw0))
  subst Q;refine kq ?_;rw[aI]at hl;refine⟨l,B,g,Rs,?_,e2,hl,hp,e⟩
  simp_all
 .refine ac λ_ kq=>?_;obtain⟨l,B,g,Rs,e1,e2,hl,hp,e⟩:=z;subst e1 e2
  refine kq ?_;refine .bind (Wt.mono (Wt.range (G:=λ(b)f=>∃l B g Rs,b=(L,())/\f=qa κ it l B g/\l=(Rs).flatten/\me lt 0 B Rs/\l.Perm l0/\Z B<=1)
   (λj b f=>∃l B g Rs,b=(L,())/\f=qa κ it l B g/\l=(Rs).flatten/\me lt 0 B Rs/\l.Perm l0/\(Z B<=1\/Z B+j<=n)) ⟨l,B,g,Rs,W,W,hl,hp,e,.inr (by have:=hp.len;rw[<-hl,e.length_eq]at this;simp_all)⟩
   (λj b f c0 z=>?_) λb f z=>by refine ac λ_ kq=>?_;obtain⟨l,B,g,Rs,e1,e2,hl,hp,e,v⟩:=z;refine kq ?_;exact⟨l,B,g,Rs,e1,e2,hl,hp,e,by omega⟩) λb f z=>?_)
  .refine ac λ_ kq=>?_;obtain⟨l,B,g,Rs,e1,e2,hl,hp,e,v⟩:=z;subst e1 e2;refine kq ?_;refine .bind (.get ?_);refine .ite (λc=>.pure ⟨l,B,g,Rs,W,W,hl,hp,e,by exact c⟩) λc=>?_;have c:¬Z B<=1:=by exact c
   refine .bind (vH o as (L' e) (nd e) (by rw[aI];exact hl) hp (ao (bb (ite_le (a:=Z B - 2))) (iF (ws (cz c)))) λl' pd' g' Rs' X R S c3 k5=>?_)
   .refine .F9 (by simp) (.pure ⟨l',pd',g',Rs',W,W,by simp_all,R,S.trans e,.inr (by omega)⟩)
  .obtain⟨l,B,g,Rs,e1,e2,hl,hp,e,v⟩:=z;subst e1 e2;refine .pure (q l B g e ?_);rw[hl]
   cases hp with
   |nil=>exact .nil
   |cons h1 h2 h3=>
     cases h3 with
     |nil=>simpa using h2
     |cons _ _ _=>simp at v
 obtain⟨l,B,g,Rs,rest,e1,e2,hl,hp,e,v⟩:=z;subst e1 e2;have hlen:=e.length_eq;have k:Z Rs.flatten+Z rest=n:=by simp_all
 refine .ite (λc=>?_) λc=>?_
 .have Q :=jV.mp (aD (Ah (aa (ae k) c)) (aK _));subst Q;rw[aI]at hl;refine .pure ⟨l,B,g,Rs,?_,W,hl,hp,e⟩;rw[<-hl,hlen,M]
 have I :=λx H=>L' e x (by rw[hl];exact aq _ H);have J' :=(cj.mp (hl▸nd e)).2.1;refine .bind ?_;rw[show n - Z Rs.flatten=(Z rest) from(aD (kX (ws (ax (cz c))) (ae k.symm)) (kX (ae k) (wt (ax (cz c))))),hl];refine B6 o as (kX (cz c) (ae k.symm)) I J' λm d m1 m2 y K=>?_;have C:=y.length_eq;dsimp -zeta -zetaHave only
 extract_lets +onlyGivenNames n1 jp
 suffices h:∀m d g,1<=m->m<=Z rest->(d).Perm rest->eN lt (d.take m)->Wt P w A E s (jp () m) (Z1 (Xq κ it lt l0 n) (Xp κ it lt l0 (j+1))) (qa κ it (Rs.flatten++d) B g) by
  refine .ite (λc1=>?_) λ_=>h m d g m1 m2 y K;refine .bind (.rule (.bind (xm o as m1 ?_ (aa (jP _ _) (ae C.symm)) (λx H=>I x (y.mem_iff.mp H)) (y.nodup_iff.mpr J') K λF p2 r2=>?_)))
  .omega
  .exact .F9 (by simp) (h _ F g (by omega) (jP _ _) (p2.trans y) r2)
 intro m d g m1 m2 y K;have C:=y.length_eq;refine .bind (.get ?_)
 extract_lets +onlyGivenNames lo T
 subst lo
 have h:∀l B g(Rs':List (List Nat)),l=Rs'.flatten++d->me lt 0 B Rs'->l.Perm l0->Z Rs'.flatten=Z Rs.flatten->Wt P w A E s (T ()) (Z1 (Xq κ it lt l0 n) (Xp κ it lt l0 (j+1))) (qa κ it l B g):=by
  intro l B g Rs' p r i t;refine .bind (.modify (.pure ⟨l,B++[(Rs.flatten.length,m,0)],g,Rs'++[d.take m],d.drop m,?_,?_,?_,?_,i,?_⟩))
  .simp_all
  .rw[List.push_toArray]
  .rw[p];simp
  .have:=r.push (x:=0) (by simp;exact kX m1 (a0 m d.length (kX m2 (ae C.symm)))) K
   grind
  .refine .inr ?_
   grind
 have D :=(y.append_left _).trans (hl▸e)
 cases hb:B.toArray.back? with
 |none=>exact h _ _ _ Rs W hp D W
 |some z=>
   obtain⟨s1,n1,z3⟩:=z
   refine .bind (Wt.mono (Wt.range
    (λj b f=>∃l B g Rs',b=(L,())/\f=qa κ it l B g/\l=(Rs').flatten++d/\me lt 0 B Rs'/\l.Perm l0/\Z Rs'.flatten=Z Rs.flatten) ⟨_,B,g,Rs,W,W,W,hp,D,W⟩
    (λj b f c0 z=>?_) λb f h=>h) λb f z=>?_)
   .refine ac λ_ kq=>?_;obtain⟨l,B,g,Rs',e1,e2,p,r,i,t⟩:=z;subst e1 e2;refine kq ?_;refine .bind (.get ?_);dsimp only;rw[bC];by_cases c2:B.length > 1
    .rw[if_pos c2]
     have hz:B.toArray[Z B - 2]?=Y B[Z B - 2]:=by
      simp
     rw[hz];generalize B[Z B - 2]=z;obtain⟨za,zb,zc⟩:=z;refine .ite (λ_=>.pure ⟨l,B,g,_,W,W,p,r,i,t⟩) λ_=>?_;refine .bind (vH o as (L' i) (nd i) p r (iF (ws c2)) λl2 U' g2 V X R S c3 k5=>?_);exact .F9 (by simp) (.pure ⟨l2,U',g2,V,W,W,X,R,S.trans i,c3.trans t⟩)
    .rw[if_neg c2];exact .pure ⟨l,B,g,_,W,W,p,r,i,t⟩
   .refine ac λ_ kq=>?_;obtain⟨l,B,g,Rs',e1,e2,p,r,i,t⟩:=z;subst e1 e2;refine kq ?_;refine .bind (.modify ?_);rw[List.modify_toArray];exact h l _ g _ p (r.mod (λa b c=>⟨_,W⟩) _) i t
end
section
variable{lt:Nat->Nat->Bool}{n:Nat}
structure Q4(lt:Nat->Nat->Bool)(n:Nat):Prop where
 tr:∀i j k,i<n->j<n->k<n->lt i j=U->lt j k=U->lt i k=U
 co:∀i j,i<n->j<n->i≠j->lt i j=J->lt j i=U
 as:∀i j,i<n->j<n->lt i j=U->lt j i=J
noncomputable abbrev pg(p:Array Nat)(k:Nat):Nat:=p.getD k 0
structure Pm(p:Array Nat)(n:Nat):Prop where
 sz:p.size=n
 lt:∀k,k<n->pg p k<n
 inj:∀i j,i<n->j<n->pg p i=pg p j->i=j
 pm:p.toList.Perm (aQ n)
def K0{p:Array Nat}(h:k<p.size):p[k]?=Y (pg p k):=by
 simp_all
def YG(h:p[k]?=Y x):pg p k=x:=by
 simp_all
def Pm.of{p:Array Nat}(h:p.toList.Perm (aQ n)):Pm p n:=by
 have sz:p.size=n:=by rw[<-bh,h.length_eq,a8]
 refine⟨sz,λk hk=>?_,λi j hi c e=>?_,h⟩
 .have:pg p k∈p.toList:=by
   simp_all
  exact bu.mp (h.mem_iff.mp this)
 .have a:=K0 (aa hi (ae sz.symm));have b:=K0 (aa c (ae sz.symm));rw[<-iP]at a b;rw[e]at a;exact(kj (by simp_all) (h.nodup_iff.mpr fM)).mp (a.trans b.symm)
def Up(lt:Nat->Nat->Bool)(p:Array Nat)(m:Nat):Prop:=∀i j,i<j->j<m->lt (pg p i) (pg p j)=U
noncomputable def VP(lt:Nat->Nat->Bool)(n i j:Nat):Bool:=if i<n then(if j<n then lt i j else U)else if j<n then J else decide (i<j)
def LF(hi:i<n)(B:j<n):VP lt n i j=lt i j:=by unfold VP;simp_all
def VO(o:Q4 lt n):Lt (VP lt n):=by
 refine⟨λi j k a b=>?_,λi j ne a=>?_,λi j a=>?_⟩
 .unfold VP at a b ⊢;by_cases hi:i<n<;>by_cases c:j<n<;>by_cases hk:k<n<;>simp only[hi,c,hk,if_true,if_false,bS,decide_eq_true_eq]at a b ⊢
  .exact o.tr i j k hi c hk a b
  .exact cT a b
 .unfold VP at a ⊢;by_cases hi:i<n<;>by_cases c:j<n<;>simp only[hi,c,if_true,if_false,Bool.true_eq_false,decide_eq_false_iff_not,decide_eq_true_eq]at a ⊢
  .exact o.co i j hi c ne a
  .omega
 .unfold VP at a ⊢;by_cases hi:i<n<;>by_cases c:j<n<;>simp only[hi,c,if_true,if_false,bS,decide_eq_false_iff_not,decide_eq_true_eq]at a ⊢
  .exact o.as i j hi c a
  .exact λz=>(a7 z (ax a))
end
section
def J4{vs:List ah}(o:Q4 lt vs.length)(hc:∀i j,i<Z vs->j<Z vs->∀C:Bool->ai->Prop,C (lt i j) s->aF (aG P w) A (keyLt' κ (vs.getD i .none) (vs.getD j .none)) C (λ_ _=>False) s) :
  aF (aG P w) A ((sortRuns').run (mf κ (vs.toArray.zip vs.toArray) #[] 7 L)) (λr B=>B=s/\∃p:Array Nat,Pm p (Z vs)/\Up lt p (Z vs)/\arrOf r.2=p.map (NC (vs.toArray.zip vs.toArray))/\failedOf r.2=L) E s:=by
 have as:ue P w A s κ (NC (vs.toArray.zip _)) (VP lt _) _:=λi j hi b C f=>by
  rw[LF hi b]at f;have e:=kas_item_eq vs;unfold pairsOf at e;rw[e i,e j];exact hc i j hi b C f
 have d:mf κ (vs.toArray.zip vs.toArray) #[] 7 L=qa κ (NC (vs.toArray.zip vs.toArray)) (aQ vs.length) [] 7:=by
  have e:=kas_range (vs.toArray.zip vs.toArray)
  grind
 rw[d]
 have run:=AK (E:=E) (g0:=7) (G:=λ_ c=>∃p:Array _,Pm p _/\Up lt p (Z vs)/\arrOf c=p.map (NC (vs.toArray.zip _))/\failedOf c=L)
  (VO o) as (λx h=>bu.mp h) fM λl m g hp k=>by
   have pm:Pm l.toArray _:=.of hp;refine⟨_,pm,λi j a b=>?_,by rw[List.map_toArray],W⟩;have hl:Z l=Z vs:=by simpa using hp.length_eq
   have n:pg l.toArray i=l[i]:=by simp[pg,show i<(Z l) by omega]
   have q:pg l.toArray j=l[j]:=by simp_all
   rw[n,q,<-LF (lt:=lt) (n▸pm.lt i (cT a b)) (q▸pm.lt j (by omega))];exact (eO.mp k i j (aa (cT a b) (ae hl.symm)) (aa b (ae hl.symm)) a)
 exact dE run (λr B z=>⟨z.2,z.1⟩) λ_ _ e=>e
end
noncomputable def rk{α:Type}[DecidableEq α](f:α->α->Bool):List α->List α->Bool
 |[],[]=>J
 |[],_::_=>U
 |_::_,[]=>J
 |x::a,y::b=>if x=y then rk f a b else f x y
structure LO{α:Type}(f:α->α->Bool):Prop where
 tr:∀a b c,f a b=U->f b c=U->f a c=U
 co:∀a b,a≠b->f a b=J->f b a=U
 ir:∀a,f a a=J
def LO.as (h:LO f)(x:f a b=U):f b a=J:=by
 cases q:f b a with
 |false=>rfl
 |true=>have:=h.tr _ _ _ x q;rw[h.ir]at this;cases this
def LO.int:LO (λi j:Int=>decide (i<j)):=
 ⟨λa b c x y=>by simp only[decide_eq_true_eq]at *;exact C7 (fU x y),λa b n x=>by grind,λa=>by simp⟩
section
variable{α:Type}[DecidableEq α]{f:α->α->Bool}
def lV{x y:α}{xs g:List α}:rk f (x::xs) (y::g)=if x=y then rk f xs g else f x y:=rfl
def LO.lex(h:LO f):LO (rk f):=by
 refine⟨λa=>?_,λa=>?_,λa=>?_⟩
 .induction a with
  |nil=>
    intro b c x y
    cases b with
    |nil=>cases x
    | cons _ _=>cases c with
      |nil=>cases y
      |cons _ _=>rfl
  |cons p a d=>
    intro b c x y
    cases b with
    |nil=>cases x
    |cons q b=>
      cases c with
      |nil=>cases y
      |cons r c=>
        rw[lV]at x y ⊢;by_cases g:p=q
        .subst g
         grind
        .rw[if_neg g]at x;by_cases i:q=r
         .simp_all
         .rw[if_neg i]at y;have z:=h.tr _ _ _ x y;rwa[if_neg λe=>by rw[<-e]at z;rw[h.ir]at z;cases z]
 .induction a with
  |nil=>
    intro b n x
    cases b with
    |nil=>exact absurd rfl n
    |cons _ _=>cases x
  |cons p a d=>
    intro b n x
    cases b with
    |nil=>rfl
    |cons q b=>
      rw[lV]at x ⊢;by_cases e:p=q
      .grind
      .rw[if_neg e]at x;rw[if_neg λz=>e z.symm];exact h.co _ _ e x
 .induction a with
  |nil=>rfl
  |cons p a d=>rwa[lV,if_pos W]
end
abbrev LG:List Int->List Int->Bool:=rk λi j=>decide (i<j)
abbrev Y1:List (List Int)->List (List Int)->Bool:=rk LG
abbrev wX:List (List (List Int))->List (List (List Int))->Bool:=rk Y1
def P4:LO LG:=LO.int.lex
def n5:LO wX:=LO.int.lex.lex.lex
def P5:LG [i] [j]=decide (i<j):=by
 show(if i=j then J else decide _)=decide _;by_cases e:i=j
 .rw[e];simp
 .rw[if_neg e]
theorem zt:∀l g:List Nat,LG (l.map e8) (g.map e8)=decide (l<g)
 |[],[]=>by simp[LG,rk]
 |[],_::_=>by simp[LG,rk]
 |_::_,[]=>by simp[LG,rk]
 |a::l,b::g=>by
   have c:=zt l g;show(if e8 a=e8 b then LG _ (g.map e8)else decide _)=_;by_cases e:a=b
   .simp_all
   .rw[if_neg λz=>e (uS z)];refine decide_eq_decide.mpr ?_;rw[List.cons_lt_cons_iff]
    simp_all
noncomputable def cK:Key->List Int
 |.inl i=>[i]
 |.inr x=>x.cps.toList.map e8
noncomputable def iK:Key->Int
 |.inl i=>i
 |.inr _=>0
noncomputable def sK:Key->Bool
 |.inl _=>U
 |.inr _=>J
def c2:N2->List Int
 |.inl k=>cK k
 |.inr a=>a.map iK
def s2:N2->Nat
 |.inl (.inl _)=>0
 |.inl (.inr _)=>1
 |.inr a=>if a.all sK=U then 2 else 3
def sI:N2->Bool
 |.inl k=>sK k
 |.inr _=>J
def XF:N2->Int
 |.inl k=>iK k
 |.inr _=>0
def cN:NK->List (List Int)
 |.inl k=>[cK k]
 |.inr a=>if a.all sI=U then [a.map XF]else a.map c2
def sN:NK->List Nat
 |.inl (.inl _)=>[0]
 |.inl (.inr _)=>[1]
 |.inr a=>if a.all sI=U then [2]else 3::a.map s2
noncomputable def Bh:List Nat->Bool
 |3::l=>l.all λn=>decide (n<3)
 |_=>U
theorem L4:∀{x y:List Key},x.all sK=U->y.all sK=U->x.map iK=y.map iK->x=y
 |[],[],_,_,_=>rfl
 |[],_::_,_,_,h=>by cases h
 |_::_,[],_,_,h=>by cases h
 |.inl i::x,.inl j::y,a,b,h=>by
   simp only[aA,fS,iK]at h;simp only[dU,ag]at a b;rw[h.1,L4 a.2 b.2 h.2]
 |.inr _::_,_::_,a,_,_=>by simp[sK]at a
 |_::_,.inr _::_,_,b,_=>by simp[sK]at b
def MS(hs:sK x=sK y)(h:cK x=cK y):x=y:=by
 cases x with
 |inl i=>
   cases y with
   |inl j=>simp only[cK,fS,and_true]at h;rw[h]
   |inr b=>cases hs
 |inr a=>
   cases y with
   |inl j=>cases hs
   |inr b=>
     have:=(Jh (λ_ _ z=>uS z)).mp h;cases a;simp_all
def MV(hs:s2 x=s2 y)(h3:s2 x<3)(h:c2 x=c2 y):x=y:=by
 cases x with
 |inl a=>
   cases y with
   |inl b=>rw[MS (by cases a<;>cases b<;>first|rfl|cases hs) h]
   |inr d=>cases a<;>(simp only[s2]at hs;grind)
 |inr d=>
   cases y with
   |inl b=>cases b<;>(simp only[s2]at hs;grind)
   |inr c=>
     simp only[s2]at hs h3;by_cases c1:d.all sK=U
     .by_cases c2:c.all sK=U
      .rw[L4 c1 c2 h]
      grind
     simp_all
theorem L5:∀{x y:List N2},x.all sI=U->y.all sI=U->x.map XF=y.map XF->x=y
 |[],[],_,_,_=>rfl
 |[],_::_,_,_,h=>by cases h
 |_::_,[],_,_,h=>by cases h
 |.inl (.inl i)::x,.inl (.inl j)::y,a,b,h=>by
   simp only[aA,fS,XF,iK]at h;simp only[dU,ag]at a b;rw[h.1,L5 a.2 b.2 h.2]
 |.inl (.inr _)::_,_::_,a,_,_=>by simp[sI,sK]at a
 |.inr _::_,_::_,a,_,_=>by simp[sI]at a
 |_::_,.inl (.inr _)::_,_,b,_=>by simp[sI,sK]at b
 |_::_,.inr _::_,_,b,_=>by simp[sI]at b
theorem GQ:∀{x y:List N2},x.map s2=y.map s2->(∀n∈x.map s2,n<3)->x.map c2=y.map c2->x=y
 |[],[],_,_,_=>rfl
 |[],_::_,h,_,_=>by cases h
 |_::_,[],h,_,_=>by cases h
 |a::x,b::y,h,h3,e=>by
   simp only[aA,fS]at h e;rw[MV h.1 (h3 _ (by simp)) e.1,GQ h.2 (λn c=>h3 n (by exact jZ _ c)) e.2]
def Ld(h:Bh (3::l)=U):∀n∈l,n<3:=λn a=>by
 simpa using (bE.mp (h) n a)
def vi(hs:sN x=sN y)(h3:Bh (sN x)=U):(∃a b,x=.inl a/\y=.inl b/\sK a=sK b)\/(∃a b,x=.inr a/\y=.inr b/\a.all sI=U/\b.all sI=U)\/
  ∃a b,x=.inr a/\y=.inr b/\¬a.all sI=U/\¬b.all sI=U/\a.map s2=b.map s2/\∀n∈a.map s2,n<3:=by
 cases x with
 |inl a=>
   cases y with
   |inl b=>exact .inl ⟨a,b,W,W,by cases a<;>cases b<;>first|rfl|(simp[sN]at hs)⟩
   |inr e=>exfalso;cases a<;>(simp only[sN]at hs;split at hs<;>simp at hs)
 |inr a=>
   cases y with
   |inl b=>exfalso;cases b<;>(simp only[sN]at hs;split at hs<;>simp at hs)
   |inr b=>
     simp only[sN]at hs h3;by_cases d:a.all sI=U
     .by_cases c:b.all sI=U
      .exact .inr (.inl ⟨a,b,W,W,d,c⟩)
      simp_all
     .rw[if_neg d]at hs h3;by_cases c:b.all sI=U
      .simp_all
      .rw[if_neg c]at hs;exact .inr (.inr ⟨a,b,W,W,d,c,(eD hs).2,Ld h3⟩)
def MQ(hs:sN x=sN y)(h3:Bh (sN x)=U)(h:cN x=cN y):x=y:=by
 rcases vi hs h3 with⟨a,b,rfl,rfl,q⟩|⟨a,b,rfl,rfl,c,d⟩|⟨a,b,rfl,rfl,c,d,e,f⟩
 .rw[MS q (eD h).1]
 .simp only[cN]at h;rw[if_pos c,if_pos d]at h;rw[L5 c d (eD h).1]
 .simp only[cN]at h;rw[if_neg c,if_neg d]at h;rw[GQ e f h]
section
variable{A:bT}{z0:ai}
def LC{I:Ik P w}{α:Type}[DecidableEq α]{f:α->α->Bool}{c:I.κ->α}{R:I.κ->I.κ->Prop}{x y:List I.κ}{p b:aL}{G:Fin->ai->Prop}(a5:A.units+I.d<=dR)(ex:rT I z0.heap x p)(O:rT I z0.heap y b)
  (c0:∀q∈x.zip y,R q.1 q.2)(ci:∀a b,R a b->c a=c b->a=b)
  (lt:∀(E:ah->ai->Prop)(a b:I.κ)(u v:ah)(Q:ah->ai->Prop),R a b->I.is z0.heap a u->I.is z0.heap b v->Q (.bool (f (c a) (c b))) z0->aF (aG P w) A (compareOp .Lt u v) Q E z0)
  (h:G (.done (.ret (.bool (rk f (x.map c) (y.map c))))) z0):aF (aG P w) A (iC.«tuple.__lt__» ⟨[.ref p,.ref b],[]⟩) G E z0:=by
 have s:=O.typeIs;refine ac λ_ X=>?_;obtain⟨S,xs,na,t,_,z,B⟩:=ex;obtain⟨T,ys,nb,C,_,D,F⟩:=O;refine X ?_;show aF _ _ (isInstance _ (.type _) >>= _) _ _ z0;refine wb9 (di s qJ ?_);refine wb9 (ku t z ?_);refine wb9 (ku C D ?_);refine wb9 ?_
 refine iG _
  (λtl r o=>r.1=L/\o=z0/\∃x' j g i,tl=List.zip g i/\rS I _ x' g/\rS I _ j i/\(∀q∈x'.zip j,R q.1 q.2)/\
   rk f (x'.map c) (j.map c)=rk f _ _/\decide (Z g<Z i)=decide (xs.size<ys.size))
  _ ?_ ?_ _ _ ⟨W,W,x,y,_,_,W,B,F,c0,W,by simp⟩
 .rintro⟨u,v⟩ tl r o ⟨ge,rfl,x',j,g,i,gz,hx',hy',hr,gdec,glen⟩
  cases hx' with
  |nil=>simp at gz
  | @cons L' U' H k h1 l=>
    cases hy' with
    |nil=>simp at gz
    | @cons M V J' m h2 n=>
      simp only[wO,fS,Jf]at gz;obtain⟨⟨rfl,rfl⟩,rfl⟩:=gz;rw[aA,aA,lV]at gdec;refine wb9 (I.eqb a5 h1 h2 (λK=>?_) λK=>?_)
      .refine wu9 ⟨W,W,H,J',k,m,W,l,n,λq N=>hr q (jZ _ N),?_,by simpa using glen⟩
       simp_all
      .rw[if_neg λe=>K (ci _ _ (hr _ jL) e)]at gdec;rw[<-gdec]at h;exact wb9 (gm (wb9 (lt _ L' M _ _ _ (hr _ jL) h1 h2 (wb9 (wu9 (wu9 (wu9 h)))))))
 .rintro⟨r1,r2⟩ o ⟨rfl,rfl,x',j,g,i,gz,hx',hy',hr,gdec,glen⟩;refine wu9 ?_;show G (.done (.ret (.bool (decide _)))) o;rw[<-gdec,]at h;rw[<-glen]
  cases hx' with
  |nil=>
    cases hy' with
    |nil=>exact h
    |cons _ _=>exact h
  |cons _ _=>
    cases hy' with
    |nil=>exact h
    |cons _ _=>simp at gz
def zr{I:Ik P w}{α:Type}[DecidableEq α]{f:α->α->Bool}{c:I.κ->α}{R:I.κ->I.κ->Prop}{x y:List I.κ}{p b:aL}{Q:ah->ai->Prop}(B:A.units+(I.d+1)<=dR)(ex:rT I z0.heap x p)(O:rT I z0.heap y b)
  (g:∀q∈x.zip y,R q.1 q.2)(S:∀a b,R a b->c a=c b->a=b)
  (lt:∀(C:bT)(E:ah->ai->Prop)(a b:I.κ)(u v:ah)(Q:ah->ai->Prop),C.units=A.units+1->R a b->I.is z0.heap a u->I.is z0.heap b v->Q (.bool (f (c a) (c b))) z0->aF (aG P w) C (compareOp .Lt u v) Q E z0)
  (h:Q (.bool (rk f (x.map c) (y.map c))) z0):aF (aG P w) A (compareOp .Lt (.ref p) (.ref b)) Q E z0:=by
 show aF _ _ (richCompare .Lt _ _) ..
 exact CB ex.typeIs O.typeIs Ac
  (bO Ac ex.typeIs PySem.F.entry_tuple_lt (LC (by exact iF B) ex O g S (λE a b u v Q=>lt _ E a b u v Q W) ⟨_,W,(λe=>nomatch e),h⟩) (PySem.F.args_tuple_lt_2 _ _)) (ao (aX _ _) B)
def uA(h:(dm P w).is k v=U)(hs:sK k=U):∃t,v=.int (iK k) t:=by
 cases k with
 |inl i=>
   rcases c5 (k:=.inl i) h with⟨a,t,e,rfl⟩|⟨x,t,e,_⟩
   .cases e;exact⟨t,W⟩
   .cases e
 |inr x=>cases hs
def LB(hs:sK a=sK b)(ex:(dm P w).is a u=U)(B:(dm P w).is b v=U)(h:Q (.bool (LG (cK a) (cK b))) z0):aF (aG P w) A (compareOp .Lt u v) Q E z0:=by
 cases a with
 |inl i=>
   cases b with
   |inr _=>cases hs
   |inl j=>
     obtain⟨d,rfl⟩:=uA ex W;obtain⟨f,rfl⟩:=uA B W;refine oo ?_;rwa[show cK _=[i]from rfl,show cK _=[j]from rfl,P5]at h
 |inr a=>
   cases b with
   |inl _=>cases hs
   |inr c=>
     rcases c5 (k:=.inr a) ex with⟨g,t,e,_⟩|⟨o,d,m,rfl⟩
     .cases e
     .rcases c5 (k:=.inr c) B with⟨g,t,e,_⟩|⟨l,f,n,rfl⟩
      .cases e
      .cases m;cases n;refine PyProof.Rows.lt_str ?_;rwa[show cK _=a.cps.toList.map e8 from rfl,show cK _=c.cps.toList.map e8 from rfl,(zt _ _)]at h
def FX(ha:sK a=U)(hb:sK b=U)(ex:(dm P w).is a u=U)(B:(dm P w).is b v=U)(h:Q (.bool (decide (iK a<iK b))) z0):aF (aG P w) A (compareOp .Lt u v) Q E z0:=by
 obtain⟨c,rfl⟩:=uA ex ha;obtain⟨d,rfl⟩:=uA B hb;exact oo h
def GY{α:Type}{p:α->Bool}{x y:List α}(B:x.all p=U)(O:y.all p=U):∀q∈x.zip y,p q.1=U/\p q.2=U:=λq a=>
 ⟨bE.mp B _ (iM a).1,bE.mp O _ (iM a).2⟩
def LD{x y:N2}{u v:ah}{Q:ah->ai->Prop}(O:A.units+1<=dR)(ex:(i2 P w).is z0.heap x u)(B:(i2 P w).is z0.heap y v)(hs:s2 x=s2 y)(h3:s2 x<3)(h:Q (.bool (LG (c2 x) (c2 y))) z0) :
  aF (aG P w) A (compareOp .Lt u v) Q E z0:=by
 cases x with
 |inl a=>
   cases y with
   |inl b=>exact LB (by cases a<;>cases b<;>first|rfl|cases hs) ex B h
   |inr m=>cases a<;>(simp only[s2]at hs;split at hs<;>cases hs)
 |inr m=>
   cases y with
   |inl b=>cases b<;>(simp only[s2]at hs;split at hs<;>cases hs)
   |inr d=>
     obtain⟨p,rfl,q⟩:=ex;obtain⟨b,rfl,f⟩:=B;simp only[s2]at hs h3;by_cases c1:m.all sK=U
     .by_cases c2:d.all sK=U
      .exact zr (R:=λa b=>sK a=U/\sK b=U) O q f (GY c1 c2) (λa b c e=>by
         match a,b,c,e with
         |.inl i,.inl j,_,e=>exact congrArg _ e) (λk l a b u v Q _ c n o g=>FX c.1 c.2 n o g) h
      simp_all
     simp_all
def zu:Y1 [a] [b]=LG a b:=by
 rw[Y1,lV];by_cases e:a=b
 .rw[if_pos e,e,P4.ir];rfl
 .rw[if_neg e]
theorem FW{α g:Type}{f:α->g}:∀{x y:List α},x.map f=y.map f->∀q∈x.zip y,f q.1=f q.2
 |[],_,_,_,h=>by simp at h
 |_::_,[],_,_,h=>by simp at h
 |a::x,b::y,h,q,c=>by
   obtain⟨h1,h2⟩:=eD h
   rcases aw.mp c with rfl|c
   .exact h1
   .exact FW h2 q c
def P2(O:A.units+2<=dR)(ex:nIs P w z0.heap x u)(B:nIs P w z0.heap y v)(hs:sN x=sN y)(h3:Bh (sN x)=U)(h:Q (.bool (Y1 (cN x) (cN y))) z0) :
  aF (aG P w) A (compareOp .Lt u v) Q E z0:=by
 rcases vi hs h3 with⟨a,b,rfl,rfl,q⟩|⟨a,b,rfl,rfl,f,g⟩|⟨a,b,rfl,rfl,f,g,l,m⟩
 .simp only[cN]at h;rw[zu]at h;exact LB q ex B h
 .simp only[cN]at h;rw[if_pos f,if_pos g,zu]at h;obtain⟨p,rfl,r⟩:=ex;obtain⟨b,rfl,k⟩:=B;refine zr (R:=λa b=>sI a=U/\sI b=U) O r k (GY f g) (λa b c e=>?_) (λn o a b u v Q _ c t z d=>?_) h
  .rcases a with(i|_)|_<;>rcases b with(j|_)|_<;>first|exact congrArg _ (congrArg _ e)|simp[sI,sK]at c
  .rcases a with a|_<;>rcases b with b|_<;>first|cases c.1;done|cases c.2;done|exact FX c.1 c.2 t z d
 .simp only[cN]at h;rw[if_neg f,if_neg g]at h;obtain⟨p,rfl,r⟩:=ex;obtain⟨b,rfl,k⟩:=B;refine zr (R:=λa b=>s2 a=s2 b/\s2 a<3) O r k (λq d=>⟨FW l q d,m _ (c9 (iM d).1)⟩) (λa b c e=>MV c.1 c.2 e) (λn o a b u v Q s c t z d=>?_) h;exact LD (by rw[s];omega) t z c.1 c.2 d
end
end L2
namespace L2
open PySem PySem.Spec PyProof.Rows
def B3:entryFor table "set.__iter__"=Y iC.«frozenset.__iter__» :=CW (id':="frozenset.__iter__") (by kernel_rfl) W (by decide +kernel) (by kernel_rfl)
def qe:entryFor table "set_iterator.__next__"=Y iC.«set_iterator.__next__» :=entryFor_of_tree (by kernel_rfl)
def fE:Jw "set_iterator" "__next__" "set_iterator.__next__":=.of (owner:="set_iterator") (n:="__next__") (by kernel_rfl) (by decide +kernel) (by decide +kernel) (by decide +kernel) (.inl (by decide +kernel)) (by kernel_rfl)
def qh(a:ah):argsOk "set_iterator.__next__" ⟨[a],[]⟩:=by
 kernel_rfl
theorem qy{α:Type}:∀{xs:List α}{i:Nat}(h:i<Z xs),(xs[i]::xs.eraseIdx i).Perm xs
 |x::r,0,_=>by simp
 |x::r,i+1,h=>by
   have:=qy (by simpa using h);exact(List.Perm.swap _ _ _).trans (this.cons x)
theorem FA{α:Type}(nx:Nat->Nat):∀(fuel k:Nat)(left:List α)(out:Array α),Z left<=fuel->(wK nx fuel k left out).toList.Perm (out.toList++left)
 |0,k,left,out,h=>by
   obtain rfl:left=[]:=jV.mp (aD h (aK _));simp only[wK,aI];exact .refl _
 |fuel+1,k,left,out,h=>by
   simp only[wK]
   cases q:left[nx k % Z left]? with
   |none=>
     have:left=[]:=by
      cases left with
      |nil=>rfl
      |cons x r=>
        rw[af (jU _ (by simp))]at q;cases q
     subst this;simp
   |some x=>
     obtain⟨a,e⟩:=aN.mp q;refine (FA nx _ _ (left.eraseIdx _) _ (by grind)).trans ?_;rw[Jj,aJ];refine j6 _ ?_;rw[<-e];exact qy a
def sr{α:Type}(nx:Nat->Nat)(xs:Array α):(pickOrder nx xs).toList.Perm xs.toList:=by
 simpa [pickOrder]using (FA nx _ 0 _ #[] (by simp))
section
def IS(B:n≠0)(k:∀i d,i<n->Q i { s with drawn:=d }):aF (aG prog w) A (choose src n) Q E s:=λa p _=>by
 exact⟨B,k _ _ (jU _ (ck B))⟩
theorem GA{α:Type}:∀(n:Nat)(xs:List α)(s:ai){Q:List α->ai->Prop},Z xs<=n->(∀g d,g.Perm xs->Q g { s with drawn:=d })->aF (aG prog w) A (drawOrder n xs) Q E s
 |0,xs,s,Q,h,k=>by
   obtain rfl:xs=[]:=jV.mp (aD h (aK _));exact wu9 (k [] _ (.refl _))
 |n+1,[],s,Q,h,k=>wu9 (k [] _ (.refl _))
 |n+1,x::r,s,Q,h,k=>by
   refine wb9 (IS (by simp) λi d a=>?_);rw[af a];exact wb9 (GA n _ _ (by grind) λg d pm=>wu9 (k _ d ((pm.cons _).trans (qy a))))
end
inductive Mode where
 |tx|dr (T:aL) (ps:List Nat)|pl
noncomputable def slotAt(t:bD):Nat->Nat
 |0=>0
 |i+1=>t.place.getD i 0+1
def Mode.first(t:bD)(i:Nat):Mode->ah
 |.tx=>rawInt 0
 |.dr T _=>.ref T
 |.pl=>rawInt (slotAt t i)
def Mode.Ok(w:c6)(es:Array (Int×ah))(t:bD)(h:cx)(I:aL):Mode->Prop
 |.tx=>w.params.followText "set-order"=U
 |.dr T ps=>T≠I/\ps.Perm (aQ es.size)/\h.get? T=Y { cls:=.type "tuple",data:=.seq (ps.map λ(p:Nat)=>rawInt p).toArray }
 |.pl=>w.params.followText "set-order"=J/\(!t.plain && decide (es.size > 1))=J
noncomputable def Mode.ord(w:c6)(S:aL)(es:Array (Int×ah))(g:Nat):Mode->List ah
 |.tx=>(pickOrder (w.params.setOrder S g) es).toList.map (·.2)
 |.dr _ ps=>ps.map λp=>(es[p]?.map (·.2)).getD .none
 |.pl=>es.toList.map (·.2)
def Mode.vB:∀{m:Mode},m.Ok w es t h I->(m.ord w S es g).Perm (es.toList.map (·.2))
 |.tx,_=>(sr _ _).map _
 |.dr T ps,h=>by
   refine(h.2.1.map _).trans ?_;rw[show(aQ es.size).map (λp=>(es[p]?.map (·.2)).getD fm)=es.toList.map (·.2)from ?_];apply ju (by simp);intro n h1 h2;simp at h1 h2;simp[h1]
 |.pl,_=>.refl _
structure Ct(w:c6)(h:cx)(I S:aL)(es:Array (Int×ah))(ep:Nat)(t:bD)(m:Mode)(i:Nat):Prop where
 it:h.get? I=Y { cls:=.type "set_iterator",data:=.fields #[m.first t i,rawInt i,.ref S,rawInt es.size,rawInt ep] }
 st:kT (px w) h S es ep t
 md:m.Ok w es t h I
 ne:S≠I
section
variable{w:c6}{s:ai}{m:Mode}
def Mode.Ok.keep{g:cx}(y:m.Ok w es t h I)(k:∀b o,b≠I->h.get? b=Y o->g.get? b=Y o):m.Ok w es t g I:=by
 cases m with
 |dr T ps=>exact⟨y.1,y.2.1,k _ _ y.1 y.2.2⟩
 |_=>exact y
def pV(k:Q (w.params.followText "set-order") s):aF (aG prog w) A setsByText Q E s:=by
 exact wb9 (yD (wu9 k))
def N1(y:kT (px w) s.heap S es g t)(h:w.params.followText "set-order"=U)(k:Q (pickOrder (w.params.setOrder S g) es) s):aF (aG prog w) A (setWalk S) Q E s:=by
 refine wb9 (dG y.obj W y.fits ?_);refine wb9 (pV ?_);rw[h];exact wb9 (yD (wu9 k))
def vv(y:kT (px w) s.heap S es g t):t.place.size=es.size:=by
 have:=y.fits;simp only[mG,ag,beq_iff_eq]at this;exact this.1
def FK(y:kT (px w) s.heap S es B t)(h:w.params.followText "set-order"=J)(hd:(!t.plain && decide (es.size > 1))=J)(hi:i<=es.size)
  (k:Q (match es[i]? with|some x=>Y (x.2,slotAt t (i+1))|none=>L) s):aF (aG prog w) A (setNext S (slotAt t i) g e) Q E s:=by
 refine wb9 (dG y.obj W y.fits ?_);refine wb9 (pV ?_);rw[h];show aF (aG _ w) A (if(!t.plain && decide _)=U then _ else _) Q E s;rw[hd];show aF (aG _ w) A ((if(!t.led && !es.isEmpty)=U then _ else pure ()) >>= _) Q E s;rw[y.ok.l,px,h];refine wb9 (wu9 (wu9 ?_))
 have hb:aM t.place (slotAt t i)=i:=by
  cases i with
  |zero=>exact MX y.ok.r
  |succ j=>
    have c:j<t.place.size:=by rwa[vv y]
    show aM _ (t.place.getD j 0+1)=j+1;rw[show t.place.getD j 0=t.place[j] by simp_all];exact MY y.ok.r c
 rw[hb]
 cases q:es[i]? with
 |none=>rwa[q]at k
 |some x=>
   rw[q]at k
   have b:i<es.size:=by
    rcases bY.mp q with⟨a,_⟩;exact a
   have hp:t.place[i]?=Y (t.place[i]'(by rwa[vv y])):=aU _;rw[hp];simp only[slotAt]at k
   simp_all
def FJ{sl:Nat}(y:kT (px w) s.heap S es g t)(h:w.params.followText "set-order"=U)(k:Q (((pickOrder (w.params.setOrder S g) es)[i]?).map λe=>(e.2,sl)) s):aF (aG prog w) A (setNext S sl i g) Q E s:=by
 refine wb9 (dG y.obj W y.fits ?_);refine wb9 (pV ?_);rw[h];simp only[bne_self_eq_false,bS,if_false];exact wb9 (N1 y h (wu9 k))
def PL(y:kT (px w) s.heap S es g t)(B:es[p]?=Y x)(k:Q x.2 s):aF (aG prog w) A (setNextDrawn S p g) Q E s:=by
 refine wb9 (dG y.obj W y.fits ?_);simp only[bne_self_eq_false,bS,if_false];rw[B];exact wu9 k
def LR{c:ah}(y:Ct w s.heap I S es B t m i)(k:∀g,Ct w g I S es B t m (i+1)->cP I s.heap g->Q (.done (.ret r)) { s with heap:=g })(hf:a=m.first t (i+1))(hb:b=rawInt ((i:Int)+1)) :
  aF (aG prog w) A (do setField (.ref I) 0 a;setField (.ref I) 1 b;ret r) Q E s:=by
 subst hf;subst hb;refine wb9 (bN y.it (by simp) λh1 d s1=>wb9 (bN d (by simp) λh2 f s2=>wu9 ?_));have kp:∀b o,b≠I->s.heap.get? b=Y o->h2.get? b=Y o:=λb o n e=>s2.extBut _ _ n (s1.extBut _ _ n e);refine k h2 ⟨?_,y.st.keep λo e=>kp _ _ y.ne e,y.md.keep kp,y.ne⟩ (s1.trans s2);rw[f];simp
end
section
variable{A:bT}{s:ai}
def E7(y:Ct w s.heap I S es g t m i)
  (k:aF (aG prog w) A (if let .int slot _:=m.first t i then do
    match <-setNext S slot.toNat (i:Int).toNat (g:Int).toNat with
    |some (x,next)=>do setField (.ref I) 0 (rawInt next);setField (.ref I) 1 (rawInt ((i:Int)+1));ret x
    |none=>do setField (.ref I) 2 .none;raiseNew (<-newExc (.type "StopIteration") [])
   else do
    let Y places <-seqItems? (m.first t i)|unsupported "internal:set_iterator"
    match places[(i:Int).toNat]? with
    |some (.int place _)=>do let x <-setNextDrawn S place.toNat (g:Int).toNat;setField (.ref I) 1 (rawInt ((i:Int)+1));ret x
    |some _=>unsupported "internal:set_iterator"
    |none=>do setField (.ref I) 0 (rawInt 0);setField (.ref I) 2 .none;raiseNew (<-newExc (.type "StopIteration") [])) Q E s) :
  aF (aG prog w) A (iC.«set_iterator.__next__» ⟨[.ref I],[]⟩) Q E s:=by
 show aF (aG _ w) A (fieldsOf _ >>= _) Q E s;refine wb9 (wpAny_fieldsOf y.it W ?_);refine wb9 (Ra y.st.obj W y.st.fits ?_);simp only[bne_self_eq_false,bS,if_false];exact k
def uu{α:Type}{Q:α->ai->Prop}(B:A.handled=L)(k:∀g e,(∀b o,s.heap.get? b=Y o->g.get? b=Y o)->(∃o,g.get? e=Y o/\o.cls=.type "StopIteration")->E (.ref e) { s with heap:=g }) :
  aF (aG prog w) A (do raiseNew (<-newExc (.type "StopIteration") []):Au α) Q E s:=by
 refine wb9 ?_;refine wb9 (dH (wb9 (kE (by first|rfl|(rfl)) (dH ?_ (by size_fits)))) (by size_fits));refine wb9 (wpAny_handled ?_);rw[B];exact wb9 (wu9 (wpAny_throw (k _ _ (λb o e=>hp9 _ (hp9 _ e)) ⟨_,aH _ W,W⟩)))
def Ov{Q:ah->ai->Prop}(y:Ct w s.heap I S es C t m i)(hi:i<es.size)(k:∀B v,(m.ord w S es C)[i]?=Y v->Ct w B I S es C t m (i+1)->cP I s.heap B->Q v { s with heap:=B }) :
  aF (aG prog w) A (iC.«set_iterator.__next__» ⟨[.ref I],[]⟩) (λf F=>∃v,f=.done (.ret v)/\Q v F) E s:=by
 refine E7 y ?_
 cases m with
 |tx=>
   refine (?_ : aF (aG _ w) A (setNext S 0 i C >>= _) _ E s);refine wb9 (FJ y.st y.md ?_)
   have j:(pickOrder (w.params.setOrder S C) es).size=es.size:=by
    simpa using ((sr _ es).length_eq)
   rw[aU (by rwa[j])];refine LR (c:=.none) y (λB d g=>⟨_,W,k B _ ?_ d g⟩) W rfl;simp only[Mode.ord,aR,iP]
   simp_all
 |dr T ps=>
   obtain⟨u,h,l⟩:=id y.md;refine wb9 (dh l W ?_);have hl:Z ps=es.size:=by rw[h.length_eq,a8]
   have a:i<Z ps:=aa hi (ae hl.symm);have hp :=bu.mp (h.mem_iff.mp (bA a));have q:((ps.map λ(p:Nat)=>rawInt p).toArray)[(i:Int).toNat]?=Y (rawInt (ps[i])):=by simp[a]
   dsimp only;rw[q];refine wb9 (PL y.st (aU hp) ?_);refine wb9 (bN y.it (by simp) λh1 r s1=>wu9 ⟨_,W,k h1 _ ?_ ⟨?_,y.st.keep λo e=>s1.extBut _ _ y.ne e,y.md.keep λb o n e=>s1.extBut _ _ n e,y.ne⟩ s1⟩)
   .simp only[Mode.ord,aR]
    simp_all
   .rw[r];simp[Mode.first,rawInt]
 |pl=>
   refine wb9 (FK y.st y.md.1 y.md.2 (ax hi) ?_);rw[aU hi];refine LR (c:=.none) y (λB d g=>⟨_,W,k B _ ?_ d g⟩) W rfl;simp[Mode.ord,hi]
def T6(B:A.handled=L)(y:Ct w s.heap I S es C t m es.size)(k:∀g e,(∀b o,b≠I->s.heap.get? b=Y o->g.get? b=Y o)->(∃o,g.get? e=Y o/\o.cls=.type "StopIteration")->E (.ref e) { s with heap:=g }) :
  aF (aG prog w) A (iC.«set_iterator.__next__» ⟨[.ref I],[]⟩) Q E s:=by
 refine E7 y ?_
 cases m with
 |tx=>
   refine (?_ : aF (aG _ w) A (setNext S 0 es.size C >>= _) _ E s);refine wb9 (FJ y.st y.md ?_)
   have c:(pickOrder (w.params.setOrder S C) es).size=es.size:=by
    simpa using ((sr _ es).length_eq)
   rw[iu (ae c)];exact wb9 (bN y.it (by simp) λh1 a s1=>uu B λg e kp he=>k g e (λb o n q=>kp _ _ (s1.extBut _ _ n q)) he)
 |dr T ps=>
   refine wb9 (dh (id y.md).2.2 W ?_);have hl:Z ps=es.size:=by rw[(id y.md).2.1.length_eq,a8]
   dsimp only;rw[iu (by simp[hl])];exact wb9 (bN y.it (by simp) λh1 a s1=>wb9 (bN a (by simp) λh2 h s2=>uu B λg e kp he=>k g e (λb o n q=>kp _ _ (s2.extBut _ _ n (s1.extBut _ _ n q))) he))
 |pl=>
   refine wb9 (FK y.st y.md.1 y.md.2 (ak _) ?_);rw[iu (ak _)];exact wb9 (bN y.it (by simp) λh1 a s1=>uu B λg e kp he=>k g e (λb o n q=>kp _ _ (s1.extBut _ _ n q)) he)
def Ct.ty(y:Ct w s.heap I S es g t m i):s.TypeIs (.ref I) "set_iterator":=⟨_,y.it,W⟩
def Oq(y:Ct w s.heap I S es B t m i)(hi:i<es.size)(k:∀g v,(m.ord w S es B)[i]?=Y v->Ct w g I S es B t m (i+1)->cP I s.heap g->Q (Y v) { s with heap:=g }) :
  aF (aG prog w) A (pyNext (.ref I)) Q E s:=by
 exact wb9 (jj (cM y.ty fE (bO fE y.ty qe (Ov y hi λg v a b c=>wu9 (k g v a b c)) (qh _))))
def TZ(B:A.handled=L)(y:Ct w s.heap I S es C t m es.size)(k:∀g,(∀b o,b≠I->s.heap.get? b=Y o->g.get? b=Y o)->Q L { s with heap:=g }) :
  aF (aG prog w) A (pyNext (.ref I)) Q E s:=by
 refine wb9 (jj (cM y.ty fE (bO fE y.ty qe (T6 B y λg e kp he=>?_) (qh _))));obtain⟨o,ho,hc⟩:=he;exact wb9 (di ⟨o,ho,hc⟩ rX (wu9 (k _ kp)))
end
def xg:entryFor table "set_iterator.__iter__"=Y iC.«dict_keyiterator.__iter__» :=CW (id':="dict_keyiterator.__iter__") (by kernel_rfl) W (by decide +kernel) (by kernel_rfl)
def qb:Jw "set_iterator" "__iter__" "set_iterator.__iter__":=.of (owner:="set_iterator") (n:="__iter__") (by kernel_rfl) (by decide +kernel) (by decide +kernel) (by decide +kernel) (.inl (by decide +kernel)) (by kernel_rfl)
def xn(a:ah):argsOk "set_iterator.__iter__" ⟨[a],[]⟩:=by
 kernel_rfl
noncomputable def Mode.fp:Mode->List aL
 |.dr T _=>[T]
 |_=>[]
section
variable{A:bT}{s:ai}{es:Array (Int×ah)}{m:Mode}
def Ct.frame{g:cx}(y:Ct w h I S es B t m i)(k:∀b∈I::S::m.fp,∀o,h.get? b=Y o->g.get? b=Y o):Ct w g I S es B t m i:=by
 refine⟨k I (.head _) _ y.it,y.st.keep λo e=>k S (.tail _ (.head _)) o e,?_,y.ne⟩
 cases m with
 |dr T ps=>exact⟨y.md.1,y.md.2.1,k T (.tail _ (.tail _ (.head _))) _ y.md.2.2⟩
 |tx=>exact y.md
 |pl=>exact y.md
def AQ(hh:A.handled=L):Walks prog w A I (I::S::m.fp) [I] es.size (λi v=>(m.ord w S es g)[i]?=Y v) (λi h=>Ct w h I S es g t m i) where
 sub:=λb hb=>by rw[az.mp hb];exact .head _
 frame:=λi h d st k=>st.frame k
 item:=λi s Q E hi st k=>Oq st hi λd v a b c=>k v d s.toks a b λb o hb e=>c.extBut _ _ (λz=>hb (z▸az.mpr W)) e
 done:=λs Q E st k=>TZ hh st λd kp=>k d s.toks λb o hb e=>kp b o (λz=>hb (z▸az.mpr W)) e
 self:=λi s Q E st k=>by
  refine wI st.ty qb (bO qb st.ty xg ?_ (xn _));show aF _ _ (ret (.ref I)) _ _ s;exact wu9 ⟨_,W,"set_iterator",_,st.ty,fE.lookup,k⟩
def Dz(y:kT (px w) s.heap S es C t)(B:es.size<=aE)
  (k:∀(h1:cx)d I m,s.heap.objs.size<=I->(∀b∈m.fp,s.heap.objs.size<=b)->(∀b o,s.heap.get? b=Y o->h1.get? b=Y o)->Ct w h1 I S es C t m 0->Q (.ref I) { s with heap:=h1,drawn:=d }) :
  aF (aG prog w) A (CU (.ref S)) Q E s:=by
 refine wI ⟨_,y.obj,W⟩ Ad (bO Ad ⟨_,y.obj,W⟩ B3 ?_ (PySem.F.args_set_iter_1 _));refine (?_ : aF (aG _ w) _ (NF S >>= _) _ _ s);refine wb9 (wb9 (Ra y.obj W y.fits (wu9 ?_)))
 have dr:∀{c:bT}{g:ah->ai->Prop}{i:Bool->ai->Prop},i (!w.params.followText "set-order" && (!t.plain && decide (es.size > 1))) s->aF (aG prog w) c (setDrawn S) i g s:=by
  intro c g i h;exact wb9 (dG y.obj W y.fits (wb9 (pV (wu9 h))))
 have one:∀{c:bT} {g:ah->ai->Prop} {i:Fin->ai->Prop} {m:Mode} (s1:ai) (f:ah),f=m.first t 0->m.Ok w es t s1.heap s1.heap.objs.size->s.heap.objs.size<=s1.heap.objs.size->(∀b o,s.heap.get? b=Y o->s1.heap.get? b=Y o)->
   (∀h1,h1=s1.heap.push { cls:=.type "set_iterator",data:=.fields #[m.first t 0,rawInt (0),.ref S,rawInt es.size,rawInt C] }->Ct w h1 s1.heap.objs.size S es C t m 0->i (.done (.ret (.ref s1.heap.objs.size))) { s1 with heap:=h1 })->
   aF (aG prog w) c (do ret (<-newFields "set_iterator" [f,rawInt 0,.ref S,rawInt es.size,rawInt (<-setEpoch S)])) i g s1:=by
  intro c g i m s1 f hf ok le ex h;have a:=y.keep λo e=>ex _ _ e;refine wb9 (wpAny_setEpoch_of a.obj W a.fits ?_);refine wb9 ?_;refine dH ?_ (by size_fits);subst hf;exact wu9 (h _ W ⟨aH _ W,a.keep λo e=>hp9 _ e,ok.keep λb o n e=>hp9 _ e,a9 (aT (hl9 y.obj) le)⟩)
 refine wb9 (dr ?_)
 cases hb:w.params.followText _ with
 |true=>
   refine wb9 (wu9 ?_);refine one (m:=.tx) s _ W hb (ak _) (λb o e=>e) λh1 j a=>⟨_,W,_,_,a.ty ,fE.lookup,?_⟩
   subst j;exact k _ _ _ _ (ak _) (λb h=>by cases h) (λb o e=>hp9 _ e) a
 |false=>
   cases hd:(!t.plain && decide (es.size > 1))with
   |false=>
     refine wb9 (wu9 ?_);refine one (m:=.pl) s _ W ⟨hb,hd⟩ (ak _) (λb o e=>e) λh1 j a=>⟨_,W,_,_,a.ty ,fE.lookup,?_⟩
     subst j;exact k _ _ _ _ (ak _) (λb h=>by cases h) (λb o e=>hp9 _ e) a
   |true=>
     refine wb9 (GA _ (aQ _) s (by simp) λps d pm=>?_);have hl:Z ps=es.size:=by rw[pm.length_eq,a8]
     refine wb9 (CP ?_ (by simp_all));refine one (m:=.dr _ ps) _ _ W ⟨?_,pm,(aH _ W)⟩ ?_ (λb o e=>hp9 _ e) ?_
     .simp
     .simp
     .intro h1 j a;refine⟨_,W,_,_,a.ty ,fE.lookup,?_⟩;subst j;refine k _ d _ _ ?_ ?_ (λb o e=>hp9 _ (hp9 _ e)) a
      .simp
      .intro b hb;rw[az.mp hb];exact ak _
end
section
variable{A:bT}{s:ai}
def Th:isSubtype (.type "str") (.type "str")=pure U:=by kernel_rfl
def L7(ty:s.TypeIs v "set")(k:Q J s):aF M A (hJ v) Q E s:=by
 refine wb9 (eE ty PySem.F.slot_set_len.lookup ?_);refine wb9 (di ty sub_set_self ?_);exact wb9 (iT ty (wu9 k))
def L6(ty:s.TypeIs v "str")(k:Q J s):aF M A (hJ v) Q E s:=by
 refine wb9 (eE ty PySem.F.slot_str_len.lookup ?_);refine wb9 (di ty Th ?_);exact wb9 (iT ty (wu9 k))
def DU{ord:List ah}(h:ItemsOf (λi v=>ord[i]?=Y v) acc ord.length):acc.toList=ord:=by
 obtain⟨h1,h2⟩:=h;apply nr;intro i;by_cases hi:i<acc.size
 .have:=h2 i _ (aU hi)
  simp_all
 simp_all
def v7{T:String}{D:Drawn->(Nat->ah->Prop)->Prop}{K:aL->Prop}(F:s.TypeIs (.ref S) T)
  (t1:(gG T == gG "list")=J)(t2:(gG T == gG "tuple")=J)(hz:n<=aE)
  (it:∀{P:ah->ai->Prop}{Q1:ah->ai->Prop}(h0:cx),(∀b o,s.heap.get? b=Y o->h0.get? b=Y o)->s.heap.objs.size<h0.objs.size->(∀(h1:cx)d I fp R a5,Walks prog w A.in1 I fp [I] n R a5->a5 0 h1->s.heap.objs.size∉fp->(∀b o,K b->s.heap.get? b=Y o->b≠I)->
   (∀b o,h0.get? b=Y o->h1.get? b=Y o)->D d R->Q1 (.ref I) { s with heap:=h1,drawn:=d })->aF (aG prog w) A.in1 (CU (.ref S)) Q1 P { s with heap:=h0 })
  (hint:∀{P:ah->ai->Prop}{Q1:Bool->ai->Prop}(h1:cx)d,(∀b o,s.heap.get? b=Y o->h1.get? b=Y o)->(∀b O,Q1 b { s with heap:=h1,drawn:=d,toks:=O })->aF (aG prog w) A.in1 (hJ (.ref S)) Q1 P { s with heap:=h1,drawn:=d })
  (k:∀(h1:cx)d O B R,D d R->s.heap.objs.size<h1.objs.size->(∀b o,K b->s.heap.get? b=Y o->h1.get? b=Y o)->Jy R B n->Q B.toList { s with heap:=h1,drawn:=d,toks:=O }):aF (aG prog w) A (collect (.ref S)) Q E s:=by
 refine wb9 (wpAny_runValue (fG ug ?_));refine wb9 (dH ?_);refine wu9 (uW (g8 xr _) (fG xt ?_));obtain⟨C,t,cS⟩:=F;have ne:=jx (hl9 t);generalize j:s.heap.objs.size=L' at *;generalize g:({ cls:=.type _,data:=.seq _ }:lD)=lo;have a:∀b o,s.heap.get? b=Y o->(s.heap.push lo).get? b=Y o:=λ_ _=>hp9 _;have gL:(s.heap.push lo).get? L'=Y { cls:=.type "list",data:=.seq (#[]) }:=by rw[<-j];exact(aH _ (by rw[<-g];rfl)).trans (by rw[<-g])
 refine (?_ : aF _ A.in1 (Builtin.List.listExtendWith _ _ _) _ _ _);refine wb9 (iT ⟨_,a _ _ t,cS⟩ ?_);have b1:tj (.ref L') (.ref S)=J:=by simp[tj,ne]
 simp only[b1,t1,t2,Bool.or_false,bS,if_false];refine wb9 (it _ a (hl9 gL) λh1 d I fp R a5 u st nf y ex hd=>?_);refine wb9 (cB (hint h1 d (λb o e=>ex _ _ (a _ _ e)) λb O=>?_));have l:=ex _ _ gL;refine PySem.wpAny_ite_split (λ_=>wb9 (gm (wb9 (wb9 (jd l W ?_))))) λ_=>?_;have v:=eT (eZ (·.push fm)) l W;refine jd v W ?_;have x:=eT (eZ (·.pop)) v W;have f:∀b o,b≠L'->h1.get? b=Y o->((h1.update L' (eZ (·.push fm))).update L' (eZ (·.pop))).get? b=Y o:=λb o n e=>(dM _ _ (cu n)).trans ((dM _ _ (cu n)).trans e)
 rotate_left
 have x:=l;have f:∀b o,b≠L'->h1.get? b=Y o->h1.get? b=Y o:=λ_ _ _ e=>e
 all_goals
  refine wu9 (uW (g8 wu _) (codeAny_extend_loopS u.toS hz _ nf _ n 0 _ _ _ W (aK _) (u.frame _ _ _ st λb hb o e=>f b o (λz=>nf (z▸hb)) e) x (ItemsOf.nil _) λG B c i gS h=>?_));obtain⟨H,M,N,p,r⟩:=G;obtain rfl:M=s.gens:=i.gens;obtain rfl:N=d:=i.drawn;obtain rfl:r=s.os:=i.os;refine wb9 (wpAny_load gS (wu9 (k H _ p _ R hd (hl9 gS) (λb o z q=>i.heap b o (λm=>?_) (f b o (λm=>?_) (ex _ _ (a _ _ q)))) h)))
  .rcases aw.mp m with m|m
   .subst j;exact absurd (hl9 q) (m▸bB _)
   .exact y b o z q (az.mp m)
  .subst j;exact absurd (hl9 q) (m▸bB _)
def tV(hh:A.handled=L)(y:kT (px w) s.heap S es C t)(O:es.size<=aE)
  (k:∀h1 d B vs,(∀b o,s.heap.get? b=Y o->h1.get? b=Y o)->s.heap.objs.size<=h1.objs.size->vs.Perm (es.toList.map (·.2))->Q vs { s with heap:=h1,drawn:=d,toks:=B }):aF (aG prog w) A (collect (.ref S)) Q E s:=by
 refine v7 (K:=λ_=>True) (D:=λ_ R=>∃ord:List ah,ord.Perm (es.toList.map _)/\R=λi v=>ord[i]?=Y v) ⟨_,y.obj,W⟩ bR bR O (λh0 ex lt c=>Dz (y.keep λo e=>ex _ _ e) O λh1 d I m f g ex it=>c h1 d I _ _ _ (AQ hh) it (λz=>?_) (λb o _ e z=>(absurd (cT (hl9 e) (aT lt f)) (z▸bB _))) ex ⟨_,Mode.vB it.md,W⟩)
  (λh1 d ex c=>L7 ⟨_,ex _ _ y.obj,W⟩ (c _ _)) λh1 d B h _ ⟨ord,pm,e⟩ sz kp a=>?_
 .rcases aw.mp z with z|z
  .exact absurd (aT lt f) (z▸bB _)
  rcases aw.mp z with z|z
  .exact absurd (hl9 y.obj) (z▸bB _)
  .exact absurd (aT lt (g _ z)) (bB _)
 .subst e;have hl:Z ord=es.size:=by rw[pm.length_eq,aB,bh]
  rw[<-hl]at a;rw[DU a];exact k h1 d B _ (λb o=>kp b o trivial) (ax sz) pm
def B7{x:aW}(hh:A.handled=L)(O:x.cps.size<=aE)
  (k:∀h1 C B,(∀b o,s.heap.get? b=Y o->h1.get? b=Y o)->s.heap.objs.size<=h1.objs.size->Jy (SignAt x) B x.cps.size->Q B.toList { s with heap:=h1,toks:=C }):aF (aG prog w) A (collect (.str x tx)) Q E s:=by
 refine wb9 (CO (fG ug ?_));refine wb9 (dH ?_);refine wu9 (uW (g8 xr _) (fG xt ?_));generalize f:s.heap.objs.size=L';generalize a:({ cls:=.type _,data:=.seq _ }:lD)=lo;have g:(s.heap.push lo).objs.size=L'+1:=by rw[fQ,f]
 refine (?_ : aF _ A.in1 (qM ..) ..);refine wb9 (iT ((λs1=>W) _) ?_);refine wb9 (wpAny_pyIter_str λo St j st=>?_);refine wb9 (cB (L6 ((λs1=>W) _) ?_));have nf:L'∉[(s.heap.push lo).objs.size]:=by
  rw[g];simp
 refine wu9 (uW (g8 wu _) (NB (j _ (by simp[hh])).toS O _ nf _ _ 0 _ _ _ W (aK _) st (hp9 _ (by rw[<-f];exact(aH _ (by rw[<-a];rfl)).trans (by rw[<-a]))) (Rc _) λl B c e gS d=>?_));refine wb9 (wpAny_load gS ?_);obtain⟨m,n,p,h,i⟩:=l;obtain rfl:n=s.gens:=e.gens;obtain rfl:p=s.drawn:=e.drawn;obtain rfl:i=s.os:=e.os;refine wu9 (k m h _ (λb o q=>e.heap b o (λz=>?_) (hp9 _ (hp9 _ q))) (by rw[f];exact ax (hl9 gS)) d);have lb:=hl9 q
 grind
end
section
variable{prog:cg}{w:c6}{A:bT}{s:ai}
def EE(prog:cg)(w:c6)(A:bT)(s:ai)(v:ah)(Gd:List ah->Prop):Prop:=
 ∀(a:bT)(c:ah->ai->Prop)(f:List ah->ai->Prop),a.handled=A.handled->(∀vs h1 d e,(∀b o,s.heap.get? b=Y o->h1.get? b=Y o)->s.heap.objs.size<=h1.objs.size->Gd vs->f vs { s with heap:=h1,drawn:=d,toks:=e })->
  aF (aG prog w) a (collect v) f c s
def J3{B:List aW}(O:Z B<64)(hc:EE prog w A s v (λvs=>∃F,oR vs F/\F.Perm B))
  (k:∀I d C l(out:List ah)F e,(∀b o,s.heap.get? b=Y o->I.get? b=Y o)->s.heap.objs.size<=l->I.get? l=Y (seqObj "list" out.toArray e)->oR out F->F.Perm B->sortedS F=U->Q (.ref l) { s with heap:=I,drawn:=d,toks:=C }) :
  aF (aG prog w) A (call (.builtin "sorted") [v]) Q E s:=by
 refine xv kind_sorted plain_sorted entry_sorted (args_sorted1 _) ?_;refine wb9 (wu9 ?_);refine wb9 (hc _ _ _ (by rfl) λvs h1 d C ex sz y=>?_);obtain⟨c,a,i2⟩:=y;have hl:Z vs<64:=by rwa[show Z vs=(Z c) by rw[<-a.strs,aB],i2.length_eq]
 refine wb9 (G6 ?_ (by exact ax (aa hl bR)));refine wb9 (cB (bO slot_list_sort ⟨_,(aH _ W),W⟩ entry_list_sort (list_sort_treeK strKind_oneLt (aH _ W) a.keysOf (λh i r e=>keyKind_strs (by rwa[<-e])) hl λg hp hs=>⟨_,W,?_⟩) (args_list_sort _)));refine ac λ_ f=>?_;obtain⟨F,j,m,n⟩:=sorted_out_str a hp hs;obtain⟨e,he⟩:=sortedHeap_at (aH _ W);refine f ?_;refine wu9 ⟨_,W,k _ d C _ ((arrOf g).map _).toList _ e (λb o q=>?_) sz (by exact he) j (m.trans i2) n⟩
 .have lb:=hl9 (ex b o q);exact(sortedHeap_old (a9 lb) (by rw[size_push'];exact kA lb)).trans (hp9 _ (ex b o q))
end
end L2
namespace L2
open PySem PySem.W PySem.Spec PyProof.Rows
section
variable{A:bT}{s:ai}
def _root_.L2.rS.first(x:rS I h g vs):(g=[]/\vs=[])\/∃k v B O,g=k::B/\vs=v::O/\I.is h k v/\rS I h B O:=by
 cases x with
 |nil=>exact .inl ⟨W,W⟩
 |cons a b=>exact .inr ⟨_,_,_,_,W,W,a,b⟩
def Ir{fin:Bool}(O:A.units+2<=dR)(C:rS (i3 P w) s.heap F xs):∀{B:List (i3 P w).κ} {I:List ah} (i:Nat),rS (i3 P w) s.heap B I->F.map sN=B.map sN->(∀k∈F,Bh (sN k)=U)->
  (b=U->i=0->∀k,F.head? = Y k->sN k=[1])->Q (if F=B then fin else wX (F.map cN) (B.map cN)) s->KatLex P w A b fin Q (xs.zip I) i s:=by
 induction C with
 |nil=>
   intro B I i d hs _ _ h
   cases d with
   |nil=>exact kat_nil (by simpa using h)
   |cons _ _=>cases hs
 | @cons f u F xs h1 C n=>
   intro B I i d hs h3 h0 h
   cases d with
   |nil=>cases hs
   | @cons m v B I h2 d=>
     simp only[aA,fS]at hs;refine kat_cons ((i3 P w).eqb O h1 h2 (λe=>?_) λe=>?_)
     .subst e;refine kat_yes (n _ d hs.2 (λk hk=>h3 k (jZ _ hk)) (λ_ z=>((a7 (ae z) (aK _))).elim) ?_);by_cases l:F=B
      .simp_all
      .rw[if_neg l];rw[if_neg λz=>l (eD z).2,aA,aA]at h;rwa[show wX _ _=wX (F.map cN) _ by rw[wX,lV,if_pos W]]at h
     .rw[if_neg λz=>e (eD z).1,aA,aA]at h;rw[show wX _ _=Y1 _ _ by rw[wX,lV,if_neg (λz=>e (MQ hs.1 (h3 _ jL) z))]]at h;refine kat_no ?_;by_cases j:(b && i == 0)=U
      .rw[j];simp only[ag,beq_iff_eq]at j;have g:=h0 j.1 j.2 f W
       rcases vi hs.1 (h3 _ jL)with⟨a,c,rfl,rfl,q⟩|⟨a,c,rfl,rfl,q1,q2⟩|⟨a,c,rfl,rfl,q1,q2,q3,q4⟩
       .cases a with
        |inl _=>simp[sN]at g
        |inr a=>
          cases c with
          |inl _=>cases q
          |inr c=>
            rcases c5 (k:=.inr a) h1 with⟨_,_,t,_⟩|⟨x,o,t,rfl⟩
            .cases t
            .rcases c5 (k:=.inr c) h2 with⟨_,_,l,_⟩|⟨p,r,l,rfl⟩
             .cases l
             .cases t;cases l;refine oneLt_str ?_;simp only[cN]at h;rwa[zu,show cK _=a.cps.toList.map e8 from rfl,show cK _=c.cps.toList.map e8 from rfl,(zt a.cps.toList c.cps.toList)]at h
       .simp only[sN]at g;simp_all
       .simp only[sN]at g;simp_all
      .rw[Bool.eq_false_iff.mpr j];refine kat_one _ _ (P2 O h1 h2 hs.1 (h3 _ jL) ?_);exact h
def abh(B:A.units+2<=dR)(ex:qI P w s.heap x p)(O:qI P w s.heap y c)(hs:x.map sN=y.map sN)(h3:∀k∈x,Bh (sN k)=U)(h1:b=U->∀k,x.head? = Y k->sN k=[1])
  (h:Q (wX (x.map cN) (y.map cN)) s):aF (aG P w) A (keyLt' (tuples' b) (.ref p) (.ref c)) Q E s:=by
 refine ac λ_ n=>?_;obtain⟨l,o,r,f,_,g,a⟩:=ex;obtain⟨m,q,t,i,_,j,d⟩:=O;refine n ?_;refine kat_lt f g i j (Ir B a 0 d hs h3 (λz _=>h1 z) ?_)
 have hl:o.size=q.size:=by
  have e:=congrArg fI hs;simp only[aB]at e;rw[<-bh,<-bh,a.length,d.length,e]
 by_cases e:x=y
 .rw[if_pos e,hl];rw[e,n5.ir]at h;simpa using h
 simp_all
noncomputable def RX(B:List (List Nat)):Option Bool:=match B.head? with
 |some [1]=>Y U
 |some [2]=>Y J
 |some (3::_)=>Y J
 |_=>L
def Mj(q:nIs P w s.heap k v)(hb:RX (sN k::B)=Y b):∃T:ah,(T=if b=U then .type "str" else .type "tuple")/\∀M,Looks M s.heap (typeOf v) T:=by
 cases k with
 |inl k=>
   cases k with
   |inl i=>simp[RX,sN]at hb
   |inr a=>
     have e:b=U:=by simpa [RX,sN]using hb.symm
     subst e
     rcases c5 (k:=.inr a) q with⟨_,_,z,_⟩|⟨j,f,_,rfl⟩
     .cases z
     .exact⟨_,W,λM=>Looks.of_pure W⟩
 |inr g=>
   have e:b=J:=by
    simp only[RX,sN,NV]at hb;by_cases c:g.all sI=U
    .simp_all
    simp_all
   subst e;obtain⟨p,rfl,o,h,n,go,d,_⟩:=q;exact ⟨_,W,λM=>d▸(Looks.ld go).andThen .now⟩
def V1{F:List Nat}{I:Nat->List NK}{O:Nat->aL}{C:List (List Nat)}{b:Bool}{Q:p3->ai->Prop}(hk:∀j∈F,qI P w s.heap (I j) (O j))(h1:∀j∈F,(I j).map sN=C)(hb:RX C=Y b)(B:0<Z F)(h:Q (tuples' b) s) :
  aF (aG P w) A (keyKind' (F.map λj=>dn (O j)).toArray) Q E s:=by
 have fs:∃fs,KatTups s.heap (F.map λj=>dn (O j)) fs/\Z fs=Z F/\∀v∈fs,Looks (aG P w) s.heap (typeOf v) (if b=U then .type "str" else .type "tuple"):=by
  clear h B
  induction F with
  |nil=>exact⟨[],KatTups.nil,W,λv a=>by cases a⟩
  |cons j F k=>
    obtain⟨fs,d,e,f⟩:=k (λj g=>hk j (jZ _ g)) (λj g=>h1 j (jZ _ g));obtain⟨o,y,n,D,G,H,l⟩:=hk j jL;have c:=h1 j jL
    rcases l.first with⟨z,_⟩|⟨u,i,m,p,z,hl,q,x⟩
    .rw[z]at c;rw[<-c]at hb;cases hb
    .rw[z]at c;rw[<-c]at hb;obtain⟨T,r,t⟩:=Mj q hb;refine⟨_,KatTups.cons D G H (by rw[<-iP,hl];rfl) d,by simp[e],λv a=>?_⟩
     rcases aw.mp a with rfl|a
     .rw[<-r];exact t _
     .exact f v a
 obtain⟨fs,d,e,f⟩:=fs;refine kat_kind d (aa B (ae e.symm)) f (by cases b<;>decide) ?_
 cases b with
 |true=>exact h
 |false=>exact h
end
section
variable{s:ai}
def Hx{vs:List ah}(h:Z vs<2):((vs.toArray.zip vs.toArray).map λx=>x.2)=((aQ vs.length).toArray.toList.map λi=>vs.getD i fm).toArray:=by
 rcases vs with _|⟨a,_|_⟩
 .simp
 .simp[List.range_succ]
 .exact absurd h (Nat.not_lt.mpr (Nat.le_add_left 2 _))
def J7(h:n<2):Pm (aQ n).toArray n:=by
 have a:∀k,k<n->pg (aQ n).toArray k=k:=λk hk=>YG (by simp[hk]);exact⟨by simp,λk hk=>by rwa[a k hk],λi j hi b e=>(aD (kX hi h) (kX b h)),by simp⟩
def DT{vs:List ah}(ho:s.heap.get? a=Y (seqObj "list" vs.toArray n))(B:Z vs<=300)(o:Q4 lt vs.length)
  (O:2<=Z vs->∀(S:cx)(F:ah->ai->Prop)(Q:p3->ai->Prop),(∀b o,b≠a->s.heap.get? b=Y o->S.get? b=Y o)->Q (tuples' b) { s with heap:=S }->aF (aG P w) A (keyKind' vs.toArray) Q F { s with heap:=S })
  (I:∀(S:cx)(F:ah->ai->Prop)(Q:Bool->ai->Prop)i j,i<Z vs->j<Z vs->(∀b o,b≠a->s.heap.get? b=Y o->S.get? b=Y o)->Q (lt i j) { s with heap:=S }->
   aF (aG P w) A (keyLt' (tuples' b) (vs.getD i .none) (vs.getD j .none)) Q F { s with heap:=S })
  (h:∀p:Array Nat,Pm p vs.length->Up lt p vs.length->R (.done (.ret .none)) { s with heap:=sortedHeap s.heap a vs (p.toList.map λi=>vs.getD i .none).toArray }) :
  aF (aG P w) A (iC.«list.sort» ⟨[.ref a],[]⟩) R E s:=by
 rw[list_sort_plain];refine wb9 (listItems_at ho W (wb9 (He ho W ?_ (by exact aa B bR) (aK _))));obtain⟨r,k⟩:∃r,(s.heap.update a _).get? a=Y (seqObj _ _ r):=⟨_,get?_update_seq ho _⟩
 refine wb9 (NI k W (wb9 (CP ?_ (by exact aa B (by decide)))));refine wb9 (G6 ?_ (aK _));refine cB ?_;have g:(((s.heap.update a (eZ _)).push (seqObj "tuple" vs.toArray 0)).push (seqObj "list" #[] 0)).get? a=Y (seqObj _ _ r):=hp9 _ (hp9 _ k)
 have kp:∀b o,b≠a->s.heap.get? b=Y o->(((s.heap.update a (eZ λ_=>(#[]))).push (seqObj "tuple" vs.toArray 0)).push (seqObj "list" #[] 0)).get? b=Y o:=λb o v e=>
  hp9 _ (hp9 _ ((Heap.get?_update_ne _ _ _ _ v).trans e))
 generalize l:((s.heap.update a (eZ _)).push (seqObj _ _ 0)).push (seqObj _ _ 0)=h6 at g kp ⊢;by_cases c:vs.toArray.size<2
 .rw[if_pos c,if_pos c];refine wb9 (wu9 ?_);refine wb9 (wu9 ?_);have hl:Z vs<2:=by exact c
  have hh:=h (aQ _).toArray (J7 hl) (λi j h1 h2=>(VM h2 hl h1).elim);refine wb9 (NI g W (wb9 (He g W ?_ (aK _) (by show((vs.toArray.zip _).map _).size<=_;simp;exact aa B bR))));simp only[bne_self_eq_false,bS,if_false];unfold sortedHeap at hh;rw[l]at hh;rw[<-(Hx hl)]at hh;exact wu9 hh
 rw[if_neg c,if_neg c];refine wb9 (O (by simp_all) h6 _ _ kp ?_);refine wb9 (dE (J4 (E:=E) o λi j hi m C q=>I h6 _ C i j hi m kp q) ?_ λ_ _ e=>e);rintro⟨⟨⟩,x⟩ z ⟨rfl,p,u,y,f,hf⟩;have d:=kat_snds W f;have t:Z (p.toList.map λi=>vs.getD i fm)=Z vs:=by rw[aB,bh,u.sz]
 refine wb9 (NI g W (wb9 (He g W ?_ (aK _) (by rw[d];show(p.toList.map _).length<=_;rw[t];exact aa B bR))));rw[hf];simp only[bne_self_eq_false,bS,if_false];have:=h p u y;unfold sortedHeap at this;rw[l]at this;rw[d];exact wu9 this
end
section
variable{P:cg}{w:c6}{A:bT}{E:ah->ai->Prop}{s:ai}{kf:Nat->List NK}{av:Nat->aL}{n:Nat}
def DF{g:List Nat}:∀{vs:List ah},jR (λv j=>v=dn (av j)) vs g->vs=g.map λj=>dn (av j):=by
 induction g with
 |nil=>intro vs h;cases h;rfl
 | cons j g c=>intro vs h;cases h with
   |cons a b=>rw[a,c b];rfl
def DE{g:List Nat}:∀{es:List (Int×ah)},jR (λ(e:Int×ah)j=>e.2=dn (av j)) es g->jR (λv j=>v=dn (av j)) (es.map (·.2)) g:=by
 induction g with
 |nil=>intro es h;cases h;exact .nil
 | cons j g c=>intro es h;cases h with
   |cons a b=>exact .cons a (c b)
structure Sel(kf:Nat->List NK)(n:Nat)(js:List Nat):Prop where
 nd:(js.map kf).Nodup
 lt:∀j∈js,j<n
 all:∀j,j<n->kf j∈js.map kf
def Sel.perm{B:List Nat}(h:Sel kf n g)(p:B.Perm g):Sel kf n B:=
 ⟨(p.map kf).nodup_iff.mpr h.nd,λj a=>h.lt j (p.mem_iff.mp a),λj a=>(p.map kf).mem_iff.mpr (h.all j a)⟩
def Sel.len(h:Sel kf n g):Z g<=n:=by
 have:=sD ((fo.mp h.nd).imp λx e=>x (congrArg kf e)) fM λj b=>bu.mpr (h.lt j b)
 simp_all
def IQ(hh:A.handled=L)(y:ED P w (px w) s.heap S kf av n)(B:n<=300) :
  EE P w A s (.ref S) (λvs=>∃C,vs=C.map (λj=>dn (av j))/\Sel kf n C):=by
 refine ac λ_ r=>?_;obtain⟨u,v,t,C,c,o,b,f,g,h⟩:=y;refine r ?_;have sl:Sel kf n C:=⟨f,g,h⟩
 intro p q x e k;refine tV (e.trans hh) c (by rw[iR];exact qt (ae (lT b)) sl.len B) λh1 d i vs ex sz pm=>k vs h1 d i ex sz ?_;obtain⟨a,l,m⟩:=mL pm (DE b);exact⟨a,DF l,sl.perm m⟩
abbrev codeN(k:List NK):List (List (List Int)):=k.map cN
theorem code_inj:∀{x y:List NK},x.map sN=y.map sN->(∀k∈x,Bh (sN k)=U)->codeN x=codeN y->x=y
 |[],[],_,_,_=>rfl
 |[],_::_,h,_,_=>by cases h
 |_::_,[],h,_,_=>by cases h
 |a::x,b::y,h,h3,e=>by
   simp only[aA,fS]at h e;rw[MQ h.1 (h3 _ jL) e.1,code_inj h.2 (λk hk=>h3 k (jZ _ hk)) e.2]
set_option tactic.hygienic true in
def sorted_N{v:ah}{O:List (List Nat)}{b:Bool}{Q:ah->ai->Prop}(a5:A.in1.in1.units+2<=dR)(hk:∀j,j<n->qI P w s.heap (kf j) (av j))(hsh:∀j,j<n->(kf j).map sN=O)(h3:∀x∈O,Bh x=U)(h1:RX O=Y b)
  (hc:EE P w A s v (λvs=>∃js,vs=js.map (λj=>dn (av j))/\Sel kf n js/\Z js<=300))
  (k:∀h' d c0 l js e,(∀b o,s.heap.get? b=Y o->h'.get? b=Y o)->s.heap.objs.size<=l->h'.get? l=Y (seqObj "list" (js.map λj=>dn (av j)).toArray e)->Sel kf n js->
   (js.map λj=>codeN (kf j)).Pairwise (λa b=>wX a b=U)->Q (.ref l) { s with heap:=h',drawn:=d,toks:=c0 }) :
  aF (aG P w) A (call (.builtin "sorted") [v]) Q E s:=by
 have t:∀j,j<n->∀k∈kf j,Bh _=U:=λj c k hk=>h3 _ (by rw[<-hsh j c];exact c9 hk)
 have F:b=U->∀j,j<n->∀k,(kf j).head? = Y k->sN k=[1]:=λhb j c k hk=>by
  have:=hsh j c
  cases q:kf j with
  |nil=>rw[q]at hk;cases hk
  |cons x r=>
    rw[q]at this hk;cases hk;rw[<-this,hb]at h1;simp only[RX,NV]at h1;split at h1
    .rename_i z;exact bI z
    .cases h1
    .cases h1
    .cases h1
 refine xv kind_sorted plain_sorted entry_sorted (args_sorted1 _) ?_;refine wb9 (wu9 ?_);refine wb9 (hc _ _ _ (by rfl) λvs g d c0 ex sz M=>?_);obtain⟨js,u,sl,B⟩:=M;have hl:Z vs=Z js:=by simp_all
 refine wb9 (G6 ?_ (by exact aa (ae hl) (aa B bR)));have G:∀i,i<Z vs->vs.getD i fm=.ref (av (js.getD i 0))/\js.getD i 0<n:=λi hi=>by
  have f:i<Z js:=aa hi (ae hl);constructor
  .rw[u];simp[f]
  .rw[show js.getD i 0=js[i] by simp[f]];exact sl.lt _ (bA f)
 have h:∀h',(∀b o,b≠g.objs.size->(g.push (seqObj "list" vs.toArray 0)).get? b=Y o->h'.get? b=Y o)->∀j,j<n->qI P w h' _ _:=λh' q j c=>
  (hk j c).mono λb o e=>by
   have V:=ex b o e;exact q b o (a9 (hl9 V)) (hp9 _ V)
 have C :=λi j hi c e=>by
  have a:=G i hi
  have f:i<Z js:=aa hi (ae hl);have m:j<Z js:=aa c (ae hl);have V:(js.map kf)[i]?=Y (kf (js.getD i 0)):=by simp[f]
  have e2:(js.map kf)[j]?=Y (kf (js.getD j 0)):=by simp[m]
  rw[(code_inj ((hsh _ a.2).trans (hsh _ (G j c).2).symm) (t _ a.2) e)]at V;exact(kj (by simp_all) sl.nd).mp (V.trans e2.symm)
 have N:Q4 (λi j=>wX (codeN (kf (js.getD i 0))) (codeN (kf _))) _:=
  ⟨λi j k _ _ _ x y=>n5.tr _ _ _ x y,λi j hi c ne x=>n5.co _ _ (λz=>ne (C i j hi c z)) x,λi j _ _ x=>n5.as x⟩
 refine wb9 (cB (bO slot_list_sort ⟨_,(aH _ W),W⟩ entry_list_sort (DT (b:=b) (aH _ W) (aa (ae hl) B) N (λh2 h' R Q' q H=>?_) (λh' R Q' i j hi c q H=>?_) λp I S=>⟨_,W,?_⟩) (args_list_sort _)))
 .rw[u];exact V1 (λj c=>h h' q j (sl.lt j c)) (λj c=>hsh j (sl.lt j c)) h1 (ax (aa h2 (ae hl))) H
 .obtain⟨T,D⟩:=G i hi
  obtain⟨b1,b2⟩:=G j c
  rw[T,b1];exact abh a5 (h h' q _ D) (h h' q _ b2) ((hsh _ D).trans (hsh _ b2).symm) (t _ D) (λz=>F z _ D) H
 .obtain⟨e,he⟩:=sortedHeap_at (out:=(p.toList.map _).toArray) (aH _ W)
  have X:(p.toList.map λi=>vs.getD i fm)=(p.toList.map λi=>js.getD i 0).map λj=>dn (av j):=by
   rw[cF];exact dP λi hi=>(G i ((bu.mp (I.pm.mem_iff.mp hi)))).1
  rw[X]at he
  have U':(p.toList.map λi=>js.getD i 0).Perm js:=by
   refine (I.pm.map _).trans ?_;rw[hl];refine List.Perm.of_eq ?_;apply nr;intro i;by_cases hi:i<Z js
   .simp[hi]
   .simp[hi]
  refine wu9 ⟨_,W,k _ d c0 _ (p.toList.map _) e (λb o q=>?_) sz ?_ (sl.perm U') ?_⟩
  .have lb:=hl9 (ex b o q);exact(sortedHeap_old (a9 lb) (by rw[size_push'];exact kA lb)).trans (hp9 _ (ex b o q))
  .rwa[X]
  .rw[cF,fo,eO];intro i j hi c J';have:=S i j J' (by rwa[bh,I.sz]at c)
   have V:∀x(K:x<Z p.toList),p.toList[x]=pg p x:=λx K=>by
    have:=K0 (by simpa using K);rw[<-iP,af K]at this;exact bI this
   rwa[V i hi,V j c]
end
end L2
namespace M
open PySem PySem.Spec PyProof.Rows L2
inductive Xx|add|sub|mul|fdiv|mod|shr|band|mn|mx
inductive Z8|eq|ne|lt|le|gt|ge|isin|nin|isn|nisn
inductive Ty|int|bool|str|tuple|list
inductive Z9|len|tuple|isi (t:Ty)|int|str|sorted|sset
inductive Mth|join|upper|get|startswith
inductive Jq|app|ext|seti
mutual
noncomputable def pE:Dat->Dat->Bool
 | .non,c=>match c with
   |.non=>U
   |_=>J
 | .bl a,c=>match c with
   |.bl b=>a == b
   |.int j=>(if a then 1 else 0) == j
   |_=>J
 | .int i,c=>match c with
   |.bl b=>i == (if b then 1 else 0)
   |.int j=>i == j
   |_=>J
 | .str x,c=>match c with
   |.str y=>x == y
   |_=>J
 | .tup d,c=>match c with
   |.tup e=>oN d e
   |_=>J
 | .lst d,c=>match c with
   |.lst e=>oN d e
   |_=>J
 |_,_=>J
noncomputable def oN:List Dat->List Dat->Bool
 |[],[]=>U
 |x::a,y::b=>pE x y && oN a b
 |_,_=>J
end
mutual
noncomputable def iY:Nat->Dat->Bool
 |_,.dct _ _=>J
 |_,.any=>J
 |0,.tup _=>J
 |0,.lst _=>J
 |n+1,.tup a=>eU n a
 |n+1,.lst a=>eU n a
 |_,_=>U
noncomputable def eU:Nat->List Dat->Bool
 |_,[]=>U
 |n,x::a=>iY n x && eU n a
end
noncomputable def fV:Dat->Option Bool
 |.non=>Y J
 |.bl b=>Y b
 |.int i=>Y (i != 0)
 |.str x=>if x.length<=aE then Y ((x.length:Int) != 0)else L
 |.tup a=>Y (!a.isEmpty)
 |.lst a=>Y (!a.isEmpty)
 |.dct c _=>Y (!c.isEmpty)
 |.any=>L
noncomputable instance (i j:Int):Decidable (Jd i j):=by unfold Jd;infer_instance
noncomputable instance (i j:Int):Decidable (Q9 i j):=by unfold Q9;infer_instance
noncomputable instance (x:aW) (j:Int):Decidable (C0 x j):=by unfold C0;infer_instance
abbrev g_:=Option (Dat×Bool)
noncomputable def GU(f:Int->Int->g_):Dat->Dat->g_
 |.int i,.int j=>f i j
 |_,_=>L
def M1:Dat->Dat->g_
 | .int i,a=>match a with
   |.int j=>Y (.int (i+j),J)
   |_=>L
 | .str x,a=>match a with
   |.str y=>if x.length+y.length<=aE then Y (.str (x++y),J)else L
   |_=>L
 | .lst b,a=>match a with
   |.lst c=>if b.length+c.length<=aE then Y (.lst (b++c),lW (b++c))else L
   |_=>L
 | .tup b,a=>match a with
   |.tup c=>if b.length+c.length<=aE then Y (.tup (b++c),J)else L
   |_=>L
 |_,_=>L
noncomputable def M0:Dat->Dat->g_
 | .int i,a=>match a with
   |.int j=>if Jd i j then Y (.int (i * j),J)else L
   |_=>L
 | .str x,a=>match a with
   |.int j=>if C0 x j then Y (.str (PySem.Txt.mul x j),J)else L
   |_=>L
 |_,_=>L
def gQ:Xx->Dat->Dat->g_
 |.add,a,b=>M1 a b
 |.sub,a,b=>GU (λi j=>Y (.int (i - j),J)) a b
 |.mul,a,b=>M0 a b
 |.mn,a,b=>GU (λi j=>Y (.int (if j<i then j else i),J)) a b
 |.mx,a,b=>GU (λi j=>Y (.int (if i<j then j else i),J)) a b
 |.fdiv,a,b=>GU (λi j=>if Q9 i j then Y (.int (i / j),J)else L) a b
 |.mod,a,b=>GU (λi j=>if 0<j then Y (.int (i % j),J)else L) a b
 |.shr,a,b=>GU (λi j=>if 0<=j then Y (.int (i / 2 ^ j.toNat),J)else L) a b
 |.band,a,b=>GU (λi j=>Y (.int (JA i j),J)) a b
noncomputable def ub:Dat->Option Key
 |.int i=>Y (.inl i)
 |.str x=>Y (.inr x)
 |_=>L
instance ab7 (k:List NK) (ks:List (List NK)):Decidable (k∈ks):=@List.instDecidableMemOfLawfulBEq _ instBEqOfDecidableEq inferInstance k ks
def Bz:List Dat->Option (List Key)
 |[]=>Y []
 |d::a=>(ub d).bind λk=>(Bz a).map λr=>k::r
def n2I:Dat->Option N2
 |.int i=>Y (.inl (.inl i))
 |.str x=>Y (.inl (.inr x))
 |.tup a=>(Bz a).map .inr
 |_=>L
def RM:List Dat->Option (List N2)
 |[]=>Y []
 |d::a=>(n2I d).bind λk=>(RM a).map λr=>k::r
def nkI:Dat->Option NK
 |.int i=>Y (.inl (.inl i))
 |.str x=>Y (.inl (.inr x))
 |.tup a=>(RM a).map .inr
 |_=>L
def XD:List Dat->Option (List NK)
 |[]=>Y []
 |d::a=>(nkI d).bind λk=>(XD a).map λr=>k::r
def Vr:Dat->Option (List NK)
 |.tup a=>XD a
 |_=>L
def wV:List Dat->Option (List (List NK))
 |[]=>Y []
 |d::a=>(Vr d).bind λk=>(wV a).map λr=>k::r
noncomputable def RI:List Key->Bool
 |[]=>U
 |k::a=>!(a.any λj=>decide (j=k)) && RI a
noncomputable def iO(k:Key):List Key->List Dat->Option Dat
 |j::a,v::vs=>if j=k then Y v else iO k a vs
 |_,_=>L
noncomputable def Bg(k:Key):List Key->Bool
 |[]=>U
 |j::a=>if j=k then !(a.any λi=>decide (i=k))else Bg k a
noncomputable def putD(k:Key)(d:Dat):List Key->List Dat->List Key×List Dat
 |j::a,v::vs=>if j=k then(j::a,d::vs)else((j::(putD k d a vs).1),(v::(putD k d a vs).2))
 |_,_=>([k],[d])
noncomputable def XM(f:Int->Int->Bool):Dat->Dat->Option Bool
 |.int i,.int j=>Y (f i j)
 |_,_=>L
def cIn(a:Dat):Dat->Option Bool
 | .str y=>match a with
   |.str x=>Y (!(jr y x 0 y.length 1).isEmpty)
   |_=>L
 |.lst b=>if iY 20 a && eU 20 b then Y (b.any λy=>pE y a)else L
 |.tup b=>if iY 20 a && eU 20 b then Y (b.any λy=>pE y a)else L
 |.dct c vs=>(ub a).map λk=>(iO k c vs).isSome
 |_=>L
def abH(a:Dat):Dat->Option Bool
 | .str y=>match a with
   |.str x=>Y (!(!(jr y x 0 y.length 1).isEmpty))
   |_=>L
 |.lst b=>if iY 20 a && eU 20 b then Y (!(b.any λy=>pE y a))else L
 |_=>L
noncomputable def cIs(b:Bool)(a:Dat):Dat->Option Bool
 | .non=>match a with
   |.any=>L
   |.non=>Y b
   |_=>Y (!b)
 |_=>L
def jM:Z8->Dat->Dat->Option Bool
 |.eq,a,b=>if iY 20 a && iY 20 b then Y (pE a b)else L
 |.ne,a,b=>if iY 20 a && iY 20 b then Y (!pE a b)else L
 |.lt,a,b=>XM (λi j=>decide (i<j)) a b
 |.le,a,b=>XM (λi j=>decide (i<=j)) a b
 |.gt,a,b=>XM (λi j=>decide (j<i)) a b
 |.ge,a,b=>XM (λi j=>decide (j<=i)) a b
 |.isin,a,b=>cIn a b
 |.nin,a,b=>abH a b
 |.isn,a,b=>cIs U a b
 |.nisn,a,b=>cIs J a b
def x5:Dat->Dat->Option Dat
 | .lst b,a=>match a with
   |.int i=>uK b i
   |_=>L
 | .tup b,a=>match a with
   |.int i=>uK b i
   |_=>L
 | .str z,a=>match a with
   |.int i=>if z.length<=aE then(uK z.cps.toList i).map λc=>.str ⟨#[c]⟩else L
   |_=>L
 |.dct d vs,k=>(ub k).bind λk=>iO k d vs
 |_,_=>L
noncomputable def vy(r:g_):Option (Option Int):=r.bind λx=>match x.1 with
 |.int i=>Y (Y i)
 |_=>L
def cutD{α:Type}(xs:List α)(lo hi:Option Int):List α:=(xs.drop (HT.jC xs.length 0 lo)).take (HT.jC xs.length xs.length hi - HT.jC xs.length 0 lo)
def E8:Dat->Option Int->Option Int->g_
 |.str x,lo,hi=>if x.length<=aE then Y (.str (cJ x lo hi),J)else L
 |.lst a,lo,hi=>Y (.lst (cutD a lo hi),lW (cutD a lo hi))
 |.tup a,lo,hi=>Y (.tup (cutD a lo hi),J)
 |_,_,_=>L
noncomputable def LS:Ty->Dat->Bool
 |.int,.int _=>U
 |.int,.bl _=>U
 |.bool,.bl _=>U
 |.str,.str _=>U
 |.tuple,.tup _=>U
 |.list,.lst _=>U
 |_,_=>J
def Zk(t:Ty):Dat->g_
 |.any=>L
 |d=>Y (.bl (LS t d),J)
def Qi(h:Zk t d=Y z):d≠.any/\z=(.bl (LS t d),J):=by
 cases d<;>cases h<;>exact⟨nofun,W⟩
noncomputable def AI:List Dat->Option (List aW)
 |[]=>Y []
 |.str x::a=>(AI a).map λr=>x::r
 |_::_=>L
noncomputable def yg:List Dat->Option (List Int)
 |[]=>Y []
 |.int x::a=>(yg a).map λr=>x::r
 |_::_=>L
noncomputable def vR{α:Type}(lt:α->α->Bool)(x:α):List α->List α
 |[]=>[x]
 |y::a=>if lt x y=U then x::y::a else if lt y x=U then y::vR lt x a else y::a
def iw{α:Type}(lt:α->α->Bool):List α->List α
 |[]=>[]
 |x::a=>vR lt x (iw lt a)
noncomputable def wZ{α:Type}(lt:α->α->Bool)(x:α):List α->List α
 |[]=>[x]
 |y::a=>if lt y x=U then y::wZ lt x a else x::y::a
def oA{α:Type}(lt:α->α->Bool):List α->List α
 |[]=>[]
 |x::a=>wZ lt x (oA lt a)
noncomputable def wH(x y:aW):Bool:=decide (x.cps.toList<y.cps.toList)
noncomputable def eQ(x:aW):List aW:=x.cps.toList.map λc=>⟨#[c]⟩
noncomputable def QE:Nat->List Int->Dat
 |0,l=>.int (l.headD 0)
 |1,l=>.str ⟨(l.map uR).toArray⟩
 |_,l=>.tup (l.map .int)
def WJ:List Nat->List (List Int)->Dat
 |[],_=>.non
 |n::a,c=>if n=3 then .tup (tu QE a c)else QE n (c.headD [])
def El(B:List (List Nat))(c:List (List (List Int))):Dat:=.tup (tu WJ B c)
def Jk(g:List (List NK)):List (List Nat):=(g.headD []).map sN
def Lc(g:List (List NK)):Prop:=(RX (Jk g)).isSome=U/\(Jk g).all Bh=U/\(g.all λk=>decide (k.map sN=Jk g))=U/\Z (iw wX (g.map codeN))<=300
noncomputable instance (kk:List (List NK)):Decidable (Lc kk):=inferInstanceAs (Decidable (_/\_))
def xQ(g:List (List NK)):g_:=
 if Z g<=300/\Lc g then Y (.lst ((iw wX (g.map codeN)).map (El (Jk g))),U)else L
def E2(B:List aW):g_:=if Z B<4000/\Z (iw wH B)<64 then Y (.lst ((iw wH B).map .str),U)else L
def E4(B:List aW):g_:=if Z B<64 then Y (.lst ((oA wH B).map .str),U)else L
noncomputable def b1(f:Dat->g_):List Dat->g_
 |[d]=>f d
 |_=>L
noncomputable def Xe:Dat->g_
 |.lst a=>Y (.int a.length,J)
 |.tup a=>Y (.int a.length,J)
 |.str x=>if x.length<=aE then Y (.int x.length,J)else L
 |.dct b _=>Y (.int b.length,J)
 |_=>L
noncomputable def ZV:Dat->g_
 |.lst a=>Y (.tup a,J)
 |.tup a=>Y (.tup a,J)
 |_=>L
noncomputable def Xf(f:List Dat->g_)(g:aW->g_):Dat->g_
 |.lst a=>f a
 |.str x=>g x
 |_=>L
noncomputable def ZW:Dat->g_
 |.int i=>Y (.int i,J)
 |.bl b=>Y (.int (if b then 1 else 0),J)
 |.str x=>if x.length<=640 then(PySem.intText? x).map λi=>(.int i,J)else L
 |_=>L
noncomputable def Xd:Dat->g_
 |.int i=>if i.natAbs.log2<1920 then Y (.str (toString i),J)else L
 |_=>L
def jq:Z9->List Dat->g_
 |.len,l=>b1 Xe l
 |.tuple,l=>b1 ZV l
 |.isi t,l=>b1 (Zk t) l
 |.sset,l=>b1 (Xf (λa=>(wV a).bind xQ) λx=>E2 (eQ x)) l
 |.sorted,l=>b1 (Xf (λ_=>L) λx=>E4 (eQ x)) l
 |.int,l=>b1 ZW l
 |.str,l=>b1 Xd l
noncomputable def kB:Dat->Option (List Dat)
 |.lst a=>Y a
 |.tup a=>Y a
 |.str x=>Y (x.cps.toList.map λc=>Dat.str ⟨#[c]⟩)
 |_=>L
noncomputable def aaP:Dat->Option (List Dat)
 |.str x=>Y (x.cps.toList.map λc=>Dat.str ⟨#[c]⟩)
 |_=>L
noncomputable def Dy:List Dat->Option (List Dat)
 |[.int j]=>if j<=1000000/\-1000000<=j then Y ((aQ j.toNat).map λk:Nat=>Dat.int k)else L
 |[.int i,.int j,.int c]=>if c=-1/\-1000000<=i/\i<=1000000/\-1000000<=j/\j<=1000000 then Y ((aQ (i - j).toNat).map λk:Nat=>Dat.int (i - k))else L
 |_=>L
noncomputable def o5:List Dat->List Dat->List Dat
 |x::a,y::b=>.tup [x,y]::o5 a b
 |_,_=>[]
noncomputable def xf:Nat->List Dat->List Dat
 |_,[]=>[]
 |k,x::a=>.tup [.int k,x]::xf (k+1) a
def qr(f:Dat->Option g_):List Dat->Option (List Dat×Bool)
 |[]=>Y ([],U)
 | d::a=>(f d).bind λo=>(qr f a).map λr=>match o with
   |some y=>(y.1::r.1,(y.2 || im y.1) && r.2)
   |none=>r
noncomputable def ze:Nat->List Dat->ic->ic
 |_,[],a=>a
 |k,d::b,a=>ze (k+1) b (a.set k (Y d))
def GS(nt:Nat)(one:Bool)(d:Dat)(ρ:ic):Option ic:=match one with
 |true=>Y (ρ.set 0 (Y d))
 | false=>match d with
   |.tup a=>if Z a=nt then Y (ze 0 a ρ)else L
   |_=>L
noncomputable def j2(nt:Nat)(caps:List Nat)(ρ:ic):ic:=br nt L++caps.map λj=>(ρ[j]?).join
noncomputable def mS0(f:aW->g_):Dat->List Dat->g_
 | .str x,a=>match a with
   |[]=>f x
   |_=>L
 |_,_=>L
noncomputable def mSL(f:aW->List Dat->g_):Dat->List Dat->g_
 | .str x,a=>match a with
   |[.lst b]=>f x b
   |_=>L
 |_,_=>L
noncomputable def mSw:Dat->List Dat->g_
 |.str x,[.str y,.int i]=>Y (.bl (ik x y i),J)
 |_,_=>L
def VJ:Dat->List Dat->g_
 |.dct a vs,[k,d]=>(ub k).map λk=>((iO k a vs).getD d,J)
 |_,_=>L
def hZ:Mth->Dat->List Dat->g_
 |.join,a,l=>mSL (λx c=>(AI c).bind λb=>if(b.map (·.length)).sum+b.length * x.length<=1000000 then Y (.str (oG x b),J)else L) a l
 |.upper,a,l=>mS0 (λx=>if x.length<=1000000 then Y (.str (rY x),J)else L) a l
 |.startswith,a,l=>mSw a l
 |.get,a,l=>VJ a l
def Ug{α:Type}(x:α)(i:Int)(xs:List α):Option (List α):=(tL xs.length i).map λk=>xs.set k x
noncomputable def SY:Dat->List Dat->Option Dat
 |.lst a,[d]=>if Z a<aE then Y (.lst (a++[d]))else L
 |_,_=>L
noncomputable def JK:Dat->List Dat->Option Dat
 | .lst b,l=>match l with
   |[.lst a]=>if Z b+Z a<=aE then Y (.lst (b++a))else L
   |[.tup a]=>if Z b+Z a<=aE then Y (.lst (b++a))else L
   |_=>L
 |_,_=>L
def SX:Dat->List Dat->Option Dat
 | .lst b,l=>match l with
   |[d,.int i]=>if -1000000<=i/\i<=1000000 then(Ug d i b).map .lst else L
   |_=>L
 | .dct a vs,l=>match l with
   |[d,k]=>(ub k).bind λk=>if Z a<aE/\Bg k a=U then Y (.dct (putD k d a vs).1 (putD k d a vs).2)else L
   |_=>L
 |_,_=>L
def lG:Jq->Dat->List Dat->Option Dat
 |.app,a,l=>SY a l
 |.ext,a,l=>JK a l
 |.seti,a,l=>SX a l
abbrev Fs:=Nat->List Dat->g_
structure Ex where
 fv:List Nat
 ev:Fs->ic->g_
noncomputable def bf(C:Fs)(e:Ex)(ρ:ic):g_:=e.ev C ρ
def lI(C:Fs):List Ex->ic->Option (List Dat)
 |[],_=>Y []
 |e::b,a=>(bf C e a).bind λx=>(lI C b a).map λr=>x.1::r
def og(C:Fs):List Ex->ic->Option (List Dat×Bool)
 |[],_=>Y ([],U)
 |e::b,a=>(bf C e a).bind λx=>(og C b a).map λr=>(x.1::r.1,(x.2 || im x.1) && r.2)
def BZ(C:Fs):List Ex->ic->Option Bool
 |[],_=>Y U
 |e::b,a=>(bf C e a).bind λx=>(fV x.1).bind λz=>if z=U then BZ C b a else Y J
noncomputable def Gr(es:List Ex):List Nat:=es.flatMap (·.fv)
inductive Iw where
 |itv (a:Ex)|rng (es:List Ex)|zip (es:List Ex)|enu (a:Ex)|rev (a:Ex)
noncomputable def aaR:Dat->Option (List Dat)
 |.tup a=>Y a.reverse
 |_=>L
def fvI:Iw->List Nat
 |.itv a=>a.fv
 |.rng _=>[]
 |.zip b=>Gr b
 |.enu a=>a.fv
 |.rev a=>a.fv
def zip2(a b:Dat):Option (List Dat):=match a with
 | .str x=>match b with
   |.tup c=>Y (o5 ((eQ x).map .str) c)
   |_=>L
 |_=>L
def Rv(ds:List Dat):Option (List Dat):=match ds with
 |[a,b]=>zip2 a b
 |_=>L
def zH(C:Fs)(it:Iw)(ρ:ic):Option (List Dat):=match it with
 |.itv a=>(bf C a ρ).bind λx=>kB x.1
 |.rng b=>(lI C b ρ).bind Dy
 |.zip b=>(lI C b ρ).bind Rv
 |.enu a=>(bf C a ρ).bind λx=>(aaP x.1).map λc=>xf 0 c
 |.rev a=>(bf C a ρ).bind λx=>aaR x.1
def ZU(C:Fs)(ρ:ic):Option Ex->Option (Option Int)
 |none=>Y L
 |some e=>vy (bf C e ρ)
noncomputable def aa6:Dat->g_
 |.int i=>Y (.int (-i),J)
 |_=>L
noncomputable def abL(k:g_):Dat->g_
 |.bl b=>if b=U then k else Y (.bl J,J)
 |_=>L
noncomputable def orD(k:g_):Dat->g_
 |.bl b=>if b=U then Y (.bl U,J)else k
 |_=>L
def oF(C:Fs)(nt:Nat)(one:Bool)(ρ0:ic)(ifs:List Ex)(elt:Ex)(d:Dat):Option g_:=
 (GS nt one d ρ0).bind λa=>(BZ C ifs a).bind λb=>if b=U then(bf C elt a).map Y else Y L
namespace Ex
noncomputable def con(d:Dat):Ex:=⟨[],λ_ _=>Y (d,J)⟩
abbrev e_(i:Int):Ex:=con (.int i)
abbrev f_(x:aW):Ex:=con (.str x)
noncomputable def v(i:Nat):Ex:=⟨[i],λ_ a=>((a[i]?).join).map λd=>(d,J)⟩
def bin(o:Xx)(a b:Ex):Ex:=⟨a.fv++b.fv,λC c=>(bf C a c).bind λx=>(bf C b c).bind λy=>gQ o x.1 y.1⟩
def neg(a:Ex):Ex:=⟨[],λC b=>(bf C a b).bind λx=>aa6 x.1⟩
def cmp(o:Z8)(a b:Ex):Ex:=⟨[],λC c=>(bf C a c).bind λx=>(bf C b c).bind λy=>(jM o x.1 y.1).map λr=>(.bl r,J)⟩
def and(a b:Ex):Ex:=⟨a.fv++b.fv,λC c=>(bf C a c).bind λx=>abL (bf C b c) x.1⟩
def or(a b:Ex):Ex:=⟨a.fv++b.fv,λC c=>(bf C a c).bind λx=>orD (bf C b c) x.1⟩
def not(a:Ex):Ex:=⟨[],λC c=>(bf C a c).bind λx=>(fV x.1).map λb=>(.bl (!b),J)⟩
def ite(c a b:Ex):Ex:=⟨c.fv++a.fv++b.fv,λC d=>(bf C c d).bind λx=>(fV x.1).bind λz=>if z=U then bf C a d else bf C b d⟩
def tup(es:List Ex):Ex:=⟨Gr es,λC a=>(og C es a).bind λx=>if Z x.1<=1000000 then Y (.tup x.1,x.2)else L⟩
def lst(es:List Ex):Ex:=⟨Gr es,λC a=>(og C es a).bind λx=>if Z x.1<=1000000 then Y (.lst x.1,x.2)else L⟩
def ix(a b:Ex):Ex:=⟨a.fv++b.fv,λC c=>(bf C a c).bind λx=>(bf C b c).bind λy=>(x5 x.1 y.1).map λd=>(d,J)⟩
noncomputable def ofv(o:Option Ex):List Nat:=match o with
 |none=>[]
 |some e=>e.fv
def sl(a:Ex)(lo hi:Option Ex):Ex:=⟨a.fv++ofv lo++ofv hi,λC b=>(bf C a b).bind λx=>(ZU C b lo).bind λl=>(ZU C b hi).bind λh=>E8 x.1 l h⟩
def call(f:Nat)(es:List Ex):Ex:=⟨Gr es,λC a=>(lI C es a).bind λb=>C f b⟩
def blt(b:Z9)(es:List Ex):Ex:=⟨Gr es,λC a=>(lI C es a).bind λc=>jq b c⟩
def i6(m:Mth)(o:Ex)(es:List Ex):Ex:=⟨o.fv++Gr es,λC a=>(bf C o a).bind λx=>(lI C es a).bind λb=>hZ m x.1 b⟩
noncomputable def m7:Ex:=⟨[],λ_ _=>Y (.dct [] [],U)⟩
def GB(g:List Key)(es:List Ex):Ex:=⟨Gr es,λC b=>(lI C es b).bind λa=>if Z g=Z a/\RI g=U/\Z g<=15 then Y (.dct g a,J)else L⟩
def comp(nt:Nat)(one:Bool)(caps:List Nat)(it:Iw)(ifs:List Ex)(elt:Ex):Ex:=⟨caps++fvI it,λC a=>(zH C it a).bind λitems=>if Z items<=1000000 then
 (qr (oF C nt one (j2 nt caps a) ifs elt) items).map λb=>(.lst b.1,b.2)else L⟩
end Ex
abbrev cY:=List g_
set_option genInjectivity true in
inductive Out where
 |nx (ρ:cY)|rt (d:Dat) (fr:Bool)|bk (ρ:cY)|ct (ρ:cY)|rl (d:Dat) (ρ:cY)
noncomputable def yP(ρ:cY):ic:=ρ.map λo=>match o with
 |some (d,J)=>Y d
 |_=>L
noncomputable def full(ρ:cY):ic:=ρ.map λo=>o.map (·.1)
noncomputable def sV(ρ:cY):cY:=ρ.map λo=>o.map λs=>(s.1,J)
def C9(ρ:cY):yP (sV ρ)=full ρ:=by
 unfold yP sV full;rw[cF];exact dP λo _=>by cases o<;>rfl
noncomputable def lZ(is:List Nat)(ρ:cY):cY:=is.foldl (λρ i=>ρ.modify i λo=>o.map λs=>(s.1,J)) ρ
def Nw(C:Fs)(e:Ex)(ρ:cY):Option (Dat×Bool×cY):=(bf C e (full ρ)).bind λx=>if(im x.1 || x.2)=U then Y (x.1,x.2,ρ)
 else(bf C e (yP (lZ e.fv ρ))).map λy=>(y.1,y.2,lZ e.fv ρ)
def Zz(C:Fs)(it:Iw)(ρ:cY):Option (List Dat×cY):=match it with
 |.itv a=>(Nw C a ρ).bind λx=>(kB x.1).map λb=>(b,x.2.2)
 |.rng c=>(zH C (.rng c) (full ρ)).map λb=>(b,ρ)
 |.zip c=>(zH C (.zip c) (yP (lZ (Gr c) ρ))).map λb=>(b,lZ (Gr c) ρ)
 |.enu a=>(zH C (.enu a) (yP (lZ a.fv ρ))).map λb=>(b,lZ a.fv ρ)
 |.rev a=>(zH C (.rev a) (yP (lZ a.fv ρ))).map λb=>(b,lZ a.fv ρ)
noncomputable def pS:List Nat->List Dat->cY->cY
 |i::is,d::b,a=>pS is b (a.set i (Y (d,J)))
 |_,_,a=>a
def eV(one:Bool)(B:List Nat)(d:Dat)(ρ:cY):Option cY:=match one with
 | true=>match B with
   |[i]=>Y (ρ.set i (Y (d,J)))
   |_=>L
 | false=>match d with
   |.tup a=>if Z a=(Z B) then Y (pS B a ρ)else L
   |_=>L
noncomputable def JP(k:cY->Option Out):Out->Option Out
 |.nx a=>k a
 |.ct a=>k a
 |.bk a=>Y (.nx a)
 |.rt d fr=>Y (.rt d fr)
 |.rl d a=>Y (.rl d a)
def p5(test:cY->Option Bool)(body:cY->Option Out):Nat->cY->Option Out
 |0,_=>L
 |n+1,a=>(test a).bind λb=>if b=U then(body a).bind (JP (p5 test body n))else Y (.nx a)
noncomputable def kH:Nat:=1000000
def i7(B:Dat->cY->Option cY)(body:cY->Option Out):List Dat->cY->Option Out
 |[],a=>Y (.nx a)
 |d::c,a=>(B d a).bind λb=>(body b).bind (JP (i7 B body c))
structure Sx where
 ex:Fs->cY->Option Out
noncomputable def pB(C:Fs)(s:Sx)(ρ:cY):Option Out:=s.ex C ρ
noncomputable def aaO(k:cY->Option Out):Out->Option Out
 |.nx a=>k a
 |o=>Y o
def dZ(C:Fs):List Sx->cY->Option Out
 |[],b=>Y (.nx b)
 |s::a,b=>(pB C s b).bind (aaO (dZ C a))
def aay(B:List Nat)(ρ:cY):Dat->Option Out
 |.tup a=>if Z a=(Z B) then Y (.nx (pS B a ρ))else L
 |_=>L
def YW(g:Jq)(i:Nat)(ρ:cY)(ds:List Dat):g_->Option Out
 |some (d,U)=>(lG g d ds).map λa=>.nx (ρ.set i (Y (a,U)))
 |_=>L
namespace Sx
def set(i:Nat)(e:Ex):Sx:={ ex:=λC a=>(Nw C e a).map λx=>.nx (x.2.2.set i (Y (x.1,x.2.1 && !im x.1))) }
def unp(B:List Nat)(e:Ex):Sx:={ ex:=λC a=>(Nw C e a).bind λx=>aay B x.2.2 x.1 }
def ret(e:Ex):Sx:={ ex:=λC a=>(bf C e (full a)).map λx=>.rt x.1 x.2 }
noncomputable def Yr(i:Nat)(x:Dat×Bool)(ρ:cY):Out:=match x.2,(ρ[0]?).join with
 |false,Y (_,U)=>.rl x.1 ρ
 |_,_=>.rt x.1 x.2
def oM(i:Nat):Sx:={ ex:=λ_ a=>((a[i]?).join).map λx=>Yr i x a }
def exp(e:Ex):Sx:={ ex:=λC a=>(bf C e (full a)).map λ_=>.nx a }
noncomputable def Nn:Sx:={ ex:=λ_ _=>L }
noncomputable def brk:Sx:={ ex:=λ_ a=>Y (.bk a) }
def ifs(c:Ex)(a b:List Sx):Sx:={ ex:=λC d=>(bf C c (full d)).bind λx=>(fV x.1).bind λz=>if z=U then dZ C a d else dZ C b d }
def loop(one:Bool)(B:List Nat)(it:Iw)(body:List Sx):Sx:={ ex:=λC a=>(Zz C it a).bind λx=>i7 (eV one B) (dZ C body) x.1 x.2 }
def SK(c:Ex)(body:List Sx):Sx:={ ex:=λC a=>p5 (λa=>(bf C c (full a)).bind λx=>fV x.1) (dZ C body) kH a }
def «mut» (g:Jq)(i:Nat)(es:List Ex):Sx:={ ex:=λC a=>(og C es (full a)).bind λx=>if x.2=U then YW g i a x.1 (a[i]?).join else L }
end Sx
noncomputable def abC:Out->g_
 |.nx _=>Y (.non,J)
 |.rt d fr=>Y (d,fr)
 |_=>L
def Qy(C:Fs)(B O:Nat)(body:List Sx)(ds:List Dat):g_:=
 if Z ds=B then(dZ C body (ds.map (λd=>Y (d,J))++br (O - B) L)).bind abC else L
def gE(K:Fg)(C:Fs)(x:Ex):TE:=λσ H Q=>∃a d fr,bf C x a=Y (d,fr)/\tE K a d fr σ H Q
def gA(K:Fg)(C:Fs)(xs:List Ex):TA:=λσ H Q=>∃a b,lI C xs a=Y b/\tEs K a b σ H Q
def gF(K:Fg)(C:Fs)(xs:List Ex):TA:=λσ H Q=>∃a b al,og C xs a=Y (b,al)/\tFs K a b al σ H Q
def gT(K:Fg)(C:Fs)(x:Ex):TT:=λσ H Q=>∃a d fr b,bf C x a=Y (d,fr)/\fV d=Y b/\tT K a b σ H Q
abbrev SE(X:Cx)(C:Fs)(e:ba)(x:Ex):Prop:=PE X e (gE X.K C x)
abbrev SA(X:Cx)(C:Fs)(es:List ba)(xs:List Ex):Prop:=PA X es (gA X.K C xs)
abbrev SF(X:Cx)(C:Fs)(es:List ba)(xs:List Ex):Prop:=PA X es (gF X.K C xs)
abbrev ST(X:Cx)(C:Fs)(e:ba)(x:Ex):Prop:=PT X e (gT X.K C x)
def gB(K:Fg)(f:Dat->Dat->g_):R2:=λx y H Q=>∃b a d fr,f b a=Y (d,fr)/\rD K b a d fr x y H Q
def gL(K:Fg)(f:List Dat->g_):List V->Hp->VK->Prop:=λb H Q=>∃a d fr,f a=Y (d,fr)/\rDs K a d fr b H Q
section
variable{X:Cx}{C:Fs}{e:ba}
def be{K:Fg}:(J=U->gh K H g d v):=λh=>nomatch h
def Uh(i:Nat)(O:X.N[i]?=Y x)(I:So X.env.scope x)(hd:(x == ("__debug__":aW))=J)
  (B:(x == ("__classdict__":aW))=J):SE X C (.Name x pos) (.v i):=
 PE.imp (nW O I hd B) λσ H Q b=>by
  obtain⟨c,d,fr,h,F,g,R,k⟩:=b;obtain⟨j,h1,h2⟩:=ee h;cases h2
  have a:c[i]?=Y (Y d):=by
   cases q:c[i]? with
   |none=>rw[q]at h1;cases h1
   |some z=>simp_all
  obtain⟨v,f,r⟩:=R i d a;exact⟨v,f,k v F H (Step.refl g) r be⟩
def vf(h:PE X e (tC v))(hd:∀F,Rep X.K F d v):SE X C e (.con d):=
 PE.imp h λσ H Q a=>by
  obtain⟨b,c,fr,h,F,g,R,k⟩:=a;cases h;exact k v F H (Step.refl g) (hd _) be
def Uv{j}:SE X C (.Constant (.int i) j pos) (.con (.int i)):=vf U1 λ_=>W
def Yq{b:Bool}{j}:SE X C (.Constant (.bool b) j pos) (.con (.bl b)):=vf YK λ_=>W
def Um{j}:SE X C (.Constant .none j pos) (.con .non):=vf UZ λ_=>W
def Ul{j}:SE X C (.Constant (.str x) j pos) (.con (.str x)):=vf UX λ_=>W
def OI(O:Gl X x)(g:X.mg x=Y u)(r:RelV v u)(B:∀F,Rep X.K F d v)(hd:(x == ("__debug__":aW))=J):SE X C (.Name x pos) (.con d):=vf (Pe O g r hd) B
def Cp{α g B:Type}{o:Option α}{F:Option g}{f:α->g->Option B}{z:B}(h:(o.bind λx=>F.bind λy=>f x y)=Y z):∃x y,o=Y x/\F=Y y/\f x y=Y z:=by
 obtain⟨x,h1,h⟩:=cA h;obtain⟨y,h2,h⟩:=cA h;exact⟨x,y,h1,h2,h⟩
def yQ(B:∀ρ d fr,bf C x ρ=Y (d,fr)->∃p q,bf C I ρ=Y p/\bf C O ρ=Y q/\f p.1 q.1=Y (d,fr)) :
  ∀σ H Q,gE X.K C x σ H Q->Nm (gB X.K f) (gE X.K C I) (gE X.K C O) σ H Q:=λσ H Q j=>by
 refine ac λ_ e=>?_;obtain⟨ρ,d,fr,h,F,g,R,k⟩:=j;obtain⟨⟨E,l⟩,⟨i,m⟩,h1,h2,h3⟩:=B ρ d fr h;refine e ?_;exact ⟨ρ,E,l,h1,F,g,R,λv F1 D a n _=>⟨ρ,i,m,h2,F1,a.good,R.mono a.ff,λw o G b r _=>⟨E,i,d,fr,h3,o,b.good,n.mono b.ff,r,λu s t c y A=>k u s t ((a.trans b).trans c) y λz=>(A z).back (F:=F) (a.hh.trans b.hh)⟩⟩⟩
def UA(ho:j8 X (binaryOp op) (gB X.K (gQ o)))(ha:SE X C a g)(hb:SE X C b B):SE X C (.BinOp a op b pos) (.bin o g B):=
 PE.imp (RG ho ha hb) (yQ λc d fr h=>Cp h)
def rJ(o:Z8)(x y:Dat):g_:=(jM o x y).map λr=>(.bl r,J)
def Ux(ho:j8 X (compareOp op) (gB X.K (rJ o)))(ha:SE X C a g)(hb:SE X C b F)(B:behindInMarks op b=J):SE X C (.Compare a [op] [b] pos) (.cmp o g F):=
 PE.imp (Pg ho ha hb B) (yQ λc d fr h=>Cp h)
def Tx(ho:j8 X (compareOp op) (gB X.K (rJ o)))(ha:SE X C a I)(hb:SE X C b O)(B:behindInMarks op b=J):ST X C (.Compare a [op] [b] pos) (.cmp o I O):=
 PT.imp (O8 ho ha hb B) λσ H Q c=>by
  refine ac λ_ e=>?_;obtain⟨l,d,fr,b,h,hb,F,g,R,k⟩:=c;refine e ?_;refine yQ (x:=.cmp o I O) (f:=rJ o) (λl d fr h=>Cp h) σ H _ ⟨l,d,fr,h,F,g,R,λv F1 i st r _=>?_⟩;refine ac λ_ e=>?_;obtain⟨p,q,_,_,h3⟩:=Cp h;obtain⟨z,_,j⟩:=ee h3;cases j;cases hb;refine e ?_;exact⟨_,r,k F1 i st⟩
def Yp(B:Xn X (gB X.K λx y=>(x5 x y).map λd=>(d,J)))(ha:SE X C a g)(hb:SE X C b F)(hs:zZ b):SE X C (.Subscript a b pos) (.ix g F):=
 PE.imp (Bc B ha hb hs) (yQ λc d fr h=>Cp h)
def Uo(ha:SE X C a B):SE X C (.UnaryOp .USub a pos) (.neg B):=
 PE.imp (YI SV ha) λσ H Q c=>by
  refine ac λ_ e=>?_;obtain⟨n,d,fr,h,F,g,R,k⟩:=c;obtain⟨⟨m,f⟩,h1,h⟩:=cA h;refine e ?_;refine⟨n,m,f,h1,F,g,R,λv F1 j b l _=>?_⟩
  cases m with
  |int i=>cases h;exact⟨i,l,k _ F1 j b W be⟩
  |_=>cases h
set_option tactic.hygienic true in
def EU{K:Fg}{F H:Hp}{d:Dat}{v:V}{b:Bool}(g:Good F H)(r:Rep K F d v)(h:fV d=Y b):Xi K v H b:=by
 cases d with
 |non=>rw[r];cases h;exact rfl
 |bl c=>rw[r];cases h;exact rfl
 |int i=>rw[r];cases h;exact rfl
 |str x=>
   rw[r];simp only[fV]at h;split at h
   .rename_i a;cases h;exact⟨a,W⟩
   .cases h
 |tup f=>
   obtain⟨p,vs,rfl,t,r⟩:=r;cases h
   have e:(!f.isEmpty)=!vs.isEmpty:=by
    have:=r.length
    cases f<;>cases vs<;>first|rfl|cases this
   rw[e];exact .inr (.inl ⟨vs,(t.mono g.sub).sq,W⟩)
 |lst f=>
   obtain⟨p,vs,rfl,t,r⟩:=r;cases h
   have e:(!f.isEmpty)=!vs.isEmpty:=by
    have:=r.length
    cases f<;>cases vs<;>first|rfl|cases this
   rw[e];exact .inl ⟨vs,g.sub.seq t,W⟩
 |any=>cases h
 |dct k f=>
   obtain⟨p,j,rfl,t,l,r⟩:=r;cases h
   have e:(!k.isEmpty)=!j.isEmpty:=by
    rw[<-l];cases j<;>rfl
   rw[e];exact .inr (.inr ⟨j,g.sub _ _ t,W⟩)
def lg(h:SE X C e B)(he:∀whole,isTrue e X.env whole=(do let v <-whole;standAt e.pos;holding [v] (truthy v)):=by intro _;rfl):ST X C e B:=
 PT.imp (KG h he) λσ H Q z=>by obtain⟨i,d,fr,b,h,hb,F,g,R,k⟩:=z;exact⟨i,d,fr,h,F,g,R,λv F1 c a f _=>⟨b,EU a.good f hb,k F1 c a⟩⟩
abbrev SW(X:Cx)(C:Fs)(e:ba)(x:Ex):Prop:=PW X e (gT X.K C x)
def Ob(ha:ST X C a g):SW X C (.BoolOp .And [a] pos) g:=O5 ha
def Tc(ha:ST X C a g):SW X C (.BoolOp .Or [a] pos) g:=UN ha
def PW.imp(h:PW X e t)(f:∀σ H Q,t' σ H Q->t σ H Q):PW X e t':=λa h_ s σ H Q I q=>h a h_ s σ H Q I (f _ _ _ q)
def Te{rest:List ba}(ha:ST X C a B)(hb:SW X C (.BoolOp .And (b::rest) pos) I):SW X C (.BoolOp .And (a::b::rest) pos) (.and B I):=
 PW.imp (UO ha hb) λσ H Q n=>by
  refine ac λ_ e=>?_;obtain⟨p,d,fr,z,h,j,F,g,R,k⟩:=n;obtain⟨⟨q,l⟩,h1,h⟩:=cA h
  refine e ?_;cases q with
  |bl c=>
    cases c with
    |true=>exact⟨p,_,l,U,h1,W,F,g,R,λF1 m f=>by
      exact DV ⟨p,d,fr,z,h,j,F1,f.good,R.mono f.ff,λo r i=>k o r (f.trans i)⟩⟩
    |false=>
      cases h;cases j
      exact⟨p,_,l,J,h1,W,F,g,R,λF1 m f=>by
       exact DW (k F1 m f)⟩
  |_=>cases h
def X8{rest:List ba}(ha:ST X C a B)(hb:SW X C (.BoolOp .Or (b::rest) pos) I):SW X C (.BoolOp .Or (a::b::rest) pos) (.or B I):=
 PW.imp (YD ha hb) λσ H Q n=>by
  refine ac λ_ e=>?_;obtain⟨p,d,fr,z,h,j,F,g,R,k⟩:=n;obtain⟨⟨q,l⟩,h1,h⟩:=cA h
  refine e ?_;cases q with
  |bl c=>
    cases c with
    |false=>exact⟨p,_,l,J,h1,W,F,g,R,λF1 m f=>by
      exact DW ⟨p,d,fr,z,h,j,F1,f.good,R.mono f.ff,λo r i=>k o r (f.trans i)⟩⟩
    |true=>
      cases h;cases j
      exact⟨p,_,l,U,h1,W,F,g,R,λF1 m f=>by
       exact DV (k F1 m f)⟩
  |_=>cases h
def Tw(ha:ST X C a B):ST X C (.UnaryOp .Not a pos) (.not B):=
 PT.imp (UQ ha) λσ H Q b=>by
  refine ac λ_ e=>?_;obtain⟨j,d,fr,z,h,c,F,g,R,k⟩:=b;obtain⟨⟨l,f⟩,h1,h⟩:=cA h;obtain⟨i,hb,h⟩:=ee h;cases h;cases c;refine e ?_;exact⟨j,l,f,i,h1,hb,F,g,R,k⟩
def Ff{op}(ha:SE X C a g):SE X C (.BoolOp op [a] pos) g:=UY ha
def UB{rest:List ba}(ha:SE X C a B)(hb:SE X C (.BoolOp .And (b::rest) pos) I):SE X C (.BoolOp .And (a::b::rest) pos) (.and B I):=
 PE.imp (U3 ha hb) λσ H Q j=>by
  refine ac λ_ e=>?_;obtain⟨r,d,fr,h,F,g,R,k⟩:=j;obtain⟨⟨s,l⟩,h1,h⟩:=cA h
  refine e ?_;cases s with
  |bl c=>
    refine⟨r,_,l,h1,F,g,R,λv F1 m f n _=>⟨c,n,?_⟩⟩
    cases c with
    |true=>
      exact DV ⟨r,d,fr,h,F1,f.good,R.mono f.ff,λv o t i p q=>k v o t (f.trans i) p λz=>(q z).back (F:=F) f.hh⟩
    |false=>
      cases h;exact DW (k _ F1 m f W be)
  |_=>cases h
def Yl{rest:List ba}(ha:SE X C a B)(hb:SE X C (.BoolOp .Or (b::rest) pos) I):SE X C (.BoolOp .Or (a::b::rest) pos) (.or B I):=
 PE.imp (YJ ha hb) λσ H Q j=>by
  refine ac λ_ e=>?_;obtain⟨r,d,fr,h,F,g,R,k⟩:=j;obtain⟨⟨s,l⟩,h1,h⟩:=cA h
  refine e ?_;cases s with
  |bl c=>
    refine⟨r,_,l,h1,F,g,R,λv F1 m f n _=>⟨c,n,?_⟩⟩
    cases c with
    |false=>
      exact DW ⟨r,d,fr,h,F1,f.good,R.mono f.ff,λv o t i p q=>k v o t (f.trans i) p λz=>(q z).back (F:=F) f.hh⟩
    |true=>
      cases h;exact DV (k _ F1 m f W be)
  |_=>cases h
def Ut{Jo:ba}(hc:ST X C Jo B)(ha:SE X C a I)(hb:SE X C b O):SE X C (.IfExp Jo a b pos) (.ite B I O):=
 PE.imp (K2 hc ha hb) λσ H Q m=>by
  refine ac λ_ e=>?_;obtain⟨q,d,fr,h,F,g,R,k⟩:=m;obtain⟨⟨s,n⟩,h1,h⟩:=cA h;obtain⟨z,o,h⟩:=cA h;refine e ?_;refine⟨q,s,n,z,h1,o,F,g,R,λF1 p c=>?_⟩
  cases z with
  |true=>
    exact DV ⟨q,d,fr,h,F1,c.good,R.mono c.ff,λv i r f j l=>k v i r (c.trans f) j λz=>(l z).back (F:=F) c.hh⟩
  |false=>
    exact DW ⟨q,d,fr,h,F1,c.good,R.mono c.ff,λv i r f j l=>k v i r (c.trans f) j λz=>(l z).back (F:=F) c.hh⟩
def nV:SA X C [] []:=PA.imp vA λσ H Q a=>by
 obtain⟨b,c,h,F,g,R,k⟩:=a;cases h;exact k [] F H (Step.refl g) W
def jB(ha:SE X C e B)(O:SA X C es xs)(hs:aO (e::es) X.env=(J,eval e X.env)::aO es X.env):SA X C (e::es) (B::xs):=
 PA.imp (mN ha O hs) λσ H Q c=>by
  refine ac λ_ m=>?_;obtain⟨n,p,h,F,g,R,k⟩:=c;obtain⟨⟨d,fr⟩,h1,h⟩:=cA h;obtain⟨r,h2,h⟩:=ee h;cases h;refine m ?_;exact⟨n,d,fr,h1,F,g,R,λv F1 l a f _=>⟨n,r,h2,F1,a.good,R.mono a.ff,λvs i o b j=>k _ i o (a.trans b) ⟨v,vs,W,f.mono b.ff,j⟩⟩⟩
def n6(h:n<=1000000):n<=aE:=by exact aa h bR
def Kb:SF X C [] []:=PA.imp vA λσ H Q b=>by
 obtain⟨c,d,al,h,F,g,R,k⟩:=b;cases h;exact k [] F H (Step.refl g) W λ_=>⟨[],dT,(λa z=>by cases z),W,W⟩
def Fb(ha:SE X C e B)(O:SF X C es xs)(hs:aO (e::es) X.env=(J,eval e X.env)::aO es X.env):SF X C (e::es) (B::xs):=
 PA.imp (mN ha O hs) λσ H Q i=>by
  refine ac λ_ q=>?_;obtain⟨s,u,al,h,F,g,R,k⟩:=i;obtain⟨⟨d,fr⟩,h1,h⟩:=cA h;obtain⟨⟨r,j⟩,h2,h⟩:=ee h;cases h;refine q ?_;refine⟨s,d,fr,h1,F,g,R,λv F1 p a f l=>⟨s,r,j,h2,F1,a.good,R.mono a.ff,λvs m t b n o=>k _ m t (a.trans b) ⟨v,vs,W,f.mono b.ff,n⟩ λz=>?_⟩⟩;simp only[ag,lM]at z;refine fD.cons a.hh b.hh ?_ (o z.2)
  rcases z.1 with c|c
  .exact l c
  .exact .kQ a.good c f
set_option tactic.hygienic true
def Uk{x1}(h:SF X C es xs):SE X C (.Tuple es x1 pos) (.tup xs):=
 PE.imp (UW h) λσ H Q c=>by
  refine ac λ_ e=>?_;obtain⟨l,d,fr,h,F,g,R,k⟩:=c;obtain⟨⟨m,al⟩,h1,h⟩:=cA h;refine e ?_;dsimp only at h;split at h
  .rename_i f;cases h;exact ⟨l,m,_,h1,F,g,R,λvs F1 j a b i=>⟨by rw[b.length];exact n6 f,λp hp=>k _ _ _ (a.trans (Step.alloc a.good hp)) ⟨p,vs,W,.inl cW,b.mono (cc.upd (a.good.sub.free hp))⟩ λz=>.tup hp (i z)⟩⟩
  .cases h
def Ur(h:SF X C es xs):SE X C (.List es pos) (.lst xs):=
 PE.imp (U0 h) λσ H Q c=>by
  refine ac λ_ e=>?_;obtain⟨j,d,fr,h,F,g,R,k⟩:=c;obtain⟨⟨m,al⟩,h1,h⟩:=cA h;refine e ?_;dsimp only at h;split at h
  .rename_i f;cases h;refine⟨j,m,_,h1,F,g,R,λvs F1 l a b i=>⟨by rw[b.length];exact n6 f,λp hp=>?_⟩⟩;exact k _ _ _ (a.trans (Step.alloc a.good hp)) ⟨p,vs,W,.inl (.inl cW),(b.mono (cc.upd (o:=.lst vs) (a.good.sub.free hp)))⟩ λz=>.lst a.hh hp (i z)
  .cases h
set_option tactic.hygienic false
def oB(K:Fg)(n:Nat)(f:List Dat->g_):Sp:=λvs H Q _=>Z vs=n/\gL K f vs H Q
def pW(B:∀ρ d fr,bf C x ρ=Y (d,fr)->∃ds,lI C xs ρ=Y ds/\f ds=Y (d,fr)) :
  ∀σ H Q,gE X.K C x σ H Q->tCB (gL X.K f) (gA X.K C xs) σ H Q:=λσ H Q c=>by
 refine ac λ_ e=>?_;obtain⟨ρ,d,fr,h,F,g,R,k⟩:=c;obtain⟨ds,h1,h2⟩:=B ρ d fr h;refine e ?_;refine⟨ρ,ds,h1,F,g,R,λvs F1 n a i=>⟨ds,d,fr,h2,F1,a.good,i,λv j o b l m=>k v j o (a.trans b) l λz=>(m z).back (F:=F) a.hh⟩⟩
theorem l8:∀{xs:List Ex}{ρ:ic}{ds:List Dat},lI C xs ρ=Y ds->Z ds=Z xs
 |[],ρ,ds,h=>by cases h;rfl
 |x::xs,ρ,ds,h=>by
   obtain⟨d,_,h⟩:=cA h;obtain⟨r,h2,h⟩:=ee h;cases h;rw[bM,bM,l8 h2]
def OL(j n:Nat)(G:lK X.prog X.w X.K X.mg X.base yA k f fd ps (oB X.K n (C j)))(I:lJ k X.A)(S:Gl X x)(hm:X.mg x=Y (.ref f))(hk:eY X.K (.ref f)=U)(hb:Binds X.K fd ps [])
  (ha:SA X C (e::es) (B::xs))(hn:Z (B::xs)=n)(O:(x == ("__debug__":aW))=J)(he:aO (e::es) X.env=(J,eval e X.env)::aO es X.env)(P:(backTo pos (aO es X.env)).any (·.1)=J) :
  SE X C (.Call (.Name x p) (e::es) [] pos) (.call j (B::xs)):=
 PE.imp (FE G I S hm hk hb .nil K5 ha O he P) λσ H Q h=>by
  refine ac λ_ i=>?_;obtain⟨l,m,h1,F,g,R,k⟩:=(pW (x:=.call j _) (λl d fr h=>cA h) σ H Q h);refine i ?_;refine⟨l,m,h1,F,g,R,λvs F1 b a c=>?_⟩;show oB _ n _ _ b Q E0;rw[aI];exact⟨by rw[c.length,l8 h1,hn],k vs F1 b a c⟩
def Fe{g:String}(hc:ko X (.builtin g) (gL X.K (jq I)))(F:Gl X x)(P:X.mg x=L)(R:bootBuiltins x=Y (.builtin g))(ha:SA X C (e::es) xs)(S:x≠"__name__")(B:(x == ("__debug__":aW))=J)
  (he:aO (e::es) X.env=(J,eval e X.env)::aO es X.env)(O:(backTo pos (aO es X.env)).any (·.1)=J):SE X C (.Call (.Name x p) (e::es) [] pos) (.blt I xs):=
 PE.imp (qY hc F P R ha S B he O) (pW λa d fr h=>cA h)
def zf{T:String}(hc:ko X (.type T) (gL X.K (jq I)))(g:Gl X x)(F:X.mg x=L)(P:bootBuiltins x=Y (.type T))(ha:SA X C (e::es) xs)(R:x≠"__name__")(B:(x == ("__debug__":aW))=J)
  (he:aO (e::es) X.env=(J,eval e X.env)::aO es X.env)(O:(backTo pos (aO es X.env)).any (·.1)=J):SE X C (.Call (.Name x p) (e::es) [] pos) (.blt I xs):=
 PE.imp (Ia hc g F P ha R B he O) (pW λa d fr h=>cA h)
end
section
variable{a b:ba}{xs:List Ex}{s:ai}
theorem lN:∀{n:Nat}{ds:List Dat}{j:Nat}{d:Dat},eU n ds=U->ds[j]?=Y d->iY n d=U
 |_,[],_,_,_,e=>by simp at e
 |n,x::xs,0,d,h,e=>by
   simp only[eU,ag]at h;simp at e;subst e;exact h.1
 |n,x::xs,j+1,d,h,e=>by
   simp only[eU,ag]at h;exact lN h.2 (by simpa using e)
theorem qz:∀xs g:List Dat,oN xs g=((aQ (min xs.length g.length)).all (λj=>pE (xs.getD j .non) (g.getD j .non)) && Z xs == Z g)
 |[],[]=>by simp[oN]
 |[],y::g=>by simp[oN]
 |x::xs,[]=>by simp[oN]
 |x::xs,y::g=>by
   have h:=qz xs g;simp only[oN,bM,Nat.succ_min_succ,Nat.succ_eq_add_one];rw[h,List.range_succ_eq_map,dU];simp[Function.comp_def,Rt]
def _root_.L2.Inv.lstR{a:aL}{vs:List V}(I:Inv X h_ σ H s)(g:Good F H)(h:ng X.K F a vs):∃its:List ah,cV vs its/\PlainL s.heap a its.toArray/\Z vs<=aE:=I.list (g.sub.seq h)
def _root_.L2.Inv.tupR{a:aL}{vs:List V}(I:Inv X h_ σ H s)(g:Good F H)(h:Tq X.K F a vs):∃its:List ah,cV vs its/\Af s.heap a its.toArray/\Z vs<=aE:=I.tuple (h.mono g.sub).sq
def _root_.L2.Inv.noLT{a:aL}{vs ws:List V}(I:Inv X h_ σ H s)(g:Good F H)(h:ng X.K F a vs)(B:Tq X.K F a ws):False:=by
 obtain⟨j,_,⟨o,n,e,c,_⟩,_⟩:=I.lstR g h;obtain⟨d,_,⟨k,f,i,_⟩,_⟩:=I.tupR g B
 grind
mutual
noncomputable def vE:Dat->Bool
 |.dct _ _=>J
 |.any=>J
 |.tup xs=>mZ xs
 |.lst xs=>mZ xs
 |_=>U
noncomputable def mZ:List Dat->Bool
 |[]=>U
 |x::xs=>vE x && mZ xs
end
mutual
theorem pk:∀(n:Nat)(d:Dat),iY n d=U->vE d=U
 |n,.non,_=>rfl
 |n,.bl _,_=>rfl
 |n,.int _,_=>rfl
 |n,.str _,_=>rfl
 |0,.tup _,h=>by simp[iY]at h
 |0,.lst _,h=>by simp[iY]at h
 |n+1,.tup xs,h=>sE n xs (by simpa [iY]using h)
 |n+1,.lst xs,h=>sE n xs (by simpa [iY]using h)
 |n,.dct _ _,h=>by cases n<;>simp[iY]at h
 |n,.any,h=>by cases n<;>simp[iY]at h
theorem sE:∀(n:Nat)(ds:List Dat),eU n ds=U->mZ ds=U
 |n,[],_=>rfl
 |n,d::ds,h=>by
   have c:iY n d=U/\eU n ds=U:=by cases n<;>simpa [eU]using h
   simp only[mZ,pk n d c.1,sE n ds c.2,qO]
end
mutual
theorem zh(I:Inv X h_ σ H s)(g:Good F H):∀(C B:Dat){x:V},vE C=U->vE B=U->Rep X.K F C x->Rep X.K F B x->C=B
 |.non,B,x,j,e,d,c=>by
   rw[d]at c
   cases B<;>first|(cases c;done)|(cases c;rfl)|(obtain⟨_,_,z,_⟩:=c;cases z)|exact nomatch e
 |.bl b,B,x,j,e,d,c=>by
   rw[d]at c
   cases B<;>first|(cases c;done)|(cases c;rfl)|(obtain⟨_,_,z,_⟩:=c;cases z)|exact nomatch e
 |.int b,B,x,j,e,d,c=>by
   rw[d]at c
   cases B<;>first|(cases c;done)|(cases c;rfl)|(obtain⟨_,_,z,_⟩:=c;cases z)|exact nomatch e
 |.str b,B,x,j,e,d,c=>by
   rw[d]at c
   cases B<;>first|(cases c;done)|(cases c;rfl)|(obtain⟨_,_,z,_⟩:=c;cases z)|exact nomatch e
 |.dct _ _,_,_,j,_,_,_=>nomatch j
 |.any,_,_,j,_,_,_=>nomatch j
 |.tup m,B,x,j,e,i,c=>by
   obtain⟨p,vs,rfl,t,r⟩:=i;cases B with
   |tup l=>
     obtain⟨q,us,f,k,h⟩:=c;cases f;have ev :=I.pP (t.mono g.sub).sq (k.mono g.sub).sq;subst ev;rw[vn I g m l j e r h]
   |lst l=>
     obtain⟨q,us,f,k,h⟩:=c;cases f;exact(I.noLT g k t).elim
   |dct _ _=>exact nomatch e
   |any=>exact nomatch e
   |_=>cases c
 |.lst m,B,x,j,e,i,c=>by
   obtain⟨p,vs,rfl,t,r⟩:=i;cases B with
   |lst l=>
     obtain⟨q,us,f,k,h⟩:=c;cases f;have ev :=I.pv (g.sub.seq t) (g.sub.seq k);subst ev;rw[vn I g m l j e r h]
   |tup l=>
     obtain⟨q,us,f,k,h⟩:=c;cases f;exact(I.noLT g t k).elim
   |dct _ _=>exact nomatch e
   |any=>exact nomatch e
   |_=>cases c
theorem vn(I:Inv X h_ σ H s)(g:Good F H):∀(ds es:List Dat){vs:List V},mZ ds=U->mZ es=U->cX X.K F ds vs->cX X.K F es vs->ds=es
 |[],es,vs,o,p,h,n=>by
   rw[show vs=[]from h]at n
   cases es with
   |nil=>rfl
   |cons _ _=>obtain⟨_,_,z,_⟩:=n;cases z
 |d::ds,es,vs,o,p,j,n=>by
   obtain⟨v,r,e,h1,h2⟩:=j;subst e
   cases es with
   |nil=>exact nomatch (show v::r=[]from n)
   |cons f fs=>
     obtain⟨l,m,k,c,i⟩:=n;cases k;simp only[mZ,ag]at o p;rw[zh I g d f o.1 p.1 h1 c,vn I g ds fs o.2 p.2 h2 i]
end
mutual
theorem B0:∀d,vE d=U->pE d d=U
 |.non,_=>rfl
 |.bl _,_=>by simp[pE]
 |.int _,_=>by simp[pE]
 |.str _,_=>by simp[pE]
 |.tup c,h=>sX c h
 |.lst c,h=>sX c h
 |.dct _ _,h=>nomatch h
 |.any,h=>nomatch h
theorem sX:∀ds,mZ ds=U->oN ds ds=U
 |[],_=>rfl
 |d::ds,h=>by
   simp only[mZ,ag]at h;simp only[oN,ag];exact⟨B0 d h.1,sX ds h.2⟩
end
def Kw(I:Inv X h_ σ H s)(g:Good F H)(P B:Dat)(S:vE P=U)(R:vE B=U)(O:Rep X.K F P x)(C:Rep X.K F B x):pE P B=U:=by
 rw[zh I g P B S R O C];exact B0 _ R
def ER(r:cV vs its)(h:j<its.toArray.size):∃v,vs[j]?=Y v/\RelV v its.toArray[j]:=by
 have hl:=r.length;have c:j<Z vs:=by simp_all
 obtain⟨u,e,d⟩:=r.get (af c);refine⟨_,af c,?_⟩
 have:its.toArray[j]=u:=by
  have f:j<Z its:=by simpa using h
  simp_all
 rwa[this]
def Vp(h:iY n .any=U):False:=by
 cases n<;>simp[iY]at h
def Vo(h:iY n (.dct g vs)=U):False:=by
 cases n<;>simp[iY]at h
inductive Vw (s:ai):Dat->ah->Prop
 |non:Vw s .non .none
 |bl (b:Bool):Vw s (.bl b) (.bool b)
 |int (i:Int) (t:Ha):Vw s (.int i) (.int i t)
 |str (x:aW) (t:Ha):Vw s (.str x) (.str x t)
 |tup {ds:List Dat} {p:aL} {its:Array ah}:s.heap.IsTuple p its->Vw s (.tup ds) (.ref p)
 |lst {ds:List Dat} {p:aL} {its:Array ah}:s.heap.IsList p its->Vw s (.lst ds) (.ref p)
def vw(I:Inv X h_ σ H s)(g:Good F H)(sa:iY n C=U)(B:Rep X.K F C x)(O:RelV x u):Vw s C u:=by
 cases C with
 |non=>cases B;rw[O];exact .non
 |bl b=>cases B;rw[O];exact .bl b
 |int i=>cases B;obtain⟨t,rfl⟩:=O;exact .int i t
 |str z=>cases B;obtain⟨t,rfl⟩:=O;exact .str z t
 |tup e=>
   obtain⟨p,vs,rfl,t,r⟩:=B;obtain⟨d,c,pl,_⟩:=I.tupR g t;rw[O];exact .tup pl
 |lst e=>
   obtain⟨p,vs,rfl,t,r⟩:=B;obtain⟨d,c,pl,_⟩:=I.lstR g t;rw[O];exact .lst pl.isList
 |dct _ _=>exact(Vo sa).elim
 |any=>exact(Vp sa).elim
noncomputable def isT:Dat->Bool
 |.tup _=>U
 |_=>J
noncomputable def Qk:Dat->Bool
 |.lst _=>U
 |_=>J
def M5(a b:Dat):Bool:=match a with
 |.tup _=>isT b
 |.lst _=>Qk b
 |_=>J
def Eq3(A:bT)(s:ai)(u w:ah)(b:Bool):Prop:=Hd A s u w b/\Hc A s u w b/\As A s u w (!b)
def Ms{A:bT}(B:A.units<dR)(a:Vw s g u)(b:Vw s db w)(h:M5 g db=J):Eq3 A s u w (pE g db):=by
 cases a with
 |non=>
   cases b with
   |non=>exact⟨.same _,.none_none,.none_none⟩
   |bl _=>exact⟨.none_bool _,.none_bool _,.none_bool _⟩
   |int _ _=>exact⟨.none_int _ _,.none_int _ _,.none_int _ _⟩
   |str _ _=>exact⟨.none_str _ _,.none_str _ _,.none_str _ _⟩
   |tup q=>exact⟨.none_tuple q B,.none_tuple q B,.none_tuple q B⟩
   |lst q=>exact⟨.none_list q B,.none_list q B,.none_list q B⟩
 |bl _=>
   cases b with
   |non=>exact⟨.bool_none _,.bool_none _,.bool_none _⟩
   |bl _=>exact⟨.bool_bool _ _,.bool_bool _ _,.bool_bool _ _⟩
   |int _ _=>exact⟨.bool_int _ _ _,.bool_int _ _ _,.bool_int _ _ _⟩
   |str _ _=>exact⟨.bool_str _ _ _,.bool_str _ _ _,.bool_str _ _ _⟩
   |tup q=>exact⟨.bool_tuple _ q B,.bool_tuple _ q B,.bool_tuple _ q B⟩
   |lst q=>exact⟨.bool_list _ q B,.bool_list _ q B,.bool_list _ q B⟩
 |int _ _=>
   cases b with
   |non=>exact⟨.int_none _ _,.int_none _ _,.int_none _ _⟩
   |bl _=>exact⟨.int_bool _ _ _,.int_bool _ _ _,.int_bool _ _ _⟩
   |int _ _=>exact⟨.int_int _ _ _ _,.int_int _ _ _ _,.int_int _ _ _ _⟩
   |str _ _=>exact⟨.int_str _ _ _ _,.int_str _ _ _ _,.int_str _ _ _ _⟩
   |tup q=>exact⟨.int_tuple _ _ q B,.int_tuple _ _ q B,.int_tuple _ _ q B⟩
   |lst q=>exact⟨.int_list _ _ q B,.int_list _ _ q B,.int_list _ _ q B⟩
 |str _ _=>
   cases b with
   |non=>exact⟨.str_none _ _,.str_none _ _,.str_none _ _⟩
   |bl _=>exact⟨.str_bool _ _ _,.str_bool _ _ _,.str_bool _ _ _⟩
   |int _ _=>exact⟨.str_int _ _ _ _,.str_int _ _ _ _,.str_int _ _ _ _⟩
   |str _ _=>exact⟨.str_str _ _ _ _,.str_str _ _ _ _,.str_str _ _ _ _⟩
   |tup q=>exact⟨.str_tuple _ _ q B,.str_tuple _ _ q B,.str_tuple _ _ q B⟩
   |lst q=>exact⟨.str_list _ _ q B,.str_list _ _ q B,.str_list _ _ q B⟩
 |tup p=>
   cases b with
   |non=>exact⟨.tuple_none p B,.tuple_none p B,.tuple_none p B⟩
   |bl _=>exact⟨.tuple_bool _ p B,.tuple_bool _ p B,.tuple_bool _ p B⟩
   |int _ _=>exact⟨.tuple_int _ _ p B,.tuple_int _ _ p B,.tuple_int _ _ p B⟩
   |str _ _=>exact⟨.tuple_str _ _ p B,.tuple_str _ _ p B,.tuple_str _ _ p B⟩
   |tup q=>cases h
   |lst q=>exact⟨.tuple_list p q B,.tuple_list p q B,.tuple_list p q B⟩
 |lst p=>
   cases b with
   |non=>exact⟨.list_none p B,.list_none p B,.list_none p B⟩
   |bl _=>exact⟨.list_bool _ p B,.list_bool _ p B,.list_bool _ p B⟩
   |int _ _=>exact⟨.list_int _ _ p B,.list_int _ _ p B,.list_int _ _ p B⟩
   |str _ _=>exact⟨.list_str _ _ p B,.list_str _ _ p B,.list_str _ _ p B⟩
   |tup q=>exact⟨.list_tuple p q B,.list_tuple p q B,.list_tuple p q B⟩
   |lst q=>cases h
def v3(I:Inv X h_ σ H s)(g:Good F H):∀(n:Nat) (A:bT) (da B:Dat) {x y:V} {u w:ah},A.units+n<dR->iY n da=U->iY n B=U->Rep X.K F da x->Rep X.K F B y->RelV x u->RelV y w->
  Eq3 A s u w (pE da B):=by
 intro n
 induction n with
 |zero=>
   intro A da B x y u w E sa i k l C D;exact Ms E (vw I g sa k C) (vw I g i l D) (by cases da<;>first|rfl|(cases sa;done))
 |succ n S=>
   intro A da B x y u w E sa i k l C D;have c :=ao (aX _ _) E;by_cases hk:M5 da B=J
   .exact Ms c (vw I g sa k C) (vw I g i l D) hk
   have items:∀{ds es:List _} {vs us:List V} {its f:List ah},eU n ds=U->eU n es=U->cX X.K F ds vs->cX X.K F es us->cV vs its->cV us f->
     (∀j(h1:j<its.toArray.size)(h2:j<f.toArray.size),Hd A.in1 s its.toArray[j] f.toArray[j] (pE (ds.getD j .non) (es.getD j .non)))/\its.toArray.size=Z ds/\f.toArray.size=Z es:=by
    intro ds es vs us its f s1 s2 J' L' m o;refine⟨λj h1 h2=>?_,by rw[bC,<-m.length,J'.length],by rw[bC,<-o.length,L'.length]⟩;refine ac λ_ a=>?_;obtain⟨v,e1,T⟩:=ER m h1;obtain⟨v',e2,U'⟩:=ER o h2;have M:j<Z ds:=by have:=J'.length;have:=(aN.mp e1).1;omega
    have N:j<Z es:=by have:=L'.length;have:=(aN.mp e2).1;omega
    obtain⟨z1,P,G⟩:=J'.get (af M);obtain⟨z2,Q,a5⟩:=L'.get (af N);refine a ?_;rw[e1]at P;cases P;rw[e2]at Q;cases Q;have c0:ds.getD j .non=ds[j]:=by simp[List.getD,M]
    have g2:es.getD j .non=es[j]:=by simp[List.getD,N]
    rw[c0,g2];exact(S _ _ _ (by grind) (lN s1 (af M)) (lN s2 (af N)) G a5 T U').1
   have both:∀{p q:aL},x=.ref p->y=.ref q->Hc A s (.ref p) (.ref q) (pE da B)->As A s (.ref p) (.ref q) (!pE da B)->Eq3 A s u w (pE da B):=by
    intro p q e1 e2 h h';subst e1 e2;obtain rfl:u=.ref p:=C;obtain rfl:w=.ref q:=D;refine⟨?_,h,h'⟩;by_cases z:p=q
    .subst z;rw[Kw I g da B (pk _ _ sa) (pk _ _ i) k l];exact .same _
    .exact .of_refs z h
   cases da with
   |tup ds=>
     cases B with
     |tup es=>
       obtain⟨p,vs,rfl,t,r⟩:=id k;obtain⟨its,m,pl,_⟩:=I.tupR g t;obtain⟨q,us,rfl,t',O⟩:=id l;obtain⟨f,o,d,_⟩:=I.tupR g t';obtain⟨hi,e1,e2⟩:=items sa i r O m o;have h1:=SeqAt.RcAt.tuples pl d c hi;have h2:=SeqAt.RcNeAt.tuples pl d c hi;rw[e1,e2,<-qz]at h1 h2;exact both W rfl h1 h2
     |_=>exact absurd rfl hk
   |lst ds=>
     cases B with
     |lst es=>
       obtain⟨p,vs,rfl,t,r⟩:=id k;obtain⟨its,m,pl,_⟩:=I.lstR g t;obtain⟨q,us,rfl,t',O⟩:=id l;obtain⟨f,o,d,_⟩:=I.lstR g t';obtain⟨hi,e1,e2⟩:=items sa i r O m o;have e:=qz ds es;by_cases hsz:its.toArray.size=f.toArray.size
       .have h1:=SeqAt.RcAt.lists pl.isList d.isList hsz c hi;have h2:=SeqAt.RcNeAt.lists pl.isList d.isList hsz c hi;have e3:(Z ds == Z es)=U:=by simp_all
        rw[e3,gR,<-e1,<-e2,<-hsz,Nat.min_self]at e;rw[<-e]at h1 h2;exact both W rfl h1 h2
       .have R:(its.toArray.size != f.toArray.size)=U:=by simpa using hsz
        have h1:=SeqAt.RcAt.lists_lengths pl.isList d.isList R c;have e3:(Z ds == Z es)=J:=by grind
        rw[e3,Bool.and_false]at e;refine both W rfl ?_ ?_
        .show Hc _ _ _ _ (oN ds es);rwa[e]
        .show As _ _ _ _ (!oN ds es);rw[e];exact (SeqAt.RcNeAt.lists_lengths pl.isList d.isList R c)
     |_=>exact absurd rfl hk
   |_=>exact absurd rfl hk
end
section
variable{X:Cx}
def E5 (h:Y (a,b)=Y (g,B)):a=g/\b=B:=by simp_all
def K8:j8 X (binaryOp .Add) (λx y H Q=>∃a b B,x=.ref a/\y=.ref b/\tZ X.K H a []/\tZ X.K H b B/\Q (.ref b) H):=by
 intro h_ s σ H x y v u Q I i j h;refine ac λ_ w=>?_;obtain⟨a,b,B,rfl,rfl,ha,hb,q⟩:=h;cases i;cases j;obtain⟨z,k,l,_⟩:=I.tuple ha;obtain⟨m,t,o,_⟩:=I.tuple hb;cases k;obtain⟨⟨cls,p,data,sl⟩,ho,hc,n,hd⟩:=id l;obtain⟨⟨g,d,data2,yW⟩,c,e,r,f⟩:=id o;subst hc hd e f;refine w ?_;exact wL ⟨_,ho,W⟩ ⟨_,c,W⟩ yF G8 nQ ni (mU _ _) (tuple_addW0 a b _ _ n r p d sl yW W) ⟨ho,c,.ref b,H,I,W,q⟩
set_option tactic.hygienic true
def Pz:j8 X (binaryOp .Add) (gB X.K (gQ .add)):=by
 intro h_ s σ H x y v u Q I c f h;refine ac λ_ E=>?_;obtain⟨da,N,d,fr,h,F,g,j,m,k⟩:=h;refine E ?_;cases da<;>cases N<;>simp only[gQ,M1,reduceCtorEq]at h
 .obtain⟨rfl,rfl⟩:=E5 h;exact Vh h_ s σ H _ _ v u Q I c f ⟨_,_,j,m,k _ F H (Step.refl g) W be⟩
 .split at h
  .rename_i b;obtain⟨rfl,rfl⟩:=E5 h;exact DG h_ s σ H _ _ v u Q I c f ⟨_,_,j,m,b,k _ F H (Step.refl g) W be⟩
  .cases h
 .split at h
  .rename_i xs ys b;refine ac λ_ E=>?_;obtain⟨rfl,rfl⟩:=E5 h;obtain⟨p,vs,rfl,t,r⟩:=j;obtain⟨q,us,rfl,S,a⟩:=m;refine E ?_;by_cases G:vs=[]
   .subst G;have e :=lu r.length.symm;subst e;exact K8 h_ s σ H _ _ v u Q I c f ⟨p,q,us,W,W,(t.mono g.sub).sq,(S.mono g.sub).sq,k _ F H (Step.refl g) ⟨q,us,W,S,a⟩ be⟩
   refine Pw h_ s σ H _ _ v u Q I c f ⟨p,q,vs,us,W,W,(t.mono g.sub).sq,(S.mono g.sub).sq,G,?_,?_,?_⟩
   .rwa[r.length,a.length]
   .intro z;subst z;have e :=lu a.length.symm;refine k _ F H (Step.refl g) ⟨p,vs,W,t,?_⟩ be
    simp_all
   .intro _ l hl;exact k _ _ _ (Step.alloc g hl) ⟨l,_,W,.inl cW,(r.append a).mono (cc.upd (g.sub.free hl))⟩ be
  .cases h
 .split at h
  .rename_i xs ys b;refine ac λ_ E=>?_;obtain⟨rfl,rfl⟩:=E5 h;obtain⟨p,vs,rfl,t,r⟩:=j;obtain⟨q,us,rfl,S,a⟩:=m;obtain⟨T,V,pl,_⟩:=I.lstR g t;obtain⟨w,L',A,_⟩:=I.lstR g S;obtain rfl:v=.ref p:=c;obtain rfl:u=.ref q:=f;obtain⟨⟨cls,O,data,sl⟩,ho,hc,n,hd⟩:=pl.isList;obtain⟨⟨M,B,data2,yW⟩,i,C,P,D⟩:=A.isList;subst hc hd C D;refine E ?_;refine wL ⟨_,ho,W⟩ ⟨_,i,W⟩ noFill_list_add seq_list_add PySem.F.slot_list_add PySem.F.entry_list_add (PySem.F.args_list_add_2 _ _) (list_addW p q _ _ n P O B sl yW (by rwa[bC,bC,<-V.length,<-L'.length,r.length,a.length])) ⟨ho,i,?_⟩;have R:T.toArray++w.toArray=(T++w).toArray:=by simp
   rw[R];exact⟨.ref _,_,I.Y6 (V.append L') (by rwa[aj,r.length,a.length]),W,k _ _ _ (Step.alloc g I.fresh) ⟨_,_,W,.inl (.inl cW),((r.append a).mono (cc.upd (o:=.lst _) (g.sub.free I.fresh)))⟩ λz=>.lst (cc.refl _) I.fresh (.kQ g z (r.append a))⟩
  .cases h
def K9{I:CZ}{o:Xx}{O:Int->Int->Prop}{f:Int->Int->Int}(h:j8 X (binaryOp I) (rI O λi j=>.int (f i j)))
  (hb:∀C B d fr,gQ o C B=Y (d,fr)->∃i j,C=.int i/\B=.int j/\O i j/\d=.int (f i j)/\fr=J):j8 X (binaryOp I) (gB X.K (gQ o)):=
 j8.imp h λx y H Q a=>by
  refine ac λ_ e=>?_;obtain⟨C,B,d,fr,h,F,g,b,c,k⟩:=a;obtain⟨i,j,rfl,rfl,hc,rfl,rfl⟩:=hb C B d fr h;refine e ?_;exact⟨i,j,b,c,hc,k _ F H (Step.refl g) W be⟩
def La{I:CZ}{o:Xx}{f:Int->Int->Int}(h:j8 X (binaryOp I) (O2 λi j=>.int (f i j)))
  (hb:∀C B d fr,gQ o C B=Y (d,fr)->∃i j,C=.int i/\B=.int j/\d=.int (f i j)/\fr=J):j8 X (binaryOp I) (gB X.K (gQ o)):=
 j8.imp h λx y H Q a=>by
  refine ac λ_ e=>?_;obtain⟨C,B,d,fr,h,F,g,b,c,k⟩:=a;obtain⟨i,j,rfl,rfl,rfl,rfl⟩:=hb C B d fr h;refine e ?_;exact⟨i,j,b,c,k _ F H (Step.refl g) W be⟩
def gu9{f:Int->Int->g_}(h:GU f a b=Y r):∃i j,a=.int i/\b=.int j/\f i j=Y r:=by
 cases a with
 |int i=>
   cases b with
   |int j=>exact⟨i,j,W,W,h⟩
   |_=>cases h
 |_=>cases h
def gc9{f:Int->Int->Bool}(h:XM f a b=Y r):∃i j,a=.int i/\b=.int j/\r=f i j:=by
 cases a with
 |int i=>
   cases b with
   |int j=>cases h;exact⟨i,j,W,W,W⟩
   |_=>cases h
 |_=>cases h
def Pj:j8 X (binaryOp .Sub) (gB X.K (gQ .sub)):=La U5 λb a d fr h=>by
 obtain⟨i,j,rfl,rfl,h⟩:=gu9 h;simp_all
def Py:j8 X (binaryOp .BitAnd) (gB X.K (gQ .band)):=La Vg λb a d fr h=>by
 obtain⟨i,j,rfl,rfl,h⟩:=gu9 h;simp_all
def Po:j8 X (binaryOp .Mult) (gB X.K (gQ .mul)):=by
 intro h_ s σ H x y v u Q I a b h;obtain⟨n,i,d,fr,h,F,g,e,f,k⟩:=h;cases n<;>cases i<;>simp only[gQ,M0,reduceCtorEq]at h
 .split at h
  .rename_i c;cases h;exact U8 h_ s σ H _ _ v u Q I a b ⟨_,_,e,f,c,k _ F H (Step.refl g) W be⟩
  .cases h
 .split at h
  .rename_i z j c;cases h;rw[e]at a;rw[f]at b;obtain⟨t,rfl⟩:=a;obtain⟨o,rfl⟩:=b;exact PySem.SB.mul c λl m=>⟨.str _,H,I.tok m,⟨l,W⟩,k _ F H (Step.refl g) W be⟩
  .cases h
def K7:j8 X (binaryOp .FloorDiv) (gB X.K (gQ .fdiv)):=K9 Pu λb a d fr h=>by
 obtain⟨i,j,rfl,rfl,h⟩:=gu9 h;simp_all
def Pp:j8 X (binaryOp .Mod) (gB X.K (gQ .mod)):=K9 U9 λb a d fr h=>by
 obtain⟨i,j,rfl,rfl,h⟩:=gu9 h;simp_all
def Pk:j8 X (binaryOp .RShift) (gB X.K (gQ .shr)):=K9 U6 λb a d fr h=>by
 obtain⟨i,j,rfl,rfl,h⟩:=gu9 h;simp_all
def kC(h:rJ o g db=Y (d,fr)):∃b,jM o g db=Y b/\d=.bl b/\fr=J:=by
 obtain⟨b,h1,h2⟩:=ee h
 grind
def MK{I:CmpOp}{o:Z8}{f:Int->Int->Bool}(h:j8 X (compareOp I) (O2 λi j=>.bl (f i j)))(hb:∀C B b,jM o C B=Y b->∃i j,C=.int i/\B=.int j/\b=f i j):j8 X (compareOp I) (gB X.K (rJ o)):=
 j8.imp h λx y H Q a=>by
  refine ac λ_ l=>?_;obtain⟨C,B,d,fr,h,F,g,c,e,k⟩:=a;obtain⟨b,hd,rfl,rfl⟩:=kC h;obtain⟨i,j,rfl,rfl,rfl⟩:=hb C B b hd;refine l ?_;exact⟨i,j,c,e,k _ F H (Step.refl g) W be⟩
def Va:j8 X (compareOp .Lt) (gB X.K (rJ .lt)):=MK YL λ_ _ _=>gc9
def Vd:j8 X (compareOp .Gt) (gB X.K (rJ .gt)):=MK YM λ_ _ _=>gc9
def Ve(B:X.A.units+20<dR):j8 X (compareOp .Eq) (gB X.K (rJ .eq)):=λh_ s σ H x y v u Q I c e a=>by
 refine ac λ_ l=>?_;obtain⟨m,f,d,fr,h,F,g,i,j,k⟩:=a;obtain⟨b,hd,rfl,rfl⟩:=kC h;refine l ?_;simp only[jM]at hd;split at hd
 .rename_i hs;cases hd;simp only[ag]at hs;exact(v3 I g 20 _ m f B hs.1 hs.2 i j c e).2.1 _ _ _ _ ⟨.bl _,H,I,W,k _ F H (Step.refl g) W be⟩
 .cases hd
set_option tactic.hygienic false
end
structure Ow(K:Fg)(H₀ F H:Hp)(σ:St)(ρ:cY)(Ss:Nat->List aL):Prop where
 own:∀(i:Nat)d,ρ[i]?=Y (Y (d,U))->∃v,σ[i]?=Y (Y v)/\kL K H d v (Ss i)/\(Ss i).Nodup/\∀a∈Ss i,F a=L/\H₀ a=L
 sep:∀(i j:Nat)d d',i≠j->ρ[i]?=Y (Y (d,U))->ρ[j]?=Y (Y (d',U))->∀a∈Ss i,a∉Ss j
structure HZ where
 h:Hp
 z:Option V
instance:Coe HZ Hp:=⟨HZ.h⟩
structure Rl(K:Fg)(Fz:Hp)(H₀:HZ)(F H:Hp)(σ:St)(ρ:cY):Prop where
 step:Step Fz H₀.h F H
 len:Z σ=Z ρ
 val:∀(i:Nat)d,ρ[i]?=Y (Y (d,J))->∃v,σ[i]?=Y (Y v)/\Rep K F d v
 keep:∀d v,ρ[0]?=Y (Y (d,U))->H₀.z=Y v->σ[0]?=Y (Y v)
 ow:∃Ss,Ow K H₀.h F H σ ρ Ss
section
variable{K:Fg}{F:Hp}{H₀:HZ}{σ:St}{ρ:cY}
def N4{i:Nat}{d:Dat}(h:(yP ρ)[i]?=Y (Y d)):ρ[i]?=Y (Y (d,J)):=by
 unfold yP at h;rw[aR]at h
 cases q:ρ[i]? with
 |none=>rw[q]at h;cases h
 |some o=>
   rw[q]at h;cases o with
   |none=>cases (bI h)
   |some z=>
     obtain⟨a,b⟩:=z
     cases b with
     |true=>cases (bI h)
     |false=>cases (bI h);rfl
def Rl.yP(R:Rl K g H₀ F H σ ρ):nJ K F σ (yP ρ):=λi d e=>R.val i d (N4 e)
def Ow.moved(O:Ow K H₀.h F H σ ρ B)(st:Step F H C I):Ow K H₀.h C I σ ρ B where
 own:=λi d e=>by
  obtain⟨v,f,b,g,c⟩:=O.own i d e;refine⟨v,f,b.mono st.hh,g,λa m=>⟨?_,(c a m).2⟩⟩;obtain⟨o,ho,_⟩:=b.ud _ a m;exact st.un a o ho (c a m).1
 sep:=O.sep
def Rl.moved(R:Rl K g H₀ F H σ ρ)(st:Step F H B C):Rl K g H₀ B C σ ρ where
 step:=R.step.trans st
 len:=R.len
 val:=λi d e=>let ⟨v,a,b⟩:=R.val i d e;⟨v,a,b.mono st.ff⟩
 keep:=R.keep
 ow:=let ⟨c,O⟩:=R.ow;⟨c,O.moved st⟩
def FQ(i j:Nat)(f:g_->g_):(ρ.modify i f)[j]?=if i=j then(ρ[j]?).map f else ρ[j]? :=by
 by_cases h:i=j
 .simp_all
 simp_all
def iE(q:(ρ.modify i λo=>o.map λs=>(s.1,J))[j]?=Y (Y (d,b))):(i=j/\b=J/\∃B,ρ[j]?=Y (Y (d,B)))\/(i≠j/\ρ[j]?=Y (Y (d,b))):=by
 rw[FQ]at q;by_cases h:i=j
 .rw[if_pos h]at q;refine .inl ⟨h,?_⟩
  cases z:ρ[j]? with
  |none=>rw[z]at q;cases q
  |some o=>
    rw[z]at q
    cases o with
    |none=>cases q
    |some s=>grind
 .rw[if_neg h]at q;exact .inr ⟨h,q⟩
def Rl.Mh(R:Rl K P H₀ F H σ ρ)(O:Ow K H₀.h F H σ ρ I)(ho:ρ[i]?=Y (Y (d,U))):Rl K P H₀ (fz F H (I i)) H σ (ρ.modify i λo=>o.map λs=>(s.1,J)):=by
 obtain⟨v,D,E,G,B⟩:=O.own i d ho;refine⟨⟨uG R.step.good,R.step.ff.trans (qw R.step.good.sub),R.step.hh,λa o q n=>?_⟩,?_,λj r q=>?_,λr u q=>?_,I,λj r q=>?_,λj k d1 d2 c x y=>?_⟩
 .rw[n9 λm=>?_]
  .exact R.step.un a o q n
  simp_all
 .rw[Ji];exact R.len
 .rcases iE q with⟨rfl,_,C,b⟩|⟨_,b⟩
  .rw[ho]at b;cases b;exact⟨v,D,E.lZ R.step.good d λa m=>m⟩
  .obtain⟨w,e,f⟩:=R.val j r b;exact⟨w,e,f.mono (qw R.step.good.sub)⟩
 .rcases iE q with⟨_,z,_⟩|⟨_,b⟩
  .cases z
  .exact R.keep _ u b
 .rcases iE q with⟨_,z,_⟩|⟨g,b⟩
  .cases z
  .obtain⟨w,e,f,A,t⟩:=O.own j r b;refine⟨w,e,f,A,λa m=>⟨?_,(t a m).2⟩⟩;rw[n9 (O.sep j i r d (cu g) b ho a m)];exact(t a m).1
 .rcases iE x with⟨_,z,_⟩|⟨_,l⟩
  .cases z
  .rcases iE y with⟨_,z,_⟩|⟨_,p⟩
   .cases z
   .exact O.sep j k d1 d2 c l p
def Rl.Qs(R:Rl K C H₀ F H σ ρ)(i:Nat):∃B,cc F B/\Rl K C H₀ B H σ (ρ.modify i λo=>o.map λs=>(s.1,J)):=by
 obtain⟨n,O⟩:=R.ow;by_cases ho:∃d,ρ[i]?=Y (Y (d,U))
 .obtain⟨d,ho⟩:=ho;exact⟨_,qw R.step.good.sub,R.Mh O ho⟩
 .refine⟨F,cc.refl _,⟨R.step,by rw[Ji];exact R.len,λj m q=>?_,λm f q=>?_,n,λj m q=>?_,λj k d1 d2 b g h=>?_⟩⟩
  .rcases iE q with⟨rfl,_,l,a⟩|⟨_,a⟩
   .cases l with
    |true=>exact absurd ⟨_,a⟩ ho
    |false=>exact R.val _ m a
   .exact R.val j m a
  .rcases iE q with⟨_,z,_⟩|⟨_,a⟩
   .cases z
   .exact R.keep _ f a
  .rcases iE q with⟨_,z,_⟩|⟨_,a⟩
   .cases z
   .exact O.own j m a
  .rcases iE g with⟨_,z,_⟩|⟨_,c⟩
   .cases z
   .rcases iE h with⟨_,z,_⟩|⟨_,e⟩
    .cases z
    .exact O.sep j k d1 d2 b c e
def Rl.freeze(R:Rl K B H₀ F H σ ρ):∀is:List Nat,∃g,cc F g/\Rl K B H₀ g H σ (lZ is ρ):=by
 intro is
 induction is generalizing F ρ with
 |nil=>exact⟨F,cc.refl _,R⟩
 |cons i is a=>
   obtain⟨F1,s1,b⟩:=R.Qs i;obtain⟨c,s2,R2⟩:=a b;exact⟨c,s1.trans s2,R2⟩
theorem Gu:∀(is:List Nat)(ρ:cY)(j:Nat),(lZ is ρ)[j]?=if j∈is then(ρ[j]?).map (λo=>o.map λs=>(s.1,J))else ρ[j]?
 |[],ρ,j=>by simp[lZ]
 |i::is,ρ,j=>by
   have e:lZ (i::is) ρ=lZ is (ρ.modify i λo=>o.map λs=>(s.1,J)):=rfl;rw[e,Gu is,FQ];by_cases h:i=j
   .subst h;rw[if_pos W,if_pos (jL)];by_cases m:i∈is
    .rw[if_pos m]
     cases ρ[i]? with
     |none=>rfl
     |some o=>cases o<;>rfl
    .rw[if_neg m]
   grind
def II:lZ (aQ ρ.length) ρ=sV ρ:=by
 apply nr;intro j;rw[Gu];unfold sV
 simp_all
def Rl.jg(R:Rl K B H₀ F H σ ρ):∃g,cc F g/\Rl K B H₀ g H σ (sV ρ):=by
 obtain⟨g,s,a⟩:=R.freeze (aQ _);rw[II]at a;exact⟨g,s,a⟩
def dC(q:(ρ.set i x)[j]?=Y (Y (d,b))):(i=j/\x=Y (d,b))\/(i≠j/\ρ[j]?=Y (Y (d,b))):=by
 rw[tw]at q;by_cases h:i=j
 .simp_all
 .rw[if_neg h]at q;exact .inr ⟨h,q⟩
def Ru(hl:i<Z σ):(σ.set i (Y v))[i]?=Y (Y v):=iD hl
def xY(q:(ρ.set i x)[i]?=Y y):i<Z ρ:=by
 rw[tw]at q
 simp_all
def Rl.yY(R:Rl K B H₀ F H σ ρ)(r:Rep K F d v):Rl K B H₀ F H (σ.set i (Y v)) (ρ.set i (Y (d,J))):=by
 obtain⟨s,O⟩:=R.ow;refine⟨R.step,by simpa using R.len,λj p q=>?_,λp l q=>?_,s,λj p q=>?_,λj k d1 d2 c m n=>?_⟩
 .rcases dC q with⟨rfl,e⟩|⟨a,b⟩
  .cases e;exact⟨v,Ru (by rw[R.len];exact xY q),r⟩
  .obtain⟨w,o,f⟩:=R.val j p b;exact⟨w,by simp_all,f⟩
 .rcases dC q with⟨_,e⟩|⟨a,b⟩
  .cases e
  .intro z;rw[dI a];exact R.keep _ l b z
 .rcases dC q with⟨rfl,e⟩|⟨a,b⟩
  .cases e
  .obtain⟨w,o,f⟩:=O.own j p b;exact⟨w,by simp_all,f⟩
 .rcases dC m with⟨_,e⟩|⟨_,g⟩
  .cases e
  .rcases dC n with⟨_,e⟩|⟨_,h⟩
   .cases e
   .exact O.sep j k d1 d2 c g h
def Rl.Ue(R:Rl K Fz H₀ F H σ ρ)(O:Ow K H₀.h F H σ ρ P)(o:kL K H d v S)(nd:S.Nodup)(C:∀a∈S,F a=L/\H₀.h a=L)(h0:i≠0)
  (B:∀(j:Nat)I,i≠j->ρ[j]?=Y (Y (I,U))->∀a∈P j,a∉S):Rl K Fz H₀ F H (σ.set i (Y v)) (ρ.set i (Y (d,U))):=by
 refine⟨R.step,by simpa using R.len,λj I q=>?_,λI p q=>?_,λj=>if j=i then S else P j,λj I q=>?_,λj k d1 d2 g r s=>?_⟩
 .rcases dC q with⟨rfl,e⟩|⟨b,c⟩
  .cases e
  .obtain⟨w,t,l⟩:=R.val j I c;exact⟨w,by simp_all,l⟩
 .rcases dC q with⟨e,_⟩|⟨b,c⟩
  .exact absurd e h0
  .intro z;rw[dI b];exact R.keep _ p c z
 .rcases dC q with⟨rfl,e⟩|⟨b,c⟩
  .cases e;rw[if_pos W];exact⟨v,Ru (by rw[R.len];exact xY q),o,nd,C⟩
  .obtain⟨w,t,l⟩:=O.own j I c;rw[if_neg (cu b)];exact⟨w,by simp_all,l⟩
 .intro a m
  rcases dC r with⟨rfl,e⟩|⟨h1,f⟩
  .grind
  .rw[if_neg (cu h1)]at m
   rcases dC s with⟨rfl,e⟩|⟨h2,n⟩
   .rw[if_pos W];exact B j d1 h1 f a m
   .rw[if_neg (cu h2)];exact O.sep j k d1 d2 g f n a m
def Rl.full{K:Fg}(R:Rl K g H₀ F H σ (sV ρ)):nJ K F σ (M.full ρ):=by rw[<-C9];exact R.yP
noncomputable def uz(F:Hp)(S:List aL):Hp:=λa=>if a∈S then L else F a
def tF(h:a∈S):uz F S a=L:=if_pos h
def jW(h:a∉S):uz F S a=F a:=if_neg h
def Step.aaz(st:Step F H I C)(g:Good F H)(B:∀a∈S,H a=L)(o:kL K C d v S):Step F H (uz I S) C:=by
 refine⟨⟨λa e q=>?_,λa vs q=>?_⟩,λa e q=>?_,st.hh,λa e q n=>?_⟩
 .by_cases m:a∈S
  .rw[tF m]at q;cases q
  .rw[jW m]at q;exact st.good.sub a e q
 .rw[jW λm=>?_]
  .exact st.good.tup a vs q
  .obtain⟨u,b,c⟩:=o.ud _ a m;rw[q]at b;cases b;exact c
 .rw[jW λm=>?_]
  .exact st.ff a e q
  .rw[g.sub.free (B a m)]at q;cases q
 .by_cases m:a∈S
  .exact tF m
  .rw[jW m];exact st.un a e q n
def Gw(R:Rl K Fz H₀ F H σ ρ)(h:Nw C e ρ=Y (d,fr,I))
  (k:∀v Fm P O,cc F Fm->Rl K Fz H₀ Fm H σ I->Step Fm H P O->Rep K P d v->(fr=U->gh K H O d v)->Q v O):∃B,bf C e B=Y (d,fr)/\tE K B d fr σ H Q:=by
 obtain⟨⟨d1,s⟩,h2,h⟩:=cA h;dsimp only at h;by_cases c:(im d1 || s)=U
 .rw[if_pos c]at h;have hh:d=d1/\fr=s/\I=ρ:=by grind
  obtain⟨i,j,l⟩:=hh;subst i j l;obtain⟨x,y,t⟩:=R.jg;refine⟨_,h2,x,t.step.good,t.full,λv F1 g st r f=>?_⟩;have b:=Step.shrink R.step.good y st
  cases hi:im d with
  |true=>exact k v F _ g (cc.refl _) R b (r.shrink R.step.good st d hi) f
  |false=>
    rw[hi]at c;obtain⟨S,n,A,o⟩:=f c;have p:Step F H (fz (shr F H F1) g S) g:=by
     refine⟨(uG (S:=S) b.good),b.ff.trans (qw b.good.sub),b.hh,λa u q nn=>?_⟩;rw[n9 λm=>?_]
     .exact b.un a u q nn
     grind
    exact k v F _ g (cc.refl _) R p (o.lZ b.good d λa m=>m) f
 .rw[if_neg c]at h;obtain⟨⟨d2,z⟩,h3,h⟩:=ee h;cases h;obtain⟨w,s2,R2⟩:=R.freeze _;exact⟨_,h3,w,R2.step.good,R2.yP,λv P O st r f=>k v w P O s2 R2 st r f⟩
def zG(R:Rl K O H₀ F H σ ρ)(h:Nw C e ρ=Y (d,fr,g))
  (k:∀v Fm I B,cc F Fm->Rl K O H₀ Fm H σ g->Step Fm H I B->Rep K I d v->(fr=U->gh K H B d v)->Q v B):gE K C e σ H Q:=
 let ⟨_,h1,h2⟩:=Gw R h k;⟨_,d,fr,h1,h2⟩
end
def tN(K:Fg)(g:Hp)(H₀:HZ)(F:Hp)(D:Ends):Out->Prop
 |.nx b=>∀c e a,cc F c->Rl K g H₀ c e a b->D.nx a e
 |.bk b=>∀c e a,cc F c->Rl K g H₀ c e a b->D.bk a e
 |.ct b=>∀c e a,cc F c->Rl K g H₀ c e a b->D.ct a e
 |.rt d fr=>∀v c e,Step g H₀.h c e->Rep K c d v->(fr=U->gh K H₀.h e d v)->D.rt v e
 |.rl d b=>∀v c e a,cc F c->Rl K g H₀ c e a b->Rep K c d v->D.rt v e
def tN.mono{K:Fg}{F1:Hp}{D:Ends}(s:cc F F1)(h:tN K g H₀ F D o):tN K g H₀ F1 D o:=by
 cases o with
 |nx b=>exact λc e a f R=>h c e a (s.trans f) R
 |bk b=>exact λc e a f R=>h c e a (s.trans f) R
 |ct b=>exact λc e a f R=>h c e a (s.trans f) R
 |rt d fr=>exact h
 |rl d b=>exact λv c e a f R=>h v c e a (s.trans f) R
def gS(K:Fg)(C:Fs)(x:Sx):TS:=λD σ H=>∃b H₀ F c a,pB C x c=Y a/\Rl K b H₀ F H σ c/\tN K b H₀ F D a
def gSs(K:Fg)(C:Fs)(xs:List Sx):TS:=λD σ H=>∃b H₀ F c a,dZ C xs c=Y a/\Rl K b H₀ F H σ c/\tN K b H₀ F D a
abbrev SS(X:Cx)(C:Fs)(st:kZ)(x:Sx):Prop:=PS X st (gS X.K C x)
abbrev Ja(X:Cx)(C:Fs)(st:List kZ)(xs:List Sx):Prop:=Am X st (gSs X.K C xs)
section
variable{X:Cx}{Jo:ba}{st:kZ}{pos:wo}
def Og:Ja X C [] []:=Am.imp O9 λD σ H a=>by
 obtain⟨c,H₀,F,d,b,h,R,k⟩:=a;cases h;exact k F H σ (cc.refl _) R
def JX(h1:SS X C st x)(h2:Ja X C B xs):Ja X C (st::B) (x::xs):=Am.imp (KH h1 h2) λD σ H a=>by
 refine ac λ_ f=>?_;obtain⟨i,H₀,F,j,l,h,R,k⟩:=a;obtain⟨o,ho,h⟩:=cA h;refine f ?_;refine⟨i,_,F,j,o,ho,R,?_⟩
 cases o with
 |nx g=>exact λF1 e b s1 c=>⟨i,_,F1,_,_,h,c,k.mono s1⟩
 |bk g=>cases h;exact k
 |ct g=>cases h;exact k
 |rt d fr=>cases h;exact k
 |rl d g=>cases h;exact k
def TH{st:kZ}:SS X C st .Nn:=λh_ s σ H D I a=>by
 obtain⟨c,H₀,F,d,b,h,R,k⟩:=a;cases h
def TJ(he:SE X C e xe):SS X C (.Return (Y e) pos) (.ret xe):=PS.imp (KL he) λD σ H b=>by
 refine ac λ_ g=>?_;obtain⟨m,H₀,F,n,i,h,R,k⟩:=b;obtain⟨⟨d,fr⟩,h1,h⟩:=ee h;cases h;obtain⟨c,o,a⟩:=R.jg;refine g ?_;exact⟨_,d,fr,h1,c,a.step.good,a.full,λv j l st r f=>k v j l (a.step.trans st) r λz=>(f z).back (F:=F) R.step.hh⟩
set_option tactic.hygienic true in
def Oj{i:Nat}{x:aW}{p:wo}(I:X.N[i]?=Y x)(P:So X.env.scope x)(hd:(x == ("__debug__":aW))=J)(B:(x == ("__classdict__":aW))=J):SS X C (.Return (Y (.Name x p)) pos) (.oM i):=
 PS.imp (KL (nW I P hd B)) λD σ H f=>by
  obtain⟨l,H₀,F,s,u,h,R,k⟩:=f;obtain⟨⟨d,b⟩,h1,h⟩:=ee h;cases h
  have c:s[i]?=Y (Y (d,b)):=by
   cases q:s[i]? with
   |none=>rw[q]at h1;cases h1
   |some z=>simp_all
  have e:tN _ l _ F D (.rt d b)->X1 (se i) D σ H:=λk=>by
   cases b with
   |false=>
     obtain⟨v,j,r⟩:=R.val i d c;exact⟨v,j,k v F H R.step r be⟩
   |true=>
     obtain⟨w,O⟩:=R.ow;obtain⟨v,j,t,y,g⟩:=O.own i d c;have st:Step l H₀ (fz F H (w i)) H:=by
      refine⟨uG R.step.good,R.step.ff.trans (qw R.step.good.sub),R.step.hh,λa o q n=>?_⟩;rw[n9 λm=>?_]
      .exact R.step.un a o q n
      simp_all
     exact⟨v,j,k v _ H st (t.lZ R.step.good d λa m=>m) λ_=>⟨_,y,λa m=>(g a m).2,t⟩⟩
  unfold Sx.Yr at k;split at k
  .rename_i hb _;subst hb;obtain⟨v,j,r⟩:=R.val i d c;exact⟨v,j,k v F H σ (cc.refl _) R r⟩
  .exact e k
def TV(he:SE X C e xe)(hs:swapsWith e L pos.line X.env=pure J):SS X C (.Expr e pos) (.exp xe):=PS.imp (qW he hs) λD σ H b=>by
 refine ac λ_ i=>?_;obtain⟨m,H₀,F,n,l,h,R,k⟩:=b;obtain⟨⟨d,fr⟩,h1,h⟩:=ee h;cases h;obtain⟨c,j,a⟩:=R.jg;refine i ?_;exact⟨_,d,fr,h1,c,a.step.good,a.full,λv F1 g st r f=>k _ g σ (Step.shrink R.step.good j st).ff (R.moved (Step.shrink R.step.good j st))⟩
def Yg(hc:ST X C Jo B)(ha:Ja X C sa I)(hb:Ja X C O P):SS X C (.If Jo sa O pos) (.ifs B I P):=PS.imp (YE hc ha hb) λD σ H c=>by
 refine ac λ_ i=>?_;obtain⟨j,H₀,F,l,m,h,R,k⟩:=c;obtain⟨⟨d,fr⟩,h1,h⟩:=cA h;obtain⟨z,e,h⟩:=cA h;obtain⟨f,n,b⟩:=R.jg;refine i ?_;refine⟨_,d,fr,z,h1,e,f,b.step.good,b.full,λF1 g st=>?_⟩;have a:=Step.shrink R.step.good n st
 cases z with
 |true=>
   exact DV ⟨j,_,_,l,_,h,R.moved a,k.mono a.ff⟩
 |false=>
   exact DW ⟨j,_,_,l,_,h,R.moved a,k.mono a.ff⟩
def HA{D:Ends}(h0:i≠0)(R:Rl X.K P H₀ F H σ ρ)(h1:Nw C xe ρ=Y (d,fr,O))(k:tN X.K P H₀ F D (.nx (O.set i (Y (d,fr && !im d))))) :
  ∃B,bf C xe B=Y (d,fr)/\tE X.K B d fr σ H (λv I=>D.nx (σ.set i (Y v)) I):=by
 refine Gw R h1 λv Fm y I h c st r f=>?_;have w :=k
 cases e:fr && !im d with
 |false=>
   rw[e]at w;exact w y I _ (h.trans st.ff) ((c.moved st).yY r)
 |true=>
   rw[e]at w;simp only[ag]at e;obtain⟨S,nd,x,o⟩:=f e.1;have b:=Step.aaz st c.step.good x o;obtain⟨n,l⟩:=c.ow;refine w _ I _ (h.trans b.ff) ((c.moved b).Ue (l.moved b) o nd (λa m=>⟨tF m,R.step.hh.free (x a m)⟩) h0 λj d2 _ q a m1 m2=>?_);obtain⟨s,p,g,_,_⟩:=l.own j d2 q;obtain⟨u,t,_⟩:=g.ud _ a m1
   simp_all
def AR(h0:i≠0)(B:∀σ H Q,gE X.K C xe σ H Q->g σ H Q):∀D σ H,gS X.K C (.set i xe) D σ H->Hu g (lz i) D σ H:=λD σ H b=>by
 refine ac λ_ c=>?_;obtain⟨m,H₀,F,n,e,h,R,k⟩:=b;obtain⟨⟨d,fr,f⟩,h1,h⟩:=ee h;cases h;obtain⟨a,j,l⟩:=HA h0 R h1 k;refine c ?_;exact B _ _ _ ⟨a,d,fr,j,l⟩
def J0{i:Nat}{x:aW}(h0:i≠0)(B:X.N.Nodup)(hi:X.N[i]?=Y x)(O:Loc X.env.scope x)(he:SE X C e xe)(hs:swapsWith e (Y (.Name x pos')) pos.line X.env=pure J)
  (hf:X.fn x=U\/X.env.scope.names.lookup x=Y .local):SS X C (.Assign [.Name x pos'] e pos) (.set i xe):=
 PS.imp (KJ B hi O he hs hf) (AR h0 λ_ _ _ h=>h)
end
end M
namespace L2
open PySem PySem.Spec PyProof.Rows
noncomputable def e9(X:Cx)(scope:m9)(cl:List (aW×aL))(N:List aW)(B:ai)(O:Hp)(C:aL)(ex:List aL):Cx:=
 { X with N:=N,s₀:=B,H₀:=O,env:=compEnvC scope cl C X.env,outer:=X.stack,stack:=X.stack,ex:=ex,fn:=λ_=>J,pn:=[],xe:=λ_ _=>False }
def Ny(X:Cx)(ifs:List ba)(t:TT):Prop:=
 ∀(h_:List (aL×lD))(s:ai)(σ:St)(H:Hp)(Q:Bool->Hp->Prop),Inv X h_ σ H s->t σ H Q->
  aF (aG X.prog X.w) X.A (forIn ifs U λc r=>if r=U then do let ok <-isTrue c X.env (eval c X.env);pure (jv ok)else pure (jv r)) (TP X h_ σ Q) X.xe s
def O7:Ny X [] (λ_ H Q=>Q U H):=λ_ _ _ H _ I h=>wpAny_tests_nil ⟨H,I,h⟩
def O6(h:PT X c t):Ny X [c] t:=λh_ s σ H Q I a=>wpAny_tests_one (h h_ s σ H Q I a)
noncomputable def ja(nt:Nat)(caps:List Nat)(σ:St):St:=br nt L++caps.map λj=>(σ[j]?).join
def JV(C:TI)(nt:Nat)(caps:List Nat)(g:TG)(B:TT)(F:TE):TE:=λσ H Q=>C σ H λj d=>∃e:Nat->Nat->List V->Hp->Prop,(∃m,e 0 m [] d)/\∀i m f H,e i m f H->
 (j.stop i H/\Z f<=aE/\∀p,H p=L->Q (.ref p) (upd H p (.lst f)))\/
 (j.go i H/\Z f<aE/\∀x k,j.yld i H x k->g x (ja nt caps σ) k λh l=>B h l λb c=>
  if b=U then F h c λy n=>∃a,a<m/\e (i+1) a (f++[y]) n else ∃a,a<m/\e (i+1) a f c)
structure jK(X:Cx)(scope:m9)(tn cn:List aW)(caps:List Nat):Prop where
 kind:scope.kind=.function
 nocell:∀y∈scope.names,y.2≠.cell
 locs:∀y∈scope.names,y.2=.local->scope.names.lookup y.1=Y .local
 frees:∀y∈scope.names,y.2=.free->X.env.kindOf y.1=Y .cell\/X.env.kindOf y.1=Y .free
 nofree:∀x,scope.names.lookup x=Y .free->(x,eG)∈scope.names
 caps:caps.map (λj=>X.N[j]?)=cn.map Y
 capk:∀x∈cn,X.env.kindOf x=Y .cell\/X.env.kindOf x=Y .free
 capn:∀x∈cn,scope.names.lookup x=Y .free
theorem vo{env:Nf}(x:aW):∀names:List (aW×k8),(names.map λ(n,k)=>if(k == eG && env.scope.kind == .function && env.kindOf n == Y .cell)then(n,mH)else(n,k)).lookup x =
  (names.lookup x).map λk=>if(k == eG && env.scope.kind == .function && env.kindOf x == Y .cell)then mH else k
 |[]=>rfl
 |(n,k)::r=>by
   by_cases a:x=n
   .subst a;simp only[aA,List.lookup_cons_self,c7];split<;>simp
   .have hb:(x == n)=J:=by simpa using a
    rw[fN,hb,<-vo x r,aA];dsimp only;split<;>rw[fN,hb]
def pf(x:aW):(relabel scope env).names.lookup x=(scope.names.lookup x).map λk=>if(k == eG && env.scope.kind == .function && env.kindOf x == Y .cell)then mH else k:=vo x _
def zi{scope:m9}(hc:∀y∈scope.names,y.2≠mH)(h:(relabel scope env).names.lookup x=Y .cell\/(relabel scope env).names.lookup x=Y .free):scope.names.lookup x=Y .free:=by
 rw[pf]at h
 cases q:scope.names.lookup x with
 |none=>rw[q]at h;simp at h
 |some k=>
   rw[q]at h;simp only[c7,ie]at h;by_cases hk:k=.free
   .rw[hk]
   .have hb:(k == eG)=J:=by simpa using hk
    rw[hb]at h
    rcases h with h|h
    .subst h;exact absurd rfl (hc _ (gY q))
    .exact absurd h hk
def qV{scope:m9}(h:scope.names.lookup x=Y .free):(relabel scope env).names.lookup x≠Y .local:=by
 rw[pf,h];simp only[c7,ne_eq,ie];split<;>(intro z;cases z)
section
variable{X:Cx}{h_:List (aL×lD)}{σ:St}{H:Hp}
theorem qA{env:Nf}:∀(names:List (aW×k8)) (C:List (aW×aL)),(∀y∈names,y.2=.free->∃c,env.cells.lookup y.1=Y c)->(∀n c,C.lookup n=Y c->env.cells.lookup n=Y c)->
  ∃cl:List (aW×aL),(forIn (m:=Au) names C λx r=>if(x.2 == eG)=U then do let a <-cellOf env x.1;pure (jv ((x.1,a)::r))else pure (jv r))=pure cl/\(∀n c,cl.lookup n=Y c->env.cells.lookup n=Y c)/\
   (∀n c,C.lookup n=Y c->∃B,cl.lookup n=Y B)/\∀n,(n,eG)∈names->∃c,cl.lookup n=Y c
 |[],C,_,h2=>⟨C,W,h2,λn c e=>⟨c,e⟩,λn z=>nomatch z⟩
 |(n,k)::r,C,h1,h2=>by
   by_cases hk:k=.free
   .subst hk;obtain⟨c,hc⟩:=h1 (n,.free) jL W
    have b:cellOf env n=pure c:=by
     unfold cellOf;rw[hc]
    obtain⟨cl,e,f,g,h⟩:=qA r ((n,c)::C) (λy i=>h1 y (jZ _ i)) (λm d e=>by
     grind)
    refine⟨cl,?_,f,λm d hd=>?_,λm j=>?_⟩
    .rw[wC];simp only[beq_self_eq_true,if_true,b,pure_bind];exact e
    .by_cases l:m=n
     .simp_all
     .have:(m == n)=J:=by simpa using l
      exact g m d (by rw[fN,this];exact hd)
    .rcases aw.mp j with z|z
     .simp_all
     .exact h m z
   .have hb:(k == eG)=J:=by simpa using hk
    obtain⟨cl,e,f,g,h⟩:=qA r C (λy i=>h1 y (jZ _ i)) h2;refine⟨cl,?_,f,g,λm j=>?_⟩
    .simp_all
    .rcases aw.mp j with z|z
     .grind
     .exact h m z
def v8(ok:X.Ok)(S:jK X scope g B caps):∃cl:List (aW×aL),closureFor scope X.env=pure cl/\(∀n c,cl.lookup n=Y c->X.env.cells.lookup n=Y c)/\∀n,(n,eG)∈scope.names->∃c,cl.lookup n=Y c:=by
 obtain⟨cl,e,a,_,b⟩:=qA _ [] (λy d hk=>ok.has _ (S.frees y d hk)) (λn c e=>by simp at e);refine⟨cl,?_,a,b⟩;unfold closureFor;rwa[bind_pure]
def Inv.JR{D:aL}(I:Inv X h_ σ H s)(B:rM X h_ H D)(hs:X.s₀.heap.objs.size<=D)(new:kU X.prog X.w (upd H D o) s.heap D o):Inv X h_ σ (upd H D o) s:=by
 obtain⟨g,h,hf,_,hc,hp⟩:=B
 have f:∀b a,X.s₀.heap.get? b=Y a->b≠D:=λb a e z=>by
  subst z;exact absurd (aT (hl9 e) hs) (bB _)
 refine⟨I.ok,I.os,I.bare,⟨I.base.keep,I.base.slot,λb a e n i=>?_,I.base.there,λb t e=>?_,λb a u e=>?_⟩,I.loc,I.cell,?_,λx c e=>?_,λp d=>?_,λb u e=>?_,I.len⟩
 .rw[eh (f b a e)];exact I.base.free b a e n i
 .rw[eh (i4 (I.base.tups b t e) g)];exact I.base.tups b t e
 .rw[eh (i4 (I.base.frzs b a u e) g)];exact I.base.frzs b a u e
 .rw[eh (cu h)];exact I.free
 .rw[eh (hc x c e)];exact I.freeC x c e
 .obtain⟨j,k,l,m,r⟩:=I.pin p d;exact⟨j,by rwa[eh (hp p d)],l,m,r⟩
 .by_cases hb:b=D
  .subst hb;rw[cW]at e;cases e;exact new
  .rw[eh hb]at e;exact(I.hok b u e).oK λ_ q=>q
def pG{iter:ba}{ifs:List ba}(J':Nat->ai->Prop)
  (turn:∀n s,J' n s->aF (aG prog w) A (pyNext it) (λr I=>match r with
   |none=>R (.ok .next) I
   |some v=>aF (aG prog w) A (letOwnedTupleGo target it v) (λ_ B=>aF (aG prog w) A (assign target env v) (λ_ C=>
     aF (aG prog w) A (forIn ifs U λc r=>if r=U then do let ok <-isTrue c env (eval c env);pure (jv ok)else pure (jv r)) (λok O=>
      if ok=U then aF (aG prog w) A (eval elt env) (λx F=>
       aF (aG prog w) A (call (.builtin "list.append") [acc,x]) (λ_ P=>∃m,m<n/\J' m P) (λ_ _=>False) F) (λ_ _=>False) O
      else ∃m,m<n/\J' m O) (λ_ _=>False) C) (λ_ _=>False) B) (λ_ _=>False) I) (λ_ _=>False) s)
  (n:Nat)(h:J' n s) :
  codeAny (aG prog w) A (.compLoop (.ListComp elt [⟨target,iter,ifs,0⟩] scope pos) 0 it acc env) R s:=by
 refine codeAny_loop W J' (λn s i=>?_) n h;refine wpAny_noted ?_;rw[compTurn_list];refine wb9 (G5 (wb9 (dE (turn n s i) (λr I a=>?_) λ_ _ j=>j.elim)))
 cases r with
 |none=>exact wu9 a
 |some v=>
   refine wb9 (dE a (λ_ B d=>?_) λ_ _ j=>j.elim);refine wb9 (dE d (λ_ C e=>wb9 (dE e (λok O b=>?_) λ_ _ j=>j.elim)) λ_ _ j=>j.elim)
   cases ok with
   |false=>exact wu9 ⟨W,b⟩
   |true=>
     exact wb9 (wb9 (dE b (λx F f=>wb9 (dE f (λ_ P g=>wu9 (wu9 ⟨W,g⟩)) λ_ _ j=>j.elim)) λ_ _ j=>j.elim))
def qi(nt:Nat)(g:TG):Prop:=∀x σ H Q,g x σ H Q->g x σ H λa b=>Q a b/\Z a=Z σ/\∀i,nt<=i->a[i]?=σ[i]?
def uY(h:i<nt):qi nt (lz i):=λx σ H Q q=>by
 refine⟨q,by simp,λj a=>?_⟩;rw[dI (λz=>(a7 h (aa a (ae z.symm))))]
def wj(nt:Nat)(g:Sy):Prop:=∀b σ H Q,g b σ H Q->g b σ H λa c=>Q a c/\Z a=Z σ/\∀i,nt<=i->a[i]?=σ[i]?
def Ht:wj nt IG:=λa σ H Q ⟨e,q⟩=>⟨e,q,W,λ_ _=>W⟩
def Dg(mono:∀x σ H Q I,(∀C F,Q C F->I C F)->t x σ H Q->t x σ H I)(B:∀x σ H Q I,(∀C F,Q C F->I C F)->u x σ H Q->u x σ H I)(ht:qi nt t)(O:wj nt u):wj nt (yi t u):=λj σ H Q a=>by
 obtain⟨v,r,e,q⟩:=a;refine⟨v,r,e,?_⟩;exact mono _ _ _ _ _ (λC F ⟨b,c,s2⟩=>B _ _ _ _ _ (λd h ⟨f,g,s3⟩=>⟨f,g.trans c,λi hi=>(s3 i hi).trans (s2 i hi)⟩) (O _ _ _ _ b)) (ht _ _ _ _ q)
def Hr{K:aP}(B:wj nt u):qi nt (Mb K n u):=λx σ H Q ⟨a,b,e,h1,h2,q⟩=>⟨a,b,e,h1,h2,B _ _ _ _ q⟩
def vV:∀x σ H Q B,(∀g C,Q g C->B g C)->lz i x σ H Q->lz i x σ H B:=λ_ _ _ _ _ h q=>h _ _ q
def IF:∀x σ H Q B,(∀g C,Q g C->B g C)->IG x σ H Q->IG x σ H B:=λ_ _ _ _ _ h q=>⟨q.1,h _ _ q.2⟩
def D9(B:∀x σ H Q C,(∀g F,Q g F->C g F)->t x σ H Q->t x σ H C)(O:∀x σ H Q C,(∀g F,Q g F->C g F)->u x σ H Q->u x σ H C) :
  ∀x σ H Q C,(∀g F,Q g F->C g F)->yi t u x σ H Q->yi t u x σ H C:=λ_ _ _ _ _ h ⟨v,r,e,q⟩=>⟨v,r,e,B _ _ _ _ _ (λ_ _ a=>O _ _ _ _ _ h a) q⟩
def BE(X:Cx)(h_:List (aL×lD))(σ:St)(Q:VK)(B:ah)(C:aL)(r:Result)(g:ai):Prop:=
 r=.ok .next/\∃D a,B=.ref D/\(∃m,g.heap.Ns C m)/\Inv X h_ σ a g/\rM X h_ a C/\Q (.ref D) a
def v5{iter:ba}{ifs:List ba}{cl:List (aW×aL)}
  (hcalm:X.calm=U)(S:jK X scope tn cn caps)(O:∀n c,cl.lookup n=Y c->X.env.cells.lookup n=Y c)(hhas:∀n,(n,eG)∈scope.names->∃c,cl.lookup n=Y c)
  (hg:∀(cl:List (aW×aL))(B:ai)(a5:Hp)(C:aL)(ex:List aL),PG (e9 X scope cl (tn++cn) B a5 C ex) tg g)(touch:qi tn.length g)
  (ht:∀(cl:List (aW×aL))(B:ai)(a5:Hp)(C:aL)(ex:List aL),Ny (e9 X scope cl (tn++cn) B a5 C ex) ifs tt)
  (he:∀(cl:List (aW×aL))(B:ai)(a5:Hp)(C:aL)(ex:List aL),PE (e9 X scope cl (tn++cn) B a5 C ex) elt te)
  (hi:PIE X h_ σ tg (λJ' H1=>∃c0:Nat->Nat->List V->Hp->Prop,(∃m,c0 0 m [] H1)/\∀i m ys H,c0 i m ys H->
   (J'.stop i H/\Z ys<=aE/\∀p,H p=L->Q (.ref p) (upd H p (.lst ys)))\/
   (J'.go i H/\Z ys<aE/\∀x H',J'.yld i H x H'->g x (ja tn.length caps σ) H' λσ2 H2=>tt σ2 H2 λb H3=>
    if b=U then te σ2 H3 λy H4=>∃m',m'<m/\c0 (i+1) m' (ys++[y]) H4 else ∃m',m'<m/\c0 (i+1) m' ys H3)) itv B) :
  aF (aG X.prog X.w) X.A (newList []) (λacc s₃=>aF (aG X.prog X.w) X.A (newFunctionEnv scope X.env.globals cl [] X.env.qual L .none (Y X.env)) (λcenv s₄=>
   codeAny (aG X.prog X.w) X.A (.compStart (.ListComp elt [⟨tg,iter,ifs,0⟩] scope pos) 0 itv acc { cenv with scope:=relabel scope X.env }) (BE X h_ σ Q acc cenv.locals) s₄) E s₃) E B:=by
 refine ac λ_ kq=>?_;obtain⟨it,fp,tnn,J',H2,e,f,T,st2,f2,c0,⟨m0,w0⟩,turn⟩:=hi;subst e;refine kq ?_;refine dH (wpAny_newFunctionEnv S.nocell (by intro y hy;simp at hy) (λh₁ L' t=>?_) S.kind);generalize hH2:B.heap.push { cls:=.type "list",dict:=L,data:=.seq ([]).toArray }=G2 at L' t ⊢;have hC:G2.objs.size=B.heap.objs.size+1:=by rw[<-hH2,fQ]
 have hDC:B.heap.objs.size≠G2.objs.size:=by rw[hC];exact a9 (hV _)
 have old :=λb o e=>t.extBut b o (by rw[hC];exact a9 (kA (hl9 e))) (hp9 _ (hH2▸hp9 _ e));have hacc :=t.extBut _ _ hDC (hp9 _ (hH2▸aH _ W));generalize s:B.heap.objs.size=D at *;generalize hCd:G2.objs.size=C at *;have R:D<C:=by rw[hC];exact hV _
 have hDD :=s;have wH:∀b o,B.heap.get? b=Y o->b<D:=λb o e=>s▸hl9 e;have fresh:∀a,D<=a->H2 a=L:=λa h=>f.hok.fresh (s▸h);have M:∀b∈fp,b<D:=λb hb=>by obtain⟨o,e,_⟩:=T.obj 0 _ st2 b hb;exact wH b o e
 have frL:∀b∈Jm X.stack,b<D:=λb hb=>by
  obtain⟨_,o,ho,_⟩:=f.stack.mem hb;exact wH b o ho
 have clL:∀x c,cl.lookup x=Y c->c<D:=λx c e=>by
  obtain⟨v,q⟩:=f.cell x c (O x c e);exact s▸q.lt
 let c3 :=e9 X scope cl (tn++cn) B H2 C fp
 have okY:c3.Ok:=by
  refine⟨f.ok.mod,S.kind,f.ok.glob,f.ok.blt,?_,λx y c h1 h2=>f.ok.inj x y c (O x c h1) (O y c h2),λx hx=>?_,(λx c h=>nomatch h),f.ok.hd,f.ok.frames,.inl W,λb hb=>⟨?_,λx c e=>?_⟩,λb o e=>f.bs b o e,?_,λb o e hb=>?_,λb hb z=>?_,f.stack,f.EY⟩
  .exact ax (ao (ae hDD) R)
  .have hx' :=hx;exact hhas x (S.nofree x (zi S.nocell hx'))
  .exact a9 (cT (M b hb) R)
  .exact(f2 b hb).2.2.2.2.1 x c (O x c e)
  .exact aa f.ok.bsz f.sz
  .rcases(f2 b hb).2.2.2.1 with z|z
   .exact f.ok.noex b o e z
   .exact absurd (aT (aT (hl9 e) f.ok.bsz) z) (bB _)
  .have hb':=f2 b hb
   rcases aw.mp (f.u7 b z)with q|q
   .exact hb'.2.1 q
   .exact hb'.2.2.1 q
 have invY:∀(s':ai) (m:aW->Option ah),s'.os=B.os->oT s'.gens->(∀b o,B.heap.get? b=Y o->s'.heap.get? b=Y o)->s'.heap.Ns C m->(∀(i:Nat) (x:aW) (v:V),(tn++cn)[i]?=Y x->(ja tn.length caps σ)[i]?=Y (Y v)->So c3.env.scope x->∃u,RelV v u/\Look c3.env s'.heap m x u)->
   Inv c3 (X.pn++h_) (ja tn.length caps σ) H2 s':=λs' m ho hb hk hn hl=>by
  refine⟨okY,ho,hb,Un.kept hk,⟨m,hn,hl⟩,λx c e=>?_,fresh C (ax R),λx c e=>f.freeC x c (O x c e),λp hp=>?_,f.hok.kept hk,?_⟩
  .obtain⟨v,q⟩:=f.cell x c (O x c e);exact⟨v,q.keeps hk⟩
  .obtain⟨q1,q2,q3,q4,q5⟩:=f.pin p (by simpa [c3,e9]using hp);refine⟨hk _ _ q1,q2,?_,λz=>?_,q5⟩
   .exact a9 (cT (wH _ _ q1) R)
   .rcases aw.mp (f.u7 p.1 z)with w|w
    .exact q3 w
    .exact q4 w
  .show(ja tn.length caps σ).length=Z (tn++cn);have e:=congrArg fI S.caps;simp only[aB]at e;simp[ja,e]
 have loop:∀s₃:ai,s₃={ B with heap:=h₁,toks:=B.toks+Z ([]:List (aW×ah)) }->
   codeAny (aG X.prog X.w) X.A (.compLoop (.ListComp elt [⟨tg,iter,ifs,0⟩] scope pos) 0 (.ref it) (.ref D) (compEnvC scope cl C X.env)) (BE X h_ σ Q (.ref D) C) s₃:=by
  rintro s₃ rfl
  have I3:Inv c3 (X.pn++h_) (ja tn.length caps σ) H2 { B with heap:=h₁,toks:=B.toks+Z ([]:List (aW×ah)) }:=by
   refine invY _ _ W f.bare old L' λi x v e1 e2 e3=>?_
   have hi:Z tn<=i:=by
    by_cases hi:Z tn<=i
    .exact hi
    .unfold ja at e2;rw[aY (by simpa using hi),cG]at e2;split at e2<;>cases e2
   unfold ja at e2;rw[aS (by simpa using hi),fT]at e2;rw[aS hi]at e1;rw[aR]at e2
   cases hj:caps[i - Z tn]? with
   |none=>rw[hj]at e2;cases e2
   |some j=>
     rw[hj]at e2;have e2':(σ[j]?).join=Y v:=bI e2
     have hσ:σ[j]?=Y (Y v):=by
      cases q:σ[j]? with
      |none=>rw[q]at e2';cases e2'
      | some z=>rw[q]at e2';cases z with
        |none=>cases e2'
        |some z=>exact congrArg Y e2'
     have hN:X.N[j]?=Y x:=by
      have e:=congrArg (λl=>l[i - Z tn]?) S.caps;simp only[aR,hj,e1,c7]at e;exact bI e
     have hk:=S.capk x (aZ e1);obtain⟨m,hn,hl⟩:=f.loc;obtain⟨u,ru,l⟩:=hl j x v hN hσ (hk.elim (λz=>.inr (.inl z)) λz=>.inr (.inr z));refine⟨u,ru,.inr ?_⟩
     rcases l with⟨k,_⟩|⟨k,c,ec,hcell⟩
     .rw[k]at hk;rcases hk with z|z<;>cases z
     .
      rcases e3 with z|z|z
      .
       exact absurd z (qV (S.capn x (aZ e1)))
      .obtain⟨c',I⟩:=okY.has x (.inl z);have ecc :=bI ((O x c' I).symm.trans ec);rw[ecc]at I;exact⟨.inl z,c,I,hcell.keeps old⟩
      .obtain⟨c',I⟩:=okY.has x (.inr z);have ecc :=bI ((O x c' I).symm.trans ec);rw[ecc]at I;exact⟨.inr z,c,I,hcell.keeps old⟩
  have pinD:∀{F:St} {H':Hp} {s':ai} {its:List ah} {n:Nat},Inv c3 (X.pn++h_) F H' s'->H' D=L->s'.heap.get? D=Y { cls:=.type "list",data:=.seq its.toArray n }->
    Inv c3 ((X.pn++h_)++[(D,{ cls:=.type "list",data:=.seq its.toArray n })]) F H' s':=λ{F H' s' its n}I' hn hd=>by
   refine I'.qX λp hp=>?_
   rcases au.mp hp with z|z
   .exact I'.pin p (aq _ z)
   .have e:=az.mp z;subst e;exact ⟨hd,hn,hDC,λz=>absurd (frL D z) (bB _),(λv z=>nomatch z)⟩
  have fpD:∀{H':Hp},H' D=L->∀b,b=D->rM c3 (X.pn++h_) H' b:=λ{H'}hn b hb=>by
   subst hb;refine⟨hn,hDC,λz=>absurd (frL b z) (bB _),.inr (ae s),λx c e z=>?_,λp hp z=>?_⟩
   .have:=clL x c e;rw[z]at this;exact absurd this (bB _)
   .have:=wH _ _ (f.pin p (by simpa [c3,e9]using hp)).1;rw[z]at this;exact absurd this (bB _)
  have stat:∀{H':Hp}{pl:List (aL×lD)},(∀b∈fp,H' b=L)->(∀p∈pl,p.1=D)->∀b∈fp,rM c3 ((X.pn++h_)++pl) H' b:=λ{H' pl}hn hpl b hb=>by
   obtain⟨g0,g1,g2,g3,g4,g5⟩:=f2 b hb;refine⟨hn b hb,?_,λz=>?_,.inl hb,λx c e=>g4 x c (O x c e),λp hp z=>?_⟩
   .exact a9 (cT (M b hb) R)
   .rcases aw.mp (f.u7 b z)with w|w
    .exact g1 w
    .exact g2 w
   .have G:p∈(X.pn++h_)++pl:=by simpa [c3,e9]using hp
    rcases au.mp G with w|w
    .exact g5 p w z
    .have h2:=M b hb;rw[<-z,(hpl p w)]at h2;exact absurd h2 (bB _)
  refine pG (λn s'=>∃(i:Nat) (ys:List V) (its:List ah) (k:Nat) (H':Hp),Inv c3 (X.pn++h_) (ja tn.length caps σ) H' s'/\H' D=L/\s'.heap.get? D=Y { cls:=.type "list",data:=.seq its.toArray k }/\cV ys its/\
   tnn i s'.heap/\(∀b∈fp,H' b=L)/\c0 i n ys H') ?_ m0 ⟨0,[],[],0,H2,I3,fresh D (ak _),hacc,.nil,T.keep _ _ _ st2 λb hb o e=>old b o e,λb hb=>(f2 b hb).1,w0⟩
  rintro n s4 ⟨i,ys,its,k,H4,I4,hD4,ho4,rv4,st4,fr4,w4⟩;have I4':=pinD I4 hD4 ho4
  have pl1:∀p∈[((D,{ cls:=.type "list",data:=.seq its.toArray k }):aL×lD)],p.1=D:=λp hp=>by
   rw[az.mp hp]
  rcases turn i n ys H4 w4 with⟨stop,hz,qn⟩|⟨go,hz,step⟩
  .
   refine iN (T.done c3 W rfl rfl hcalm i _ s4 _ H4 _ I4' (stat fr4 pl1) st4 stop) λr s5 w7=>?_;obtain⟨hr,I5⟩:=w7;subst hr;have hd5:=(I5.pin (D,{ cls:=.type "list",data:=.seq its.toArray k }) (aq _ (aq _ (az.mpr W)))).1;have U' :=I5.nu;have J5 :=f.ZK U'.os U'.base U'.hok U'.bare λb hb=>⟨(f2 b hb).2.2.2.1,(f2 b hb).2.1,(f2 b hb).2.2.2.2.1,(f2 b hb).2.2.2.2.2⟩
   have up:∀a,D<=a->H4 a=L->rM X h_ H4 a:=λa ha hn=>by
    refine⟨hn,?_,λz=>?_,.inr ?_,λx c e z=>?_,λp hp z=>?_⟩
    .have h1:=f.lt;intro z;rw[<-z,s]at h1;exact absurd (aT h1 ha) (bB _)
    .exact f.YQ (by rw[s];exact ha) z
    .exact aa f.sz (by rw[s];exact ha)
    .obtain⟨v,q⟩:=f.cell x c e;have h1:=q.lt;rw[z,s]at h1;exact absurd (aT h1 ha) (bB _)
    .have h1:=wH _ _ (f.pin p hp).1;rw[z]at h1;exact absurd (aT h1 ha) (bB _)
   have J6:Inv X h_ σ (upd H4 D (.lst ys)) s5:=J5.JR (up D (ak _) hD4) (by have h1:=f.sz;rw[s]at h1;exact h1) ⟨hz,its,k,rv4,hd5⟩;obtain⟨m5,hn5,_⟩:=U'.loc;refine⟨W,D,upd H4 D (.lst ys),W,⟨m5,hn5⟩,J6,?_,qn D hD4⟩;obtain⟨u0,u1,u2,u3,u4,u5⟩:=up C (ax R) U'.free;exact⟨by rw[eh (cu hDC)];exact u0,u1,u2,u3,u4,u5⟩
  .refine iN (T.item c3 W rfl rfl hcalm i _ s4 _ H4 _ I4' (stat fr4 pl1) st4 go) λr s5 z0=>?_;obtain⟨u,hr,h5⟩:=z0;subst hr;refine iN h5 λ_ s6 z1=>?_;obtain⟨x,H6,I6,r6,y6,st6,fr6⟩:=z1;refine iN (hg cl B H2 C fp _ s6 _ H6 x u _ (I6.pinned (stat fr6 pl1) (T.obj _ _ st6)) r6 (touch _ _ _ _ (step x H6 y6))) λ_ s7 z7=>?_
   obtain⟨σ7,H7,I7,q7,l7,e7⟩:=z7;have back:∀{H':Hp} {s':ai} {ys':List V} {P:List ah} {k':Nat} {n':Nat},Inv c3 (X.pn++h_++mY fp s6.heap) σ7 H' s'->H' D=L->s'.heap.get? D=Y { cls:=.type "list",data:=.seq P.toArray k' }->cV ys' P->c0 (i+1) n' ys' H'->
     ∃(i:Nat) (ys:List V) (its:List ah) (k:Nat) (H':Hp),Inv c3 _ (ja _ _ σ) H' s'/\H' D=L/\s'.heap.get? D=Y { cls:=.type _,data:=.seq its.toArray k }/\cV ys its/\tnn i _/\(∀b∈fp,H' b=L)/\c0 i n' ys H':=
    λ{H' s' ys' P k' n'}I' hd ho rv w=>by
     refine⟨_,_,P,k',H',(I'.nu).weak (by rw[l7]) (λj v hj=>?_),hd,ho,rv,T.keep _ _ _ st6 λb hb o e=>(I'.pin _ (aq _ (aq _ (n4 hb e)))).1,λb hb=>?_,w⟩
     .have hj':Z tn<=j:=by
       by_cases hj':Z tn<=j
       .exact hj'
       .unfold ja at hj;rw[aY (by simpa using hj'),cG]at hj;split at hj<;>cases hj
      rw[e7 j hj'];exact hj
     .obtain⟨o,e,d⟩:=T.obj _ _ st6 b hb;exact(I'.pin _ (aq _ (aq _ (n4 hb e)))).2.1
   have K:∀{F:St}{H':Hp}{s':ai},Inv c3 (((X.pn++h_)++[(D,{ cls:=.type "list",data:=.seq its.toArray k })])++mY fp s6.heap) F H' s'->s'.heap.get? D=Y { cls:=.type _,data:=.seq _ k }/\H' D=L:=λI'=>by
    obtain⟨q1,q2,_⟩:=I'.pin (D,{ cls:=.type _,data:=.seq _ k }) (aq _ (aC _ (aq _ (az.mpr W))));exact⟨q1,q2⟩
   have dropD:∀{F:St}{H':Hp}{s':ai},Inv c3 (((X.pn++h_)++[(D,{ cls:=.type "list",data:=.seq its.toArray k })])++mY fp s6.heap) F H' s'->Inv c3 (X.pn++h_++mY fp _) F H' s':=λI'=>
    I'.qX λp hp=>I'.pin p (aq _ (by
     rcases au.mp hp with z|z
     .exact aC _ (aC _ z)
     .exact aq _ z))
   refine iN (ht cl B H2 C fp _ s7 _ H7 _ I7 q7) λb s8 q0=>?_
   obtain⟨H8,I8,q8⟩:=q0;cases b with
   |false=>
     obtain⟨m',hm,w8⟩:=q8;exact⟨m',hm,back (dropD I8) (K I8).2 (K I8).1 rv4 w8⟩
   |true=>
     refine iN (he cl B H2 C fp _ s8 _ H8 _ I8 q8) λv s9 w1=>?_;obtain⟨y,H9,I9,r9,m',hm,w9⟩:=w1;obtain⟨ho9,hD9⟩:=K I9;refine wpAny_list_append_plain (hsz:=ax (ao (ae rv4.length.symm) hz)) ⟨k,ho9⟩ λh' hl' hs'=>?_;obtain⟨k',hk'⟩:=hl';have I10:Inv c3 (X.pn++h_++mY fp s6.heap) σ7 H9 { s9 with heap:=h' }:=by
      refine (dropD I9).turned (λb o hb e=>hs'.extBut b o hb e) hD9 hDC (.inr (ae s)) (fpD hD9 D W).2.2.2.2.1 λp hp=>?_;have G:p∈X.pn++h_++mY fp s6.heap:=by simpa [c3,e9]using hp
      rcases au.mp G with z|z
      .exact a9 (wH _ _ (f.pin p z).1)
      .exact a9 (M _ (xW z).1)
     refine⟨m',hm,back (k':=k') I10 hD9 ?_ (rv4.append (.cons r9 .nil)) w9⟩;simpa using hk'
 exact codeAny_compStart_list (loop _ W) (T.self _ 0 _ _ _ (T.keep _ _ _ st2 λb hb o e=>old b o e) (loop _ W))
def Pf{iter:ba}{ifs:List ba}
  (F:X.calm=U)(S:jK X scope R cn caps)(hi:PI X tg iter wi)
  (hg:∀(cl:List (aW×aL))(B:ai)(O:Hp)(C:aL)(ex:List aL),PG (e9 X scope cl (R++cn) B O C ex) tg g)(P:qi R.length g)
  (ht:∀(cl:List (aW×aL))(B:ai)(O:Hp)(C:aL)(ex:List aL),Ny (e9 X scope cl (R++cn) B O C ex) ifs tt)
  (he:∀(cl:List (aW×aL))(B:ai)(O:Hp)(C:aL)(ex:List aL),PE (e9 X scope cl (R++cn) B O C ex) elt te)
  (hs:∀x,foldedSetIterable iter X.env x=pure x):PE X (.ListComp elt [⟨tg,iter,ifs,0⟩] scope pos) (JV wi R.length caps g tt te):=by
 intro h_ s σ H Q I h;obtain⟨cl,c,h1,h2⟩:=v8 I.ok S;refine G7 W hs c S.kind S.locs (iN (hi h_ s σ H _ I h) λv s1 j=>iN j λitv s2 d=>?_);refine dE (v5 F S h1 h2 hg P ht he d) (λk s3 l=>dE l (λi u n=>kY n λr w p=>?_) λ_ _ z=>z) λ_ _ z=>z;obtain⟨rfl,D,y,rfl,⟨m,t⟩,A,a,q⟩:=p;exact ⟨m,t,λE f=>⟨.ref D,y,(A.turned (λb o hb e=>f.extBut b o hb e) a.1 a.2.1 a.2.2.2.1 a.2.2.2.2.1 a.2.2.2.2.2),W,q⟩⟩
def DA{iter:ba}{ifs:List ba}{a5:wo}(hN:X.N.Nodup)(hi':X.N[i]?=Y x)(hx:Loc X.env.scope x)
  (c0:X.calm=U)(S:jK X scope tn cn caps)(hi:PI X tg iter wi)
  (hg:∀(cl:List (aW×aL))(B:ai)(O:Hp)(C:aL)(ex:List aL),PG (e9 X scope cl (tn++cn) B O C ex) tg g)(touch:qi tn.length g)
  (ht:∀(cl:List (aW×aL))(B:ai)(O:Hp)(C:aL)(ex:List aL),Ny (e9 X scope cl (tn++cn) B O C ex) ifs tt)
  (he:∀(cl:List (aW×aL))(B:ai)(O:Hp)(C:aL)(ex:List aL),PE (e9 X scope cl (tn++cn) B O C ex) elt te)
  (hsw:swapsWith (.ListComp elt [⟨tg,iter,ifs,0⟩] scope pos) (Y (.Name x pos')) a5.line X.env=pure U)
  (hs:∀x,foldedSetIterable iter X.env x=pure x)(hf:X.fn x=U\/X.env.scope.names.lookup x=Y .local) :
  PS X (.Assign [.Name x pos'] (.ListComp elt [⟨tg,iter,ifs,0⟩] scope pos) a5) (Hu (JV wi tn.length caps g tt te) (lz i)):=by
 intro h_ s σ H D I h;obtain⟨cl,j,h1,h2⟩:=v8 I.ok S;rw[exec_Assign_Name_used _ _ _ _ hsw];refine wb9 (G5 (wb9 ?_));refine wb9 (dE (G7 W hs j S.kind S.locs (iN (hi h_ s σ H _ I h) λv s1 w=>iN w λitv s2 k=>?_)) (λ_ s' y=>wu9 (wu9 y)) λ_ _ e=>e);refine dE (v5 (Q:=λx A=>lz i x σ A _) c0 S h1 h2 hg touch ht he k) (λE s3 F=>dE F (λa U' G=>kY G λr K L'=>?_) λ_ _ z=>z) λ_ _ z=>z;obtain⟨rfl,M,H',rfl,⟨m,P⟩,J',c,q⟩:=L';refine wpAny_assign_Name ?_;refine ac λ_ c3=>?_;obtain⟨f,es,ep,l,d,n⟩:=id P
 refine c3 ?_;have R:Inv X (h_++[(a.locals,f)]) σ H' K:=J'.qX λp hp=>by
  rcases au.mp hp with z|z
  .exact J'.pin p (aq _ z)
  .have e:p=(a.locals,f):=by simpa using z
   subst e;exact⟨l,c.1,c.2.1,c.2.2.1,λv z=>by rw[d]at z;cases z⟩
 refine u6 R hN hi' hx (v:=.ref M) W (λV u=>?_) hf;have T:=(u.pin (a.locals,f) (by simp)).1;exact ⟨m,⟨f,es,ep,T,d,n⟩,λh' t=>⟨_,H',((u.nu).turned (λb o hb e=>t.extBut b o hb e) c.1 c.2.1 c.2.2.2.1 c.2.2.2.2.1 c.2.2.2.2.2),q⟩⟩
end
end L2
namespace M
open PySem PySem.Spec PyProof.Rows L2
def kD(K:Fg)(F1:Hp)(J':It)(items:List Dat):Prop:=∀F H,Good F H->cc F1 F->
 (∀(i:Nat)d,items[i]?=Y d->J'.go i H/\∀x a,J'.yld i H x a->∃b,Step F H b a/\Rep K b d x)/\∀i,Z items<=i->J'.stop i H
noncomputable def vX(x:Iw)(F:Hp):Hp:=match x with
 |.rng _=>λ_=>L
 |_=>F
def BP(h:cc F g):cc (vX x F) g:=by
 unfold vX;split
 .intro a o e;cases e
 .exact h
def gI(K:Fg)(C:Fs)(x:Iw):TI:=λσ H R=>∃b items F,zH C x b=Y items/\Good F H/\nJ K F σ b/\∀c F1 a,Step F H F1 a->kD K (vX x F1) c items->R c a
abbrev SI(X:Cx)(C:Fs)(tg iter:ba)(x:Iw):Prop:=PI X tg iter (gI X.K C x)
noncomputable def Z5(x:aW):It:=⟨λi _=>i<x.cps.size,λi H v a=>a=H/\∃c,x.cps[i]?=Y c/\v=V.str ⟨#[c]⟩,λi _=>x.cps.size<=i⟩
def JO{K:aP}(x:aW)(t:Ha)(it:aL):Turn P w K tg (Z5 x) [it] it (λi h=>h.IsStrIter it "str_ascii_iterator" x t i) where
 mem:=by simp
 obj:=λi h st b hb=>by
  have e:b=it:=by simpa using hb
  subst e;obtain⟨o,e,c,d⟩:=st;exact⟨o,e,λv z=>by rw[d]at z;cases z⟩
 keep:=λi h F st k=>by
  obtain⟨o,e,c,d⟩:=st;exact⟨o,k it (by simp) o e,c,d⟩
 item:=by
  intro X g j l hc i h_ s σ H E I hf st a;subst g j l;obtain⟨m,n,A,p,q,r⟩:=hf it (by simp);have y:x.cps[i]?=Y (x.cps[i]'a):=aU a;refine wpAny_pyNext_ascii_item st y λF f B=>?_;have C:Inv X h_ σ H { s with heap:=F,toks:=s.toks+1 }:=I.turned (λb o hb e=>(B.2 b hb).trans e) m n p q r;obtain⟨o,e,c,d⟩:=id f;exact⟨_,W,vT (s:={ s with heap:=F,toks:=s.toks+1 }) e c d bR ⟨.str ⟨#[x.cps[i]'a]⟩,H,C,⟨_,W⟩,⟨W,_,y,W⟩,f,λb hb=>(hf b hb).1⟩⟩
 done:=by
  intro X g j l hc i h_ s σ H E I hf st a;subst g j l;obtain⟨m,n,A,p,q,r⟩:=hf it (by simp);have u:x.cps.size<=i:=a;exact wpAny_pyNext_ascii_end (I.ok.hd hc) st (iu u) λF D=>⟨W,I.turned (t':=s.toks) (λb o hb e=>D b o hb e) m n p q r⟩
 self:=λ_ _ _ _ _ st h=>wpAny_pyIter_striter_ascii st h
def JM{K:aP}(x:aW)(t:Ha)(it:aL):Turn P w K tg (Z5 x) [it] it (λi h=>h.IsStrIter it "str_iterator" x t i) where
 mem:=by simp
 obj:=λi h st b hb=>by
  have e:b=it:=by simpa using hb
  subst e;obtain⟨o,e,c,d⟩:=st;exact⟨o,e,λv z=>by rw[d]at z;cases z⟩
 keep:=λi h F st k=>by
  obtain⟨o,e,c,d⟩:=st;exact⟨o,k it (by simp) o e,c,d⟩
 item:=by
  intro X g j l hc i h_ s σ H E I hf st a;subst g j l;obtain⟨m,n,A,p,q,r⟩:=hf it (by simp);have y:x.cps[i]?=Y (x.cps[i]'a):=aU a;refine wpAny_pyNext_wide_item st y λF f B=>?_;have C:Inv X h_ σ H { s with heap:=F,toks:=s.toks+1 }:=I.turned (λb o hb e=>(B.2 b hb).trans e) m n p q r;obtain⟨o,e,c,d⟩:=id f;exact⟨_,W,vT (s:={ s with heap:=F,toks:=s.toks+1 }) e c d bR ⟨.str ⟨#[x.cps[i]'a]⟩,H,C,⟨_,W⟩,⟨W,_,y,W⟩,f,λb hb=>(hf b hb).1⟩⟩
 done:=by
  intro X g j l hc i h_ s σ H E I hf st a;subst g j l;obtain⟨m,n,A,p,q,r⟩:=hf it (by simp);have u:x.cps.size<=i:=a;exact wpAny_pyNext_wide_end (I.ok.hd hc) st (iu u) λF D=>⟨W,I.turned (t':=s.toks) (λb o hb e=>D b o hb e) m n p q r⟩
 self:=λ_ _ _ _ _ st h=>wpAny_pyIter_striter_wide st h
def abx(tl:TE):TI:=λσ H R=>tl σ H λv a=>∃x,v=.str x/\R (Z5 x) a
def KS(hl:PE X l tl):PI X tg l (abx tl):=by
 intro h_ s σ H R I h;refine iN (hl h_ s σ H _ I h) λv s1 g=>?_;obtain⟨y,c,a,d,f⟩:=g;obtain⟨x,rfl,q⟩:=f;obtain⟨t,rfl⟩:=d
 have fin:∀b∈[s1.heap.objs.size],rM X h_ c b:=λb hb=>by
  have e:b=s1.heap.objs.size:=by simpa using hb
  subst e;exact a.w5 (ak _) (a.hok.fresh (ak _))
 cases ha:x.cps.all (·< 128)with
 |true=>exact wpAny_pyIter_ascii ha ⟨_,_,_,_,c,W,a.kept λb o e=>hp9 _ e,JO x t _,⟨_,aH _ W,W,W⟩,fin,q⟩
 |false=>exact wpAny_pyIter_wide ha ⟨_,_,_,_,c,W,a.kept λb o e=>hp9 _ e,JM x t _,⟨_,aH _ W,W,W⟩,fin,q⟩
def BB{K:Fg}{F1:Hp}:kD K F1 (Z5 x) (x.cps.toList.map λc=>Dat.str ⟨#[c]⟩):=λF H g s=>by
 refine⟨λi d hd=>?_,λi hi=>(by simpa using hi:x.cps.size<=i)⟩;rw[aR]at hd;obtain⟨c,hc,rfl⟩:=ee hd;have a:x.cps[i]?=Y c:=by simp_all
 refine⟨(bY.mp a).1,λv f y=>?_⟩;obtain⟨rfl,b,e,rfl⟩:=y;rw[a]at e;cases e;exact⟨F,Step.refl g,W⟩
section
variable{iter:ba}
def PI.imp(h:PI X tg iter w)(f:∀σ H R,g σ H R->w σ H R):PI X tg iter g:=λh_ s σ H R I q=>h h_ s σ H R I (f _ _ _ q)
def PI.or(h:PI X tg iter w)(g:PI X tg iter B):PI X tg iter (λσ H R=>w σ H R\/B σ H R):=λh_ s σ H R I q=>by
 rcases q with q|q
 .exact h h_ s σ H R I q
 .exact g h_ s σ H R I q
def sQ{K:Fg}{F1:Hp}(h:ng K F1 a vs)(r:cX K F1 ds vs):kD K F1 (Itl K a) ds:=λF H g s=>by
 have b:=g.sub.seq (s.seq h);refine⟨λi d hd=>?_,λi hi=>⟨vs,b,by rwa[r.length]⟩⟩;obtain⟨v,c,e⟩:=r.get hd;refine⟨⟨vs,v,b,c⟩,λx f y=>?_⟩;obtain⟨rfl,y⟩:=y;have:=y vs b;rw[c]at this;cases this;exact⟨F,Step.refl g,e.mono s⟩
def BA{K:Fg}{F1:Hp}(h:Tq K F1 a vs)(r:cX K F1 ds vs):kD K F1 (Itt K a) ds:=λF H g s=>by
 have b:=((h.mono s).mono g.sub).sq;refine⟨λi d hd=>?_,λi hi=>⟨vs,b,by rwa[r.length]⟩⟩;obtain⟨v,c,e⟩:=r.get hd;refine⟨⟨vs,v,b,c⟩,λx f y=>?_⟩;obtain⟨rfl,y⟩:=y;have:=y vs b;rw[c]at this;cases this;exact⟨F,Step.refl g,e.mono s⟩
def Ua(h:SE X C e xe):SI X C tg e (.itv xe):=PI.imp (PI.or (PI.or (zj h) (KR h)) (KS h)) λσ H R i=>by
 refine ac λ_ j=>?_;obtain⟨l,items,F,hi,g,f,k⟩:=i;obtain⟨⟨d,fr⟩,h1,h2⟩:=cA hi
 refine j ?_;cases d with
 |lst m=>
   cases h2;refine .inl (.inl ⟨l,_,fr,h1,F,g,f,λv F1 b st r _=>?_⟩);obtain⟨a,vs,rfl,c,r⟩:=r;exact⟨a,W,⟨vs,st.good.sub.seq c⟩,k _ F1 b st (sQ c r)⟩
 |tup m=>
   cases h2;refine .inl (.inr ⟨l,_,fr,h1,F,g,f,λv F1 b st r _=>?_⟩);obtain⟨a,vs,rfl,c,r⟩:=r;exact⟨a,W,⟨vs,(c.mono st.good.sub).sq⟩,k _ F1 b st (BA c r)⟩
 |str x=>
   cases h2;refine .inr ⟨l,_,fr,h1,F,g,f,λv F1 b st r _=>?_⟩;cases r;exact⟨x,W,k _ F1 b st BB⟩
 |_=>cases h2
def LN{K:Fg}{F1:Hp}{lo:Int}:kD K F1 (Itr lo n) ((aQ n).map λk:Nat=>Dat.int (lo+k)):=λF H g s=>by
 refine⟨λi d hd=>?_,λi hi=>(by simpa using hi:n<=i)⟩;rw[aR]at hd
 have hi:i<n:=by
  by_cases hi:i<n
  .exact hi
  simp_all
 rw[af (by simpa using hi)]at hd;simp only[rP,c7,ie]at hd;subst hd;refine⟨hi,λx a y=>?_⟩;obtain⟨rfl,rfl⟩:=y;exact⟨F,Step.refl g,W⟩
set_option tactic.hygienic true in
def OC(B:Gl X "range")(O:X.mg "range"=L)(ha:SA X C [a] [I])(hs:aO [a] X.env=[(J,eval a X.env)]):SI X C tg (.Call (.Name "range" p) [a] [] pos) (.rng [I]):=
 PI.imp (HY B O ha hs) λσ H R c=>by
  obtain⟨i,items,F,hi,g,d,k⟩:=c;obtain⟨l,h1,h2⟩:=cA hi;refine⟨i,l,h1,F,g,d,λvs F1 e st r=>?_⟩;unfold Dy at h2;split at h2
  .rename_i j;split at h2
   .rename_i f;cases h2;obtain⟨v,w,rfl,h,b⟩:=r;cases h;cases b;refine⟨j,W,by omega,fU f.1 bR,k _ F1 e st ?_⟩;simpa using (LN (K:=X.K) (F1:=vX (.rng _) F1) (lo:=0) (n:=j.toNat))
   .cases h2
  .cases (l8 h1)
  .cases h2
end
def Il(h:qr f (d::ds)=Y g):∃o r,f d=Y o/\qr f ds=Y r/\g=(match o with|some y=>(y.1::r.1,(y.2 || im y.1) && r.2)|none=>r):=by
 obtain⟨o,h1,h⟩:=cA h;obtain⟨r,h2,h⟩:=ee h;exact⟨o,r,h1,h2,by cases o<;>exact h.symm⟩
def Xj(K:Fg)(nt:Nat)(one:Bool)(g:TG):Prop:=∀F H σ c d x b Q,Good F H->nJ K F σ c->nt<=Z σ->Z σ=Z c->Rep K F d x->GS nt one d c=Y b->(∀a,nJ K F a b->Q a H)->g x σ H Q
def A7{K:Fg}{σ:St}{ρ:ic}(hl:Z σ=Z ρ)(R:nJ K F σ ρ)(r:Rep K F d v):nJ K F (σ.set i (Y v)) (ρ.set i (Y d)):=λj b q=>by
 rw[tw]at q ⊢;by_cases a:i=j
 .simp_all
 .rw[if_neg a]at q ⊢;exact R j b q
def N8{K:Fg}:Xj K nt U (lz 0):=λF H σ c d x b Q g R a hl r hb k=>by
 simp only[GS,ie]at hb;subst hb;exact k _ (A7 hl R r)
def IT{K:Fg}(R:nJ K F σ ρ):nJ K F (ja nt caps σ) (j2 nt caps ρ):=λi d q=>by
 unfold j2 at q;unfold ja;by_cases hi:i<nt
 .rw[aY (by simpa using hi),cG,if_pos hi]at q;cases q
 .rw[aS (by simpa using hi),fT,aR]at q;rw[aS (by simpa using hi),fT]
  cases b:caps[i - nt]? with
  |none=>rw[b]at q;cases q
  |some j=>
    rw[b]at q;have a:(ρ[j]?).join=Y d:=bI q
    have c:ρ[j]?=Y (Y d):=by
     cases z:ρ[j]? with
     |none=>rw[z]at a;cases a
     |some o=>rw[z]at a;exact congrArg Y a
    obtain⟨v,e,f⟩:=R j d c
    simp_all
def XG(K:Fg)(C:Fs)(xs:List Ex):TT:=λσ H Q=>∃a b,BZ C xs a=Y b/\tT K a b σ H Q
section
variable{iter:ba}
def Oe:Ny B [] (XG B.K C []):=λh_ s σ H Q I a=>by
 refine ac λ_ c=>?_;obtain⟨d,b,h,F,g,R,k⟩:=a;cases h;refine c ?_;exact O7 h_ s σ H Q I (k F H (Step.refl g))
def Od(h:ST B C c xe):Ny B [c] (XG B.K C [xe]):=λh_ s σ H Q I a=>by
 refine ac λ_ i=>?_;obtain⟨j,b,hb,F,g,R,k⟩:=a;refine i ?_;refine O6 h h_ s σ H Q I ?_;simp only[BZ]at hb;obtain⟨⟨d,fr⟩,h1,hb⟩:=cA hb;obtain⟨z,e,hb⟩:=cA hb;refine⟨j,d,fr,z,h1,e,F,g,R,λF1 f st=>?_⟩
 grind
set_option tactic.hygienic true in
def yq{K:Fg}(O:Xj K nt one g)(a5:∀ρ items,zH C it ρ=Y items->True) :
  ∀σ H Q,gE K C (.comp nt one caps it xs xe) σ H Q->JV (gI K C it) nt caps g (XG K C xs) (gE K C xe) σ H Q:=λσ H Q z3=>by
 refine ac λ_ S=>?_;obtain⟨ρ,d,fr,h,F,g0,R,k⟩:=z3;obtain⟨items,h1,h⟩:=cA h;refine S ?_;split at h
 .rename_i hz;refine ac λ_ S=>?_;obtain⟨⟨all,T⟩,h2,h⟩:=ee h;cases h;refine S ?_;refine⟨ρ,_,F,h1,g0,R,λJ' F1 U' j ok=>?_⟩;refine⟨λi m ys H'=>∃F' r u dr w,Step F1 U' F' H'/\qr (oF C nt _ (j2 nt _ ρ) xs xe) (items.drop i)=Y (dr,w)/\all=r++dr/\T=(u && w)/\cX K F' r ys/\(u=U->fD K U' H' r ys)/\m=Z items - i/\i<=Z items/\Z r<=i,⟨_,F1,[],U,_,T,Step.refl j.good,h2,W,W,W,λ_=>.nil,W,aK _,ak _⟩,?_⟩;rintro i m ys H' ⟨F',r,u,dr,w,st,D,ha,n,E,L',rfl,hi,y⟩;have V:Z ys<=1000000:=by rw[E.length];exact aa y (aa hi hz)
  obtain⟨M,YO⟩:=ok F' H' st.good (BP st.ff);by_cases a:i<Z items
  .obtain⟨go,yl⟩:=M i _ (af a);refine .inr ⟨go,by exact ao V bR,λx H2 y2=>?_⟩;obtain⟨N,c,r2⟩:=yl x H2 y2;rw[eP a]at D;obtain⟨o,⟨G,I⟩,h3,c0,h5⟩:=Il D;obtain⟨s,h6,h3⟩:=cA h3;obtain⟨b,h7,h3⟩:=cA h3;refine O N H2 _ _ _ x s _ c.good ((IT R).mono ((j.ff.trans st.ff).trans c.ff)) (by simp[ja]) (by simp[ja,j2]) r2 h6 λσ1 A=>?_;refine⟨s,b,h7,N,c.good,A,λX H3 f=>?_⟩
   cases b with
   |true=>
     refine ac λ_ S=>?_;obtain⟨⟨l,t⟩,h8,h3⟩:=ee h3;cases h3;refine S ?_;refine⟨s,l,t,h8,X,f.good,A.mono f.ff,λv F4 H4 q c3 f4=>?_⟩;have AJ:=((st.trans c).trans f).trans q;have e5:dr=l::G/\w=((t || im l) && I):=by grind
     refine⟨_,kX (ws a) (wt (ax a)),F4,_,_,G,I,AJ,c0,by rw[ha,e5.1];simp,by rw[n,e5.2,Rt],(E.mono ((c.ff.trans f.ff).trans q.ff)).append (.one c3),λz=>?_,W,a,by simp;omega⟩;simp only[ag,lM]at z;have B:=c.hh.trans f.hh;refine fD.snoc (st.hh.trans B) q.hh ((L' z.1).mono B) ?_
     rcases z.2 with P|P
     .exact f4 P
     .exact .kQ q.good P c3
   |false=>
     cases h3;have e5:dr=G/\w=I:=by simp_all
     exact⟨_,kX (ws a) (wt (ax a)),X,r,u,G,I,(st.trans c).trans f,c0,by rw[ha,e5.1],by rw[n,e5.2],E.mono (c.ff.trans f.ff),λz=>(L' z).mono (c.hh.trans f.hh),W,a,cU y⟩
  .have e :=aD hi (bV a);subst e;refine .inl ⟨YO _ (ak _),n6 V,λp hp=>?_⟩;rw[ox]at D;cases D;rw[aI]at ha;rw[gR]at n;subst ha n;exact k _ _ _ ((j.trans st).trans (Step.alloc st.good hp)) ⟨p,ys,W,.inl (.inl cW),(E.mono (cc.upd (o:=.lst ys) (st.good.sub.free hp)))⟩ λz=>.lst (j.hh.trans st.hh) hp ((L' z).back (F:=F) j.hh)
 .cases h
end
def pz{K:Fg}(h:ub d=Y k)(r:Rep K F d v):v=kV k:=by
 cases d with
 |int i=>cases h;exact r
 |str x=>cases h;exact r
 |_=>cases h
set_option tactic.hygienic true
theorem pT{K:Fg}:∀{ds:List Dat}{g:List (Key×V)},iO k (g.map (·.1)) ds=Y d->cX K F ds (g.map (·.2))->∃v,o7 g k=Y v/\Rep K F d v
 |[],[],h,_=>by cases h
 |[],_::_,h,_=>by cases h
 |_::_,[],h,_=>by cases h
 |e::ds,p::g,h,r=>by
   obtain⟨v,w,q,a,b⟩:=r;cases q;simp only[aA,iO]at h;split at h
   .rename_i z;cases h;exact⟨_,AE z,a⟩
   .rename_i z;obtain⟨v,c,f⟩:=pT h b;exact⟨v,(uX z).trans c,f⟩
theorem sO{K:Fg}:∀{ds:List Dat}{g:List (Key×V)},iO k (g.map (·.1)) ds=L->cX K F ds (g.map (·.2))->o7 g k=L
 |_,[],_,_=>rfl
 |[],p::g,_,r=>by cases r
 |e::ds,p::g,h,r=>by
   obtain⟨v,w,q,b,a⟩:=r;cases q;simp only[aA,iO]at h;split at h
   .cases h
   .rename_i z;exact(uX z).trans (sO h a)
set_option tactic.hygienic false
section
variable{X:Cx}{C:Fs}{e:ba}{σ:St}{F H:Hp}
def GV{K:Fg}(r:cX K F ds vs)(h:uK ds i=Y d):∃v,uK vs i=Y v/\Rep K F d v:=by
 unfold uK at h ⊢;rw[r.length];obtain⟨j,h1,h2⟩:=cA h;obtain⟨v,b,a⟩:=r.get h2;exact⟨v,by rwa[h1],a⟩
set_option tactic.hygienic true in
def abr(O:X.A.units+1<dR):Xn X (gB X.K λx y=>(x5 x y).map λd=>(d,J)):=by
 intro value slice h_ s σ H x y v u Q I f j h hs;refine ac λ_ e=>?_;obtain⟨R,n,d,fr,h,F,g,l,m,k⟩:=h;obtain⟨S,h1,h2⟩:=ee h;obtain⟨rfl,rfl⟩:S=d/\J=fr:=by cases h2;exact⟨W,W⟩
 refine e ?_;by_cases b:∃P G,R=.dct P G
 .refine ac λ_ e=>?_;obtain⟨P,G,rfl⟩:=b;have o:(ub n).bind (λk=>iO k P G)=Y S:=by cases n<;>exact h1
  obtain⟨T,hk,hl⟩:=cA o;obtain⟨a,k_,rfl,q,rfl,B⟩:=l;obtain⟨w,M,N⟩:=pT hl B;obtain rfl:=pz hk m;cases f;refine e ?_;have dg:tf H a (kV T) (Y w):=by rw[<-M];exact tf.k (g.sub _ _ q)
  exact NH (tR I dg) wq.lookup (yp I dg j λJ' s' V D=>⟨w,H,V,D,k _ F H (Step.refl g) N be⟩) hs
 cases R<;>first|exact absurd ⟨_,_,W⟩ b|skip
 all_goals cases n<;>simp only[x5,reduceCtorEq]at h1
 .
  split at h1
  .rename_i z i E;obtain⟨c,h3,rfl⟩:=ee h1;exact Wa _ _ h_ s σ H x y v u Q I f j ⟨z,i,c,l,m,E,h3,k _ F H (Step.refl g) W be⟩ hs
  .cases h1
 .rename_i G i;obtain⟨p,vs,rfl,t,r⟩:=l;obtain⟨w,M,N⟩:=GV r h1;exact V9 _ _ h_ s σ H _ y v u Q I f j ⟨p,vs,i,w,W,m,(t.mono g.sub).sq,M,k _ F H (Step.refl g) N be⟩ hs
 .rename_i G i;obtain⟨p,vs,rfl,t,r⟩:=l;obtain⟨w,M,N⟩:=GV r h1;exact uE _ _ h_ s σ H _ y v u Q I f j ⟨p,vs,i,w,W,m,g.sub.seq t,M,k _ F H (Step.refl g) N be⟩ hs
def gO(K:Fg)(C:Fs)(x:Option Ex):TO:=λσ H Q=>∃a o F,ZU C a x=Y o/\Good F H/\nJ K F σ a/\∀c b,Step F H c b->Q o b
abbrev SO(X:Cx)(C:Fs)(e:Option ba)(x:Option Ex):Prop:=PO X e (gO X.K C x)
def PO.imp{e:Option ba}{t t':TO}(h:PO X e t)(f:∀σ H Q,t' σ H Q->t σ H Q):PO X e t':=λh_ s σ H Q I q=>h h_ s σ H Q I (f _ _ _ q)
def Ou:SO X C L L:=PO.imp Pb λσ H Q a=>by
 obtain⟨b,o,F,ho,g,R,k⟩:=a;cases ho;exact k F H (Step.refl g)
def Ot(h:SE X C e B):SO X C (Y e) (Y B):=PO.imp (Pa h) λσ H Q a=>by
 obtain⟨c,o,F,ho,g,R,k⟩:=a;obtain⟨⟨d,fr⟩,h1,h2⟩:=cA ho
 cases d with
 |int i=>
   cases h2;exact⟨c,_,fr,h1,F,g,R,λv F1 b st r _=>⟨i,r,k F1 b st⟩⟩
 |_=>cases h2
def gSl(K:Fg):V->Option Int->Option Int->Hp->VK->Prop:=λx lo hi H Q=>∃b d fr F,E8 b lo hi=Y (d,fr)/\Good F H/\Rep K F b x/\∀v c a,Step F H c a->Rep K c d v->(fr=U->gh K H a d v)->Q v a
def zL{K:Fg}(lo hi:Option Int)(r:cX K F ds vs):cX K F (cutD ds lo hi) (Em vs lo hi):=by
 unfold cutD Em;rw[<-r.length];exact(r.drop _).take _
def rz{s:ai}{sl:aL}{lo:Option Int}(ht:Af s.heap t items)(hs:s.heap.IsSliceOf sl g I .none)(pl:rZ g lo)(O:rZ I hi)
  (B:HT.jC items.size 0 lo=0/\HT.jC items.size items.size hi=items.size)
  (h:Q (.ref t) s):aF (aG prog w) A (getItem (.ref t) (.ref sl)) Q E s:=by
 obtain⟨os,b,c,f⟩:=id hs;unfold getItem
 try with_reducible refine cB ?_
 first|refine wb9 _|skip
 refine wb9 (wpAny_sequenceKey ht.typeIs bR ?_)
 refine wb9 (cM ht.typeIs dB
  (bO dB ht.typeIs entry_tuple_getitem ?_ (args_tuple_getitem _ _)))
 show aF _ _ (kM _ >>= _) _ _ s;refine wb9 (tupleItemsOf_ ht ?_);refine wb9 (iT ⟨os,b,c⟩ ?_);refine wb9 (HT.nv hs pl O ?_)
 have a:((((HT.jC items.size 0 lo):Int) == 0 && (1:Int) == 1 && (HT.jC items.size items.size hi - HT.jC items.size 0 lo) == items.size)=U):=by
  rw[B.1,B.2];simp
 show aF _ _ (if(((HT.jC _ 0 lo):Int) == 0 && (1) == 1 && (HT.jC _ _ hi - HT.jC _ 0 lo) == items.size)=U then _ else _) _ _ s;rw[if_pos a];refine wb9 ?_;exact wb9 (iT ht.typeIs (wu9 (wb9 (gm (wu9 ⟨_,W,wu9 h⟩)))))
set_option tactic.hygienic true
def aaN:SlR X (gSl X.K):=by
 intro h_ s σ H x v w y lo hi sl Q I c hs pl f h;obtain⟨P,d,fr,F,h,g,m,k⟩:=h
 cases P with
 |lst E=>
   cases h;obtain⟨p,vs,rfl,t,r⟩:=m;refine OA h_ s σ H _ v w y lo hi sl Q I c hs pl f ⟨p,vs,W,g.sub.seq t,λq b=>?_⟩;exact k _ _ _ (Step.alloc g b) ⟨q,_,W,.inl (.inl cW),((zL lo hi r).mono (cc.upd (o:=.lst _) (g.sub.free b)))⟩ λz=>.lst (cc.refl _) b (.kQ g z (zL lo hi r))
 |str z=>
   simp only[E8]at h;split at h
   .rename_i A;cases h;rw[m]at c;obtain⟨t,rfl⟩:=c;obtain⟨o,ho,hc,hd⟩:=hs;refine⟨_,_,PySem.F.slot_str_getitem.lookup,typeIs_str ..,?_⟩;have fin:∀M O,EP X h_ σ Q (.str _ M) _:=λM O=>⟨.str _,H,I.tok O,⟨M,W⟩,k _ F H (Step.refl g) W be⟩
    have a:=aa (Aq z lo hi) A
    cases pl with
    |none=>
      cases f with
      |none=>exact kF (l:=L) (u:=L) (st:=L) ⟨o,ho,hc,hd⟩ W (qF ⟨a,fin⟩)
      |int j n=>exact kF (l:=L) (u:=Y (j,n)) (st:=L) ⟨o,ho,hc,hd⟩ W (qF ⟨a,fin⟩)
    |int i B=>
      cases f with
      |none=>exact kF (l:=Y (i,B)) (u:=L) (st:=L) ⟨o,ho,hc,hd⟩ W (qF ⟨a,fin⟩)
      |int j n=>exact kF (l:=Y (i,B)) (u:=Y (j,n)) (st:=L) ⟨o,ho,hc,hd⟩ W (qF ⟨a,fin⟩)
   .cases h
 |tup E=>
   cases h;obtain⟨p,vs,rfl,t,r⟩:=m;by_cases D:HT.jC E.length 0 lo=0/\HT.jC E.length E.length hi=Z E
   .have e:cutD E lo hi=E:=by
     unfold cutD
     simp_all
    rw[e]at k;cases c;obtain⟨N,G,ht,A⟩:=I.tuple (t.mono g.sub).sq;have hlen:N.toArray.size=Z E:=by rw[bC,<-G.length,r.length]
    exact⟨_,_,dB.lookup,ht.typeIs,rz ht hs pl f (by rwa[hlen]) ⟨.ref p,H,I,W,k _ F H (Step.refl g) ⟨p,vs,W,t,r⟩ be⟩⟩
   .exact T7 h_ s σ H _ v w y lo hi sl Q I c hs pl f ⟨p,vs,W,(t.mono g.sub).sq,by rwa[r.length],λq b=>k _ _ _ (Step.alloc g b) ⟨q,_,W,.inl cW,(zL lo hi r).mono (cc.upd (g.sub.free b))⟩ be⟩
 |_=>cases h
def Yk{lo:Option ba}(ha:SE X C a B)(hl:SO X C lo I)(hh:SO X C hi O):SE X C (.Subscript a (.Slice lo hi L P) pos) (.sl B I O):=
 PE.imp (K1 aaN ha hl hh) λσ H Q j=>by
  refine ac λ_ e=>?_;obtain⟨y,d,fr,h,F,g,R,k⟩:=j;obtain⟨⟨A,m⟩,h1,h⟩:=cA h;obtain⟨l,h2,h⟩:=cA h;obtain⟨u,h3,h⟩:=cA h;refine e ?_;exact ⟨y,A,m,h1,F,g,R,λv F1 t b n _=>⟨y,l,F1,h2,b.good,R.mono b.ff,λo E c=>⟨y,u,o,h3,c.good,R.mono (b.ff.trans c.ff),λp x f=>⟨A,d,fr,p,h,f.good,n.mono (c.ff.trans f.ff),λw q D i r s=>k w q D (((b.trans c).trans f).trans i) r λz=>(s z).back (F:=F) ((b.hh.trans c.hh).trans f.hh)⟩⟩⟩⟩
def U7(B:X.A.units+20<dR):j8 X (compareOp .NotEq) (gB X.K (rJ .ne)):=λh_ s σ H x y v u Q I c f a=>by
 refine ac λ_ e=>?_;obtain⟨m,i,d,fr,h,F,g,j,l,k⟩:=a;obtain⟨b,hd,rfl,rfl⟩:=kC h;refine e ?_;simp only[jM]at hd;split at hd
 .rename_i hs;cases hd;simp only[ag]at hs;exact(v3 I g 20 _ m i B hs.1 hs.2 j l c f).2.2 _ _ _ _ ⟨.bl _,H,I,W,k _ F H (Step.refl g) W be⟩
 .cases hd
set_option tactic.hygienic false
def cis9{K:Fg}{g c:Dat}{x:V}(a:Rep K F g x)(hd:cIs b g c=Y r):c=.non/\r=bif b then decide (x=.non) else !decide (x=.non):=by
 cases c with
 |non=>
   refine⟨W,?_⟩
   cases g with
   |any=>cases hd
   |non=>cases a;cases hd;cases b<;>rfl
   |_=>have e:x≠.non:=λe=>by cases e;first|cases a;done|obtain⟨p,vs,e,_⟩:=a;cases e
       rw[decide_eq_false e];cases hd;cases b<;>rfl
 |_=>cases hd
def Pq:j8 X (compareOp .Is) (gB X.K (rJ .isn)):=j8.imp Vb λx y H Q z=>by
 obtain⟨i,c,d,fr,h,F,g,a,f,k⟩:=z;obtain⟨b,hd,rfl,rfl⟩:=kC h;obtain⟨rfl,rfl⟩:=cis9 (b:=U) a hd;exact⟨f,k _ F H (Step.refl g) W be⟩
def K6:j8 X (compareOp .IsNot) (gB X.K (rJ .nisn)):=j8.imp Pl λx y H Q z=>by
 obtain⟨i,c,d,fr,h,F,g,a,f,k⟩:=z;obtain⟨b,hd,rfl,rfl⟩:=kC h;obtain⟨rfl,rfl⟩:=cis9 (b:=J) a hd;exact⟨f,k _ F H (Step.refl g) W be⟩
end
end M
namespace L2
open PySem PySem.Spec PyProof.Rows
def rL(tp:Bool)(h:cx)(it l:aL)(i:Nat):Prop:=match tp with
 |true=>h.IsTupleIter it l i
 |false=>h.IsListIter it l i
def qD(tp:Bool)(h:cx)(l:aL)(xs:Array ah):Prop:=match tp with
 |true=>h.IsTuple l xs
 |false=>h.IsList l xs
def rL.keep{g:cx}(y:rL tp h it l i)(k:∀o,h.get? it=Y o->g.get? it=Y o):rL tp g it l i:=by
 cases tp<;>exact(let ⟨o,e,r⟩:=y;⟨o,k o e,r⟩)
def qD.keep{g:cx}(y:qD tp h l xs)(k:∀o,h.get? l=Y o->g.get? l=Y o):qD tp g l xs:=by
 cases tp<;>exact(let ⟨o,e,r⟩:=y;⟨o,k o e,r⟩)
def rL.obj(y:rL tp h it l i):∃o,h.get? it=Y o/\o.cls=.type (if tp then "tuple_iterator" else "list_iterator")/\o.data=.fields #[.ref l,.int i 0]:=by
 cases tp<;>exact y
def qD.obj(y:qD tp h l xs):∃o,h.get? l=Y o/\o.cls=.type (if tp then "tuple" else "list")/\∃n,o.data=.seq xs n:=by
 cases tp<;>exact y
section
open Builtin
variable{A:bT}{s:ai}
def Lg(B:s.heap.IsTupleIter it q i)(O:s.heap.IsTuple q xs)(C:xs[i]?=Y v)
  (k:∀F,F.IsTupleIter it q (i+1)->cP it s.heap F->Q v { s with heap:=F }):aF (aG prog w) A (iq (.ref it)) Q E s:=by
 refine ac λ_ j=>?_;obtain⟨f,b,e,a⟩:=id B;obtain⟨g,c,_,h,d⟩:=O;refine j ?_;refine wb9 (cM B.typeIs fY (bO fY B.typeIs qG ?_ (qo _)));show aF (aG _ w) _ (field _ 0 >>= _) _ _ s;refine wb9 (df b a W ?_);refine wb9 (df b a W ?_);refine wb9 (dh c d ?_);simp only[t7,C];refine wb9 (wpAny_setField b a (by simp) (wu9 ⟨v,W,wu9 (k _ ⟨_,eT _ b (Obj.isFreed_of_fields (Jx a _)),(Obj.cls_mapFields ..).trans e,?_⟩ (om ..))⟩));rw[Jx a];simp[rawInt]
def PH(O:A.handled=L)(B:s.heap.IsTupleIter it q i)(C:s.heap.IsTuple q xs)(F:xs[i]?=L)
  (k:∀I e,EK it s.heap I->(∃o,I.get? e=Y o/\o.cls=.type "StopIteration")->E (.ref e) { s with heap:=I }):aF (aG prog w) A (iq (.ref it)) Q E s:=by
 refine ac λ_ l=>?_;obtain⟨f,a,g,b⟩:=id B;obtain⟨h,c,_,j,d⟩:=C;refine l ?_;refine wb9 (cM B.typeIs fY (bO fY B.typeIs qG ?_ (qo _)));show aF (aG _ w) _ (field _ 0 >>= _) _ _ s;refine wb9 (df a b W ?_);refine wb9 (df a b W ?_);refine wb9 (dh c d ?_);simp only[t7,F];refine wb9 (gm (wb9 (wpAny_setField a b (by simp) ?_)));refine wb9 ?_;refine wb9 (dH (wb9 (kE (by first|rfl|(rfl)) (dH ?_ (by size_fits)))) (by size_fits));refine wb9 (wpAny_handled ?_)
 first|rw[O]|rw[O]
 exact wb9 (wu9 (wpAny_throw (k _ _ (((om ..).extBut.push _).push _) ⟨_,aH _ W,W⟩)))
def PF(B:rL tp s.heap it q i)(O:qD tp s.heap q xs)(g:xs[i]?=Y v)
  (k:∀C,rL tp C it q (i+1)->cP it s.heap C->Q v { s with heap:=C }):aF (aG prog w) A (iq (.ref it)) Q E s:=by
 cases tp
 .exact wpAny_nextOf_list_item B O g k
 .exact Lg B O g k
def Vm(B:A.handled=L)(O:rL tp s.heap it q i)(g:qD tp s.heap q xs)(C:xs[i]?=L)
  (k:∀F e,EK it s.heap F->(∃o,F.get? e=Y o/\o.cls=.type "StopIteration")->E (.ref e) { s with heap:=F }):aF (aG prog w) A (iq (.ref it)) Q E s:=by
 cases tp
 .exact wpAny_nextOf_list_end B O g C k
 .exact PH B O g C k
end
noncomputable def abv(tp:Bool):String:=if tp then "tuple_iterator" else "list_iterator"
def DX(tp:Bool)(l:aL):lD:={ cls:=.type (abv tp),data:=.fields #[.ref l,.int 0 0] }
def Qh{h:cx}(e:h.get? it=Y (DX tp l)):rL tp h it l 0:=by
 cases tp<;>exact⟨_,e,W,W⟩
section
variable{s:ai}
def HU(B:qD tp s.heap l xs)(k:Q (.ref s.heap.objs.size) { s with heap:=s.heap.push (DX tp l) }):aF (aG prog w) A (CU (.ref l)) Q E s:=by
 cases tp
 .exact wJ B k
 .exact wpAny_pyIter_tuple B k
end
section
end
section
variable{h':cx}
def Inv.ur{t':Nat}{ch:List aL}(I:Inv X h_ σ H s)(k:∀b o,b∉ch->s.heap.get? b=Y o->h'.get? b=Y o)(hf:∀b∈ch,rM X h_ H b):Inv X h_ σ H { s with heap:=h',toks:=t' }:=by
 have a:∀b u,H b=Y u->b∉ch:=λb u e z=>by rw[(hf b z).1]at e;cases e
 refine I.step (λb hb=>⟨(hf b hb).2.2.2.1,(hf b hb).2.1,(hf b hb).2.2.2.2.1,(hf b hb).2.2.2.2.2⟩) (λb o _ _ hc e _=>k b o hc e) (λb o _ _ hc e _=>⟨_,k b o hc e⟩) (λ_ _ _ _ n=>n)
  (λb o hc e=>⟨o,k b o hc e⟩) (λ_ _ e=>e) (λ_ _ _ e=>e) (λm c=>?_) (λb u e=>((I.hok b u e).oK λv=>k b v (a b u e))) I.bare
 .obtain⟨o,d,f,ho,r⟩:=c;exact⟨o,d,f,k _ o (λz=>(hf _ z).2.1 W) ho,r⟩
end
def EB(tp:Bool)(K:aP)(H:Hp)(a:aL)(xs:List V):Prop:=match tp with
 |true=>tZ K H a xs
 |false=>ng K H a xs
def EB.inj(I:Inv X h_ σ H s)(h:EB tp X.K H a xs)(g:EB tp X.K H a B):xs=B:=by
 cases tp
 .exact I.pv h g
 .exact I.pP h g
def EB.at (I:Inv X h_ σ H s)(h:EB tp X.K H a xs):∃its:List ah,cV xs its/\qD tp s.heap a its.toArray:=by
 cases tp
 .obtain⟨its,b,p,_⟩:=I.list h;exact⟨_,b,p.isList⟩
 .obtain⟨its,b,p,_⟩:=I.tuple h;exact⟨_,b,p⟩
def oO(h:cx)(it:aL)(x:aW)(t:Ha)(i:Nat):Prop:=h.IsStrIter it (strIterType x) x t i
def oO.keep{g:cx}(y:oO h it x t i)(k:∀o,h.get? it=Y o->g.get? it=Y o):oO g it x t i:=let ⟨o,e,r⟩:=y;⟨o,k o e,r⟩
section
open Builtin
variable{A:bT}{s:ai}
def yR(B:oO s.heap it x t i)(O:x.cps[i]?=Y c)
  (k:∀g,oO g it x t (i+1)->cP it s.heap g->Q (.str ⟨#[c]⟩ s.toks) { s with heap:=g,toks:=s.toks+1 }):aF (aG prog w) A (iq (.ref it)) Q E s:=by
 unfold oO strIterType at B k;cases ha:x.cps.all (·< 128)
 .simp only[ha,bS,if_false]at B k;exact wpAny_nextOf_wide_item B O k
 .simp only[ha,if_true]at B k;exact wpAny_nextOf_ascii_item B O k
def Dh(O:A.handled=L)(B:oO s.heap it x t i)(g:x.cps[i]?=L)
  (k:∀C e,EK it s.heap C->(∃o,C.get? e=Y o/\o.cls=.type "StopIteration")->E (.ref e) { s with heap:=C }):aF (aG prog w) A (iq (.ref it)) Q E s:=by
 unfold oO strIterType at B;cases ha:x.cps.all (·< 128)
 .simp only[ha,bS,if_false]at B;exact wpAny_nextOf_wide_end O B g k
 .simp only[ha,if_true]at B;exact wpAny_nextOf_ascii_end O B g k
end
noncomputable def p6(x:aW)(t:Ha):lD:={ cls:=.type (strIterType x),data:=.fields #[.str x t,.int 0 0] }
def E9{h:cx}(e:h.get? it=Y (p6 x t)):oO h it x t 0:=⟨_,e,W,W⟩
section
end
noncomputable def Z5(x y:aW):It:=
 ⟨λi _=>∃c d,x.cps[i]?=Y c/\y.cps[i]?=Y d,
  λi H v a=>∃T,H T=L/\v=.ref T/\∃c d,x.cps[i]?=Y c/\y.cps[i]?=Y d/\a=upd H T (.tup [.str ⟨#[c]⟩,.str ⟨#[d]⟩]),
  λi _=>x.cps[i]?=L\/y.cps[i]?=L⟩
def Mz{A:bT}(hh:A.handled=L)(it:aL)(x:aW)(t:Ha) :
  Draws prog w A it [it] x.cps.size (λi v=>∃u c,x.cps[i]?=Y c/\v=.str ⟨#[c]⟩ u) (λi h=>oO h it x t i) where
 live:=λ_ _ st=>let ⟨o,ho,_⟩:=st;⟨o,ho⟩
 frame:=λ_ _ _ st hk=>st.keep λo e=>hk it (by simp) o e
 item:=λi s Q E hi st d=>yR st (c:=x.cps[i]) (by simp[hi]) λg a b=>d _ g _ ⟨_,_,by simp[hi],W⟩ a b
 done:=λs Q E st f=>Dh hh st (by simp) f
def IK{A:bT}(hh:A.handled=L)(it:aL)(x:aW)(t:Ha)(i:Nat)(hi:x.cps.size<=i) :
  Draws prog w A it [it] i (λ_ _=>True) (λj h=>j=i/\oO h it x t i) where
 live:=λ_ _ st=>let ⟨o,ho,_⟩:=st.2;⟨o,ho⟩
 frame:=λ_ _ _ st hk=>⟨st.1,st.2.keep λo e=>hk it (by simp) o e⟩
 item:=λj s Q E a st c=>absurd st.1 (a9 a)
 done:=λs Q E st b=>Dh hh st.2 (by simp[hi]) b
set_option tactic.hygienic true in
def WC(x:aW)(t:Ha) :
  Meets (iC.«enumerate.__new__» ⟨[.type "enumerate",.str x t],[]⟩) (λ_ R s=>
   R (.ok (.ret (.ref (s.heap.push (p6 x t)).objs.size))) { s with heap:=(s.heap.push (p6 x t)).push { cls:=.type "enumerate",data:=.fields #[.none,.bool J,.ref s.heap.objs.size,rawInt 0,.none,.none] } }):=
 .of_wp λprog w A R s h=>by
  obtain⟨hp,g,d,b,os⟩:=s;have a:=sub_enumerate
  wp_walk
  refine wpAny_stack_any λst=>wu9 ?_;split
  .rename_i c _ _ _ _ _;cases(c == gG "enumerate")
   .wp_walk using oQ (x:=x) (t:=t)
    exact⟨_,W,h⟩
   .wp_walk using oQ (x:=x) (t:=t)
    exact⟨_,W,h⟩
  .wp_walk using oQ (x:=x) (t:=t)
   exact⟨_,W,h⟩
section
variable{s:ai}
def QB
  (k:∀g,IsEnum g (s.heap.objs.size+1) s.heap.objs.size 0 .none->oO g s.heap.objs.size x t 0->(∀b o,s.heap.get? b=Y o->g.get? b=Y o)->Q (.ref (s.heap.objs.size+1)) { s with heap:=g }) :
  aF (aG prog w) A (call (.type "enumerate") [.str x t]) Q E s:=by
 refine Jv PySem.F.called_enumerate bR (PySem.F.typeCall_enumerate_1 _) (PySem.F.newCall_enumerate_1 _) (λobj=>uO _ _) PySem.F.entry_enumerate_new (WC x t) ?_;have a:((s.heap.push (p6 x t)).push { cls:=.type "enumerate",data:=.fields #[.none,.bool J,.ref s.heap.objs.size,rawInt 0,.none,.none] }).get? (s.heap.push _).objs.size=Y { cls:=.type _,data:=.fields #[.none,.bool J,.ref _,rawInt 0,.none,.none] }:=aH _ W;rw[(fQ ..)]at a;rw[(fQ ..)];exact⟨⟨_,a,W⟩,k _ a (E9 (hp9 _ (aH _ W))) λb o x=>hp9 _ (hp9 _ x)⟩
end
noncomputable def Xo(x:aW):It:=
 ⟨λi H=>i<x.cps.size,λi H v a=>∃T,H T=L/\v=.ref T/\∃c,x.cps[i]?=Y c/\a=upd H T (.tup [.int i,.str ⟨#[c]⟩]),λi H=>x.cps.size<=i⟩
def N6{K:aP}(x:aW)(t:Ha)(e it:aL)(O:e≠it) :
  Turn P w K (.Tuple elts k pos) (Xo x) [e,it] e (λi h=>(∃B,IsEnum h e it i B)/\oO h it x t i) where
 mem:=by simp
 obj:=λi h st c hc=>by
  obtain⟨⟨B,he⟩,V,R,_,d1⟩:=st;simp only[aw,bx,or_false]at hc
  rcases hc with rfl|rfl
  .exact⟨_,he,λv z=>nomatch z⟩
  .exact⟨_,R,λv z=>by rw[d1]at z;cases z⟩
 keep:=λi h Q st k=>by
  obtain⟨⟨B,he⟩,h1⟩:=st;exact⟨⟨B,k e (by simp) _ he⟩,h1.keep λo q=>k it (by simp) o q⟩
 item:=by
  intro X f g j hc i h_ s σ H E I hf st l;subst f g j;obtain⟨⟨B,he⟩,h1⟩:=st;refine wpAny_pyNext_enum_itemD (Mz (A:=X.A.in1) (I.ok.hd hc) it x t) he h1 l O (by simp[O]) λv Q b p r y C M hk=>?_;obtain⟨u,c,m,rfl⟩:=p;refine⟨_,W,wpAny_letOwnedTupleGo_enum r λN n a=>?_⟩
  have S:∀c o,c∉[e,it]->s.heap.get? c=Y o->N.get? c=Y o:=λc o hc q=>by
   simp only[aw,bx,or_false,not_or]at hc;exact a.extBut c o hc.1 (hk c o hc.1 hc.2 q)
  have D:Inv X h_ σ H { s with heap:=N,toks:=b+1 }:=I.ur (t':=b+1) S hf;have F:s.heap.objs.size≠e:=jx (hl9 he);have G:N.get? s.heap.objs.size=Y { cls:=.type "tuple",data:=.seq #[.int i b,.str ⟨#[c]⟩ u] }:=a.extBut _ _ F C;have d:H s.heap.objs.size=L:=I.hok.fresh (ak _)
  have T:Inv X h_ σ (upd H s.heap.objs.size (.tup [.int i,.str ⟨#[c]⟩])) { s with heap:=N,toks:=b+1 }:=by
   refine D.JR (I.w5 (ak _) d) I.sz ⟨by rw[iR];show 2<=16777216;decide,[.int i b,.str ⟨#[c]⟩ u],.cons ⟨_,W⟩ (.cons ⟨_,W⟩ .nil),?_⟩;exact⟨_,G,W,_,W⟩
  refine⟨.ref s.heap.objs.size,_,T,W,⟨_,d,W,c,m,W⟩,⟨⟨_,by simpa using n⟩,y.keep λo q=>a.extBut _ o O.symm q⟩,λc hc=>?_⟩;rw[eh ?_]
  .exact(hf c hc).1
  .have:c<s.heap.objs.size:=by
    simp only[aw,bx,or_false]at hc
    rcases hc with rfl|rfl
    .exact hl9 he
    .obtain⟨_,q,_⟩:=h1;exact hl9 q
   exact a9 this
 done:=by
  intro X f g j hc i h_ s σ H E I hf st l;subst f g j;obtain⟨⟨B,he⟩,h1⟩:=st;refine wpAny_pyNext_enum_endD (IK (A:=X.A.in1) (I.ok.hd hc) it x t i l) he ⟨W,h1⟩ λQ hk=>⟨W,I.ur (t':=s.toks) (ch:=[it]) (λc o hc q=>?_) λc hc=>hf c ?_⟩
  .exact hk c o (by simpa using hc) q
  .simp only[aw,bx,or_false]at hc ⊢;exact .inr hc
 self:=λ_ _ _ _ _ st h=>let ⟨⟨_,he⟩,_⟩:=st;wpAny_pyIter_enum he h
section
end
section
open Builtin
variable{A:bT}{s:ai}
structure ZAm(z T U' i j b:aL):Prop where
 Tz:T≠z
 Uz:U'≠z
 iz:i≠z
 jz:j≠z
 TU:T≠U'
 Ti:T≠i
 Tj:T≠j
 Ui:U'≠i
 Uj:U'≠j
 ij:i≠j
 bz:b≠z
 bU:b≠U'
 bi:b≠i
 bj:b≠j
def KE{T U':aL}(P:ZAm z T U' i j b)(B:IsZip s.heap z T U' .none)(gT:qm s.heap T (.ref i) (.ref j))(I:qm s.heap U' c d)
  (R:oO s.heap i p tp m)(gj:rL U s.heap j b n)(gb:qD U s.heap b ys)(gx:p.cps[m]?=Y x)(gy:ys[n]?=Y y)
  (k:∀h',IsZip h' z T U' (rawInt s.heap.objs.size)->qm h' U' (.str ⟨#[x]⟩ s.toks) y->oO h' i p tp (m+1)->rL U h' j b (n+1)->qm h' s.heap.objs.size (.str ⟨#[x]⟩ s.toks) y->h'.objs.size=s.heap.objs.size+1->
   (∀e o,e≠z->e≠U'->e≠i->e≠j->s.heap.get? e=Y o->h'.get? e=Y o)->Q (Y (.ref s.heap.objs.size)) { s with heap:=h',toks:=s.toks+1 }):aF (aG prog w) A (pyNext (.ref z)) Q E s:=by
 refine wb9 (jj (cM ⟨_,B,W⟩ kg (bO kg ⟨_,B,W⟩ yI ?_ (xu _))));refine (?_ : aF (aG _ w) _ (field _ 2 >>= _) ..);refine wb9 (df B W (x:=.bool J) W ?_);refine wb9 (df B W rfl (wb9 (dh gT W ?_)));refine wb9 ?_;refine wb9 (df B W rfl (wu9 ?_));refine wb9 (gm (wb9 (df B W rfl (wb9 (bN B (by simp) λh1 C s1=>?_)))));refine wb9 ?_;simp only[uk,NQ,wC,Rj];refine wb9 (wb9 (uf ?_));refine wb9 (yR (R.keep λo e=>s1.extBut _ o P.iz e) gx λh2 D s2=>wu9 ?_);have f :=s2.extBut _ _ P.Ui (s1.extBut _ _ P.Uz I);refine wb9 (dh f W (wb9 (rV f λh3 F s3=>wb9 (mj (wu9 ?_)))));refine wb9 (wb9 (uf ?_));refine wb9 (PF (gj.keep λo e=>s3.extBut _ o P.Uj.symm (s2.extBut _ o P.ij.symm (s1.extBut _ o P.jz e))) (gb.keep λo e=>s3.extBut _ o P.bU (s2.extBut _ o P.bi (s1.extBut _ o P.bz e))) gy λS G g=>wu9 ?_);have h :=g.extBut _ _ P.Uj F;refine wb9 (dh h W (wb9 (rV h λK a l=>wb9 (mj (wu9 (wu9 ?_))))));replace a:qm K U' (.str ⟨_⟩ s.toks) y:=a;refine wb9 (dh a W (wb9 (CP ?_)));have sz:K.objs.size=s.heap.objs.size:=by rw[l.1,g.1,s3.1,s2.1,s1.1]
 have r :=l.extBut _ _ P.Uz.symm (g.extBut _ _ P.jz.symm (s3.extBut _ _ P.Uz.symm (s2.extBut _ _ P.iz.symm C)));refine wb9 ?_;refine wb9 (bN (hp9 _ r) (by simp) λV L' M=>?_);refine bN L' (by simp) λh8 u N=>wu9 ⟨_,W,?_⟩;have up:∀e o,e≠z->K.get? e=Y o->h8.get? e=Y o:=λe o t q=>N.extBut _ _ t (M.extBut _ _ t (hp9 _ q));have O :=N.extBut _ _ (jx (hl9 r)) (M.extBut _ _ (jx (hl9 r)) (aH _ W));have v:h8.objs.size=K.objs.size+1:=by rw[N.1,M.1,fQ]
 rw[sz]at u O v;rw[sz];exact wu9 (k h8 u (up _ _ P.Uz a) ((D.keep λo e=>l.extBut _ o P.Ui.symm (g.extBut _ o P.ij (s3.extBut _ o P.Ui.symm e))).keep λo e=>up _ o P.iz e) ((G.keep λo e=>l.extBut _ o P.Uj.symm e).keep λo e=>up _ o P.jz e) O v λe o t X e3 H q=>up e o t ((λe o t X e3 H q=>l.extBut _ _ X (g.extBut _ _ H (s3.extBut _ _ X (s2.extBut _ _ e3 (s1.extBut _ _ t q))))) e o t X e3 H q))
def O4{T U':aL}(O:A.handled=L)(P:ZAm z T U' i j b)(B:IsZip s.heap z T U' .none)(gT:qm s.heap T (.ref i) (.ref j))(R:qm s.heap U' c d)
  (S:oO s.heap i p tp m)(gj:rL U s.heap j b n)(gb:qD U s.heap b ys)(ge:p.cps[m]?=L\/ys[n]?=L)
  (k:∀h',(∀e o,e≠z->e≠U'->e≠i->e≠j->s.heap.get? e=Y o->h'.get? e=Y o)->∀tk,Q L { s with heap:=h',toks:=tk }):aF (aG prog w) A (pyNext (.ref z)) Q E s:=by
 refine wb9 (jj (cM ⟨_,B,W⟩ kg (bO kg ⟨_,B,W⟩ yI ?_ (xu _))));refine (?_ : aF (aG _ w) _ (field _ 2 >>= _) ..);refine wb9 (df B W (x:=.bool J) W ?_);refine wb9 (df B W rfl (wb9 (dh gT W ?_)));refine wb9 ?_;refine wb9 (df B W rfl (wu9 ?_));refine wb9 (gm (wb9 (df B W rfl (wb9 (bN B (by simp) λh1 g s1=>?_)))));refine wb9 ?_;simp only[uk,NQ,wC,Rj];refine wb9 (wb9 (uf ?_))
 cases y:p.cps[m]? with
 |none=>
   refine wb9 (Dh O (S.keep λo e=>s1.extBut _ o P.iz e) y λh2 e s2 he=>?_);obtain⟨l,a,f⟩:=he;have r :=s2 _ _ P.iz.symm g;exact bN r (by simp) λh3 _ s3=>wb9 (di ⟨l,s3.extBut _ _ (λq=>by grind) a,f⟩ rX (wu9 (k _ (λc o c1 _ u _ q=>s3.extBut _ _ c1 (s2 _ _ u (s1.extBut _ _ c1 q))) _)))
 |some x=>
   have F:ys[n]?=L:=by
    grind
   refine wb9 (yR (S.keep λo e=>s1.extBut _ o P.iz e) y λh2 G s2=>wu9 ?_);have h :=s2.extBut _ _ P.Ui (s1.extBut _ _ P.Uz R);refine wb9 (dh h W (wb9 (rV h λh3 H s3=>wb9 (mj (wu9 ?_)))));refine wb9 (wb9 (uf ?_));refine wb9 (Vm O (gj.keep λo e=>s3.extBut _ o P.Uj.symm (s2.extBut _ o P.ij.symm (s1.extBut _ o P.jz e))) (gb.keep λo e=>s3.extBut _ o P.bU (s2.extBut _ o P.bi (s1.extBut _ o P.bz e))) F λt e C he=>?_);obtain⟨l,a,f⟩:=he;have v :=C _ _ P.jz.symm (s3.extBut _ _ P.Uz.symm (s2.extBut _ _ P.iz.symm g));exact bN v (by simp) λK _ D=>wb9 (di ⟨l,D.extBut _ _ (λq=>by grind) a,f⟩ rX (wu9 (k _ (λc o c1 c2 u I q=>D.extBut _ _ c1 (C _ _ I (s3.extBut _ _ c2 (s2.extBut _ _ u (s1.extBut _ _ c1 q))))) _)))
end
abbrev zm3(h:cx)(x:aW)(t:Ha)(b:aL):cx:=((h.push (p6 x t)).push (DX U b)).push { cls:=.type "tuple",data:=.seq #[.ref h.objs.size,.ref (h.push (p6 x t)).objs.size] }
abbrev zm4(h:cx)(x:aW)(t:Ha)(b:aL):cx:=(zm3 h x t b).push { cls:=.type "tuple",data:=.seq #[.none,.none] }
abbrev Xy(h:cx)(x:aW)(t:Ha)(b:aL):cx:=(zm4 h x t b).push { cls:=.type "zip",data:=.fields #[.none,.bool J,.bool J,.ref ((h.push (p6 x t)).push (DX U b)).objs.size,.ref (zm3 h x t b).objs.size] }
def SG(x:aW)(t:Ha)(b:aL)(B:Array ah):Meets (iC.«zip.__new__» ⟨[.type "zip",.str x t,.ref b],[]⟩) (λ_ R s=>qD U s.heap b B/\R (.ok (.ret (.ref (zm4 s.heap x t b).objs.size))) { s with heap:=Xy s.heap x t b }):=
 .of_wp λprog w A R s q=>by
  obtain⟨hp,g,d,a,os⟩:=s;obtain⟨c,q⟩:=q;have sz:=PySem.sub_zip;have f:qD U (Shared.heap ⟨hp.push { cls:=.type (strIterType x),data:=.fields #[.str x t,.int 0 0] },g,d,a,os⟩) b B:=qD.keep c λo e=>hp9 _ e
  wp_walk using oQ (x:=x) (t:=t),HU f
  exact⟨_,W,q⟩
section
variable{s:ai}
def NZ
  (B:qD U s.heap b I)(k:∀C,IsZip C (s.heap.objs.size+4) (s.heap.objs.size+2) (s.heap.objs.size+3) .none->qm C (s.heap.objs.size+2) (.ref s.heap.objs.size) (.ref (s.heap.objs.size+1))->qm C (s.heap.objs.size+3) .none .none->
   oO C s.heap.objs.size x t 0->rL U C (s.heap.objs.size+1) b 0->(∀c o,s.heap.get? c=Y o->C.get? c=Y o)->Q (.ref (s.heap.objs.size+4)) { s with heap:=C }):aF (aG prog w) A (call (.type "zip") [.str x t,.ref b]) Q E s:=by
 refine Jv PySem.F.called_zip bR (PySem.F.typeCall_zip_2 _ _) (PySem.F.newCall_zip_2 _ _) (λj=>PySem.F.args_object_init_3 j _ _) PySem.F.entry_zip_new (SG x t b I) ⟨B,?_⟩;have a:(s.heap.push (p6 x t)).objs.size=s.heap.objs.size+1:=fQ ..;have d:((s.heap.push (p6 x t)).push (DX U b)).objs.size=s.heap.objs.size+2:=by rw[fQ,a]
 have e:(zm3 s.heap x t b).objs.size=s.heap.objs.size+3:=by rw[fQ,d]
 have l:(zm4 s.heap x t b).objs.size=s.heap.objs.size+4:=by rw[fQ,e]
 have f:(Xy s.heap x t b).get? (zm4 _ x t b).objs.size=Y _:=aH _ W;have g:(Xy s.heap x t b).get? (zm3 _ x t b).objs.size=Y _:=hp9 _ (aH _ W);have h:(Xy _ x t b).get? ((s.heap.push _).push _).objs.size=Y _:=hp9 _ (hp9 _ (aH _ W));have i:(Xy _ x t b).get? (s.heap.push _).objs.size=Y _:=hp9 _ (hp9 _ (hp9 _ (aH _ W)));rw[d,e,l]at f;rw[a,d]at h;rw[e]at g;rw[a]at i;rw[l];exact⟨⟨_,f,W⟩,k _ f h g (E9 (hp9 _ (hp9 _ (hp9 _ (hp9 _ (aH _ W)))))) (Qh i) λc o q=>hp9 _ (hp9 _ (hp9 _ (hp9 _ (hp9 _ q))))⟩
end
noncomputable def Itm(K:aP)(x:aW)(b:aL):It:=
 ⟨λi H=>∃c a y,x.cps[i]?=Y c/\EB U K H b a/\a[i]?=Y y,
  λi H v d=>∃T,H T=L/\v=.ref T/\∃c y,x.cps[i]?=Y c/\(∀a,EB U K H b a->a[i]?=Y y)/\d=upd H T (.tup [.str ⟨#[c]⟩,y]),
  λi H=>∃a,EB U K H b a/\(x.cps[i]?=L\/Z a<=i)⟩
def Hm{K:aP}(x:aW)(t:Ha)(b z TI TO B i2:aL)(D:ZAm z TI TO B i2 b) :
  Turn P w K (.Tuple elts k pos) (Itm K x b) [z,TI,TO,B,i2] z (λi h=>IsZip h z TI TO .none/\qm h TI (.ref B) (.ref i2)/\(∃u v,qm h TO u v)/\oO h B x t i/\rL U h i2 b i) where
 mem:=by simp
 obj:=λi h st c hc=>by
  obtain⟨g,d,⟨u,v,f⟩,⟨o1,e1,_,d1⟩,h2⟩:=st;obtain⟨o2,e2,_,d2⟩:=h2.obj;simp only[aw,bx,or_false]at hc
  rcases hc with rfl|rfl|rfl|rfl|rfl
  .exact⟨_,g,λv z=>nomatch z⟩
  .exact⟨_,d,λv z=>nomatch z⟩
  .exact⟨_,f,λv z=>nomatch z⟩
  .exact⟨_,e1,λv z=>by rw[d1]at z;cases z⟩
  .exact⟨_,e2,λv z=>by rw[d2]at z;cases z⟩
 keep:=λi h h' st k=>by
  obtain⟨g,d,⟨u,v,f⟩,h1,h2⟩:=st;exact⟨k z (by simp) _ g,k TI (by simp) _ d,⟨u,v,k TO (by simp) _ f⟩,h1.keep λo e=>k B (by simp) o e,h2.keep λo e=>k i2 (by simp) o e⟩
 item:=by
  intro X n p q hc i h_ s σ H E I hf st l;subst n p q;obtain⟨c1,ys,y,J',hb,L'⟩:=l;obtain⟨M,j,r⟩:=EB.at I hb;obtain⟨A,C,F⟩:=j.get L';obtain⟨g,d,⟨N,O,f⟩,h1,h2⟩:=st;refine KE D g d f h1 h2 r J' (y:=A) (by simpa using C) λh' Q R S T U' g6 hk=>?_;refine⟨_,W,wpAny_letOwnedTupleGo_zip Q λh'' G a=>?_⟩
  have V:∀c∈[z,TO,B,i2],rM X h_ H c:=λc hc=>hf c (by
   simp only[aw,bx,or_false]at hc ⊢
   rcases hc with rfl|rfl|rfl|rfl<;>simp)
  have kk:∀c o,c∉[z,TO,B,i2]->s.heap.get? c=Y o->h''.get? c=Y o:=λc o hc e=>by
   simp only[aw,bx,or_false,not_or]at hc;exact a.extBut c o hc.1 (hk c o hc.1 hc.2.1 hc.2.2.1 hc.2.2.2 e)
  have a5:Inv X h_ σ H { s with heap:=h'',toks:=s.toks+1 }:=I.ur (t':=s.toks+1) kk V;have c0:s.heap.objs.size≠z:=jx (hl9 g);have c3:h''.get? s.heap.objs.size=Y { cls:=.type "tuple",data:=.seq #[.str ⟨#[c1]⟩ s.toks,A] }:=a.extBut _ _ c0 U';have m:H s.heap.objs.size=L:=I.hok.fresh (ak _)
  have I2:Inv X h_ σ (upd H s.heap.objs.size (.tup [.str ⟨#[c1]⟩,y])) { s with heap:=h'',toks:=s.toks+1 }:=by
   refine a5.JR (I.w5 (ak _) m) I.sz ⟨by rw[iR];show 2<=16777216;decide,[.str ⟨#[c1]⟩ s.toks,A],.cons ⟨_,W⟩ (.cons F .nil),?_⟩;exact⟨_,c3,W,_,W⟩
  refine⟨.ref s.heap.objs.size,_,I2,W,⟨_,m,W,c1,y,J',λys' h1=>by rw[EB.inj I h1 hb];exact L',W⟩,⟨G,?_,⟨_,_,a.extBut _ _ D.Uz R⟩,S.keep λo e=>a.extBut _ o D.iz e,T.keep λo e=>a.extBut _ o D.jz e⟩,λc hc=>?_⟩
  .exact a.extBut _ _ D.Tz (hk _ _ D.Tz D.TU D.Ti D.Tj d)
  .rw[eh ?_]
   .exact(hf c hc).1
   .have:c<s.heap.objs.size:=by
     simp only[aw,bx,or_false]at hc
     rcases hc with rfl|rfl|rfl|rfl|rfl
     .exact hl9 g
     .exact hl9 d
     .exact hl9 f
     .obtain⟨_,e,_⟩:=h1;exact hl9 e
     .obtain⟨_,e,_⟩:=h2.obj;exact hl9 e
    exact a9 this
 done:=by
  intro X n p q hc i h_ s σ H E I hf st l;subst n p q;obtain⟨g,d,⟨N,O,f⟩,h1,h2⟩:=st;obtain⟨ys,hb,l⟩:=l;obtain⟨M,j,r⟩:=EB.at I hb;refine O4 (I.ok.hd hc) D g d f h1 h2 r (l.imp id λh=>by simpa [j.length]using h) λh' hk tk=>⟨W,I.ur (t':=tk) (ch:=[z,TO,B,i2]) (λc o hc e=>?_) λc hc=>hf c ?_⟩
  .simp only[aw,bx,or_false,not_or]at hc;exact hk c o hc.1 hc.2.1 hc.2.2.1 hc.2.2.2 e
  .simp only[aw,bx,or_false]at hc ⊢
   rcases hc with rfl|rfl|rfl|rfl<;>simp
 self:=λ_ _ _ _ _ st h=>wpAny_pyIter_zip st.1 h
end L2
namespace M
open PySem PySem.Spec PyProof.Rows L2
section
variable{X:Cx}{a b:ba}{pos:wo}{σ:St}{F H:Hp}{iter:ba}
theorem AA:∀(xs g:List Dat) (i:Nat),(o5 xs g)[i]?=match xs[i]?,g[i]? with
  |some x,Y y=>Y (.tup [x,y])
  |_,_=>L
 |[],_,_=>by simp[o5]
 |_::_,[],i=>by
   simp[o5]
 |x::xs,y::g,0=>by simp[o5]
 |x::xs,y::g,i+1=>by exact AA xs g i
theorem Az:∀(xs g:List Dat),Z (o5 xs g)=min xs.length g.length
 |[],_=>by simp[o5]
 |_::_,[]=>by simp[o5]
 |x::xs,y::g=>by simp only[o5,bM,Az xs g];simp
def TqK(tp:Bool)(K:Fg)(F:Hp)(a:aL)(vs:List V):Prop:=match tp with
 |true=>Tq K F a vs
 |false=>ng K F a vs
def TqK.up{tp:Bool}{K:Fg}{F B H:Hp}{a:aL}{vs:List V}(h:TqK tp K F a vs)(s:cc F B)(g:Good B H):EB tp K H a vs:=by
 cases tp
 .exact g.sub.seq (s.seq h)
 .exact((Tq.mono s h).mono g.sub).sq
def Zn(K:Fg)(B:TA):TI:=λσ H R=>B σ H λvs c=>∃x b,vs=[.str x,.ref b]/\(∃d,EB U K c b d)/\R (L2.Itm K x b) c
def Pc(O:Gl X "zip")(C:X.mg "zip"=L)(ha:PA X [a,b] S)(hs:aO [a,b] X.env=[(J,eval a X.env),(J,eval b X.env)])(B:aO [b] X.env=[(J,eval b X.env)]) :
  PI X (.Tuple elts k P) (.Call (.Name "zip" p) [a,b] [] pos) (Zn X.K S):=by
 intro h_ s σ H R I h;refine Call_ (lp I O C (by decide +kernel:bootBuiltins _=Y (.type "zip")) (cO (iN (ha _ h_ s σ H _ I h) λus s1 G=>?_) (by rw[hs,B]) (by rw[B];rfl)));obtain⟨vs,j,g,m,n⟩:=G;obtain⟨x,b,rfl,⟨N,o⟩,q⟩:=n;cases m with
 |cons r i=>
   cases i with
   |cons u i=>
     cases i;obtain⟨t,rfl⟩:=r;cases u;obtain⟨D,v,d⟩:=EB.at g o;have E:@LT.lt _ _ b s1.heap.objs.size:=by obtain⟨_,e,_⟩:=d.obj;exact hl9 e
     refine NZ d λQ l w y z A M=>?_;refine wpAny_pyIter_zip l ⟨_,_,_,_,j,W,(g.kept M),
      Hm x t b _ _ _ _ _ ⟨?_,?_,?_,?_,?_,?_,?_,?_,?_,?_,?_,?_,?_,?_⟩,⟨l,w,⟨_,_,y⟩,z,A⟩,λc hc=>?_,q⟩
     all_goals try grind
     have f:s1.heap.objs.size<=c:=by
      simp only[aw,bx,or_false]at hc
      rcases hc with rfl|rfl|rfl|rfl|rfl<;>first|simp|exact ak _
     exact g.w5 f (g.hok.fresh f)
def signs_get(x:aW)(i:Nat):((eQ x).map Dat.str)[i]?=(x.cps[i]?).map λc=>.str ⟨#[c]⟩:=by
 unfold eQ;rw[aR,aR,iP];cases x.cps[i]?<;>rfl
def Iu{K:Fg}{F1:Hp}(x:aW){b:aL}{us:List V}{es:List Dat}(C:Tq K F1 b us)(B:cX K F1 es us):kD K F1 (L2.Itm K x b) (o5 ((eQ x).map .str) es):=λF H g s=>by
 have c:EB U K H b us:=TqK.up C s g;refine⟨λi d hd=>?_,λi hi=>⟨us,c,?_⟩⟩
 .rw[AA,signs_get]at hd
  cases n:x.cps[i]? with
  |none=>rw[n]at hd;cases hd
  |some c1=>
    cases p:es[i]? with
    |none=>simp_all
    |some d2=>
      rw[n,p]at hd;cases hd;obtain⟨e,f,k⟩:=B.get p;refine⟨⟨c1,us,e,n,c,f⟩,λv q z=>?_⟩;obtain⟨T,h,rfl,d1,o,j,l,rfl⟩:=z;rw[n]at j;cases j;have m:=bI (f.symm.trans (l us c));subst m;refine⟨_,Step.alloc g h,⟨T,_,W,.inl cW,?_⟩⟩;exact⟨_,_,W,W,e,[],W,k.mono (s.trans (cc.upd (g.sub.free h))),W⟩
 .rw[Az]at hi;simp only[eQ,aB,bh]at hi;rw[B.length]
  grind
def SH(h:Rv ds=Y items):∃x g,ds=[.str x,.tup g]/\items=o5 ((eQ x).map .str) g:=by
 obtain⟨a,b,rfl⟩:∃a b,ds=[a,b]:=by
  cases ds with
  |nil=>cases h
  |cons a r=>
    cases r with
    |nil=>cases h
    |cons b r=>
      cases r with
      |nil=>exact⟨a,b,W⟩
      |cons _ _=>cases h
 cases a with
 |str x=>
   cases b with
   |tup g=>cases h;exact⟨_,_,W,W⟩
   |_=>cases h
 |_=>cases h
def T9(O:Gl X "zip")(P:X.mg "zip"=L)(ha:SA X C [a,b] [S,xb])(hs:aO [a,b] X.env=[(J,eval a X.env),(J,eval b X.env)])(B:aO [b] X.env=[(J,eval b X.env)]) :
  SI X C (.Tuple elts k tp) (.Call (.Name "zip" p) [a,b] [] pos) (.zip [S,xb]):=λh_ s σ H R I f=>by
 refine ac λ_ q=>?_;obtain⟨t,items,F,hi,g,h,u⟩:=f;obtain⟨z,h1,h2⟩:=cA hi;obtain⟨x,A,rfl,rfl⟩:=SH h2;refine q ?_;refine Pc O P ha hs B h_ s σ H R I ⟨t,_,h1,F,g,h,λvs F1 i st r=>?_⟩;refine ac λ_ q=>?_;obtain⟨v,w,rfl,j,n,o,rfl,l,y⟩:=r;cases y;cases j;obtain⟨m,c,rfl,e,d⟩:=l;refine q ?_;exact⟨x,m,W,⟨c,TqK.up e (cc.refl _) st.good⟩,u _ F1 i st (Iu x e d)⟩
theorem B2:∀(xs:List Dat)(k i:Nat),(xf k xs)[i]?=(xs[i]?).map λx=>.tup [.int (k+i:Nat),x]
 |[],_,_=>by simp[xf]
 |x::xs,k,0=>by simp[xf]
 |x::xs,k,i+1=>by
   simp only[xf,fu];rw[B2 xs (k+1) i]
   congr 2
   funext y;rw[show k+1+i=k+(i+1)from(iH _ _ _)]
theorem B1:∀(xs:List Dat)(k:Nat),Z (xf k xs)=Z xs
 |[],_=>rfl
 |x::xs,k=>by simp only[xf,bM,B1 xs (k+1)]
def iEs(B:TA):TI:=λσ H R=>B σ H λvs c=>∃x,vs=[.str x]/\R (Xo x) c
def YF(B:Gl X "enumerate")(O:X.mg "enumerate"=L)(ha:PA X [a] P)(hs:aO [a] X.env=[(J,eval a X.env)]) :
  PI X (.Tuple elts k C) (.Call (.Name "enumerate" p) [a] [] pos) (iEs P):=by
 intro h_ s σ H R I h;refine Call_ (lp I B O (by decide +kernel:bootBuiltins _=Y (.type "enumerate")) (cO (iN (ha _ h_ s σ H _ I h) λus s1 v=>?_) (by rw[hs];rfl) (by rfl)));obtain⟨vs,g,f,j,l⟩:=v;obtain⟨x,rfl,q⟩:=l;obtain⟨u,rfl,t,rfl⟩:=vals1 j;refine QB λn i m e=>?_;refine wpAny_pyIter_enum i ⟨_,_,_,_,g,W,(f.kept e),N6 x t _ _ ?_,⟨⟨_,i⟩,m⟩,λc hc=>?_,q⟩
 .simp
 have d:s1.heap.objs.size<=c:=by
  simp only[aw,bx,or_false]at hc
  rcases hc with rfl|rfl<;>first|simp|exact ak _
 exact f.w5 d (f.hok.fresh d)
def Qg{K:Fg}{F1:Hp}:kD K F1 (Xo x) (xf 0 (x.cps.toList.map λc=>Dat.str ⟨#[c]⟩)):=λF H g s=>by
 refine⟨λi d hd=>?_,λi hi=>?_⟩
 .rw[B2,aR,Ng]at hd;obtain⟨c,hc,rfl⟩:=ee hd;have e:x.cps[i]?=Y c:=by simpa using hc
  refine⟨((bY.mp e).1),λv h y=>?_⟩;obtain⟨T,f,rfl,c2,h2,rfl⟩:=y;rw[e]at h2;cases h2;exact ⟨_,Step.alloc g f,⟨T,_,W,.inl cW,(⟨_,[.str ⟨_⟩],W,by rw[fH];exact rfl,.str ⟨_⟩,[],W,W,W⟩)⟩⟩
 .rw[B1]at hi;show x.cps.size<=i;simpa using hi
def Uc(B:Gl X "enumerate")(O:X.mg "enumerate"=L)(ha:SA X C [a] [P])(hs:aO [a] X.env=[(J,eval a X.env)]) :
  SI X C (.Tuple elts k tp) (.Call (.Name "enumerate" p) [a] [] pos) (.enu P):=λh_ s σ H R I e=>by
 refine ac λ_ b=>?_;obtain⟨i,items,F,hi,g,c,j⟩:=e;obtain⟨⟨d,fr⟩,h1,h2⟩:=cA hi;obtain⟨m,h3,rfl⟩:=ee h2;obtain⟨z,rfl⟩:∃z,d=.str z:=by
  cases d with
  |str z=>exact⟨z,W⟩
  |_=>cases h3
 cases h3;refine b ?_;refine YF B O ha hs h_ s σ H R I ⟨i,[.str z],by simp only[lI,h1,bG,c7],F,g,c,λvs F1 f st r=>?_⟩;obtain⟨v,w,rfl,h,l⟩:=r;cases l;cases h;exact⟨z,W,j _ F1 f st Qg⟩
def sU{f:List Dat->g_}{K:Fg}{xs:List V}{H:Hp}{Q:VK}(hf:∀ds d fr,f ds=Y (d,fr)->Z ds=1)(h:gL K f xs H Q) :
  ∃B d fr F v,f [B]=Y (d,fr)/\xs=[v]/\Good F H/\Rep K F B v/\∀w I C,Step F H I C->Rep K I d w->(fr=U->gh K H C d w)->Q w C:=by
 refine ac λ_ a=>?_;obtain⟨ds,d,fr,h1,F,g,r,k⟩:=h
 refine a ?_;match ds,hf ds d fr h1 with
 |[B],_=>
   obtain⟨v,w,rfl,e,c⟩:=r;cases c;exact⟨B,d,fr,F,v,h1,W,g,e,k⟩
def M2:∀{ds:List Dat}{r:Dat×Bool},b1 f ds=Y r->Z ds=1
 |[_],_,_=>rfl
 |[],_,h=>by cases h
 |_::_::_,_,h=>by cases h
def pH{b:Z9}:∀ds d fr,jq b ds=Y (d,fr)->Z ds=1:=λds d fr h=>by
 cases b<;>first|exact M2 h|cases h
set_option tactic.hygienic true
def IV:ko X (.builtin "len") (gL X.K (jq .len)):=λh_ s σ H q us Q I r h=>by
 obtain⟨n,d,fr,F,v,h1,rfl,g,c,k⟩:=sU pH h
 cases n with
 |lst m=>
   cases h1;obtain⟨p,vs,rfl,t,e⟩:=c;refine rK h_ s σ H _ us Q I r ⟨p,vs,W,.inl (g.sub.seq t),?_⟩;rw[e.length];exact k _ F H (Step.refl g) W be
 |tup m=>
   cases h1;obtain⟨p,vs,rfl,t,e⟩:=c;refine rK h_ s σ H _ us Q I r ⟨p,vs,W,.inr (t.mono g.sub).sq,?_⟩;rw[e.length];exact k _ F H (Step.refl g) W be
 |str z=>
   simp only[jq,b1,Xe]at h1;split at h1
   .rename_i f;cases h1;cases c;exact zR h_ s σ H _ us Q I r ⟨z,W,f,k _ F H (Step.refl g) W be⟩
   .cases h1
 |dct w m=>
   cases h1;obtain⟨p,x,rfl,i,rfl,l⟩:=c;obtain⟨u,rfl,j⟩:=vals1 r;cases j;refine ZG I (.inl (g.sub _ _ i)) λt y o=>⟨.int _,H,o,⟨t,W⟩,?_⟩
   rw[((aB ..).symm)];exact k _ F H (Step.refl g) W be
 |_=>cases h1
def IX:ko X (.type "int") (gL X.K (jq .int)):=λh_ s σ H j us Q I r h=>by
 obtain⟨f,d,fr,F,v,h1,rfl,g,c,k⟩:=sU pH h
 cases f with
 |int i=>
   cases h1;cases c;exact IY h_ s σ H _ us Q I r (.inl ⟨i,W,k _ F H (Step.refl g) W be⟩)
 |bl b=>
   cases h1;cases c;obtain⟨u,rfl,e⟩:=vals1 r;cases e;exact call_int_bool ⟨.int _,H,I.tok _,⟨_,W⟩,k _ F H (Step.refl g) W be⟩
 |str x=>
   simp only[jq,b1,Xe,ZV,Xf,ZW,Xd]at h1;split at h1
   .rename_i hl;obtain⟨i,h2,h1⟩:=ee h1;cases h1;cases c;obtain⟨u,rfl,t,rfl⟩:=vals1 r;exact PySem.W.KIN.call_text h2 hl ⟨.int i,H,I.tok _,⟨_,W⟩,k _ F H (Step.refl g) W be⟩
   .cases h1
 |_=>cases h1
def IU:ko X (.type "str") (gL X.K (jq .str)):=λh_ s σ H f us Q I r h=>by
 refine ac λ_ a=>?_;obtain⟨e,d,fr,F,v,h1,rfl,g,c,k⟩:=sU pH h
 refine a ?_;cases e with
 |int i=>
   simp only[jq,b1,Xd]at h1;split at h1
   .rename_i hl;cases h1;cases c;exact zP h_ s σ H _ us Q I r ⟨i,W,hl,k _ F H (Step.refl g) W be⟩
   .cases h1
 |_=>cases h1
def Cc:ko X (.type "tuple") (gL X.K (jq .tuple)):=λh_ s σ H j us Q I r h=>by
 refine ac λ_ a=>?_;obtain⟨f,d,fr,F,v,h1,rfl,g,e,k⟩:=sU pH h
 refine a ?_;cases f with
 |lst i=>
   cases h1;obtain⟨p,vs,rfl,t,c⟩:=e;exact qf h_ s σ H _ us Q I r ⟨p,vs,W,.inl ⟨g.sub.seq t,λl hl=>k _ _ _ (Step.alloc g hl) ⟨l,vs,W,.inl cW,c.mono (cc.upd (g.sub.free hl))⟩ be⟩⟩
 |tup i=>
   cases h1;obtain⟨p,vs,rfl,t,c⟩:=e;exact qf h_ s σ H _ us Q I r ⟨p,vs,W,.inr ⟨(t.mono g.sub).sq,k _ F H (Step.refl g) ⟨p,vs,W,t,c⟩ be⟩⟩
 |_=>cases h1
theorem x8{K:Fg}:∀{ds:List Dat}{is:List Int}{vs:List V}{us:List ah},yg ds=Y is->cX K F ds vs->cV vs us->CD us is
 |[],is,vs,us,h,r,w=>by
   cases h;rw[r]at w;cases w;exact .nil
 |d::ds,is,vs,us,h,c,w=>by
   obtain⟨v,r,rfl,h1,h2⟩:=c;cases d with
   |int i=>
     obtain⟨f,hb,h⟩:=ee h;cases h;cases h1
     cases w with
     |cons q w=>obtain⟨t,rfl⟩:=q;exact .cons i t (x8 hb h2 w)
   |_=>cases h
def fj(o:Xx):List Dat->g_
 |[x,y]=>gQ o x y
 |_=>L
def Me{o:Xx}{K:Fg}{xs:List V}{H:Hp}{Q:VK}(h:gL K (fj o) xs H Q) :
  ∃C B d fr F v w,gQ o C B=Y (d,fr)/\xs=[v,w]/\Good F H/\Rep K F C v/\Rep K F B w/\∀w O I,Step F H O I->Rep K O d w->(fr=U->gh K H I d w)->Q w I:=by
 refine ac λ_ a=>?_;obtain⟨l,d,fr,h1,F,g,r,k⟩:=h
 refine a ?_;match l,h1 with
 |[C,B],h1=>
   refine ac λ_ a=>?_;obtain⟨v,w,rfl,f,i,j,rfl,c,e⟩:=r;cases e;refine a ?_;exact⟨C,B,d,fr,F,v,i,h1,W,g,f,c,k⟩
def v9(B:X.calm=U):ko X (.builtin "max") (gL X.K (fj .mx)):=λh_ s σ H p us Q I r h=>by
 refine ac λ_ a=>?_;obtain⟨o,e,d,fr,F,v,w,h1,rfl,g,f,l,k⟩:=Me h;refine a ?_;cases o<;>cases e<;>simp only[gQ,GU,M1,M0,reduceCtorEq]at h1
 rename_i i j;refine ac λ_ a=>?_;cases h1;cases f;cases l;obtain⟨u,m,rfl,⟨t,rfl⟩,⟨q,rfl⟩⟩:=vals2 r;refine a ?_;refine max_two_ints (I.ok.hd B) λx n hk=>⟨.int _,H,I.kept hk,?_,k _ F H (Step.refl g) W be⟩
 by_cases c:i<j
 .rw[if_pos c,if_pos (c)];exact⟨_,W⟩
 .rw[if_neg c,if_neg (c)];exact⟨_,W⟩
def Ep(B:X.calm=U):ko X (.builtin "min") (gL X.K (fj .mn)):=λh_ s σ H p us Q I r h=>by
 refine ac λ_ a=>?_;obtain⟨o,e,d,fr,F,v,w,h1,rfl,g,f,l,k⟩:=Me h;refine a ?_;cases o<;>cases e<;>simp only[gQ,GU,M1,M0,reduceCtorEq]at h1
 rename_i i j;refine ac λ_ a=>?_;cases h1;cases f;cases l;obtain⟨u,m,rfl,⟨t,rfl⟩,⟨q,rfl⟩⟩:=vals2 r;refine a ?_;refine min_two_ints (I.ok.hd B) λx n hk=>⟨.int _,H,I.kept hk,?_,k _ F H (Step.refl g) W be⟩
 by_cases c:j<i
 .rw[if_pos c,if_pos c];exact⟨_,W⟩
 .rw[if_neg c,if_neg c];exact⟨_,W⟩
set_option tactic.hygienic false
def Kd{I:String}(hc:ko X (.builtin I) (gL X.K (fj o)))(P:Gl X x)(R:X.mg x=L)(S:bootBuiltins x=Y (.builtin I))(ha:SA X C [e,e2] [xa,xb])(hn:x≠"__name__")(B:(x == ("__debug__":aW))=J)
  (he:aO [e,e2] X.env=(J,eval e X.env)::aO [e2] X.env)(O:(backTo pos (aO [e2] X.env)).any (·.1)=J):SE X C (.Call (.Name x p) [e,e2] [] pos) (.bin o xa xb):=
 PE.imp (qY hc P R S ha hn B he O) (pW λj d fr h=>by
  refine ac λ_ a=>?_;obtain⟨⟨i,f⟩,h1,h⟩:=cA h;obtain⟨⟨c,g⟩,h2,h⟩:=cA h
  refine a ?_;exact⟨[i,c],by simp only[lI,h1,h2,bG,c7],h⟩)
end
section
variable{X:Cx}{pos:wo}{xs:List Ex}{F H:Hp}{iter:ba}
noncomputable def tyName:Ty->String
 |.int=>"int"
 |.bool=>"bool"
 |.str=>"str"
 |.tuple=>"tuple"
 |.list=>"list"
noncomputable def Zf:Dat->String
 |.non=>"NoneType"
 |.bl _=>"bool"
 |.int _=>"int"
 |.str _=>"str"
 |.tup _=>"tuple"
 |.lst _=>"list"
 |.dct _ _=>"dict"
 |.any=>"dict"
def V0(K:Fg)(t:Ty)(d:Dat):PySem.W.kitOne K (.type (Zf d)) (.type (tyName t))=Y (LS t d):=by
 cases t<;>cases d<;>rfl
def aaZ(K:Fg)(t:Ty):List V->Hp->VK->Prop:=λxs H Q=>∃a F v,xs=[v,.ty (tyName t)]/\Good F H/\Rep K F a v/\a≠.any/\Q (.bl (LS t a)) H
def IW:ko X (.builtin "isinstance") (aaZ X.K t):=λh_ s σ H xs us Q I r h=>by
 obtain⟨k,F,v,rfl,g,a,m,q⟩:=h;obtain⟨u,w,rfl,b,d⟩:=vals2 r;obtain rfl:w=.type _:=d;have e:=V0 X.K t k;have fin:∀f,EP X h_ σ Q (.bool _) _:=λf=>⟨.bl _,H,I.tok f,W,q⟩
 cases k with
 |non=>cases a;obtain rfl:u=.none:=b;exact ig PySem.W.kitx_none I.F7 oP e (λz=>nomatch z) fin
 |bl y=>cases a;obtain rfl:u=.bool y:=b;exact ig PySem.W.kitx_bool I.F7 oP e (λz=>nomatch z) fin
 |int y=>cases a;obtain⟨c,rfl⟩:=b;exact ig PySem.W.kitx_int I.F7 oP e (λz=>nomatch z) fin
 |str y=>cases a;obtain⟨c,rfl⟩:=b;exact ig PySem.W.kitx_str I.F7 oP e (λz=>nomatch z) fin
 |tup l=>
   obtain⟨p,vs,rfl,c,_⟩:=a;obtain rfl:u=.ref p:=b;obtain⟨j,_,⟨o,h1,h2,_⟩,_⟩:=I.tupR g c;exact ig PySem.W.kitx_tuple I.F7 ⟨o,h1,h2⟩ e (λz=>nomatch z) fin
 |lst l=>
   obtain⟨p,vs,rfl,c,_⟩:=a;obtain rfl:u=.ref p:=b;obtain⟨j,_,⟨o,n,h1,h2,_⟩,_⟩:=I.lstR g c;exact ig PySem.W.kitx_list I.F7 ⟨o,h1,h2⟩ e (λz=>nomatch z) fin
 |dct x l=>
   refine ac λ_ i=>?_;obtain⟨p,A,rfl,c,_⟩:=a;obtain rfl:u=.ref p:=b;obtain⟨_,_,_,_,o,B,C,h1,h2,_⟩:=I.hok p _ (g.sub _ _ c);refine i ?_;exact ig PySem.W.kitx_dict I.F7 ⟨o,h1,h2.1⟩ e (λz=>nomatch z) fin
 |any=>exact(m W).elim
def Uu(t:Ty)(hg:Gl X "isinstance")(hm:X.mg "isinstance"=L)(B:Gl X x)(O:X.mg x=L)(I:bootBuiltins x=Y (.type (tyName t)))(ha:SE X C a xa)(hn:x≠"__name__")(P:(x == ("__debug__":aW))=J)
  (he:aO [a,.Name x S] X.env=(J,eval a X.env)::aO [.Name x S] X.env)(hpl:(backTo pos (aO [.Name x S] X.env)).any (·.1)=J) :
  SE X C (.Call (.Name "isinstance" p) [a,.Name x S] [] pos) (.blt (.isi t) [xa]):=
 PE.imp (qY IW hg hm (by decide +kernel) (mN ha (mN (Ph B O I (v:=.ty _) W hn P) vA) he) (by decide) (by decide) he hpl) λσ H Q b=>by
  refine ac λ_ i=>?_;obtain⟨l,d,fr,h,F,g,R,k⟩:=b;obtain⟨n,h1,h2⟩:=cA h;obtain⟨⟨j,c⟩,h3,h1⟩:=cA h1;cases h1;obtain⟨m,e⟩:=Qi (h2);cases e;refine i ?_;exact⟨l,j,c,h3,F,g,R,λv F1 f st r _=>⟨j,F1,v,W,st.good,r,m,k _ F1 f st W be⟩⟩
end
end M
namespace L2
open PySem PySem.Spec PyProof.Rows
def AM:Jw "reversed" "__init__" "object.__init__":=.of (owner:="object") (n:="__init__") (by kernel_rfl) (by decide +kernel) (by decide +kernel) (by decide +kernel) (.inl (by decide +kernel)) (by kernel_rfl)
def Eo:TypeCalled "reversed" "reversed.__new__" "object.__init__":=⟨by decide +kernel,PySem.F.create_reversed,⟨_,_,PySem.F.mro_reversed⟩,PySem.F.made_reversed,by decide +kernel,PySem.F.sub_reversed_self,AM⟩
section
end
def tO:entryFor table "reversed.__next__"=Y iC.«reversed.__next__» :=entryFor_of_tree (by kernel_rfl)
def kP:Jw "reversed" "__next__" "reversed.__next__":=.of (owner:="reversed") (n:="__next__") (by kernel_rfl) (by decide +kernel) (by decide +kernel) (by decide +kernel) (.inl (by decide +kernel)) (by kernel_rfl)
def tX(a:ah):argsOk "reversed.__next__" ⟨[a],[]⟩:=by
 kernel_rfl
def B4:entryFor table "reversed.__iter__"=Y iC.«dict_keyiterator.__iter__» :=CW (id':="dict_keyiterator.__iter__") (by kernel_rfl) W (by decide +kernel) (by kernel_rfl)
def tG:Jw "reversed" "__iter__" "reversed.__iter__":=.of (owner:="reversed") (n:="__iter__") (by kernel_rfl) (by decide +kernel) (by decide +kernel) (by decide +kernel) (.inl (by decide +kernel)) (by kernel_rfl)
def Cs(a:ah):argsOk "reversed.__iter__" ⟨[a],[]⟩:=by
 kernel_rfl
section
end
def DR:typeLookup (.type "tuple") "__reversed__"=pure L:=by kernel_rfl
def AH:isSubtype (.type "tuple") (.type "dict")=pure J:=by kernel_rfl
noncomputable abbrev OU(p:aL)(i:Int):lD:={ cls:=.type "reversed",data:=.fields #[.ref p,rawInt i] }
def UK(p:aL)(its:Array ah)(B:¬(its.size:Int)>=2 ^ 63):Meets (iC.«reversed.__new__» ⟨[.type "reversed",.ref p],[]⟩) (λ_ R s=>Af s.heap p its/\∀O,R (.ok (.ret (.ref s.heap.objs.size))) { s with heap:=s.heap.push (OU p ((its.size:Int) - 1)),toks:=O }):=
 .of_wp λprog w A R s a=>by
  obtain⟨ht,q⟩:=a;refine wb9 (kE (newClass_reversed _) ?_);refine wb9 (kE (by first|rfl|kernel_rfl) ?_);refine wb9 (kE (by first|rfl|kernel_rfl) ?_);refine wb9 (eE ht.typeIs DR ?_);refine wb9 ?_;refine wb9 (di ht.typeIs AH ?_);refine wb9 (eE ht.typeIs uN.lookup ?_);refine kE (by first|rfl|kernel_rfl) ?_;refine wb9 (uh ht (mW.mp B) ?_);refine (?_ : aF (aG _ w) _ (newObj (.type _) (.fields [dn p,rawInt _].toArray) >>= _) ..);exact wb9 (dH (wu9 ⟨_,W,q _⟩) (by size_fits))
section
variable{s:ai}
def OT(ht:Af s.heap p its)(O:¬(its.size:Int)>=2 ^ 63)(k:∀B,Q (.ref s.heap.objs.size) { s with heap:=s.heap.push (OU p ((its.size:Int) - 1)),toks:=B }):aF (aG prog w) A (call (.type "reversed") [.ref p]) Q E s:=by
 exact Jv Eo bR (PySem.F.typeCall_reversed_1 _) (PySem.F.newCall_reversed_1 _) (λa=>uO a _) PySem.F.entry_reversed_new (UK p _ O) (⟨ht,λB=>⟨⟨_,aH _ W,W⟩,k B⟩⟩)
end
section
variable{A:bT}{s:ai}{its:Array ah}
def vm(y:s.heap.get? I=Y (OU p i)):s.TypeIs (.ref I) "reversed":=⟨_,y,W⟩
def OS(O:its.size<=aE)(B:j<its.size)(ht:Af s.heap p its)(y:s.heap.get? I=Y (OU p j))(k:∀F C,F.get? I=Y (OU p ((j:Int) - 1))->cP I s.heap F->Q (Y its[j]) { s with heap:=F,toks:=C }) :
  aF (aG prog w) A (pyNext (.ref I)) Q E s:=by
 refine wb9 (jj (cM (vm y) kP (bO kP (vm y) tO ?_ (tX _))));refine (?_ : aF (aG _ w) _ (field _ 0 >>= _) _ _ s);refine wb9 (df y W (x:=.ref p) W ?_);refine wb9 (df y W rfl ?_);refine wb9 (eE ht.typeIs uN.lookup ?_);refine wb9 (wpAny_mkInt ?_);have hs:seqIndex? (j) its.size=Y j:=by
  unfold seqIndex?;have b:¬(j:Int)<0:=by simp
  simp[B,b]
 refine wb9 (jj (rO ht (by simp) (fK (oY.mpr (aa B O)) bR) hs (aU B) ?_));refine wb9 (df y W rfl ?_);exact wb9 (bN y (by simp) λF g c=>wu9 ⟨_,W,wu9 (k F _ g c)⟩)
def UL(B:A.handled=L)(y:s.heap.get? I=Y (OU p (-1)))(k:∀g,(∀b o,b≠I->s.heap.get? b=Y o->g.get? b=Y o)->Q L { s with heap:=g }) :
  aF (aG prog w) A (pyNext (.ref I)) Q E s:=by
 refine wb9 (jj (cM (vm y) kP (bO kP (vm y) tO ?_ (tX _))));refine (?_ : aF (aG _ w) _ (field _ 0 >>= _) _ _ s);refine wb9 (df y W (x:=.ref p) W ?_);refine wb9 (df y W rfl ?_);refine wb9 (gm ?_);refine wb9 ?_;refine wb9 (bN y (by simp) λh1 a s1=>bN a (by simp) λh2 c s2=>?_);refine wb9 (uu B λg e kp he=>?_);obtain⟨o,ho,hc⟩:=he;exact wb9 (di ⟨o,ho,hc⟩ rX (wu9 (k _ λb o n q=>kp _ _ (s2.extBut _ _ n (s1.extBut _ _ n q)))))
end
end L2
namespace M
open PySem PySem.Spec PyProof.Rows L2
theorem xK{us:List ah}{is:List aW}(h:oR us is):cV (is.map V.str) us:=by
 induction h with
 |nil=>exact .nil
 |cons n t _ i=>exact .cons ⟨t,W⟩ i
theorem rpS{K:Fg}:∀(is:List aW),cX K F (is.map Dat.str) (is.map V.str)
 |[]=>rfl
 |i::is=>⟨_,_,W,W,rpS is⟩
theorem Zl:∀(is:List aW),lW (is.map Dat.str)=U
 |[]=>rfl
 |i::is=>by exact Zl is
section
end
section
end
section
def HP{its:List ah}(h:Jy (λi v=>its.toArray[its.toArray.size - 1 - i]?=Y v) acc its.toArray.size):acc=its.reverse.toArray:=by
 obtain⟨h1,h2⟩:=h;apply qP;intro j;by_cases a:j<acc.size
 .have:=h2 j _ (aU a);rw[aU a]
  grind
 simp_all
end
section
end
section
variable{X:Cx}{iter:ba}{ifs:List ba}
def OK(F:X.calm=U)(S:jK X scope P R caps)(hi:SI X C tg iter it)(I:qi P.length g)(tgc:Xj X.K P.length one g)
  (hg:∀(cl:List (aW×aL))(B:ai)(O:Hp)(Ca:aL)(ex:List aL),PG (e9 X scope cl (P++R) B O Ca ex) tg g)
  (ht:∀(cl:List (aW×aL))(B:ai)(O:Hp)(Ca:aL)(ex:List aL),Ny (e9 X scope cl (P++R) B O Ca ex) ifs (XG X.K C xs))
  (he:∀(cl:List (aW×aL))(B:ai)(O:Hp)(Ca:aL)(ex:List aL),SE (e9 X scope cl (P++R) B O Ca ex) C elt xe)
  (hs:∀x,foldedSetIterable iter X.env x=pure x):SE X C (.ListComp elt [⟨tg,iter,ifs,0⟩] scope pos) (.comp P.length one caps it xs xe):=
 PE.imp (Pf F S hi hg I ht he hs) (yq tgc λ_ _ _=>trivial)
def Dk{F:wo}(h0:i≠0)(hN:X.N.Nodup)(hi':X.N[i]?=Y x)(hx:Loc X.env.scope x)(I:X.calm=U)(S:jK X scope R cn caps)(hi:SI X C tg iter it)(P:qi R.length g)(tgc:Xj X.K R.length one g)
  (hg:∀(cl:List (aW×aL))(B:ai)(O:Hp)(Ca:aL)(ex:List aL),PG (e9 X scope cl (R++cn) B O Ca ex) tg g)
  (ht:∀(cl:List (aW×aL))(B:ai)(O:Hp)(Ca:aL)(ex:List aL),Ny (e9 X scope cl (R++cn) B O Ca ex) ifs (XG X.K C xs))
  (he:∀(cl:List (aW×aL))(B:ai)(O:Hp)(Ca:aL)(ex:List aL),SE (e9 X scope cl (R++cn) B O Ca ex) C elt xe)
  (hsw:swapsWith (.ListComp elt [⟨tg,iter,ifs,0⟩] scope pos) (Y (.Name x pos')) F.line X.env=pure U)
  (hs:∀x,foldedSetIterable iter X.env x=pure x)(hf:X.fn x=U\/X.env.scope.names.lookup x=Y .local) :
  SS X C (.Assign [.Name x pos'] (.ListComp elt [⟨tg,iter,ifs,0⟩] scope pos) F) (.set i (.comp R.length one caps it xs xe)):=
 PS.imp (DA hN hi' hx I S hi hg P ht he hsw hs hf) (AR h0 (yq tgc λ_ _ _=>trivial))
end
def Su(K:Fg)(one:Bool)(B:List Nat)(g:TG):Prop:=∀c H₀ F H σ e d x b Q,Rl K c H₀ F H σ e->Rep K F d x->eV one B d e=Y b->(∀a,Rl K c H₀ F H a b->Q a H)->g x σ H Q
def N7{K:Fg}:Su K U [i] (lz i):=λb H₀ F H σ c d x a Q R r hb k=>by
 simp only[eV,ie]at hb;subst hb;exact k _ (R.yY r)
def gNs:List Nat->Sy
 |[]=>IG
 |i::is=>yi (lz i) (gNs is)
theorem Md{K:Fg}:∀(O:List Nat){σ:St}{ρ:cY},Rl K g H₀ F H σ ρ->∀ds:List Dat,Z ds=Z O->(∀B,Rl K g H₀ F H B (pS O ds ρ)->Q B H)->∀vs,cX K F ds vs->gNs O vs σ H Q
 |[],σ,ρ,R,ds,a,k,vs,r=>by
   cases ds with
   |nil=>exact⟨r,k _ R⟩
   |cons _ _=>cases a
 |i::is,σ,ρ,R,ds,a,k,vs,r=>by
   cases ds with
   |nil=>cases a
   |cons d ds=>
     obtain⟨v,w,rfl,b,c⟩:=r;exact⟨v,w,W,Md is (R.yY b) ds (by simpa using a) k w c⟩
set_option tactic.hygienic true in
def JS{K:Fg}:Su K J g (Mb K g.length (gNs g)):=λf H₀ F H σ h d x c Q R r hb k=>by
 simp only[eV]at hb
 cases d with
 |tup e=>
   dsimp only at hb;split at hb
   .rename_i b;cases hb;obtain⟨a,vs,rfl,t,r⟩:=r;exact ⟨a,vs,W,(t.mono R.step.good.sub).sq,by rwa[r.length],(Md g R e b k vs r)⟩
   .cases hb
 |_=>cases hb
section
variable{X:Cx}{iter:ba}{pos:wo}
def Mq{K:Fg}(R:Rl K I H₀ F H σ ρ)(h:Zz C (.rng es) ρ=Y (items,g))
  (k:∀J' F1 B,cc F F1->Rl K I H₀ F1 B σ g->kD K (vX (.rng es) F1) J' items->Q J' B):gI K C (.rng es) σ H Q:=by
 obtain⟨e,h1,h⟩:=ee h;cases h;obtain⟨c,d,b⟩:=R.jg;refine⟨_,_,c,h1,b.step.good,b.full,λJ' F1 B st ok=>?_⟩;have a:=Step.shrink R.step.good d st;exact k J' _ B a.ff (R.moved a) ok
def vZ{K:Fg}(R:Rl K I H₀ F H σ ρ)(h:(zH C it (yP (lZ is ρ))).map (λds=>(ds,lZ is ρ))=Y (items,g))
  (k:∀J' F1 B,cc F F1->Rl K I H₀ F1 B σ g->kD K (vX it F1) J' items->Q J' B):gI K C it σ H Q:=by
 obtain⟨ds,h1,h⟩:=ee h;cases h;obtain⟨a,s2,R2⟩:=R.freeze is;exact⟨_,_,a,h1,R2.step.good,R2.yP,λJ' F1 B st ok=>k J' F1 B (s2.trans st.ff) (R2.moved st) ok⟩
def pq{K:Fg}{F1:Hp}{D:Ends}(P:Su K one ts g)(s1:cc F F1)(R1:Rl K Fz H₀ F1 H1 σ ρ')(le:∀O,cc F1 O->cc F0 O)(ok:kD K F0 J' items)
  (h:i7 (eV one ts) (dZ C xs) items ρ'=Y out)(k:tN K Fz H₀ F D out):∃R:Nat->Nat->St->Hp->Prop,(∃m,R 0 m σ H1)/\∀i m σ H,R i m σ H->
   (J'.stop i H/\D.nx σ H)\/(J'.go i H/\∃N:St->Hp->Prop,(∀B H',N B H'->∃S,S<m/\R (i+1) S B H')/\∀x H',J'.yld i H x H'->g x σ H' λσ2 H2=>gSs K C xs { D with nx:=N,ct:=N,bk:=D.nx } σ2 H2):=by
 refine⟨λi m σ H=>∃F Q,Rl K Fz _ F H σ Q/\cc F1 F/\i7 (eV _ ts) _ (items.drop i) Q=Y _/\m=Z items - i/\i<=Z items,⟨_,F1,_,R1,cc.refl _,h,W,aK _⟩,?_⟩;rintro i m σ2 H2 ⟨O,s,R2,s2,hl,rfl,t⟩;obtain⟨u,YO⟩:=ok O H2 R2.step.good (le O s2);by_cases a:i<Z items
 .obtain⟨go,E⟩:=u i _ (af a);refine .inr ⟨go,λB H'=>∃S,S<Z items - i/\∃F Q,Rl K Fz _ F H' B Q/\cc F1 F/\i7 (eV _ ts) _ (items.drop _) Q=Y _/\S=Z items - (i+1)/\i+1<=Z items,λB H' z=>z,λx y G=>?_⟩;obtain⟨A,p,I⟩:=E x y G;rw[eP a]at hl;obtain⟨q,w,hl⟩:=cA hl;obtain⟨o,ho,hl⟩:=cA hl;refine P Fz _ A y _ s _ x q _ (R2.moved p) I w λT M=>?_;have b :=s2.trans p.ff;refine⟨Fz,_,A,q,o,ho,M,?_⟩
  cases o with
  |nx c=>exact λj r f l n=>⟨_,kX (ws a) (wt (ax a)),j,c,n,b.trans l,hl,W,a⟩
  |ct c=>exact λj r f l n=>⟨_,kX (ad a) (am (ax a)),j,c,n,b.trans l,hl,W,a⟩
  |bk c=>
    cases hl;exact λj r f l n=>k j r f ((s1.trans b).trans l) n
  |rt d fr=>
    cases hl;exact k
  |rl d c=>
    cases hl;exact λv j r f l n=>k v j r f ((s1.trans b).trans l) n
 .have e :=aD t (bV a);subst e;rw[ox]at hl;cases hl;exact .inl ⟨YO _ (ak _),k O H2 _ (s1.trans s2) R2⟩
def yT(hp:pZ (aG X.prog X.w) X.A X.env X.xe)(hc:X.calm=U)(hi:SI X C tg iter it)(B:∀a,it≠.itv a)(I:PG X tg g)(O:Su X.K one P g)(hb:Ja X C body xs)
  (hs:∀x,foldedSetIterable iter X.env x=pure x):SS X C (.For tg iter body [] pos) (.loop one P it xs):=
 PS.imp (DB hp hc hi I hb hs) λD σ H c=>by
  obtain⟨j,H₀,F,n,l,h,R,k⟩:=c;obtain⟨⟨items,f⟩,h1,h⟩:=cA h;have fin:∀i F1 b,cc F F1->Rl _ j _ F1 b σ f->kD _ (vX it F1) i items->_:=λi F1 b s1 d ok=>pq O s1 d (λe s=>BP s) ok h k
  cases it with
  |itv a=>exact absurd rfl (B a)
  |rng m=>exact Mq R h1 fin
  |zip m=>exact vZ R h1 fin
  |enu a=>exact vZ R h1 fin
  |rev a=>exact vZ R h1 fin
def Om(hp:pZ (aG X.prog X.w) X.A X.env X.xe)(hc:X.calm=U)(he:SE X C iter xe)(O:PG X tg g)(B:Su X.K one I g)(hb:Ja X C body xs)
  (hs:∀x,foldedSetIterable iter X.env x=pure x):SS X C (.For tg iter body [] pos) (.loop one I (.itv xe) xs):=
 PS.imp (DB hp hc (PI.or (PI.or (zj he) (KR he)) (KS he)) O hb hs) λD σ H j=>by
  refine ac λ_ l=>?_;obtain⟨E,H₀,F,G,o,h,R,k⟩:=j;obtain⟨⟨items,q⟩,h1,h⟩:=cA h;obtain⟨⟨d,fr,u⟩,h2,h3⟩:=cA h1;obtain⟨M,c,y⟩:=ee h3;cases y
  refine l ?_;cases d with
  |lst z=>
    cases c;refine .inl (.inl (zG R h2 λv Fm m n a b st r f=>?_));obtain⟨p,vs,rfl,t,e⟩:=r;exact⟨p,W,⟨vs,st.good.sub.seq t⟩,pq B (a.trans st.ff) (b.moved st) (λi s=>s) (sQ t e) h k⟩
  |tup z=>
    cases c;refine .inl (.inr (zG R h2 λv Fm m n a b st r f=>?_));obtain⟨p,vs,rfl,t,e⟩:=r;exact⟨p,W,⟨vs,(t.mono st.good.sub).sq⟩,pq B (a.trans st.ff) (b.moved st) (λi s=>s) (BA t e) h k⟩
  |str x=>
    cases c;refine .inr (zG R h2 λv Fm m n a b st r f=>?_);cases r;exact⟨x,W,pq B (a.trans st.ff) (b.moved st) (λi s=>s) BB h k⟩
  |_=>cases c
def JZ{Jo:ba}(hp:pZ (aG X.prog X.w) X.A X.env X.xe)(hc:ST X C Jo O)(hb:Ja X C body xs):SS X C (.While Jo body [] pos) (.SK O xs):=
 PS.imp (KI hp hc hb) λD σ H B=>by
  refine ac λ_ K=>?_;obtain⟨N,H₀,F,M,Q,h,R,k⟩:=B;refine K ?_;have h:p5 (λM=>(bf C O _).bind _) _ kH M=Y _:=h;generalize kH=n at h;refine⟨λm σ H=>∃F1 M,Rl _ N _ F1 H σ M/\cc F F1/\p5 (λM=>(bf C O (full M)).bind _) _ m M=Y _,⟨n,F,M,R,cc.refl _,h⟩,?_⟩;rintro m r I ⟨F1,S,s,s1,a⟩
  cases m with
  |zero=>cases a
  |succ m=>
    obtain⟨b,t,a⟩:=cA a;obtain⟨⟨d,fr⟩,h1,E⟩:=cA t;obtain⟨G,T,u⟩:=s.jg;refine⟨_,d,fr,b,h1,E,G,u.step.good,u.full,λJ' V st=>?_⟩;have f:=Step.shrink s.step.good T st;cases b with
    |false=>
      refine DW ?_;cases a;exact k _ V r (s1.trans f.ff) (s.moved f)
    |true=>
      refine DV ?_;obtain⟨o,ho,a⟩:=cA a;refine⟨λl P=>∃y,y<m+1/\∃F1 M,Rl _ N _ F1 P l M/\cc F F1/\p5 (λM=>(bf C O _).bind λx=>fV _) _ y M=Y _,λl P z=>z,?_⟩;refine⟨N,_,_,_,o,ho,(s.moved f),?_⟩;have q:=s1.trans f.ff
      cases o with
      |nx c=>exact λg p e i j=>⟨m,ak _,g,c,j,q.trans i,a⟩
      |ct c=>exact λg p e i j=>⟨m,ak _,g,c,j,q.trans i,a⟩
      |bk c=>
        cases a;exact λg p e i j=>k g p e (q.trans i) j
      |rt d fr=>
        cases a;exact k
      |rl d c=>
        cases a;exact λv g p e i j=>k v g p e (q.trans i) j
set_option tactic.hygienic true in
def TF(he:SE X C e xe)(B:Su X.K J S tg')(O:PG X P tg')
  (hs:swapsWithSole [P] e pos.line X.env=pure J)(I:swappedStores [P] e X.env=pure L)(h1:(assignEach [P] X.env).map (·.2)=[assign P X.env]):SS X C (.Assign [P] e pos) (.unp S xe):=
 PS.imp (DC he O hs I h1) λD σ H b=>by
  refine ac λ_ l=>?_;obtain⟨q,H₀,F,t,s,h,R,k⟩:=b;obtain⟨⟨d,fr,m⟩,h1,h⟩:=cA h
  refine l ?_;cases d with
  |tup n=>
    have h:(if Z n=(Z S) then Y (Out.nx (pS S n m))else L)=Y _:=h;split at h
    .rename_i c;cases h;refine zG R h1 λv Fm o p g i st r f=>?_;refine B q _ o p σ _ _ v (pS S n _) _ (i.moved st) r ?_ λa j=>k o p a (g.trans st.ff) j;simp only[eV];rw[if_pos c]
    .cases h
  |_=>cases h
end
section
variable{K:Fg}{base:cx}
set_option tactic.hygienic true in
def Ww{st:kZ}(F:Z6 K x qual st f fd)(S:pX N ps (dz st))(O:Z ps<=Z N)
  (B:∀(cdv:ah)(A:bT)(outer:List Nf)(s:ai)(H:Hp)(E:XK),lJ k (A.deeper (envOfC qual (dz st) s.heap.objs.size f cdv))->
   Ja (xj yA P w K mg base N qual (dz st) f cdv A outer s H E).RK C (mP st) body):lK P w K mg base yA (k+1) f fd ps (oB K ps.length (Qy C ps.length N.length body)):=by
 refine F.ok S (λvs H Q E h=>h.1) λcdv A outer s H vs Q E b h=>⟨_,B _ A _ s H E b,?_⟩
 refine ac λ_ u=>?_;obtain⟨hl,y,d,fr,he,D,g,r,a⟩:=h;refine u ?_;unfold Qy at he;split at he
 .rename_i c;obtain⟨o,ho,he⟩:=cA he;refine⟨D,⟨H,L⟩,D,_,o,ho,⟨Step.refl g,?_,λi G q=>?_,λ_ _ _ z=>(nomatch z),λ_=>[],λi G q=>?_,λi j d1 d2 e p t=>?_⟩,?_⟩
  .unfold L2.start;simp[hl,c]
  .have hi:i<Z y:=by
    by_cases hi:i<Z y
    .exact hi
    .rw[aS (by simpa using hi),cG]at q;split at q<;>cases q
   rw[aY (by simpa using hi),aR]at q;refine ac λ_ u=>?_;obtain⟨d2,I,M⟩:=ee q;cases M;obtain⟨v,T,l⟩:=r.get I;refine u ?_;refine⟨v,?_,l⟩;unfold L2.start;rw[aY (by simp_all),aR,T];rfl
  .exfalso;by_cases hi:i<Z y
   .rw[aY (by simpa using hi)]at q
    simp_all
   .rw[aS (by simpa using hi),cG]at q;split at q<;>cases q
  .simp
  .cases o with
   |nx V=>
     cases he;exact λX H' m s' R=>a _ X H' R.step W be
   |rt G n=>
     cases he;exact a
   |rl _ _=>cases he
   |bk _=>cases he
   |ct _=>cases he
 .cases he
end
theorem cZ.take{K:Fg}:∀(n:Nat){ds:List Dat}{vs:List V}{S:List aL},cZ K H ds vs S->∃B O,cZ K H (ds.take n) (vs.take n) B/\cZ K H (ds.drop n) (vs.drop n) O/\S=B++O
 |0,ds,vs,S,h=>⟨[],S,⟨W,W⟩,h,W⟩
 |n+1,[],vs,S,h=>by
   obtain⟨rfl,rfl⟩:=h;exact⟨[],[],⟨W,W⟩,⟨W,W⟩,W⟩
 |n+1,d::ds,vs,S,b=>by
   refine ac λ_ j=>?_;obtain⟨v,r,B,O,e,h1,h2,q⟩:=b;subst e q;obtain⟨a,c,f,g,i⟩:=cZ.take n h2;refine j ?_;exact⟨_,c,⟨v,_,B,a,W,h1,f,W⟩,g,by simp_all⟩
theorem cZ.setAt{K:Fg}{T:List aL}(F:kL K H P I T):∀(n:Nat){ds:List Dat}{vs:List V}{S:List aL},n<Z ds->cZ K H ds vs S->∃B O C,cZ K H (ds.set n P) (vs.set n I) (B++T++C)/\S=B++O++C
 |n,[],vs,S,a,h=>absurd a (by simp)
 |0,d::ds,vs,S,_,b=>by
   obtain⟨v,r,B,O,e,h1,h2,q⟩:=b;subst e q;exact⟨[],B,O,⟨I,r,T,O,W,F,h2,by simp⟩,by simp⟩
 |n+1,d::ds,vs,S,a,b=>by
   obtain⟨v,r,B,O,e,h1,h2,q⟩:=b;subst e q;obtain⟨c,g,f,i,j⟩:=cZ.setAt F n (by simpa using a) h2;refine⟨B++c,g,f,⟨v,_,B,_,W,h1,i,by simp⟩,by rw[j];simp⟩
section
variable{K:Fg}
def Rl.mut(R:Rl K Fz H₀ F H σ ρ)(O:Ow K H₀.h F H σ ρ S)(hi:ρ[i]?=Y (Y (d,U)))(B:σ[i]?=Y (Y v))
  (hl:l∈S i)(I:Jb o')(o:kL K (upd H l o') d' v S')(nd:S'.Nodup)(P:∀a∈S',a∈S i\/(F a=L/\H₀.h a=L/\∀(j:Nat)d2,ρ[j]?=Y (Y (d2,U))->a∉S j)) :
  Rl K Fz H₀ F (upd H l o') σ (ρ.set i (Y (d',U))):=by
 obtain⟨w,G,x,M,p⟩:=O.own i d hi;obtain⟨ol,r,mul⟩:=x.ud _ l hl;refine⟨⟨⟨λa u q=>?_,λa us q=>?_⟩,R.step.ff,λa u q=>?_,R.step.un⟩,by simpa using R.len,λj d2 q=>?_,λd2 s q=>?_,λj=>if j=i then S' else S j,λj d2 q=>?_,λj k d1 d2 n y t=>?_⟩
 .rw[eh (i4 q ((p l hl).1))];exact R.step.good.sub a u q
 .by_cases ha:a=l
  .subst ha;rw[cW]at q;cases q;exact I.elim
  .rw[eh ha]at q;exact R.step.good.tup a us q
 .rw[eh (i4 q ((p l hl).2))];exact R.step.hh a u q
 .rcases dC q with⟨rfl,e⟩|⟨b,g⟩
  .cases e
  .exact R.val j d2 g
 .rcases dC q with⟨rfl,e⟩|⟨b,g⟩
  .exact R.keep _ s hi
  .exact R.keep _ s g
 .rcases dC q with⟨rfl,e⟩|⟨b,g⟩
  .cases e;rw[if_pos W];refine⟨v,B,o,nd,λa m=>?_⟩
   rcases P a m with m|m
   .exact p a m
   .exact⟨m.1,m.2.1⟩
  .rw[if_neg (cu b)];obtain⟨w,A,C,D,E⟩:=O.own j d2 g;exact⟨w,A,C.upd (λvs z=>by rw[r]at z;cases z;exact mul) d2 (O.sep i j d d2 b hi g l hl),D,E⟩
 .intro a m
  rcases dC y with⟨rfl,e⟩|⟨h1,f⟩
  .rw[if_pos W]at m
   rcases dC t with⟨x,_⟩|⟨h2,c⟩
   .exact absurd x n
   .rw[if_neg (cu h2)]
    rcases P a m with m|m
    .exact O.sep _ k d d2 h2 hi c a m
    .exact m.2.2 k d2 c
  .rw[if_neg (cu h1)]at m
   rcases dC t with⟨rfl,e⟩|⟨h2,c⟩
   .rw[if_pos W];intro m2
    rcases P a m2 with m2|m2
    .exact O.sep _ j d d1 h1 hi f a m2 m
    .exact m2.2.2 j d1 f m
   .rw[if_neg (cu h2)];exact O.sep j k d1 d2 n f c a m
def Step.XX(st:Step F H I C)(g:Good F H)(B:∀a∈S,H a=L)(o:cZ K C ds vs S):Step F H (uz I S) C:=by
 refine⟨⟨λa d q=>?_,λa vs q=>?_⟩,λa d q=>?_,st.hh,λa d q n=>?_⟩
 .by_cases m:a∈S
  .rw[tF m]at q;cases q
  .rw[jW m]at q;exact st.good.sub a d q
 .rw[jW λm=>?_]
  .exact st.good.tup a vs q
  .obtain⟨u,b,c⟩:=o.ud _ a m;rw[q]at b;cases b;exact c
 .rw[jW λm=>?_]
  .exact st.ff a d q
  .rw[g.sub.free (B a m)]at q;cases q
 .by_cases m:a∈S
  .exact tF m
  .rw[jW m];exact st.un a d q n
def zI(R:Rl K I H₀ F H σ ρ)(h:og C es (M.full ρ)=Y (ds,U))
  (k:∀vs B g S,Step F H B g->cZ K g ds vs S->S.Nodup->(∀a∈S,H a=L/\B a=L)->Q vs g):gF K C es σ H Q:=by
 obtain⟨d,i,c⟩:=R.jg;refine⟨_,ds,U,h,d,c.step.good,c.full,λvs F1 e st r f=>?_⟩;obtain⟨S,n,b,o⟩:=f W;exact k vs _ e S (Step.XX (Step.shrink R.step.good i st) R.step.good b o) o n λa m=>⟨b a m,tF m⟩
end
noncomputable def V7:V->Option Key
 |.int i=>Y (.inl i)
 |.str x=>Y (.inr x)
 |_=>L
def LM(h:V7 v=Y k):v=kV k:=by
 cases v<;>first|(cases h;rfl)|cases h
def Qd(k:Key):V7 (kV k)=Y k:=by cases k<;>rfl
noncomputable def sk(k:Key)(y:V):List (Key×V)->List (Key×V)
 |[]=>[(k,y)]
 |p::r=>if p.1=k then(p.1,y)::r else p::sk k y r
theorem Fl:∀(r:List (Key×V)),(r.any λB=>decide (B.1=k))=J->r.map (λB=>if B.1=k then(B.1,y)else B)=r
 |[],_=>rfl
 |p::r,h=>by
   rw[qN,Bool.or_eq_false_iff]at h;rw[aA,if_neg (of_decide_eq_false h.1),Fl r h.2]
theorem Fv:∀(g:List (Key×V)),Bg k (g.map (·.1))=U->putK g k y=sk k y g
 |[],_=>rfl
 |p::r,h=>by
   simp only[aA,Bg]at h;by_cases e:p.1=k
   .rw[if_pos e]at h
    have h2:(r.any λa=>decide (a.1=k))=J:=by
     simp only[iW]at h;rwa[List.any_map]at h
    unfold putK sk;rw[if_pos e,if_pos (by rw[qN,decide_eq_true e];rfl),aA,if_pos e,Fl r h2]
   .rw[if_neg e]at h;unfold sk;rw[if_neg e,<-(Fv (y:=y) r h)];unfold putK;rw[qN,decide_eq_false e,Bool.false_or];split
    .rw[aA,if_neg e]
    .rfl
theorem xT:∀(g:List (Key×V))(ds:List Dat),Z ds=Z g->(sk k y g).map (·.1)=(putD k d (g.map (·.1)) ds).1
 |[],ds,h=>by
   cases ds with
   |nil=>rfl
   |cons _ _=>cases h
 |p::r,[],h=>by cases h
 |p::r,e::ds,h=>by
   have a:=xT (k:=k) (y:=y) (d:=d) r ds (by simpa using h);simp only[sk,aA,putD];by_cases q:p.1=k
   .rw[if_pos q,if_pos q];rfl
   simp_all
theorem cZ.put{K:Fg}{T:List aL}(o:kL K H d y T)(B:T.Nodup):∀(F:List (Key×V)) (ds:List Dat) (S:List aL),cZ K H ds (F.map (·.2)) S->S.Nodup->(∀a∈S,a∉T)->
  ∃C,cZ K H (putD k d (F.map (·.1)) ds).2 ((sk k y F).map (·.2)) C/\C.Nodup/\∀a∈C,a∈S\/a∈T
 |[],[],S,os,f,c=>⟨T,.one o,B,λa m=>.inr m⟩
 |[],e::ds,S,os,f,c=>by
   obtain⟨v,r,i,g,q,_⟩:=os;cases q
 |p::r,[],S,os,f,c=>by
   cases os.1
 |p::r,e::ds,S,os,f,c=>by
   refine ac λ_ w=>?_;obtain⟨v,u,i,g,q,l,j,rfl⟩:=os;cases q;refine w ?_;have h:=cj.mp f;simp only[sk,aA,putD];by_cases q:p.1=k
   .rw[if_pos q,if_pos q];refine⟨_,⟨y,r.map _,T,g,W,o,j,W⟩,cj.mpr ⟨B,h.2.1,λa m b m2 z=>c b (aq _ m2) (z▸m)⟩,λa m=>?_⟩
    grind
   .rw[if_neg q,if_neg q];obtain⟨C,n,s,t⟩:=cZ.put o B r ds g j h.2.1 λa m=>c a (aq _ m);refine⟨_,⟨_,(sk k y r).map _,i,C,W,l,n,W⟩,cj.mpr ⟨h.1,s,λa m b m2 z=>?_⟩,λa m=>?_⟩
    .subst z
     rcases t a m2 with z|z
     .exact h.2.2 a m a z W
     .exact c a (aC _ m) z
    grind
noncomputable def Vl:HO->List V->Option HO
 |.lst a,[y]=>if Z a<aE then Y (.lst (a++[y]))else L
 |_,_=>L
def Lf:HO->List V->Option HO
 | .lst b,l=>match l with
   |[y,.int i]=>if -1000000<=i/\i<=1000000 then(Ug y i b).map .lst else L
   |_=>L
 | .dK a,l=>match l with
   |[y,v]=>(V7 v).bind λk=>if Z a<aE then Y (.dK (putK a k y))else L
   |_=>L
 |_,_=>L
def Be:Jq->HO->List V->Option HO
 |.app,a,l=>Vl a l
 |.seti,a,l=>Lf a l
 |_,_,_=>L
def jI{T:List aL}(nd:(S++T).Nodup):S.Nodup/\T.Nodup/\∀a∈S,a∉T:=by
 obtain⟨h1,h2,h3⟩:=cj.mp nd;exact⟨h1,h2,λa m n=>h3 a m a n W⟩
def jy{S T:List aL}(h1:S.Nodup)(h2:T.Nodup)(h3:∀a∈S,a∉T):(S++T).Nodup:=cj.mpr ⟨h1,h2,λa m b n z=>h3 a m (z▸n)⟩
def G0(K:Fg)(H:Hp)(g:Jq)(B:Dat)(v:V)(vs:List V)(S T:List aL):Prop:=
 ∃l b c d,v=.ref l/\l∈S/\H l=Y b/\Be g b vs=Y c/\Jb c/\kL K (upd H l c) B v d/\d.Nodup/\∀a∈d,a∈S\/a∈T
section
variable{K:Fg}{T:List aL}
def PN{d1:Dat}(hl:H l=Y (.lst xs))(os:cZ K H es xs C)(nd:(l::C).Nodup)(O:kL K H d1 y T)(nt:T.Nodup)(B:∀a∈l::C,a∉T)(g:Z es<aE):G0 K H .app (.lst (es++[d1])) (.ref l) [y] (l::C) T:=by
 have f:=a6.mp nd;have d :=B l jL;refine⟨l,_,.lst _,_,W,jL,hl,by simp only[Be,Vl];rw[if_pos (by rwa[os.length])],trivial,⟨l,_,_,W,cW,(os.upd (λvs z=>by rw[hl]at z;cases z) _ f.1).append (.one (O.upd (λvs z=>by rw[hl]at z;cases z) _ d)),W⟩,?_,λb m=>?_⟩
 .refine a6.mpr ⟨λm=>?_,jy f.2 nt λb m=>B b (jZ _ m)⟩
  rcases au.mp m with m|m
  .exact f.1 m
  .exact d m
 .rcases aw.mp m with rfl|m
  .exact .inl jL
  .rcases au.mp m with m|m
   .exact .inl (jZ _ m)
   .exact .inr m
def Wd(h:tL n i=Y k):k<n:=(zy h).2.1
def PM{d1:Dat}(hl:H l=Y (.lst xs))(os:cZ K H es xs F)(nd:(l::F).Nodup)(O:kL K H d1 y T)(nt:T.Nodup)(B:∀a∈l::F,a∉T)(C:-1000000<=i/\i<=1000000)(h2:tL es.length i=Y k):G0 K H .seti (.lst (es.set k d1)) (.ref l) [y,.int i] (l::F) T:=by
 have n :=B l jL;obtain⟨f,r,g,o,rfl⟩:=os.setAt O k (Wd h2);have h:=jI (a6.mp nd).2;have d:l∉f++T++g:=λm=>by
  grind
 refine⟨l,_,.lst _,_,W,jL,hl,?_,trivial,⟨l,_,_,W,cW,o.upd (λvs z=>by rw[hl]at z;cases z) _ d,W⟩,?_,λb m=>?_⟩
 .simp only[Be,Lf];rw[if_pos C];unfold Ug;rw[os.length,h2];rfl
 .refine a6.mpr ⟨d,jy (jy (jI h.1).1 nt λb m=>B b (jZ _ (aC _ (aC _ m)))) h.2.1 λb m m2=>?_⟩
  grind
 grind
end
def Lq{K:Fg}{T:List aL}{d1:Dat}(hl:H l=Y (.dK F))(os:cZ K H ds (F.map (·.2)) I)(nd:(l::I).Nodup)(C:kL K H d1 y T)(nt:T.Nodup)(B:∀a∈l::I,a∉T)(O:Z (F.map (·.1))<aE/\Bg k (F.map (·.1))=U) :
  G0 K H .seti (.dct (putD k d1 (F.map (·.1)) ds).1 (putD k d1 (F.map (·.1)) ds).2) (.ref l) [y,kV k] (l::I) T:=by
 have h:=a6.mp nd;obtain⟨g,i,j,n⟩:=cZ.put C nt F ds I os h.2 λa m=>B a (jZ _ m)
 have d:l∉g:=λm=>by
  rcases n l m with z|z
  .exact h.1 z
  .exact (B l jL) z
 refine⟨l,_,.dK _,_,W,jL,hl,?_,trivial,⟨l,_,g,W,cW,xT F ds (by simpa using os.length.symm),i.upd (λvs z=>by rw[hl]at z;cases z) _ d,W⟩,a6.mpr ⟨d,j⟩,λb m=>?_⟩
 .simp only[Be,Lf,Qd,bG];rw[if_pos (by simpa using O.1),Fv F O.2]
 grind
set_option tactic.hygienic true in
def zo{K:Fg}{T:List aL}(h1:op≠.ext)(h:lG op d ds=Y I)(o:kL K H d v S)(nd:S.Nodup)(a:cZ K H ds vs T)(nt:T.Nodup)(B:∀a∈S,a∉T):G0 K H op I v vs S T:=by
 have hd:(∃F,d=.lst F)\/(op=.seti/\∃G ws,d=.dct G ws):=by
  cases d with
  |lst F=>exact .inl ⟨F,W⟩
  |dct G ws=>cases op<;>first|exact absurd rfl h1|exact .inr ⟨W,G,ws,W⟩|cases h
  |any=>cases op<;>first|exact absurd rfl h1|cases h
  |_=>cases op<;>cases h
 rcases hd with hd|⟨rfl,G,ws,rfl⟩
 rotate_left
 .obtain⟨l,O,M,rfl,hl,rfl,os,rfl⟩:=o
  cases ds with
  |nil=>cases h
  |cons d1 ds=>
    cases ds with
    |nil=>cases h
    |cons d0 ds=>
      cases ds with
      |cons _ _=>cases h
      |nil=>
        obtain⟨k,hk,h⟩:=cA h;split at h
        .rename_i b;refine ac λ_ E=>?_;cases h;obtain⟨y,r,t,u,e,c,m,q⟩:=a;obtain⟨w,A,z,n,p,j,f,g⟩:=m;obtain⟨rfl,rfl⟩:=f
         have C:w=kV k/\z=[]:=by
          cases d0 with
          |int i=>cases hk;exact j
          |str x=>cases hk;exact j
          |_=>cases hk
         obtain⟨rfl,rfl⟩:=C;refine E ?_;rw[aI]at g;subst e p g;rw[aI]at q;subst q;exact Lq hl os nd c nt B b
        .cases h
 obtain⟨F,rfl⟩:=hd;obtain⟨l,P,M,rfl,hl,os,rfl⟩:=o
 cases op with
 |ext=>exact absurd rfl h1
 |app=>
   cases ds with
   |nil=>cases h
   |cons d1 ds=>
     cases ds with
     |cons _ _=>cases h
     |nil=>
       obtain⟨y,r,t,u,e,c,f,q⟩:=a;obtain⟨rfl,rfl⟩:=f;rw[aI]at q;subst e q;simp only[lG,SY,JK,SX]at h;split at h
       .rename_i b;cases h;exact PN hl os nd c nt B b
       .cases h
 |seti=>
   cases ds with
   |nil=>cases h
   |cons d1 ds=>
     cases ds with
     |nil=>cases h
     |cons d0 ds=>
       cases ds with
       |cons _ _=>cases d0<;>cases h
       |nil=>
         cases d0 with
         |int i=>
           obtain⟨y,r,t,u,e,c,m,q⟩:=a;obtain⟨w,A,z,n,p,j,f,g⟩:=m;obtain⟨rfl,rfl⟩:=f;obtain⟨rfl,rfl⟩:=j;rw[aI]at g;subst e p g;rw[aI]at q;subst q;simp only[lG,SY,JK,SX]at h;split at h
           .rename_i b;obtain⟨N,s,h⟩:=ee h;cases h;obtain⟨k,D,s⟩:=ee s;subst s;exact PM hl os nd c nt B b D
           .cases h
         |_=>cases h
section
variable{X:Cx}{K:Fg}
def Wq(h:gF K C [O,P] σ H Q):gE K C O σ H λx B=>gE K C P σ B λy I=>Q [x,y] I:=by
 refine ac λ_ o=>?_;obtain⟨p,q,al,h,F,g,R,k⟩:=h;obtain⟨⟨d,fr⟩,h1,h⟩:=cA h;obtain⟨⟨r,n⟩,h2,h⟩:=ee h;cases h;obtain⟨⟨d2,c⟩,h3,i⟩:=cA h2;cases i;refine o ?_;refine⟨p,d,fr,h1,F,g,R,λv F1 B a e j=>⟨p,d2,c,h3,F1,a.good,R.mono a.ff,λw l I b f m=>k _ l I (a.trans b) ⟨v,_,W,e.mono b.ff,w,[],W,f,W⟩ λz=>?_⟩⟩;simp only[gR,lM,ag]at z;refine fD.cons a.hh b.hh ?_ (fD.cons b.hh (cc.refl _) ?_ .nil)
 .rcases z.1 with z|z
  .exact j z
  .exact .kQ a.good z e
 .rcases z.2 with z|z
  .exact m z
  .exact .kQ b.good z f
def mO(h:gE K C x σ H Q)(f:∀v B,cc H B->Q v B->I v B):gE K C x σ H I:=by
 obtain⟨b,d,fr,h,F,g,R,k⟩:=h;exact⟨b,d,fr,h,F,g,R,λv c a st r fr=>f v a st.hh (k v c a st r fr)⟩
def Bm(h:pB C (.mut op i es) ρ=Y out) :
  ∃ds d g,og C es (full ρ)=Y (ds,U)/\ρ[i]?=Y (Y (d,U))/\lG op d ds=Y g/\out=.nx (ρ.set i (Y (g,U))):=by
 obtain⟨⟨ds,al⟩,h3,h⟩:=cA h;by_cases a:al=U
 .subst a
  cases q:ρ[i]? with
  |none=>rw[q]at h;cases h
  |some z=>
    rw[q]at h
    match z,h with
    |some (d,U),h=>
      obtain⟨g,b,c⟩:=ee h;exact⟨ds,d,g,h3,W,b,c.symm⟩
 simp_all
def Bl(h1:op≠.ext){D:Ends}(h:gS K C (.mut op i es) D σ H) :
  ∃l B,σ[i]?=Y (Y (.ref l))/\H l=Y B/\(op≠.seti->∃xs,B=.lst xs)/\gF K C es σ H λvs P=>∃S ob',P l=Y S/\Be op S vs=Y ob'/\D.nx σ (upd P l ob'):=by
 refine ac λ_ x=>?_;obtain⟨Fz,H₀,F,ρ,V,h,R,k⟩:=h;obtain⟨ds,d,d',h3,hi,b,rfl⟩:=Bm h;obtain⟨Ss,O⟩:=R.ow;obtain⟨v,Q,y,e3,J'⟩:=O.own i d hi
 have c:∃l B,v=.ref l/\H l=Y B/\(op≠.seti->∃xs,B=.lst xs):=by
  cases d with
  |lst es=>
    obtain⟨l,xs,S',rfl,hl,os,L'⟩:=id y;exact⟨l,_,W,hl,λ_=>⟨xs,W⟩⟩
  |dct ks ws=>
    obtain⟨l,k_,S',rfl,hl,_⟩:=id y;refine⟨l,_,W,hl,λe=>?_⟩
    cases op<;>first|exact absurd rfl h1|exact absurd _ h2|exact absurd rfl e|cases b
  |any=>cases op<;>first|exact absurd rfl h1|exact absurd _ h2|cases b
  |_=>cases op<;>cases b
 obtain⟨l,B,rfl,hl,f⟩:=c;refine x ?_;refine⟨l,B,Q,hl,f,zI R h3 λvs F' H' T st ow t s=>?_⟩;have z:∀a∈Ss i,a∉T:=λa m m2=>by
  obtain⟨u,A,_⟩:=y.ud _ a m
  simp_all
 refine ac λ_ x=>?_;obtain⟨M,S,ob',N,ev,g,n,o,E,G,p,r⟩:=zo h1 b (y.mono st.hh) e3 ow t z;cases ev;refine x ?_;refine⟨S,_,n,o,k F' _ σ st.ff ((R.moved st).mut (O.moved st) hi Q g E G p λa m=>?_)⟩
 rcases r a m with m|m
 .exact .inl m
 .refine .inr ⟨(s a m).2,R.step.hh.free (s a m).1,λj d2 q m2=>?_⟩;obtain⟨w,_,I,_⟩:=O.own j d2 q;obtain⟨u,A,_⟩:=I.ud _ a m2
  simp_all
def Ol{st:kZ}(h1:op≠.ext)(h3:op≠.seti)(O:∀l B P vs H Q,H l=Y B->Be op B vs=Y P->(∀u,Q u (upd H l P))->r (.ref l) vs H Q)
  (I:PS X st (AG (Ta X.K "list" r (se i) (gF X.K C es)))):SS X C st (.mut op i es):=PS.imp I λD σ H h=>by
 obtain⟨l,b,j,hl,a,g⟩:=Bl h1 h;obtain⟨m,rfl⟩:=a h3;refine⟨_,j,.inl ⟨W,m,ng.of hl⟩,?_⟩;refine ac λ_ d=>?_;obtain⟨n,o,al,h,F,c,R,k⟩:=g;refine d ?_;exact⟨n,o,al,h,F,c,R,λvs p e st r f=>let ⟨B,_,q,s,t⟩:=k vs p e st r f;O l B _ vs e _ q s λ_=>t⟩
def KA:V->V->V->Hp->(Hp->Prop)->Prop:=λo i v H Q=>∃p a k,o=.ref p/\i=kV k/\H p=Y (.dK a)/\Z a<aE/\Q (upd H p (.dK (putK a k v)))
def Fc(B:X.A.units+1<dR):Xk X (λo i v H Q=>Fo o i v H Q\/KA o i v H Q):=λh_ s σ H o i v d e u Q I a b c h=>by
 rcases h with h|⟨p,j,k,rfl,rfl,hp,f,q⟩
 .exact set_list h_ s σ H o i v d e u Q I a b c h
 .cases a;exact IM I (Q8.k hp f) b c λl g=>⟨_,g,q⟩
set_option tactic.hygienic true in
def Oi{st:kZ}(B:PS X st (Hu (gE X.K C xe) (Wp (se i) (gE X.K C xi) (λo i v H Q=>Fo o i v H Q\/KA o i v H Q)))):SS X C st (.mut .seti i [xe,xi]):=PS.imp B λD σ H h=>by
 obtain⟨l,d,e,hl,_,g⟩:=Bl (by simp) h;refine mO (Wq g) λx u s1 f=>⟨_,e,mO f λy E s2 m=>?_⟩
 obtain⟨n,s,b,a,c⟩:=m
 cases n with
 |lst z=>
   cases y with
   |int k=>
     simp only[Be,Lf]at a;split at a
     .obtain⟨w,p,q⟩:=ee a;cases q;obtain⟨j,r,rfl⟩:=ee p;exact .inl ⟨l,z,k,j,W,W,b,r,c⟩
     .cases a
   |_=>cases a
 |dK A=>
   obtain⟨k,hk,a⟩:=cA a;split at a
   .rename_i t;cases a;exact .inr ⟨l,A,k,W,LM hk,b,t,c⟩
   .cases a
 |_=>cases a
end
section
set_option tactic.hygienic true in
def D3:∀l B g vs H(Q:VK),H l=Y B->Be .app B vs=Y g->(∀u,Q u (upd H l g))->Fq (.ref l) vs H Q:=λl B g vs H Q h1 h2 h3=>by
 cases B with
 |lst b=>
   cases vs with
   |nil=>cases h2
   |cons y vs=>
     cases vs with
     |cons _ _=>cases h2
     |nil=>
       simp only[Be,Vl]at h2;split at h2
       .rename_i a;cases h2;exact⟨l,b,y,W,W,h1,a,h3 _⟩
       .cases h2
 |_=>cases h2
end
def BW{items B:Array ah}(O:items.size+B.size<=aE):¬(!items.isEmpty && jb (items.size+B.size))=U:=by
 rw[Lh O];simp
def Ml(l:aL)(items:Array ah)(n:Nat)(b:aL)(B:Array ah)(C:Nat)(O:Option aL)(yW:Array (Option ah))(F:¬(!items.isEmpty && jb (items.size+B.size))=U)(I:items.size<=aE)(P:items.size+B.size<=aE+1) :
  Meets (iC.«list.extend» ⟨[.ref l,.ref b],[]⟩) (λ_ R s=>s.heap.get? l=Y { cls:=.type "list",dict:=L,data:=.seq items n,slots:=#[] }/\s.heap.get? b=Y { cls:=.type "tuple",dict:=O,data:=.seq B C,slots:=yW }/\R (.ok (.ret fm)) { s with heap:=s.heap.update l (eZ λx=>x++B),toks:=s.toks }):=
 .of_wp λprog w A R s h=>by
  obtain⟨hp,g,d,a,os⟩:=s;obtain⟨hl,hb,h⟩:=h
  wp_walk using(jd hl W ),qE hl,qE hb
  exact⟨_,W,h⟩
def Mo(l:aL)(items:Array ah)(n:Nat)(b:aL)(B:Array ah)(C:Nat)(O:Option aL)(yW:Array (Option ah))(F:¬(!items.isEmpty && jb (items.size+B.size))=U)(I:items.size<=aE)(P:items.size+B.size<=aE+1) :
  Meets (iC.«list.extend» ⟨[.ref l,.ref b],[]⟩) (λ_ R s=>s.heap.get? l=Y { cls:=.type "list",dict:=L,data:=.seq items n,slots:=#[] }/\s.heap.get? b=Y { cls:=.type "list",dict:=O,data:=.seq B C,slots:=yW }/\R (.ok (.ret fm)) { s with heap:=s.heap.update l (eZ λx=>x++B),toks:=s.toks }):=
 .of_wp λprog w A R s h=>by
  obtain⟨hp,g,d,a,os⟩:=s;obtain⟨hl,hb,h⟩:=h
  wp_walk using(jd hl W ),qE hl,qE hb
  exact⟨_,W,h⟩
section
variable{K:Fg}
def YA(K:Fg):V->List V->Hp->VK->Prop:=λx vs H Q=>∃l b c a,x=.ref l/\vs=[.ref b]/\H l=Y (.lst c)/\(ng K H b a\/tZ K H b a)/\Z c+Z a<=aE/\Q .non (upd H l (.lst (c++a)))
def Vz:MtM X "list.extend" (YA X.K):=by
 intro h_ s σ H x vs v us Q I t w h;obtain⟨l,b,E,m,rfl,rfl,o,f,y,q⟩:=h;cases t;obtain⟨u,rfl,A⟩:=w.one;cases A;obtain⟨z,C,n,r,hl,e⟩:=I.P6 o
 have fin:∀(a:List ah)(p:Nat),cV m a->EP X h_ σ Q _ { s with heap:=s.heap.update l (eZ λx=>x++a.toArray),toks:=p }:=λa p c=>
  ⟨.non,_,I.Y3 o e (by simp) (r.append c) (by simp_all),W,q⟩
 have d:∀{a:List ah},cV m a->C.toArray.size+a.toArray.size<=aE:=λc=>by rwa[bC,bC,<-r.length,<-c.length]
 rcases f with f|f
 .refine ac λ_ B=>?_;obtain⟨a,c,⟨j,k,D,hc,hd,hs⟩,_⟩:=I.list f;obtain⟨g,i,data2,yW⟩:=j;subst hc hd hs;refine B ?_;exact PySem.call_meets mT ⟨_,e,W⟩ Nd (Jz _ _) (Mo l _ n b _ k _ yW (BW (d c)) (by simp_all) (cU (d c))) ⟨e,D,fin a _ c⟩
 .refine ac λ_ B=>?_;obtain⟨a,c,⟨j,D,hc,k,hd⟩,_⟩:=I.tuple f;obtain⟨g,i,data2,yW⟩:=j;subst hc hd;refine B ?_;exact PySem.call_meets mT ⟨_,e,W⟩ Nd (Jz _ _) (Ml l _ n b _ k i yW (BW (d c)) (by exact aa (ae hl.symm) z) (cU (d c))) ⟨e,D,fin a _ c⟩
def SD(K:Fg)(H:Hp)(g:Dat)(v:V)(vs:List V)(S T:List aL):Prop:=
 ∃l d b c e,v=.ref l/\l∈S/\H l=Y (.lst d)/\vs=[.ref b]/\(ng K H b c\/tZ K H b c)/\Z d+Z c<=aE/\kL K (upd H l (.lst (d++c))) g v e/\e.Nodup/\∀a∈e,a∈S\/a∈T
def Mn{T:List aL}(hl:H l=Y (.lst xs))(os:cZ K H es xs C)(nd:(l::C).Nodup)(hb:ng K H b zs\/tZ K H b zs)(of:cZ K H fs zs F)(B:∀a∈F,a∈T)(nt:F.Nodup)(O:∀a∈l::C,a∉T)(g:Z es+Z fs<=aE) :
  SD K H (.lst (es++fs)) (.ref l) [.ref b] (l::C) T:=by
 have e:=a6.mp nd;have d :=λm=>O l jL (B l m);refine⟨l,xs,b,zs,_,W,jL,hl,W,hb,by rwa[os.length,of.length],⟨l,_,_,W,cW,(os.upd (λvs z=>by rw[hl]at z;cases z) _ e.1).append (of.upd (λvs z=>by rw[hl]at z;cases z) _ d),W⟩,?_,λa m=>?_⟩
 .refine a6.mpr ⟨λm=>?_,jy e.2 nt λa m m2=>O a (jZ _ m) (B a m2)⟩
  grind
 grind
set_option tactic.hygienic true in
def Qx{T:List aL}(h:lG .ext d ds=Y C)(o:kL K H d v S)(nd:S.Nodup)(a:cZ K H ds vs T)(nt:T.Nodup)(B:∀a∈S,a∉T):SD K H C v vs S T:=by
 cases d with
 |lst p=>
   obtain⟨l,s,t,rfl,hl,os,rfl⟩:=o
   cases ds with
   |nil=>cases h
   |cons d1 ds=>
     cases ds with
     |cons _ _=>cases d1<;>cases h
     |nil=>
       obtain⟨y,r,j,k,e,f,g,q⟩:=a;obtain⟨rfl,rfl⟩:=g;rw[aI]at q;subst e q
       cases d1 with
       |lst fs=>
         simp only[lG,JK]at h;split at h
         .rename_i c;cases h;obtain⟨b,i,n,rfl,hb,of,rfl⟩:=f;exact Mn hl os nd (.inl (.inl (.inl hb))) of (λa m=>jZ _ m) (a6.mp nt).2 B c
         .cases h
       |tup fs=>
         simp only[lG,JK]at h;split at h
         .rename_i c;cases h;obtain⟨b,i,rfl,hb,of⟩:=f;exact Mn hl os nd (.inr hb.sq) of (λa m=>m) nt B c
         .cases h
       |_=>cases h
 |_=>cases h
def Mm{D:Ends}(h:gS K C (.mut .ext i es) D σ H) :
  ∃l B,σ[i]?=Y (Y (.ref l))/\H l=Y (.lst B)/\gF K C es σ H λvs P=>∃xs b S,P l=Y (.lst xs)/\vs=[.ref b]/\(ng K P b S\/tZ K P b S)/\Z xs+Z S<=aE/\D.nx σ (upd P l (.lst (xs++S))):=by
 obtain⟨Fz,H₀,F,ρ,V,h,R,k⟩:=h;obtain⟨ds,d,d',h3,hi,p,rfl⟩:=Bm h;obtain⟨X,O⟩:=R.ow;obtain⟨v,Q,x,e3,J'⟩:=O.own i d hi
 have c:∃l B,v=.ref l/\H l=Y (.lst B):=by
  cases d with
  |lst es=>
    obtain⟨l,xs,S',rfl,hl,os,L'⟩:=id x;exact⟨l,xs,W,hl⟩
  |_=>cases p
 obtain⟨l,B,rfl,hl⟩:=c;refine⟨l,B,Q,hl,zI R h3 λvs F' H' T st ow s r=>?_⟩;have y:∀a∈X i,a∉T:=λa m m2=>by
  obtain⟨u,z,_⟩:=x.ud _ a m
  simp_all
 refine ac λ_ t=>?_;obtain⟨M,xs,b,S,N,ev,e,f,g,A,E,G,n,o⟩:=Qx p (x.mono st.hh) e3 ow s y;cases ev;refine t ?_;refine⟨xs,b,S,f,g,A,E,k F' _ σ st.ff ((R.moved st).mut (O.moved st) hi Q e trivial G n λa m=>?_)⟩
 rcases o a m with m|m
 .exact .inl m
 .refine .inr ⟨(r a m).2,R.step.hh.free (r a m).1,λj d2 q m2=>?_⟩;obtain⟨w,_,I,_⟩:=O.own j d2 q;obtain⟨u,z,_⟩:=I.ud _ a m2
  simp_all
def TR{st:kZ}(B:PS X st (AG (Ta X.K "list" (YA X.K) (se i) (gF X.K C es)))):SS X C st (.mut .ext i es):=PS.imp B λD σ H h=>by
 obtain⟨l,a,e,hl,g⟩:=Mm h;refine⟨_,e,.inl ⟨W,a,ng.of hl⟩,?_⟩;refine ac λ_ d=>?_;obtain⟨j,m,al,h,F,c,R,k⟩:=g;refine d ?_;exact⟨j,m,al,h,F,c,R,λvs n o st r f=>by obtain⟨p,b,q,s,t,u,v,w⟩:=k vs n o st r f;exact⟨l,b,p,q,W,t,s,u,v,w⟩⟩
end
section
variable{X:Cx}{K:Fg}
theorem xZ:∀{ds:List Dat}{q:List Key}{vs:List V},Bz ds=Y q->cX K F ds vs->vs=q.map kV
 |[],_,_,h,r=>by cases h;exact r
 |d::ds,_,_,h,a=>by
   obtain⟨v,w,e,h1,h2⟩:=a;obtain⟨k,hk,h⟩:=cA h;obtain⟨q,b,h⟩:=ee h;cases h;subst e;rw[aA,<-xZ b h2]
   congr 1
   cases d with
   |int i=>cases hk;exact h1
   |str x=>cases hk;exact h1
   |_=>cases hk
theorem FN:∀{ds:List Dat}{q:List N2}{vs:List V},RM ds=Y q->cX K F ds vs->Z4 K F q vs
 |[],_,_,h,r=>by cases h;exact r
 |d::ds,_,_,h,f=>by
   obtain⟨v,w,e,h1,h2⟩:=f;obtain⟨k,hk,h⟩:=cA h;obtain⟨q,g,h⟩:=ee h;cases h;subst e;have b:=FN g h2
   cases d with
   |int i=>cases hk;cases h1;exact⟨w,W,b⟩
   |str x=>cases hk;cases h1;exact⟨w,W,b⟩
   |tup l=>
     obtain⟨j,c,hk⟩:=ee hk;cases hk;obtain⟨a,vs,rfl,t,r⟩:=h1;rw[xZ c r]at t;exact⟨a,w,W,t,b⟩
   |_=>cases hk
theorem FI:∀{ds:List Dat}{q:List NK}{vs:List V},XD ds=Y q->cX K F ds vs->Z3 K F q vs
 |[],_,_,h,r=>by cases h;exact r
 |d::ds,_,_,h,f=>by
   obtain⟨v,w,e,h1,h2⟩:=f;obtain⟨k,hk,h⟩:=cA h;obtain⟨q,g,h⟩:=ee h;cases h;subst e;have b:=FI g h2
   cases d with
   |int i=>cases hk;cases h1;exact⟨w,W,b⟩
   |str x=>cases hk;cases h1;exact⟨w,W,b⟩
   |tup l=>
     obtain⟨j,c,hk⟩:=ee hk;cases hk;obtain⟨a,vs,rfl,t,r⟩:=h1;exact⟨a,w,vs,W,t,FN c r,b⟩
   |_=>cases hk
def PJ(h:Vr g=Y k)(r:Rep K F g v):∃a,v=.ref a/\NKy K F k a:=by
 cases g with
 |tup b=>
   obtain⟨a,vs,rfl,t,r⟩:=r;exact⟨a,W,vs,t,FI h r⟩
 |_=>cases h
theorem F8:∀{q:List Key}{us:List ah},cV (q.map kV) us->∀h:cx,rS (Iq X.prog X.w) h q us
 |[],_,w,_=>by cases w;exact .nil
 |k::q,_,w,h=>by
   cases w with
   |cons a b=>exact .cons (vO a) (F8 b h)
theorem sx(I:Inv X h_ σ H s)(g:Good F H):∀{k:List N2}{vs:List V}{us:List ah},Z4 X.K F k vs->cV vs us->rS (i2 X.prog X.w) s.heap k us
 |[],_,_,h,w=>by rw[h]at w;cases w;exact .nil
 |.inl k::d,_,_,h,w=>by
   obtain⟨r,rfl,h⟩:=h;cases w with
   |cons q w=>exact .cons (vO q) (sx I g h w)
 |.inr q::d,_,_,h,w=>by
   obtain⟨b,r,rfl,t,h⟩:=h;cases w with
   |cons a w=>
     refine .cons ?_ (sx I g h w);cases(a);obtain⟨e,c,⟨o,h1,h2,n,h3⟩,_⟩:=I.tupR g t;exact⟨b,W,o,_,n,h1,h2,h3,by simpa using F8 c _⟩
theorem sv(I:Inv X h_ σ H s)(g:Good F H):∀{k:List NK}{vs:List V}{us:List ah},Z3 X.K F k vs->cV vs us->Xm X.prog X.w s.heap k us
 |[],_,_,h,w=>by rw[h]at w;cases w;exact .nil
 |.inl k::e,_,_,h,w=>by
   obtain⟨r,rfl,h⟩:=h;cases w with
   |cons q w=>exact .cons (vO q) (sv I g h w)
 |.inr q::e,_,_,h,w=>by
   obtain⟨b,r,us,rfl,t,a,h⟩:=h;cases w with
   |cons c w=>
     refine .cons ?_ (sv I g h w);cases(c);obtain⟨f,d,⟨o,h1,h2,n,h3⟩,_⟩:=I.tupR g t;exact⟨b,W,o,_,n,h1,h2,h3,by simpa using sx I g a d⟩
def Lm(I:Inv X h_ σ H s)(g:Good F H)(h:NKy X.K F k a):(YU X.prog X.w).is s.heap k a:=by
 refine ac λ_ c=>?_;obtain⟨vs,t,r⟩:=h;obtain⟨d,b,⟨o,h1,h2,n,h3⟩,_⟩:=I.tupR g t;refine c ?_;exact⟨o,_,n,h1,h2,h3,by simpa using sv I g r b⟩
end
section
variable{X:Cx}
noncomputable def Jn(g:Dat)(ds:List Dat)(its:List ah)(w:ah):Bool:=@decide (∃(i:Nat) (d:Dat),its[i]?=Y w/\ds[i]?=Y d/\pE d g=U) (mX _)
def Eh(I:Inv X h_ σ H s)(g:Good F H){B:Dat}{ds:List Dat}{vs:List V}{its:List ah}(C:eU 20 ds=U)(r:cX X.K F ds vs)(w:cV vs its){i:Nat}{d:Dat}{u:ah}(h1:its[i]?=Y u)(h2:ds[i]?=Y d):Jn B ds its u=pE d B:=by
 have one:∀(j:Nat)q,its[j]?=Y u->ds[j]?=Y q->q=d:=λj q c b=>by
  obtain⟨v,t,x⟩:=r.get h2;obtain⟨n,e,f⟩:=r.get b;obtain⟨o,k,m⟩:=w.get t;obtain⟨p,a,h⟩:=w.get e;rw[h1]at k;cases k;rw[c]at a;cases a;have:=m.inj h;subst this;exact(zh I g d q (pk 20 _ (lN C h2)) (pk 20 _ (lN C b)) x f).symm
 by_cases hd:pE d B=U
 .rw[hd];exact@decide_eq_true _ (mX _) ⟨i,d,h1,h2,hd⟩
 .have:pE d B=J:=by simpa using hd
  rw[this];refine@decide_eq_false _ (mX _) λ⟨j,q,c,b,l⟩=>?_;rw[one j q c b]at l;exact hd l
def zW(I:Inv X h_ σ H s)(g:Good F H)(B:eU 20 ds=U)(r:cX X.K F ds vs)(w:cV vs its):its.any (Jn C ds its)=ds.any λy=>pE y C:=by
 have hl:Z its=Z ds:=by rw[<-w.length,r.length]
 rw[wD,oz,oz];constructor
 .rintro⟨u,b,h⟩;obtain⟨i,hi,e⟩:=lO b;have a:=aa hi (ae hl);refine⟨_,bA a,?_⟩;rwa[<-Eh I g B r w (by rw[af hi,e]) (af a)]
 .rintro⟨d,hd,h⟩;obtain⟨i,hi,e⟩:=lO hd;have a:=aa hi (ae hl.symm);refine⟨_,bA a,?_⟩;rwa[Eh I g B r w (af a) (by rw[af hi,e])]
def Eg(I:Inv X h_ σ H s)(g:Good F H)(A:bT)(B:A.units+20<dR)(sa:iY 20 P=U)(R:eU 20 ds=U)(O:Rep X.K F P x)(C:RelV x u)(r:cX X.K F ds vs)(w:cV vs its) :
  ∀y∈its,Hd A s y u (Jn P ds its y):=λy c=>by
 obtain⟨i,hi,e⟩:=lO c;have a:i<Z ds:=aa hi (ae (by rw[<-w.length,r.length]));have h1:its[i]?=Y y:=by simp_all
 have h2:=af a;rw[Eh I g R r w h1 h2];obtain⟨v,h,j⟩:=r.get h2;obtain⟨f,b,d⟩:=w.get h;rw[h1]at b;cases b;exact(v3 I g 20 A _ P B (lN R h2) sa j O d C).1
set_option tactic.hygienic true
def Vc(O:X.A.units+21<dR):j8 X (compareOp .In) (gB X.K (rJ .isin)):=λh_ s σ H x y v u Q I e f l=>by
 refine ac λ_ c=>?_;obtain⟨D,o,d,fr,h,F,g,i,j,k⟩:=l;obtain⟨b,hd,rfl,rfl⟩:=kC h;refine c ?_;cases o with
 |str z=>
   cases D with
   |str C=>
     cases hd;exact Ib h_ s σ H x y v u Q I e f ⟨_,_,i,j,k _ F H (Step.refl g) W be⟩
   |_=>cases hd
 |lst E=>
   have a:(if iY 20 D && eU 20 E then Y (E.any λy=>pE y D)else L)=Y b:=by cases D<;>exact hd
   split at a
   .rename_i hs;rw[ag]at hs;cases a;obtain⟨p,vs,rfl,t,r⟩:=j;obtain rfl:u=.ref p:=f;obtain⟨G,w,pl,_⟩:=I.lstR g t;refine SeqAt.in_listAt (Jn D E _) pl.isList (λy m=>Eg I g _ (by omega) hs.1 hs.2 i e r w y (by simpa using m)) ⟨.bl _,H,I,W,?_⟩;rw[show G.toArray.any (Jn D E _)=G.any (Jn D E G) by simp,zW I g hs.2 r w];exact k _ F H (Step.refl g) W be
   .cases a
 |tup E=>
   have a:(if iY 20 D && eU 20 E then Y (E.any λy=>pE y D)else L)=Y b:=by cases D<;>exact hd
   split at a
   .rename_i hs;rw[ag]at hs;cases a;obtain⟨p,vs,rfl,t,r⟩:=j;obtain rfl:u=.ref p:=f;obtain⟨G,w,pl,_⟩:=I.tupR g t;refine SeqAt.in_tupleAt (Jn D E _) pl (λy m=>Eg I g _ (by omega) hs.1 hs.2 i e r w y (by simpa using m)) ⟨.bl _,H,I,W,?_⟩;rw[show G.toArray.any (Jn D E _)=G.any (Jn D E G) by simp,zW I g hs.2 r w];exact k _ F H (Step.refl g) W be
   .cases a
 |dct P E=>
   have a:(ub D).map (λk=>(iO k P E).isSome)=Y b:=by cases D<;>exact hd
   refine ac λ_ c=>?_;obtain⟨M,hk,a⟩:=ee a;subst a;obtain⟨p,N,rfl,B,rfl,n⟩:=j;obtain rfl:=pz hk i;obtain rfl:u=.ref p:=f
   refine c ?_;have R:(iO M (N.map (·.1)) E).isSome=(o7 N M).isSome:=by
    cases q:iO M (N.map _) E with
    |none=>rw[sO q n];rfl
    |some d=>obtain⟨w,S,_⟩:=pT q n;rw[S];rfl
   refine abD I (tf.k (g.sub _ _ B)) e λV T=>⟨.bl _,H,T,W,?_⟩
   rw[<-R];exact k _ F H (Step.refl g) W be
 |_=>cases D<;>cases hd
def Pn(B:X.A.units+21<dR):j8 X (compareOp .NotIn) (gB X.K (rJ .nin)):=λh_ s σ H x y v u Q I f i c=>by
 refine ac λ_ e=>?_;obtain⟨q,m,d,fr,h,F,g,j,l,k⟩:=c;obtain⟨b,hd,rfl,rfl⟩:=kC h;refine e ?_;cases m with
 |str z=>
   cases q with
   |str o=>
     cases hd;exact zk h_ s σ H x y v u Q I f i ⟨_,_,j,l,k _ F H (Step.refl g) W be⟩
   |_=>cases hd
 |lst D=>
   have a:(if iY 20 q && eU 20 D then Y (!(D.any λy=>pE y q))else L)=Y b:=by cases q<;>exact hd
   split at a
   .rename_i hs;rw[ag]at hs;cases a;obtain⟨p,vs,rfl,t,r⟩:=l;obtain rfl:u=.ref p:=i;obtain⟨C,w,pl,_⟩:=I.lstR g t;refine SeqAt.notIn_listAt (Jn q D _) pl.isList (λy n=>Eg I g _ (by omega) hs.1 hs.2 j f r w y (by simpa using n)) ⟨.bl _,H,I,W,?_⟩;rw[show C.toArray.any (Jn q D _)=C.any (Jn q D C) by simp,zW I g hs.2 r w];exact k _ F H (Step.refl g) W be
   .cases a
 |_=>cases q<;>cases hd
set_option tactic.hygienic false
end
def gM(K:Fg)(f:Dat->List Dat->g_):V->List V->Hp->VK->Prop:=λx g H Q=>∃b c d fr F,f b c=Y (d,fr)/\Good F H/\Rep K F b x/\cX K F c g/\∀v e a,Step F H e a->Rep K e d v->(fr=U->gh K H a d v)->Q v a
section
variable{X:Cx}
def xX(hs:∀B ds r,hZ m B ds=Y r->∃z,B=.str z):∀σ H Q,gE X.K C (.i6 m I xs) σ H Q->Ta X.K "str" (gM X.K (hZ m)) (gE X.K C I) (gA X.K C xs) σ H Q:=λσ H Q f=>by
 refine ac λ_ x=>?_;obtain⟨y,d,fr,h,F,g,R,k⟩:=f;obtain⟨⟨B,i⟩,h1,h⟩:=cA h;obtain⟨ds,h2,h3⟩:=cA h;obtain⟨z,j⟩:=hs B ds _ h3;refine x ?_;refine⟨y,B,i,h1,F,g,R,λv F1 u a c _=>⟨?_,y,ds,h2,F1,a.good,R.mono a.ff,λvs l A b n=>⟨B,ds,d,fr,l,h3,b.good,c.mono b.ff,n,λw o p e s t=>k w o p ((a.trans b).trans e) s λq=>(t q).back (F:=F) (a.hh.trans b.hh)⟩⟩⟩;rw[j]at c;rw[c];exact rfl
def DJ(hs:∀B ds r,hZ m B ds=Y r->∃z,B=.str z):∀σ H Q,gE X.K C (.i6 m I []) σ H Q->X6 X.K "str" (gM X.K (hZ m)) (gE X.K C I) σ H Q:=λσ H Q e=>by
 refine ac λ_ s=>?_;obtain⟨t,d,fr,h,F,g,R,k⟩:=e;obtain⟨⟨B,f⟩,h1,h⟩:=cA h;obtain⟨ds,h2,h3⟩:=cA h;cases h2;obtain⟨z,i⟩:=hs B [] _ h3;refine s ?_;refine⟨t,B,f,h1,F,g,R,λv F1 p a b _=>⟨?_,B,[],d,fr,F1,h3,a.good,b,W,λw j l c n o=>k w j l (a.trans c) n λq=>(o q).back (F:=F) a.hh⟩⟩;rw[i]at b;rw[b];exact rfl
def JI(r:cX X.K F [] vs)(w:cV vs us):us=[]:=by
 rw[r]at w;cases w;rfl
section
def pA(h:hZ .startswith g ds=Y r):∃x y i,g=.str x/\ds=[.str y,.int i]/\r=(.bl (ik x y i),J):=by
 have h:mSw g ds=Y r:=h;unfold mSw at h;split at h
 .cases h;exact⟨_,_,_,W,W,W⟩
 .cases h
def x6(h:hZ .upper g ds=Y r):∃x,g=.str x/\ds=[]/\hZ .upper (.str x) []=Y r:=by
 cases g with
 |str x=>
   cases ds with
   |nil=>exact⟨x,W,W,h⟩
   |cons _ _=>cases h
 |_=>cases h
set_option tactic.hygienic true
def vQ(h:hZ .join g ds=Y r):∃x es,g=.str x/\ds=[.lst es]/\hZ .join (.str x) [.lst es]=Y r:=by
 cases g with
 |str x=>
   cases ds with
   |nil=>cases h
   |cons d1 ds=>
     cases ds with
     |nil=>
       cases d1 with
       |lst y=>exact⟨x,y,W,W,h⟩
       |_=>cases h
     |cons _ _=>cases d1<;>cases h
 |_=>cases h
def N5(r:cX X.K F [.str y,.int i] vs)(w:cV vs us):∃t u,us=[.str y t,.int i u]:=by
 obtain⟨v,q,rfl,a,d,e,rfl,b,c⟩:=r;rw[c,a,b]at w;obtain⟨f,g,rfl,⟨t,rfl⟩,⟨h,rfl⟩⟩:=vals2 w;exact⟨_,_,W⟩
def wW:Q5 X "str.startswith" (gM X.K (hZ .startswith)):=λh_ s σ H x m v us Q I b c a=>by
 refine ac λ_ l=>?_;obtain⟨n,o,d,fr,F,h,g,e,f,k⟩:=a;obtain⟨p,y,i,rfl,rfl,h⟩:=pA h;cases h;refine l ?_;rw[e]at b;obtain⟨t,rfl⟩:=b;obtain⟨u,j,rfl⟩:=N5 f c;exact SC.startswith3 ⟨.bl _,H,I,W,k _ F H (Step.refl g) W be⟩
def Lu:Q5 X "str.upper" (gM X.K (hZ .upper)):=λh_ s σ H x l v us Q I b c a=>by
 refine ac λ_ j=>?_;obtain⟨m,n,d,fr,F,h,g,e,f,k⟩:=a;obtain⟨o,rfl,rfl,h⟩:=x6 h;refine j ?_;simp only[hZ,mS0]at h;split at h
 .rename_i i;cases h;rw[e]at b;obtain⟨t,rfl⟩:=b;obtain rfl:=JI f c;exact SCL.upper (aa i bR) λ_=>⟨.str _,H,I.tok _,⟨_,W⟩,k _ F H (Step.refl g) W be⟩
 .cases h
theorem uZ:∀{es:List Dat}{B:List aW}{vs:List V}{us:List ah},AI es=Y B->cX X.K F es vs->cV vs us->StrsAre us B
 |[],B,vs,us,h,r,w=>by
   cases h;rw[r]at w;cases w;exact .nil
 |d::es,B,vs,us,h,r,w=>by
   cases d with
   |str x=>
     obtain⟨g,h1,h⟩:=ee h;cases h;obtain⟨v,q,rfl,a,b⟩:=r;rw[a]at w
     cases w with
     |cons c f=>
       obtain⟨t,rfl⟩:=c;exact .cons x t (uZ h1 b f)
   |_=>cases h
def PR:Q5 X "str.join" (gM X.K (hZ .join)):=λh_ s σ H x B v us Q I b c a=>by
 refine ac λ_ y=>?_;obtain⟨C,D,d,fr,F,h,g,f,i,k⟩:=a;obtain⟨E,G,rfl,rfl,h⟩:=vQ h;obtain⟨M,h1,h⟩:=cA h;refine y ?_;split at h
 .rename_i j;cases h;rw[f]at b;obtain⟨t,rfl⟩:=b;obtain⟨w,q,e,⟨p,vs,z,l,m⟩,n⟩:=i;rw[n]at e;subst e z;obtain⟨u,rfl,o⟩:=vals1 c;obtain rfl:u=.ref p:=o;obtain⟨A,r,pl,_⟩:=I.lstR g l;exact join_list pl.isList (by simpa using uZ h1 m r) (aa j bR) λN O=>⟨.str _,H,I.tok _,⟨_,W⟩,k _ F H (Step.refl g) W be⟩
 .cases h
set_option tactic.hygienic false
end
end
section
variable{X:Cx}{es:List ba}
def gh.m7{K:Fg}(hp:H p=L):gh K H (L2.upd H p (.dK [])) (.dct [] []) (.ref p):=
 ⟨_,by simp,λa m=>by simp_all,p,[],[],W,cW,W,⟨W,W⟩,W⟩
def OJ:SE X C (.Dict [] [] pos) .m7:=PE.imp K3 λσ H Q a p hp=>by
 refine ac λ_ b=>?_;obtain⟨c,d,fr,h,F,g,R,k⟩:=a;cases h;refine b ?_;exact k _ _ _ (Step.alloc g hp) ⟨p,[],W,cW,W,W⟩ λ_=>.m7 hp
noncomputable def baseOk:ba->Bool
 |.Call (.Name _ _) [] [] _=>J
 |_=>U
def nG(h:baseOk o=U):attributeBase o m env w=w:=by
 cases o with
 |Call f a k p=>
   cases f with
   |Name x q=>
     cases a with
     |nil=>
       cases k with
       |nil=>cases h
       |cons _ _=>rfl
     |cons _ _=>rfl
   |_=>rfl
 |_=>rfl
def DI(hs:∀B ds r,hZ m B ds=Y r->∃I ws,B=.dct I ws):∀σ H Q,gE X.K C (.i6 m O xs) σ H Q->Ta X.K "dict" (gM X.K (hZ m)) (gE X.K C O) (gA X.K C xs) σ H Q:=λσ H Q i=>by
 refine ac λ_ z=>?_;obtain⟨A,d,fr,h,F,g,R,k⟩:=i;obtain⟨⟨B,j⟩,h1,h⟩:=cA h;obtain⟨ds,h2,h3⟩:=cA h;obtain⟨I,ws,l⟩:=hs B ds _ h3;refine z ?_;refine⟨A,B,j,h1,F,g,R,λv F1 y b e _=>⟨?_,A,ds,h2,F1,b.good,R.mono b.ff,λvs n E c o=>⟨B,ds,d,fr,n,h3,c.good,e.mono c.ff,o,λw p s f t u=>k w p s ((b.trans c).trans f) t λq=>(u q).back (F:=F) (b.hh.trans c.hh)⟩⟩⟩;rw[l]at e;obtain⟨a,D,rfl,x,_⟩:=e;exact .inr (.inr ⟨W,D,b.good.sub _ _ x⟩)
def Ga(h:hZ .get g ds=Y r):∃C ws B O k,g=.dct C ws/\ds=[B,O]/\ub B=Y k/\r=((iO k C ws).getD O,J):=by
 have h:VJ g ds=Y r:=h;unfold VJ at h;split at h
 .obtain⟨k,hk,rfl⟩:=ee h;exact⟨_,_,_,_,k,W,W,hk,W⟩
 .cases h
def Vy(B:X.A.units+1<dR):Q5 X "dict.get" (gM X.K (hZ .get)):=λh_ s σ H x xs v us Q I j l a=>by
 refine ac λ_ e=>?_;obtain⟨da,ds,d,fr,F,h,g,m,n,k⟩:=a;obtain⟨ks,ws,C,D,P,rfl,rfl,hk,o⟩:=Ga h;obtain⟨p,R,rfl,r,rfl,f⟩:=m;obtain⟨E,G,rfl,t,J',L',i,w,y⟩:=n;refine e ?_;rw[y]at i;subst i;obtain rfl:=pz hk t;obtain⟨u,M,rfl,z,b⟩:=vals2 l;cases j;refine WK I (tf.k (g.sub _ _ r)) z b λN s' S c=>⟨_,H,S,c,?_⟩
 cases o
 cases q:iO P (R.map _) ws with
 |none=>
   rw[q]at k;rw[sO q f];exact k _ F H (Step.refl g) w be
 |some d1=>
   rw[q]at k;obtain⟨O,T,V⟩:=pT q f;rw[T];exact k _ F H (Step.refl g) V be
def Yn{B:String}{ap cp:wo}(slot:Jw "str" name B)(ty:typeOf (.builtin B)=pure (.type "method_descriptor"))(O:Q5 X B (gM X.K (hZ m)))(hs:∀g ds r,hZ m g ds=Y r->∃z,g=.str z)
  (ho:SE X C o F)(ha:SA X C [e] [I])(hb:baseOk o=U)(hl:(ap.endLine == cp.line)=U)(h1:aO [e] X.env=(J,eval e X.env)::aO [] X.env):SE X C (.Call (.Attribute o name ap) [e] [] cp) (.i6 m F [I]):=
 PE.imp (vx jT slot ty O ho ha (nG hb) (by rw[h1];rfl) hl h1 W) (xX hs)
def Ym{B:String}{ap cp:wo}(slot:Jw "str" name B)(ty:typeOf (.builtin B)=pure (.type "method_descriptor"))(O:Q5 X B (gM X.K (hZ m)))(hs:∀g ds r,hZ m g ds=Y r->∃z,g=.str z)
  (ho:SE X C o F)(ha:SA X C [e,e2] [I,P])(hb:baseOk o=U)(hl:(ap.endLine == cp.line)=U)(h1:aO [e,e2] X.env=(J,eval e X.env)::aO [e2] X.env)(h2:aO [e2] X.env=[(J,eval e2 X.env)]):SE X C (.Call (.Attribute o name ap) [e,e2] [] cp) (.i6 m F [I,P]):=
 PE.imp (vx jT slot ty O ho ha (nG hb) (by rw[h1,h2];rfl) hl h1 (by rw[h2];rfl)) (xX hs)
def Yo{B:String}{ap cp:wo}(slot:Jw "str" name B)(ty:typeOf (.builtin B)=pure (.type "method_descriptor"))(O:Q5 X B (gM X.K (hZ m)))(hs:∀g ds r,hZ m g ds=Y r->∃z,g=.str z)
  (ho:SE X C o F)(hb:baseOk o=U)(hl:(ap.endLine == cp.line)=U):SE X C (.Call (.Attribute o name ap) [] [] cp) (.i6 m F []):=
 PE.imp (U2 jT slot ty O ho (nG hb) hl) (DJ hs)
def Uw{ap cp:wo}(B:X.A.units+1<dR)(ho:SE X C o g)(ha:SA X C [e,e2] [I,O])(hb:baseOk o=U)(hl:(ap.endLine == cp.line)=U)(h1:aO [e,e2] X.env=(J,eval e X.env)::aO [e2] X.env)(h2:aO [e2] X.env=[(J,eval e2 X.env)]):SE X C (.Call (.Attribute o "get" ap) [e,e2] [] cp) (.i6 .get g [I,O]):=
 PE.imp (vx PySem.F.plainAttrs_dict Ae PySem.F.type_dict_get (Vy B) ho ha (nG hb) (by rw[h1,h2];rfl) hl h1 (by rw[h2];rfl)) (DI λb c r h=>let ⟨a,ws,_,_,_,q,_⟩:=Ga h;⟨a,ws,q⟩)
noncomputable def WY(m:aW)(k:Nat):Option Mth:=
 if m="join"/\k=1 then Y .join else if m="startswith"/\k=2 then Y .startswith else if m="get"/\k=2 then Y .get else if m="upper"/\k=0 then Y .upper else L
set_option tactic.hygienic true in
def QQ{g:Mth}{ap cp:wo}(I:X.A.units+21<dR)(h:WY m (Z es)=Y g)(ho:SE X C o P)(ha:SA X C es xs)(hlen:Z xs=Z es)(O:∀e,es=[e]->aO [e] X.env=(J,eval e X.env)::aO [] X.env)(B:∀e e2,es=[e,e2]->aO [e,e2] X.env=(J,eval e X.env)::aO [e2] X.env/\aO [e2] X.env=[(J,eval e2 X.env)])(hb:baseOk o=U)(hl:(ap.endLine == cp.line)=U) :
  SE X C (.Call (.Attribute o m ap) es [] cp) (.i6 g P xs):=by
 have one:Z es=1->∃e a,es=[e]/\xs=[a]:=λq=>by
  obtain⟨e,rfl⟩:=List.length_eq_one_iff.mp q;obtain⟨a,rfl⟩:=List.length_eq_one_iff.mp hlen;exact⟨e,a,W,W⟩
 have two:Z es=2->∃e e2 a b,es=[e,e2]/\xs=[a,b]:=λq=>by
  rcases es with _|⟨e,_|⟨f,_|_⟩⟩<;>cases q
  rcases xs with _|⟨a,_|⟨b,_|_⟩⟩<;>cases hlen
  exact⟨e,f,a,b,W,W⟩
 have nil:Z es=0->es=[]/\xs=[]:=λq=>by
  grind
 unfold WY at h;split at h
 .rename_i q;refine ac λ_ c=>?_;cases h;obtain⟨rfl,q⟩:=q;obtain⟨e,a,rfl,rfl⟩:=one q;refine c ?_;exact Yn kh Ab PR (λ_ _ _ h=>let ⟨x,_,q,_⟩:=vQ h;⟨x,q⟩) ho ha hb hl (O e W)
 split at h
 .rename_i q;cases h;obtain⟨rfl,q⟩:=q;obtain⟨e,e2,a,b,rfl,rfl⟩:=two q;exact Ym PySem.F.slot_str_startswith PySem.F.type_str_startswith wW (λ_ _ _ h=>let ⟨x,_,_,q,_⟩:=pA h;⟨x,q⟩) ho ha hb hl (B e e2 W).1 (B e e2 W).2
 split at h
 .rename_i q;cases h;obtain⟨rfl,q⟩:=q;obtain⟨e,e2,a,b,rfl,rfl⟩:=two q;exact Uw (ao (Hf I) (by decide)) ho ha hb hl (B e e2 W).1 (B e e2 W).2
 split at h
 .rename_i q;cases h;obtain⟨rfl,q⟩:=q;obtain⟨rfl,rfl⟩:=nil q;exact Yo PySem.F.slot_str_upper PySem.F.type_str_upper Lu (λ_ _ _ h=>let ⟨x,q,_⟩:=x6 h;⟨x,q⟩) ho hb hl
 .cases h
end
end M
namespace L2
open PySem PySem.Spec PyProof.Rows
section
variable{A:bT}{s:ai}
def VR:typeLookup (.type "list_reverseiterator") "__len__"=pure L:=by kernel_rfl
def Y4:Jw "list_reverseiterator" "__length_hint__" "list_reverseiterator.__length_hint__":=.of (owner:="list_reverseiterator") (n:="__length_hint__") (by kernel_rfl) (by decide +kernel) (by decide +kernel) (by decide +kernel) (.inr (by decide +kernel)) (by kernel_rfl)
def P8(ty:s.TypeIs (.ref I) "list_reverseiterator")(k:Q J s):aF (aG prog w) A (hJ (.ref I)) Q E s:=by
 refine wb9 (eE ty VR ?_);refine wb9 (eE ty Y4.lookup ?_);generalize a:("list_reverseiterator.__length_hint__")=id0
 wp_delta
 subst a;exact wb9 (di (b:=U) ty (by kernel_rfl) (wu9 k))
def DP{its:Array ah}(hh:A.handled=L)(O:its.size<=aE)(ne:l≠I)(hl:s.heap.IsList l its)(hi:s.heap.IsRevIter I l ((its.size:Int) - 1))
  (k:∀(C:cx)B,s.heap.objs.size<=C.objs.size->(∀b o,b≠I->s.heap.get? b=Y o->C.get? b=Y o)->Q its.toList.reverse { s with heap:=C,toks:=B }):aF (aG prog w) A (collect (.ref I)) Q E s:=by
 refine v7 (D:=λd R=>d=s.drawn/\R=λi v=>its[its.size - 1 - i]?=Y v) hi.typeIs bR bR O (λh0 ex lt c=>Nz (hi.at λo e=>ex _ _ e) (c h0 _ I _ _ _ (Walks.listRev (prog:=prog) (w:=w) (A:=A.in1) hh I l ne _) ((λh0 ex=>⟨aK _,by simpa using hi.at λo e=>ex _ _ e,hl.at λo e=>ex _ _ e⟩) h0 ex) (λz=>?_) (λb o n _=>n) (λ_ _ e=>e) ⟨W,W⟩))
  (λh1 d ex c=>P8 (hi.at λo e=>ex _ _ e).typeIs (c _ _)) λh1 d B f R ⟨h,j⟩ sz kp a=>?_
 .obtain⟨o,e,_⟩:=hl;obtain⟨m,g,_⟩:=hi
  rcases aw.mp z with z|z
  .exact absurd (hl9 g) (z▸bB _)
  .exact absurd (hl9 e) (az.mp z▸bB _)
 .subst h j;have:=M.HP a;subst this;exact k h1 B (ax sz) kp
def P7{its:Array ah}{x:aW}(hh:A.handled=L)(O:its.size<=aE)(ne:l≠I)(hl:s.heap.IsList l its)(hi:s.heap.IsRevIter I l ((its.size:Int) - 1))(hs:oR its.toList.reverse P)
  (hok:(P.map (·.length)).sum+P.length * x.length<=16777216)
  (k:∀(C:cx)B t',s.heap.objs.size<=C.objs.size->(∀b o,b≠I->s.heap.get? b=Y o->C.get? b=Y o)->Q (.str (oG x P) t') { s with heap:=C,toks:=B }):aF (aG prog w) A (call (.builtin "str.join") [.str x t,.ref I]) Q E s:=by
 refine CQ (mm kh.plain PySem.F.entry_str_join (kh.check _ _ _ _ _ _ _ _ (CS ..) (PySem.F.args_str_join_2 _ _) ?_));rw[join_tree_other];refine wb9 (iT hi.typeIs ?_);refine wb9 (rW (Nz hi ?_));refine wb9 (DP (hh) O ne hl hi λC B sz ex=>?_);obtain⟨l,a,rfl⟩:=strsAre_values hs;have hok:=joinOk_of hok;unfold JoinOk at hok;rw[iW]at hok;rw[a]
 have g:Gives (joinTail x (strValues l)) (joinMade x l):=by
  have d:=gives_joinTail x l hok
  cases l with
  |nil=>exact d
  | cons p r=>cases r with
    |nil=>exact d
    |cons q c=>exact d
 exact g _ w A (wants Q E) _ (post_join l ⟨joinFit_length hok,λt' e=>k _ _ _ sz ex⟩)
end
end L2
namespace M
open PySem PySem.Spec PyProof.Rows L2
noncomputable def aaS:Dat->Option Dat
 |.lst a=>Y (.lst a.reverse)
 |_=>L
def Ex.jrv(o a:Ex):Ex:=⟨o.fv++a.fv,λC b=>(bf C o b).bind λx=>(bf C a b).bind λy=>(aaS y.1).bind λd=>hZ .join x.1 [d]⟩
section
variable{X:Cx}
set_option tactic.hygienic true in
def Us{ap cp:wo}(B:X.calm=U)(O:Gl X "reversed")(a5:X.mg "reversed"=L)(ho:SE X C o xo)(ha:SE X C a xa)(hb:baseOk o=U)(hl:(ap.endLine == cp.line)=U)
  (hs:aO [a] X.env=[(J,eval a X.env)]):SE X C (.Call (.Attribute o "join" ap) [.Call (.Name "reversed" p2) [a] [] pos2] [] cp) (.jrv xo xa):=by
 intro h_ s σ H Q I h;refine ac λ_ p=>?_;obtain⟨ρ,d,fr,h,F,g,R,k⟩:=h;obtain⟨⟨P,S⟩,h1,h⟩:=cA h;obtain⟨⟨da,T⟩,h2,h⟩:=cA h;obtain⟨dr,h3,h⟩:=cA h;obtain⟨x,es,rfl,e,h⟩:=vQ h;cases e
 refine p ?_;obtain⟨ds,rfl⟩:∃ds,da=.lst ds:=by cases da<;>first|exact⟨_,W⟩|cases h3
 refine ac λ_ p=>?_;cases h3;refine p ?_;refine Jt (nG hb) W hl W (iN (ho h_ s σ H (λv j=>∃F1,Step F H F1 j/\v=.str x) I ⟨ρ,_,_,h1,F,g,R,λv F1 j c l _=>⟨F1,c,l⟩⟩) λv s1 K=>?_);obtain⟨U',j,q,l,F1,c,e⟩:=K;subst e;obtain⟨t,rfl⟩:=l;refine⟨_,_,jT,kh,Ab,W,(λa z=>nomatch z),?_⟩;refine oJ (by rfl) (C2 ?_);refine qL ?_;refine eK (lp q O a5 (by decide +kernel:bootBuiltins _=Y (.type "reversed")) (cO ?_ (by rw[hs];rfl) W));refine iN (jB ha nV (by rw[hs];rfl) _ h_ s1 σ j (λvs H2=>∃i,Step F1 j i H2/\cX _ i [.lst ds] vs) q ⟨ρ,_,by simp only[lI,h2,bG,c7],F1,c.good,R.mono c.ff,λvs i H2 f m=>⟨i,f,m⟩⟩) λus s2 ⟨vs,H2,r,A,i,f,m⟩=>?_;refine ac λ_ p=>?_;obtain⟨v,w,rfl,⟨D,vs,rfl,E,G⟩,e⟩:=m;cases e;obtain⟨u,rfl,J'⟩:=vals1 A;cases J';obtain⟨ys,L',h5⟩:=cA h;refine p ?_;split at h5
 .rename_i M;refine ac λ_ p=>?_;cases h5;obtain⟨its,y,pl,N⟩:=r.lstR f.good E;refine p ?_;have n:=pl.isList;refine call_reversed_list n ?_;refine nc ?_;refine P7 (I.ok.hd B) (by have:=y.length;simp at *;exact aa (ae this.symm) N) (a9 (by obtain⟨o,e,_⟩:=n;exact hl9 e)) (n.at λo e=>hp9 _ e) ⟨_,aH _ W,W,W⟩ (by simpa using uZ L' G.reverse y.reverse) (aa M bR) λh' V t' sz ex=>?_;exact⟨.str _,H2,r.kept (λb o e=>ex b o (a9 (hl9 e)) (hp9 _ e)),⟨_,W⟩,k _ i H2 (c.trans f) W be⟩
 .cases h5
end
structure LO{α:Type}(lt:α->α->Bool):Prop where
 irr:∀x,lt x x=J
 tr:∀x y z,lt x y=U->lt y z=U->lt x z=U
 tot:∀x y,lt x y=J->lt y x=J->x=y
def LO.QZ (o:LO lt)(h:lt x y=U):lt y x=J:=by
 cases q:lt y x with
 |false=>rfl
 |true=>have:=o.tr _ _ _ h q;rw[o.irr]at this;cases this
def LO.Y8 (o:LO lt)(h:lt y x=J)(g:lt z y=J):lt z x=J:=by
 cases q:lt z x with
 |false=>rfl
 |true=>
   cases r:lt y z with
   |true=>have:=o.tr _ _ _ r q;rw[h]at this;cases this
   |false=>have:=o.tot _ _ r g;subst this;rw[h]at q;cases q
def RU:LO wH:=⟨λx=>by simp[wH],λx y z h b=>by
  simp only[wH,decide_eq_true_eq]at *
  exact List.lt_trans h b,λx y h b=>by
  simp only[wH,decide_eq_false_iff_not]at *;have :=List.le_antisymm (List.not_lt.mp b) (List.not_lt.mp h);obtain⟨a⟩:=x
  simp_all⟩
section
variable{α:Type}
set_option tactic.hygienic true
theorem vI(o:LO lt):∀{l:List α},z∈vR lt x l↔z=x\/z∈l
 |[]=>by simp[vR]
 |y::a=>by
   unfold vR;split
   .rw[aw]
   .rename_i h1;split
    .rw[aw,vI o,aw];constructor
     .grind
     grind
    .rename_i h2;have:=o.tot x y (by simpa using h1) (by simpa using h2)
     simp_all
theorem jJ(o:LO lt):∀{l:List α},z∈iw lt l↔z∈l
 |[]=>Nk
 |x::l=>by rw[iw,vI o,jJ o,aw]
theorem Fu(o:LO lt):∀{l:List α},l.Pairwise (λa b=>lt a b=U)->(vR lt x l).Pairwise (λa b=>lt a b=U)
 |[],_=>by simp[vR]
 |y::d,h=>by
   obtain⟨h1,h2⟩:=cD.mp h;unfold vR;split
   .rename_i q;refine cD.mpr ⟨λz c=>?_,h⟩
    rcases aw.mp c with rfl|c
    .exact q
    .exact o.tr _ _ _ q (h1 z c)
   .split
    .rename_i q;refine cD.mpr ⟨λz c=>?_,Fu o h2⟩
     rcases(vI o).mp c with rfl|c
     .exact q
     .exact h1 z c
    .exact h
theorem jX(o:LO lt):∀(l:List α),(iw lt l).Pairwise (λa b=>lt a b=U)
 |[]=>.nil
 |x::l=>Fu o (jX o l)
def nD(o:LO lt){l:List α}(h:l.Pairwise (λa b=>lt a b=U)):l.Nodup:=h.imp λq e=>by subst e;rw[o.irr]at q;cases q
theorem su:∀{l:List α},(wZ lt x l).Perm (x::l)
 |[]=>.refl _
 |y::a=>by
   unfold wZ;split
   .exact(su.cons y).trans (.swap _ _ _)
   .exact .refl _
theorem lS:∀(l:List α),(oA lt l).Perm l
 |[]=>.refl _
 |x::l=>su.trans ((lS l).cons x)
theorem Ft(o:LO lt):∀{l:List α},l.Pairwise (λa b=>lt b a=J)->(wZ lt x l).Pairwise (λa b=>lt b a=J)
 |[],_=>by simp[wZ]
 |y::d,h=>by
   obtain⟨h1,h2⟩:=cD.mp h;unfold wZ;split
   .rename_i q;refine cD.mpr ⟨λz c=>?_,Ft o h2⟩
    rcases aw.mp (su.mem_iff.mp c)with rfl|c
    .exact o.QZ q
    .exact h1 z c
   .rename_i q;refine cD.mpr ⟨λz c=>?_,h⟩
    rcases aw.mp c with rfl|c
    .exact (by simpa using q)
    .exact o.Y8 (by simpa using q) (h1 z c)
set_option tactic.hygienic false
theorem A8(o:LO lt):∀(l:List α),(oA lt l).Pairwise (λa b=>lt b a=J)
 |[]=>.nil
 |x::l=>Ft o (A8 o l)
def JF(o:LO lt){r:List α}(hp:r.Perm l)(hs:r.Pairwise (λa b=>lt b a=J)):r=oA lt l:=
 mr (λa b _ _ h c=>o.tot _ _ c h) hs (A8 o l) (hp.trans (lS l).symm)
theorem Ku:∀{l:List aW}{p:aW},risingS p l=U->(p::l).Pairwise (λa b=>wH b a=J)
 |[],p,_=>by simp
 |x::r,p,h=>by
   simp only[risingS,ag,iW]at h;obtain⟨h1,h2⟩:=h;rw[ltCps_eq]at h1;have e:=Ku h2;refine cD.mpr ⟨λz d=>?_,e⟩
   rcases aw.mp d with rfl|d
   .exact h1
   .exact RU.Y8 h1 ((cD.mp e).1 z d)
def TX(h:sortedS l=U):l.Pairwise (λa b=>wH b a=J):=by
 cases l with
 |nil=>exact .nil
 |cons x r=>exact Ku h
end
section
variable{X:Cx}
def E3{C:cx}{out:List ah}(I:Inv X h_ σ H s)(ex:∀b o,s.heap.get? b=Y o->C.get? b=Y o)(hl:s.heap.objs.size<=l)(g:C.get? l=Y (seqObj "list" out.toArray e))(w:cV vs out)(B:Z vs<=aE) :
  Inv X h_ σ (upd H l (.lst vs)) { s with heap:=C,drawn:=d,toks:=F }:=by
 have a:Inv X h_ σ (upd H l (.lst vs)) { s with heap:=C,toks:=F }:=I.laid ex hl ⟨B,_,e,w,g⟩;exact⟨a.ok,a.os,a.bare,a.base,a.loc,a.cell,a.free,a.freeC,a.pin,a.hok,a.len⟩
def Hz(h:Jy (SignAt x) acc x.cps.size):oR acc.toList (eQ x):=by
 obtain⟨h1,h2⟩:=h
 have e:acc.toList.map strOf=eQ x:=by
  apply ju
  .simp[eQ,h1]
  .intro n a b;have ha:n<acc.size:=by simpa using a
   obtain⟨c,u,d,f⟩:=h2 n _ (aU ha);simp only[um,p4,eQ];rw[f];have hb:n<x.cps.size:=by rwa[<-h1]
   rw[aU hb]at d;cases d;rfl
 rw[<-e];refine strsAre_map _ λv g=>?_;obtain⟨n,i,rfl⟩:=cQ.mp g;obtain⟨c,u,d,f⟩:=h2 n _ (aU _);exact⟨_,u,by simpa using f⟩
def MJ{A:bT}{x:aW}(hh:A.handled=L)(B:x.cps.size<=aE):EE prog w A s (.str x tx) (λvs=>∃g,oR vs g/\g.Perm (eQ x)):=by
 intro c d f e k;exact B7 (e.trans hh) B λh1 b a ex sz it=>k _ h1 _ b ex sz ⟨_,Hz it,.refl _⟩
def BU{Q:VK}{F:Hp}{d:Dat}{fr:Bool}{l:aL}{is:List aW}(g:Good F H)(B:H l=L)(k:∀w I C,Step F H I C->Rep X.K I (.lst (is.map .str)) w->(U=U->gh X.K H C (.lst (is.map .str)) w)->Q w C):Q (.ref l) (upd H l (.lst (is.map V.str))):=
 k _ _ _ (Step.alloc g B) ⟨l,_,W,.inl (.inl cW),rpS is⟩ λ_=>.lst (cc.refl _) B (.kQ g (Zl is) (rpS is))
def Dm(h:n<64):n<=aE:=by exact ax (aa h bR)
def Yh{C:List aW}(I:Inv X h_ σ H s)(O:Z C<64)(hc:EE X.prog X.w X.A s v (λvs=>∃B,oR vs B/\B.Perm is))(he:∀r:List aW,r.Perm is->r.Pairwise (λa b=>wH b a=J)->r=C)(hi:Z is=Z C)
  (k:∀l,H l=L->Q (.ref l) (upd H l (.lst (C.map V.str)))):aF (aG X.prog X.w) X.A (call (.builtin "sorted") [v]) (EP X h_ σ Q) E s:=by
 refine J3 (ao (ae hi) O) hc λi d f l h B e ex hl g c i2 i3=>?_;obtain rfl:=he B i2 (TX i3);exact⟨.ref l,_,E3 I ex hl g (xK c) (by rw[aB];exact Dm O),W,k l (I.hok.fresh hl)⟩
end
def Bv:LO wX:=⟨n5.ir,n5.tr,λx y h a=>by
 by_cases e:x=y
 .exact e
 .have:=n5.co _ _ e h;simp_all⟩
theorem By:∀{ds:List Dat}{q:List Key},Bz ds=Y q->q.all sK=U->(q.map iK).map Dat.int=ds
 |[],_,h,_=>by cases h;rfl
 |d::ds,_,h,a=>by
   obtain⟨k,hk,h⟩:=cA h;obtain⟨q,b,h⟩:=ee h;cases h;simp only[dU,ag]at a;rw[aA,aA,By b a.2]
   cases d with
   |int i=>cases hk;rfl
   |str x=>cases hk;cases a.1
   |_=>cases hk
def QF(h:n2I d=Y x)(h3:s2 x<3):QE (s2 x) (c2 x)=d:=by
 cases d with
 |int i=>cases h;rfl
 |str y=>
   cases h;show Dat.str ⟨((y.cps.toList.map e8).map uR).toArray⟩=_;rw[cF,show(uR ∘ e8)=id from rfl,List.map_id]
 |tup b=>
   obtain⟨q,a,h⟩:=ee h;cases h;simp only[s2]at h3 ⊢;by_cases c:q.all sK=U
   .rw[if_pos c];show Dat.tup ((q.map iK).map _)=_;rw[By a c]
   simp_all
 |_=>cases h
theorem B5:∀{ds:List Dat}{k:List N2},RM ds=Y k->(∀n∈k.map s2,n<3)->tu QE (k.map s2) (k.map c2)=ds
 |[],_,h,_=>by cases h;rfl
 |d::ds,_,h,h3=>by
   obtain⟨x,a,h⟩:=cA h;obtain⟨q,b,h⟩:=ee h;cases h;rw[aA,aA,CF,QF a (h3 _ jL),B5 b λy c=>h3 y (jZ _ c)]
theorem FL:∀{ds:List Dat}{q:List N2},RM ds=Y q->q.all sI=U->(q.map XF).map Dat.int=ds
 |[],_,h,_=>by cases h;rfl
 |d::ds,_,h,a=>by
   obtain⟨k,hk,h⟩:=cA h;obtain⟨q,b,h⟩:=ee h;cases h;simp only[dU,ag]at a;rw[aA,aA,FL b a.2]
   cases d with
   |int i=>cases hk;rfl
   |str x=>cases hk;cases a.1
   |tup f=>
     obtain⟨e,c,hk⟩:=ee hk;cases hk;cases a.1
   |_=>cases hk
def QD(h:nkI d=Y x)(h3:Bh (sN x)=U):WJ (sN x) (cN x)=d:=by
 cases d with
 |int i=>cases h;rfl
 |str y=>
   cases h;show Dat.str ⟨((y.cps.toList.map e8).map uR).toArray⟩=_;rw[cF,show(uR ∘ e8)=id from rfl,List.map_id]
 |tup b=>
   obtain⟨q,a,h⟩:=ee h;cases h;simp only[sN,cN]at h3 ⊢;by_cases c:q.all sI=U
   .rw[if_pos c,if_pos c];show Dat.tup ((q.map XF).map _)=_;rw[FL a c]
   .rw[if_neg c]at h3;rw[if_neg c,if_neg c];show Dat.tup _=_;rw[B5 a (Ld h3)]
 |_=>cases h
theorem GC:∀{ds:List Dat}{k:List NK},XD ds=Y k->(∀x∈k,Bh (sN x)=U)->tu WJ (k.map sN) (k.map cN)=ds
 |[],_,h,_=>by cases h;rfl
 |d::ds,_,h,h3=>by
   obtain⟨x,a,h⟩:=cA h;obtain⟨q,b,h⟩:=ee h;cases h;rw[aA,aA,CF,QD a (h3 x jL),GC b λy c=>h3 y (jZ _ c)]
def GD(h:Vr d=Y k)(h3:∀x∈k,Bh (sN x)=U):El (k.map sN) (codeN k)=d:=by
 cases d with
 |tup a=>show Dat.tup _=_;rw[GC h h3]
 |_=>cases h
theorem vF:∀{ds:List Dat}{g:List (List NK)},wV ds=Y g->Z g=Z ds/\∀i,i<Z ds->Vr (ds.getD i .non)=Y (g.getD i [])
 |[],_,h=>by cases h;exact⟨W,λi hi=>by cases hi⟩
 |d::ds,_,h=>by
   obtain⟨x,b,h⟩:=cA h;obtain⟨q,c,h⟩:=ee h;cases h;refine⟨by simp[(vF c).1],λi hi=>?_⟩
   cases i with
   |zero=>exact b
   |succ i=>simpa using (vF c).2 i (by simpa using hi)
theorem F6:∀{ds:List Dat}{q:List Key},Bz ds=Y q->lW ds=U
 |[],_,_=>rfl
 |d::ds,_,h=>by
   obtain⟨k,hk,h⟩:=cA h;obtain⟨q,a,_⟩:=ee h;cases d<;>first|(cases hk;done)|simp[lW,im,(F6 a)]
theorem Lp:∀{ds:List Dat}{q:List N2},RM ds=Y q->lW ds=U
 |[],_,_=>rfl
 |d::ds,_,h=>by
   obtain⟨k,hk,h⟩:=cA h;obtain⟨q,b,_⟩:=ee h;cases d with
   |tup e=>
     obtain⟨c,a,_⟩:=ee hk;simp[lW,im,(Lp b),F6 a]
   |int _=>simp[lW,im,(Lp b)]
   |str _=>simp[lW,im,(Lp b)]
   |_=>cases hk
theorem Lo:∀{ds:List Dat}{q:List NK},XD ds=Y q->lW ds=U
 |[],_,_=>rfl
 |d::ds,_,h=>by
   obtain⟨k,hk,h⟩:=cA h;obtain⟨q,b,_⟩:=ee h;cases d with
   |tup e=>
     obtain⟨c,a,_⟩:=ee hk;simp[lW,im,(Lo b),Lp a]
   |int _=>simp[lW,im,(Lo b)]
   |str _=>simp[lW,im,(Lo b)]
   |_=>cases hk
def Vq(h:Vr d=Y q):im d=U:=by
 cases d with
 |tup a=>simp[im,Lo h]
 |_=>cases h
theorem AZ{K:Fg}(r:cX K F ds vs):∀{g:List Nat},(∀j∈g,j<Z ds)->cX K F (g.map λj=>ds.getD j .non) (g.map λj=>vs.getD j .non)
 |[],_=>rfl
 |j::g,h=>by
   have a:=h j jL;obtain⟨v,e,q⟩:=r.get (af a);refine⟨vs.getD j _,_,W,?_,AZ r λi hi=>h i (jZ _ hi)⟩
   simp_all
def AS{B:List (List NK)}(hsh:∀j,j<Z B->(B.getD j []).map sN=Jk B)(h3:∀x∈Jk B,Bh x=U)(sl:Sel (λi=>B.getD i []) B.length C) :
  (C.map λj=>codeN (B.getD j [])).Perm (iw wX (B.map codeN)):=by
 have d:∀j,j<Z B->∀k∈B.getD j [],Bh _=U:=λj c k hk=>h3 _ (by rw[<-hsh j c];exact c9 hk)
 have g:(C.map λj=>codeN (B.getD j [])).Nodup:=by
  exact fo.mpr (iV (λ{a b}f l h e=>h (code_inj ((hsh _ (sl.lt a f)).trans (hsh _ (sl.lt b l)).symm) (d _ (sl.lt a f)) e)) (fo.mp sl.nd))
 rw[fR g (nD Bv (jX Bv _))];intro z;rw[jJ Bv,bX,bX];constructor
 .rintro⟨j,c,rfl⟩;have:=sl.lt j c;exact⟨_,by simp_all,W⟩
 .rintro⟨k,hk,rfl⟩;obtain⟨i,hi,rfl⟩:=cQ.mp hk;obtain⟨j,c,e⟩:=bX.mp (sl.all i hi);refine⟨j,c,?_⟩
  simp_all
noncomputable def adr:V->aL
 |.ref a=>a
 |_=>0
theorem AD{B:Nat->aL}:∀(g:List Nat),cV (g.map λj=>V.ref (B j)) (g.map λj=>dn (B j))
 |[]=>.nil
 |j::g=>.cons W (AD g)
section
def abu{h:cx}(hl:h.IsList l items):CA prog w h (.ref l) items.size (λi v=>items[i]?=Y v):=by
 intro d f s1 j sz ex k;have a :=hl.at λo e=>ex l o e;have lt:l<h.objs.size:=by obtain⟨o,e,_⟩:=hl;exact hl9 e
 refine wJ a (k _ _ _ (λg c=>Walks.list c _ l (a9 (cT lt sz)) _) (λb hb=>?_) ⟨⟨_,aH _ W,W,W⟩,a.push _⟩)
 rcases aw.mp hb with z|z
 .exact .inl z
 .exact .inr (by simp_all)
end
section
variable{X:Cx}{vs:List V}{kk:List (List NK)}
abbrev avN(vs:List V)(j:Nat):aL:=adr (vs.getD j .non)
noncomputable abbrev Zg(kk:List (List NK))(j:Nat):List NK:=kk.getD j []
def lU(r:cX X.K F ds vs)(hk:wV ds=Y kk){j:Nat}(B:j<Z kk):vs.getD j .non=.ref (avN vs j)/\NKy X.K F (Zg kk j) (avN vs j):=by
 have b:j<Z ds:=aa B (ae (vF hk).1);obtain⟨v,e,q⟩:=r.get (af b);have d:=(vF hk).2 j b;rw[show ds.getD j _=ds[j] by simp[b]]at d;obtain⟨a,rfl,g⟩:=PJ d q;unfold avN;rw[show vs.getD j _=.ref a by simp[e]];exact⟨W,g⟩
theorem Gc(hk:wV ds=Y kk):∀g:List Nat,(∀j∈g,j<Z kk)->lW (g.map λj=>ds.getD j Dat.non)=U
 |[],_=>rfl
 |j::g,h=>by
   obtain⟨b,a⟩:=vF hk;simp only[aA,lW,ag];exact⟨Vq (a j (aa (h j jL) (ae b))),Gc hk g λi hi=>h i (jZ _ hi)⟩
def AO(o:Lc kk)(B:j<Z kk):(Zg kk j).map sN=Jk kk:=by
 simpa using (bE.mp o.2.2.1 _ (by simp_all))
def Oo(room:X.A.units+8<dR)(I:Inv X h_ σ H s)(g:Good F H)(r:cX X.K F ds vs)(hk:wV ds=Y kk)(o:Lc kk)(hl:Z kk<=300)
  (hc:EE X.prog X.w X.A s v (λus=>∃R,us=R.map (λj=>dn (avN vs j))/\Sel (Zg kk) kk.length R))
  (k:∀w F' H',Step F H F' H'->Rep X.K F' (.lst ((iw wX (kk.map codeN)).map (El (Jk kk)))) w->(U=U->gh X.K H H' (.lst ((iw wX (kk.map codeN)).map (El (Jk kk)))) w)->Q w H') :
  aF (aG X.prog X.w) X.A (call (.builtin "sorted") [v]) (EP X h_ σ Q) X.xe s:=by
 obtain⟨y,l⟩:=vF hk;obtain⟨b,hb⟩:=eX.mp o.1;have h3 :=λx D=>bE.mp o.2.1 x D;have m:∀j,j<Z kk->∀k∈Zg kk j,Bh _=U:=λj c k hk=>h3 _ (by rw[<-AO o c];exact c9 hk)
 have E:∀R,Sel _ _ R->Z R=Z (iw wX (kk.map _)):=λR sl=>by
  have:=(AS (λj c=>AO o c) h3 sl).length_eq
  rwa [aB]at this
 refine sorted_N (by exact iF room) (λj c=>Lm I g (lU r hk c).2) (λj c=>AO o c) h3 hb
  (λG T Q' e k'=>hc G T Q' e λn h1 d1 p x1 L' z=>k' n h1 d1 p x1 L' (by obtain⟨R,M,B⟩:=z;exact⟨R,M,B,by rw[E R B];exact o.2.2.2⟩)) λN d3 O t R e3 u i P sl pw=>?_
 have d :=I.hok.fresh i;refine⟨.ref t,_,E3 I u i P (AD R) (by rw[aB];exact aa sl.len (aa hl bR)),W,?_⟩
 have S:(iw wX (kk.map codeN)).map (El (Jk kk))=R.map λj=>ds.getD j .non:=by
  rw[((mr (λa b _ _ h h'=>Bv.tot _ _ h' h) (pw.imp λq=>Bv.QZ q) ((jX Bv _).imp λq=>Bv.QZ q) (AS (λj c=>AO o c) h3 sl)).symm),cF];refine dP λj c=>?_;have f:=sl.lt j c;rw[<-AO o f];exact GD (l j (aa f (ae y))) (m j f)
 have C:=AZ r λj c=>(aa (sl.lt j c) (ae y))
 rw[(dP λj c=>(lU r hk (sl.lt j c)).1.symm)];rw[S]at k;exact k _ _ _ (Step.alloc g d) ⟨t,_,W,.inl (.inl cW),C.mono (cc.upd (g.sub.free d))⟩ λ_=>.lst (cc.refl _) d (.kQ g (Gc hk R sl.lt) C)
set_option tactic.hygienic true in
def JY(hh:X.A.handled=L)(room:X.A.units+8<dR)(I:Inv X h_ σ H s)(g:Good F H)(t:ng X.K F l vs)(r:cX X.K F ds vs)
  (hk:wV ds=Y kk)(h2:xQ kk=Y (d,fr))(k:∀w F' H',Step F H F' H'->Rep X.K F' d w->(fr=U->gh X.K H H' d w)->Q w H')
  (fin:∀S s2,aF (aG X.prog X.w) X.A (call (.builtin "sorted") [.ref S]) (EP X h_ σ Q) X.xe s2->Q1 (.ref S) s2):aF (aG X.prog X.w) X.A (call (.type "set") [.ref l]) Q1 E s:=by
 unfold xQ at h2;split at h2
 .rename_i hb;cases h2;obtain⟨P,p,pl,N⟩:=I.lstR g t;obtain⟨a,C⟩:=vF hk;have c:=r.length;have il:Z P=Z kk:=by exact aD (qt (ae p.length.symm) (ae c) (ae a.symm)) (qt (ae a) (ae c.symm) (ae p.length))
  have h:∀s2:ai,(∀b o,s.heap.get? b=Y o->s2.heap.get? b=Y o)->s2.TypeIs (.ref l) _:=λs2 ex=>by
   obtain⟨o,R,e2,_⟩:=pl.isList;exact⟨o,ex _ _ R,e2⟩
  have T:P.toArray.size=Z kk:=by simp_all
  have f:=abu (prog:=X.prog) (w:=X.w) pl.isList;rw[T]at f;refine HB hh h PySem.F.sub_list_set PySem.F.sub_list_frozenset bR f (λi v x=>?_) (λj D=>Lm I g (lU r hk D).2) hb.1 (by exact ax (ax (ax room))) λh' O y ex=>fin _ _ (Oo room (I.kept ex) g r hk hb.2 hb.1 (λJ' L' Q' e k'=>IQ hh y hb.1 J' L' Q' e λm h1 d1 n x1 M z=>k' m h1 d1 n x1 M z) k)
  .have hi:i<Z kk:=by
    have:i<P.toArray.size:=by rcases bY.mp x with⟨q,_⟩;exact q
    simp_all
   obtain⟨u,G,B⟩:=p.get (af ((aa hi (aa (ae a) (ae c.symm)))));have R:P[i]?=Y v:=by simpa using x
   rw[G]at R;cases R;have:=(lU r hk hi).1;rw[show vs.getD i _=vs[i]'(aa hi (aa (ae a) (ae c.symm))) by simp[show i<(Z vs) from(aa hi (aa (ae a) (ae c.symm)))]]at this;rwa[this]at B
 .cases h2
end
section
variable{X:Cx}
set_option tactic.hygienic true in
def zQ(O:X.A.units+21<dR)(B:X.calm=U):ko X (.builtin "sorted") (gL X.K (jq .sorted)):=λh_ s σ H m us Q I r h=>by
 refine ac λ_ c=>?_;obtain⟨j,d,fr,F,v,h1,rfl,g,e,k⟩:=sU pH h;obtain⟨u,rfl,f⟩:=vals1 r
 refine c ?_;cases j with
 |str x=>
   cases e;obtain⟨tx,rfl⟩:=f;simp only[jq,b1,Xf,E4]at h1;split at h1
   .rename_i a;cases h1;have i:Z (eQ x)=x.cps.size:=by simp[eQ]
    refine Yh I (ao (ae ((lS _).length_eq)) a) (MJ (I.ok.hd B) (by exact ax (aa (ao (ae i.symm) a) bR))) (λr hp hs=>JF RU hp hs) ((lS _).length_eq).symm λl b=>BU (fr:=U) (d:=.non) g b k
   .cases h1
 |_=>simp only[jq,b1,Xf]at h1;cases h1
end
section
end
section
variable{X:Cx}
noncomputable def kS:Key->aW
 |.inl _=>""
 |.inr x=>x
theorem EV{vs:List ah}{B:List Key}(g:jR (λv k=>tK k v=U) vs B):(∀k∈B,∃i,k=bF i)->oR vs (B.map kS):=by
 induction g with
 |nil=>intro _;exact .nil
 |cons p _ q=>
  intro h;obtain⟨i,rfl⟩:=h _ (.head _)
  rcases c5 p with⟨j,t,e,_⟩|⟨x,t,e,rfl⟩
  .cases e
  .cases e;exact .cons _ _ (q λk hk=>h k (.tail _ hk))
theorem vz{α g B:Type}{R:g->B->Prop}{f:α->g}{l:List α}{C:List B}(h0:jR (λa c=>R (f a) c) l C):jR R (l.map f) C:=by
 induction h0 with
 |nil=>exact .nil
 |cons p _ i=>exact .cons p i
def Lj{g:List Key}(h:g.Nodup)(ha:∀k∈g,∃i,k=bF i):(g.map kS).Nodup:=by
 unfold List.Nodup at *;rw[fo];refine iV ?_ h;intro a b d f c e;obtain⟨i,rfl⟩:=ha a d;obtain⟨j,rfl⟩:=ha b f;exact c (by simp only[kS]at e;rw[e])
def IP{is:List aW}(hh:A.handled=L)(y:pJ (dm prog w) (px w) s.heap S n (λq=>∃j,j<Z is/\bF (is.getD j "")=q))(O:n<=4000) :
  EE prog w A s (.ref S) (λvs=>∃B,oR vs B/\B.Perm (iw wH is)):=by
 refine ac λ_ E=>?_;obtain⟨G,H,t,D,g,u,c,h,l,b⟩:=y;refine E ?_;intro x C I e k;refine tV (e.trans hh) g (by rw[iR];exact qt (ae (lT c)) l O) λh1 d m vs ex sz pm=>k vs h1 d m ex sz ?_;obtain⟨o,p,f⟩:=mL pm (vz (R:=λv k=>tK k v=U) c)
 have ha:∀k∈D,∃i,k=bF i:=λk hk=>by
  obtain⟨j,_,e⟩:=(b k).mp hk;exact⟨_,e.symm⟩
 refine⟨_,EV p λk hk=>ha k (f.mem_iff.mp hk),(f.map kS).trans ?_⟩;rw[fR (Lj h ha) (nD RU (jX RU is))];intro z;rw[jJ RU,bX];constructor
 .rintro⟨q,F,rfl⟩;obtain⟨j,a,rfl⟩:=(b q).mp F;simp only[kS,mJ,af a,tm];exact bA a
 .intro r;obtain⟨j,a,rfl⟩:=cQ.mp r;refine⟨bF _,(b _).mpr ⟨j,a,?_⟩,W⟩;simp only[mJ,af a,tm]
def abt:CA prog w h (.str x tx) x.cps.size (SignAt x):=by
 intro A1 a s1 d sz ex k;refine wpAny_pyIter_str λo St c st=>k o _ St c (λb hb=>.inl (az.mp hb)) st
def Di:isSubtype (.type "str") (.type "set")=pure J:=by kernel_rfl
def Dj:isSubtype (.type "str") (.type "frozenset")=pure J:=by kernel_rfl
set_option tactic.hygienic true in
def OG(a5:X.A.units+21<dR)(B:X.calm=U)(hg:Gl X "sorted")(hm:X.mg "sorted"=L)(O:Gl X "set")(c0:X.mg "set"=L)(ha:SE X C a xa)
  (hs:aO [a] X.env=[(J,eval a X.env)]) :
  SE X C (.Call (.Name "sorted" p) [.Call (.Name "set" p2) [a] [] pos2] [] pos) (.blt .sset [xa]):=by
 intro h_ s σ H Q I h;refine ac λ_ K=>?_;obtain⟨ρ,d,fr,h,F,g,R,k⟩:=h;obtain⟨ds,h1,h2⟩:=cA h;obtain⟨⟨da,fa⟩,h3,h1⟩:=cA h1;cases h1;refine K ?_;refine eK (lp I hg hm (by decide +kernel:bootBuiltins _=Y (.builtin "sorted")) (p8 ?_ W rfl));show aF _ _ (spliced ((J,eval (.Call (.Name _ p2) _ [] _) _)::backTo _ [])) _ _ s;refine qL ?_;refine eK (lp I O c0 (by decide +kernel:bootBuiltins _=Y (.type "set")) (cO ?_ (by rw[hs];rfl) W));refine iN ((jB ha nV (by rw[hs];rfl)) _ h_ s σ H (λvs J'=>∃F1,Step F H F1 J'/\cX _ F1 [da] vs) I ⟨ρ,_,(by simp_all),F,g,R,λvs F1 J' m P=>⟨F1,m,P⟩⟩) λus s1 ⟨vs,J',V,rv,F1,m,P⟩=>?_;have hh:=I.ok.hd B;obtain⟨v,w,rfl,D,e⟩:=P;cases e;obtain⟨u,rfl,M⟩:=vals1 rv
 have E:∀{is:List aW} {n:Nat} {N:cx} {L':Nat} {S:aL},(d,fr)=(Dat.lst ((iw wH is).map .str),U)->Z (iw wH is)<64->(∀b o,s1.heap.get? b=Y o->N.get? b=Y o)->n<=4000->
   pJ (dm X.prog X.w) (px X.w) N S n (λq=>∃j,j<Z is/\bF (is.getD j "")=q)->
   aF (aG X.prog X.w) X.A (call (.builtin "sorted") [.ref S]) (EP X h_ σ Q) X.xe { s1 with heap:=N,toks:=L' }:=by
  intro is n N L' S e T ex hn y;cases e;exact Yh (V.kept ex) T (IP hh y hn) (λr hp hs=>mr (λa b _ _ h N=>RU.tot _ _ N h) hs ((jX RU is).imp λq=>RU.QZ q) hp) W
   λl U'=>BU (fr:=U) (d:=.non) m.good U' λw F' H' st r f=>k w F' H' (m.trans st) r λz=>gh.back (F:=F1) m.hh (f z)
 cases da with
 |lst ds=>
   obtain⟨l,vs,rfl,t,r'⟩:=D;cases M;obtain⟨kk,G,q2⟩:=cA h2;exact JY hh (iF a5) V m.good t r' G q2 (λw F' H' st r f=>k w F' H' (m.trans st) r λz=>gh.back (F:=F1) m.hh (f z)) λS s2 q=>nc q
 |str x=>
   refine ac λ_ K=>?_;cases D;obtain⟨tx,rfl⟩:=M;refine K ?_;simp only[jq,b1,Xf,E2]at h2;have hl:Z (eQ x)=x.cps.size:=by simp[eQ]
   split at h2
   .rename_i hb;refine Kc (knd:=dm _ _) hh (λs2 _=>W) Di Dj bR abt (λi=>bF ((eQ x).getD i "")) (λi v hv=>?_) (by unfold yE;exact kX (ae hl.symm) hb.1) λN L' y ex=>?_
    .obtain⟨c,u,G,rfl⟩:=hv
     have e:(eQ x).getD i ""=⟨#[c]⟩:=by
      have hi:i<x.cps.size:=by rcases bY.mp G with⟨q,_⟩;exact q
      rw[aU hi]at G;cases G;simp[eQ,hi]
     rw[e];exact⟨x4 _ u,W⟩
    .refine nc ?_;rw[<-hl]at y;exact E (bI h2).symm hb.2 ex (ax hb.1) y
   .cases h2
 |_=>simp only[jq,b1,Xf]at h2;cases h2
end
noncomputable def posK(k:Key):List Key->Option Nat
 |[]=>L
 |j::a=>if j=k then Y 0 else(posK k a).map (·+ 1)
def Vv(g:Jq)(B:Dat)(ds:List Dat):Dat->Option Dat
 |.dct b ws=>(ub B).bind λk=>(posK k b).bind λj=>(ws[j]?).bind λe=>(lG g e ds).map λa=>.dct b (ws.set j a)
 |_=>L
def YX(g:Jq)(i:Nat)(ρ:cY)(B:Dat)(ds:List Dat):g_->Option Out
 |some (d,U)=>(Vv g B ds d).map λa=>.nx (ρ.set i (Y (a,U)))
 |_=>L
def Sx.YY(g:Jq)(i:Nat)(ke:Ex)(es:List Ex):Sx:={ ex:=λC a=>(bf C ke (full a)).bind λy=>(og C es (full a)).bind λx=>if x.2=U then YX g i a y.1 x.1 (a[i]?).join else L }
theorem Fx:∀{g:List (Key×V)}{j:Nat}{v:V},posK k (g.map (·.1))=Y j->(g.map (·.2))[j]?=Y v->o7 g k=Y v
 |[],_,_,h,_=>by cases h
 |p::r,j,v,h,e=>by
   simp only[aA,posK]at h;by_cases q:p.1=k
   .rw[if_pos q]at h;cases h;cases e;simp[o7,q]
   .rw[if_neg q]at h;obtain⟨a,h1,rfl⟩:=ee h;have:=Fx h1 e;unfold o7 at this ⊢;rwa[List.find?_cons_of_neg (by simpa using q)]
section
variable{X:Cx}{K:Fg}
def Yz:R2:=λx y H Q=>∃a b k w,x=.ref a/\y=kV k/\H a=Y (.dK b)/\o7 b k=Y w/\Q w H
def Wb(B:X.A.units+1<dR):Xn X Yz:=by
 intro value slice h_ s σ H x y v u Q I b c h hs;refine ac λ_ i=>?_;obtain⟨a,l,k,w,rfl,rfl,d,e,q⟩:=h;cases b;refine i ?_;have dg:tf H a (kV k) (Y w):=by rw[<-e];exact tf.k d
 exact NH (tR I dg) wq.lookup (yp I dg c λg m j f=>⟨w,H,j,f,q⟩) hs
def cZ.at (o:cZ K H ds vs S)(hk:ds[k]?=Y e) :
  ∃v B O C,vs[k]?=Y v/\kL K H e v O/\S=B++(O++C)/\cZ K H (ds.take k) (vs.take k) B/\cZ K H (ds.drop (k+1)) (vs.drop (k+1)) C/\vs=vs.take k++v::vs.drop (k+1):=by
 obtain⟨B,i,d,c,rfl⟩:=o.take k;have a :=(aN.mp hk).1
 have hd:ds.drop k=e::ds.drop (k+1):=by
  rw[eP a]
  simp_all
 rw[hd]at c;refine ac λ_ h=>?_;obtain⟨v,r,O,C,j,f,g,rfl⟩:=c;refine h ?_;have b:k<Z vs:=by rwa[o.length]
 rw[(eP b)]at j;refine ac λ_ h=>?_;obtain⟨rfl,rfl⟩:=eD j;refine h ?_;exact⟨_,B,O,C,af b,f,W,d,g,by simp⟩
structure Chg(K:Fg)(H:Hp)(op:Jq)(p l:aL)(d':Dat)(ws:List V)(S T:List aL)(ob':HO)(S':List aL):Prop where
 own:kL K (upd H l ob') d' (.ref p) S'
 nd:S'.Nodup
 sub:∀a∈S',a∈S\/a∈T
def PQ{ws:List Dat}{T:List aL}(h1:op≠.ext)(h0:op≠.seti)(B:cc H H')(R:ws[j]?=Y e)(O:lG op e ds=Y e')(o:kL K H (.dct ks ws) v S)(nd:S.Nodup)
  (a:cZ K H' ds us T)(nt:T.Nodup)(dj:∀a∈S,a∉T):∃p k_ l xs a5 ob' S',v=.ref p/\H p=Y (.dK k_)/\k_.map (·.1)=ks/\(k_.map (·.2))[j]?=Y (.ref l)/\H l=Y (.lst xs)/\l∈S/\H' l=Y a5/\Be op a5 us=Y ob'/\Jb ob'/\Chg K H' op p l (.dct ks (ws.set j e')) us S T ob' S':=by
 refine ac λ_ q=>?_;obtain⟨p,k_,P,rfl,hp,rfl,os,rfl⟩:=o;obtain⟨C,h,x,i,D,y,rfl,F,G,I⟩:=os.at R;have k:∃l xs,C=.ref l/\H l=Y (.lst xs):=by
  cases e with
  |lst E=>obtain⟨l,xs,S',rfl,hl,_⟩:=id y;exact⟨l,xs,W,hl⟩
  |dct ks ws=>cases op<;>first|exact absurd rfl h1|exact absurd _ h2|exact absurd rfl h0|cases O
  |any=>cases op<;>first|exact absurd rfl h1|exact absurd _ h2|cases O
  |_=>cases op<;>cases O
 obtain⟨l,xs,rfl,hl⟩:=k;have A:=a6.mp nd;have n:=jI A.2;have r:=jI n.2.1
 have c:∀a,a∈h\/a∈x\/a∈i->a∈p::(h++(x++i)):=λa m=>jZ _ (by
  grind)
 obtain⟨Q,a5,ob',S',ev,b,d,f,t,u,s,M⟩:=zo h1 O (y.mono B) r.1 a nt λa m=>dj a (c a (.inr (.inl m)));cases ev
 refine q ?_;have g:∀us,H' l≠Y (.tup us):=λus z=>by rw[d]at z;cases z;cases op<;>first|exact absurd rfl h1|exact absurd _ h2|cases f
 have w:p≠l:=λz=>A.1 (z▸aq _ (aC _ b));refine⟨p,k_,l,xs,a5,_,p::(h++(S'++i)),W,hp,W,D,hl,c l (.inr (.inl b)),d,f,t,⟨p,k_,_,W,(eh w).trans (B _ _ hp),W,?_,W⟩,?_,λa m=>?_⟩
 .have N:ws.set j e'=ws.take j++([e']++ws.drop (j+1)):=by
   rw[j5,if_pos (aN.mp R).1];rfl
  rw[N];exact I.symm▸(((F.mono B).upd g _ (λm=>n.2.2 l m (aC _ b))).append ((cZ.one u).append ((G.mono B).upd g _ (λm=>r.2.2 l b m))))
 .refine a6.mpr ⟨λm=>?_,jy n.1 (jy s r.2.1 λa m m3=>?_) λa m m2=>?_⟩
  .grind
  .grind
  grind
 grind
def Ls(h:pB C (.YY op i ke es) ρ=Y out) :
  ∃B F k ds I ws j e O,bf C ke (full ρ)=Y (B,F)/\ub B=Y k/\og C es (full ρ)=Y (ds,U)/\ρ[i]?=Y (Y (.dct I ws,U))/\posK k I=Y j/\ws[j]?=Y e/\lG op e ds=Y O/\out=.nx (ρ.set i (Y (.dct I (ws.set j O),U))):=by
 refine ac λ_ m=>?_;obtain⟨⟨B,F⟩,hk,h⟩:=cA h;obtain⟨⟨ds,al⟩,h3,h⟩:=cA h;refine m ?_;by_cases b:al=U
 .subst b
  cases q:ρ[i]? with
  |none=>rw[q]at h;cases h
  |some z=>
    rw[q]at h
    match z,h with
    |some (d,U),h=>
      obtain⟨o,a,n⟩:=ee h
      cases d with
      |dct I ws=>
        refine ac λ_ m=>?_;obtain⟨k,c,a⟩:=cA a;obtain⟨j,f,a⟩:=cA a;obtain⟨e,g,a⟩:=cA a;obtain⟨O,l,rfl⟩:=ee a;refine m ?_;exact⟨B,F,k,ds,I,ws,j,e,O,hk,c,h3,W,f,g,l,n.symm⟩
      |_=>cases a
 .rw[if_neg b]at h;cases h
def Lr(h1:op≠.ext)(h0:op≠.seti){D:Ends}(h:gS K C (.YY op i ke es) D σ H) :
  ∃p,σ[i]?=Y (Y (.ref p))/\gE K C ke σ H λa5 B=>∃k_ k l xs,a5=kV k/\B p=Y (.dK k_)/\o7 k_ k=Y (.ref l)/\B l=Y (.lst xs)/\gF K C es σ B λws H2=>∃c0 ob',H2 l=Y c0/\Be op c0 ws=Y ob'/\D.nx σ (upd H2 l ob'):=by
 refine ac λ_ X=>?_;obtain⟨Fz,H₀,F,ρ,out,h,R,I⟩:=h;obtain⟨J',L',k,ds,ks,ws,j,e,e',M,g,N,hi,P,t,c,rfl⟩:=Ls h;obtain⟨Ss,O⟩:=R.ow;obtain⟨v,e1,e2,e3,e4⟩:=O.own i _ hi;obtain⟨p,k_,S0,rfl,hp,n,os,eS⟩:=id e2;obtain⟨Q,sp,x⟩:=R.jg;refine X ?_;refine⟨p,e1,_,J',L',M,Q,x.step.good,x.full,λa5 F1 B o S _=>?_⟩;refine ac λ_ X=>?_;obtain rfl:=pz g S;have b:=Step.shrink R.step.good sp o;have r:=R.moved b;have y:=O.moved b;obtain⟨U',S1,S2,S3,z,V,f3,f4,f5,f6⟩:=os.at t
 have s:∃l xs,U'=.ref l/\H l=Y (.lst xs):=by
  cases e with
  |lst ls=>obtain⟨l,xs,S',rfl,hl,_⟩:=id V;exact⟨l,xs,W,hl⟩
  |dct ks ws=>cases op<;>first|exact absurd rfl h1|exact absurd _ h2|exact absurd rfl h0|cases c
  |any=>cases op<;>first|exact absurd rfl h1|exact absurd _ h2|cases c
  |_=>cases op<;>cases c
 obtain⟨l,xs,rfl,hl⟩:=s;refine X ?_;refine⟨k_,k,l,xs,W,b.hh _ _ hp,Fx (by rwa[n]) z,b.hh _ _ hl,zI r N λus F' H' T st ow c3 d=>?_⟩;have dj:∀a∈Ss i,a∉T:=λa m m2=>by
  obtain⟨u,f,_⟩:=e2.ud _ a m;have:=b.hh _ _ f;rw[(d a m2).1]at this;cases this
 refine ac λ_ X=>?_;obtain⟨p',A,l',xs',c0,ob',S',q1,E,q3,G,q5,q6,q7,q8,q9,ch⟩:=PQ h1 h0 (b.hh.trans st.hh) t c e2 e3 ow c3 dj;cases q1;refine X ?_;rw[hp]at E;cases E;rw[z]at G;refine ac λ_ X=>?_;cases G;refine X ?_;refine⟨c0,_,q7,q8,I F' _ σ (b.ff.trans st.ff) ((r.moved st).mut (y.moved st) hi e1 q6 q9 ch.own ch.nd λa m=>?_)⟩
 rcases ch.sub a m with m|m
 .exact .inl m
 .refine .inr ⟨(d a m).2,(r.step.hh.free (d a m).1),λj d2 q m2=>?_⟩
  .obtain⟨w,_,g,_⟩:=y.own j d2 q;obtain⟨u,f,_⟩:=g.ud _ a m2;rw[(d a m).1]at f;cases f
def TK{st:kZ}(h1:op≠.ext)(h3:op≠.seti)(O:∀l B P vs H Q,H l=Y B->Be op B vs=Y P->(∀u,Q u (upd H l P))->r (.ref l) vs H Q)
  (I:PS X st (AG (Ta X.K "list" r (Nm Yz (se i) (gE X.K C ke)) (gF X.K C es)))):SS X C st (.YY op i ke es):=PS.imp I λD σ H h=>by
 obtain⟨p,s,g⟩:=Lr h1 h3 h;refine⟨_,s,mO g λm n s1 d=>?_⟩;refine ac λ_ o=>?_;obtain⟨t,k,l,v,rfl,a,b,c,e⟩:=d;refine o ?_;refine⟨p,t,k,_,W,W,a,b,.inl ⟨W,v,ng.of c⟩,?_⟩;refine ac λ_ o=>?_;obtain⟨w,x,al,h,F,j,R,k⟩:=e;refine o ?_;exact⟨w,x,al,h,F,j,R,λvs y q st r f=>let ⟨B,_,a,b,c⟩:=k vs y q st r f;O l B _ vs q _ a b λ_=>c⟩
end
end M
namespace L2
open PySem PySem.Spec PyProof.Rows
noncomputable abbrev XI:List (aW×ah):=[((("default":String):aW),fm)]
noncomputable def Np(f:Nat->Int):Nat->Nat->Option Nat->Option Nat
 |0,_,m=>m
 |k+1,j,L=>Np f k (j+1) (Y j)
 |k+1,j,Y i=>Np f k (j+1) (Y (if f j<f i then j else i))
def bestOf(P:Nat->ah->Prop):Option Nat->ah->Prop
 |none,v=>v=.none
 |some i,v=>P i v
def heldBy(P:Nat->ah->Prop)(vs:Array ah):Option Nat->Prop
 |none=>vs=#[]
 |some i=>∃b,P i b/\vs=#[b,b]
section
variable{A:bT}{St:Nat->cx->Prop}
def PZ(O:Walks prog w A.in1 I fp wr n P St)(hc:CmpOf prog w A.in1 .Lt P λi j=>decide (f i<f j))(hf:S∉fp):∀(k j:Nat) (s:ai) (m:Option Nat) (vs:Array ah) (c:Nat),n - j=k->j<=n->St j s.heap->heldBy P vs m->
  s.heap.get? S=Y { cls:=.type "list",dict:=L,data:=.seq vs c,slots:=#[] }->
  (∀v h' B,bestOf P (Np f k j m) v->(∀b o,b∉wr->b≠S->s.heap.get? b=Y o->h'.get? b=Y o)->R (.ok (.ret v)) { s with heap:=h',toks:=B })->
  codeAny (aG prog w) A (.builtin "min.loop" ⟨[.ref I,.none,.ref S],XI⟩) R s:=by
 have D :=λh=>hf (O.sub _ h);intro k
 induction k with
 |zero=>
   intro j s m vs c hk E st r ho fin;have e:j=n:=aD (iF E) (kX (am E) (ae hk))
   refine fG yK (by
    refine wb9 (dh ho W ?_);refine wb9 (rW (O.done s _ _ (e▸st) λh' B fr=>?_))
    cases m with
    |none=>
      cases r;exact wb9 (gm (wu9 (fin _ h' B W λb o x _ e=>fr b o x e)))
    |some i=>
      obtain⟨b,hb,rfl⟩:=r;exact wb9 (jd (fr S _ D ho) W (wb9 (mj (wu9 (fin b _ B hb λb o x y e=>(dM _ _ (cu y)).trans (fr b o x e)))))))
 |succ k C=>
   intro j s m vs c hk E st r ho fin;have lt:j<n:=kX (ad E) (ae hk.symm)
   refine fG yK (by
    refine wb9 (dh ho W ?_);refine wb9 (rW (O.item j s _ _ lt st λv h' B hp p fr=>?_));have a:=fr S _ D ho;have keep:∀g:lD->lD,∀b∈fp,∀o,h'.get? b=Y o->(h'.update S g).get? b=Y o:=λg b hb o e=>(dM _ _ (λz:S=b=>hf (by rwa[z]))).trans e
    cases m with
    |none=>
      cases r;refine wb9 (m:=updateSeq S _) (jd a W ?_)
      exact wu9 ⟨g8 jS _,C _ _ (Y j) _ _ (aD (qt (ws lt) (wt (ax lt)) (ae hk)) (qt (ae hk.symm) (ws (ax lt)) (wt lt))) lt (O.frame _ _ _ p (keep _)) ⟨v,hp,W⟩ (eT _ a W) λt h2 d hb l=>
       fin t h2 d hb λb o x y e=>l b o x y ((dM _ _ (cu y)).trans (fr b o x e))⟩
    |some i=>
      obtain⟨b0,u,rfl⟩:=r;refine wb9 (m:=tryCatch (holding _ (richCompare _ v b0 >>= _)) _) (rW (cB (wb9 (hc j i v b0 _ _ _ hp u ?_))));refine wb9 (cB (gZ (wb9 (mj (wu9 ?_)))));have F:Np f (k+1) j (Y i)=Np f k _ (Y _):=rfl;rw[F]at fin;by_cases q:f j<f i
      .rw[if_pos q]at fin;simp only[decide_eq_true q,if_true];refine wb9 (jd a W (wb9 (mj ?_)))
       exact wu9 ⟨g8 jS _,C _ _ (Y j) _ _ (aD (qt (ws lt) (wt (ax lt)) (ae hk)) (qt (ae hk.symm) (ws (ax lt)) (wt lt))) lt (O.frame _ _ _ p (keep _)) ⟨v,hp,W⟩ (eT _ a W) λt h2 d hb l=>
        fin t h2 d hb λb o x y e=>l b o x y ((dM _ _ (cu y)).trans (fr b o x e))⟩
      .rw[if_neg q]at fin;simp only[decide_eq_false q,bS,if_false];exact wb9 (mj (wu9 ⟨g8 jS _,C _ _ (Y i) _ c (aD (qt (ad lt) (am (ax lt)) (ae hk)) (qt (ae hk.symm) (ad (ax lt)) (am lt))) lt p ⟨b0,u,W⟩ a λt h2 d hb l=>fin t h2 d hb λb o x y e=>l b o x y (fr b o x e)⟩)))
end
def M3(a:ah):argsOk "min" ⟨[a],XI⟩:=by kernel_rfl
section
variable{A:bT}{s:ai}
def MO(hh:A.handled=L)(hl:s.heap.IsList l (intItems xs))
  (k:∀v C B,bestOf (λi v=>(intItems xs)[i]?=Y v) (Np (numAt xs) xs.size 0 L) v->(∀b o,s.heap.get? b=Y o->C.get? b=Y o)->Q v { s with heap:=C,toks:=B }) :
  aF (aG prog w) A (call (.builtin "min") [.ref l] XI) Q E s:=by
 refine CQ (mm PySem.F.plain_min PySem.F.entry_min ?_)
 have main:aF (aG prog w) A.in1 (iC.«min» ⟨[.ref l],XI⟩) (λfin j=>match fin with
   |.done f=>(match(Except.ok f)with | .ok (.ret v)=>Q v j | .ok _=>False | .error e=>E e j)
   |.again g=>g.quiet=U/\codeAny (aG prog w) A g (λr j=>match r with | .ok (.ret v)=>Q v j | .ok _=>False | .error e=>E e j) j) E s:=by
  refine wb9 (kE (W) (wb9 (wu9 (wb9 (iter_intList hl λs2 e st a ne=>?_)))));subst e;refine wb9 (dH ?_);have sz:(intItems xs).size=xs.size:=by simp[intItems]
  have d:=Walks.list (prog:=prog) (w:=w) (A:=A.in1) hh _ l ne (intItems xs);refine wu9 ⟨g8 jS _,PZ d (CmpOf.ints_lt _ λ_ _=>intItems_at) (λh=>bB _ (a _ h)) _ 0 _ L _ _ W (aK _) (d.frame _ _ _ st λb _ o e=>hp9 _ e) W (aH _ W) λv C B hb fr=>?_⟩;rw[sz]at hb
  exact k v C B hb λb o e=>by
   have n:=hp9 ({ cls:=.type "list_iterator",data:=.fields #[.ref l,.int 0 0] }) e
   exact fr b o (λm=>by
    rcases aw.mp m with rfl|m
    .exact absurd (hl9 e) (bB _)
    .cases m) (a9 (hl9 n)) (hp9 _ n)
 cases q:Manifest.signature? "min" with
 |none=>exact wu9 main
 |some c=>
   exact wu9 main
end
end L2
namespace M
open PySem PySem.Spec PyProof.Rows L2
noncomputable def VB:Int->List Int->Int
 |i,[]=>i
 |i,j::r=>VB (if j<i then j else i) r
def PU:Dat->g_
 | .lst a=>(yg a).map λis=>match is with
   |[]=>(.non,J)
   |i::r=>(.int (VB i r),J)
 |_=>L
def Ex.mnd(a:Ex):Ex:=⟨a.fv,λC b=>(bf C a b).bind λx=>PU x.1⟩
theorem FR(f:Nat->Int):∀(k j i:Nat),(Np f k j (Y i)).map f=Y (VB (f i) ((List.range' j k).map f))
 |0,_,_=>rfl
 |k+1,j,i=>by
   show(Np f k (j+1) (Y (if f j<f i then j else i))).map f=_;rw[FR f k (j+1) _,Ni,aA];simp only[VB];split<;>rfl
section
variable{X:Cx}
def aaW(K:Fg):List V->Hp->VK->Prop:=gL K (b1 PU)
def VA(B:X.calm=U)(I:Inv X h_ σ H s)(r:cV vs us)(h:aaW X.K vs H Q) :
  aF (aG X.prog X.w) X.A (call (.builtin "min") us XI) (EP X h_ σ Q) X.xe s:=by
 refine ac λ_ z=>?_;obtain⟨M,d,fr,F,v,h1,rfl,g,n,k⟩:=sU (λ_ _ _ h=>M2 h) h
 refine z ?_;cases M with
 |lst O=>
   refine ac λ_ z=>?_;obtain⟨is,hb,h1⟩:=ee h1;obtain⟨q,o,rfl,t,p⟩:=n;obtain⟨N,x,pl,_⟩:=I.lstR g t;obtain⟨u,rfl,y⟩:=vals1 r;cases y;have f:=x8 hb p x;obtain⟨E,e⟩:=f.allInts.items;refine z ?_;have hl:=pl.isList;rw[e]at hl
   have l:E.toList.map (·.1)=is:=by
    have h1:=nums_intItems E;rw[<-e]at h1;exact h1.symm.trans f.numsOf
   refine MO (I.ok.hd B) hl λv P G b hk=>?_
   cases is with
   |nil=>
     refine ac λ_ z=>?_;cases h1;refine z ?_;have h0:E.size=0:=by simp_all
     rw[h0]at b;rw[b];exact⟨.non,H,I.kept hk,W,k _ F H (Step.refl g) W be⟩
   |cons i is=>
     cases h1;have h0:E.size=Z is+1:=by simpa using congrArg fI l
     have C:Np (numAt E) E.size 0 L=Np (numAt E) is.length 1 (Y 0):=by rw[h0];rfl
     rw[C]at b;obtain⟨r,D,c⟩:=ee (FR _ _ 1 0);rw[D]at b;obtain⟨t,rfl⟩:=intItems_at (b)
     have a:(List.range' 0 E.size).map (numAt E)=i::is:=by
      rw[<-l];refine nr λj=>?_;by_cases m:j<E.size
      .simp[m,numAt]
      .simp[m]
     rw[h0]at a;rw[c,(eD a).1,(eD a).2];exact⟨.int _,H,I.kept hk,⟨_,W⟩,k _ F H (Step.refl g) W be⟩
 |_=>cases h1
def Uq(B:X.calm=U)(O:Gl X "min")(F:X.mg "min"=L)(ha:SA X C [e] [P])(he:aO [e] X.env=(J,eval e X.env)::aO [] X.env) :
  SE X C (.Call (.Name "min" p) [e] [⟨Y "default",.Constant .none c cp,kp⟩] pos) (.mnd P):=
 PE.imp (λh_ s σ H Q I h=>by
  exact eK (lp I O F PyProof.Rows.boot_min (callWith_kw (iN (ha _ h_ s σ H _ I h) λus s1 ⟨vs,g,a,b,f⟩=>kws_cons (Constant_none (kws_nil (VA B a b f)))) (by rw[he];rfl) (by rw[he];rfl) W rfl) bR bR))
  (pW λi d fr h=>by
   obtain⟨x,h1,h2⟩:=cA h
   exact⟨[x.1],by show(bf C P i).bind _=_;rw[h1];rfl,h2⟩)
end
def Vu(g:Jq)(ds:List Dat):Dat->Dat->Option Dat
 |.lst ws,.int k=>(tL ws.length k).bind λj=>(ws[j]?).bind λe=>(lG g e ds).map λa=>.lst (ws.set j a)
 |_,_=>L
def Vx(g:Jq)(i:Nat)(ρ:cY)(B:Dat)(ds:List Dat):g_->Option Out
 |some (d,U)=>(Vu g ds d B).map λa=>.nx (ρ.set i (Y (a,U)))
 |_=>L
def Sx.Ly(i:Nat)(ke xi xe:Ex):Sx:={ ex:=λC a=>(bf C xe (full a)).bind λx=>if im x.1=U then(bf C ke (full a)).bind λy=>(bf C xi (full a)).bind λz=>Vx .seti i a y.1 [x.1,z.1] (a[i]?).join else L }
def Sx.RO(i:Nat)(ke xe:Ex):Sx:={ ex:=λC a=>(bf C ke (full a)).bind λy=>(bf C xe (full a)).bind λx=>if im x.1=U then Vx .app i a y.1 [x.1] (a[i]?).join else L }
section
variable{K:Fg}
def FP(h:Vx op i ρ C ds (ρ[i]?).join=Y out) :
  ∃ws k j e B,C=.int k/\ρ[i]?=Y (Y (.lst ws,U))/\tL ws.length k=Y j/\ws[j]?=Y e/\lG op e ds=Y B/\out=.nx (ρ.set i (Y (.lst (ws.set j B),U))):=by
 cases q:ρ[i]? with
 |none=>rw[q]at h;cases h
 |some z=>
   rw[q]at h
   match z,h with
   |some (d,U),h=>
     obtain⟨m,a,l⟩:=ee h
     cases d with
     |lst ws=>
       cases C with
       |int k=>
         refine ac λ_ g=>?_;obtain⟨j,b,a⟩:=cA a;obtain⟨e,c,a⟩:=cA a;obtain⟨B,f,rfl⟩:=ee a;refine g ?_;exact⟨ws,k,j,e,B,W,W,b,c,f,l.symm⟩
       |_=>cases a
     |_=>cases a
def FO{ws:List Dat}(h1:op≠.ext)(B:cc H H')(P:ws[j]?=Y e)(R:lG op e ds=Y e')(o:kL K H (.lst ws) v S)(nd:S.Nodup)(a:cZ K H' ds us []) :
  ∃p vs l O ob' S',v=.ref p/\H p=Y (.lst vs)/\Z vs=Z ws/\vs[j]?=Y (.ref l)/\l∈S/\H' l=Y O/\Be op O us=Y ob'/\Jb ob'/\kL K (upd H' l ob') (.lst (ws.set j e')) (.ref p) S'/\S'.Nodup/\∀a∈S',a∈S:=by
 refine ac λ_ q=>?_;obtain⟨p,vs,M,rfl,hp,os,rfl⟩:=o;obtain⟨N,g,y,h,A,C,rfl,E,F,G⟩:=os.at P;have k:=a6.mp nd;have n:=jI k.2;have i:=jI n.2.1;obtain⟨l,O,ob',S',rfl,b,c,d,I,u,r,s⟩:=zo h1 R (C.mono B) i.1 a dT λa _ m=>by cases m
 refine q ?_;have t :=λa m=>(s a m).elim id λz=>by cases z
 have f:∀us,H' l≠Y (.tup us):=λus z=>by rw[c]at z;cases z;cases op<;>first|exact absurd rfl h1|exact absurd _ h2|cases d
 have x:p≠l:=λz=>k.1 (z▸aq _ (aC _ b))
 have sub:∀a∈g++(S'++h),a∈g++(y++h):=λa m=>by
  grind
 refine⟨p,vs,l,O,_,p::(g++(S'++h)),W,hp,os.length,A,jZ _ (aq _ (aC _ b)),c,d,I,⟨p,vs,_,W,(eh x).trans (B _ _ hp),?_,W⟩,?_,λa m=>?_⟩
 .have w:ws.set j e'=ws.take j++([e']++ws.drop (j+1)):=by
   rw[j5,if_pos (aN.mp P).1];rfl
  rw[w];exact G.symm▸(((E.mono B).upd f _ (λm=>n.2.2 l m (aC _ b))).append ((cZ.one u).append ((F.mono B).upd f _ (λm=>i.2.2 l b m))))
 .exact a6.mpr ⟨λm=>k.1 (sub p m),jy n.1 (jy r i.2.1 λa m m3=>i.2.2 a (t a m) m3) λa m m2=>by
   grind⟩
 grind
def Rl.ask(R:Rl K O H₀ F H σ ρ)(h:bf C x (M.full ρ)=Y (d,fr))
  (k:∀v F1 B,Step F H F1 B->(im d=U->∀I,cc B I->kL K I d v [])->(∀k,ub d=Y k->v=kV k)->(∀i,d=.int i->v=.int i)->Q v B):gE K C x σ H Q:=by
 obtain⟨g,j,f⟩:=R.jg;refine⟨_,d,fr,h,g,f.step.good,f.full,λv F1 B b c _=>k v _ B (Step.shrink R.step.good j b) (λm I s2=>kL.kQ (λa o e=>s2 a o (b.good.sub a o e)) d m c) (λk q=>pz q c) λi q=>?_⟩;rwa[q]at c
set_option tactic.hygienic true
def Lx{D:Ends}(h:gS K C (.Ly i ke xi xe) D σ H) :
  gE K C xe σ H λv H1=>∃p,σ[i]?=Y (Y (.ref p))/\gE K C ke σ H1 λkv H2=>∃xs k l,kv=.int k/\H2 p=Y (.lst xs)/\uK xs k=Y (.ref l)/\gE K C xi σ H2 λa5 B=>∃c0 ob',B l=Y c0/\Be .seti c0 [v,a5]=Y ob'/\D.nx σ (upd B l ob'):=by
 refine ac λ_ P=>?_;obtain⟨Fz,H₀,F,ρ,out,h,R,J'⟩:=h;obtain⟨⟨d,fd⟩,h1,h⟩:=cA h;refine P ?_;split at h
 .rename_i hd;refine ac λ_ P=>?_;obtain⟨⟨X,fk⟩,h2,h⟩:=cA h;obtain⟨⟨o,fz⟩,h3,h⟩:=cA h;obtain⟨ws,k,j,e,e',rfl,hi,L',y,g,rfl⟩:=FP h;refine P ?_;refine R.ask h1 λv F1 H1 c ow _ _=>?_;have z:=R.moved c;refine ac λ_ P=>?_;obtain⟨Ss,O⟩:=R.ow;obtain⟨v0,e1,e2,e3,e4⟩:=O.own i _ hi;obtain⟨p,xs,S0,rfl,hp,os,eS⟩:=id e2;refine P ?_;refine⟨p,e1,z.ask h2 λkv F2 H2 b _ _ hk=>?_⟩;have R2:=z.moved b;refine ac λ_ P=>?_;obtain⟨M,S1,S2,S3,A,E,f3,f4,f5,f6⟩:=os.at y
  have r:im o=U:=by
   cases e with
   |lst ls=>
     cases o with
     |int n=>rfl
     |_=>cases g
   |dct ks ws=>
     obtain⟨kz,q,_⟩:=cA (g)
     cases o with
     |int n=>rfl
     |str n=>rfl
     |_=>cases q
   |_=>cases g
  have s:∃l,M=.ref l:=by
   cases e with
   |lst ls=>obtain⟨l,xs,S',rfl,hl,_⟩:=id E;exact⟨l,W⟩
   |dct ks ws=>obtain⟨l,xs,S',rfl,hl,_⟩:=id E;exact⟨l,W⟩
   |_=>cases g
  obtain⟨l,rfl⟩:=s;refine P ?_;refine⟨xs,k,l,hk k W,b.hh _ _ (c.hh _ _ hp),by unfold uK;rwa[os.length,L'],R2.ask h3 λa5 N B f t hz hn=>?_⟩;refine ac λ_ P=>?_;obtain⟨p',Q,l',c0,ob',S',S,G,q3,I,T,U',V,c3,u,w,x⟩:=FO (by simp) ((c.hh.trans b.hh).trans f.hh) y g e2 e3 ⟨v,_,[],[],W,ow hd B (b.hh.trans f.hh),⟨a5,[],[],[],W,t r B (λ_ _ e=>e),⟨W,W⟩,W⟩,W⟩;cases S;refine P ?_;rw[hp]at G;cases G;rw[A]at I;refine ac λ_ P=>?_;cases I;refine P ?_;exact⟨c0,_,U',V,J' N _ σ ((c.ff.trans b.ff).trans f.ff) ((R2.moved f).mut (((O.moved c).moved b).moved f) hi e1 T c3 u w λa m=>.inl (x a m))⟩
 .cases h
def Lz{D:Ends}(h:gS K C (.RO i ke xe) D σ H) :
  ∃p,σ[i]?=Y (Y (.ref p))/\gE K C ke σ H λa5 B=>∃xs k l ys,a5=.int k/\ng K B p xs/\uK xs k=Y (.ref l)/\B l=Y (.lst ys)/\gE K C xe σ B λv H2=>∃c0 ob',H2 l=Y c0/\Be .app c0 [v]=Y ob'/\D.nx σ (upd H2 l ob'):=by
 refine ac λ_ k0=>?_;obtain⟨Fz,H₀,F,ρ,out,h,R,x⟩:=h;obtain⟨⟨P,Q⟩,h1,h⟩:=cA h;obtain⟨⟨d,fd⟩,h2,h⟩:=cA h;refine k0 ?_;split at h
 .rename_i hd;refine ac λ_ k0=>?_;obtain⟨ws,k,j,e,S,rfl,hi,y,q,r,rfl⟩:=FP h;obtain⟨Ss,O⟩:=R.ow;obtain⟨T,e1,e2,e3,U'⟩:=O.own i _ hi;obtain⟨p,xs,V,rfl,hp,os,c3⟩:=id e2;refine k0 ?_;refine⟨p,e1,R.ask h1 λa5 F1 B b _ _ hk=>?_⟩;have s:=R.moved b;refine ac λ_ k0=>?_;obtain⟨z,X,S2,S3,t,A,f3,f4,f5,f6⟩:=os.at q
  have f:∃l ys,z=.ref l/\H l=Y (.lst ys):=by
   cases e with
   |lst ls=>obtain⟨l,ys,S',rfl,hl,_⟩:=id A;exact⟨l,ys,W,hl⟩
   |_=>cases r
  obtain⟨l,ys,rfl,hl⟩:=f;refine k0 ?_;refine⟨xs,k,l,ys,hk k W,ng.of (b.hh _ _ hp),by unfold uK;rwa[os.length,y],b.hh _ _ hl,s.ask h2 λv E H2 c ow _ _=>?_⟩;refine ac λ_ k0=>?_;obtain⟨p',G,l',c0,ob',S',I,u,q3,w,J',L',M,N,g,n,o⟩:=FO (by simp) (b.hh.trans c.hh) q r e2 e3 ⟨v,[],[],[],W,ow hd H2 (λ_ _ e=>e),⟨W,W⟩,W⟩;cases I;refine k0 ?_;rw[hp]at u;cases u;rw[t]at w;refine ac λ_ k0=>?_;cases w;refine k0 ?_;exact⟨c0,_,L',M,x E _ σ (b.ff.trans c.ff) ((s.moved c).mut ((O.moved b).moved c) hi e1 J' N g n λa m=>.inl (o a m))⟩
 .cases h
def TL{st:kZ}(B:PS X st (Hu (gE X.K C xe) (Wp (Nm (KC X.K) (se i) (gE X.K C ke)) (gE X.K C xi) (λo i v H Q=>Fo o i v H Q\/KA o i v H Q)))):SS X C st (.Ly i ke xi xe):=PS.imp B λD σ H h=>by
 refine mO (Lx h) λv s s1 ⟨p,x,g⟩=>⟨_,x,mO g λt I s2 ⟨A,k,l,E,hp,ha,d⟩=>⟨p,A,k,_,W,E,ng.of hp,ha,mO d λy u s3 z=>?_⟩⟩
 obtain⟨e,_,b,a,c⟩:=z;cases e with
 |lst F=>
   cases y with
   |int n=>
     simp only[Be,Lf]at a;split at a
     .obtain⟨w,f,m⟩:=ee a;cases m;obtain⟨j,q,rfl⟩:=ee f;exact .inl ⟨l,F,n,j,W,W,b,q,c⟩
     .cases a
   |_=>cases a
 |dK G=>
   obtain⟨n,hk,a⟩:=cA a;split at a
   .rename_i r;cases a;exact .inr ⟨l,G,n,W,LM hk,b,r,c⟩
   .cases a
 |_=>cases a
set_option tactic.hygienic false
def TM{st:kZ}(F:∀l B P vs H Q,H l=Y B->Be .app B vs=Y P->(∀u,Q u (upd H l P))->r (.ref l) vs H Q)
  (I:PS X st (AG (Ta X.K "list" r (Nm (KC X.K) (se i) (gE X.K C ke)) (λσ H Q=>gE X.K C xe σ H λv O=>Q [v] O)))):SS X C st (.RO i ke xe):=PS.imp I λD σ H h=>by
 obtain⟨p,f,g⟩:=Lz h;refine⟨_,f,mO g λe O s1 z=>by obtain⟨j,k,l,m,n,hp,ha,hl,a⟩:=z;exact⟨p,j,k,_,W,n,hp,ha,.inl ⟨W,m,ng.of hl⟩,mO a λv o s2 ⟨B,_,b,c,d⟩=>F l B _ _ o _ b c λ_=>d⟩⟩
end
section
variable{K:Fg}
def Tq.uz(nt:∀a∈S,∀vs,H a≠Y (.tup vs))(t:Tq K H a vs):Tq K (uz H S) a vs:=by
 rcases t with t|t
 .exact .inl (by rwa[jW λm=>nt a m vs t])
 .exact .inr t
mutual
theorem kL.uz(nt:∀a∈S,∀vs,H a≠Y (.tup vs)):∀(d:Dat){v:V}{T:List aL},kL K H d v T->(∀a∈T,a∉S)->kL K (M.uz H S) d v T
 |.non,_,_,h,_=>h
 |.bl _,_,_,h,_=>h
 |.int _,_,_,h,_=>h
 |.str _,_,_,h,_=>h
 |.tup f,_,_,⟨a,vs,e,t,r⟩,n=>⟨a,vs,e,t.uz nt,cZ.uz nt f r n⟩
 |.lst f,_,_,c,n=>by
   obtain⟨a,vs,g,e,t,r,rfl⟩:=c;exact⟨a,vs,g,e,(jW (n a jL)).trans t,cZ.uz nt f r (λb m=>n b (jZ _ m)),W⟩
 |.dct _ f,_,_,c,n=>by
   obtain⟨a,i,g,e,t,k,r,rfl⟩:=c;exact⟨a,i,g,e,(jW (n a jL)).trans t,k,cZ.uz nt f r (λb m=>n b (jZ _ m)),W⟩
 |.any,_,_,h,_=>h
theorem cZ.uz(nt:∀a∈S,∀vs,H a≠Y (.tup vs)):∀(ds:List Dat){vs:List V}{T:List aL},cZ K H ds vs T->(∀a∈T,a∉S)->cZ K (M.uz H S) ds vs T
 |[],_,_,h,_=>h
 |d::ds,_,_,b,n=>by
   obtain⟨v,r,c,f,e,h1,h2,q⟩:=b;subst q;exact⟨v,r,c,f,e,kL.uz nt d h1 (λa m=>n a (aC _ m)),cZ.uz nt ds h2 (λa m=>n a (aq _ m)),W⟩
end
def XS:cc (M.uz H S) H:=λa o e=>by
 by_cases m:a∈S
 .rw[tF m]at e;cases e
 .rwa [jW m]at e
def kL.nt(o:kL K H d v S):∀a∈S,∀vs,H a≠Y (.tup vs):=λa m vs z=>by
 obtain⟨u,b,c⟩:=o.ud _ a m;rw[z]at b;cases b;exact c
end
noncomputable def lnR:Dat×Bool->Option (Dat×Dat)
 |(d,U)=>Y (.non,d)
 |(.tup [r,d],J)=>Y (r,d)
 |_=>L
def T4(K:Fg)(n:Nat)(f:List Dat->g_):Sp:=λvs H Q _=>Z vs=n/\∃d h y r e v us S F,vs=v::us/\f (d::h)=Y y/\lnR y=Y (r,e)/\kL K H d v S/\S.Nodup/\Good F H/\(∀a∈S,F a=L)/\cX K F h us/\
 ∀u b c g,Step F (uz H S) b c->Rep K b r u->kL K c e v g->g.Nodup->(∀a∈g,b a=L/\uz H S a=L)->Q u c
noncomputable def CK:Nat:=2000
noncomputable def ZE:Out->g_
 | .nx a=>match(a[0]?).join with
   |some (d,U)=>Y (d,U)
   |_=>L
 | .rl r a=>match(a[0]?).join with
   |some (d,U)=>Y (.tup [r,d],J)
   |_=>L
 |_=>L
def exL(C:Fs)(B O:Nat)(body:List Sx):List Dat->g_
 |d::a=>if Z a+1=B then(dZ C body (Y (d,U)::(a.map (λd=>Y (d,J))++br (O - B) L))).bind ZE else L
 |[]=>L
def Gy{ds:List Dat}{m j:Nat}{d:Dat}{b:Bool}(q:(ds.map (λd=>Y (d,J))++br m L:cY)[j]?=Y (Y (d,b))):b=J/\ds[j]?=Y d:=by
 by_cases hi:j<Z ds
 .rw[aY (by simpa using hi),aR]at q
  simp_all
 .rw[aS (by simpa using hi),cG]at q;split at q<;>cases q
section
variable{K:Fg}{base:cx}
set_option tactic.hygienic true in
def Wv{st:kZ}(F:Z6 K x qual st f fd)(S:pX N ps (dz st))(a5:Z ps<=Z N)
  (B:∀(cdv:ah)(A:bT)(outer:List Nf)(s:ai)(H:Hp)(E:XK),lJ k (A.deeper (envOfC qual (dz st) s.heap.objs.size f cdv))->
   Ja (xj yA P w K mg base N qual (dz st) f cdv A outer s H E).RK C (mP st) body):lK P w K mg base yA (k+1) f fd ps (T4 K ps.length (exL C ps.length N.length body)):=by
 refine F.ok S (λvs H Q E h=>h.1) λcdv A outer s H vs Q E J' h=>⟨_,B _ A _ s H E J',?_⟩
 refine ac λ_ k0=>?_;obtain⟨hl,d,ds,y,c0,e,v,us,D,Fz,rfl,he,G,o,nd,g,L',r,I⟩:=h;refine k0 ?_;have he:(if Z ds+1=(Z ps) then _ else L)=Y y:=he;split at he
 .rename_i X;obtain⟨out,ho,he⟩:=cA he;have M:L2.start N (v::us)=Y v::(us.map Y++br _ L):=rfl;refine⟨Fz,⟨uz H D,Y v⟩,Fz,_,_,ho,⟨⟨g,cc.refl _,XS,λ_ _ _ n=>n⟩,?_,λi d' q=>?_,λd' T q z=>?_,λi=>if i=0 then D else [],λi d' q=>?_,λi j d1 d2 U' c3 q2=>?_⟩,?_⟩
  .grind
  .cases i with
   |zero=>cases q
   |succ i=>
     obtain⟨w,e1,e2⟩:=r.get (Gy q).2;refine⟨w,?_,e2⟩;show(us.map Y++_)[i]?=_;rw[aY (by simpa using ((aN.mp e1).1)),aR,e1];rfl
  .cases z;rfl
  .cases i with
   |zero=>cases q;exact⟨v,W,o,nd,λa m=>⟨L' a m,tF m⟩⟩
   |succ i=>cases(Gy q).1
  .grind
  .have own:∀{ρ':cY} {l:Dat},ρ'[0]?=Y (Y _)->∀F' H' b,Rl K Fz ⟨uz H D,_⟩ F' H' b _->∃S',kL K H' l v S'/\S'.Nodup/\∀a∈S',F' a=L/\uz H D a=L:=λh0 F' H' b R=>by
    obtain⟨Ss,O⟩:=R.ow;obtain⟨T,e1,o',c,p⟩:=O.own 0 _ h0;have e2:=R.keep _ v h0 W;rw[e1]at e2;cases e2;exact⟨_,o',c,p⟩
   have t:∀{ρ':cY}{g:Dat->Dat×Bool},(match(ρ'[0]?).join with|some (d,U)=>Y (g d)|_=>L)=Y y->∃l,ρ'[0]?=Y (Y (l,U))/\y=g l:=λ{ρ' g}he=>by
    cases q:ρ'[0]? with
    |none=>rw[q]at he;cases he
    |some z=>
      rw[q]at he
      match z,he with
      |some (d',U),he=>simp_all
   cases out with
   |nx ρ'=>
     obtain⟨l,h0,rfl⟩:=t he;cases G;intro F' H' b s' R;obtain⟨S',o',c,p⟩:=own h0 F' H' b R;exact I _ F' H' S' R.step W o' c p
   |rl d1 ρ'=>
     obtain⟨l,h0,rfl⟩:=t he;cases G;intro u F' H' b s' R V;obtain⟨S',o',c,p⟩:=own h0 F' H' b R;exact I u F' H' S' R.step V o' c p
   |rt _ _=>cases he
   |bk _=>cases he
   |ct _=>cases he
 .cases he
end
section
variable{K:Fg}
def Rl.abm(R:Rl K Fz H₀ F H σ ρ)(O:Ow K H₀.h F H σ ρ S)(hi:ρ[i]?=Y (Y (d,U)))(B:σ[i]?=Y (Y v))
  (st:Step F (uz H (S i)) F' H')(o:kL K H' e v S')(nd:S'.Nodup)(P:∀a∈S',F' a=L/\uz H (S i) a=L):Rl K Fz H₀ F' H' σ (ρ.set i (Y (e,U))):=by
 obtain⟨w,N,M,Q,G⟩:=O.own i d hi
 have up:∀a u,H₀.h a=Y u->uz H (S i) a=Y u:=λa u q=>by
  rw[jW λm=>by simp_all];exact R.step.hh a u q
 have b:∀j d2,i≠j->ρ[j]?=Y (Y _)->∀a∈S j,∃u,uz H _ a=Y u/\F a=L:=λj d2 t q a m=>by
  refine ac λ_ I=>?_;obtain⟨_,_,l,_,x⟩:=O.own j d2 q;obtain⟨u,p,_⟩:=l.ud _ a m;refine I ?_;exact⟨u,by rwa[jW (O.sep j i d2 d (cu t) q hi a m)],(x a m).1⟩
 refine⟨⟨st.good,R.step.ff.trans st.ff,λa u q=>st.hh a u (up a u q),λa u q n=>st.un a u (up a u q) (R.step.un a u q n)⟩,by simpa using R.len,λj d2 q=>?_,λd2 A q=>?_,λj=>if j=i then S' else S j,λj d2 q=>?_,λj k d1 d2 r D C a m=>?_⟩
 .rcases dC q with⟨rfl,z⟩|⟨_,c⟩
  .cases z
  .obtain⟨w,y,l⟩:=R.val j d2 c;exact⟨w,y,l.mono st.ff⟩
 .rcases dC q with⟨rfl,_⟩|⟨_,c⟩
  .exact R.keep _ A hi
  .exact R.keep _ A c
 .rcases dC q with⟨rfl,z⟩|⟨f,c⟩
  .cases z;rw[if_pos W];refine⟨v,B,o,nd,λa m=>⟨(P a m).1,?_⟩⟩
   cases q:H₀.h a with
   |none=>rfl
   |some u=>have:=up a u q;simp_all
  .rw[if_neg (cu f)];obtain⟨w,y,l,E,x⟩:=O.own j d2 c;refine⟨w,y,(l.uz M.nt d2 λa m=>O.sep j i d2 d (cu f) c hi a m).mono st.hh,E,λa m=>⟨?_,(x a m).2⟩⟩;obtain⟨u,p,hf⟩:=b j d2 f c a m;exact st.un a u p hf
 .rcases dC D with⟨rfl,_⟩|⟨h1,s⟩
  .rcases dC C with⟨z,_⟩|⟨h2,g⟩
   .exact absurd z r
   .rw[if_neg (cu h2)];intro m2;obtain⟨u,p,_⟩:=b k d2 h2 g a m2
    simp_all
  .rw[if_neg (cu h1)]at m
   rcases dC C with⟨rfl,_⟩|⟨h2,g⟩
   .intro m2;obtain⟨u,p,_⟩:=b j d1 h1 s a m
    simp_all
   .rw[if_neg (cu h2)];exact O.sep j k d1 d2 r s g a m
end
section
variable{X:Cx}{C:Fs}{K:Fg}
def Y7(C:Fs)(t j i:Nat)(ρ:cY)(ds:List Dat):g_->g_->Option Out
 |some (a,J),Y (d,U)=>(C j (d::ds)).bind λx=>(lnR x).bind λp=>(fj .mx [a,p.1]).map λy=>.nx ((ρ.set i (Y (p.2,U))).set t (Y (y.1,J)))
 |_,_=>L
def Sx.lmx(t j i:Nat)(es:List Ex):Sx:={ ex:=λC a=>(lI C es (yP (lZ (Gr es) a))).bind λb=>Y7 C t j i (lZ (Gr es) a) b ((lZ (Gr es) a)[t]?).join ((lZ (Gr es) a)[i]?).join }
def P9(h:Y7 C t j i ρ ds (ρ[t]?).join (ρ[i]?).join=Y out) :
  ∃a d x p y,ρ[t]?=Y (Y (a,J))/\ρ[i]?=Y (Y (d,U))/\C j (d::ds)=Y x/\lnR x=Y p/\fj .mx [a,p.1]=Y y/\out=.nx ((ρ.set i (Y (p.2,U))).set t (Y (y.1,J))):=by
 cases q:ρ[t]? with
 |none=>rw[q]at h;cases h
 |some z=>
   cases b:ρ[i]? with
   |none=>
     rw[q,b]at h
     rcases z with _|⟨a,_|_⟩<;>cases h
   |some w=>
     rw[q,b]at h
     obtain⟨a,d,rfl,rfl⟩:∃a d,z=Y (a,J)/\w=Y (d,U):=by rcases z with _|⟨a,_|_⟩<;>rcases w with _|⟨d,_|_⟩<;>first|exact⟨_,_,W,W⟩|cases h
     refine ac λ_ c=>?_;obtain⟨x,h1,h⟩:=cA h;obtain⟨p,h2,h⟩:=cA h;obtain⟨y,h3,h⟩:=ee h;refine c ?_;exact⟨a,d,x,p,y,W,W,h1,h2,h3,h.symm⟩
def TN{pos:wo}(B:X.calm=U)(G:lK X.prog X.w X.K X.mg X.base yA k f fd ps (T4 X.K n (C j)))(hr:lJ k X.A)(hg:Gl X x)(hm:X.mg x=Y (.ref f))(hk:eY X.K (.ref f)=U)(hb:Binds X.K fd ps [])
  (hv:PE X e (se i))(ha:SA X C es xs)(hn:Z xs+1=n)(a5:(x == ("__debug__":aW))=J)(he:aO (e::es) X.env=(J,eval e X.env)::aO es X.env)(c0:(backTo cp (aO es X.env)).any (·.1)=J)
  (hgm:Gl X "max")(hmm:X.mg "max"=L)(hN:X.N.Nodup)(ht:X.N[t]?=Y y)(hx:Loc X.env.scope y)(hvt:PE X (.Name y p1) (se t))
  (h1:aO [.Name y p1,.Call (.Name x p) (e::es) [] cp] X.env=(J,eval (.Name y p1) X.env)::aO [.Call (.Name x p) (e::es) [] cp] X.env)(h2:aO [.Call (.Name x p) (e::es) [] cp] X.env=[(J,eval (.Call (.Name x p) (e::es) [] cp) X.env)])
  (hs:swapsWith (.Call (.Name "max" pm) [.Name y p1,.Call (.Name x p) (e::es) [] cp] [] pc) (Y (.Name y p2)) pos.line X.env=pure J)
  (hf:X.fn y=U\/X.env.scope.names.lookup y=Y .local) :
  SS X C (.Assign [.Name y p2] (.Call (.Name "max" pm) [.Name y p1,.Call (.Name x p) (e::es) [] cp] [] pc) pos) (.lmx t j i xs):=
 PS.imp (KJ hN ht hx (qY (v9 B) hgm hmm (by decide +kernel) (mN hvt (mN (FE G hr hg hm hk hb .nil K5 (mN hv ha he) a5 he c0) vA h2) h1) (by decide) (by decide) h1 (by rfl)) hs hf) λD σ H M=>by
  refine ac λ_ k0=>?_;obtain⟨Fz,H₀,F,ρ,out,h,R,P⟩:=M;obtain⟨ds,s,h⟩:=cA h;obtain⟨a,d,z,q,w,g,hi,Q,S,T,rfl⟩:=P9 h;obtain⟨U',s2,R2⟩:=R.freeze _;obtain⟨Ss,O⟩:=R2.ow;obtain⟨v,e1,e2,e3,e4⟩:=O.own i d hi;obtain⟨E,V,c3⟩:=R2.val t a g;refine k0 ?_;refine⟨E,V,v,e1,_,ds,s,U',R2.step.good,R2.yP,λvs F1 H1 b I=>?_⟩;have J':=O.moved b;refine ac λ_ k0=>?_;obtain⟨_,_,g2,_,g4⟩:=J'.own i d hi;refine k0 ?_;show T4 _ n _ _ H1 _ _;rw[aI];refine⟨by rw[bM,I.length,l8 s,hn],d,ds,z,_,_,v,vs,_,F1,W,Q,S,e2.mono b.hh,e3,b.good,λa m=>(g4 a m).1,I,λu F' H' S' st ru o nd hS=>?_⟩;have L':=(R2.moved b).abm J' hi e1 st o nd hS;exact ⟨_,_,_,T,F',L'.step.good,⟨E,_,W,(c3.mono b.ff).mono st.ff,u,_,W,ru,W⟩,λv' l r c r2 _=>P l r _ (((s2.trans b.ff).trans st.ff).trans c.ff) ((L'.moved c).yY r2)⟩
end
section
variable{K:Fg}
end
def Zw(C:Fs)(one:Bool)(B:List Nat)(body:List Sx)(i:Nat)(ρ:cY)(O:Dat):g_->Option Out
 | some (.lst ws,U)=>match O with
   | .int k=>(tL ws.length k).bind λj=>match ws[j]? with
     |some (.lst a)=>i7 (eV one B) (dZ C body) a (ρ.set i (Y (.lst (ws.set j .any),U)))
     |_=>L
   |_=>L
 |_=>L
def Sx.XH(one:Bool)(B:List Nat)(i:Nat)(ke:Ex)(body:List Sx):Sx:={ ex:=λC a=>(bf C ke (full a)).bind λy=>Zw C one B body i a y.1 (a[i]?).join }
def Qv(h:Zw C one B body i ρ g (ρ[i]?).join=Y out) :
  ∃ws k j es,g=.int k/\ρ[i]?=Y (Y (.lst ws,U))/\tL ws.length k=Y j/\ws[j]?=Y (.lst es)/\i7 (eV one B) (dZ C body) es (ρ.set i (Y (.lst (ws.set j .any),U)))=Y out:=by
 cases q:ρ[i]? with
 |none=>rw[q]at h;cases h
 |some z=>
   rw[q]at h
   obtain⟨ws,rfl⟩:∃ws,z=Y (.lst ws,U):=by
    obtain _|⟨d,b⟩:=z
    .cases h
    cases d<;>cases b<;>first|exact⟨_,W⟩|cases h
   cases g with
   |int k=>
       obtain⟨j,b,h⟩:=cA h
       cases a:ws[j]? with
       |none=>rw[a]at h;cases h
       |some e=>
         rw[a]at h
         cases e with
         |lst es=>exact⟨ws,k,j,es,W,W,b,a,h⟩
         |_=>cases h
   |_=>cases h
section
variable{K:Fg}
def Rl.part{ws:List Dat}(R:Rl K Fz H₀ F H σ ρ)(hi:ρ[i]?=Y (Y (.lst ws,U)))(a5:ws[j]?=Y e)(B:σ[i]?=Y (Y (.ref p))) :
  ∃v vs F',H p=Y (.lst vs)/\Z vs=Z ws/\vs[j]?=Y v/\cc F F'/\Rep K F' e v/\Rl K Fz H₀ F' H σ (ρ.set i (Y (.lst (ws.set j .any),U))):=by
 refine ac λ_ kq=>?_;obtain⟨Ss,O⟩:=R.ow;obtain⟨X,e1,e2,e3,E⟩:=O.own i _ hi;refine kq ?_;rw[B]at e1;refine ac λ_ kq=>?_;cases e1;obtain⟨c0,vs,S0,ep,hp,os,t⟩:=id e2;cases ep;obtain⟨v,u,r,x,N,P,rfl,Q,S,T⟩:=os.at a5;refine kq ?_;have G:∀a∈r,a∈Ss i:=λa m=>by rw[t];grind
 rw[t]at e3;have y:=a6.mp e3;have s:=jI y.2;have I:=jI s.2.1
 have b:∀a∈p::(u++x),a∈Ss i/\a∉r:=λa m=>by
  rw[t]
  rcases aw.mp m with rfl|m
  .exact⟨jL,λz=>y.1 (aq _ (aC _ z))⟩
  .rcases au.mp m with m|m
   .exact⟨jZ _ (aC _ m),λz=>s.2.2 a m (aC _ z)⟩
   .exact⟨jZ _ (aq _ (aq _ m)),λz=>I.2.2 a z m⟩
 have A:cc F (fz F H r):=qw R.step.good.sub;refine⟨v,vs,_,hp,os.length,N,A,P.lZ R.step.good _ λa m=>m,⟨uG R.step.good,R.step.ff.trans A,R.step.hh,λa o q n=>?_⟩,by simpa using R.len,λj' d' q=>?_,λd' J' q=>?_,λj'=>if j'=i then p::(u++x)else Ss j',λj' d' q=>?_,λj' k d1 d2 c U' L' a m=>?_⟩
 .rw[n9 λm=>?_]
  .exact R.step.un a o q n
  .rw[(E a (G a m)).2]at q;cases q
 .rcases dC q with⟨rfl,z⟩|⟨_,g⟩
  .cases z
  .obtain⟨w,C,D⟩:=R.val j' d' g;exact⟨w,C,D.mono A⟩
 .rcases dC q with⟨rfl,z⟩|⟨_,g⟩
  .exact R.keep _ J' hi
  .exact R.keep _ J' g
 .rcases dC q with⟨rfl,z⟩|⟨h,g⟩
  .cases z;rw[if_pos W];refine⟨_,B,⟨p,vs,_,W,hp,?_,W⟩,a6.mpr ⟨λz=>y.1 ?_,jy s.1 I.2.1 λa m z=>s.2.2 a m (aq _ z)⟩,λa m=>?_⟩
   .have V:ws.set j .any=ws.take j++([.any]++ws.drop (j+1)):=by
     rw[j5,if_pos (aN.mp a5).1];rfl
    rw[V];exact T.symm▸Q.append ((cZ.one (d:=.any) W).append S)
   .grind
   .rw[n9 (b a m).2];exact E a (b a m).1
  .rw[if_neg (cu h)];obtain⟨w,C,D,c3,M⟩:=O.own j' d' g;refine⟨w,C,D,c3,λa m=>⟨?_,(M a m).2⟩⟩;rw[n9 λz=>O.sep j' i d' _ (cu h) g hi a m (G a z)];exact(M a m).1
 .rcases dC U' with⟨rfl,_⟩|⟨h1,l⟩
  .rw[if_pos W]at m
   rcases dC L' with⟨z,_⟩|⟨h2,f⟩
   .exact absurd z c
   .rw[if_neg (cu h2)];exact O.sep _ k _ d2 c hi f a (b a m).1
  .rw[if_neg (cu h1)]at m
   rcases dC L' with⟨rfl,_⟩|⟨h2,f⟩
   .rw[if_pos W];exact λz=>O.sep j' _ d1 _ c l hi a m (b a z).1
   .rw[if_neg (cu h2)];exact O.sep j' k d1 d2 c l f a m
end
section
variable{X:Cx}
def TQ{iter:ba}(hp:pZ (aG X.prog X.w) X.A X.env X.xe)(hc:X.calm=U)(he:PE X iter (Nm (KC X.K) (se i) (gE X.K C ke)))(P:PG X tg g)(B:Su X.K one S g)(hb:Ja X C body xs)
  (hs:∀x,foldedSetIterable iter X.env x=pure x):SS X C (.For tg iter body [] pos) (.XH one S i ke xs):=
 PS.imp (DB hp hc (zj he) P hb hs) λD σ H c=>by
  refine ac λ_ N=>?_;obtain⟨Fz,H₀,F,ρ,T,h,R,k⟩:=c;obtain⟨⟨G,I⟩,h1,h⟩:=cA h;obtain⟨ws,n,j,es,d,hi,e,f,h⟩:=Qv h;obtain⟨Ss,O⟩:=R.ow;obtain⟨J',Q,V,_⟩:=O.own i _ hi;obtain⟨p,vs,_,rfl,m,os,_⟩:=id V;refine N ?_;refine⟨_,Q,R.ask h1 λL' F1 M a _ _ hk=>?_⟩;refine ac λ_ N=>?_;obtain⟨v,us,o,q,r,u,y,z,b⟩:=(R.moved a).part hi f Q;obtain⟨l,ys,rfl,t,E⟩:=id z;refine N ?_;refine⟨p,us,n,_,W,hk n d,ng.of q,by unfold uK;rwa[r,e],l,W,⟨ys,b.step.good.sub.seq t⟩,pq B (a.ff.trans y) b (λo s=>s) (sQ t E) h k⟩
end
end M
namespace L2
open PySem PySem.Spec PyProof.Rows
section
end
section
end
end L2
namespace M
open PySem PySem.Spec PyProof.Rows L2
section
end
noncomputable def WV:Dat×Bool->Dat×Bool->g_
 |(.lst a,U),(.lst b,U)=>if Z a+Z b<=aE then Y (.lst (a++b),U)else L
 |_,_=>L
def Ex.cat(a b:Ex):Ex:=⟨a.fv++b.fv,λC c=>(bf C a c).bind λx=>(bf C b c).bind λy=>WV x y⟩
def QK(h:WV x y=Y r):∃xs g,x=(.lst xs,U)/\y=(.lst g,U)/\Z xs+Z g<=aE/\r=(.lst (xs++g),U):=by
 unfold WV at h;split at h
 .simp_all
 .cases h
def YC(K:Fg):R2:=λx y H Q=>∃c d F a b,Good F H/\Rep K F (.lst c) x/\Rep K F (.lst d) y/\kL K H (.lst c) x a/\kL K H (.lst d) y b/\Z c+Z d<=aE/\
 ∀p f e,H p=L->Step F H f e->Rep K f (.lst (c++d)) (.ref p)->kL K e (.lst (c++d)) (.ref p) (p::(a.tail++b.tail))->Q (.ref p) e
section
def Px:j8 X (binaryOp .Add) (YC X.K):=by
 intro h_ s σ H x y v u Q I j m h;refine ac λ_ A=>?_;obtain⟨E,G,F,o,w,g,⟨l,vs,rfl,t,r⟩,⟨q,us,rfl,B,f⟩,⟨M,a,c,C,hl,os,rfl⟩,⟨z,b,d,D,i,e,rfl⟩,n,k⟩:=h;cases C;cases D;obtain rfl:=I.pv (ng.of hl) (g.sub.seq t);obtain rfl:=I.pv (ng.of i) (g.sub.seq B);refine A ?_;exact Vf h_ s σ H _ _ v u Q I j m ⟨l,q,a,b,W,W,hl,i,by rwa[r.length,f.length],λp hp=>k p _ _ hp (Step.alloc g hp) ⟨p,_,W,.inl (.inl cW),(r.append f).mono (cc.upd (g.sub.free hp))⟩ ⟨p,_,_,W,cW,(os.append e).mono (cc.upd hp),W⟩⟩
def Uy(ha:SE X C a xa)(hb:SE X C b xb):SE X C (.BinOp a .Add b pos) (.cat xa xb):=
 PE.imp (RG Px ha hb) λσ H Q r=>by
  refine ac λ_ O=>?_;obtain⟨P,d,fr,h,F,g,R,k⟩:=r;obtain⟨L',h1,h⟩:=cA h;obtain⟨M,h2,h⟩:=cA h;obtain⟨V,ys,rfl,rfl,s,e⟩:=QK h;obtain⟨rfl,rfl⟩:=Prod.mk.inj e;refine O ?_;refine⟨P,_,_,h1,F,g,R,λv F1 N f t x=>⟨P,_,_,h2,F1,f.good,R.mono f.ff,λw y S c A B=>?_⟩⟩;obtain⟨j,D,e1,l⟩:=x W;obtain⟨n,E,T,q⟩:=B W
  have d1:∀a∈j,S a≠L:=λa m z=>by
   obtain⟨u,i,_⟩:=l.ud _ a m;have:=c.hh _ _ i;rw[z]at this;cases this
  have d12:∀a∈j,a∉n:=λa m m2=>by
   obtain⟨u,i,_⟩:=l.ud _ a m;rw[T a m2]at i;cases i
  have d2:∀a∈n,S a≠L:=λa m z=>by
   obtain⟨u,i,_⟩:=q.ud _ a m;rw[z]at i;cases i
  refine⟨V,ys,y,j,n,c.good,t.mono c.ff,A,l.mono c.hh,q,s,λp G I hp o J' K=>k _ G I ((f.trans c).trans o) J' λ_=>⟨_,?_,?_,K⟩⟩
  .refine a6.mpr ⟨λm=>?_,jy ((JD _).nodup D) ((JD _).nodup E) λa m m2=>d12 a (gu m) (gu m2)⟩
   rcases au.mp m with m|m
   .exact d1 p (gu m) hp
   .exact d2 p (gu m) hp
  .intro a m
   rcases aw.mp m with rfl|m
   .exact(f.hh.trans c.hh).free hp
   .rcases au.mp m with m|m
    .exact e1 a (gu m)
    .exact f.hh.free (T a (gu m))
end
end M
namespace L2
open PySem PySem.Spec PyProof.Rows
noncomputable def Itd(lo:Int)(n:Nat):It:=⟨λi _=>i<n,λi H x a=>a=H/\x=.int (lo - i),λi _=>n<=i⟩
def Ho{K:aP}(it:aL)(lo:Int)(n:Nat):Turn P w K tg (Itd lo n) [it] it (λi h=>IsRangeIter h it (lo+(i:Nat) * (-1)) ((n:Int) - (i:Nat)) (-1)) where
 mem:=by simp
 obj:=λi h st b hb=>by
  have e:b=it:=by simpa using hb
  subst e
  exact⟨_,st,λv z=>by
   have u:Data.fields _=Data.cell v:=z
   cases u⟩
 keep:=λi h D st k=>k it (by simp) _ st
 item:=by
  intro X c d f hc i h_ s σ H E I hf st g;subst c d f;obtain⟨j,l,x,m,p,q⟩:=hf it (by simp);have C:=Walks.range (prog:=X.prog) (w:=X.w) (I.ok.hd hc) it lo (-1) n;refine C.item i s _ _ g st λv D r y a F=>?_;obtain⟨t,rfl⟩:=y;have A:Inv X h_ σ H { s with heap:=D,toks:=r }:=I.turned (λb o hb e=>F b o (by simpa using hb) e) j l m p q;refine⟨_,W,vT (s:={ s with heap:=D,toks:=r }) (n:="range_iterator") a W rfl bR ⟨.int (lo - i),H,A,⟨t,?_⟩,⟨W,W⟩,a,λb hb=>(hf b hb).1⟩⟩
  congr 1
  exact Rn (iw0) (iw0)
 done:=by
  intro X c d f hc i h_ s σ H E I hf st g;subst c d f;obtain⟨j,l,x,m,p,q⟩:=hf it (by simp);exact Jr (I.ok.hd hc) st (by have:n<=i:=g;omega) λD B=>⟨W,I.turned (t':=s.toks) (λb o hb e=>B b o hb e) j l m p q⟩
 self:=λ_ _ _ _ _ st h=>Js st h
def qc(a b:Int):jk a b (-1)=if a > b then a - b else 0:=by
 unfold jk;simp
def Hy(ha:-1000000<=a)(B:a<=1000000)(hb:-1000000<=b)(O:b<=1000000):wx a b (-1)=U:=by
 unfold wx;rw[qc];simp only[Builtin.Range.rangeFitsLong,ag,lM,decide_eq_true_eq,beq_iff_eq,show¬((-1) > 0) by decide,if_false];split<;>omega
section
def Zo(B:TA):TI:=λσ H R=>B σ H λvs a=>∃i j:Int,vs=[.int i,.int j,.int (-1)]/\(-1000000<=i/\i<=1000000/\-1000000<=j/\j<=1000000)/\R (Itd i (i - j).toNat) a
def HX(O:Gl X "range")(C:X.mg "range"=L)(ha:PA X [a,b,c] F)(hs:aO [a,b,c] X.env=[(J,eval a X.env),(J,eval b X.env),(J,eval c X.env)])(B:aO [b,c] X.env=[(J,eval b X.env),(J,eval c X.env)]) :
  PI X tg (.Call (.Name "range" p) [a,b,c] [] pos) (Zo F):=by
 intro h_ s σ H R I h;refine Call_ (lp I O C boot_range (cO (iN (ha _ h_ s σ H _ I h) λus s1 y=>?_) (by rw[hs,B]) (by rw[B];rfl)));obtain⟨vs,j,k,l,f⟩:=y;obtain⟨lo,hi,rfl,⟨f,m,n,u⟩,q⟩:=f;cases l with
 |cons r rr=>
   cases rr with
   |cons v rr=>
     cases rr with
     |cons g rr=>
       cases rr;obtain⟨t,rfl⟩:=r;obtain⟨w,rfl⟩:=v;obtain⟨d,rfl⟩:=g;refine call_range_3 bR ?_ (.inl (yL bR));refine wpAny_pyIter_range (Rf ..) (Hy f m n u) ?_;have i:Inv X h_ σ j { s1 with heap:=s1.heap.push { cls:=.type "range",data:=.fields #[.int lo t,.int hi w,.int (-1) d] },toks:=s1.toks }:=k.kept λb o e=>hp9 _ e
       refine⟨(s1.heap.push { cls:=.type _,data:=.fields #[.int lo t,.int hi w,.int _ d] }).objs.size,[(s1.heap.push { cls:=.type _,data:=.fields #[.int lo t,.int hi w,.int _ d] }).objs.size],_,_,j,W,
        i.kept λb o e=>hp9 _ e,Ho _ lo _,?_,λb hb=>?_,q⟩
       .have x:lo+((0:Nat)) * (-1)=lo:=by simp
        have z:(((lo - hi).toNat)) - ((0:Nat))=jk lo hi (-1):=by
         rw[qc];split<;>omega
        rw[x,z];exact aH _ W
       .have e:b=(s1.heap.push { cls:=.type "range",data:=.fields #[.int lo t,.int hi w,.int (-1) d] }).objs.size:=by simpa using hb
        subst e;exact i.w5 (ak _) (i.hok.fresh (ak _))
end
end L2
namespace M
open PySem PySem.Spec PyProof.Rows L2
def Iy{K:Fg}{F1:Hp}{lo:Int}:kD K F1 (Itd lo n) ((aQ n).map λk:Nat=>Dat.int (lo - k)):=λF H g s=>by
 refine⟨λi d hd=>?_,λi hi=>(by simpa using hi:n<=i)⟩;rw[aR]at hd
 have hi:i<n:=by
  by_cases hi:i<n
  .exact hi
  simp_all
 rw[af (by simpa using hi)]at hd;simp only[rP,c7,ie]at hd;subst hd;refine⟨hi,λx a y=>?_⟩;obtain⟨rfl,rfl⟩:=y;exact⟨F,Step.refl g,W⟩
set_option tactic.hygienic true in
def OB(O:Gl X "range")(I:X.mg "range"=L)(ha:SA X C [a,b,c] [P,S,xc])(hs:aO [a,b,c] X.env=[(J,eval a X.env),(J,eval b X.env),(J,eval c X.env)])(B:aO [b,c] X.env=[(J,eval b X.env),(J,eval c X.env)]) :
  SI X C tg (.Call (.Name "range" p) [a,b,c] [] pos) (.rng [P,S,xc]):=
 PI.imp (HX O I ha hs B) λσ H R l=>by
  obtain⟨x,items,F,hi,g,m,k⟩:=l;obtain⟨y,h1,h2⟩:=cA hi;refine⟨x,y,h1,F,g,m,λvs F1 n st r=>?_⟩;unfold Dy at h2;split at h2
  .have:=l8 h1;cases this
  .rename_i i j c;split at h2
   .rename_i d;obtain⟨rfl,d⟩:=d;cases h2;obtain⟨v,w,rfl,o,q,s,rfl,e,t,u,rfl,f,h⟩:=r;cases o;cases e;cases f;cases h;exact⟨i,j,W,d,k _ F1 n st Iy⟩
   .cases h2
  .cases h2
end M
namespace L2
open PySem PySem.Spec PyProof.Rows
noncomputable def Itv(K:aP)(a:aL)(n:Nat):It:=
 ⟨λi H=>i<n/\∃b,tZ K H a b/\Z b=n,λi H x c=>c=H/\∀b,tZ K H a b->b[n - 1 - i]?=Y x,λi H=>n<=i⟩
def JN{K:aP}(a it:aL)(n:Nat):Turn P w K tg (Itv K a n) [it] it (λi h=>i<=n/\h.get? it=Y (OU a ((n:Int) - 1 - (i:Nat)))) where
 mem:=by simp
 obj:=λi h st b hb=>by
  have e:b=it:=by simpa using hb
  subst e;exact⟨_,st.2,λv z=>nomatch z⟩
 keep:=λi h h' st k=>⟨st.1,k it (by simp) _ st.2⟩
 item:=by
  intro X c d f hc i h_ s σ H E I hf st j;subst c d f;obtain⟨hi,xs,C,D⟩:=j;obtain⟨its,F,p,L'⟩:=I.tuple C;have hl:=F.length;obtain⟨x,G⟩:∃x,xs[n - 1 - i]?=Y x:=⟨_,af (qt (oW (n - 1) i) (wS n 1 (iF hi)) (ae D.symm))⟩
  obtain⟨u,M,N⟩:=F.get G;obtain⟨l,m,O,q,r,t⟩:=hf it (by simp);have e:(n:Int) - 1 - (i:Nat)=((n - 1 - i:Nat):Int):=by omega
  have y:=st.2;rw[e]at y;have R:n - 1 - i<its.toArray.size:=by simp;exact Nr (oW (n - 1) i) (wS n 1 (iF hi)) (ae D.symm) (ae hl)
  have B:its.toArray[n - 1 - i]=u:=by have:=aN.mp M;simpa using this.2
  refine OS (its:=its.toArray) (by simp;exact aa (ae hl.symm) L') R p y λh' J' g S=>?_;rw[B];have e2:((n - 1 - i:Nat):Int) - 1=(n:Int) - 1 - ((i+1:Nat):Int):=Rn (Jl (oZ e.symm)) (Jl (oZ e));rw[e2]at g;have T:Inv X h_ σ H { s with heap:=h',toks:=J' }:=I.turned (λb o hb e=>S.extBut _ _ hb e) l m q r t;exact⟨u,W,vT (s:={ s with heap:=h',toks:=J' }) (n:="reversed") g W rfl bR ⟨x,H,T,N,⟨W,λys U'=>by rw[I.pP U' C];exact G⟩,⟨hi,g⟩,λb hb=>(hf b hb).1⟩⟩
 done:=by
  intro X c d f hc i h_ s σ H E I hf st j;subst c d f;obtain⟨l,m,O,q,r,t⟩:=hf it (by simp);have y:=st.2;rw[show(n:Int) - 1 - (i:Nat)=-1 by have:n<=i:=j;have:=st.1;omega]at y;exact UL (I.ok.hd hc) y λh' V=>⟨W,I.turned (t':=s.toks) (λb o hb e=>V b o hb e) l m q r t⟩
 self:=λA i s Q E st k=>by
  refine wI (vm st.2) tG (bO tG (vm st.2) B4 ?_ (Cs _));exact wu9 ⟨_,W,"reversed",_,vm st.2,kP.lookup,k⟩
section
variable{p:wo}{ta:TA}
def aby(K:aP)(ta:TA):TI:=λσ H R=>ta σ H λvs a=>∃p b,vs=[.ref p]/\tZ K a p b/\R (Itv K p b.length) a
def US(B:Gl X "reversed")(O:X.mg "reversed"=L)(ha:PA X [a] ta)(hs:aO [a] X.env=[(J,eval a X.env)]):PI X tg (.Call (.Name "reversed" p) [a] [] pos) (aby X.K ta):=by
 intro h_ s σ H R I h;refine eK (lp I B O (by decide +kernel:bootBuiltins _=Y (.type "reversed")) (cO (iN (ha _ h_ s σ H _ I h) λus s1 v=>?_) (by rw[hs];rfl) W));obtain⟨vs,d,c,f,q,m,e,g,k⟩:=v;subst e;obtain⟨u,rfl,i⟩:=vals1 f;cases i;obtain⟨n,j,ht,hl⟩:=c.tuple g;rw[iR]at hl;have el:=j.length;refine OT ht (by simp;omega) λl=>?_;have T:=JN (P:=X.prog) (w:=X.w) (K:=X.K) (tg:=tg) q s1.heap.objs.size m.length;have st:(0<=Z m/\(s1.heap.push (OU q _)).get? _=Y (OU q ((m.length) - 1 - ((0:Nat))))):=⟨aK _,by rw[show(m.length) - 1 - ((0:Nat))=((n.toArray.size):Int) - 1 by simp_all];exact aH _ W⟩
 refine T.self _ 0 _ _ _ st ⟨_,_,_,_,d,W,c.kept λb o e=>hp9 _ e,T,st,λb hb=>?_,k⟩;have e:b=s1.heap.objs.size:=by simpa using hb
 subst e;exact c.w5 (ak _) (c.hok.fresh (ak _))
end
end L2
namespace M
open PySem PySem.Spec PyProof.Rows L2
def LP{K:Fg}{F1:Hp}(h:Tq K F1 a vs)(r:cX K F1 ds vs):kD K F1 (Itv K a vs.length) ds.reverse:=λF H g s=>by
 have b:=((h.mono s).mono g.sub).sq;refine⟨λi d hd=>?_,λi hi=>?_⟩
 .have hi:i<Z ds:=by
   by_cases z:i<Z ds
   .exact z
   .rw[pN (by simpa using z)]at hd;cases hd
  rw[C5 hi]at hd;obtain⟨v,c,e⟩:=r.get hd;have hl:=r.length;refine⟨⟨aa hi (ae hl.symm),vs,b,W⟩,λx f y=>?_⟩;obtain⟨rfl,y⟩:=y;have:=y vs b;rw[hl,c]at this;cases this;exact⟨F,Step.refl g,e.mono s⟩
 .show (Z vs)<=i;rw[r.length];simpa using hi
def Ub(B:Gl X "reversed")(O:X.mg "reversed"=L)(ha:SA X C [a] [P])(hs:aO [a] X.env=[(J,eval a X.env)]) :
  SI X C tg (.Call (.Name "reversed" p) [a] [] pos) (.rev P):=λh_ s σ H R I i=>by
 refine ac λ_ h=>?_;obtain⟨j,items,F,hi,g,c,k⟩:=i;obtain⟨⟨d,fr⟩,h1,h2⟩:=cA hi
 refine h ?_;cases d with
 |tup l=>
   cases h2;refine US B O ha hs h_ s σ H R I ⟨j,[.tup l],by simp only[lI,h1,bG,c7],F,g,c,λvs F1 e st r=>?_⟩;refine ac λ_ h=>?_;obtain⟨v,w,rfl,⟨q,b,rfl,t,f⟩,m⟩:=r;cases m;refine h ?_;exact⟨q,b,W,(t.mono st.good.sub).sq,k _ F1 e st (LP t f)⟩
 |_=>cases h2
section
variable{X:Cx}
def Ke(j n:Nat)(G:lK X.prog X.w X.K X.mg X.base yA k f fd ps (oB X.K n (C j)))(O:lJ k X.A)(I:Gl X x)(P:X.mg x=Y (.ref f))(hk:eY X.K (.ref f)=U)(hb:Binds X.K fd ps [])
  (S:n=0)(B:(x == ("__debug__":aW))=J):SE X C (.Call (.Name x p) [] [] pos) (.call j []):=
 PE.imp (K4 G O I P hk hb .nil K5 B) λσ H Q h=>by
  refine ac λ_ a=>?_;obtain⟨b,c,h1,F,g,R,k⟩:=(pW (xs:=[]) (x:=.call j []) (λb d fr h=>cA h) σ H Q h);cases h1;refine a ?_;exact⟨by rw[S];rfl,k [] F H (Step.refl g) W⟩
end
structure Sg where
 fns:List (aW×Nat)
 con:List (aW×Dat)
structure Sc where
 N:List aW
 nm:List (aW×k8)
 top:Bool
noncomputable def l9:List aW:=["len","range","zip","all","any","isinstance","list","tuple","reversed","int","bool","str","sorted","set","min","max","enumerate","sum","dict","abs"]
noncomputable def p7(x:aW):List aW->Option Nat
 |[]=>L
 |y::r=>if y=x then Y 0 else(p7 x r).map (·+ 1)
set_option tactic.hygienic true
theorem fZ:∀{N:List aW}{i:Nat},p7 x N=Y i->N[i]?=Y x
 |[],_,h=>by cases h
 |y::r,i,h=>by
   have h:(if y=x then Y 0 else(p7 x r).map (·+ 1))=Y i:=h;split at h
   .cases h;rename_i e;subst e;rfl
   .obtain⟨j,h1,rfl⟩:=ee h;exact(fu ..).trans (fZ h1)
noncomputable def Ea(x:aW):Nat->List (aW×Nat)->Option (Nat×Nat)
 |_,[]=>L
 |k,y::r=>if y.1=x then Y (k,y.2)else Ea x (k+1) r
theorem vY:∀{g:List (aW×Nat)}{k j n:Nat},Ea x k g=Y (j,n)->∃i,j=k+i/\g[i]?=Y (x,n)
 |[],_,_,_,h=>by cases h
 |y::r,k,j,n,h=>by
   have h:(if y.1=x then Y (k,y.2)else Ea x (k+1) r)=Y (j,n):=h;split at h
   .cases h;rename_i e;subst e;exact⟨0,W,W⟩
   .obtain⟨i,a,b⟩:=vY h;exact⟨i+1,aD (iF (ae a)) (iF (ae a.symm)),(fu ..).trans b⟩
set_option tactic.hygienic false
noncomputable def jo(x:aW):Bool:=!(x == ("__debug__":aW)) && !(x == ("__classdict__":aW)) && !(x == ("__name__":aW))
noncomputable def aax:Option k8->Bool
 |some .local=>U
 |some .cell=>U
 |some .free=>U
 |_=>J
noncomputable def abj:Option k8->Bool
 |some .local=>U
 |some .cell=>U
 |_=>J
def t8(S:Sc)(x:aW):Bool:=aax (S.nm.lookup x)
def wY(S:Sc)(x:aW):Bool:=abj (S.nm.lookup x)
noncomputable def Gm(S:Sc)(x:aW):Bool:=S.nm.lookup x == Y .globalImplicit
noncomputable def du:ba->Bool
 |.Starred _ _=>J
 |_=>U
noncomputable def sy:ba->Bool
 |.Set _ _ _=>J
 |_=>U
noncomputable def rf:ba->Bool
 |.IfExp _ _ _ _=>J
 |_=>U
noncomputable def W8:CZ->Option Xx
 |.Add=>Y .add
 |.Sub=>Y .sub
 |.Mult=>Y .mul
 |.FloorDiv=>Y .fdiv
 |.Mod=>Y .mod
 |.RShift=>Y .shr
 |.BitAnd=>Y .band
 |_=>L
noncomputable def ZQ:CmpOp->Option Z8
 |.Eq=>Y .eq
 |.NotEq=>Y .ne
 |.Lt=>Y .lt
 |.Gt=>Y .gt
 |.Is=>Y .isn
 |.IsNot=>Y .nisn
 |.In=>Y .isin
 |.NotIn=>Y .nin
 |_=>L
noncomputable def cTy(x:aW):Option Ty:=
 if x="int" then Y .int else if x="bool" then Y .bool else if x="str" then Y .str else if x="tuple" then Y .tuple else if x="list" then Y .list else L
noncomputable def W7(x:aW):Option Z9:=
 if x="len" then Y .len else if x="tuple" then Y .tuple else if x="int" then Y .int else if x="str" then Y .str else if x="sorted" then Y .sorted else L
noncomputable def A5(S:Sc)(sc:m9):List (aW×k8):=sc.names.map λp=>if(p.2 == eG && S.nm.lookup p.1 == Y .cell)then(p.1,mH)else p
noncomputable def i5:ba->Option aW
 |.Name x _=>Y x
 |_=>L
def fh(h:i5 e=Y x):∃p,e=.Name x p:=by
 unfold i5 at h;split at h
 .cases h;exact⟨_,W⟩
 .cases h
def namesOf:List ba->Option (List aW)
 |[]=>Y []
 |e::r=>(i5 e).bind λt=>(namesOf r).map λa=>t::a
def pQ:ba->Option (Bool×List aW)
 |.Name t _=>Y (U,[t])
 |.Tuple b _ _=>(namesOf b).map λa=>(J,a)
 |_=>L
noncomputable def freeOf(sc:m9):List aW:=sc.names.filterMap λp=>if p.2=.free then Y p.1 else L
def tW(N:List aW):List aW->Option (List Nat)
 |[]=>Y []
 |x::r=>(p7 x N).bind λi=>(tW N r).map λis=>i::is
noncomputable def MI(S:Sc)(sc:m9)(g B:List aW):Bool:=
 decide (sc.kind=.function) && sc.names.all (λy=>!decide (y.2=.cell)) && sc.names.all (λy=>!decide (y.2=.local) || decide (sc.names.lookup y.1=Y .local))
  && sc.names.all (λy=>!decide (y.2=.free) || decide (S.nm.lookup y.1=Y .cell) || decide (S.nm.lookup y.1=Y .free))
  && B.all (λx=>(decide (S.nm.lookup x=Y .cell) || decide (S.nm.lookup x=Y .free)) && decide (sc.names.lookup x=Y .free))
  && decide (g++B).Nodup && g.all λx=>decide (sc.names.lookup x=Y .local)
def inner(S:Sc)(sc:m9)(g B:List aW):Sc:=⟨g++B,A5 S sc,J⟩
noncomputable def BS(f:Ex->Ex->Ex):List Ex->Option Ex
 |[]=>L
 | x::r=>match r with
   |[]=>Y x
   |_::_=>(BS f r).map (f x)
def t9(f:ba->Option Ex):List ba->Option (List Ex)
 |[]=>Y []
 |e::r=>if du e=U then(f e).bind λx=>(t9 f r).map λa=>x::a else L
noncomputable def jY{α:Type}:List α->Option α
 |[]=>L
 |a::r=>if r.isEmpty=U then Y a else L
def fL (h:jY l=Y a):l=[a]:=by
 match l,h with
 |[b],h=>cases h;rfl
def Bf{α:Type}:List α->Option (α×α)
 |[]=>L
 |a::r=>(jY r).map λb=>(a,b)
def qZ (h:Bf l=Y p):l=[p.1,p.2]:=by
 cases l with
 |nil=>cases h
 |cons a r=>
   obtain⟨b,h1,rfl⟩:=ee h;rw[fL h1]
structure Ca where
 fn:ba
 args:List ba
 kws:List Keyword
 pos:wo
noncomputable def QM:ba->Option Ca
 |.Call fn args kws p=>Y ⟨fn,args,kws,p⟩
 |_=>L
def zT(h:QM e=Y c):e=.Call c.fn c.args c.kws c.pos:=by
 unfold QM at h;split at h
 .cases h;rfl
 .cases h
def sY(e:ba):Option (aW×List ba):=(QM e).bind λc=>if c.kws.isEmpty=U then(i5 c.fn).map λx=>(x,c.args)else L
set_option tactic.hygienic true in
def nF(h:sY e=Y (x,args)):∃p q,e=.Call (.Name x p) args [] q:=by
 obtain⟨⟨fn,as,kws,q⟩,h0,h1⟩:=cA h;obtain rfl:=zT h0;split at h1
 .rename_i hk;obtain⟨y,h2,h3⟩:=ee h1;cases h3;obtain⟨p,a⟩:=fh h2
  grind
 .cases h1
noncomputable def isTup:ba->Bool
 |.Tuple _ _ _=>U
 |_=>J
def BC(h:isTup e=U):∃es k p,e=.Tuple es k p:=by
 unfold isTup at h;split at h
 .exact⟨_,_,_,W⟩
 .cases h
def RH{α:Type}:List α->Option (α×α×α)
 |[]=>L
 |a::r=>(Bf r).map λb=>(a,b)
def Lb (h:RH l=Y p):l=[p.1,p.2.1,p.2.2]:=by
 cases l with
 |nil=>cases h
 |cons a r=>
   obtain⟨b,h1,rfl⟩:=ee h;rw[qZ h1]
def ZO(S:Sc)(f:ba->Option Ex)(tg:ba)(x:aW)(args:List ba):Option Iw:=
 if Gm S x=U then(t9 f args).bind λb=>
  if x="range" then(match jY b with
   |some a=>Y (.rng [a])
   |none=>(RH b).map λt=>.rng [t.1,t.2.1,t.2.2])
  else if(decide (x="zip") && isTup tg)=U then(Bf b).map λp=>.zip [p.1,p.2]
  else if(decide (x="enumerate") && isTup tg)=U then(jY b).map .enu else if x="reversed" then(jY b).map .rev else L
 else L
noncomputable def Wf(x:aW):Bool:=decide (x="range") || decide (x="zip") || decide (x="enumerate") || decide (x="reversed")
def LQ(e:ba):Option (aW×List ba):=(sY e).bind λc=>if Wf c.1=U then Y c else L
def cI(S:Sc)(f:ba->Option Ex)(tg iter:ba):Option Iw:=match LQ iter with
 |some c=>ZO S f tg c.1 c.2
 |none=>(f iter).map .itv
def abJ(f:ba->Option Ex):List ba->Option (List Ex)
 |[]=>Y []
 |c::r=>if(r.isEmpty && rf c)=U then(f c).map λx=>[x]else L
noncomputable def MP(f:ba->Option Ex):Option ba->Option (Option Ex)
 |none=>Y L
 |some e=>(f e).map Y
noncomputable def W3:Const->Option Dat
 |.int i=>Y (.int i)
 |.bool b=>Y (.bl b)
 |.none=>Y .non
 |.str x=>Y (.str x)
 |_=>L
def Sj(G:Sg)(S:Sc)(x:aW):Option Ex:=if jo x=U then(if t8 S x=U then(p7 x S.N).map .v else if Gm S x=U then(G.con.lookup x).map .con else L)else L
def cUn(f:ba->Option Ex)(a:ba):UnaryOp->Option Ex
 |.USub=>(f a).map .neg
 |.Not=>if rf a=U then(f a).map .not else L
 |_=>L
def W5(f:ba->Option Ex)(es:List ba):BoolOp->Option Ex
 |.And=>(t9 f es).bind (BS .and)
 |.Or=>(t9 f es).bind (BS .or)
def Sn(f:ba->Option Ex)(a:ba)(B:List CmpOp)(bs:List ba):Option Ex:=(f a).bind λc=>match jY B with
 |some e=>(jY bs).bind λb=>if sy b=U then(ZQ e).bind λo=>(f b).map λd=>.cmp o c d else L
 |none=>L
def MT(f:ba->Option Ex)(g:List (Option ba))(vs:List ba):Option Ex:=
 if(g.isEmpty && vs.isEmpty)=U then Y .m7
 else L
noncomputable def kI:ba->Option (Option ba×Option ba×Option ba)
 |.Slice lo hi st _=>Y (lo,hi,st)
 |_=>L
def ZL(f:ba->Option Ex)(a b:ba):Option Ex:=(f a).bind λc=>match kI b with
 |some t=>if t.2.2.isNone=U then(MP f t.1).bind λd=>(MP f t.2.1).map λe=>.sl c d e else L
 |none=>(f b).map λg=>.ix c g
def W2(S:Sc)(f:ba->Option Ex)(o:ba)(args:List ba):Option Ex:=(jY args).bind λe=>(sY e).bind λc=>(jY c.2).bind λa=>if(decide (c.1="reversed") && baseOk o && Gm S "reversed" && du a)=U then(f o).bind λb=>(f a).map λd=>.jrv b d else L
def Sk(G:Sg)(S:Sc)(f:ba->Option Ex)(o:ba)(m:aW)(ap:wo)(args:List ba)(cp:wo):Option Ex:=
 if(ap.endLine == cp.line)=U then match(if m="join" then W2 S f o args else L)with
 |some z=>Y z
 |none=>(t9 f args).bind λc=>if baseOk o=U then(f o).bind λa=>(WY m args.length).map λb=>.i6 b a c else L
 else L
def abI(S:Sc)(f:ba->Option Ex)(args:List ba):Option Ex:=(Bf args).bind λp=>(i5 p.2).bind λt=>
 if(Gm S "isinstance" && Gm S t && du p.1)=U then(cTy t).bind λty=>(f p.1).map λa=>.blt (.isi ty) [a]else L
def WX(S:Sc)(f:ba->Option Ex)(x y:aW)(b:Z9)(args:List ba):Option Ex:=(jY args).bind λe=>(sY e).bind λc=>if c.1=y then(jY c.2).bind λa=>
 if(Gm S x && Gm S y && du a)=U then(f a).map λd=>.blt b [d]else L else L
def ZP(G:Sg)(S:Sc)(x:aW)(xs:List Ex):Option Ex:=
 if(jo x && Gm S x)=U then match Ea x 0 G.fns with
  |some a=>if Z xs=a.2 then Y (.call a.1 xs)else L
  | none=>match jY xs with
    |some c=>(W7 x).map λb=>.blt b [c]
    |none=>(Bf xs).bind λp=>if x="max" then Y (.bin .mx p.1 p.2)else if x="min" then Y (.bin .mn p.1 p.2)else L
 else L
def Er(G:Sg)(S:Sc)(f:ba->Option Ex)(x:aW)(args:List ba):Option Ex:=
 if x="isinstance" then abI S f args else match(if x="sorted" then WX S f "sorted" "set" .sset args else L)with
  |some z=>Y z
  |none=>(t9 f args).bind (ZP G S x)
noncomputable def wg:ba->Option (ba×aW×wo)
 |.Attribute o m ap=>Y (o,m,ap)
 |_=>L
def sZ(h:wg e=Y t):e=.Attribute t.1 t.2.1 t.2.2:=by
 unfold wg at h;split at h
 .cases h;rfl
 .cases h
def GP(G:Sg)(S:Sc)(f:ba->Option Ex)(fn:ba)(args:List ba)(cp:wo):Option Ex:=match wg fn with
 |some t=>Sk G S f t.1 t.2.1 t.2.2 args cp
 |none=>(i5 fn).bind λx=>Er G S f x args
structure Gn where
 tg:ba
 it:ba
 ifs:List ba
def R7(B:List Comprehension):Option Gn:=(jY B).bind λg=>if g.is_async=0 then Y ⟨g.target,g.iter,g.ifs⟩else L
def Sm(S:Sc)(f:Sc->ba->Option Ex)(elt:ba)(g:Gn)(sc:m9):Option Ex:=(pQ g.tg).bind λt=>(tW S.N (freeOf sc)).bind λcaps=>
 if(MI S sc t.2 (freeOf sc) && sy g.it)=U then
  (cI S (f S) g.tg g.it).bind λit=>(abJ (f (inner S sc t.2 (freeOf sc))) g.ifs).bind λa=>(f (inner S sc t.2 (freeOf sc)) elt).map λxe=>.comp t.2.length t.1 caps it a xe
 else L
noncomputable def LV:ba->Bool
 |.List _ _=>U
 |.ListComp _ _ _ _=>U
 |_=>J
noncomputable def LW:CZ->Bool
 |.Add=>U
 |_=>J
def IB(h:LW op=U):op=.Add:=by cases op<;>first|rfl|cases h
def QL(g:CZ)(a b:ba):Bool:=LW g && LV a && LV b
noncomputable def LU:ba->Bool
 | .Constant c _ _=>match c with
   |.none=>U
   |_=>J
 |_=>J
def IA(h:LU e=U):∃c p,e=.Constant .none c p:=by
 unfold LU at h;split at h
 .split at h
  .exact⟨_,_,W⟩
  .cases h
 .cases h
noncomputable def DY:ba->Bool
 | .Constant c _ _=>match c with
   |.int _=>U
   |_=>J
 |_=>J
def WZ(S:Sc)(f:ba->Option Ex)(fn:ba)(args:List ba)(kws:List Keyword):Option Ex:=(i5 fn).bind λx=>(jY args).bind λa=>(jY kws).bind λk=>
 if(decide (x="min") && Gm S x && du a && LU k.value && decide (k.arg=Y "default"))=U then(f a).map .mnd else L
def cE(G:Sg):Nat->Sc->ba->Option Ex
 |0,_,_=>L
 | n+1,S,e=>match e with
   |.Constant c _ _=>(W3 c).map .con
   |.Name x _=>Sj G S x
   |.BinOp a k b _=>if QL k a b=U then(cE G n S a).bind λd=>(cE G n S b).map λf=>.cat d f else(W8 k).bind λo=>(cE G n S a).bind λd=>(cE G n S b).map λf=>.bin o d f
   |.UnaryOp k a _=>cUn (cE G n S) a k
   |.BoolOp k l _=>if l.all rf=U then W5 (cE G n S) l k else L
   |.Compare a h bs _=>Sn (cE G n S) a h bs
   |.IfExp c a b _=>if rf c=U then(cE G n S c).bind λi=>(cE G n S a).bind λd=>(cE G n S b).map λf=>.ite i d f else L
   |.Tuple l _ _=>(t9 (cE G n S) l).map .tup
   |.List l _=>(t9 (cE G n S) l).map .lst
   |.Dict p vs _=>MT (cE G n S) p vs
   |.Subscript a b _=>ZL (cE G n S) a b
   |.Call fn args kws cp=>if kws.isEmpty=U then GP G S (cE G n S) fn args cp else WZ S (cE G n S) fn args kws
   |.ListComp m j sc _=>(R7 j).bind λg=>Sm S (cE G n) m g sc
   |_=>L
def CV(K:Fg)(d:Dat)(v:V):Prop:=(∀F,Rep K F d v)/\∀a,v=.ref a->∃o,K.lookup a=Y o/\o.cls=.type "tuple"/\o.dict=L
structure pI(G:Sg)(C:Fs)(S:Sc)(X:Cx):Prop where
 N:X.N=S.N
 nm:X.env.scope.names=S.nm
 kind:X.env.scope.kind=.function
 calm:X.calm=U
 un:X.A.units+21<dR
 xe:X.xe=λ_ _=>False
 fn:S.top=U->∀x,X.fn x=U
 fns:∀(j:Nat)x n,G.fns[j]?=Y (x,n)->∃k f fd ps,(lK X.prog X.w X.K X.mg X.base yA k f fd ps (oB X.K n (C j))/\lK X.prog X.w X.K X.mg X.base yA k f fd ps (T4 X.K n (C (j+CK))))/\lJ k X.A/\X.mg x=Y (.ref f)/\eY X.K (.ref f)=U/\Binds X.K fd ps []
 blt:∀x∈l9,X.mg x=L
 con:∀x d,G.con.lookup x=Y d->∃v u,X.mg x=Y u/\RelV v u/\CV X.K d v
inductive Args (P:ba->Ex->Prop):List ba->List Ex->Prop
 |nil:Args P [] []
 |cons {e:ba} {es:List ba} {x:Ex} {xs:List Ex}:du e=U->P e x->Args P es xs->Args P (e::es) (x::xs)
def bQ (h:(if b=U then x else L)=Y y):b=U/\x=Y y:=by
 simp_all
section
variable{G:Sg}{C:Fs}{S:Sc}{X:Cx}{e:ba}{x:aW}
def lF(T:pI G C S X)(h:t8 S x=U):So X.env.scope x:=by
 unfold t8 at h;unfold So;rw[T.nm]
 cases q:S.nm.lookup x with
 |none=>rw[q]at h;cases h
 |some k=>rw[q]at h;cases k<;>first|(simp;done)|cases h
def rj(T:pI G C S X)(h:wY S x=U):L2.Loc X.env.scope x:=by
 unfold wY at h;unfold L2.Loc;rw[T.nm]
 cases q:S.nm.lookup x with
 |none=>rw[q]at h;cases h
 |some k=>rw[q]at h;cases k<;>first|(simp;done)|cases h
def jE(T:pI G C S X)(h:Gm S x=U):Gl X x:=by
 unfold Gl r8;rw[T.nm];exact beq_iff_eq.mp h
def fX(h:jo x=U):(x == ("__debug__":aW))=J/\(x == ("__classdict__":aW))=J/\x≠"__name__":=by
 unfold jo at h
 simp_all
def bZ(h:du e=U):aO (e::es) env=(J,eval e env)::aO es env:=by
 cases e<;>first|rfl|cases h
theorem o9:∀{es:List ba},es.all du=U->(backTo pos (aO es env)).any (·.1)=J
 |[],_=>rfl
 |e::es,h=>by
   rw[dU,ag]at h;rw[bZ h.1];have q:=o9 (pos:=pos) (env:=env) h.2;unfold backTo at q ⊢;rw[aA,qN,q];rfl
theorem kK(hf:∀e x,f e=Y x->P e x):∀{es:List ba}{xs:List Ex},t9 f es=Y xs->Args P es xs
 |[],_,h=>by cases h;exact .nil
 |e::r,_,h=>by
   obtain⟨hs,h⟩:=bQ h;obtain⟨x,h1,h⟩:=cA h;obtain⟨xs,h2,rfl⟩:=ee h;exact .cons hs (hf _ _ h1) (kK hf h2)
theorem Args.sa{es:List ba}{xs:List Ex}(h0:Args (SE X C) es xs):SA X C es xs:=by
 induction h0 with
 |nil=>exact nV
 |cons hs h _ r=>exact jB h r (bZ hs)
theorem Args.sf{es:List ba}{xs:List Ex}(h0:Args (SE X C) es xs):SF X C es xs:=by
 induction h0 with
 |nil=>exact Kb
 |cons hs h _ r=>exact Fb h r (bZ hs)
theorem Args.star{es:List ba}{xs:List Ex}(h0:Args P es xs):es.all du=U:=by
 induction h0 with
 |nil=>rfl
 |cons hs _ _ r=>rw[dU,hs,r];rfl
theorem Args.len{es:List ba}{xs:List Ex}(h0:Args P es xs):Z xs=Z es:=by
 induction h0 with
 |nil=>rfl
 |cons _ _ _ r=>exact congrArg (·+ 1) r
def Args.one(h:Args P es [z]):∃a,es=[a]/\du a=U/\P a z:=by
 cases h with
 |cons s p r=>cases r;exact⟨_,W,s,p⟩
def Args.two(h:Args P es [z,w]):∃a b,es=[a,b]/\du a=U/\du b=U/\P a z/\P b w:=by
 cases h with
 |cons s p r=>
   obtain⟨b,rfl,d,c⟩:=r.one;exact⟨_,b,W,s,d,p,c⟩
def Args.three(h:Args P es [z,w,u]):∃a b c,es=[a,b,c]/\du a=U/\du b=U/\du c=U/\P a z/\P b w/\P c u:=by
 cases h with
 |cons s p r=>
   refine ac λ_ e=>?_;obtain⟨b,c,rfl,g,s2,d,f⟩:=r.two;refine e ?_;exact⟨_,b,c,W,s,g,s2,p,d,f⟩
def Dt(s:du a=U)(g:du b=U)(ha:SE X C a z)(hb:SE X C b w):SA X C [a,b] [z,w]:=jB ha (jB hb nV (bZ g)) (bZ s)
def vb(s:du a=U)(g:du b=U):aO [a,b] env=[(J,eval a env),(J,eval b env)]:=(bZ s).trans (congrArg _ (bZ g))
def QW(h:W8 op=Y o):j8 X (binaryOp op) (gB X.K (gQ o)):=by
 cases op<;>first|(cases h;first|exact Pz|exact Pj|exact Po|exact K7|exact Pp|exact Pk|exact Py)|cases h
def GO(B:X.A.units+21<dR)(h:ZQ op=Y o):j8 X (compareOp op) (gB X.K (rJ o)):=by
 cases op<;>first|(cases h;first|exact Ve (ax B)|exact U7 (ax B)|exact Va|exact Vd|exact op_geD|exact Pq|exact K6|exact Vc B|exact Pn B)|cases h
def Lk(h:sy b=U):behindInMarks op b=J:=by
 cases b<;>first|rfl|cases h
def OH(ha:SE X C a B):SE X C (.UnaryOp .Not a pos) (.not B):=by
 rintro h_ s σ H Q I ⟨p,d,fr,h,F,g,R,k⟩;refine ac λ_ e=>?_;obtain⟨⟨o,i⟩,h1,h⟩:=cA h;obtain⟨b,hb,h⟩:=ee h;cases h;refine e ?_;refine UnaryOp_ (iN (ha h_ s σ H (λv f=>∃F1,Step F H F1 f/\Rep _ F1 o v) I ⟨p,o,i,h1,F,g,R,λv F1 f st r _=>⟨F1,st,r⟩⟩) λv s1 y=>?_);obtain⟨x,f,j,l,F1,st,r⟩:=y;refine not_of (iN (JQ h_ s1 σ f x v (λc n=>c=b/\n=f) j l ⟨b,EU st.good r hb,W,W⟩) ?_);rintro c s2 ⟨n,m,rfl,rfl⟩;exact⟨.bl _,n,m,W,k _ F1 n st W be⟩
def Xw(X:Cx)(C:Fs)(e:ba)(x:Ex):Prop:=SE X C e x/\(rf e=U->ST X C e x)
theorem yk{x:Ex}(g:Args (Xw X C) es xs):es.all rf=U->BS .and xs=Y x->SE X C (.BoolOp .And es pos) x/\SW X C (.BoolOp .And es pos) x:=by
 induction g generalizing x with
 |nil=>intro _ h;cases h
 |cons _ p e i=>
   intro n h;rw[dU,ag]at n;cases e with
   |nil=>cases h;exact⟨Ff p.1,Ob (p.2 n.1)⟩
   |cons s q r=>obtain⟨z,h1,rfl⟩:=ee h;obtain⟨a,i2⟩:=i n.2 h1;exact⟨UB p.1 a,Te (p.2 n.1) i2⟩
theorem BR{x:Ex}(g:Args (Xw X C) es xs):es.all rf=U->BS .or xs=Y x->SE X C (.BoolOp .Or es pos) x/\SW X C (.BoolOp .Or es pos) x:=by
 induction g generalizing x with
 |nil=>intro _ h;cases h
 |cons _ p e i=>
   intro n h;rw[dU,ag]at n;cases e with
   |nil=>cases h;exact⟨Ff p.1,Tc (p.2 n.1)⟩
   |cons s q r=>obtain⟨z,h1,rfl⟩:=ee h;obtain⟨a,i2⟩:=i n.2 h1;exact⟨Yl p.1 a,X8 (p.2 n.1) i2⟩
set_option tactic.hygienic true
def OM(T:pI G C S X)(hb:W7 x=Y g)(hp:jo x=U)(B:Gm S x=U)(hs:du e=U)(he:SE X C e F):SE X C (.Call (.Name x p) [e] [] pos) (.blt g [F]):=by
 have h1:aO _ X.env=(J,eval e _)::aO [] _:=bZ hs;have ha:=jB he nV h1;obtain⟨d1,d2,d3⟩:=fX hp;have a:=jE T B;unfold W7 at hb;split at hb
 .rename_i q;refine ac λ_ b=>?_;subst q;cases hb;refine b ?_;exact Fe IV a (T.blt _ (by decide +kernel)) PySem.boot_len ha d3 d1 h1 W
 split at hb
 .rename_i q;refine ac λ_ b=>?_;subst q;cases hb;refine b ?_;exact zf Cc a (T.blt _ (by decide +kernel)) (by decide +kernel) ha d3 d1 h1 W
 split at hb
 .rename_i q;subst q;cases hb;exact zf IX a (T.blt _ (by decide +kernel)) (by decide +kernel) ha d3 d1 h1 W
 split at hb
 .rename_i q;subst q;cases hb;exact zf IU a (T.blt _ (by decide +kernel)) (by decide +kernel) ha d3 d1 h1 W
 split at hb
 .rename_i q;subst q;cases hb;exact Fe (zQ T.un T.calm) a (T.blt _ (by decide +kernel)) (by decide +kernel) ha d3 d1 h1 W
 .cases hb
def QU(T:pI G C S X)(ha:Args (SE X C) es xs)(h:ZP G S x xs=Y z):SE X C (.Call (.Name x p) es [] pos) z:=by
 obtain⟨hp,h⟩:=bQ h;rw[ag]at hp;obtain⟨d1,d2,d3⟩:=fX hp.1
 cases g:Ea x 0 _ with
 |some u=>
   obtain⟨j,n⟩:=u;rw[g]at h;have h:(if Z xs=n then Y (Ex.call j xs)else L)=Y z:=h;split at h
   .rename_i l;cases h;obtain⟨i,w,y⟩:=vY g;obtain⟨k,f,A,ps,F,m,o,hk,hb⟩:=T.fns i x n y;rw[fH]at w;subst w
    cases ha with
    |nil=>exact Ke j n F.1 m (jE T hp.2) o hk hb l.symm d1
    |cons hs he r=>exact OL j n F.1 m (jE T hp.2) o hk hb (jB he r.sa (bZ hs)) l d1 (bZ hs) (o9 r.star)
   .cases h
 |none=>
   rw[g]at h
   cases ho:jY xs with
   |some s=>
     obtain rfl:=fL ho;obtain⟨b,h1,rfl⟩:=ee h;obtain⟨e,rfl,hs,he⟩:=ha.one;exact OM T h1 hp.1 hp.2 hs he
   |none=>
     rw[ho]at h;obtain⟨⟨s,v⟩,h1,c⟩:=cA h;clear h;obtain rfl:xs=[s,v]:=qZ h1;obtain⟨a,b,rfl,hs,d,he,hb⟩:=ha.two
     .have t:=Dt hs d he hb;split at c
      .rename_i q;subst q;cases c;exact Kd (v9 T.calm) (jE T hp.2) (T.blt _ (by decide +kernel)) (by decide +kernel) t d3 d1 (bZ hs) (o9 (by simp[d]))
      split at c
      .rename_i q;subst q;cases c;exact Kd (Ep T.calm) (jE T hp.2) (T.blt _ (by decide +kernel)) (by decide +kernel) t d3 d1 (bZ hs) (o9 (by simp[d]))
      .cases c
def WW(h:cTy t=Y ty):bootBuiltins t=Y (.type (tyName ty))/\t∈l9/\(t == ("__debug__":aW))=J/\t≠"__name__":=by
 unfold cTy at h
 repeat' (split at h;(rename_i q;subst q;cases h;exact⟨by decide +kernel,by decide +kernel,by decide +kernel,by decide +kernel⟩))
 cases h
def Sl{iter:ba}(T:pI G C S X)(hf:∀e x,f e=Y x->SE X C e x)(h:cI S f tg iter=Y it):SI X C tg iter it/\∀a,it=.itv a->SE X C iter a:=by
 unfold cI at h
 cases hi:LQ _ with
 |none=>
   rw[hi]at h;obtain⟨x,h1,rfl⟩:=ee h;exact⟨Ua (hf _ _ h1),λa z=>by cases z;exact hf _ _ h1⟩
 |some c=>
   rw[hi]at h;obtain⟨x,args⟩:=c;obtain⟨o,h1,h2⟩:=cA hi;obtain⟨_,h2⟩:=bQ h2;obtain rfl:o=(x,args):=bI h2;obtain⟨p,q,rfl⟩:=nF h1;obtain⟨r,h3⟩:=bQ h;clear h h1 h2 hi;obtain⟨u,m,g⟩:=cA h3;have ha:=kK hf m;clear h3 m;have l:=jE T r;split at g
   .rename_i e;subst e
    cases ho:jY u with
    |some n=>
      rw[ho]at g;cases g;obtain rfl:=fL ho;obtain⟨a,rfl,hs,he⟩:=ha.one;exact⟨OC l (T.blt _ (by decide +kernel)) (jB he nV (bZ hs)) (bZ hs),λa z=>nomatch z⟩
    |none=>
      rw[ho]at g;refine ac λ_ t=>?_;obtain⟨p,i,rfl⟩:=ee g;obtain rfl:=Lb i;obtain⟨a,b,c,rfl,hs,d,j,he,hb,hc⟩:=ha.three;refine t ?_;exact⟨OB l (T.blt _ (by decide +kernel)) (jB he (Dt d j hb hc) (bZ hs)) ((bZ hs).trans (congrArg _ (vb d j))) (vb d j),λa z=>nomatch z⟩
   split at g
   .rename_i e;simp only[ag,decide_eq_true_eq]at e;obtain⟨rfl,ht⟩:=e;obtain⟨p,i,rfl⟩:=ee g;obtain rfl:=qZ i;obtain⟨s,k,v,rfl⟩:=BC ht;obtain⟨a,b,rfl,hs,d,he,hb⟩:=ha.two;exact⟨T9 l (T.blt _ (by decide +kernel)) (Dt hs d he hb) (vb hs d) (bZ d),λa z=>nomatch z⟩
   split at g
   case isFalse=>
    split at g
    .rename_i e;subst e;obtain⟨n,i,rfl⟩:=ee g;obtain rfl:=fL i;obtain⟨a,rfl,hs,he⟩:=ha.one;exact⟨Ub l (T.blt _ (by decide +kernel)) (jB he nV (bZ hs)) (bZ hs),λa z=>nomatch z⟩
    .cases g
   .rename_i e;simp only[ag,decide_eq_true_eq]at e;obtain⟨rfl,ht⟩:=e;obtain⟨s,k,v,rfl⟩:=BC ht;obtain⟨n,i,rfl⟩:=ee g;obtain rfl:=fL i;obtain⟨a,rfl,hs,he⟩:=ha.one;exact⟨Uc l (T.blt _ (by decide +kernel)) (jB he nV (bZ hs)) (bZ hs),λa z=>nomatch z⟩
set_option tactic.hygienic false
def jH(h:sy e=U):∀v,foldedSetIterable e X.env v=pure v:=λv=>by
 cases e<;>first|rfl|cases h
theorem Cb:∀{g:List aW}{is:List Nat},tW N g=Y is->is.map (λj=>N[j]?)=g.map Y
 |[],_,h=>by cases h;rfl
 |x::r,_,h=>by
   obtain⟨i,h1,h⟩:=cA h;obtain⟨is,h2,rfl⟩:=ee h;rw[aA,aA,fZ h1,Cb h2]
theorem lookup_mem:∀{g:List (aW×k8)},g.lookup x=Y k->(x,k)∈g
 |[],h=>by cases h
 |(y,j)::r,h=>by
   rw[fN]at h;split at h
   .simp_all
   .exact jZ _ (lookup_mem h)
structure G3(S:Sc)(sc:m9)(tn cn:List aW):Prop where
 kind:sc.kind=.function
 nocell:∀y∈sc.names,y.2≠.cell
 locs:∀y∈sc.names,y.2=.local->sc.names.lookup y.1=Y .local
 frees:∀y∈sc.names,y.2=.free->S.nm.lookup y.1=Y .cell\/S.nm.lookup y.1=Y .free
 capk:∀x∈cn,(S.nm.lookup x=Y .cell\/S.nm.lookup x=Y .free)/\sc.names.lookup x=Y .free
 nd:(tn++cn).Nodup
 tl:∀x∈tn,sc.names.lookup x=Y .local
def MG(h:MI S sc g B=U):G3 S sc g B:=by
 unfold MI at h;simp only[ag,bE,decide_eq_true_eq,lM,iW,decide_eq_false_iff_not]at h;obtain⟨⟨⟨⟨⟨⟨h1,h2⟩,h3⟩,b⟩,f⟩,c⟩,d⟩:=h;refine⟨h1,h2,λy a e=>?_,λy a e=>?_,f,c,d⟩
 .rcases h3 y a with z|z
  .exact absurd e z
  .exact z
 .rcases b y a with(z|z)|z
  .exact absurd e z
  .exact .inl z
  .exact .inr z
def zM(T:pI G C S X)(h:G3 S sc B g)(hc:tW S.N g=Y caps):jK X sc B g caps where
 kind:=h.kind
 nocell:=h.nocell
 locs:=h.locs
 frees:=λy b e=>by unfold r8;rw[T.nm];exact h.frees y b e
 nofree:=λx e=>lookup_mem e
 caps:=by rw[T.N];exact Cb hc
 capk:=λx a=>by unfold r8;rw[T.nm];exact(h.capk x a).1
 capn:=λx a=>(h.capk x a).2
def sg(T:pI G C S X)(h:G3 S sc g F)(cl:List (aW×aL))(B:ai)(O:Hp)(Ca:aL)(ex:List aL):pI G C (inner S sc g F) (e9 X sc cl (g++F) B O Ca ex) where
 N:=rfl
 nm:=by
  show(relabel sc X.env).names=A5 S sc;unfold relabel A5 r8;rw[T.nm,T.kind];refine dP λp _=>?_;obtain⟨n,k⟩:=p;dsimp only;rw[show(Av == Av)=U from rfl,gR]
 kind:=h.kind
 calm:=T.calm
 un:=T.un
 xe:=rfl
 fn:=λz=>nomatch z
 fns:=T.fns
 blt:=T.blt
 con:=T.con
end
section
variable{G:Sg}{C:Fs}{S:Sc}{X:Cx}{e:ba}{x:aW}{f:ba->Option Ex}
def KZ(T:pI G C S g)(B:S.N.Nodup)(hi:S.N[i]?=Y t)(hl:S.nm.lookup t=Y .local):PG g (.Name t p) (lz i):=by
 refine FD (by rwa[T.N]) (by rwa[T.N]) ?_ (.inr (by rwa[T.nm]));unfold L2.Loc;rw[T.nm];exact .inl hl
def rh{sc:m9}(h:sc.names.lookup x=Y .local):(A5 S sc).lookup x=Y .local:=by
 unfold A5;generalize sc.names=L' at h
 induction L' with
 |nil=>cases h
 |cons p r a=>
   obtain⟨y,k⟩:=p;rw[fN]at h;rw[aA];by_cases hc:(k == eG && S.nm.lookup y == Y .cell)=U
   .dsimp only;rw[if_pos hc,fN];split at h
    .simp_all
    .exact a h
   .rw[if_neg hc,fN];split at h
    .exact h
    .exact a h
theorem nZ:∀{es:List ba}{g:List aW},namesOf es=Y g->Z (assignEach es env)=Z es/\(assignEach es env).findIdx? (·.1)=L/\Z g=Z es
 |[],g,h=>by cases h;exact⟨W,W,W⟩
 |e::es,g,h=>by
   obtain⟨t,h0,h⟩:=cA h;obtain⟨a,h1,rfl⟩:=ee h;obtain⟨p,rfl⟩:=fh h0;obtain⟨b,c,d⟩:=nZ (env:=env) h1;have i:assignEach (.Name t p::es) env=(J,assign _ _)::assignEach es _:=rfl;rw[i];refine⟨by simp[b],?_,by simp[d]⟩;rw[List.findIdx?_cons];simp[c]
def gK:Nat->Nat->Sy
 |_,0=>IG
 |k,n+1=>yi (lz k) (gK (k+1) n)
theorem Gp:∀n k x σ H Q B,(∀g F,Q g F->B g F)->gK k n x σ H Q->gK k n x σ H B
 |0,_=>IF
 |n+1,k=>D9 vV (Gp n (k+1))
theorem BO:∀n k,k+n<=nt->wj nt (gK k n)
 |0,_,_=>Ht
 |n+1,k,h=>Dg vV (Gp n (k+1)) (uY (ao (aX _ _) h)) (BO n (k+1) (iF h))
theorem Mf{K:Fg}:∀(ds:List Dat)(vs:List V)(k:Nat)(σ:St)(ρ:ic)(Q:St->Hp->Prop),cX K F ds vs->nJ K F σ ρ->Z σ=Z ρ->(∀B,nJ K F B (ze k ds ρ)->Q B H)->gK k ds.length vs σ H Q
 |[],vs,k,σ,ρ,Q,r,R,hl,q=>⟨r,q σ R⟩
 |d::ds,vs,k,σ,ρ,Q,r,R,hl,q=>by
   obtain⟨v,w,rfl,a,b⟩:=r;exact⟨v,w,W,Mf ds w _ _ _ Q b (A7 hl R a) (by simpa using hl) q⟩
set_option tactic.hygienic true
def JT{K:Fg}:Xj K n J (Mb K n (gK 0 n)):=λF H σ i d x j Q g R c hl r hb k=>by
 cases d with
 |tup h=>
   have hb:(if Z h=n then Y (ze 0 h i)else L)=Y _:=hb;split at hb
   .rename_i b;cases hb;obtain⟨a,vs,rfl,t,r⟩:=r;subst b;exact⟨a,vs,W,(t.mono g.sub).sq,r.length,Mf h vs 0 σ i Q r R hl k⟩
   .cases hb
 |_=>cases hb
theorem Ba(T:pI G C S g)(nd:S.N.Nodup):∀{es:List ba}{B:List aW}(k:Nat),namesOf es=Y B->(∀i t,B[i]?=Y t->S.N[k+i]?=Y t)->(∀t∈B,S.nm.lookup t=Y .local)->XN g es (gK k es.length)
 |[],_,_,_,_,_=>FC
 |e::es,B,k,h,hi,hl=>by
   obtain⟨t,h0,h⟩:=cA h;obtain⟨a,h1,rfl⟩:=ee h;obtain⟨p,rfl⟩:=fh h0;refine Bb (KZ T nd (hi 0 t W) (hl t jL)) (Ba T nd _ h1 (λi b e=>?_) λb m=>hl b (jZ _ m));rw[show k+1+i=k+(i+1)from(iH ..)]
   simp_all
def XY(T:pI G C S X)(ht:pQ tg=Y (one,F))(h:G3 S sc F (freeOf sc)) :
  ∃g,qi F.length g/\Xj X.K F.length one g/\∀(cl:List (aW×aL))(B:ai)(O:Hp)(Ca:aL)(ex:List aL),PG (e9 X sc cl (F++freeOf sc) B O Ca ex) tg g:=by
 cases tg with
 |Name t p=>
   cases ht;exact ⟨_,uY (by simp),N8,λcl B O Ca ex=>KZ (sg T h cl B O Ca ex) h.nd W (rh (h.tl t (by simp)))⟩
 |Tuple c k pos=>
   obtain⟨b,h1,h2⟩:=ee ht;cases h2;refine⟨Mb _ _ (gK 0 _),Hr (BO _ 0 (gP (ak _) (aK _))),JT,λcl B O Ca ex=>?_⟩;have a:=sg T h cl B O Ca ex;have n:=nZ (env:=(e9 X sc cl (F++freeOf sc) B O Ca ex).env) h1;have q:=Ba a h.nd 0 h1 (λi t e=>by rw[fH];exact(aY (aN.mp e).1).trans e) λt m=>rh (h.tl t m);rw[<-n.2.2]at q;exact KU a.calm q (n.1.trans n.2.2.symm) n.2.1
 |_=>cases ht
def Ih(G:Sg)(C:Fs)(f:Sc->ba->Option Ex):Prop:=∀S e x,f S e=Y x->∀X,pI G C S X->Xw X C e x
def Cg(T:pI G C S X)(h:Sj G S x=Y z):SE X C (.Name x p) z:=by
 obtain⟨hp,h⟩:=bQ h;obtain⟨d1,d2,d3⟩:=fX hp;split at h
 .rename_i a;obtain⟨i,h1,rfl⟩:=ee h;exact Uh i (by rw[T.N];exact fZ h1) (lF T a) d1 d2
 .obtain⟨d,h1,rfl⟩:=ee (bQ h).2;obtain⟨v,u,c,r,hd⟩:=T.con x d h1;exact OI (jE T (bQ h).1) c r hd.1 d1
def MU{bs:List ba}(T:pI G C S X)(hf:∀e x,f e=Y x->SE X C e x)(h:Sn f a ops bs=Y z):SE X C (.Compare a ops bs pos) z/\ST X C (.Compare a ops bs pos) z:=by
 obtain⟨k,h1,d⟩:=cA h;clear h
 cases ho:jY ops with
 |some m=>
   obtain rfl:=fL ho;obtain⟨b,h2,g⟩:=cA d;obtain rfl:=fL h2;obtain⟨hs,i⟩:=bQ g;obtain⟨o,c,j⟩:=cA i;obtain⟨l,h3,rfl⟩:=ee j;exact⟨Ux (GO T.un c) (hf _ _ h1) (hf _ _ h3) (Lk hs),Tx (GO T.un c) (hf _ _ h1) (hf _ _ h3) (Lk hs)⟩
 |none=>
   simp_all
def Ci(hf:∀e x,f e=Y x->SE X C e x)(h:MT f g vs=Y z):SE X C (.Dict g vs pos) z:=by
 unfold MT at h;split at h
 .rename_i q;simp only[ag,jt]at q;obtain⟨rfl,rfl⟩:=q;cases h;exact OJ
 .cases h
def Cf(hf:∀e x,f e=Y x->SE X C e x)(h:MP f o=Y z):SO X C o z:=by
 cases o with
 |none=>cases h;exact Ou
 |some e=>
   obtain⟨y,h1,rfl⟩:=ee h;exact Ot (hf _ _ h1)
def Dn{lo st:Option ba}(h:kI b=Y (lo,hi,st)):∃p,b=.Slice lo hi st p:=by
 unfold kI at h;split at h
 .cases h;exact⟨_,W⟩
 .cases h
def lR(h:kI b=L):zZ b:=by
 cases b<;>first|(intro o i;rfl)|cases h
def GN(T:pI G C S X)(hf:∀e x,f e=Y x->SE X C e x)(h:ZL f a b=Y z):SE X C (.Subscript a b pos) z:=by
 obtain⟨i,h1,h⟩:=cA h
 cases hs:kI b with
 |some t=>
   rw[hs]at h;obtain⟨lo,hi,st⟩:=t;obtain⟨j,h2,g⟩:=cA (bQ h).2;obtain⟨k,h3,rfl⟩:=ee g;obtain⟨p,rfl⟩:=Dn hs
   cases st with
   |none=>exact Yk (hf _ _ h1) (Cf hf h2) (Cf hf h3)
   |some _=>cases (bQ h).1
 |none=>
   rw[hs]at h;refine ac λ_ c=>?_;obtain⟨l,h2,rfl⟩:=ee h;refine c ?_;exact Yp (abr (ao (Hf T.un) bR)) (hf _ _ h1) (hf _ _ h2) (lR hs)
def QT{ap cp:wo}(T:pI G C S X)(hf:∀e x,f e=Y x->SE X C e x)(B:(ap.endLine == cp.line)=U)(h:W2 S f o es=Y z):SE X C (.Call (.Attribute o "join" ap) es [] cp) z:=by
 obtain⟨e,h1,b⟩:=cA h;obtain⟨⟨c,as⟩,h2,d⟩:=cA b;obtain⟨q,n,rfl⟩:=nF h2;obtain rfl:=fL h1;obtain⟨a,h3,g⟩:=cA d;obtain rfl:as=[a]:=fL h3;obtain⟨hc,i⟩:=bQ g;simp only[ag,decide_eq_true_eq]at hc;obtain⟨⟨⟨j,hb⟩,k⟩,hs⟩:=hc;obtain rfl:c="reversed":=j;obtain⟨p,l,m⟩:=cA i;obtain⟨r,s,rfl⟩:=ee m;exact Us T.calm (jE T k) (T.blt _ (by decide +kernel)) (hf _ _ l) (hf _ _ s) hb B (bZ hs)
def MR(T:pI G C S X)(hf:∀e x,f e=Y x->SE X C e x)(h:Sk G S f o m ap es cp=Y z):SE X C (.Call (.Attribute o m ap) es [] cp) z:=by
 obtain⟨a,h⟩:=bQ h;generalize b:(if m="join" then W2 S f o es else L)=w at h
 cases w with
 |some w=>
   cases h;split at b
   .rename_i c;subst c;exact QT T hf a b
   .cases b
 |none=>
 obtain⟨j,h1,h⟩:=cA h;have ha:=kK hf h1;obtain⟨hb,h⟩:=bQ h;obtain⟨d,h0,h⟩:=cA h;obtain⟨g,h2,rfl⟩:=ee h;exact QQ (by have:=T.un;omega) h2 (hf _ _ h0) ha.sa ha.len (λe z=>by subst z;exact bZ (by simpa using ha.star)) (λe i z=>by subst z;have q:=bE.mp ha.star;exact⟨bZ (q e (by simp)),bZ (q i (by simp))⟩) hb a
def QN(T:pI G C S X)(hf:∀e x,f e=Y x->SE X C e x)(h:WX S f x y F es=Y z)
  (hl:∀a B(p q O pos:wo),du a=U->Gl X x->Gl X y->SE X C a B->SE X C (.Call (.Name x p) [.Call (.Name y q) [a] [] O] [] pos) (.blt F [B])):SE X C (.Call (.Name x p) es [] pos) z:=by
 obtain⟨e,h1,c⟩:=cA h;obtain⟨⟨d,as⟩,h2,b⟩:=cA c;obtain⟨q,O,rfl⟩:=nF h2;obtain rfl:=fL h1;split at b
 .rename_i g;obtain rfl:d=y:=g;obtain⟨a,h3,i⟩:=cA b;obtain rfl:as=[a]:=fL h3;obtain⟨hc,j⟩:=bQ i;simp only[ag]at hc;obtain⟨B,k,rfl⟩:=ee j;exact hl a B _ _ _ _ hc.2 (jE T hc.1.1) (jE T hc.1.2) (hf _ _ k)
 .cases b
def IZ(T:pI G C S X)(hf:∀e x,f e=Y x->SE X C e x)(h:Er G S f x es=Y z):SE X C (.Call (.Name x p) es [] pos) z:=by
 unfold Er at h;split at h
 .rename_i b;subst b;obtain⟨⟨a,n⟩,h1,c⟩:=cA h;obtain rfl:es=[a,n]:=qZ h1;obtain⟨t,h2,d⟩:=cA c;obtain⟨i,o⟩:=fh h2;obtain rfl:n=.Name t i:=o;obtain⟨hc,j⟩:=bQ d;simp only[ag]at hc;obtain⟨ty,h3,k⟩:=cA j;obtain⟨l,m,rfl⟩:=ee k;obtain⟨b1,b2,b3,b4⟩:=WW h3;exact Uu ty (jE T hc.1.1) (T.blt _ (by decide +kernel)) (jE T hc.1.2) (T.blt _ b2) b1 (hf _ _ m) b4 b3 (bZ hc.2) (o9 (by rfl))
 .generalize g:(if x="sorted" then WX S f _ _ _ es else L)=w at h
  cases w with
  |some w=>
    cases h;split at g
    .rename_i b;subst b;exact QN T hf g λa l _ _ _ _ hs c d ha=>OG T.un T.calm c (T.blt _ (by decide +kernel)) d (T.blt _ (by decide +kernel)) ha (by rw[bZ hs];rfl)
    .cases g
  |none=>
    obtain⟨q,h1,h⟩:=cA h;exact QU T (kK hf h1) h
def Ck(T:pI G C S X)(hf:∀e x,f e=Y x->SE X C e x)(h:GP G S f fn es pos=Y z):SE X C (.Call fn es [] pos) z:=by
 unfold GP at h
 cases a:wg fn with
 |some t=>
   obtain rfl:=sZ a;exact MR T hf h
 |none=>
   rw[a]at h;obtain⟨x,h1,h⟩:=cA h;obtain⟨p,rfl⟩:=fh h1;exact IZ T hf h
def BN(h:R7 B=Y g):B=[⟨g.tg,g.it,g.ifs,0⟩]:=by
 obtain⟨c,h1,a⟩:=cA h;obtain rfl:=fL h1;split at a
 .rename_i b;cases a;cases c;cases b;rfl
 .cases a
set_option tactic.hygienic false
def Cj(I:Ih G C F)(T:pI G C S X)(h:Sm S F elt g sc=Y z) :
  ∃R caps one it xs xe P,z=.comp R caps one it xs xe/\∃tl:List aW,Z tl=R/\jK X sc tl (freeOf sc) one/\SI X C g.tg g.it it/\qi tl.length P/\Xj X.K tl.length caps P/\
   (∀(cl:List (aW×aL))(B:ai)(O:Hp)(Ca:aL)(ex:List aL),PG (e9 X sc cl (tl++freeOf sc) B O Ca ex) g.tg P/\Ny (e9 X sc cl (tl++freeOf sc) B O Ca ex) g.ifs (XG X.K C xs)/\SE (e9 X sc cl (tl++freeOf sc) B O Ca ex) C elt xe)/\sy g.it=U:=by
 obtain⟨⟨one,R⟩,h0,h⟩:=cA h;obtain⟨caps,h1,h⟩:=cA h;obtain⟨hc,h⟩:=bQ h;simp only[ag]at hc;obtain⟨it,h2,h⟩:=cA h;obtain⟨xs,h3,h⟩:=cA h;obtain⟨xe,k,rfl⟩:=ee h;have d:=MG hc.1;obtain⟨P,a,i,l⟩:=XY T h0 d;refine⟨_,_,_,it,xs,xe,P,W,R,W,zM T d h1,(Sl T (λe x q=>(I _ _ _ q X T).1) h2).1,a,i,λcl B O Ca ex=>?_,hc.2⟩;have j:=sg T d cl B O Ca ex;refine⟨l cl B O Ca ex,?_,(I _ _ _ k _ j).1⟩;generalize g.ifs=ifs at h3
 cases ifs with
 |nil=>cases h3;exact Oe
 |cons c r=>
   obtain⟨b,n⟩:=bQ h3;simp only[ag,jt]at b;obtain⟨rfl,b⟩:=b;obtain⟨y,m,rfl⟩:=ee n;exact Od ((I _ _ _ m _ j).2 b)
def QR(T:pI G C S X)(hf:∀e x,f e=Y x->SE X C e x)(h:WZ S f fn args kws=Y z):SE X C (.Call fn args kws pos) z:=by
 obtain⟨x,h1,h⟩:=cA h;obtain⟨a,h2,h⟩:=cA h;obtain⟨k,h3,h⟩:=cA h;obtain⟨hc,h⟩:=bQ h;obtain⟨j,d,rfl⟩:=ee h;simp only[ag,decide_eq_true_eq]at hc;obtain⟨⟨⟨⟨rfl,g⟩,hs⟩,i⟩,hk⟩:=hc;obtain⟨p,rfl⟩:=fh h1;obtain rfl:=fL h2;obtain rfl:=fL h3;obtain⟨l,m,kp⟩:=k;obtain⟨c,cp,rfl⟩:=IA i;cases hk;have b:=bZ (es:=[]) (env:=X.env) hs;exact Uq T.calm (jE T g) (T.blt _ (by decide +kernel)) (jB (hf _ _ d) nV b) b
theorem yt:∀n,Ih G C (cE G n)
 |0=>λ_ _ _ h=>by cases h
 |n+1=>λS e z h X T=>by
   have s:=λe x h=>yt n S e x h X T;have hf:=λe x h=>(s e x h).1
   cases e with
   |Constant c k p=>
     obtain⟨d,h1,rfl⟩:=ee h
     have q:SE X C (.Constant c k p) (.con d):=by
      cases c<;>first|(cases h1;first|exact Uv|exact Yq|exact Um|exact Ul)|cases h1
     exact⟨q,λ_=>lg q⟩
   |Name x p=>exact⟨Cg T h,λ_=>lg (Cg T h)⟩
   |BinOp a H b p=>
     have h:(if QL H a b=U then(cE G n S a).bind λl=>(cE G n S b).map _ else(W8 H).bind λo=>(cE G n S a).bind λl=>(cE G n S b).map _)=Y z:=h;by_cases hc:QL H a b=U
     .rw[if_pos hc]at h;obtain⟨l,h1,h⟩:=cA h;obtain⟨m,h2,rfl⟩:=ee h;simp only[QL,ag]at hc;obtain rfl:=IB hc.1.1;have q:=Uy (pos:=p) (hf _ _ h1) (hf _ _ h2);exact⟨q,λ_=>lg q⟩
     rw[if_neg hc]at h;obtain⟨o,h0,h⟩:=cA h;obtain⟨l,h1,h⟩:=cA h;obtain⟨m,h2,rfl⟩:=ee h;have q:=UA (pos:=p) (QW h0) (hf _ _ h1) (hf _ _ h2);exact⟨q,λ_=>lg q⟩
   |UnaryOp H a p=>
     cases H with
     |USub=>
       obtain⟨l,h1,rfl⟩:=ee h;have q:=Uo (pos:=p) (hf _ _ h1);exact⟨q,λ_=>lg q⟩
     |Not=>
       obtain⟨l,h1,rfl⟩:=ee (bQ h).2;exact⟨OH (hf _ _ h1),λ_=>Tw ((s _ _ h1).2 (bQ h).1)⟩
     |_=>cases h
   |BoolOp H K p=>
     obtain⟨r,h⟩:=bQ h
     cases H with
     |And=>
       obtain⟨I,h1,h⟩:=cA h;have q:=yk (pos:=p) (kK s h1) r h;exact⟨q.1,λ_=>q.2.pt⟩
     |Or=>
       obtain⟨I,h1,h⟩:=cA h;have q:=BR (pos:=p) (kK s h1) r h;exact⟨q.1,λ_=>q.2.pt⟩
   |Compare a u bs p=>
     have q:=MU (pos:=p) T hf h;exact⟨q.1,λ_=>q.2⟩
   |IfExp c a b p=>
     obtain⟨r,h⟩:=bQ h;obtain⟨D,h1,h⟩:=cA h;obtain⟨l,h2,h⟩:=cA h;obtain⟨m,h3,rfl⟩:=ee h;exact⟨Ut ((s _ _ h1).2 r) (hf _ _ h2) (hf _ _ h3),λz=>by cases z⟩
   |Tuple K k p=>
     obtain⟨I,h1,rfl⟩:=ee h;have q:=Uk (x1:=k) (pos:=p) (kK hf h1).sf;exact⟨q,λ_=>lg q⟩
   |List K p=>
     obtain⟨I,h1,rfl⟩:=ee h;have q:=Ur (pos:=p) (kK hf h1).sf;exact⟨q,λ_=>lg q⟩
   |Dict N vs p=>exact⟨Ci hf h,λ_=>lg (Ci hf h)⟩
   |Subscript a b p=>exact⟨GN T hf h,λ_=>lg (GN T hf h)⟩
   |Call fn args kws cp=>
     by_cases hk:kws.isEmpty=U
     .cases kws with
      |nil=>exact⟨Ck T hf h,λ_=>lg (Ck T hf h)⟩
      |cons _ _=>cases hk
     .have h:(if kws.isEmpty=U then GP G S _ fn _ cp else WZ S _ fn _ _)=Y z:=h;rw[if_neg hk]at h;have q:=QR (pos:=cp) T hf h;exact⟨q,λ_=>lg q⟩
   |ListComp M E sc p=>
     refine ac λ_ f=>?_;obtain⟨g,h1,h⟩:=cA h;obtain rfl:=BN h1;obtain⟨_,_,_,it,I,xe,F,rfl,tl,rfl,v,w,y,A,t,B⟩:=Cj (yt n) T h;refine f ?_;have q:=OK (pos:=p) T.calm v w y A (λcl i j Ca ex=>(t cl i j Ca ex).1) (λcl i j Ca ex=>(t cl i j Ca ex).2.1) (λcl i j Ca ex=>(t cl i j Ca ex).2.2) (jH B);exact⟨q,λ_=>lg q⟩
   |_=>cases h
end
noncomputable def nY:ba->Bool
 |.ListComp _ _ _ _=>J
 |.SetComp _ _ _ _=>J
 |.DictComp _ _ _ _ _=>J
 |_=>U
noncomputable def JW(S:Sc)(sc:m9)(cp:wo)(t:aW)(p:wo):Bool:=S.nm.lookup t == Y .local && p.line == cp.line && !(sc.names.any λ(n,k)=>n == t && (k == .local || k == .cell))
noncomputable def ZN(m:aW)(k:Nat):Option Jq:=
 if m="append"/\k=1 then Y .app else if m="extend"/\k=1 then Y .ext else L
def Kv(S:Sc)(e:ba):Option Nat:=(i5 e).bind λx=>if(jo x && t8 S x)=U then p7 x S.N else L
def ZM(G:Sg)(S:Sc)(f:ba->Option Ex):Option ba->Option Sx
 |none=>L
 | some e=>match Kv S e with
   |some i=>Y (.oM i)
   |none=>(f e).map .ret
def xJ:ba->Option (aW×ba)
 |.Subscript a ix _=>(i5 a).map λx=>(x,ix)
 |_=>L
def Tg:ba->Option (aW×ba×ba)
 |.Subscript a k _=>(xJ a).map λz=>(z.1,z.2,k)
 |_=>L
def W9(S:Sc)(f:ba->Option Ex)(t e:ba):Option Sx:=match i5 t with
 |some x=>if wY S x=U then(p7 x S.N).bind λi=>if i≠0 then(f e).map λxe=>.set i xe else L else L
 | none=>match xJ t with
   |some (x,ix)=>if(t8 S x && jo x && (kI ix).isNone && nY e)=U then(p7 x S.N).bind λi=>(f e).bind λxe=>(f ix).map λc=>.mut .seti i [xe,c]else L
   | none=>match Tg t with
    |some (x,ix,k)=>if(t8 S x && jo x && (kI ix).isNone && (kI k).isNone && nY e)=U then(p7 x S.N).bind λi=>(f e).bind λxe=>(f ix).bind λc=>(f k).map λa=>.Ly i c a xe else L
    |none=>(pQ t).bind λd=>if(d.2.all (wY S) && !isTup e && !d.1)=U then(tW S.N d.2).bind λb=>(f e).map λxe=>.unp b xe else L
structure Mc where
 x:aW
 m:aW
 ap:wo
 args:List ba
 cp:wo
def VI(e:ba):Option Mc:=(QM e).bind λc=>(wg c.fn).bind λt=>(i5 t.1).bind λx=>if c.kws.isEmpty=U then Y ⟨x,t.2.1,t.2.2,c.args,c.pos⟩else L
noncomputable def aa3:List ba->Option ba
 |[a]=>Y a
 |_=>L
structure Mk where
 x:aW
 ix:ba
 ap:wo
 a:ba
 cp:wo
def VC(e:ba):Option Mk:=(QM e).bind λc=>(wg c.fn).bind λt=>(xJ t.1).bind λz=>(aa3 c.args).bind λa=>if(c.kws.isEmpty && t.2.1 == "append")=U then Y ⟨z.1,z.2,t.2.2,a,c.pos⟩else L
def cLn(G:Sg)(S:Sc)(f:ba->Option Ex)(e:ba):Option (Nat×Nat×List Ex):=(sY e).bind λc=>match c.2 with
 |a::d=>(i5 a).bind λy=>if(jo c.1 && Gm S c.1 && t8 S y && jo y && d.all du)=U then(Ea c.1 0 G.fns).bind λb=>(p7 y S.N).bind λi=>(t9 f d).bind λg=>if Z g+1=b.2 then Y (b.1+CK,i,g)else L else L
 |[]=>L
def W1(G:Sg)(S:Sc)(f:ba->Option Ex)(t e:ba):Option Sx:=(i5 t).bind λy=>(sY e).bind λc=>if decide (c.1="max")=U then match c.2 with
 |[a,b]=>(i5 a).bind λd=>if(decide (d=y) && wY S y && t8 S y && jo y && Gm S "max" && du b)=U then(p7 y S.N).bind λg=>(cLn G S f b).map λz=>.lmx g z.1 z.2.1 z.2.2 else L
 |_=>L
 else L
def cExp(G:Sg)(S:Sc)(f:ba->Option Ex)(e:ba):Option Sx:=match VI e with
 |some c=>if(t8 S c.x && jo c.x && (c.ap.endLine == c.cp.line))=U then(p7 c.x S.N).bind λi=>(t9 f c.args).bind λd=>(ZN c.m d.length).map λh=>.mut h i d else L
 | none=>match VC e with
   |some c=>if(t8 S c.x && jo c.x && (kI c.ix).isNone && (c.ap.endLine == c.cp.line) && du c.a)=U then(p7 c.x S.N).bind λi=>(f c.ix).bind λg=>(f c.a).map λb=>if(DY c.ix || (i5 c.ix).isSome)=U then .RO i g b else .YY .app i g [b]else L
   |none=>if nY e=U then(f e).map .exp else L
def tJ(f:kZ->Option Sx)(B:List kZ):List Sx:=B.map λs=>(f s).getD .Nn
def DS(S:Sc)(f:ba->Option Ex)(it:ba):Option (Nat×Ex):=(xJ it).bind λz=>if(t8 S z.1 && jo z.1 && (kI z.2).isNone && !DY z.2)=U then(p7 z.1 S.N).bind λi=>(f z.2).map λa=>(i,a)else L
def cS(G:Sg)(S:Sc):Nat->kZ->Option Sx
 |0,_=>L
 | n+1,st=>match st with
   |.Return v _=>ZM G S (cE G n S) v
   | .Assign f e _=>(jY f).bind λt=>match W1 G S (cE G n S) t e with
     |some y=>Y y
     |none=>W9 S (cE G n S) t e
   |.Expr e _=>cExp G S (cE G n S) e
   |.If c a b _=>if rf c=U then(cE G n S c).map λg=>.ifs g (tJ (cS G S n) a) (tJ (cS G S n) b)else L
   |.For tg iter body d _=>if d.isEmpty=U then(pQ tg).bind λt=>if(t.2.all (wY S) && sy iter)=U then(tW S.N t.2).bind λf=>match DS S (cE G n S) iter with|some z=>Y (.XH t.1 f z.1 z.2 (tJ (cS G S n) body))|none=>(cI S (cE G n S) tg iter).map λit=>.loop t.1 f it (tJ (cS G S n) body)else L else L
   |.While c body d _=>if(d.isEmpty && rf c)=U then(cE G n S c).map λg=>.SK g (tJ (cS G S n) body)else L
   |_=>L
section
variable{G:Sg}{X:Cx}
theorem iZ{f:kZ->Option Sx}(hf:∀s y,f s=Y y->SS X C s y):∀(B:List kZ),Ja X C B (tJ f B)
 |[]=>Og
 | s::r=>JX (by
    show SS X C s ((f s).getD .Nn)
    cases q:f s with
    |none=>exact TH
    |some y=>exact hf _ _ q) (iZ hf r)
def vC(h:nY e=U):swapsWith e t line X.env=pure J:=by
 cases e<;>first|rfl|cases h
def KW(T:pI G C S X)(ht:S.top=U)(B:S.N.Nodup)(hi:S.N[i]?=Y t)(hl:wY S t=U):PG X (.Name t p) (lz i):=
 FD (by rwa[T.N]) (by rwa[T.N]) (rj T hl) (.inl (T.fn ht t))
theorem Bk(T:pI G C S X)(B:S.top=U)(g:S.N.Nodup):∀{es:List ba}{F:List aW}{O:List Nat},namesOf es=Y F->F.all (wY S)=U->tW S.N F=Y O->XN X es (gNs O)/\Z O=Z es
 |[],F,O,h,_,hc=>by
   cases h;cases hc;exact⟨FC,W⟩
 |e::es,F,O,h,hl,hc=>by
   obtain⟨t,h0,h⟩:=cA h;obtain⟨a,h1,rfl⟩:=ee h;obtain⟨p,rfl⟩:=fh h0;obtain⟨i,h2,hc⟩:=cA hc;obtain⟨is,h3,rfl⟩:=ee hc;rw[dU,ag]at hl;obtain⟨b,c⟩:=Bk T B g h1 hl.2 h3;exact⟨Bb (KW T B g (fZ h2) hl.1) b,congrArg _ c⟩
def JU(T:pI G C S X)(B:S.top=U)(O:S.N.Nodup)(ht:pQ tg=Y (one,F))(hl:F.all (wY S)=U)(hc:tW S.N F=Y I) :
  ∃g,Su X.K one I g/\PG X tg g:=by
 cases tg with
 |Name t p=>
   cases ht;obtain⟨i,h1,hc⟩:=cA hc;cases hc;exact⟨_,N7,KW T B O (fZ h1) (by simpa using hl)⟩
 |Tuple d k p=>
   obtain⟨a,h1,h⟩:=ee ht;cases h;obtain⟨b,c⟩:=Bk T B O h1 hl hc;exact⟨_,JS,KU T.calm b ((nZ h1).1.trans c.symm) (nZ h1).2.1⟩
 |_=>cases ht
def QP(T:pI G C S X)(hf:∀e x,f e=Y x->SE X C e x)(h:ZM G S f v=Y y):SS X C (.Return v pos) y:=by
 cases v with
 |none=>cases h
 |some e=>
   have h:(match Kv S e with|some i=>Y _|none=>(f e).map _)=Y y:=h
   cases a:Kv S e with
   |some i=>
     rw[a]at h;cases h;obtain⟨x,h1,h2⟩:=cA a;obtain⟨p,rfl⟩:=fh h1;obtain⟨hc,h2⟩:=bQ h2;rw[ag]at hc;exact Oj (by rw[T.N];exact fZ h2) (lF T hc.2) (fX hc.1).1 (fX hc.1).2.1
   |none=>
     rw[a]at h;obtain⟨xe,h1,rfl⟩:=ee h;exact TJ (hf _ _ h1)
def xI{ix:ba}(h:nY e=U):swapsWithSole [.Subscript a ix sp] e line env=pure J/\swappedStores [.Subscript a ix sp] e env=pure L:=by
 cases e<;>first|exact⟨W,W⟩|cases h
def Hq(h:isTup e=J):swapsWithSole [.Tuple es k tp] e line env=pure J/\swappedStores [.Tuple es k tp] e env=pure L:=by
 cases e<;>first|exact⟨W,W⟩|cases h
def qR{ix:ba}(h:xJ t=Y (x,ix)):∃p sp,t=.Subscript (.Name x p) ix sp:=by
 unfold xJ at h;split at h
 .obtain⟨a,h1,h2⟩:=ee h;cases h2;obtain⟨p,rfl⟩:=fh h1;exact⟨p,_,W⟩
 .cases h
def Oc{ix:ba}(h:Tg t=Y (x,ix,k)):∃p sp B,t=.Subscript (.Subscript (.Name x p) ix sp) k B:=by
 unfold Tg at h;split at h
 .obtain⟨⟨y,z⟩,h1,h2⟩:=ee h;cases h2;obtain⟨p,a,rfl⟩:=qR h1;exact⟨p,a,_,W⟩
 .cases h
def XZ(h:pQ t=Y (J,g)):∃es k tp,t=.Tuple es k tp:=by
 unfold pQ at h;split at h
 .cases h
 .exact⟨_,_,_,W⟩
 .cases h
def Zi{ix:ba}(h:kI ix=L):∀v,assign (.Subscript o ix p) env v=(do
   let g <-holding [v] (eval o env);let B <-holding [v,g] (eval ix env)
   standAt p
   holding [v,g,B] (setItem g B v)
   release [v,g,B] []):=λv=>by
 cases ix<;>first|rfl|cases h
def WS(hc:¬nY e=U)(h:cE G n S e=Y z):∃elt B sc cp,e=.ListComp elt B sc cp:=by
 cases n with
 |zero=>cases h
 |succ n=>
   cases e with
   |ListComp elt B sc cp=>exact⟨_,_,_,_,W⟩
   |SetComp _ _ _ _=>cases h
   |DictComp _ _ _ _ _=>cases h
   |_=>exact absurd rfl hc
def QO(h0:i≠0)(T:pI G C S X)(top:S.top=U)(nd:S.N.Nodup)(hl:wY S x=U)(h1:p7 x S.N=Y i)(h2:cE G n S e=Y xe):SS X C (.Assign [.Name x p] e pos) (.set i xe):=by
 have d:X.N.Nodup:=by rwa[T.N]
 have hi:X.N[i]?=Y x:=by rw[T.N];exact fZ h1
 have q:=(yt n S e xe h2 X T).1;by_cases hc:nY e=U
 .exact J0 h0 d hi (rj T hl) q (vC hc) (.inl (T.fn top x))
 .obtain⟨u,h,sc,cp,rfl⟩:=WS hc h2
  have c:swapsWith (.ListComp u h sc cp) (Y (.Name x p)) pos.line X.env=pure (JW S sc cp x p):=by
   unfold swapsWith JW;have hb:X.env.blockKind=.function:=by unfold Env.blockKind;rw[T.kind];rfl
   simp only[pure_bind,hb,r8,T.nm];rfl
  cases hb:JW S sc cp x p with
  |false=>
    rw[hb]at c;exact J0 h0 d hi (rj T hl) q c (.inl (T.fn top x))
  |true=>
    rw[hb]at c
    cases n with
    |zero=>cases h2
    |succ n=>
      refine ac λ_ t=>?_;obtain⟨g,h3,j⟩:=cA h2;obtain rfl:=BN h3;obtain⟨_,_,_,it,v,xe,s,rfl,tl,rfl,k,l,m,o,f,r⟩:=Cj (yt n) T j;refine t ?_;exact Dk h0 d hi (rj T hl) T.calm k l m o (λcl a b Ca ex=>(f cl a b Ca ex).1) (λcl a b Ca ex=>(f cl a b Ca ex).2.1) (λcl a b Ca ex=>(f cl a b Ca ex).2.2) c (jH r) (.inl (T.fn top x))
set_option tactic.hygienic true
def QX(T:pI G C S X)(top:S.top=U)(nd:S.N.Nodup)(h:W9 S (cE G n S) t e=Y y):SS X C (.Assign [t] e pos) y:=by
 have hf:=λe x(h)=>(yt n S e x h X T).1;unfold W9 at h
 cases ht:i5 t with
 |some x=>
   obtain⟨p,rfl⟩:=fh ht;obtain⟨hl,d⟩:=bQ h;obtain⟨i,h1,b⟩:=cA d;split at b
   .rename_i h0;obtain⟨xe,h2,rfl⟩:=ee b;exact QO h0 T top nd hl h1 h2
   .cases b
 |none=>
   rw[ht]at h
   cases hs:xJ t with
   |some z=>
     obtain⟨x,ix⟩:=z;obtain⟨p,sp,rfl⟩:=qR hs;obtain⟨hc,d⟩:=bQ h;simp only[ag,dN]at hc;refine ac λ_ m=>?_;obtain⟨⟨⟨q,hp⟩,f⟩,j⟩:=hc;obtain⟨i,h1,b⟩:=cA d;obtain⟨xe,h2,l⟩:=cA b;obtain⟨E,h3,rfl⟩:=ee l;obtain⟨d1,d2,d3⟩:=fX hp;refine m ?_;have c:=xI (line:=pos.line) (env:=X.env) (a:=.Name x p) (ix:=ix) (sp:=sp) j;exact Oi (DC (hf _ _ h2) (KY (nW (pos:=p) (by rw[T.N];exact fZ h1) (lF T q) d1 d2) (hf _ _ h3) (Fc (iF T.un)) (Zi f)) c.1 c.2 W)
   |none=>
    rw[hs]at h
    cases o:Tg t with
    |some z=>
     obtain⟨x,ix,k⟩:=z;obtain⟨p,sp,r,rfl⟩:=Oc o;obtain⟨hc,d⟩:=bQ h;simp only[ag,dN]at hc;obtain⟨⟨⟨⟨q,hp⟩,f⟩,s⟩,j⟩:=hc;obtain⟨i,h1,b⟩:=cA d;obtain⟨xe,h2,l⟩:=cA b;obtain⟨E,h3,u⟩:=cA l;obtain⟨B,v,rfl⟩:=ee u;have c:=xI (line:=pos.line) (env:=X.env) (a:=.Subscript (.Name x p) ix sp) (ix:=k) (sp:=r) j;exact TL (DC (hf _ _ h2) (KY (Bc uE (nW (by rw[T.N];exact fZ h1) (lF T q) (fX hp).1 (fX hp).2.1) (hf _ _ h3) (lR f)) (hf _ _ v) (Fc (by have:=T.un;exact iF this)) (Zi s)) c.1 c.2 W)
    |none=>
     rw[o]at h;obtain⟨⟨one,F⟩,h0,d⟩:=cA h;obtain⟨hl,b⟩:=bQ d;simp only[ag,iW]at hl;refine ac λ_ m=>?_;obtain⟨D,h1,l⟩:=cA b;obtain⟨xe,h3,rfl⟩:=ee l;obtain⟨g,w,A⟩:=JU T top nd h0 hl.1.1 h1;obtain rfl:one=J:=hl.2;obtain⟨es,k,tp,rfl⟩:=XZ h0;refine m ?_;have c:=Hq (line:=pos.line) (env:=X.env) (es:=es) (k:=k) (tp:=tp) hl.1.2;exact TF (hf _ _ h3) w A c.1 c.2 W
def P1(h:VI e=Y c):∃p,e=.Call (.Attribute (.Name c.x p) c.m c.ap) c.args [] c.cp:=by
 refine ac λ_ d=>?_;obtain⟨⟨fn,as,kws,cp⟩,h0,g⟩:=cA h;obtain⟨⟨o,m,ap⟩,h1,a⟩:=cA g;obtain⟨x,h2,b⟩:=cA a;cases (bQ b).2;obtain⟨p,f⟩:=fh h2;obtain rfl:o=.Name x p:=f;obtain rfl:kws=[]:=jt.mp (bQ b).1;obtain rfl:fn=.Attribute _ m ap:=sZ h1;refine d ?_;exact⟨p,zT h0⟩
def PV(h:VC e=Y c):∃p sp,e=.Call (.Attribute (.Subscript (.Name c.x p) c.ix sp) "append" c.ap) [c.a] [] c.cp:=by
 obtain⟨⟨fn,args,kws,cp⟩,h0,g⟩:=cA h;obtain⟨⟨o,m,ap⟩,h1,g⟩:=cA g;obtain⟨⟨x,ix⟩,h2,g⟩:=cA g;obtain⟨a,h3,g⟩:=cA g;obtain⟨hk,g⟩:=bQ g;cases g;simp only[ag,beq_iff_eq]at hk;obtain⟨p,sp,d⟩:=qR h2;obtain rfl:o=.Subscript _ ix sp:=d;obtain rfl:kws=[]:=jt.mp hk.1;obtain rfl:m="append":=hk.2;obtain rfl:fn=.Attribute (.Subscript _ ix sp) "append" ap:=sZ h1
 obtain⟨f,rfl⟩:∃f,args=[f]:=by rcases args with _|⟨f,_|_⟩<;>first|exact⟨_,W⟩|cases h3
 cases h3;exact⟨p,sp,zT h0⟩
def W0(T:pI G C S X)(hf:∀e x,f e=Y x->SE X C e x)(h:cLn G S f e=Y z):∃g p a es q k f' O ps,e=.Call (.Name g p) (a::es) [] q/\lK X.prog X.w X.K X.mg X.base yA k f' O ps (T4 X.K (Z z.2.2+1) (C z.1))/\lJ k X.A/\Gl X g/\X.mg g=Y (.ref f')/\eY X.K (.ref f')=U/\Binds X.K O ps []/\PE X a (se z.2.1)/\SA X C es z.2.2/\(g == ("__debug__":aW))=J/\aO (a::es) X.env=(J,eval a X.env)::aO es X.env/\(backTo q (aO es X.env)).any (·.1)=J:=by
 obtain⟨⟨g,as⟩,l,h⟩:=cA h;obtain⟨p,q,rfl⟩:=nF l
 cases as with
 |nil=>cases h
 |cons a es=>
   have h:(i5 a).bind (λy=>if(jo g && Gm S g && t8 S y && jo y && es.all du)=U then(Ea g 0 _).bind λd=>(p7 y _).bind λi=>(t9 f es).bind _ else L)=Y z:=h;obtain⟨v,o,h⟩:=cA h;obtain⟨hc,h⟩:=bQ h;simp only[ag]at hc;refine ac λ_ I=>?_;obtain⟨⟨⟨⟨r,b⟩,s⟩,hp⟩,c⟩:=hc;obtain⟨⟨j,n⟩,t,h⟩:=cA h;obtain⟨i,u,h⟩:=cA h;obtain⟨Q,B,h⟩:=cA h;refine I ?_;split at h
   .rename_i D;refine ac λ_ I=>?_;cases h;obtain⟨R,rfl⟩:=fh o;obtain⟨m,M,P⟩:=vY t;obtain⟨k,f',O,ps,F,E,H,hk,hb⟩:=T.fns m g n P;refine I ?_;rw[fH]at M;subst M;subst D;exact⟨g,p,_,es,q,k,f',O,ps,W,F.2,E,jE T b,H,hk,hb,nW (by rw[T.N];exact fZ u) (lF T s) (fX hp).1 (fX hp).2.1,(kK hf B).sa,(fX r).1,bZ W,o9 c⟩
   .cases h
def QS(T:pI G C S X)(top:S.top=U)(nd:S.N.Nodup)(hf:∀e x,f e=Y x->SE X C e x)(h:W1 G S f t e=Y y):SS X C (.Assign [t] e pos) y:=by
 obtain⟨v,n,b1⟩:=cA h;clear h;obtain⟨E,rfl⟩:=fh n;obtain⟨⟨g,as⟩,o,b2⟩:=cA b1;clear b1;obtain⟨pm,H,rfl⟩:=nF o;obtain⟨c,b3⟩:=bQ b2;clear b2;obtain rfl:g="max":=of_decide_eq_true c
 obtain⟨a,b,rfl⟩:∃a b,as=[a,b]:=by rcases as with _|⟨a,_|⟨b,_|_⟩⟩<;>first|exact⟨_,_,W⟩|cases b3
 obtain⟨m,r,b4⟩:=cA b3;clear b3;obtain⟨I,rfl⟩:=fh r;obtain⟨hc,b5⟩:=bQ b4;clear b4;simp only[ag]at hc;refine ac λ_ K=>?_;obtain⟨⟨⟨⟨⟨h1,hl⟩,s⟩,hp⟩,d⟩,i⟩:=hc;obtain rfl:=of_decide_eq_true h1;obtain⟨u,w,b6⟩:=cA b5;obtain⟨z,A,rfl⟩:=ee b6;obtain⟨g,p,a,M,q,k,O,P,ps,rfl,F,B,c,D,hk,hb,j,ha,hd,he,l⟩:=W0 T hf A;refine K ?_;exact TN T.calm F B c D hk hb j ha W hd he l (jE T d) (T.blt _ (by decide +kernel)) (by rwa[T.N]) (by rw[T.N];exact fZ w) (rj T hl) (nW (by rw[T.N];exact fZ w) (lF T s) (fX hp).1 (fX hp).2.1) (bZ W) (bZ i) W (.inl (T.fn top m))
def Im(T:pI G C S X)(hf:∀e x,f e=Y x->SE X C e x)(h:DS S f e=Y z):PE X e (Nm (KC X.K) (se z.1) (gE X.K C z.2)):=by
 obtain⟨⟨x,ix⟩,h1,h⟩:=cA h;obtain⟨p,d,rfl⟩:=qR h1;obtain⟨hc,h⟩:=bQ h;simp only[ag,dN]at hc;refine ac λ_ c=>?_;obtain⟨⟨⟨b,hp⟩,a⟩,_⟩:=hc;obtain⟨i,h2,h⟩:=cA h;obtain⟨g,h3,rfl⟩:=ee h;refine c ?_;exact Bc uE (nW (by rw[T.N];exact fZ h2) (lF T b) (fX hp).1 (fX hp).2.1) (hf _ _ h3) (lR a)
def QV(T:pI G C S X)(hf:∀e x,f e=Y x->SE X C e x)(h:cExp G S f e=Y y):SS X C (.Expr e pos) y:=by
 unfold cExp at h
 cases j:VI e with
 |none=>
   rw[j]at h
   cases hk:VC e with
   |none=>
     rw[hk]at h;obtain⟨xe,h1,rfl⟩:=ee (bQ h).2;exact TV (hf _ _ h1) (vC (bQ h).1)
   |some c=>
     rw[hk]at h;obtain⟨p,v,rfl⟩:=PV hk;obtain⟨x,ix,ap,a,cp⟩:=c;obtain⟨hc,k⟩:=bQ h;simp only[ag,dN]at hc;refine ac λ_ u=>?_;obtain⟨⟨⟨⟨q,hp⟩,l⟩,g⟩,r⟩:=hc;obtain⟨i,h1,n⟩:=cA k;obtain⟨w,h2,o⟩:=cA n;obtain⟨s,h3,rfl⟩:=ee o;refine u ?_;have d:=nW (pos:=p) (by rw[T.N];exact fZ h1) (lF T q) (fX hp).1 (fX hp).2.1;have b:aO _ X.env=(J,eval a _)::aO [] _:=bZ r;by_cases t:(DY ix || (i5 ix).isSome)=U
     .rw[if_pos t];exact TM D3 (qW (vx jG jw mS sH (Bc uE d (hf _ _ h2) (lR l)) (mN (hf _ _ h3) vA b) W (by rw[b];rfl) g b W) W)
     rw[if_neg t];exact TK (by simp) (by simp) D3 (qW (vx jG jw mS sH (Bc (Wb (by have:=T.un;omega)) d (hf _ _ h2) (lR l)) (Fb (hf _ _ h3) Kb b) W (by rw[b];rfl) g b W) W)
 |some c=>
   rw[j]at h;obtain⟨p,rfl⟩:=P1 j;obtain⟨x,m,ap,args,cp⟩:=c;obtain⟨hc,k⟩:=bQ h;simp only[ag]at hc;obtain⟨⟨q,hp⟩,g⟩:=hc;obtain⟨i,h1,n⟩:=cA k;obtain⟨z,h2,o⟩:=cA n;obtain⟨A,h3,rfl⟩:=ee o;have ha:=kK hf h2;have d:=nW (pos:=p) (by rw[T.N];exact fZ h1) (lF T q) (fX hp).1 (fX hp).2.1;clear h k n o j h2;unfold ZN at h3;split at h3
   .rename_i j;obtain⟨rfl,hk⟩:=j;cases h3;obtain⟨s,rfl⟩:=CG.mp hk;obtain⟨e,rfl,hs,he⟩:=ha.one;exact Ol (by simp) (by simp) D3 (qW (vx jG jw mS sH d ha.sf W (by rw[(bZ hs)];rfl) g (bZ hs) W) W)
   split at h3
   .rename_i j;obtain⟨rfl,hk⟩:=j;cases h3;obtain⟨s,rfl⟩:=CG.mp hk;obtain⟨e,rfl,hs,he⟩:=ha.one;exact TR (qW (vx jG mT PySem.F.type_list_extend Vz d ha.sf W (by rw[(bZ hs)];rfl) g (bZ hs) W) W)
   .cases h3
set_option tactic.hygienic false
theorem Si(T:pI G C S X)(top:S.top=U)(nd:S.N.Nodup):∀(n:Nat)(st:kZ)(y:Sx),cS G S n st=Y y->SS X C st y
 |0,_,_,h=>by cases h
 |n+1,st,y,h=>by
   have m:=λe x(h)=>yt n S e x h X T;have hf:=λe x h=>(m e x h).1;have hs:=Si T top nd n
   cases st with
   |Return v p=>exact QP T hf h
   |Assign q e p=>
     obtain⟨t,h1,i⟩:=cA h;obtain rfl:=fL h1
     cases j:W1 G S _ t e with
     |some z=>rw[j]at i;cases i;exact QS T top nd hf j
     |none=>rw[j]at i;exact QX T top nd i
   |Expr e p=>exact QV T hf h
   |If c a b p=>
     obtain⟨s,h1,rfl⟩:=ee (bQ h).2;exact Yg ((m _ _ h1).2 (bQ h).1) (iZ hs _) (iZ hs _)
   |For tg iter body o p=>
     obtain⟨he,i⟩:=bQ h;obtain rfl:=jt.mp he;obtain⟨⟨one,E⟩,h0,u⟩:=cA i;obtain⟨hc,B⟩:=bQ u;rw[ag]at hc;obtain⟨q,h1,k⟩:=cA B;obtain⟨g,d,f⟩:=JU T top nd h0 hc.1 h1;have hp:pZ (aG X.prog X.w) X.A X.env X.xe:=by rw[T.xe];exact EH
     cases j:DS S _ _ with
     |some z=>
       rw[j]at k;cases k;exact TQ hp T.calm (Im T hf j) f d (iZ hs _) (jH hc.2)
     |none=>
     rw[j]at k;obtain⟨it,h2,rfl⟩:=ee k;obtain⟨l,D⟩:=Sl T hf h2
     cases it with
     |itv a=>exact Om hp T.calm (D a W) f d (iZ hs _) (jH hc.2)
     |rng r=>exact yT hp T.calm l (λa z=>nomatch z) f d (iZ hs _) (jH hc.2)
     |zip r=>exact yT hp T.calm l (λa z=>nomatch z) f d (iZ hs _) (jH hc.2)
     |enu a=>exact yT hp T.calm l (λa z=>nomatch z) f d (iZ hs _) (jH hc.2)
     |rev a=>exact yT hp T.calm l (λa z=>nomatch z) f d (iZ hs _) (jH hc.2)
   |While c body o p=>
     obtain⟨hc,i⟩:=bQ h;rw[ag]at hc;obtain rfl:=jt.mp hc.1;obtain⟨s,h1,rfl⟩:=ee i;exact JZ (by rw[T.xe];exact EH) ((m _ _ h1).2 hc.2) (iZ hs _)
   |_=>cases h
end
structure Df where
 st:kZ
 p:Nat
 n:Nat
 body:List Sx
noncomputable def Df.name(d:Df):aW:=match d.st with
 |.FunctionDef x _ _ _ _ _ _ _ _ _=>x
 |_=>""
def Df.ps(d:Df):List aW:=(zJ d.st).args.map λa=>a.arg
def Df.N(d:Df):List aW:=d.ps++((dz d.st).names.filterMap λp=>if(p.2 == .local || p.2 == .cell) && !(d.ps.contains p.1)then Y p.1 else L)
def Cn(D:List Df):Nat->Fs
 |0=>λ_ _=>L
 | n+1=>λj a=>match D[j]? with
   |some d=>Qy (Cn D n) d.p d.n d.body a
   | none=>if CK<=j then match D[j - CK]? with
     |some d=>exL (Cn D n) d.p d.n d.body a
     |none=>L
     else L
def OD(D:List Df)(con:List (aW×Dat)):Sg:=⟨D.map λd=>(d.name,d.p),con⟩
structure Xv(G:Sg)(d:Df):Prop where
 sc:pX d.N d.ps (dz d.st)
 pn:Z d.ps=d.p
 nn:Z d.N=d.n
 cmp:tJ (cS G ⟨d.N,(dz d.st).names,U⟩ 40) (mP d.st)=d.body
section
variable{K:Fg}{mg:aW->Option ah}{base:cx}
structure At(K:Fg)(mg:aW->Option ah)(d:Df)(f:aL)(fd:j9):Prop where
 fn:Z6 K d.name d.name d.st f fd
 mgf:mg d.name=Y (.ref f)
 bd:∀us:List ah,Z us=Z d.ps->bindArgs fd ⟨us,[]⟩=pure (d.ps.zip us)
def Yu(K:Fg)(d:Df):Option (aL×ah×Option aL×j9×Array (Option ah)):=match nO K mainGlobals d.name with
 | some (Y (.ref f))=>match K.lookup f with
   |some ⟨oc,od,.func a,l⟩=>Y (f,oc,od,a,l)
   |_=>L
 |_=>L
def fnK(d:Df)(kV doc pm:ah)(an:Option aL)(cdv ct:ah):j9:=qK d.name d.name (zJ d.st) (mP d.st) (dz d.st) .none kV doc pm an cdv ct
def rdB(K:Fg)(d:Df):Bool:=match Yu K d with
 |some x=>uM K x.2.2.2.1.code d.name && eY K (.ref x.1)
 |none=>J
def rdF(K:Fg)(d:Df):Option j9:=(Yu K d).map λx=>x.2.2.2.1
def rdG(K:Fg)(d:Df):Option j9:=(Yu K d).map λx=>fnK d x.2.2.2.1.kwdefaults x.2.2.2.1.doc x.2.2.2.1.pyModule x.2.2.2.1.annotations x.2.2.2.1.code x.2.2.2.1.closureTuple
set_option tactic.hygienic true in
def Xg{D:List Df}(X:K.In h)(G:h.Ns mainGlobals mg)(h1:D.map (rdF K)=D.map (rdG K))(h2:D.all (rdB K)=U)(h3:∀(kV doc pm:ah) (an:Option aL) (cdv ct:ah) (u:Nat->ah),D.map (λd=>bindArgs (fnK d kV doc pm an cdv ct) ⟨(aQ d.ps.length).map u,[]⟩)=D.map λd=>pure (d.ps.zip ((aQ d.ps.length).map u))) :
  ∀d∈D,∃f B,At K mg d f B:=λd hd=>by
 have j:=tv.mp h1 d hd;have k:=bE.mp h2 d hd;unfold rdB at k;unfold rdF rdG at j
 cases e:Yu K d with
 |none=>rw[e]at k;cases k
 |some x=>
   obtain⟨f,oc,od,B,l⟩:=x;rw[e]at j k;have j :=bI j;unfold Yu at e;split at e
   .rename_i m a;split at e
    .rename_i b;refine ac λ_ c=>?_;cases e;refine c ?_;refine⟨f,B,⟨⟨_,_,_,_,_,_,_,_,_,j,b,(gD.mp k).1⟩,(gD.mp k).2⟩,Nb X G a,λus g=>?_⟩;have:=tv.mp (h3 B.kwdefaults B.doc B.pyModule B.annotations B.code B.closureTuple λi=>us.getD i .none) d hd
     have q:(aQ d.ps.length).map (λi=>us.getD i .none)=us:=by
      refine ju (by rw[aB,a8,g]) λi h1 h2=>?_;rw[um,rP,mJ,af h2];rfl
     rw[q]at this;exact(congrArg (λz=>bindArgs z _) j).trans this
    .cases e
   .cases e
structure Here(K:Fg)(mg:aW->Option ah)(D:List Df)(con:List (aW×Dat)):Prop where
 ok:∀d∈D,Xv (OD D con) d
 fn:∀d∈D,∃f fd,At K mg d f fd
 ln:Z D<=CK
 blt:∀x∈l9,mg x=L
 con:∀x d,con.lookup x=Y d->∃v u,mg x=Y u/\RelV v u/\CV K d v
theorem M4{D:List Df}{con:List (aW×Dat)}(T:Here K mg D con):∀(n j:Nat)(d:Df)(f:aL)(B:j9),D[j]?=Y d->At K mg d f B->lK P w K mg base yA n f B d.ps (oB K d.ps.length (Cn D n j))/\lK P w K mg base yA n f B d.ps (T4 K d.ps.length (Cn D n (j+CK)))
 |0,j,d,f,B,k,_=>by
   have p:∀vs H Q E,¬oB K d.ps.length (Cn D 0 j) vs H Q E:=λvs H Q E h=>by
    obtain⟨_,G,z,fr,h,_⟩:=h;cases h
   have b:∀vs H Q E,¬T4 K d.ps.length (Cn D 0 (j+CK)) vs H Q E:=λvs H Q E h=>by
    obtain⟨_,d,G,y,r,e,v,us,S,F,_,h,_⟩:=h;cases h
   exact⟨⟨λvs H Q E h=>absurd h (p vs H Q E),λA outer s H args us vs Q E _ _ _ _ h=>absurd h (p vs H Q E)⟩,⟨λvs H Q E h=>absurd h (b vs H Q E),λA outer s H args us vs Q E _ _ _ _ h=>absurd h (b vs H Q E)⟩⟩
 |n+1,j,d,f,B,k,u=>by
   have ok:=T.ok d (aZ k)
   have e:Cn D (n+1) j=Qy (Cn D n) d.ps.length d.N.length d.body:=by
    funext G;simp only[Cn,k,ok.pn,ok.nn]
   have t:Cn D (n+1) (j+CK)=exL (Cn D n) d.ps.length d.N.length d.body:=by
    funext G;simp only[Cn,(pN (aa T.ln (gp _ _))),if_pos (gp CK j),Nat.add_sub_cancel,k,ok.pn,ok.nn]
   rw[e,t];have c:Z d.ps<=Z d.N:=by have:=congrArg fI ok.sc.pre;grind
   have hb:∀(cdv:ah)(A:bT)(outer:List Nf)(s:ai)(H:Hp)(E:XK),lJ n (A.deeper (envOfC _ (dz _) _ f _))->Ja (xj yA P w K mg _ _ _ (dz _) f _ A _ s H E).RK _ (mP _) _:=λcdv A outer s H E q=>by
    have S:pI (OD D con) (Cn D n) ⟨d.N,(dz d.st).names,U⟩ (xj yA P w K mg base d.N d.name (dz d.st) f cdv A outer s H E).RK:=by
     refine⟨W,W,ok.sc.kind,W,?_,W,λ_ _=>W,λi x m hi=>?_,T.blt,T.con⟩
     .show(A.deeper _).units+21<dR;exact iF q.units
     .have o:∃l,D[i]?=Y l/\x=l.name/\m=Z l.ps:=by
       unfold OD at hi;rw[aR]at hi;obtain⟨l,C,M⟩:=ee hi;cases M;exact⟨l,C,W,(T.ok l (aZ C)).pn.symm⟩
      obtain⟨l,C,rfl,rfl⟩:=o;obtain⟨I,g,a⟩:=T.fn l (aZ C);exact⟨n,I,g,_,M4 T n i l I g C a,q,a.mgf,a.fn.kp,.all a.bd⟩
    exact ok.cmp▸iZ (Si S W ok.sc.nd 40) _
   exact⟨Ww u.fn ok.sc c hb,Wv u.fn ok.sc c hb⟩
def J2(K:Fg):Sp:=λvs H Q _=>∃(a:aL) (ns:List Int),vs=[.ref a]/\ng K H a (ns.map V.int)/\Z ns<=63/\∀b,Q (.bl U) b
def HQ(ns:List Int):cX K F (ns.map Dat.int) (ns.map V.int):=by
 induction ns with
 |nil=>exact rfl
 |cons n r a=>exact⟨_,_,W,W,a⟩
def VY{D:List Df}{con:List (aW×Dat)}(T:Here K mg D con)(B:D[j]?=Y d)(at_:At K mg d f fd)(hp:Z d.ps=1)
  (O:∀ns:List Int,Z ns<=63->∃fr,Cn D n j [.lst (ns.map Dat.int)]=Y (.bl U,fr)):lK P w K mg base yA n f fd d.ps (J2 K):=
 lK.imp (M4 T n j d f fd B at_).1 λvs H Q E c=>by
  obtain⟨a,ns,rfl,b,hl,q⟩:=c;obtain⟨fr,h⟩:=O ns hl;refine⟨by rw[hp];rfl,_,_,fr,h,H,⟨cc.refl _,λ_ _ z=>z⟩,⟨_,_,W,⟨a,_,W,b,HQ ns⟩,W⟩,λv g e _ r _=>?_⟩;rw[r];exact q e
def VX{D:List Df}{con:List (aW×Dat)}{l:jA}(T:Here K mg D con)(g:D[j]?=Y d)(B:d.ps=[x])(O:mg d.name=Y (.ref I))
  (C:∀ns:List Int,Z ns<=63->∃fr,Cn D n j [.lst (ns.map Dat.int)]=Y (.bl U,fr)) :
  ∃F:j9,(∀(s:ai)(u:ah),CC s F ⟨[u],[]⟩ [(x,u)])/\∀base:cx,K.In base->base.Ns mainGlobals mg->lK l.prog w K mg base yA n I F [x] (J2 K):=by
 refine ac λ_ a=>?_;obtain⟨f,F,b⟩:=T.fn d (aZ g);have e:=O.symm.trans b.mgf
 cases e;refine a ?_;refine⟨F,λs u=>?_,λbase _ _=>?_⟩
 .have:=b.bd [u] (by rw[B];rfl)
  rw[B]at this;exact .of_eq this
 .have:=VY (P:=l.prog) (w:=w) (base:=base) T g b (by rw[B];rfl) C
  simp_all
def walk{l:jA}{d:DefRec}{K:Params->Fg}(g:l.most=Y 63)(hk:lJ n callerA)(B:d.params.defaults=[])
  (C:∀(w:c6)(h:cx),P w h->(K w.params).In h)
  (F:∀(w:c6)(mg:aW->Option ah)(O:aL)(h:cx),(K w.params).In h->h.Ns mainGlobals mg->mg d.name=Y (.ref O)->
   ∃I:j9,(∀(s:ai)(u:ah),CC s I ⟨[u],[]⟩ [(x,u)])/\∀base:cx,(K w.params).In base->base.Ns mainGlobals mg->lK l.prog w (K w.params) mg base yA n O I [x] (J2 (K w.params))) :
  wM q loose R P l.row.toRowW d [] (λf vs=>G9 f vs):=
 L2.N3 g bR B hk C F (λ_ _ a ns hl _ b=>⟨a,ns,W,b,hl,λ_=>W⟩) λ_ _ _ _ _ z=>z
end
def QY{K:Fg}(X:K.In h)(G:h.Ns mainGlobals mg)(z:l9.map (λx=>nO K mainGlobals x)=br 20 (Y L)):∀x∈l9,mg x=L:=λx a=>by
 have q:nO K mainGlobals x∈l9.map (λx=>nO K _ x):=bX.mpr ⟨x,a,W⟩;rw[z]at q;exact PySem.W.mg_none_of X G (List.eq_of_mem_replicate q)
def dfL(G:Sg)(d:Df):ScopeKind×Bool×Bool×Bool×Nat×Nat×List Sx:=((dz d.st).kind,(dz d.st).isCoroutine,(dz d.st).isGenerator,decide (d.N.Nodup/\(∀x∈d.ps,(dz d.st).names.lookup x=Y .local\/(dz d.st).names.lookup x=Y .cell)/\∀y∈(dz d.st).names,y.2≠.free),d.ps.length,d.N.length,tJ (cS G ⟨d.N,(dz d.st).names,U⟩ 40) (mP d.st))
def Vj{G:Sg}{D:List Df}(h:D.map (dfL G)=D.map λd=>(.function,J,J,U,d.p,d.n,d.body)):∀d∈D,Xv G d:=λd hd=>by
 have e:=tv.mp h d hd;unfold dfL at e;simp only[wO]at e;obtain⟨j,k,l,f,e5,g,i⟩:=e;obtain⟨a,b,c⟩:=of_decide_eq_true f;exact⟨⟨j,k,l,a,List.take_left' W,b,c⟩,e5,g,i⟩
end M
namespace M
open PySem L2
section
@[simp] def oj:gQ .add (.int i) (.int j)=Y (.int (i+j),J):=rfl
@[simp] def wc:gQ .sub (.int i) (.int j)=Y (.int (i - j),J):=rfl
def oh(h:0<j):gQ .mod (.int i) (.int j)=Y (.int (i % j),J):=if_pos h
@[simp] def wb:jq .len [.lst xs]=Y (.int xs.length,J):=rfl
@[simp] def Et:jq .len [.tup xs]=Y (.int xs.length,J):=rfl
@[simp] def rp(ns:List Int):lW (ns.map Dat.int)=U:=by
 induction ns with
 |nil=>rfl
 |cons n r a=>show(U && lW (r.map Dat.int))=U;rw[a];rfl
end
section
def fi{ds:List Dat}(h:Z ds=np)(B:dZ C body (ds.map (λd=>Y (d,J))++br (nl - np) L)=Y (.rt d fr)):Qy C np nl body ds=Y (d,fr):=by
 unfold Qy;rw[if_pos h,B];rfl
def nU(h:pB C s ρ=Y (.nx ρ1)):dZ C (s::ss) ρ=dZ C ss ρ1:=by show(pB C s ρ).bind _=_;rw[h];rfl
def yS(h:pB C s ρ=Y (.rt d fr)):dZ C (s::ss) ρ=Y (.rt d fr):=by show(pB C s ρ).bind _=_;rw[h];rfl
def DH(h:pB C s ρ=Y (.nx ρ1)):dZ C [s] ρ=Y (.nx ρ1):=by show(pB C s ρ).bind _=_;rw[h];rfl
def L0(h:bf C e (full ρ)=Y (d,fr))(ht:fV d=Y U):pB C (.ifs e a b) ρ=dZ C a ρ:=by show(bf C e _).bind _=_;rw[h];show(fV d).bind _=_;rw[ht];rfl
def Gf(h:bf C e (full ρ)=Y (d,fr))(ht:fV d=Y J):pB C (.ifs e a b) ρ=dZ C b ρ:=by show(bf C e _).bind _=_;simp_all
end
section
def we(h1:-18446744073709551616<i)(h2:i<18446744073709551616):gQ .mul (.int i) (.int j)=Y (.int (i * j),J):=if_pos (.inl ⟨h1,h2⟩)
def qB(h1:-18446744073709551616<j)(h2:j<18446744073709551616):gQ .mul (.int i) (.int j)=Y (.int (i * j),J):=if_pos (.inr ⟨h1,h2⟩)
def Cq(h1:0<j)(h2:j<1073741824):gQ .fdiv (.int i) (.int j)=Y (.int (i / j),J):=if_pos ⟨h1,h2⟩
def zE{C:Fs}{i:Nat}{e:Ex}{ρ:cY}:pB C (.set i e) ρ=(bf C e (full ρ)).bind λx=>if(im x.1 || x.2)=U then Y (.nx (ρ.set i (Y (x.1,x.2 && !im x.1))))else(bf C e (yP (lZ e.fv ρ))).map λy=>.nx ((lZ e.fv ρ).set i (Y (y.1,y.2 && !im y.1))):=by
 show(Nw C e ρ).map _=_;unfold Nw
 cases bf C e (full ρ)with
 |none=>rfl
 |some x=>
   show kG _ (if(im _ || x.2)=U then _ else _)=if(im _ || x.2)=U then _ else _
   cases im _ || x.2 with
   |true=>rfl
   |false=>exact Ng ..
section
end
def sG{ds:List Dat}(h:Z ds<1000000):lG .app (.lst ds) [d]=Y (.lst (ds++[d])):=if_pos (by exact aa h bR)
def rH:pB C (.loop one g (.rng es) body) ρ=(zH C (.rng es) (full ρ)).bind λds=>i7 (eV one g) (dZ C body) ds ρ:=by
 show((zH C _ _).map _).bind _=_;cases zH C _ _<;>rfl
def ym:pB C (.loop one g (.itv e) body) ρ=(bf C e (full ρ)).bind λx=>if(im x.1 || x.2)=U then(kB x.1).bind λds=>i7 (eV one g) (dZ C body) ds ρ
  else(bf C e (yP (lZ e.fv ρ))).bind λy=>(kB y.1).bind λds=>i7 (eV one g) (dZ C body) ds (lZ e.fv ρ):=by
 show((Nw C e ρ).bind λx=>(kB _).map _).bind _=_;unfold Nw
 cases bf C e (full ρ)with
 |none=>rfl
 |some x=>
   refine (?_ : bc (bc (if(im _ || x.2)=U then _ else _) _) _=if(im _ || x.2)=U then _ else _)
   cases im _ || x.2 with
   |true=>refine (?_ : ((kB x.1).map _).bind _=(kB _).bind _);cases kB _<;>rfl
   |false=>
     cases bf C e (yP (lZ _ ρ))with
     |none=>rfl
     |some y=>refine (?_ : ((kB y.1).map _).bind _=(kB _).bind _);cases kB _<;>rfl
section
def WD:jM .eq (.str x) (.str y)=Y (x == y):=rfl
def aa8:jM .ne (.str x) (.str y)=Y (!(x == y)):=rfl
def ZA(h1:eU 19 ds=U)(h2:eU 19 g=U):jM .eq (.tup ds) (.tup g)=Y (oN ds g):=by simp only[jM,iY,h1,h2,qO,if_true,pE]
def aa7(h1:eU 19 ds=U)(h2:eU 19 g=U):jM .ne (.tup ds) (.tup g)=Y (!oN ds g):=by simp only[jM,iY,h1,h2,qO,if_true,pE]
end
def eW(h:bf C a ρ=Y (.bl x,f)):bf C (.and a b) ρ=if x=U then bf C b ρ else Y (.bl J,J):=by
 show(bf C a ρ).bind _=_;rw[h];rfl
def Mr(h:bf C a ρ=Y (.bl x,f)):bf C (.or a b) ρ=if x=U then Y (.bl U,J)else bf C b ρ:=by
 show(bf C a ρ).bind _=_;rw[h];rfl
def Gx(h:bf C c ρ=Y (d,f))(ht:fV d=Y x):bf C (.ite c a b) ρ=if x=U then bf C a ρ else bf C b ρ:=by
 show(bf C c ρ).bind _=_;simp_all
end
section
def pC:bf C (.v i) ρ=((ρ[i]?).join).map λd=>(d,J):=rfl
def pD:bf C (.bin o a b) ρ=(bf C a ρ).bind λx=>(bf C b ρ).bind λy=>gQ o x.1 y.1:=rfl
def Ef:bf C (.cmp o a b) ρ=(bf C a ρ).bind λx=>(bf C b ρ).bind λy=>(jM o x.1 y.1).map λr=>(.bl r,J):=rfl
def Wy:bf C (.not a) ρ=(bf C a ρ).bind λx=>(fV x.1).map λb=>(.bl (!b),J):=rfl
def zF:bf C (.tup es) ρ=(og C es ρ).bind λx=>if Z x.1<=1000000 then Y (.tup x.1,x.2)else L:=rfl
def Wz:bf C (.lst es) ρ=(og C es ρ).bind λx=>if Z x.1<=1000000 then Y (.lst x.1,x.2)else L:=rfl
def Gv:bf C (.ix a b) ρ=(bf C a ρ).bind λx=>(bf C b ρ).bind λy=>(x5 x.1 y.1).map λd=>(d,J):=rfl
def BY:bf C (.sl a b c) ρ=(bf C a ρ).bind λx=>(ZU C ρ b).bind λl=>(ZU C ρ c).bind λh=>E8 x.1 l h:=rfl
def jh:bf C (.call f es) ρ=(lI C es ρ).bind λds=>C f ds:=rfl
def WA:bf C (.blt f es) ρ=(lI C es ρ).bind λds=>jq f ds:=rfl
def bH:lI C (e::es) ρ=(bf C e ρ).bind λx=>(lI C es ρ).map λr=>x.1::r:=rfl
def gf:og C (e::es) ρ=(bf C e ρ).bind λx=>(og C es ρ).map λr=>(x.1::r.1,(x.2 || im x.1) && r.2):=rfl
def uH:bf C (.i6 m o es) ρ=(bf C o ρ).bind λx=>(lI C es ρ).bind λds=>hZ m x.1 ds:=rfl
def QA:zH C (.itv a) ρ=(bf C a ρ).bind λx=>kB x.1:=rfl
def Qz:zH C (.rng es) ρ=(lI C es ρ).bind Dy:=rfl
def mQ{ifs:List Ex}(hi:zH C it ρ=Y items)(hl:Z items<=1000000)(B:qr (oF C nt one (j2 nt caps ρ) ifs elt) items=Y (g,fr)) :
  bf C (.comp nt one caps it ifs elt) ρ=Y (.lst g,fr):=by
 show(zH C it ρ).bind _=_
 simp_all
def yr:oF C 1 U ρ0 [] elt d=(bf C elt (ρ0.set 0 (Y d))).map Y:=rfl
def MF{ρ0:ic}(h:bf C i (ρ0.set 0 (Y d))=Y (x,f))(ht:fV x=Y t):oF C 1 U ρ0 [i] elt d=if t=U then(bf C elt (ρ0.set 0 (Y d))).map Y else Y L:=by
 unfold oF;simp only[GS,bG,BZ,h,ht];cases t<;>rfl
end
mutual
noncomputable def same:Dat->Dat->Bool
 | .non,c=>match c with
   |.non=>U
   |_=>J
 | .bl a,c=>match c with
   |.bl b=>a == b
   |_=>J
 | .int i,c=>match c with
   |.int j=>i == j
   |_=>J
 | .str x,c=>match c with
   |.str y=>x == y
   |_=>J
 | .tup d,c=>match c with
   |.tup e=>vh d e
   |_=>J
 | .lst d,c=>match c with
   |.lst e=>vh d e
   |_=>J
 |_,_=>J
noncomputable def vh:List Dat->List Dat->Bool
 |[],[]=>U
 |x::a,y::b=>same x y && vh a b
 |_,_=>J
end
mutual
theorem Fh:∀(x y:Dat),same x y=U->x=y
 |.non,y,h=>by cases y<;>first|rfl|(simp[same]at h)
 |.bl a,y,h=>by cases y<;>first|(simp[same]at h;rw[h])|(simp[same]at h)
 |.int a,y,h=>by cases y<;>first|(simp[same]at h;rw[h])|(simp[same]at h)
 |.str a,y,h=>by cases y<;>first|(simp[same]at h;rw[h])|(simp[same]at h)
 |.tup a,y,h=>by cases y<;>first|(rw[vg _ _ h])|(simp[same]at h)
 |.lst a,y,h=>by cases y<;>first|(rw[vg _ _ h])|(simp[same]at h)
theorem vg:∀(x y:List Dat),vh x y=U->x=y
 |[],y,h=>by cases y<;>first|rfl|(simp[vh]at h)
 |x::a,y,h=>by
   cases y with
   |nil=>simp[vh]at h
   |cons y b=>
     simp[vh]at h;rw[Fh _ _ h.1,vg _ _ h.2]
end
def qU:g_->g_->Bool
 |some (d,b),Y (e,c)=>same d e && b == c
 |none,L=>U
 |_,_=>J
def pe(h:qU x y=U):x=y:=by
 cases x with
 |none=>cases y<;>first|rfl|(simp[qU]at h)
 |some x=>
   cases y with
   |none=>simp[qU]at h
   |some y=>
     obtain⟨d,b⟩:=x;simp[qU]at h;rw[Fh _ _ h.1,h.2]
def AW{n dflt:Nat}{i:Int}(h0:0<=i)(h1:i<=n):HT.jC n dflt (Y i)=i.toNat:=by
 obtain⟨k,rfl⟩:=j7 h0;exact dY (fJ.mp h1)
def GF{α:Type}{xs:List α}{i:Int}(h0:0<=i)(h1:i<=Z xs):cutD xs (Y i) L=xs.drop i.toNat:=by
 unfold cutD;rw[AW h0 h1,HT.AX];rw[dq (by simp)]
def GG{α:Type}{xs:List α}{i:Int}(h0:0<=i)(h1:i<=Z xs):cutD xs L (Y i)=xs.take i.toNat:=by
 unfold cutD;rw[AW h0 h1];rfl
def oi{xs g:List Dat}(h:Z xs+Z g<=1000000):gQ .add (.lst xs) (.lst g)=Y (.lst (xs++g),lW (xs++g)):=if_pos (n6 h)
noncomputable abbrev T(l:List Nat):aW:=⟨l.toArray⟩
def GZ(a b:List Nat):T a++T b=T (a++b):=by
 show Str.mk _=_;simp[T]
def ZZ(h:T a=T b):a=b:=by
 simp_all
def Sv(a b:List Nat):(T a == T b)=decide (a=b):=by
 by_cases h:a=b
 .subst h;simp
 simp_all
def tY(a:List Nat):(T a).length=a.length:=by show(a.toArray).size=_;simp
def qu:jM .isin (.str (T [c])) (.str (T l))=Y (decide (c∈l)):=by
 show Y _=_;rw[EF _ c]
def YS:jM .nin (.str (T [c])) (.str (T l))=Y (!decide (c∈l)):=by
 show Y _=_;rw[EF _ c]
def yX:eQ (T l)=l.map λc=>T [c]:=by
 unfold eQ;simp[T]
def len_T{l:List Nat}(h:Z l<=1000000):jq .len [.str (T l)]=Y (.int l.length,J):=by
 show(if(T l).length<=aE then Y (Dat.int _,J)else L)=_;rw[tY,if_pos (by exact aa h bR)]
def M8{a b:List Nat}(h:a.length+b.length<=1000000):gQ .add (.str (T a)) (.str (T b))=Y (.str (T (a++b)),J):=by
 show(if(T a).length+(T b).length<=aE then Y (Dat.str _,J)else L)=_;rw[if_pos (by exact aa h bR),GZ]
def Wc{l:List Nat}(hl:Z l<=1000000)(h:i<Z l):x5 (.str (T l)) (.int (i:Nat))=Y (.str (T [l[i]])):=by
 show(if(T l).length<=aE then(uK _ _).map λc=>Dat.str ⟨_⟩else L)=_;rw[if_pos (by exact aa hl bR)];rw[show uK _ _=Y l[i]from j3 (by simp[h])];rfl
theorem EX:∀ws:List (List Nat),AI (ws.map λl=>Dat.str (T l))=Y (ws.map T)
 |[]=>rfl
 |x::r=>by simp only[aA,AI,EX r,c7]
def V8:∀ws:List (List Nat),oG (T []) (ws.map T)=T ws.flatten:=by
 intro ws;rw[show oG _ _=Str.join _ (ws.map T)from StrLaws.glued_eq_join _ _]
 induction ws with
 |nil=>rfl
 |cons x r a=>
   cases r with
   |nil=>show T x=_;simp
   |cons y r=>
     show(T x++T []++Str.join _ _)=_;rw[a,GZ,GZ];simp
def uy{ws:List (List Nat)}(h:(ws.map (·.length)).sum<=1000000):hZ .join (.str (T [])) [.lst (ws.map λl=>Dat.str (T l))]=Y (.str (T ws.flatten),J):=by
 simp only[hZ,mSL,EX,bG];rw[if_pos,V8];rw[tY,cF];have e:(xx ((λx:aW=>x.length) ∘ T) ws)=ws.map _:=dP λl _=>tY l;rw[e];simpa using h
def ne_T(a b:List Nat):jM .ne (.str (T a)) (.str (T b))=Y (!decide (a=b)):=by
 show Y (!(T a == T b))=_;rw[Sv]
def abA(a b:List Nat):jM .eq (.str (T a)) (.str (T b))=Y (decide (a=b)):=by
 show Y (T a == T b)=_;rw[Sv]
theorem yn:∀(a b:List Int),oN (a.map Dat.int) (b.map Dat.int)=decide (a=b)
 |[],[]=>rfl
 |[],b::bs=>by simp[oN]
 |a::as,[]=>by simp[oN]
 |a::as,b::bs=>by
   simp only[aA,oN,pE,yn as bs];by_cases h:a=b
   .subst h;simp
   .simp[h]
theorem si(k:Nat):∀a:List Int,eU k (a.map Dat.int)=U
 |[]=>by simp[eU]
 |a::as=>by simp[eU,iY,si k as]
def Eu{xs g:List Dat}(h:Z xs+Z g<=1000000):gQ .add (.tup xs) (.tup g)=Y (.tup (xs++g),J):=if_pos (n6 h)
def Ii{ds es:List Dat}(h:Z ds+Z es<=1000000):lG .ext (.lst ds) [.lst es]=Y (.lst (ds++es)):=if_pos (n6 h)
def Ig{ds es:List Dat}(h:Z ds+Z es<=1000000):lG .ext (.lst ds) [.tup es]=Y (.lst (ds++es)):=if_pos (n6 h)
end M
namespace M
open PySem L2
noncomputable def sL:List Nat:=[97,98,99,100,101,102,103,104,105,106,107,108,109,110,111,112,113,114,115,116,117,118,119,120,121,122]
noncomputable def Sz:List Nat:=[119,98,109,101]
abbrev Fm:=List Nat×List Int×List Nat
abbrev iQ(t:Fm):Dat:=.tup [.str (T t.1),.tup (t.2.1.map Dat.int),.str (T t.2.2)]
def OV(h:m<=1000000):Dy [.int (m:Nat)]=Y ((aQ m).map λk:Nat=>Dat.int k):=by
 show(if _ then _ else L)=_;rw[if_pos (by omega)];simp
def Sa(xs:List Nat):(xs.map λc=>[c]).flatten=xs:=by
 induction xs with
 |nil=>rfl
 |cons a r b=>simp_all
def Ya(xs:List Nat):((xs.map λc=>[c]).map (·.length)).sum=Z xs:=by
 induction xs with
 |nil=>rfl
 |cons a r b=>rw[aA,aA,List.sum_cons,b];exact C4 _ _
def XB(k:Nat):List Nat:=(aQ 4).filterMap λi=>if k / 2 ^ i % 2=1 then Sz[i]? else L
def Ge(f:Fm):im (iQ f)=U:=by
 show(U && (lW (f.2.1.map _) && (U && U)))=U;rw[rp];rfl
theorem m6:∀fs:List Fm,lW (fs.map iQ)=U
 |[]=>rfl
 |f::fs=>by show(im (iQ f) && lW (fs.map iQ))=U;rw[Ge,m6 fs];rfl
def yW(a b c:Dat):E8 (.tup [a,b,c]) L (Y 2)=Y (.tup [a,b],J):=rfl
def AN(f:Fm):iY 20 (.tup [.str (T f.1),.tup (f.2.1.map Dat.int)])=U:=by
 show(U && (eU 18 (f.2.1.map _) && U))=U;rw[si];rfl
noncomputable abbrev tI(l:List Int):Dat:=.tup (l.map Dat.int)
open Builtin Builtin.Str
def L3{p q n:Nat}:strSliceIndices (Y (p:Int)) (Y (q:Int)) 1 n=strSliceIndices (Y (p:Int)) (Y ((min q n:Nat):Int)) 1 n:=by
 have h2:¬((q:Int)<0):=by simp
 have h3:¬(((min q n:Nat):Int)<0):=by simp
 have e:max (0:Int) (min (q) (n))=max 0 (min ((min q n:Nat):Int) (n)):=by rw[show((min q n:Nat):Int)=min (q:Int) n by omega,Int.min_assoc,Int.min_self]
 simp only[strSliceIndices,h2,h3,if_false,e,show((1:Int) > 0)=True by simp,if_true]
set_option tactic.hygienic true in
def uv{x:List Nat}(h1:p<=q)(h2:q<=Z x)(h:strSliceIndices l u 1 (Z x)=strSliceIndices (Y (p:Int)) (Y (q:Int)) 1 x.length):cJ (T x) l u=T ((x.drop p).take (q - p)):=by
 have e:=PySem.StrLaws.sliced_plain (T x) h1 (by exact h2);rw[tY]at e;unfold cJ;rw[tY,h,e,PySem.StrLaws.strSliceIndices_plain h1 h2];split
 .rename_i z;simp at z;have hp:p=0:=aD (qt (ws h1) h2 (ae z.symm)) (lw0);subst hp;rw[z,Rk,ot]
 .rfl
def J8{x:List Nat}(hp:p<=Z x)(B:p<=q):cJ (T x) (Y (p:Int)) (Y (q:Int))=T ((x.drop p).take (q - p)):=by
 rw[uv (by omega) (k9 _ _) L3]
 congr 1
 by_cases h:q<=Z x
 .rw[(dY h)]
 .rw[dq (by rw[eC];exact qt (ad hp) (a1 q x.length (iF (cz h))) (ay (Min.min q _) p)),dq (by rw[eC];exact Nat.sub_le_sub_right (ax (cz h)) _)]
def Oy:cJ (T (c::r)) L (Y 1)=T [c]:=by
 rw[uv (p:=0) (q:=1) (by simp) (by simp)]
 .rfl
 .rfl
open Builtin Builtin.Str
def J9{x:List Nat}{q:Nat}(h:q<=Z x):cJ (T x) L (Y (q:Int))=T (x.take q):=by
 rw[uv (aK _) h]
 .rfl
 .have e:max (0:Int) (min ((0)) (x.length))=0:=by rfl
  simp only[strSliceIndices,Int.lt_irrefl,if_false,e,show((1) > 0)=True by simp,if_true]
  simp_all
end M
namespace M
open PySem PySem.Spec PyProof.Rows L2
section
variable{K:Fg}
mutual
noncomputable def OX(K:Fg):Dat->ah->Bool
 |.str x,u=>match u with
   |.str y _=>decide (x=y)
   |_=>J
 |.int i,u=>match u with
   |.int j _=>decide (i=j)
   |_=>J
 | .tup b,u=>match u with
   |.ref p=>match K.lookup p with
     |some ⟨.type c,L,.seq a _,_⟩=>decide (c="tuple") && decide (a.size<=aE) && Ky K b a.toList
     |_=>J
   |_=>J
 |_,_=>J
noncomputable def Ky(K:Fg):List Dat->List ah->Bool
 |[],[]=>U
 |d::a,u::us=>OX K d u && Ky K a us
 |_,_=>J
end
set_option tactic.hygienic true
mutual
theorem Fn:∀(d:Dat)(u:ah),OX K d u=U->∃v,RelV v u/\CV K d v
 |.str x,u,h=>by
   unfold OX at h;split at h
   .cases of_decide_eq_true h;exact⟨.str x,⟨_,W⟩,λ_=>W,λ_ z=>nomatch z⟩
   .cases h
 |.int i,u,h=>by
   unfold OX at h;split at h
   .cases of_decide_eq_true h;exact⟨.int i,⟨_,W⟩,λ_=>W,λ_ z=>nomatch z⟩
   .cases h
 |.tup e,u,h=>by
   unfold OX at h;split at h
   .rename_i p;split at h
    .rename_i c f n l a;obtain⟨h1,h2⟩:=gD.mp (gD.mp h).1;cases of_decide_eq_true h1;obtain⟨vs,r,q⟩:=A4 e _ (gD.mp h).2;exact⟨.ref p,W,λF=>⟨p,vs,W,.inr ⟨_,_,n,a,W,W,of_decide_eq_true h2,r⟩,q F⟩,λb z=>by cases z;exact⟨_,a,W,W⟩⟩
    .cases h
   .cases h
 |.non,_,h=>nomatch h
 |.bl _,_,h=>nomatch h
 |.lst _,_,h=>nomatch h
 |.dct _ _,_,h=>nomatch h
 |.any,_,h=>nomatch h
theorem A4:∀(ds:List Dat)(us:List ah),Ky K ds us=U->∃vs,cV vs us/\∀F,cX K F ds vs
 |[],[],_=>⟨[],.nil,λ_=>W⟩
 |d::ds,u::us,h=>by
   obtain⟨h1,h2⟩:=gD.mp h;obtain⟨v,r,q⟩:=Fn d u h1;obtain⟨vs,a,b⟩:=A4 ds us h2;exact⟨v::vs,.cons r a,λF=>⟨v,vs,W,q.1 F,b F⟩⟩
 |[],_::_,h=>nomatch h
 |_::_,[],h=>nomatch h
end
def ZI(K:Fg)(p:aW×Dat):Bool:=match nO K mainGlobals p.1 with
 |some (Y u)=>OX K p.2 u
 |_=>J
theorem GI(X:K.In h)(G:h.Ns mainGlobals mg):∀{con:List (aW×Dat)},con.all (ZI K)=U->∀x d,con.lookup x=Y d->∃v u,mg x=Y u/\RelV v u/\CV K d v
 |(y,e)::b,h,x,d,q=>by
   obtain⟨h1,h2⟩:=gD.mp h;rw[fN]at q;split at q
   .rename_i z;cases q;rw[eq_of_beq z];unfold ZI at h1;split at h1
    .rename_i u a;obtain⟨v,r,c⟩:=Fn _ _ h1;exact⟨v,u,Nb X G a,r,c⟩
    .cases h1
   .exact GI X G h2 x d q
set_option tactic.hygienic false
end
end M
namespace K34
open PySem L2 M
noncomputable def top(i:Nat):kZ:=PySem.Challenge.pw_dots_k34_read.main.body.getD i (.Pass ⟨0,0,0,0⟩)
def SN:List Sx:=[.set 3 (.bin .add (.v 3) (.e_ 1))]
def VW:List Sx:=[.ifs (.cmp .nin (.v 4) (.v 2)) [.Nn] []]
def Io:List Sx:=[.YY .app 1 (.ix (.v 3) (.e_ 0)) [.v 3]]
def lbQ:List Sx:=[.ifs (.not (.call 38 [.v 1,.v 2,.v 10])) [.ret (.con (.bl J))] []]
def lbR:List Sx:=[.ifs (.cmp .isin (.v 6) (.ix (.v 3) (.v 5))) [.lmx 4 (11+CK) 3 [.ix (.v 2) (.v 6),.v 1,.v 5]] []]
def XE:List Sx:=[.ifs (.and (.call 2 [.v 6]) (.cmp .isin (.v 6) (.ix (.v 3) (.blt .len [.v 1])))) [.ret (.call 12 [.v 3,.v 6])] []]
def abp:List Sx:=[.ifs (.cmp .isin (.v 10) (.v 4)) [.mut .app 8 [.tup [.f_ "all",.i6 .upper (.v 2) [],.v 3,.v 11]]] []]
abbrev GX:Ex:=.tup [.v 0,.bin .add (.i6 .upper (.ix (.v 1) (.e_ 0)) []) (.sl (.v 1) (Y (.e_ 1)) L),.bin .add (.v 4) (.v 2),.v 3]
def STX:Ex:=.con (.tup [.str (ab "out"),.str (ab "in"),.str (ab "done"),.str (ab "num"),.str (ab "let"),.str (ab "all")])
def c10:Ex:=.and (.cmp .lt (.v 3) (.blt .len [.v 0])) (.and (.cmp .lt (.bin .add (.v 2) (.v 3)) (.blt .len [.v 1])) (.cmp .eq (.ix (.v 0) (.v 3)) (.ix (.v 1) (.bin .add (.v 2) (.v 3)))))
def B14:List Sx:=[.ifs (.and (.cmp .eq (.v 3) (.blt .len [.v 1])) (.call 2 [.v 4])) [.Ly 2 (.v 3) (.v 4) (.e_ 0)] [.Ly 2 (.v 3) (.v 4) (.call 17 [.ix (.v 0) (.v 4),.v 1,.v 3,.v 2])]]
def SM:List Sx:=[.set 4 (.ix (.ix (.v 0) (.v 3)) (.v 1)),.mut .app 2 [.ix (.v 4) (.e_ 1)],.set 3 (.bin .sub (.v 3) (.blt .len [.ix (.v 4) (.e_ 2)])),.set 1 (.ix (.v 4) (.e_ 0))]
def plX:Ex:=.i6 .join (.f_ "") [.comp 1 U [6] (.rng [.e_ 4]) [.cmp .eq (.bin .band (.bin .shr (.v 1) (.v 0)) (.e_ 1)) (.e_ 1)] (.ix (.f_ "wbme") (.v 0))]
def wB:List Sx:=[.set 7 (.call 19 [.call 15 [.ix (.v 2) (.v 6),.v 1,.v 5],.v 5,.v 3,.ix (.ix (.v 3) (.v 5)) (.v 6)]),.mut .app 4 [.v 7],.set 5 (.bin .add (.v 5) (.blt .len [.ix (.v 7) (.e_ 1)])),.set 6 (.ix (.v 7) (.e_ 3))]
def Ze:List Sx:=[.set 6 (.call 10 [.ix (.v 5) (.e_ 2),.v 2,.v 3]),.set 4 (.bin .mx (.v 4) (.bin .add (.v 3) (.v 6))),.ifs (.cmp .eq (.v 6) (.blt .len [.ix (.v 5) (.e_ 2)])) [.Ly 0 (.bin .add (.v 3) (.v 6)) (.ix (.v 5) (.e_ 3)) (.v 5)] []]
def Zb:List Sx:=[.set 10 (.bin .add (.v 5) (.blt .len [.ix (.v 9) (.e_ 1)])),.ifs (.and (.cmp .eq (.ix (.v 9) (.e_ 0)) (.v 6)) (.and (.cmp .eq (.sl (.v 3) (Y (.v 5)) (Y (.v 10))) (.ix (.v 9) (.e_ 1))) (.cmp .isin (.ix (.v 9) (.e_ 3)) (.ix (.v 4) (.v 10))))) [.mut .app 8 [.v 9]] []]
def Zd:List Sx:=[.ifs (.and (.cmp .eq (.blt .len [.ix (.v 2) (.e_ 0)]) (.e_ 1)) (.cmp .nin (.ix (.v 2) (.e_ 0)) (.v 1))) [.mut .app 1 [.ix (.v 2) (.e_ 0)],.ifs (.cmp .gt (.blt .len [.ix (.ix (.v 0) (.e_ 1)) (.e_ 0)]) (.e_ 0)) [.mut .app 1 [.i6 .upper (.ix (.v 2) (.e_ 0)) []]] []] []]
def Zh:List Sx:=[.ifs (.and (.cmp .isin (.f_ "w") (.v 4)) (.cmp .gt (.blt .len [.v 2]) (.e_ 1))) [.mut .app 8 [.tup [.v 9,.i6 .upper (.v 2) [],.bin .add (.v 6) (.v 3),.f_ "done"]]] [],.ifs (.cmp .isin (.f_ "b") (.v 4)) [.mut .app 8 [.tup [.v 9,.i6 .upper (.v 2) [],.bin .add (.v 6) (.v 3),.f_ "all"]]] []]
def iB:List Sx:=[.set 5 (.call 26 [.v 0,.v 3,.v 2,.v 1]),.ifs (.cmp .nin (.sl (.v 5) L (Y (.e_ 2))) (.comp 1 U [] (.itv (.v 4)) [] (.sl (.v 0) L (Y (.e_ 2))))) [.set 6 (.call 23 [.v 0,.bin .add (.e_ 10) (.v 3),.e_ 25031,.bin .add (.blt .len [.v 4]) (.e_ 1)]),.set 4 (.bin .add (.bin .add (.sl (.v 4) L (Y (.v 6))) (.lst [.v 5])) (.sl (.v 4) (Y (.v 6)) L))] []]
def Zm:List Sx:=[.ifs (.and (.cmp .isin (.v 10) (.v 4)) (.cmp .eq (.cmp .isin (.v 10) (.f_ "wb")) (.cmp .ne (.v 9) (.f_ "in")))) [.mut .app 8 [.tup [.v 9,.v 2,.v 3,.v 11]],.ifs (.cmp .gt (.blt .len [.v 5]) (.e_ 0)) [.mut .app 8 [.tup [.v 9,.bin .add (.i6 .upper (.sl (.v 2) L (Y (.e_ 1))) []) (.sl (.v 2) (Y (.e_ 1)) L),.bin .add (.v 5) (.v 3),.v 11]]] []] []]
def VV:List Sx:=[.set 4 (.tup [.ix (.ix (.v 0) (.e_ 2)) (.v 3)]),.mut .app 2 [.tup [.f_ "out",.blt .str [.v 3],.bin .add (.ix (.v 1) (.e_ 2)) (.v 4),.f_ "num"]],.mut .app 2 [.tup [.f_ "done",.blt .str [.v 3],.bin .add (.ix (.v 1) (.e_ 2)) (.v 4),.f_ "num"]],.mut .app 2 [.tup [.f_ "num",.blt .str [.v 3],.v 4,.f_ "num"]]]
def Zc:List Sx:=[.set 7 (.bin .add (.v 5) (.blt .len [.ix (.v 6) (.e_ 1)])),.ifs (.and (.cmp .eq (.sl (.v 1) (Y (.v 5)) (Y (.v 7))) (.ix (.v 6) (.e_ 1))) (.cmp .isin (.ix (.v 6) (.e_ 3)) (.ix (.v 2) (.v 7)))) [.set 8 (.bin .add (.blt .len [.ix (.v 6) (.e_ 2)]) (.ix (.ix (.v 2) (.v 7)) (.ix (.v 6) (.e_ 3)))),.Ly 2 (.v 5) (.ix (.v 6) (.e_ 0)) (.bin .mn (.v 8) (.i6 .get (.ix (.v 2) (.v 5)) [.ix (.v 6) (.e_ 0),.v 8]))] []]
def lbW:List Sx:=[.set 8 (.bin .add (.v 4) (.blt .len [.ix (.v 7) (.e_ 2)])),.set 9 (.tup [.bin .add (.v 5) (.blt .len [.ix (.v 7) (.e_ 1)]),.ix (.v 7) (.e_ 3)]),.set 10 (.and (.cmp .eq (.ix (.v 7) (.e_ 0)) (.v 6)) (.cmp .eq (.sl (.v 2) (Y (.v 4)) (Y (.v 8))) (.ix (.v 7) (.e_ 2)))),.ifs (.and (.v 10) (.and (.cmp .eq (.sl (.v 1) (Y (.v 5)) (Y (.ix (.v 9) (.e_ 0)))) (.ix (.v 7) (.e_ 1))) (.cmp .nin (.v 9) (.ix (.v 3) (.v 8))))) [.RO 3 (.v 8) (.v 9)] []]
def lbV:List Sx:=[.loop U [7] (.itv (.v 0)) lbW]
def lbT:List Sx:=[.XH J [5,6] 3 (.v 4) lbV]
def N0:List Sx:=[.set 8 (.lst []),.loop U [9] (.itv (.v 2)) Zb,.set 9 (.ix (.v 8) (.call 23 [.v 0,.bin .add (.v 1) (.blt .len [.v 7]),.e_ 70001,.blt .len [.v 8]])),.mut .app 7 [.v 9],.set 5 (.bin .add (.v 5) (.blt .len [.ix (.v 9) (.e_ 1)])),.set 6 (.ix (.v 9) (.e_ 3))]
def b0:List Sx:=[.ret (.i6 .join (.f_ "") [.blt .sset [.i6 .join (.f_ "") [.comp 1 U [] (.itv (.v 0)) [] (.ix (.v 0) (.e_ 0))]]])]
def b1:List Sx:=[.set 1 (.call 0 [.ix (.v 0) (.e_ 0)]),.set 2 (.ite (.cmp .eq (.ix (.ix (.v 0) (.e_ 1)) (.e_ 0)) (.tup [])) (.f_ "") (.i6 .upper (.v 1) [])),.set 3 (.sl (.f_ "0123456789") L (Y (.blt .len [.ix (.v 0) (.e_ 2)]))),.ret (.i6 .join (.f_ "") [.blt .sorted [.bin .add (.bin .add (.bin .add (.f_ " ") (.v 3)) (.v 2)) (.v 1)]])]
def b2:List Sx:=[.ret (.cmp .isin (.v 0) (.con (.tup [.str (ab "out"),.str (ab "done"),.str (ab "num")])))]
def b3:List Sx:=[.ret (.comp 1 U [] (.itv (.tup [.f_ "out",.f_ "done",.f_ "num"])) [] (.tup [.v 0,.f_ " ",.tup [.e_ 0],.f_ "out"]))]
def b4:List Sx:=[.ifs (.cmp .eq (.v 1) (.tup [])) [.ret (.lst [])] [],.set 2 (.lst [.tup [.f_ "num",.f_ "",.ix (.v 0) (.e_ 3),.f_ "let"]]),.loop J [3,4] (.zip [.f_ "0123456789",.v 1]) [.mut .app 2 [.tup [.f_ "out",.v 3,.bin .add (.ix (.v 0) (.e_ 2)) (.tup [.v 4]),.f_ "num"]],.mut .app 2 [.tup [.f_ "done",.v 3,.bin .add (.ix (.v 0) (.e_ 2)) (.tup [.v 4]),.f_ "num"]],.mut .app 2 [.tup [.f_ "num",.v 3,.tup [.v 4],.f_ "num"]]],.oM 2]
def b5:List Sx:=[.set 1 (.lst []),.loop J [2,3,4] (.itv (.v 0)) [.loop J [5,6,7] (.itv (.con (.tup [.tup [.str (ab "w"),.str (ab "out"),.str (ab "done")],.tup [.str (ab "w"),.str (ab "let"),.str (ab "done")],.tup [.str (ab "b"),.str (ab "out"),.str (ab "in")],.tup [.str (ab "b"),.str (ab "let"),.str (ab "in")],.tup [.str (ab "m"),.str (ab "in"),.str (ab "in")],.tup [.str (ab "e"),.str (ab "in"),.str (ab "done")]]))) [.ifs (.cmp .isin (.v 5) (.v 4)) [.mut .app 1 [.tup [.v 6,.v 2,.v 3,.v 7]]] []]],.oM 1]
def b6:List Sx:=[.ret (.comp 4 J [1] (.itv (.v 0)) [] GX)]
def b7:List Sx:=[.set 2 (.lst []),.loop J [3,4,5] (.itv (.v 0)) [.loop J [6,7,8] (.itv (.con (.tup [.tup [.str (ab "w"),.str (ab "out"),.str (ab "done")],.tup [.str (ab "w"),.str (ab "let"),.str (ab "done")],.tup [.str (ab "b"),.str (ab "out"),.str (ab "all")],.tup [.str (ab "b"),.str (ab "let"),.str (ab "all")],.tup [.str (ab "m"),.str (ab "all"),.str (ab "all")],.tup [.str (ab "e"),.str (ab "all"),.str (ab "done")]]))) [.ifs (.and (.cmp .isin (.v 6) (.v 5)) (.or (.cmp .ne (.v 6) (.f_ "w")) (.cmp .gt (.blt .len [.v 3]) (.e_ 1)))) [.set 9 (.ite (.cmp .eq (.v 7) (.f_ "all")) (.tup []) (.v 1)),.mut .app 2 [.tup [.v 7,.i6 .upper (.v 3) [],.bin .add (.v 9) (.v 4),.v 8]]] []]],.oM 2]
def b8:List Sx:=[.set 1 (.ix (.v 0) (.e_ 0)),.set 2 (.ix (.v 0) (.e_ 1)),.set 3 (.call 5 [.v 1]),.ifs (.cmp .ne (.ix (.v 2) (.e_ 0)) (.tup [])) [.set 3 (.bin .add (.v 3) (.call 6 [.v 3,.ix (.v 2) (.e_ 0)]))] [],.ifs (.cmp .ne (.ix (.v 2) (.e_ 1)) (.tup [])) [.set 3 (.bin .add (.v 3) (.call 7 [.v 1,.ix (.v 2) (.e_ 1)]))] [],.ifs (.cmp .eq (.ix (.v 0) (.e_ 2)) (.tup [])) [.set 3 (.comp 1 U [] (.itv (.v 3)) [.cmp .ne (.ix (.v 0) (.e_ 0)) (.f_ "let")] (.v 0))] [],.ret (.blt .sset [.bin .add (.bin .add (.v 3) (.call 3 [])) (.call 4 [.v 2,.ix (.v 0) (.e_ 2)])])]
def b9:List Sx:=[.set 1 .m7,.loop U [2] (.itv STX) [.mut .seti 1 [.lst [],.v 2]],.loop U [3] (.itv (.call 8 [.v 0])) Io,.oM 1]
def b10:List Sx:=[.set 3 (.e_ 0),.SK c10 SN,.oM 3]
def b11:List Sx:=[.set 4 (.v 3),.loop U [5] (.itv (.v 1)) Ze,.oM 4]
def b12:List Sx:=[.set 2 (.lst []),.set 3 (.bin .sub (.blt .len [.v 0]) (.e_ 1)),.SK (.cmp .gt (.v 3) (.e_ 0)) SM,.ret (.jrv (.f_ "") (.v 2))]
def b13:List Sx:=[.set 2 (.call 9 [.v 0]),.set 3 (.cat (.comp 1 U [] (.itv (.v 1)) [] .m7) (.lst [.m7])),.Ly 3 (.e_ 0) (.f_ "out") (.con .non),.set 4 (.e_ 0),.loop U [5] (.rng [.blt .len [.v 1]]) [.loop U [6] (.itv STX) lbR],.loop U [6] (.itv STX) XE,.Nn]
def b14:List Sx:=[.set 2 (.call 1 [.v 0]),.loop J [3,4] (.enu (.v 1)) VW]
def b15:List Sx:=[.ret (.comp 1 U [2,1] (.itv (.v 0)) [.i6 .startswith (.v 2) [.ix (.v 0) (.e_ 1),.v 1]] (.v 0))]
def b16:List Sx:=[.set 3 (.ix (.ix (.v 2) (.bin .add (.v 1) (.blt .len [.ix (.v 0) (.e_ 1)]))) (.ix (.v 0) (.e_ 3))),.ret (.ite (.cmp .isn (.v 3) (.con .non)) (.con .non) (.bin .add (.blt .len [.ix (.v 0) (.e_ 2)]) (.v 3)))]
def b17:List Sx:=[.set 4 (.comp 1 U [3,2] (.itv (.call 15 [.v 0,.v 1,.v 2])) [] (.call 16 [.v 0,.v 2,.v 1])),.ret (.mnd (.comp 1 U [] (.itv (.v 4)) [.cmp .nisn (.v 0) (.con .non)] (.v 0)))]
def b18:List Sx:=[.set 2 (.cat (.comp 1 U [] (.itv (.v 1)) [] .m7) (.lst [.m7])),.loop U [3] (.rng [.blt .len [.v 1],.neg (.e_ 1),.neg (.e_ 1)]) [.loop U [4] (.rev STX) B14],.oM 2]
def b19:List Sx:=[.ret (.ix (.comp 1 U [2,1,3] (.itv (.v 0)) [.cmp .eq (.call 16 [.v 0,.v 2,.v 1]) (.v 3)] (.v 0)) (.e_ 0))]
def b20:List Sx:=[.set 1 (.lst []),.loop U [2] (.itv (.v 0)) [.mut .ext 1 [.ix (.v 2) (.e_ 2)]],.ret (.blt .tuple [.v 1])]
def b21:List Sx:=[.exp (.call 14 [.v 0,.v 1]),.set 2 (.call 9 [.v 0]),.set 3 (.call 18 [.v 2,.v 1]),.set 4 (.lst []),.set 5 (.e_ 0),.set 6 (.f_ "out"),.SK (.cmp .lt (.v 5) (.blt .len [.v 1])) wB,.ret (.tup [.call 20 [.v 4],.v 4])]
def b22:List Sx:=[.ifs (.cmp .lt (.v 1) (.blt .len [.v 0])) [.ret (.ix (.v 0) (.v 1))] [],.ret (.e_ 0)]
def b23:List Sx:=[.set 4 (.bin .mod (.bin .add (.bin .add (.bin .mul (.call 22 [.v 0,.v 1]) (.e_ 48271)) (.bin .mul (.bin .mul (.e_ 7919) (.v 1)) (.v 1))) (.e_ 11)) (.v 2)),.ret (.bin .mod (.bin .mod (.bin .mul (.v 4) (.e_ 7919)) (.e_ 999983)) (.v 3))]
def b24:List Sx:=[.set 3 (.bin .add (.e_ 1) (.call 23 [.v 0,.v 1,.e_ 10007,.e_ 2])),.ifs (.cmp .eq (.call 23 [.v 0,.v 1,.e_ 10009,.e_ 8]) (.e_ 0)) [.set 3 (.bin .add (.e_ 1) (.call 23 [.v 0,.v 1,.e_ 10037,.e_ 4]))] [],.ret (.blt .tuple [.comp 1 U [2,1,0] (.rng [.v 3]) [] (.bin .add (.e_ 1) (.call 23 [.v 3,.v 2,.bin .add (.e_ 10039) (.bin .mul (.e_ 22) (.v 0)),.v 1]))])]
def b25:List Sx:=[.set 1 (.bin .add (.e_ 1) (.call 23 [.v 0,.e_ 0,.e_ 15013,.e_ 3])),.ifs (.cmp .eq (.call 23 [.v 0,.e_ 0,.e_ 15017,.e_ 6]) (.e_ 0)) [.set 1 (.bin .add (.e_ 1) (.call 23 [.v 0,.e_ 0,.e_ 15031,.e_ 6]))] [],.set 2 (.call 23 [.v 0,.e_ 1,.e_ 15053,.e_ 26]),.set 3 (.ix (.lst [.e_ 1,.e_ 3,.e_ 5,.e_ 7,.e_ 9,.e_ 11,.e_ 15]) (.call 23 [.v 0,.e_ 1,.e_ 15061,.e_ 7])),.ret (.comp 1 U [2,3] (.rng [.v 1]) [] (.ix (.f_ "abcdefghijklmnopqrstuvwxyz") (.bin .mod (.bin .add (.v 1) (.bin .mul (.v 0) (.v 2))) (.e_ 26))))]
def b26:List Sx:=[.set 4 (.bin .add (.e_ 1) (.call 23 [.v 0,.bin .add (.e_ 10) (.v 1),.e_ 20021,.e_ 3])),.ifs (.cmp .eq (.call 23 [.v 0,.bin .add (.e_ 10) (.v 1),.e_ 20023,.e_ 8]) (.e_ 0)) [.set 4 (.bin .add (.e_ 1) (.call 23 [.v 0,.bin .add (.e_ 10) (.v 1),.e_ 20029,.e_ 6]))] [],.set 5 (.i6 .join (.f_ "") [.comp 1 U [1,2,0] (.rng [.v 4]) [] (.ix (.v 2) (.call 23 [.v 3,.bin .add (.e_ 10) (.v 1),.bin .add (.e_ 20047) (.bin .mul (.e_ 22) (.v 0)),.blt .len [.v 2]]))]),.set 6 (.bin .add (.e_ 1) (.call 23 [.v 0,.bin .add (.e_ 10) (.v 1),.e_ 25013,.e_ 15])),.set 7 plX,.ret (.tup [.v 5,.call 24 [.v 0,.bin .add (.e_ 20) (.v 1),.v 3],.v 7])]
def b27:List Sx:=[.set 2 (.call 25 [.v 0]),.set 4 (.comp 1 U [1,2,0] (.rng [.blt .len [.v 2]]) [] (.tup [.ix (.v 2) (.v 0),.call 24 [.v 3,.bin .add (.e_ 4) (.v 0),.v 1],.f_ "wbme"])),.loop U [3] (.rng [.call 23 [.v 0,.e_ 2,.e_ 20011,.e_ 6]]) iB,.ret (.blt .tuple [.v 4])]
def b28:List Sx:=[.ret (.sl (.call 24 [.v 0,.v 1,.v 2]) L (Y (.e_ 2)))]
def b29:List Sx:=[.set 1 (.ix (.lst [.e_ 3,.e_ 6,.e_ 63]) (.call 23 [.v 0,.e_ 2,.e_ 30011,.e_ 3])),.set 2 (.lst [.tup [],.tup [],.tup [],.tup []]),.ifs (.cmp .eq (.call 23 [.v 0,.e_ 3,.e_ 30013,.e_ 3]) (.e_ 0)) [.mut .seti 2 [.call 28 [.v 0,.e_ 25,.v 1],.e_ 0],.ifs (.cmp .eq (.call 23 [.v 0,.e_ 3,.e_ 30029,.e_ 2]) (.e_ 0)) [.mut .seti 2 [.call 28 [.v 0,.e_ 26,.v 1],.e_ 1]] []] [],.set 3 (.lst []),.ifs (.cmp .eq (.call 23 [.v 0,.e_ 3,.e_ 30047,.e_ 3]) (.e_ 0)) [.set 4 (.bin .add (.e_ 1) (.call 23 [.v 0,.e_ 3,.e_ 30059,.e_ 3])),.ifs (.cmp .eq (.call 23 [.v 0,.e_ 3,.e_ 30071,.e_ 6]) (.e_ 0)) [.set 4 (.bin .add (.e_ 1) (.call 23 [.v 0,.e_ 3,.e_ 30089,.e_ 10]))] [],.set 3 (.comp 1 U [1,0] (.rng [.v 4]) [] (.bin .add (.e_ 1) (.call 23 [.v 2,.e_ 27,.bin .add (.e_ 30091) (.bin .mul (.e_ 22) (.v 0)),.v 1]))),.mut .seti 2 [.call 28 [.v 0,.e_ 28,.v 1],.e_ 2],.mut .seti 2 [.call 28 [.v 0,.e_ 29,.v 1],.e_ 3]] [],.ret (.tup [.call 27 [.v 0,.v 1],.blt .tuple [.v 2],.blt .tuple [.v 3]])]
def b30:List Sx:=[.unp [2,3,4] (.v 1),.set 5 (.ix (.ix (.v 0) (.e_ 1)) (.e_ 0)),.set 6 (.ix (.ix (.v 0) (.e_ 1)) (.e_ 1)),.set 7 (.sl (.lst [.f_ "out",.f_ "let"]) L (Y (.bin .add (.e_ 1) (.blt .int [.cmp .gt (.blt .len [.ix (.v 0) (.e_ 2)]) (.e_ 0)])))),.set 8 (.lst []),.loop U [9] (.itv (.bin .add (.v 7) (.lst [.f_ "in"]))) [.loop J [10,11] (.itv (.lst [.tup [.f_ "w",.f_ "done"],.tup [.f_ "b",.f_ "in"],.tup [.f_ "m",.f_ "in"],.tup [.f_ "e",.f_ "done"]])) Zm],.ifs (.cmp .eq (.blt .len [.v 6]) (.e_ 0)) [.oM 8] [],.loop U [9] (.itv (.v 7)) Zh,.loop J [10,11] (.itv (.lst [.tup [.f_ "m",.f_ "all"],.tup [.f_ "e",.f_ "done"]])) abp,.oM 8]
def b31:List Sx:=[.set 1 (.ix (.v 0) (.e_ 1)),.set 2 (.lst [.tup [.f_ "out",.f_ " ",.tup [.e_ 0],.f_ "out"],.tup [.f_ "done",.f_ " ",.tup [.e_ 0],.f_ "out"],.tup [.f_ "num",.f_ " ",.tup [.e_ 0],.f_ "out"]]),.loop U [3] (.rng [.blt .len [.ix (.v 0) (.e_ 2)]]) VV,.ifs (.cmp .gt (.blt .len [.ix (.v 0) (.e_ 2)]) (.e_ 0)) [.mut .app 2 [.tup [.f_ "num",.f_ "",.ix (.v 1) (.e_ 3),.f_ "let"]]] [],.loop U [5] (.itv (.ix (.v 0) (.e_ 0))) [.mut .ext 2 [.call 30 [.v 0,.v 5]]],.oM 2]
def b32:List Sx:=[.set 1 (.cat (.lst [.f_ " "]) (.comp 1 U [] (.rng [.blt .len [.ix (.v 0) (.e_ 2)]]) [] (.blt .str [.v 0]))),.loop U [2] (.itv (.ix (.v 0) (.e_ 0))) Zd,.oM 1]
def b33:List Sx:=[.set 3 (.call 32 [.v 1]),.set 3 (.bin .add (.v 3) (.sl (.v 3) (Y (.e_ 1)) L)),.ret (.i6 .join (.f_ "") [.comp 1 U [0,3] (.rng [.v 2]) [] (.ix (.v 2) (.call 23 [.v 1,.bin .add (.e_ 31) (.v 0),.e_ 35023,.blt .len [.v 2]]))])]
def b34:List Sx:=[.set 2 (.comp 1 U [] (.rng [.bin .add (.blt .len [.v 1]) (.e_ 1)]) [] .m7),.loop U [3] (.itv (.lst [.f_ "out",.f_ "done",.f_ "num"])) [.Ly 2 (.blt .len [.v 1]) (.v 3) (.e_ 0)],.loop U [4] (.rng [.bin .add (.blt .len [.v 1]) (.e_ 1)]) [.set 5 (.bin .sub (.blt .len [.v 1]) (.v 4)),.loop U [6] (.itv (.bin .add (.v 0) (.v 0))) Zc],.oM 2]
def b35:List Sx:=[.set 4 (.call 34 [.v 2,.v 3]),.set 5 (.e_ 0),.set 6 (.f_ "out"),.set 7 (.lst []),.SK (.cmp .lt (.v 5) (.blt .len [.v 3])) N0,.oM 7]
def b36:List Sx:=[.set 1 (.tup []),.loop U [2] (.itv (.v 0)) [.set 1 (.bin .add (.v 1) (.ix (.v 2) (.e_ 2)))],.oM 1]
def b37:List Sx:=[.set 3 (.comp 1 U [] (.rng [.bin .add (.blt .len [.v 2]) (.e_ 1)]) [] (.lst [])),.RO 3 (.e_ 0) (.tup [.e_ 0,.f_ "out"]),.loop U [4] (.rng [.blt .len [.v 2]]) lbT,.XH J [5,6] 3 (.blt .len [.v 2]) [.ifs (.and (.cmp .eq (.v 5) (.blt .len [.v 1])) (.cmp .isin (.v 6) (.lst [.f_ "out",.f_ "done",.f_ "num"]))) [.ret (.con (.bl U))] []],.ret (.con (.bl J))]
def b38:List Sx:=[.set 3 (.call 13 [.v 0,.v 2]),.ret (.and (.blt (.isi .str) [.v 3]) (.call 37 [.v 1,.v 3,.v 2]))]
def b39:List Sx:=[.set 1 (.call 29 [.v 0]),.set 2 (.call 31 [.v 1]),.set 3 (.call 23 [.v 0,.e_ 2,.e_ 35027,.e_ 15]),.ifs (.cmp .eq (.call 23 [.v 0,.e_ 2,.e_ 35051,.e_ 4]) (.e_ 0)) [.set 3 (.bin .add (.e_ 13) (.call 23 [.v 0,.e_ 30,.e_ 35053,.e_ 20]))] [],.set 4 (.call 33 [.v 0,.v 1,.v 3]),.set 5 (.call 36 [.call 35 [.v 0,.e_ 31,.v 2,.v 4]]),.ifs (.not (.call 38 [.v 1,.v 2,.v 5])) [.ret (.con (.bl J))] [],.set 6 (.ix (.call 21 [.v 1,.v 4]) (.e_ 0)),.set 7 (.call 36 [.call 35 [.v 0,.e_ 17,.v 2,.sl (.v 4) L (Y (.bin .fdiv (.v 3) (.e_ 2)))]]),.set 8 (.tup [.ix (.v 1) (.e_ 0),.tup [.tup [],.tup [],.tup [],.tup []],.tup []]),.set 9 (.call 33 [.v 0,.v 8,.bin .fdiv (.v 3) (.e_ 2)]),.ifs (.not (.call 38 [.v 8,.call 31 [.v 8],.call 36 [.call 35 [.v 0,.e_ 31,.call 31 [.v 8],.v 9]]])) [.ret (.con (.bl J))] [],.loop U [10] (.itv (.lst [.v 6,.v 7,.v 5,.tup []])) lbQ,.ret (.cmp .eq (.call 13 [.v 1,.tup []]) (.f_ ""))]
def d0:Df:=⟨top 6,1,1,b0⟩
def d1:Df:=⟨top 7,1,4,b1⟩
def d2:Df:=⟨top 13,1,1,b2⟩
def d3:Df:=⟨top 14,0,0,b3⟩
def d4:Df:=⟨top 15,2,5,b4⟩
def d5:Df:=⟨top 16,1,8,b5⟩
def d6:Df:=⟨top 17,2,2,b6⟩
def d7:Df:=⟨top 18,2,10,b7⟩
def d8:Df:=⟨top 19,1,4,b8⟩
def d9:Df:=⟨top 20,1,4,b9⟩
def d10:Df:=⟨top 22,3,4,b10⟩
def d11:Df:=⟨top 23,4,7,b11⟩
def d12:Df:=⟨top 24,2,5,b12⟩
def d13:Df:=⟨top 25,2,7,b13⟩
def d14:Df:=⟨top 27,2,5,b14⟩
def d15:Df:=⟨top 28,3,3,b15⟩
def d16:Df:=⟨top 29,3,4,b16⟩
def d17:Df:=⟨top 30,4,5,b17⟩
def d18:Df:=⟨top 31,2,5,b18⟩
def d19:Df:=⟨top 32,4,4,b19⟩
def d20:Df:=⟨top 33,1,3,b20⟩
def d21:Df:=⟨top 34,2,8,b21⟩
def d22:Df:=⟨top 36,2,2,b22⟩
def d23:Df:=⟨top 37,4,5,b23⟩
def d24:Df:=⟨top 38,3,4,b24⟩
def d25:Df:=⟨top 39,1,4,b25⟩
def d26:Df:=⟨top 40,4,8,b26⟩
def d27:Df:=⟨top 41,2,7,b27⟩
def d28:Df:=⟨top 42,3,3,b28⟩
def d29:Df:=⟨top 43,1,5,b29⟩
def d30:Df:=⟨top 44,2,12,b30⟩
def d31:Df:=⟨top 45,1,6,b31⟩
def d32:Df:=⟨top 46,1,3,b32⟩
def d33:Df:=⟨top 47,3,4,b33⟩
def d34:Df:=⟨top 48,2,9,b34⟩
def d35:Df:=⟨top 49,4,11,b35⟩
def d36:Df:=⟨top 50,1,3,b36⟩
def d37:Df:=⟨top 51,3,11,b37⟩
def d38:Df:=⟨top 52,3,4,b38⟩
def d39:Df:=⟨top 53,1,11,b39⟩
def D:List Df:=[d0,d1,d2,d3,d4,d5,d6,d7,d8,d9,d10,d11,d12,d13,d14,d15,d16,d17,d18,d19,d20,d21,d22,d23,d24,d25,d26,d27,d28,d29,d30,d31,d32,d33,d34,d35,d36,d37,d38,d39]
noncomputable def con:List (aW×Dat):=[(ab "FIGURES",(.str (ab "0123456789"))),(ab "STATES",(.tup [(.str (ab "out")),(.str (ab "in")),(.str (ab "done")),(.str (ab "num")),(.str (ab "let")),(.str (ab "all"))])),(ab "END_STATES",(.tup [(.str (ab "out")),(.str (ab "done")),(.str (ab "num"))])),(ab "WAYS",(.tup [(.tup [(.str (ab "w")),(.str (ab "out")),(.str (ab "done"))]),(.tup [(.str (ab "w")),(.str (ab "let")),(.str (ab "done"))]),(.tup [(.str (ab "b")),(.str (ab "out")),(.str (ab "in"))]),(.tup [(.str (ab "b")),(.str (ab "let")),(.str (ab "in"))]),(.tup [(.str (ab "m")),(.str (ab "in")),(.str (ab "in"))]),(.tup [(.str (ab "e")),(.str (ab "in")),(.str (ab "done"))])])),(ab "ALL_GREAT_WAYS",(.tup [(.tup [(.str (ab "w")),(.str (ab "out")),(.str (ab "done"))]),(.tup [(.str (ab "w")),(.str (ab "let")),(.str (ab "done"))]),(.tup [(.str (ab "b")),(.str (ab "out")),(.str (ab "all"))]),(.tup [(.str (ab "b")),(.str (ab "let")),(.str (ab "all"))]),(.tup [(.str (ab "m")),(.str (ab "all")),(.str (ab "all"))]),(.tup [(.str (ab "e")),(.str (ab "all")),(.str (ab "done"))])]))]
def G:Sg:=OD D con
def YO:∀d∈D,Xv G d:=Vj (by kernel_rfl)
end K34
namespace M
open PySem PySem.Spec PyProof.Rows L2
end M
namespace K34
open PySem L2 M
structure D8(f:Fm):Prop where
 ne:f.1≠[]
 low:∀c∈f.1,c∈sL
 ll:Z f.1<=6
 c1:0<Z f.2.1
 cl:Z f.2.1<=4
 pp:∃k,1<=k/\k<16/\f.2.2=XB k
noncomputable abbrev Zq(i:Int):N2:=.inl (.inl i)
theorem vG:∀g:List Int,RM (g.map Dat.int)=Y (g.map Zq)
 |[]=>rfl
 |c::r=>by simp only[aA,RM,n2I,vG r,bG,c7]
def Qn{a b:List Int}(e:a.map Zq=b.map Zq):a=b:=(Jh (λx y z=>An (An z))).mp e
end K34
namespace K34E
open PySem L2 M K34
abbrev sT(l:List Nat):Dat:=.str (T l)
def wU(h:bf C a (full ρ)=Y (d,fl)):dZ C [.ret a] ρ=Y (.rt d fl):=by
 show bc (kG _ (bf C a _)) _=_;rw[h];rfl
def dv(h:bf C a (full ρ)=Y (d,fl))(hi:im d=U):pB C (.set i a) ρ=Y (.nx (ρ.set i (Y (d,J)))):=by
 rw[zE]
 grind
def Fd(h:bf C a (full ρ)=Y (.lst ds,U)):pB C (.set i a) ρ=Y (.nx (ρ.set i (Y (.lst ds,U)))):=by
 rw[zE,h];rfl
def Ev(C:Fs)(e:Ex)(ρ:ic)(P:Dat->Prop):Prop:=∃d f,bf C e ρ=Y (d,f)/\im d=U/\P d
def Ei(C:Fs)(e:Ex)(ρ:ic)(P:Nat->Prop):Prop:=∃q f,bf C e ρ=Y (.int (q:Nat),f)/\P q
def Go(C:Fs)(B:List Sx)(ρ:cY)(Q:Out->Prop):Prop:=∃o,dZ C B ρ=Y o/\Q o
def Dw(C:Fs)(N:Dat):Prop:=∀k p m:Int,0<=k/\k<=1000->0<p->0<m->∃q:Nat,C 23 [N,.int k,.int p,.int m]=Y (.int (q:Nat),J)/\(q:Int)<m
section
def gW(hd:Dw C N)(h0:bf C a ρ=Y (N,f))(h1:bf C k ρ=Y (.int i,g))(h2:bf C p ρ=Y (.int j,h))(h3:bf C m ρ=Y (.int l,w))(hk:0<=i/\i<=1000)(hp:0<j)(B:0<l)(H:∀q:Nat,(q:Int)<l->P q):Ei C (.call 23 [a,k,p,m]) ρ P:=by
 obtain⟨q,r,b⟩:=hd i j l hk hp B;exact⟨q,J,by rwa[jh,bH,h0,bH,h1,bH,h2,bH,h3],H q b⟩
def Mu(c:Nat)(h:Ei C e ρ P)(hp:∀q,P q->g (c+q)):Ei C (.bin .add (.con (.int (c:Nat))) e) ρ g:=by
 obtain⟨q,f,r,b⟩:=h;refine⟨_,J,?_,hp q b⟩;rw[pD,r];show Y (Dat.int _,J)=_;simp
def Ek(h:Ei C e ρ P)(hp:∀q,P q->g (1+q)):Ei C (.bin .add (.e_ 1) e) ρ g:=Mu 1 h hp
def tQ{b:Nat}(hd:Dw C N)(h0:bf C a ρ=Y (N,f))(h1:bf C k ρ=Y (.int i,g))(h2:bf C p ρ=Y (.int j,h))(h3:bf C m ρ=Y (.int l,w))(hk:0<=i/\i<=1000)(hp:0<j)(B:0<l)(hb:l<=b):Ei C (.bin .add (.e_ 1) (.call 23 [a,k,p,m])) ρ λv=>1<=v/\v<=b:=
 Ek (gW hd h0 h1 h2 h3 hk hp B λ_ h=>h) λq h=>by omega
def Gz{is:List Nat}(B:bf C x ρ=Y (.lst (is.map λi:Nat=>Dat.int i),f))(h:Ei C e ρ (·< Z is))(hp:∀q∈is,P q):Ei C (.ix x e) ρ P:=by
 obtain⟨q,g,r,a⟩:=h;refine⟨_,J,?_,hp _ (bA a)⟩;rw[Gv,B,r];show((uK _ _).map _)=_;rw[j3 (by rw[aR,af a];rfl)];rfl
def tP(h:Ei C e ρ P)(j:Int):∃t f,bf C (.cmp .eq e (.con (.int j))) ρ=Y (.bl t,f):=by
 obtain⟨q,f,r,_⟩:=h;exact⟨_,J,by rw[Ef,r];rfl⟩
def fW(h1:bf C a ρ=Y (x',f))(h2:bf C e ρ=Y (y,g))(h:jM o x' y=Y r):bf C (.cmp o a e) ρ=Y (.bl r,J):=by rw[Ef,h2];simp_all
def fj(h1:bf C a ρ=Y (x',f))(h2:bf C e ρ=Y (y,g))(h:gQ o x' y=r):bf C (.bin o a e) ρ=r:=by rwa[pD,h1,h2]
def gn(h1:bf C a ρ=Y (x',f))(h:jq o [x']=r):bf C (.blt o [a]) ρ=r:=by rwa[WA,bH,h1]
def VF(h1:bf C a ρ=Y (x',f))(h:hZ o x' []=r):bf C (.i6 o a []) ρ=r:=by rwa[uH,h1]
def VE(h1:bf C a ρ=Y (x',f))(h2:bf C e ρ=Y (y,g))(h:hZ o x' [y]=r):bf C (.i6 o a [e]) ρ=r:=by rwa[uH,h1,bH,h2]
def tM(h1:bf C a ρ=Y (x',f))(h2:bf C e ρ=Y (y,g))(h:x5 x' y=Y d):bf C (.ix a e) ρ=Y (d,J):=by rw[Gv,h1,h2];show(x5 x' y).map _=_;rw[h];rfl
def Ka(h1:bf C a ρ=Y (x',f))(h2:bf C e ρ=Y (.int i,g))(h:E8 x' L (Y i)=r):bf C (.sl a L (Y e)) ρ=r:=by rw[BY,h1];show bc (vy _) _=_;rwa[h2]
def T8(h1:bf C a ρ=Y (x',f))(h2:bf C e ρ=Y (.int i,g))(h:E8 x' (Y i) L=r):bf C (.sl a (Y e) L) ρ=r:=by rw[BY,h1];show bc (vy _) _=_;rwa[h2]
def qg(h1:bf C a ρ=Y (x',f)):bf C (.call q [a]) ρ=C q [x']:=by rw[jh,bH,h1];rfl
def Ce(h1:bf C a ρ=Y (x',f))(h2:bf C e ρ=Y (y,g)):bf C (.call q [a,e]) ρ=C q [x',y]:=by rw[jh,bH,h1,bH,h2];rfl
def wa(h1:bf C a ρ=Y (x',f))(h2:bf C e ρ=Y (y,g))(h3:bf C x ρ=Y (z,h)):bf C (.call q [a,e,x]) ρ=C q [x',y,z]:=by rw[jh,bH,h1,bH,h2,bH,h3];rfl
def qx(h:Ei C e ρ P):Ev C e ρ (λd=>∃q:Nat,d=.int (q:Nat)/\P q):=by
 obtain⟨q,f,r,b⟩:=h;exact⟨_,f,r,W,q,W,b⟩
def Ee(h:bf C a ρ=Y (.int i,f))(B:bf C e ρ=Y (.int j,g))(hi:0<=i/\i<=1000):bf C (.bin .mul a e) ρ=Y (.int (i * j),J):=by
 rw[pD,h,B];exact we (Jl hi.1) (fU hi.2 bR)
def l5(h:bf C a ρ=Y (.int i,f))(B:bf C e ρ=Y (.int j,g)):bf C (.bin .add a e) ρ=Y (.int (i+j),J):=by
 rw[pD,h,B];rfl
def qd{m:Nat}(h:bf C e ρ=Y (.int (m:Nat),f))(B:m<=1000):zH C (.rng [e]) ρ=Y ((aQ m).map λk:Nat=>Dat.int k):=by
 rw[Qz,bH,h];exact OV (aa B bR)
def Mp{F:List Nat}{P:Nat->Prop}(B:bf C x ρ=Y (.lst (F.map λc=>sT [c]),f))(h:Ei C e ρ (·< Z F))(hl:∀c∈F,P c):∃c b,bf C (.ix x e) ρ=Y (sT [c],b)/\P c:=by
 obtain⟨q,g,r,a⟩:=h;refine⟨_,J,?_,hl _ (bA a)⟩;rw[Gv,B,r];show((uK _ _).map _)=_;rw[j3 (by rw[aR,af a];rfl)];rfl
def pU{α I:Type}{caps:List Nat}{it:Iw}{elt:Ex}{xs:List α}{e:α->Dat}(g:I->Dat)(P:α->I->Prop)(hi:zH C it ρ=Y (xs.map e))(hl:Z xs<=1000)(B:∀y,im (g y)=U)(h:∀x∈xs,∃y b,bf C elt ((j2 1 caps ρ).set 0 (Y (e x)))=Y (g y,b)/\P x y):∃F:List I,bf C (.comp 1 U caps it [] elt) ρ=Y (.lst (F.map g),U)/\Z F=Z xs/\(∀y∈F,∃x∈xs,P x y)/\∀x∈xs,∃y∈F,P x y:=by
 suffices ∃F:List I,qr (oF C 1 U (j2 1 _ ρ) [] _) _=Y _/\Z F=Z xs/\(∀y∈F,∃x∈xs,P x y)/\∀x∈xs,∃y∈F,P x y by
  obtain⟨F,a,b⟩:=this;exact⟨F,mQ hi (by rw[aB];exact aa hl bR) a,b⟩
 clear hi hl
 induction xs with
 |nil=>exact⟨[],W,W,(λ_ h=>nomatch h),(λ_ h=>nomatch h)⟩
 |cons x xs d=>
   refine ac λ_ i=>?_;obtain⟨y,b,hb,hp⟩:=h x jL;obtain⟨F,h1,h2,h3,f⟩:=d λz c=>h z (jZ _ c);refine i ?_;refine⟨y::F,?_,by simp_all,λz c=>?_,λz c=>?_⟩
   .rw[aA,qr,yr,hb,h1];simp[B y]
   .rcases aw.mp c with rfl|c
    .exact⟨x,jL,hp⟩
    simp_all
   .rcases aw.mp c with rfl|c
    .exact⟨y,jL,hp⟩
    simp_all
end
section
variable{C:Fs}{ρ:cY}{e:Ex}{ss:List Sx}{Q:Out->Prop}{P:Dat->Prop}{i:Nat}
def bL(h:pB C s ρ=Y (.nx ρ1))(k:Go C ss ρ1 Q):Go C (s::ss) ρ Q:=by
 obtain⟨o,a,b⟩:=k;exact⟨o,by rwa[nU h],b⟩
def n8(h:Ev C e (full ρ) P)(k:∀d,P d->Go C ss (ρ.set i (Y (d,J))) Q):Go C (.set i e::ss) ρ Q:=by
 obtain⟨d,f,h1,h2,h3⟩:=h;exact bL (dv h1 h2) (k d h3)
def eM(h:bf C e (full ρ)=Y (.lst ds,U))(k:Go C ss (ρ.set i (Y (.lst ds,U))) Q):Go C (.set i e::ss) ρ Q:=bL (Fd h) k
def iJ(h:bf C e (full ρ)=Y (d,f))(q:Q (.rt d f)):Go C [.ret e] ρ Q:=⟨_,wU h,q⟩
def bw(q:Q (.nx ρ)):Go C [] ρ Q:=⟨_,W,q⟩
def zp(hi:(ρ[i]?).join=Y (d,U))(he:og C es (full ρ)=Y (ds,U))(B:lG op d ds=Y g):pB C (.mut op i es) ρ=Y (.nx (ρ.set i (Y (g,U)))):=by
 show((og C es _).bind λx=>if x.2=U then YW op i ρ _ _ else L)=_;rw[he,hi];show(lG op d ds).map _=_;rw[B];rfl
def qv(h:Ev C e (full ρ) P)(hi:(ρ[i]?).join=Y (.lst ds,U))(hl:Z ds<1000000)(k:∀d,P d->Go C ss (ρ.set i (Y (.lst (ds++[d]),U))) Q):Go C (.mut .app i [e]::ss) ρ Q:=by
 obtain⟨d,f,h1,h2,h3⟩:=h;exact bL (zp hi (by rw[gf,h1];show Y _=_;simp_all) (sG hl)) (k d h3)
def zv(hb:g d ρ=Y ρ1)(h:body ρ1=Y (.nx B)):i7 g body (d::ds) ρ=i7 g body ds B:=by
 simp only[i7,hb,bG,h];rfl
theorem vM{α:Type}{O:Dat->cY->Option cY}{body:List Sx}{V:α->Dat}{I:List α->cY->Prop}:∀(xs g:List α)(ρ:cY),(∀(us:List α)x(vs:List α)ρ,g++xs=us++x::vs->I us ρ->∃ρ1,O (V x) ρ=Y ρ1/\Go C body ρ1 λo=>∃B,o=.nx B/\I (us++[x]) B)->I g ρ->∃F,i7 O (dZ C body) (xs.map V) ρ=Y (.nx F)/\I (g++xs) F
 |[],g,ρ,_,h=>⟨ρ,W,by simp_all⟩
 |x::xs,g,ρ,hs,h=>by
   obtain⟨ρ1,h1,_,h2,B,rfl,h3⟩:=hs g x xs ρ W h;obtain⟨F,a,b⟩:=vM xs (g++[x]) B (λus z vs ρ q=>hs us z vs ρ (by simp_all)) h3;rw[aA,zv h1 h2]
   simp_all
def iy{α:Type}{one:Bool}{O:List Nat}{it:Iw}{body:List Sx}{V:α->Dat}{xs:List α}{ρ0:cY}{I:List α->cY->Prop}(g:pB C (.loop one O it body) ρ=i7 (eV one O) (dZ C body) (xs.map V) ρ0)(F:I [] ρ0)(hs:∀(us:List α)x(vs:List α)ρ,xs=us++x::vs->I us ρ->∃ρ1,eV one O (V x) ρ=Y ρ1/\Go C body ρ1 λo=>∃B,o=.nx B/\I (us++[x]) B)(K:∀R,I xs R->Go C ss R Q):Go C (.loop one O it body::ss) ρ Q:=by
 obtain⟨R,h1,h2⟩:=vM xs [] _ hs F;exact bL (by rwa[g]) (K _ h2)
def lj(he:bf C e (full ρ)=Y (d,f))(hd:kB d=Y ds)(hf:(im d || f)=U):pB C (.loop one g (.itv e) body) ρ=i7 (eV one g) (dZ C body) ds ρ:=by
 rw[ym,he,bG,if_pos hf,hd];rfl
def D7{O:List Nat}{body:List Sx}{I:List Nat->cY->Prop}{P:Nat->Prop}(he:Ei C e (full ρ) P)(g:∀m,P m->m<=1000)(F:I [] ρ)(hs:∀m,P m->∀(us:List Nat)x(vs:List Nat)ρ,aQ m=us++x::vs->I us ρ->∃ρ1,eV U O (.int (x:Nat)) ρ=Y ρ1/\Go C body ρ1 λo=>∃B,o=.nx B/\I (us++[x]) B)(K:∀m,P m->∀R,I (aQ m) R->Go C ss R Q):Go C (.loop U O (.rng [e]) body::ss) ρ Q:=by
 obtain⟨m,f,he,a⟩:=he;exact iy (by rw[rH,qd he (g m a)];rfl) F (hs m a) (K m a)
def BL{J':cY->Prop}{A:List Sx}(h:∃t f,bf C e (full ρ)=Y (.bl t,f))(B:Go C A ρ λo=>∃g,o=.nx g/\J' g)(O:J' ρ)(k:∀g,J' g->Go C ss g Q):Go C (.ifs e A []::ss) ρ Q:=by
 obtain⟨t,f,h⟩:=h;cases t
 .exact bL (by rw[Gf h W];rfl) (k ρ O)
 .obtain⟨_,h1,g,rfl,h2⟩:=B;exact bL (by rwa[L0 h W]) (k _ h2)
def vU{e1 e2 e3:Ex}{P:Nat->Prop}(h1:Ei C e1 (full ρ) P)(h2:∀v:Nat,∃t f,bf C e2 (full (ρ.set i (Y (.int (v:Nat),J))))=Y (.bl t,f))(h3:∀v:Nat,Ei C e3 (full (ρ.set i (Y (.int (v:Nat),J)))) P)(K:∀v:Nat,P v->Go C ss (ρ.set i (Y (.int (v:Nat),J))) Q):Go C (.set i e1::.ifs e2 [.set i e3] []::ss) ρ Q:=by
 refine n8 (qx h1) λd hd=>?_;obtain⟨v,rfl,b⟩:=hd;refine BL (J':=λc=>∃v:Nat,P v/\c=ρ.set i (Y (.int (v),J))) (h2 v) (n8 (qx (h3 v)) λd hd=>?_) ⟨v,b,W⟩ λc h=>?_
 .obtain⟨w,rfl,a⟩:=hd;exact bw ⟨_,W,w,a,List.set_set _⟩
 .obtain⟨w,a,rfl⟩:=h;exact K w a
def i9{A B:List Sx}{b:Bool}{f:Bool}{J':cY->Prop}(h:bf C e (full ρ)=Y (.bl b,f))(O:b=U->Go C A ρ λo=>∃F,o=.nx F/\J' F)(g:b=J->Go C B ρ λo=>∃F,o=.nx F/\J' F)(k:∀F,J' F->Go C ss F Q):Go C (.ifs e A B::ss) ρ Q:=by
 cases b
 .obtain⟨_,h1,F,rfl,h2⟩:=g W;exact bL (by rwa[Gf h W]) (k _ h2)
 .obtain⟨_,h1,F,rfl,h2⟩:=O W;exact bL (by rwa[L0 h W]) (k _ h2)
end
def BJ(h:bf C e (full ρ)=Y (.bl U,f))(O:dZ C A ρ=Y (.rt d g))(q:Q (.rt d g)):Go C (.ifs e A B::ss) ρ Q:=⟨_,by rw[yS (by rwa[L0 h W])],q⟩
def lX(h:bf C e (full ρ)=Y (.bl J,f))(k:Go C ss ρ Q):Go C (.ifs e A []::ss) ρ Q:=bL (by rw[Gf h W];rfl) k
def nE{ds:List Dat}(B:Z ds=np)(h:Go (Cn D n) body (ds.map (λd=>Y (d,J))++br (nl - np) L) λo=>o=.rt d b):Qy (Cn D n) np nl body ds=Y (d,b):=by
 obtain⟨_,h1,rfl⟩:=h;exact fi B h1
def Kq{ns:List Int}:∃c:Int,Cn D (n+1) 22 [.lst (ns.map Dat.int),.int (k:Nat)]=Y (.int c,J):=by
 have hl:jq .len [.lst (ns.map Dat.int)]=Y (.int (ns.length),J):=by simp
 by_cases h:k<Z ns
 .refine⟨ns[k],nE W (BJ (fW W (gn W hl) (congrArg Y (decide_eq_true ((oY.mpr h))))) (wU (tM W rfl (j3 (by simp_all)))) W)⟩
 .exact⟨0,nE W (lX (fW W (gn W hl) (congrArg Y (decide_eq_false ((λz=>(uU z (fJ.mpr (bV h)))))))) (iJ W rfl))⟩
def IL(hc:C 22 [N,.int k]=Y (.int c,J))(B:0<=k)(O:k<=1000)(hp:0<p)(g:0<m):Go C b23 [Y (N,J),Y (.int k,J),Y (.int p,J),Y (.int m,J),L] λo=>o=.rt (.int ((c * 48271+7919 * k * k+11) % p * 7919 % 999983 % m)) J:=by
 exact bL (dv (fj (fj (fj (fj hc W (qB bR bR)) (fj (fj W rfl (we bR bR)) W (qB (Jl B) (fU O bR))) W) W rfl) W (oh hp)) W) (iJ (fj (fj (fj W rfl (qB bR bR)) W (oh bR)) W (oh g)) W)
def dw{ns:List Int}:Dw (Cn D (n+2)) (.lst (ns.map Dat.int)):=λk p m hk hp a=>by
 obtain⟨j,b⟩:=j7 hk.1;obtain⟨c,hc⟩:=Kq;rw[<-b]at hc;have h:=IL hc hk.1 hk.2 hp a;generalize e:(c * 48271+7919 * k * k+11) % p * 7919 % 999983=y at h;have f:y % m<m:=Int.emod_lt_of_pos _ a;obtain⟨q,d⟩:=j7 (Ro _ (C6 a));rw[d]at f h;exact⟨q,nE W h,f⟩
def uJ{C:Fs}{ρ:ic}{α:Type}{caps:List Nat}{it:Iw}{c:Ex}{xs:List α}{e:α->Dat}(p:α->Bool)(hi:zH C it ρ=Y (xs.map e))(hl:Z xs<=1000)(B:∀x,im (e x)=U)(h:∀x∈xs,∃f,bf C c ((j2 1 caps ρ).set 0 (Y (e x)))=Y (.bl (p x),f))(O:∀d:Dat,bf C (.v 0) ((j2 1 caps ρ).set 0 (Y d))=Y (d,J):=by intro;rfl):bf C (.comp 1 U caps it [c] (.v 0)) ρ=Y (.lst ((xs.filter p).map e),U):=by
 refine mQ hi (by rw[aB];exact aa hl bR) ?_;clear hi hl
 induction xs with
 |nil=>rfl
 |cons x xs a=>
   obtain⟨f,hf⟩:=h x jL;rw[aA,qr,MF hf W,a λy b=>h y (jZ _ b),O];cases q:p x<;>simp[q,B]
def GJ{C:Fs}{ρ:ic}{α:Type}{caps:List Nat}{it:Iw}{elt:Ex}{xs:List α}{e g:α->Dat}(hi:zH C it ρ=Y (xs.map e))(hl:Z xs<=1000)(B:∀x∈xs,im (g x)=U)(h:∀x∈xs,∃f,bf C elt ((j2 1 caps ρ).set 0 (Y (e x)))=Y (g x,f)):bf C (.comp 1 U caps it [] elt) ρ=Y (.lst (xs.map g),U):=by
 refine mQ hi (by grind) ?_;clear hi hl
 induction xs with
 |nil=>rfl
 |cons x xs b=>
   obtain⟨f,hf⟩:=h x jL;rw[aA,qr,yr,hf,b (λy a=>B y (jZ _ a)) λy a=>h y (jZ _ a)];simp[B x jL]
abbrev Ed:=aW×List Nat×List Int×aW
abbrev cH(e:Ed):Dat:=.tup [.str e.1,.str (T e.2.1),.tup (e.2.2.1.map Dat.int),.str e.2.2.2]
abbrev Mx(e:Ed):List NK:=[.inl (.inr e.1),.inl (.inr (T e.2.1)),.inr (e.2.2.1.map Zq),.inl (.inr e.2.2.2)]
def RL(e:Ed):Vr (cH e)=Y (Mx e):=by
 simp only[Vr,XD,nkI,vG,c7,bG]
theorem Ln:∀es:List Ed,wV (es.map cH)=Y (es.map Mx)
 |[]=>rfl
 |e::es=>by
   rw[aA,wV,RL,Ln es];rfl
theorem allI:∀l:List Int,(l.map Zq).all sI=U
 |[]=>rfl
 |a::r=>by rw[aA,dU,allI r];rfl
noncomputable abbrev shE:List (List Nat):=[[1],[1],[2],[1]]
def xR(e:Ed):(Mx e).map sN=shE:=by
 simp only[aA,List.map_nil,sN,allI,if_true]
abbrev Jp(e:Ed):List (List (List Int)):=codeN (Mx e)
def Hw(es:List Ed):List Dat:=(iw wX (es.map Jp)).map (El shE)
def RJ(e:Ed):∀x∈Mx e,Bh (sN x)=U:=λx a=>by
 have:sN x∈(Mx e).map sN:=c9 a;rw[xR]at this;exact bE.mp bR _ this
def WI(e:Ed):El shE (Jp e)=cH e:=by
 have:=GD (RL e) (RJ e);rwa[xR]at this
def MN(h:Jp a=Jp b):a=b:=by
 have h1 :=code_inj ((xR a).trans (xR b).symm) (RJ a) h;simp only[Mx,fS,Sum.inl.injEq,Sum.inr.injEq,and_true]at h1;obtain⟨h1,h2,h3,c⟩:=h1;exact EM h1 (EM (ZZ h2) (EM (Qn h3) c))
def zm{α:Type}[BEq α][LawfulBEq α]{l g:List α}(B:l.Nodup)(h:∀x∈l,x∈g):Z l<=Z g:=by
 induction l generalizing g with
 |nil=>exact aK _
 |cons a r c=>
   have ha:=h a jL;have:=c (a6.mp B).2 λx b=>(List.mem_erase_of_ne (λe:x=a=>(a6.mp B).1 (e▸b))).mpr (h x (jZ _ b))
   grind
def TY(es:List Ed):∃E:List Ed,Hw es=E.map cH/\E.Nodup/\(∀e,e∈E↔e∈es)/\Z E<=Z es:=by
 have a:∀l:List (List (List (List _))),(∀c∈l,∃e:Ed,c=Jp e)->l.Nodup->∃E:List Ed,l=E.map Jp/\E.Nodup:=λl=>by
  induction l with
  |nil=>intro _ _;exact⟨[],W,dT⟩
  |cons c r d=>
    intro h b;obtain⟨e,rfl⟩:=h c jL;obtain⟨E,h1,h2⟩:=d (λc hc=>h c (jZ _ hc)) (a6.mp b).2;refine⟨_,by rw[h1];rfl,a6.mpr ⟨λm=>(a6.mp b).1 ?_,h2⟩⟩;rw[h1];exact c9 m
 obtain⟨E,h1,h2⟩:=a (iw wX _) (λc hc=>by
  obtain⟨e,_,rfl⟩:=bX.mp ((jJ Bv).mp hc)
  exact⟨e,W⟩) (nD Bv (jX Bv _))
 refine⟨E,?_,h2,λe=>?_,?_⟩
 .unfold Hw;rw[h1,cF];exact dP λe _=>WI e
 .have:=jJ Bv (z:=Jp e) (l:=es.map Jp);rw[h1]at this;constructor
  .intro h;obtain⟨f,he,q⟩:=bX.mp (this.mp (c9 h));rwa[<-MN q]
  .intro h;obtain⟨f,he,q⟩:=bX.mp (this.mpr (c9 h));rwa[<-MN q]
 .have:=zm (nD Bv (jX Bv (es.map Jp))) λx g=>(jJ Bv).mp g;rwa[h1,aB,aB]at this
def SQ(es:List Ed):Z (iw wX (es.map Jp))<=Z es:=by
 have:=zm (nD Bv (jX Bv (es.map Jp))) λx a=>(jJ Bv).mp a
 simp_all
def Oh{es:List Ed}(hl:Z es<=300)(B:es≠[]):jq .sset [.lst (es.map cH)]=Y (.lst (Hw es),U):=by
 cases es with
 |nil=>exact absurd rfl B
 |cons e r=>
   have hs:Jk ((e::r).map Mx)=shE:=xR e
   have h3:(((e::r).map Mx).all λk=>decide (k.map sN=Jk ((e::r).map Mx)))=U:=by
    rw[bE];intro k hk;obtain⟨q,_,rfl⟩:=bX.mp hk;rw[hs];exact decide_eq_true (xR q)
   show(wV _).bind xQ=_;rw[Ln];show xQ _=_;unfold xQ Lc;rw[if_pos ⟨by rw[aB];omega,by rfl,by rw[hs];rfl,h3,by rw[cF];exact aa (SQ _) hl⟩,hs,cF];rfl
structure Tb where
 fs:List Fm
 m0:List Int
 m1:List Int
 m2:List Int
 m3:List Int
 fg:List Int
structure Ie(t:Tb):Prop where
 ho:∀f∈t.fs,D8 f
 hl:Z t.fs<=12
 h0:Z t.m0<=2
 h1:Z t.m1<=2
 h2:Z t.m2<=2
 h3:Z t.m3<=2
 hf:Z t.fg<=10
abbrev Nq(t:Tb):Dat:=.tup [tI t.m0,tI t.m1,tI t.m2,tI t.m3]
abbrev tb(t:Tb):Dat:=.tup [.tup (t.fs.map iQ),Nq t,tI t.fg]
def Ll(m:List Int):jM .ne (tI m) (.tup [])=Y (!m.isEmpty):=by
 cases m with
 |nil=>rfl
 |cons a r=>
   rw[aa7 (si 19 _) W];rfl
def Ej(m:List Int):jM .eq (tI m) (.tup [])=Y m.isEmpty:=by
 cases m with
 |nil=>rfl
 |cons a r=>
   rw[ZA (si 19 (a::r)) W];rfl
def i8(m:List Int):jq .len [tI m]=Y (.int (Z m:Nat),J):=by rw[Et,aB]
def lH(m:List Int):im (tI m)=U:=rp m
def qC(a b:List Int)(h:Z a+Z b<=1000):gQ .add (tI a) (tI b)=Y (tI (a++b),J):=by
 rw[Eu (by rw[aB,aB];exact aa h bR),<-dJ]
noncomputable abbrev jF:aW:=ab "out"
noncomputable abbrev kc:aW:=ab "let"
def LZ(a b c:aW)(m:List Int):im (.tup [.str a,.str b,tI m,.str c])=U:=by
 simp[im,lW,(rp m)]
def upB:(sL.all λc=>decide (t5 c=[c - 32]))=U:=by kernel_rfl
def up1(h:c∈sL):t5 c=[c - 32]:=of_decide_eq_true (bE.mp upB c h)
def KO(u:List Nat)(f:Nat->List Nat):(Ap (T u) λ_ c=>f c)=(u.flatMap f).toArray:=by
 apply Array.ext';simp only[Ap];rw[Array.toList_flatten,Array.toList_mapIdx]
 have e:∀(u:List _),(u.mapIdx λ_ c=>(f c).toArray)=u.map λc=>(f c).toArray:=λu=>by
  apply ju<;>simp
 rw[e,cF]
 congr 1
def uq(h:∀c∈u,c∈sL)(hl:Z u<=1000):hZ .upper (.str (T u)) []=Y (.str (T (u.map (·- 32))),J):=by
 show(if(T u).length<=1000000 then Y (Dat.str (rY _),J)else L)=_;rw[tY,if_pos (aa hl bR)]
 have:rY (T u)=T (u.map (·- 32)):=by
  show(⟨Ap _ _⟩:aW)=_;rw[KO];show T _=T _
  congr 1
  clear hl
  induction u with
  |nil=>rfl
  |cons a r b=>
    rw[tz,up1 (h a jL),b λc m=>h c (jZ _ m)];rfl
 rw[this]
def L9(l:List Nat):List Nat:=(T [l.headD 0 - 32]++cJ (T l) (Y 1) L).cps.toList
def BI(ho:D8 f):∃(B:Nat) (O:aW),x5 (.str (T f.1)) (.int 0)=Y (.str (T [B]))/\hZ .upper (.str (T [B])) []=Y (.str (T [B - 32]),J)/\E8 (.str (T f.1)) (Y 1) L=Y (.str O,J)/\gQ .add (.str (T [B - 32])) (.str O)=Y (.str (T (L9 f.1)),J):=by
 obtain⟨B,d,hc⟩:∃c r,f.1=c::r:=by
  cases q:f.1 with
  |nil=>exact absurd q ho.ne
  |cons c r=>exact⟨c,r,W⟩
 have b :=ho.low B (by simp_all);refine⟨B,cJ (T _) _ L,?_,uq (λc hc=>by simp_all) (by simp),if_pos (aa ho.ll bR),?_⟩
 .rw[hc];exact Wc (by rw[<-hc];exact aa ho.ll bR) (by simp)
 .have a:(T _).length=f.1.length:=tY _;have e:(T [B - 32]).length=1:=tY _;have hh:f.1.headD 0=B:=by rw[hc];rfl
  show(if(T [B - 32]).length+(cJ (T f.1) (Y 1) L).length<=aE then Y (Dat.str (T [B - 32]++cJ (T f.1) (Y 1) L),J)else L)=_;rw[if_pos (by rw[e,iR];exact qt (Aq (T f.1) _ L) (ae a) ho.ll)];unfold L9;rw[hh]
noncomputable abbrev uT(l:List Nat):List Nat:=l.map (·- 32)
noncomputable abbrev uL:aW:=ab "all"
noncomputable abbrev ji:aW:=ab "done"
theorem D0:∀es:List Ed,lW (es.map cH)=U
 |[]=>rfl
 |e::es=>by rw[aA,lW,LZ,D0 es];rfl
def JJ(ho:D8 f):hZ .upper (.str (T f.1)) []=Y (.str (T (uT f.1)),J):=uq ho.low (aa ho.ll bR)
noncomputable abbrev lr:aW:=ab "num"
noncomputable abbrev FIG:aW:=ab "0123456789"
noncomputable def sW:List Nat:=[48,49,50,51,52,53,54,55,56,57]
noncomputable def GR:List Ed:=[("out",[32],[0],"out"),("done",[32],[0],"out"),("num",[32],[0],"out")]
noncomputable abbrev qk:aW:=ab "in"
def PW:ab "w"=T [119]:=by decide +kernel
def PB:ab "b"=T [98]:=by decide +kernel
def PE:ab "e"=T [101]:=by decide +kernel
def oD(e:Ed):im (cH e)=U:=LZ ..
def WE(es:List Ed)(e:Ed):es.map cH++[cH e]=(es++[e]).map cH:=by simp
theorem f7{α B:Type}{g:α->List B}{m:Nat}:∀{l:List α},(∀x∈l,Z (g x)<=m)->Z (l.flatMap g)<=m * Z l
 |[],_=>by simp
 |a::r,h=>by
   rw[tz,aj,bM,Nat.mul_add];have:=h a jL;have:=f7 λx b=>h x (jZ _ b);omega
def ite_le{α:Type}{x y:List α}(h1:Z x<=n)(h2:Z y<=n):Z (if b=U then x else y)<=n:=by
 split
 .exact h1
 .exact h2
def KN{α:Type}{l us vs:List α}{x:α}(h:l=us++x::vs):Z us<Z l:=by
 rw[h,aj];exact bb (aX _ _)
section
variable{es:List Ed}
def lA(h1:bf C a ρ=Y (.str e.1,f1))(h2:bf C b ρ=Y (sT e.2.1,f2))(h3:bf C c ρ=Y (tI e.2.2.1,g))(B:bf C d ρ=Y (.str e.2.2.2,f4)):Ev C (.tup [a,b,c,d]) ρ (·= cH e):=
 ⟨_,_,by rw[zF,gf,h1,gf,h2,gf,h3,gf,B];rfl,oD e,W⟩
def abi(h:Ev C x ρ (·= d)):bf C (.lst [x]) ρ=Y (.lst [d],U):=by
 obtain⟨_,b,ev,hi,rfl⟩:=h;rw[Wz,gf,ev];show Y _=_;rw[hi,tD];rfl
def oE(h:Ev C x (full ρ) (·= cH e))(hi:(ρ[i]?).join=Y (.lst (es.map cH),U))(hl:Z es<1000)(k:Go C ss (ρ.set i (Y (.lst ((es++[e]).map cH),U))) Q):Go C (.mut .app i [x]::ss) ρ Q:=
 qv h hi (by rw[aB];exact aa hl bR) λd hd=>by rwa[hd,WE]
def Qr(h:bf C c (full ρ)=Y (.bl b,f'))(B:Ev C x (full ρ) (·= cH e))(hi:(ρ[i]?).join=Y (.lst (es.map cH),U))(O:ρ.set i (Y (.lst (es.map cH),U))=ρ)(hl:Z es<1000)(k:Go C ss (ρ.set i (Y (.lst ((es++if b=U then [e]else []).map cH),U))) Q):Go C (.ifs c [.mut .app i [x]] []::ss) ρ Q:=by
 refine i9 (J':=λa=>a=ρ.set i (Y (.lst _,U))) h (λq=>?_) (λq=>bw ⟨_,W,?_⟩) λa e=>by rwa[e]
 .rw[if_pos q];exact oE B hi hl (bw ⟨_,W,W⟩)
 simp_all
def Xh(h:bf C a ρ=Y (.bl x,f))(B:bf C b ρ=Y (.bl y,g)):∃g,bf C (.and a b) ρ=Y (.bl (x && y),g):=by
 cases x
 .exact⟨J,eW h⟩
 .exact⟨g,by rwa[eW h]⟩
def or2(h:bf C a ρ=Y (.bl x,f))(B:bf C b ρ=Y (.bl y,g)):∃g,bf C (.or a b) ρ=Y (.bl (x || y),g):=by
 cases x
 .exact⟨g,by rwa[Mr h]⟩
 .exact⟨J,Mr h⟩
end
noncomputable def W6:List (Nat×aW×aW):=[(119,"out","done"),(119,"let","done"),(98,"out","in"),(98,"let","in"),(109,"in","in"),(101,"in","done")]
noncomputable def A6:List (Nat×aW×aW):=[(119,"out","done"),(119,"let","done"),(98,"out","all"),(98,"let","all"),(109,"all","all"),(101,"all","done")]
abbrev w6D(w:Nat×aW×aW):Dat:=.tup [sT [w.1],.str w.2.1,.str w.2.2]
noncomputable abbrev IH(f:Fm)(w:Nat×aW×aW):List Ed:=if decide (w.1∈f.2.2)=U then [(w.2.1,f.1,f.2.1,w.2.2)]else []
abbrev E6(f:Fm):List Ed:=W6.flatMap (IH f)
def D2{α:Type}{b:Bool}{e:α}:Z (if b=U then [e]else [])<=1:=ite_le (ak 1) (aK 1)
def My(f:Fm):Z (E6 f)<=6:=f7 λ_ _=>D2
def LY{fs:List Fm}:(im (.tup (fs.map iQ)) || J)=U:=by
 show(lW _ || J)=U;rw[m6];rfl
def HE{fs:List Fm}(hl:Z fs<=12):Cn D (n+1) 5 [.tup (fs.map iQ)]=Y (.lst ((fs.flatMap E6).map cH),U):=by
 refine nE W ?_;refine eM W (iy (I:=λus j=>∃c d m a k b,j=[Y (.tup _,J),Y (.lst ((us.flatMap E6).map cH),U),c,d,m,a,k,b]) (lj W rfl LY) ⟨_,_,_,_,_,_,W⟩ ?_ λj ⟨_,_,_,_,_,_,h⟩=>by rw[h];exact⟨_,W,W⟩);rintro us f vs _ i ⟨_,_,_,a,k,b,rfl⟩;have h1:=f7 (l:=us) λf _=>My f;refine⟨_,W,iy (V:=w6D) (xs:=W6) (I:=λws j=>∃a k b,j=[Y (.tup (fs.map iQ),J),Y (.lst ((us.flatMap E6++ws.flatMap (IH f)).map cH),U),Y (sT f.1,J),Y (tI f.2.1,J),Y (sT f.2.2,J),a,k,b]) (lj W rfl rfl) ⟨a,k,b,by rw[fP,aI];rfl⟩ ?_ λj ⟨_,_,_,h⟩=>by rw[h];exact bw ⟨_,W,_,_,_,_,_,_,by rw[cL,cR]⟩⟩;rintro ws w vs _ e ⟨_,_,_,rfl⟩;have h2:=f7 (g:=IH f) (l:=ws) λ_ _=>D2;have h3:Z ws<6:=KN e;exact⟨_,W,Qr (fW W rfl qu) (lA W rfl rfl rfl) W rfl (by grind) (bw ⟨_,W,_,_,_,by rw[cL,cR,<-aJ];rfl⟩)⟩
def HM:Cn D (n+1) 3 []=Y (.lst (GR.map cH),U):=by
 exact pe (by kernel_rfl)
abbrev Nv(m:List Int)(e:Ed):Ed:=(e.1,L9 e.2.1,m++e.2.2.1,e.2.2.2)
theorem yh{m:List Int}(O:Z m<=2)(B:Dat):∀es:List Ed,(∀e∈es,∃f,D8 f/\e.2.1=f.1/\e.2.2.1=f.2.1)->qr (oF C 4 J (j2 4 [1] [Y B,Y (tI m)]) [] GX) (es.map cH)=Y ((es.map (Nv m)).map cH,U)
 |[],_=>rfl
 |e::es,h=>by
   obtain⟨f,hf,o,p⟩:=h e jL;obtain⟨l,n,i,j,k,g⟩:=BI hf;have hl:=hf.cl;obtain⟨d,b,ev,hi,rfl⟩:=lA (ρ:=[Y (.str e.1),Y (sT e.2.1),Y (tI e.2.2.1),Y (.str e.2.2.2),Y (tI m)]) (e:=Nv m e) (a:=.v 0) (b:=.bin .add (.i6 .upper (.ix (.v 1) (.e_ 0)) []) (.sl (.v 1) (Y (.e_ 1)) L)) (c:=.bin .add (.v 4) (.v 2)) (d:=.v 3) W (fj (VF (tM W rfl (by rw[o];exact i)) j) (T8 W rfl (by rw[o];exact k)) (by rw[<-o]at g;exact g)) (qC m e.2.2.1 (by rw[p];exact aa (dW O hl) bR)) W
   have hc:oF C 4 J (j2 4 [1] [Y B,Y (tI m)]) [] GX (cH e)=Y (Y (cH (Nv m e),b)):=by
    show(bf C GX [Y (.str e.1),Y (sT e.2.1),Y (tI e.2.2.1),Y (.str e.2.2.2),Y (tI m)]).map Y=_;rw[ev];rfl
   rw[aA];unfold qr;rw[yh O B es λe he=>h e (jZ _ he)]
   simp_all
def HJ{n:Nat}{m:List Int}(B:Z m<=2){es:List Ed}(h:∀e∈es,∃f,D8 f/\e.2.1=f.1/\e.2.2.1=f.2.1)(hl:Z es<=1000):Cn D (n+1) 6 [.lst (es.map cH),tI m]=Y (.lst ((es.map (Nv m)).map cH),U):=
 fi W (wU (mQ W (by rw[aB];exact aa hl bR) (yh B _ es h)))
noncomputable abbrev bg(f:Fm)(w:Nat×aW×aW):Bool:=decide (w.1∈f.2.2) && (!decide ([w.1]=[119]) || decide (1<(Z f.1:Int)))
def rA(m:List Int)(f:Fm)(w:Nat×aW×aW):List Ed:=if bg f w=U then [(w.2.1,uT f.1,(if(w.2.1 == uL)=U then []else m)++f.2.1,w.2.2)]else []
abbrev H6(m:List Int)(f:Fm):List Ed:=A6.flatMap (rA m f)
def lY:Z (rA m f w)<=1:=D2
def D6(m:List Int)(f:Fm):Z (H6 m f)<=6:=f7 λ_ _=>lY
def zg{n:Nat}{m:List Int}(B:Z m<=2){fs:List Fm}(ho:∀f∈fs,D8 f)(hl:Z fs<=12):Cn D (n+1) 7 [.tup (fs.map iQ),tI m]=Y (.lst ((fs.flatMap (H6 m)).map cH),U):=by
 refine nE W ?_;generalize Cn D n=C;refine eM W (iy (I:=λus ρ=>∃p k r j d i c,ρ=[Y (.tup _,J),Y _,Y (.lst ((us.flatMap (H6 m)).map cH),U),p,k,r,j,d,i,c]) (lj W rfl LY) ⟨_,_,_,_,_,_,_,W⟩ ?_ λρ ⟨_,_,_,_,_,_,_,h⟩=>by rw[h];exact⟨_,W,W⟩);rintro us f vs _ s ⟨_,_,_,j,d,i,c,rfl⟩;have h1:=f7 (l:=us) λf _=>D6 m f;have hf:=ho f (by rw[s];simp);refine⟨_,W,iy (V:=w6D) (xs:=A6) (I:=λws ρ=>∃j d i c,ρ=[Y (.tup (fs.map iQ),J),Y (tI m,J),Y (.lst ((us.flatMap (H6 m)++ws.flatMap (rA m f)).map cH),U),Y (sT f.1,J),Y (tI f.2.1,J),Y (sT f.2.2,J),j,d,i,c]) (lj W rfl rfl) ⟨j,d,i,c,by rw[fP,aI];rfl⟩ ?_ λρ ⟨_,_,_,_,h⟩=>by rw[h];exact bw ⟨_,W,_,_,_,_,_,_,_,by rw[cL,cR]⟩⟩;rintro ws w vs _ t ⟨_,_,_,c,rfl⟩;have h2:=f7 (g:=rA m f) (l:=ws) λ_ _=>lY;have h3:Z ws<6:=KN t;refine⟨_,W,?_⟩;rw[cL,cR,<-aJ];have o:Z (us.flatMap (H6 m)++ws.flatMap (rA m f))<1000:=by grind
 generalize us.flatMap _++ws.flatMap _=es at o ⊢;obtain⟨z,u⟩:=or2 (ρ:=full [Y (.tup _,J),Y _,Y (.lst _,U),Y (sT _,J),Y (tI _,J),Y (sT _,J),Y (sT _,J),Y (.str _,J),Y (.str _,J),c]) (a:=.cmp _ (.v 6) (.con (sT [119]))) (b:=.cmp .gt (.blt _ [.v 3]) (.e_ 1)) (fW W rfl (ne_T _ _)) (fW (gn W (len_T (aa hf.ll bR))) W rfl);obtain⟨A,x⟩:=Xh (fW (a:=.v 6) (e:=.v 5) W rfl qu) u;refine i9 (J':=λρ=>∃c,ρ=[Y (.tup _,J),Y _,Y (.lst _,U),Y (sT _,J),Y (tI _,J),Y (sT _,J),Y (sT [w.1],J),Y (.str w.2.1,J),Y (.str w.2.2,J),c]) x (λq=>?_) (λq=>bw ⟨_,W,c,by unfold rA;rw[if_neg (by rw[show bg f w=J from q];decide),aI];rfl⟩) λρ ⟨c,h⟩=>bw ⟨_,W,_,_,_,c,h⟩
 have y:bf C (.ite (.cmp .eq (.v 7) (.con (.str uL))) (.tup []) (.v 1)) (full [Y (.tup (fs.map iQ),J),Y (tI m,J),Y (.lst (es.map cH),U),Y (sT f.1,J),Y (tI f.2.1,J),Y (sT f.2.2,J),Y (sT [w.1],J),Y (.str w.2.1,J),Y (.str w.2.2,J),c])=Y (tI (if(w.2.1 == uL)=U then []else m),w.2.1 == uL):=by
  rw[Gx (fW W rfl WD) W];cases w.2.1 == uL<;>rfl
 refine bL (dv y (lH _)) (oE (e:=(w.2.1,uT _,(if(w.2.1 == uL)=U then []else m)++f.2.1,w.2.2)) (lA W (VF W (JJ hf)) (qC _ _ (aa (dW (ite_le (aK _) B) hf.cl) bR)) W) W o (bw ⟨_,W,_,by unfold rA;rw[if_pos (q)];rfl⟩))
abbrev pF(t:Tb)(p:Nat×Int):List Ed:=[(jF,[p.1],t.m2++[p.2],lr),(ji,[p.1],t.m2++[p.2],lr),(lr,[p.1],[p.2],lr)]
abbrev xd(t:Tb):List (Nat×Int):=sW.zip t.fg
abbrev fgD(p:Nat×Int):Dat:=.tup [sT [p.1],.int p.2]
theorem EO:∀(l:List Nat)(g:List Int),o5 ((l.map λc=>T [c]).map Dat.str) (g.map Dat.int)=(l.zip g).map fgD
 |[],_=>by simp[o5]
 |_::_,[]=>by simp[o5]
 |c::l,x::g=>by
   have:=EO l g;simp only[aA,o5,Jf,this]
abbrev rF(t:Tb):List Ed:=if t.fg.isEmpty=U then []else(lr,[],t.m3,kc)::(xd t).flatMap (pF t)
def BV(t:Tb):Z (xd t)<=10:=by
 rw[wz];exact jP _ _
def abK : es++[a]++[b]++[c]=es++[a,b,c]:=by simp
def OQ{t:Tb}(h2:Z t.m2<=2):Cn D (n+1) 4 [Nq t,tI t.fg]=Y (.lst ((rF t).map cH),U):=by
 refine nE (body:=b4) W ?_;generalize Cn D n=C;have hc:bf C (.cmp _ (.v 1) (.tup [])) (full [Y (Nq t,J),Y (tI t.fg,J),L,L,L])=Y (.bl _,J):=fW W rfl (Ej _);unfold K34.b4 rF;revert hc;cases t.fg.isEmpty
 .intro hc;refine lX hc (eM (ds:=[(lr,[],t.m3,kc)].map cH) (abi (lA W rfl rfl rfl)) (iy (V:=fgD) (xs:=xd t) (ρ0:=[Y (Nq t,J),Y (tI t.fg,J),Y (.lst _,U),L,L]) (I:=λus f=>∃c i,f=[Y _,Y (tI _,J),Y (.lst (((lr,[],t.m3,kc)::us.flatMap (pF t)).map cH),U),c,i]) ?_ ⟨_,_,W⟩ ?_ λf ⟨_,_,h⟩=>by rw[h];exact⟨_,W,W⟩))
  .show bc (kG (λds=>(ds,[Y _,Y (tI _,J),Y (.lst _,U),L,L])) (Y (o5 ((eQ _).map _) (t.fg.map _)))) (λx:List _×cY=>i7 (eV J _) ..)=_;rw[yX,EO];rfl
  .rintro us p vs _ d ⟨_,_,rfl⟩;have h1:=BV t;have h3:=f7 (g:=pF t) (l:=us) λ_ _=>ak 3;refine⟨_,W,?_⟩;rw[cL,<-oy];have a:Z ((lr,[],t.m3,kc)::us.flatMap (pF t))<900:=by grind
   generalize (lr,[],t.m3,kc)::us.flatMap _=es at a ⊢;have b:=qC _ [p.2] (by exact ao h2 (by decide));exact oE (e:=(jF,[p.1],t.m2++[p.2],lr)) (lA W rfl b W) W (aa a (by decide)) (oE (e:=(ji,[p.1],t.m2++[p.2],lr)) (lA W rfl b W) W (by simp;exact ao a (by decide)) (oE (lA W rfl rfl rfl) W (by simp;exact bb (ao a (by decide))) (bw ⟨_,W,_,_,by rw[abK];rfl⟩)))
 .intro hc;exact BJ hc W rfl
abbrev Bj(e:Ed):Bool:=!(e.1 == kc)
def zY(A B:List Ed)(h:Z A+Z B<=1000):gQ .add (.lst (A.map cH)) (.lst (B.map cH))=Y (.lst ((A++B).map cH),U):=by
 rw[oi (by rw[aB,aB];exact aa h bR),<-dJ,D0]
abbrev s0(t:Tb):List Ed:=t.fs.flatMap E6
abbrev s1(t:Tb):List Ed:=if t.m0.isEmpty=U then s0 t else s0 t++(s0 t).map (Nv t.m0)
abbrev AV(t:Tb):List Ed:=if t.m1.isEmpty=U then s1 t else s1 t++t.fs.flatMap (H6 t.m1)
abbrev s3(t:Tb):List Ed:=if t.fg.isEmpty=U then(AV t).filter Bj else AV t
abbrev got(t:Tb):List Ed:=s3 t++GR++rF t
def Dv{t:Tb}(hl:Z t.fs<=12):Z (s0 t)<=72:=by
 exact kX (f7 λf _=>My f) (Nat.mul_le_mul_left 6 hl)
def Kg{t:Tb}(hl:Z t.fs<=12):Z (s1 t)<=144:=by
 have h:=Dv hl;exact ite_le (aa h bR) (by rw[aj,aB];exact aa (dW h h) bR)
def Du{t:Tb}(hl:Z t.fs<=12):Z (AV t)<=216:=by
 have h:=Kg hl;exact ite_le (aa h bR) (by exact qt h (f7 (l:=t.fs) λf _=>D6 t.m1 f) (Nat.mul_le_mul_left 6 hl))
def Kf{t:Tb}(hl:Z t.fs<=12):Z (s3 t)<=216:=ite_le (aa (c8 _ _) (Du hl)) (Du hl)
def KD(t:Tb):Z (rF t)<=31:=by
 have h:=BV t;have a:=f7 (g:=pF t) (l:=xd t) λ_ _=>ak 3;exact ite_le (aK _) (by grind)
abbrev e5(t:Tb)(es:List Ed):cY:=[Y (tb t,J),Y (.tup (t.fs.map iQ),J),Y (Nq t,J),Y (.lst (es.map cH),U)]
def D1(t:Tb):im (Nq t)=U:=by
 simp only[im,lW,gR,ag];exact⟨lH _,lH _,lH _,lH _⟩
def R6{B:List Ed}(h:bf C c (full (e5 t A))=Y (.bl (!b),f))(O:bf C y (full (e5 t A))=Y (.lst (B.map cH),U))(k:Go C ss (e5 t (if b=U then A else B)) Q):Go C (.ifs c [.set 3 y] []::ss) (e5 t A) Q:=by
 refine i9 (J':=λa=>a=e5 t _) h (λq=>eM O (bw ⟨_,W,?_⟩)) (λq=>bw ⟨_,W,?_⟩) λa h=>by rwa[h]
 .rw[if_neg (by simpa using q)];rfl
 .rw[if_pos (by simpa using q)]
def xS(ht:Ie t)(B:Z (got t)<=300):Cn D (n+2) 8 [tb t]=Y (.lst (Hw (got t)),U):=by
 have d:=HJ (n:=n) ht.h0 (λe he=>by
  obtain⟨f,hf,h⟩:=eB.mp he;obtain⟨w,_,h⟩:=eB.mp h;unfold IH at h;split at h
  .rw[az.mp h];exact⟨f,ht.ho f hf,W,W⟩
  .cases h) (aa (Dv ht.hl) bR)
 have a:=Dv ht.hl;have p:=Kg ht.hl;have b:=Kf ht.hl;have r:=f7 (l:=t.fs) λf _=>D6 t.m1 f;have m:=ht.hl;refine nE W ?_;refine bL (dv W (m6 _)) (bL (dv W (D1 t)) (eM (HE (n:=n) ht.hl) ?_));refine R6 (fW W rfl (Ll _)) (fj W d (zY _ _ (by rw[aB];exact aa (dW a a) bR))) ?_;refine R6 (A:=s1 t) (fW W rfl (Ll _)) (fj W (zg (n:=n) ht.h1 ht.ho ht.hl) (zY _ _ (qt p r (Nat.mul_le_mul_left 6 m)))) ?_;refine i9 (J':=λc=>c=e5 t (s3 t)) (fW W rfl (Ej _)) (λq=>eM (uJ Bj W (aa (Du ht.hl) bR) oD λe _=>⟨J,fW W rfl aa8⟩) (bw ⟨_,W,?_⟩)) (λq=>bw ⟨_,W,?_⟩) ?_
 .show _=e5 t (if t.fg.isEmpty=U then(AV t).filter Bj else AV t);rw[if_pos q];rfl
 .show _=e5 t (if t.fg.isEmpty=U then(AV t).filter Bj else AV t);rw[if_neg (show¬t.fg.isEmpty=U by rw[q];decide)]
 .rintro _ rfl;exact iJ (gn (fj (fj W (HM (n:=n)) (zY _ _ (Nat.add_le_add_right (aa b bR) _))) (OQ (n:=n) ht.h2) (zY _ _ (by rw[aj];show _+3+_<=_;exact kX b (KD t)))) (Oh B (by intro e;simp[GR]at e))) W
theorem BX:∀{a b:List Sx}{ρ g:cY},dZ C a ρ=Y (.nx g)->dZ C (a++b) ρ=dZ C b g
 |[],_,ρ,g,h=>by cases h;rfl
 |s::a,b,ρ,g,h=>by
   obtain⟨o,h1,h2⟩:=cA h
   obtain⟨_,rfl⟩:∃r,o=.nx r:=by cases o<;>first|exact⟨_,W⟩|cases h2
   rw[oy,nU h1];exact BX h2
noncomputable abbrev jc:List aW:=["out","in","done","num","let","all"]
theorem Fy{g g':aW->Dat}{s:aW}:∀{l:List aW},l.Nodup->s∈l->(∀B∈l,B≠s->g' B=g B)->∃j,posK (.inr s) (l.map bF)=Y j/\(l.map g)[j]?=Y (g s)/\(l.map g).set j (g' s)=l.map g'
 |a::r,b,hs,h=>by
   obtain⟨h1,h2⟩:=a6.mp b;by_cases q:a=s
   .subst q;refine⟨0,if_pos W,W,?_⟩;have :=dP λB m=>(h B (jZ _ m) λe=>h1 (e▸m)).symm
    grind
   .obtain⟨j,d,c,f⟩:=Fy h2 ((aw.mp hs).resolve_left λe=>q e.symm) λB m=>h B (jZ _ m);refine⟨j+1,?_,c,?_⟩
    .show(if(bF a)=.inr s then Y 0 else(posK _ _).map _)=_
     simp_all
    simp_all
noncomputable abbrev Al(E:List Ed)(s:aW):List Ed:=E.filter λe=>e.1 == s
abbrev R8(E:List Ed)(s:aW):Dat:=.lst ((Al E s).map cH)
abbrev kR(E:List Ed):Dat:=.dct (jc.map bF) (jc.map (R8 E))
def Ye:jc.Nodup:=by decide +kernel
def UP{E:List Ed}(hl:Z E<1000)(hs:e.1∈jc):Vv .app (.str e.1) [cH e] (kR E)=Y (kR (E++[e])):=by
 obtain⟨j,b,c,f⟩:=Fy (g':=R8 (E++[e])) Ye hs λi _ q=>by
  unfold R8 Al;rw[rR,Ay (by simpa using λh=>q h.symm),NX,aI]
 have hb:Z (Al E e.1)<=Z E:=c8 _ _
 have a:lG .app (R8 E e.1) [cH e]=Y (R8 (E++[e]) e.1):=by
  unfold R8 Al;rw[sG (by rw[aB];exact ao hb (aa hl bR)),rR,Ax (by simp),dJ];rfl
 show((posK (.inr e.1) (jc.map bF)).bind λj=>((jc.map (R8 E))[j]?).bind λd=>(lG .app d [cH e]).map λg=>Dat.dct (jc.map bF) ((jc.map (R8 E)).set j g))=_;rw[b,bG,c,bG,a,c7,f]
abbrev IJ(d:Dat)(E:List Ed)(z:g_):cY:=[Y (d,J),Y (kR E,U),Y (.str "all",J),z]
def Xb{E:List Ed}(hl:Z E<1000)(hs:e.1∈jc):dZ C Io (IJ d E (Y (cH e,J)))=Y (.nx (IJ d (E++[e]) (Y (cH e,J)))):=by
 refine DH ?_;show((bf C (.ix (.v 3) (.e_ 0)) (full (IJ d E (Y (cH e,J))))).bind λy=>(og C [.v 3] (full (IJ d E (Y _)))).bind λx=>if x.2=U then YX _ 1 (IJ d E (Y _)) y.1 x.1 (Y _)else L)=_
 have a:og C [.v 3] (full (IJ d E (Y (cH e,J))))=Y ([cH e],U):=by
  show Y _=_;rw[(oD e)];rfl
 rw[a];show(Vv _ (.str _) _ _).map _=_;rw[(UP hl hs)];rfl
theorem LI:∀(es E:List Ed)(z:g_),Z E+Z es<1000->(∀e∈es,e.1∈jc)->∃B,i7 (eV U [3]) (dZ C Io) (es.map cH) (IJ d E z)=Y (.nx (IJ d (E++es) B))
 |[],E,z,_,_=>⟨z,by rw[aI];rfl⟩
 |e::es,E,z,hl,hs=>by
   obtain⟨B,a⟩:=LI es (E++[e]) (Y _) (by exact iF hl) λx b=>hs x (jZ _ b);refine⟨B,?_⟩;rw[aJ]at a;show((dZ C Io (IJ d E (Y _))).bind _)=_;rwa[Xb (ao (aX _ _) hl) (hs e jL)]
def aaL:dZ C [.set 1 .m7,.loop U [2] (.itv (.con (.tup [(.str (ab "out")),(.str (ab "in")),(.str (ab "done")),(.str (ab "num")),(.str (ab "let")),(.str (ab "all"))]))) [(.mut .seti 1 [(.lst []),(.v 2)])]] [Y (d,J),L,L,L]=Y (.nx (IJ d [] L)):=by kernel_rfl
def Kr{E:List Ed}(B:Cn D (n+2) 8 [tb t]=Y (.lst (E.map cH),U))(hl:Z E<=300)(hs:∀e∈E,e.1∈jc):Cn D (n+3) 9 [tb t]=Y (kR E,U):=by
 refine fi W ?_;refine (?_ : dZ (Cn D (n+2)) ([.set 1 .m7,.loop U [2] (.itv (.con (.tup [(.str (ab "out")),(.str (ab "in")),(.str (ab "done")),(.str (ab "num")),(.str (ab "let")),(.str (ab "all"))]))) [(.mut .seti 1 [(.lst []),(.v 2)])]]++[.loop U [3] (.itv (.call 8 [.v 0])) Io,.oM 1]) [Y (tb t,J),L,L,L]=_);rw[BX aaL];obtain⟨a,b⟩:=LI E [] L (ao (jD hl _) bR) hs
 have h1:pB (Cn D (n+2)) (.loop U [3] (.itv (.call 8 [.v 0])) Io) (IJ (tb t) [] L)=Y (.nx (IJ (tb t) E a)):=by
  rw[ym];have:bf (Cn D (n+2)) (.call 8 [.v 0]) (full (IJ (tb t) [] L))=Y (.lst _,U):=B;rw[this];exact b
 rw[nU h1];rfl
noncomputable abbrev pre(x:List Nat)(p:Nat)(e:Ed):Bool:=decide (e.2.1 <+: x.drop p)
def X9{x:List Nat}(hp:p<=x.length):ik (T x) (T y) (p:Int)=decide (y <+: x.drop p):=by
 have c:PySem.fromIndex (T x).length (p)=p:=by
  rfl
 unfold ik;rw[c];have a:(T x).length=x.length:=bC;have b:(T y).length=y.length:=bC;unfold Builtin.Str.subAt;rw[b]
 have d:((T x).cps.extract p (p+y.length) == (T y).cps)=decide ((x.drop p).take y.length=y):=by
  rw[show(T x).cps.extract p _=((x.drop p).take y.length).toArray by simp]
  grind
 rw[d];by_cases h:y <+: x.drop p
 .rw[decide_eq_true h,decide_eq_true (dF.mp h).symm,decide_eq_true (qt (ws hp) h.length_le (ae a.symm))];rfl
 grind
def Ks{es:List Ed}{x:List Nat}(hp:p<=Z x)(hl:Z es<=1000):Cn D (n+1) 15 [.lst (es.map cH),.str (T x),.int (p:Nat)]=Y (.lst ((es.filter (pre x p)).map cH),U):=
 fi W (wU (uJ _ W hl oD λe _=>⟨J,by
  refine (?_ : Y (Dat.bl (ik _ (T _) _),J)=_)
  rw[X9 hp]⟩))
abbrev Row:=aW->Option Nat
class VD (α:Type) where
 v:α->Dat
 i:∀a,im (v a)=U
noncomputable instance:VD Nat:=⟨λk=>.int (k:Nat),λ_=>W⟩
noncomputable def vD{α:Type}[VD α]:Option α->Dat
 |none=>.non
 |some k=>VD.v k
abbrev dD{α:Type}[VD α](l:List aW)(g:aW->Option α):Dat:=.dct (l.map bF) (l.map λs=>vD (g s))
theorem LJ{α:Type}[VD α]{g:aW->Option α}{s:aW}:∀{l:List aW},s∈l->iO (.inr s) (l.map bF) (l.map λs=>vD (g s))=Y (vD (g s))
 |a::r,h=>by
   show(if(bF a)=.inr s then Y (vD (g a))else iO (.inr s) (r.map bF) (r.map λs=>vD (g s)))=_;by_cases q:a=s
   .simp_all
   .rw[if_neg λe=>q (oV e)];exact LJ ((aw.mp h).resolve_left λe=>q e.symm)
noncomputable abbrev mD:List aW:=["out","done","num"]
structure gE(E:List Ed):Prop where
 b:∀e∈E,e.1∈jc
 o:∀e∈E,e.2.2.2∈jc
 t:∀e∈E,Z e.2.1<=1000
 n:∀e∈E,e.2.1=[]->e.1="num"/\e.2.2.2="let"
 l:Z E<=300
def VH(n:Nat):(jc.all λs=>qU (Cn D (n+1) 2 [.str s]) (Y (.bl (decide (s∈mD)),J)))=U:=by kernel_rfl
def Kl(hs:s∈jc):Cn D (n+1) 2 [.str s]=Y (.bl (decide (s∈mD)),J):=pe (bE.mp (VH n) s hs)
theorem zw:∀{l:List aW},s∈l->iO (.inr s) (l.map bF) (l.map g)=Y (g s)
 |a::r,h=>by
   show(if(bF a)=.inr s then Y (g a)else iO (.inr s) (r.map bF) (r.map g))=_;by_cases q:a=s
   .simp_all
   .rw[if_neg λe=>q (oV e)];exact zw ((aw.mp h).resolve_left λe=>q e.symm)
theorem uB:∀ds:List Dat,qr (oF C 1 U ρ0 [] .m7) ds=Y (br ds.length (.dct [] []),U)
 |[]=>rfl
 |d::ds=>by
   show bc (Y (Y (Dat.dct [] [],U))) _=_;rw[uB ds];rfl
def cq(b:Nat)(g:List Int):Prop:=0<Z g/\Z g<=b/\∀c∈g,1<=c/\c<=63
def Cw(C:Fs)(N:Dat):Prop:=∀k a:Int,0<=k/\k<=100->0<a/\a<=63->∃c b,C 24 [N,.int k,.int a]=Y (tI c,b)/\cq 4 c
def B8(hd:Dw C N)(hi:bf C it ρ=Y (.int (m:Nat),f))(B:m<=10)(hk:0<=k/\k<=1000)(hp:0<p)(hf:0<F/\F<=63)
  (h1:∀d,bf C e1 ((j2 1 caps ρ).set 0 (Y d))=Y (N,J))(h2:∀d,bf C e2 ((j2 1 caps ρ).set 0 (Y d))=Y (.int k,J))(h3:∀d,bf C e3 ((j2 1 caps ρ).set 0 (Y d))=Y (.int F,J)) :
  ∃I:List Int,bf C (.comp 1 U caps (.rng [it]) [] (.bin .add (.e_ 1) (.call 23 [e1,e2,.bin .add (.con (.int p)) (.bin .mul (.e_ 22) (.v 0)),e3]))) ρ=Y (.lst (I.map Dat.int),U)/\Z I=m/\∀c∈I,1<=c/\c<=63:=by
 obtain⟨I,a,l,h,_⟩:=pU (elt:=.bin _ _ (.call 23 [e1,e2,.bin _ (.con (.int p)) (.bin _ (.e_ 22) (.v 0)),e3])) (λc:Nat=>.int _) (λ_ c:Nat=>(1:Int)<=c/\(c:Int)<=63) (qd hi (aa B bR)) (by grind) (λ_=>W) λj b=>
  Ek (gW hd (h1 _) (h2 _) (l5 W (Ee W (j:=(j)) (g:=J) (by rw[pC];simp[j2]) bR)) (h3 _) hk (by omega) hf.1 λ_ h=>h) λq h=>by omega
 rw[a8]at l;refine⟨I.map _,by rwa[cF],by rw[aB,l],λc hc=>?_⟩;obtain⟨d,hd,rfl⟩:=bX.mp hc;obtain⟨_,_,q⟩:=h d hd;exact q
def cw{ns:List Int}:Cw (Cn D (n+3)) (.lst (ns.map Dat.int)):=λk c hk hf=>by
 have hd:Dw (Cn D (n+2)) (.lst (ns.map _)):=dw
 suffices h:Go (Cn D _) _ [Y (.lst (ns.map _),J),Y _,Y _,L] λo=>∃f b,o=.rt (tI f) b/\cq 4 f by
  obtain⟨_,h1,f,b,rfl,h2⟩:=h;exact⟨f,b,fi W h1,h2⟩
 generalize Dat.lst (ns.map _)=N at hd ⊢;have a:0<=k/\k<=1000:=⟨hk.1,(fK hk.2 (by decide))⟩
 refine vU (P:=λv=>1<=v/\v<=4) (tQ hd W rfl rfl rfl a (by decide) (by decide) (by decide)) (λv=>tP (gW hd W rfl rfl rfl a (by decide) (by decide) λ_ _=>trivial) 0) (λv=>tQ hd W rfl rfl rfl a (by decide) (by decide) (by decide)) λm d=>?_;obtain⟨h1,h2⟩:=d
 .obtain⟨f,e,l,h3⟩:=B8 (ρ:=full [Y (N,J),Y (.int k,J),Y (.int c,J),Y (.int _,J)]) (p:=10039) (caps:=[2,1,0]) (it:=.v 3) (e1:=.v 3) (e2:=.v 2) (e3:=.v 1) hd W (aa h2 (by decide)) a (by decide) hf (λ_=>W) (λ_=>W) (λ_=>W);exact iJ (gn e W) ⟨f,_,W,aa h1 (ae l.symm),aa (ae l) h2,h3⟩
section
def WB{z:Int}{f:Bool}(h:bf C e ρ=Y (.int z,f)):∃c b,bf C (.ix (.f_ "abcdefghijklmnopqrstuvwxyz") (.bin .mod e (.e_ 26))) ρ=Y (sT [c],b)/\c∈sL:=by
 have h1:0<=z % 26:=Ro _ bR;obtain⟨q,a⟩:=j7 h1;have hl:q<Z sL:=by show q<26;omega
 refine⟨_,J,?_,bA hl⟩;rw[Gv,pD,h];show((gQ .mod (.int z) (.int 26)).bind λy=>(x5 (.str (T sL)) _).map λd=>(d,J))=_;rw[oh bR,a];show((x5 (.str _) (.int _)).map _)=_;rw[Wc bR hl];rfl
def Se{elt:Ex}{caps:List Nat}{P:Nat->Prop}{r:Nat->Prop}(h:Ei C e ρ r)(B:∀m,r m->m<=1000)(hs:∀m,r m->∀i,i<m->∃c b,bf C elt ((j2 1 caps ρ).set 0 (Y (.int ((i:Nat):Int))))=Y (sT [c],b)/\P c):Ev C (.i6 .join (.f_ "") [.comp 1 U caps (.rng [e]) [] elt]) ρ λd=>∃F:List Nat,d=sT F/\r (Z F)/\∀c∈F,P c:=by
 refine ac λ_ k=>?_;obtain⟨m,f,q,g⟩:=h;have a:=B m g;obtain⟨F,e,l,n,_⟩:=pU (λc=>sT _) _ (qd q a) (by simp_all) (λ_=>W) λi hi=>hs m g i (bu.mp hi);refine k ?_;rw[a8]at l;have j:=uy (by rw[Ya];exact aa (ae l) (aa a bR));rw[Sa,cF]at j;exact⟨_,J,by rwa[uH,bH,e],W,F,W,by rwa[l],λc hc=>by obtain⟨_,_,q⟩:=n c hc;exact q⟩
end
def lq(g:List Nat):Prop:=0<Z g/\Z g<=6/\∀c∈g,c∈sL
abbrev Nt(g:List Nat):Dat:=.lst (g.map λc=>sT [c])
def Lw(C:Fs)(N:Dat):Prop:=∃a,C 25 [N]=Y (Nt a,U)/\lq a
def lw{ns:List Int}:Lw (Cn D (n+3)) (.lst (ns.map Dat.int)):=by
 have hd:Dw (Cn D (n+2)) (.lst (ns.map _)):=dw
 suffices h:Go (Cn D _) _ [Y (.lst (ns.map _),J),L,L,L] λo=>∃d,o=.rt (Nt d) U/\lq d by
  obtain⟨_,h1,d,rfl,h2⟩:=h;exact⟨d,fi W h1,h2⟩
 generalize Dat.lst (ns.map _)=N at hd ⊢;refine vU (P:=λv=>1<=v/\v<=6) (tQ hd W rfl rfl rfl (by decide) (by decide) (by decide) (by decide)) (λv=>tP (gW hd W rfl rfl rfl (by decide) (by decide) (by decide) λ_ _=>trivial) 0) (λv=>tQ hd W rfl rfl rfl (by decide) (by decide) (by decide) (by decide)) λm a=>?_;obtain⟨h1,h2⟩:=a;refine n8 (qx (gW hd W rfl rfl rfl (by decide) (by decide) (by decide) λq h=>trivial)) ?_;rintro _ ⟨b,rfl,-⟩;refine n8 (qx (Gz (is:=[1,3,5,7,9,11,15]) W (gW hd W rfl rfl rfl (by decide) (by decide) (by decide) λq h=>by show q<7;omega) λ_ _=>trivial)) ?_;rintro _ ⟨st,rfl,-⟩;obtain⟨d,e,l,hl,_⟩:=pU (ρ:=full [Y _,Y (.int _,J),Y (.int _,J),Y (.int _,J)]) (caps:=[2,3]) (it:=.rng [.v 1]) (elt:=.ix (.f_ _) (.bin _ (.bin _ (.v 1) (.bin _ (.v 0) (.v 2))) _)) (λc=>sT _) _ (qd W (aa h2 (by decide))) (by rw[a8];exact aa h2 (by decide)) (λ_=>W) λi hi=>WB (l5 W (Ee W rfl (by grind)));rw[a8]at l;exact iJ e ⟨d,W,aa h1 (ae l.symm),aa (ae l) h2,λc hc=>by obtain⟨_,_,q⟩:=hl c hc;exact q⟩
def lo(g:List Nat)(f:Fm):Prop:=D8 f/\(∀c∈f.1,c∈g)/\∀c∈f.2.1,1<=c/\c<=63
def Fw(C:Fs)(N:Dat):Prop:=∀(k a:Int)(c:List Nat),0<=k/\k<=10->0<a/\a<=63->lq c->∃f b,C 26 [N,.int k,Nt c,.int a]=Y (iQ f,b)/\lo c f
def plB(C:Fs):((aQ 16).all λk=>qU (bf C plX [L,L,L,L,L,L,Y (.int (k:Nat))]) (Y (.str (T (XB k)),J)))=U:=by kernel_rfl
def Zx{C:Fs}{a b c d e f g:Option Dat}{k:Nat}(h:k<16):bf C plX [a,b,c,d,e,f,Y (.int (k:Nat)),g]=Y (sT (XB k),J):=pe (bE.mp (plB C) k (bu.mpr h))
def fw{ns:List Int}:Fw (Cn D (n+4)) (.lst (ns.map Dat.int)):=λk a B hk hf hl=>by
 have hd:Dw (Cn D (n+3)) (.lst (ns.map _)):=dw;have hc:Cw (Cn D (n+3)) (.lst (ns.map _)):=cw
 suffices h:Go (Cn D _) _ [Y (.lst (ns.map _),J),Y _,Y _,Y _,L,L,L,L] λo=>∃f b,o=.rt (iQ f) b/\lo B f by
  refine ac λ_ u=>?_;obtain⟨_,h1,f,b,rfl,h2⟩:=h;refine u ?_;exact⟨f,b,fi W h1,h2⟩
 generalize Dat.lst (ns.map _)=N at hd hc ⊢;generalize Cn D _=C at hd hc ⊢;refine vU (P:=λv=>1<=v/\v<=6) (tQ hd W (l5 W rfl) W rfl (⟨(Jl hk.1),(Jl hk.2)⟩) (by decide) (by decide) (by decide)) (λv=>tP (gW hd W (l5 W rfl) W rfl (⟨(Jl hk.1),(Jl hk.2)⟩) (by decide) (by decide) λ_ _=>trivial) 0) (λv=>tQ hd W (l5 W rfl) W rfl (by omega) (by decide) (by decide) (by decide)) λm t=>?_;have j:jq .len [Nt B]=Y (.int (B.length),J):=by simp
 refine n8 (Se (r:=λm=>1<=m/\m<=6) ⟨m,_,W,t⟩ (λm h=>(aa h.2 (by decide))) λm t i hi=>Mp W (gW hd W (l5 W rfl) (l5 W (Ee W rfl (by decide))) (j) (⟨(Jl hk.1),(Jl hk.2)⟩) (by omega) (pO.mpr hl.1) λq h=>by omega) λc hc=>hc) ?_;rintro _ ⟨z,rfl,w,d⟩;refine n8 (qx (P:=λm=>1<=m/\m<16) (Ek (gW hd W (l5 W rfl) W rfl (⟨(Jl hk.1),(Jl hk.2)⟩) (by decide) (by decide) λq h=>by omega) λq h=>by omega)) ?_;rintro _ ⟨l,rfl,p,g⟩;refine bL (dv (Zx g) W) ?_;refine ac λ_ u=>?_;obtain⟨E,b,x,c1,c2,y⟩:=hc (20+k) a (⟨(Jl hk.1),(Jl hk.2)⟩) hf
 refine u ?_;have s:∀A:ic,A[0]?=Y (Y N)->A[1]?=Y (Y (.int k))->A[3]?=Y (Y _)->bf C (.call 24 [.v 0,.bin .add (.e_ 20) _,.v 3]) _=Y _:=λA h0 h1 h3=>by
  rwa[jh,bH,pC,h0,bH,pD,pC,h1,bH,pC,h3]
 refine iJ (f:=U) ?_ ⟨(z,E,XB l),_,W,⟨λe=>?_,λc hc=>hl.2.2 c (d c hc),w.2,c1,c2,l,p,g,W⟩,d,y⟩
 .rw[zF,gf,gf,s _ W rfl rfl];show Y (iQ (z,E,XB l),((b || im _) && U))=_;rw[lH,tD];rfl
 simp_all
section
def Vt{fs:List Fm}(B:bf C x (full ρ)=Y (.lst (fs.map iQ),g))(hl:Z fs<=1000)(O:bf C y (full ρ)=Y (iQ f,g')):∃t f',bf C (.cmp .nin (.sl y L (Y (.e_ 2))) (.comp 1 U [] (.itv x) [] (.sl (.v 0) L (Y (.e_ 2))))) (full ρ)=Y (.bl t,f'):=by
 obtain⟨a,e,_,_⟩:=pU (elt:=.sl (.v 0) L (Y (.e_ 2))) (λf:Fm=>.tup [sT _,tI _]) (λ_ _=>True) (by rw[QA,B];rfl) hl (λf=>by
  show(U && (lW (f.2.1.map _) && U))=U
  rw[rp];rfl) λf _=>⟨f,J,W,trivial⟩
 have hs:∀fs:List Fm,eU 20 (fs.map λf=>Dat.tup [sT f.1,tI f.2.1])=U:=λfs=>by
  induction fs with
  |nil=>rfl
  |cons g r b=>show(iY 20 _ && eU 20 _)=U;rw[AN,b];rfl
 obtain⟨t,c⟩:∃t,jM .nin (.tup [sT f.1,tI f.2.1]) (.lst (a.map λf=>.tup [sT f.1,tI f.2.1]))=Y t:=⟨_,if_pos (by rw[AN,hs];rfl)⟩
 refine⟨t,J,?_⟩;rw[Ef,e,BY,O];show((jM _ (.tup [sT _,tI _]) _).map _)=_;rw[c];rfl
def zC(h:Ev C x (full ρ) P)(O:bf C y (full ρ)=Y (.int k,g))(hi:(ρ[i]?).join=Y (.lst ds,U))(K:∀d,P d->∃B,lG .seti (.lst ds) [d,.int k]=Y (.lst B)/\Go C ss (ρ.set i (Y (.lst B,U))) Q):Go C (.mut .seti i [x,y]::ss) ρ Q:=by
 refine ac λ_ c=>?_;obtain⟨d,f,h1,h2,h3⟩:=h;obtain⟨B,a,b⟩:=K d h3;refine c ?_;exact bL (zp hi (by rw[gf,h1,gf,O];show Y ([d,.int k],(f || im d) && ((g || U) && U))=_;simp_all) a) b
end
structure fq(ls:List Nat)(fs:List Fm):Prop where
 o:∀f∈fs,lo ls f
 w:∀c∈ls,∃cs,([c],cs,Sz)∈fs
abbrev Z7(N:Dat)(B:Int)(C:List Nat)(fs:List Fm)(O g z6:g_):cY:=[Y (N,J),Y (.int B,J),Y (Nt C,U),O,Y (.lst (fs.map iQ),U),g,z6]
def I22(N:Dat)(B:Int)(g:List Nat)(us:List Nat)(ρ:cY):Prop:=∃(fs:List Fm) (a b c:g_),ρ=Z7 N B g fs a b c/\Z fs<=Z g+Z us/\fq g fs
def Yi{fs:List Fm}(h:q<=Z fs):E8 (.lst (fs.map iQ)) L (Y (q:Int))=Y (.lst ((fs.take q).map iQ),U):=by
 show Y (Dat.lst (cutD _ L (Y _)),lW (cutD _ L (Y _)))=_;rw[GG (fB _) (by simp_all),show((q:Int)).toNat=q by rfl,<-List.map_take,m6]
def Yj{fs:List Fm}(h:q<=Z fs):E8 (.lst (fs.map iQ)) (Y (q:Int)) L=Y (.lst ((fs.drop q).map iQ),U):=by
 show Y (Dat.lst (cutD _ (Y _) L),lW (cutD _ (Y _) L))=_;rw[GF (fB _) (by rw[aB];exact fJ.mpr h),show((q:Int)).toNat=q by rfl,<-List.map_drop,m6]
def M7{A B:List Fm}(h:Z A+Z B<=1000):gQ .add (.lst (A.map iQ)) (.lst (B.map iQ))=Y (.lst ((A++B).map iQ),U):=by
 rw[oi (by rw[aB,aB];exact aa h bR),<-dJ,m6]
def Tt(hd:Dw C N)(F:Fw C N)(hf:0<R/\R<=63)(hl:lq S){us:List Nat}(I:Z us<=5)(hx:x<=5)(h:I22 N R S us ρ):∃ρ1,eV U [3] (.int (x:Nat)) ρ=Y ρ1/\Go C iB ρ1 λo=>∃O,o=.nx O/\I22 N R S (us++[x]) O:=by
 refine ac λ_ n=>?_;obtain⟨fs,r,s,D,rfl,h1,h2⟩:=h;refine n ?_;refine⟨_,W,?_⟩;refine ac λ_ n=>?_;obtain⟨f,b,k,l⟩:=F _ _ S (⟨(fB _),(fK (fJ.mpr hx) bR)⟩) hf hl;refine n ?_;have m:=hl.2.1;refine bL (dv k (Ge f)) ?_;refine BL (Vt W (qt h1 m I) W) ?_ ⟨fs,_,_,_,W,by rw[aj];exact cU h1,h2⟩ λp h=>bw ⟨_,W,h⟩;have d:jq .len [.lst (fs.map iQ)]=Y (.int (fs.length),J):=by simp
 refine n8 (qx (P:=(·<=Z fs)) (gW hd W (l5 W rfl) W (l5 (d) W) (by omega) bR (by simp) λq h=>by omega)) ?_;rintro _ ⟨q,rfl,j⟩;have e:Z (fs.drop q)=Z fs - q:=eC;refine eM ?_ (bw ⟨_,W,fs.take q++[f]++fs.drop q,_,_,_,W,?_,?_,?_⟩)
 .have t:bf C (.sl (.v 4) L (Y (.v 6))) (full (Z7 N R S fs (Y (.int (x),J)) (Y (iQ f,J)) (Y (.int _,J))))=Y (.lst _,U):=Yi j;have u:bf C (.sl (.v 4) (Y (.v 6)) L) (full (Z7 N R S fs (Y (.int (x),J)) (Y (iQ f,J)) (Y (.int _,J))))=Y (.lst _,U):=Yj j;have y:bf C (.lst [.v 5]) (full (Z7 N R S fs (Y (.int (x),J)) (Y (iQ f,J)) (Y (.int (q),J))))=Y (.lst ([f].map iQ),im (iQ f) && U):=rfl;show bf C _ (full (Z7 N _ S fs (Y (.int _,J)) (Y _) (Y (.int _,J))))=_;rw[pD,pD,t,u,y,bG,bG];rw[(M7 (A:=fs.take q) (B:=[f]) (by simp;exact Nr (k9 q fs.length) h1 m I))];exact (M7 (A:=fs.take q++[f]) (B:=fs.drop q) (by simp;exact a4 (jP q fs.length) (ad j) h1 m I))
 .rw[aj,e];grind
 .intro g a
  rcases au.mp a with a|a
  .rcases au.mp a with a|a
   .exact h2.o g (cy a)
   simp_all
  .exact h2.o g (fe a)
 .intro c hc;obtain⟨z,i⟩:=h2.w c hc;refine⟨z,?_⟩;rw[<-bo q fs]at i
  grind
def Ow(C:Fs)(N:Dat):Prop:=∀a:Int,0<a/\a<=63->∃(c:List Nat) (fs:List Fm) (b:Bool),C 27 [N,.int a]=Y (.tup (fs.map iQ),b)/\Z fs<=11/\lq c/\fq c fs
def vp(h:aQ m=us++x::vs):Z us<m/\x<m:=by
 have h1:=congrArg fI h;rw[a8,aj]at h1;exact⟨ao (aX _ _) (ae h1.symm),bu.mp (by rw[h];simp)⟩
def U4:Sz=XB 15:=bR
def ow{ns:List Int}:Ow (Cn D (n+5)) (.lst (ns.map Dat.int)):=λa hf=>by
 have hd:Dw (Cn D (n+4)) (.lst (ns.map _)):=dw;have hc:Cw (Cn D (n+4)) (.lst (ns.map _)):=cw;have d:Fw (Cn D (n+4)) (.lst (ns.map _)):=fw;obtain⟨z,el,hl⟩:Lw (Cn D (n+4)) (.lst (ns.map _)):=lw
 suffices h:Go (Cn D _) _ [Y (.lst (ns.map _),J),Y _,L,L,L,L,L] λo=>∃(fs:List Fm) (b:Bool),o=.rt (.tup (fs.map iQ)) b/\Z fs<=11/\fq z fs by
  refine ac λ_ y=>?_;obtain⟨_,h1,fs,b,rfl,h2,h3⟩:=h;refine y ?_;exact⟨z,fs,b,fi W h1,h2,hl,h3⟩
 generalize Dat.lst (ns.map _)=N at hd hc d el ⊢;generalize Cn D _=C at hd hc d el ⊢;have s:=hl.2.1;have g:jq .len [Nt z]=Y (.int (z.length),J):=by simp
 refine eM el ?_
 obtain⟨fs,e,l,h1,h2⟩:=pU (ρ:=full [Y (N,J),Y (.int a,J),Y (Nt z,U),L,L,L,L]) (caps:=[1,2,0]) (it:=.rng [.blt .len [.v 2]]) (elt:=.tup [.ix (.v 2) (.v 0),.call 24 [.v 3,.bin .add (.e_ 4) (.v 0),.v 1],.f_ "wbme"]) iQ (λ(k)(f)=>lo z f/\∀h:k<Z z,f.1=[z[k]]/\f.2.2=Sz) (qd (g) (aa s (by decide))) (by rw[a8];exact aa s (by decide)) (λf=>Ge f) λi hi=>by
  have hi:=bu.mp hi;refine ac λ_ y=>?_;obtain⟨F,b,t,c1,c2,u⟩:=hc (4+(i)) a (by omega) hf
  refine y ?_;have j:x5 (Nt z) (.int (i))=Y (sT [z[i]]):=by
   show uK _ _=_;rw[j3 (by rw[aR,af hi];rfl)]
  refine⟨([z[i]],F,Sz),U,?_,⟨⟨by simp,λc h=>?_,by simp,c1,c2,15,by decide,by decide,U4⟩,λc h=>?_,u⟩,λ_=>⟨W,W⟩⟩
  .show bc (bc (kG _ (x5 (Nt z) (.int _))) _) _=_;rw[j];show bc (kG _ (bc (C 24 [N,.int _,.int a]) _)) _=_;rw[t];show Y (iQ ([z[i]],F,Sz),((b || im _) && U))=_;rw[lH,tD];rfl
  .rw[az.mp h];exact hl.2.2 _ (bA hi)
  simp_all
 rw[a8]at l;refine eM e ?_;refine D7 (I:=I22 N a z) (gW hd W rfl rfl rfl (by decide) (by decide) (by decide) λq h=>by omega) (λm h=>by omega) ⟨fs,_,_,_,W,ae l,⟨λf hf=>?_,λc hc=>?_⟩⟩ (λm w us x vs ρ r p=>Tt hd d hf hl (by have:=vp r;omega) (by have:=vp r;omega) p) λm w ρ p=>?_
 .obtain⟨_,_,q,_⟩:=h1 f hf;exact q
 .obtain⟨i,hi,rfl⟩:=lO hc;obtain⟨f,hf,_,q⟩:=h2 i (bu.mpr hi);exact⟨_,by rwa[<-(q hi).1,<-(q hi).2]⟩
 .obtain⟨fs,B,E,G,rfl,j,A⟩:=p;rw[a8]at j;exact iJ (by rfl) ⟨fs,_,W,by omega,A⟩
def Mw(C:Fs)(N:Dat):Prop:=∀k a:Int,0<=k/\k<=100->0<a/\a<=63->∃c b,C 28 [N,.int k,.int a]=Y (tI c,b)/\cq 2 c
def mw{ns:List Int}:Mw (Cn D (n+4)) (.lst (ns.map Dat.int)):=λk a hk hf=>by
 obtain⟨g,b,e,c1,c2,f⟩:=cw k a hk hf;refine⟨g.take 2,J,fi W ?_,by rw[fO];omega,by rw[fO];exact jP _ _,λc h=>f c (cy h)⟩;generalize Dat.lst (ns.map _)=N at e ⊢;generalize Cn D _=C at e ⊢;refine wU ?_;show bc (C 24 [N,.int k,.int a]) _=_;rw[e];show Y (Dat.tup (cutD (g.map _) L _),J)=_
 have:cutD (g.map Dat.int) L (Y 2)=(g.take 2).map Dat.int:=by
  by_cases h:2<=Z g
  .rw[GG (by simp) (by grind)];simp
  .match g,c1 with
   |[c],_=>rfl
   |c::d::r,_=>simp at h
 rw[this]
def mq(b:Nat)(m:List Int):Prop:=Z m<=b/\∀c∈m,1<=c/\c<=63
def sJ(b:Nat):mq b []:=⟨aK _,λ_ h=>nomatch h⟩
def cq.m{b:Nat}{m:List Int}(h:cq b m):mq b m/\m≠[]:=⟨⟨h.2.1,h.2.2⟩,λe=>by rw[e]at h;exact absurd h.1 bR⟩
structure wT(t:Tb):Prop where
 ok:Ie t
 own:∀f∈t.fs,∀c∈f.1,∃cs,([c],cs,Sz)∈t.fs
 cf:∀f∈t.fs,∀c∈f.2.1,1<=c/\c<=63
 cm:∀m∈[t.m0,t.m1,t.m2,t.m3,t.fg],∀c∈m,1<=c/\c<=63
 m1:t.m1≠[]->t.m0≠[]
 m3:t.fg≠[]->t.m3≠[]
def uI(B:Mw C N)(h0:ρ[0]?=Y (Y (N,J)))(h1:ρ[1]?=Y (Y (.int g,J)))(hk:0<=k/\k<=100)(hf:0<g/\g<=63):Ev C (.call 28 [.v 0,.con (.int k),.v 1]) (full ρ) λd=>∃F,d=tI F/\cq 2 F:=by
 obtain⟨F,b,e,h⟩:=B k _ hk hf;refine⟨_,b,?_,lH F,F,W,h⟩;have a:bf C (.v 0) (full ρ)=Y (N,J):=by rw[pC,full,aR,h0];rfl
 have c:bf C (.v 1) (full ρ)=Y (.int g,J):=by rw[pC,full,aR,h1];rfl
 rwa[jh,bH,a,bH,bH,c]
abbrev mk4(m0 m1 m2 m3:List Int):Dat:=.lst [tI m0,tI m1,tI m2,tI m3]
def HD{ns:List Int}:∃t b,Cn D (n+6) 29 [.lst (ns.map Dat.int)]=Y (tb t,b)/\wT t:=by
 have hd:Dw (Cn D (n+5)) (.lst (ns.map _)):=dw;have i:Mw (Cn D (n+5)) (.lst (ns.map _)):=mw;have ho:Ow (Cn D (n+5)) (.lst (ns.map _)):=ow
 suffices h:Go (Cn D _) _ [Y (.lst (ns.map _),J),L,L,L,L] λo=>∃t b,o=.rt (tb t) b/\wT t by
  refine ac λ_ B=>?_;obtain⟨_,h1,t,b,rfl,h2⟩:=h;refine B ?_;exact⟨t,b,fi W h1,h2⟩
 generalize Dat.lst (ns.map _)=N at hd i ho ⊢;generalize Cn D _=C at hd i ho ⊢;refine n8 (qx (P:=λq=>0<q/\q<=63) (Gz (is:=[3,6,63]) W (gW hd W rfl rfl rfl bR bR bR λq h=>by show q<3;omega) bR)) ?_;rintro _ ⟨a,rfl,hf⟩;have hf:(0:Int)<(a)/\(a:Int)<=63:=⟨(pO.mpr hf.1),(fJ.mpr hf.2)⟩
 refine eM W ?_;refine BL (J':=λρ=>∃m0 m1,ρ=[Y _,Y (.int _,J),Y (mk4 m0 m1 [] [],U),L,L]/\mq 2 m0/\mq 2 m1/\(m1≠[]->m0≠[])) (tP (gW hd W rfl rfl rfl bR bR bR λq h=>trivial) 0) ?_ ⟨[],[],W,sJ 2,sJ 2,λh=>absurd rfl h⟩ ?_
 .refine zC (uI i W rfl bR hf) W rfl λd g=>?_;obtain⟨m0,rfl,h0⟩:=g;refine⟨_,W,BL (J':=λρ=>∃m1,ρ=[Y _,Y (.int _,J),Y (mk4 m0 m1 [] [],U),L,L]/\mq 2 m1) (tP (gW hd W rfl rfl rfl bR bR bR λq h=>trivial) 0) ?_ ⟨[],W,sJ 2⟩ ?_⟩
  .refine zC (uI i W rfl bR hf) W rfl λd g=>?_;obtain⟨m1,rfl,h1⟩:=g;exact⟨_,W,bw ⟨_,W,m1,W,h1.m.1⟩⟩
  .rintro _ ⟨m1,rfl,h1⟩;exact bw ⟨_,W,m0,m1,W,h0.m.1,h1,λ_=>h0.m.2⟩
 rintro _ ⟨m0,m1,rfl,h0,h1,s⟩;refine eM W ?_;refine BL (J':=λρ=>∃m2 m3 fg E,ρ=[Y _,Y (.int _,J),Y (mk4 m0 m1 m2 m3,U),Y (.lst (fg.map Dat.int),U),E]/\mq 2 m2/\mq 2 m3/\mq 10 fg/\(fg≠[]->m3≠[])) (tP (gW hd W rfl rfl rfl bR bR bR λq h=>trivial) 0) ?_ ⟨[],[],[],L,W,sJ 2,sJ 2,sJ 10,λh=>absurd rfl h⟩ ?_
 .refine vU (P:=λv=>1<=v/\v<=10) (tQ hd W rfl rfl rfl bR bR bR bR) (λv=>tP (gW hd W rfl rfl rfl bR bR bR λ_ _=>trivial) 0) (λv=>tQ hd W rfl rfl rfl bR bR bR bR) λm u=>?_;have k:=u.2;refine ac λ_ B=>?_;obtain⟨fg,e,l,h3⟩:=B8 (ρ:=full [Y (N,J),Y (.int _,J),Y _,Y _,Y (.int _,J)]) (p:=30091) (caps:=[1,0]) (it:=.v 4) (e1:=.v 2) (e2:=.e_ 27) (e3:=.v 1) hd W k bR bR hf (λ_=>W) (λ_=>W) (λ_=>W);refine B ?_;refine eM e ?_;refine zC (uI i W rfl bR hf) W rfl λd g=>?_;obtain⟨m2,rfl,h2⟩:=g;refine⟨[tI m0,tI m1,tI m2,tI []],W,zC (uI i W rfl bR hf) W rfl λd g=>?_⟩;obtain⟨m3,rfl,r⟩:=g;exact⟨_,W,bw ⟨_,W,m2,m3,fg,_,W,h2.m.1,r.m.1,⟨aa (ae l) k,h3⟩,λ_=>r.m.2⟩⟩
 rintro _ ⟨m2,m3,fg,E,rfl,h2,h3,x,y⟩;obtain⟨F,fs,b,e,hl,z,j⟩:=ho a hf;refine iJ (d:=tb ⟨fs,m0,m1,m2,m3,fg⟩) (f:=U) ?_ ⟨_,_,W,⟨λf hf=>(j.o f hf).1,cU hl,h0.1,h1.1,h2.1,h3.1,x.1⟩,λf hf c hc=>j.w c ((j.o f hf).2.1 c hc),λf hf=>(j.o f hf).2.2,?_,s,y⟩
 .show bc (bc (C 27 [N,.int _]) _) _=_;rw[e];have A:im (Dat.tup _)=U:=m6 fs
  have i2:im (Dat.tup [tI m0,tI m1,tI m2,tI m3])=U:=by
   simp only[im,lW,gR,ag];exact⟨lH _,lH _,lH _,lH _⟩
  have i3:=lH fg;refine (?_ : Y (tb ⟨fs,m0,m1,m2,m3,fg⟩,(b || im (Dat.tup _)) && ((_ || im (Dat.tup _)) && ((_ || im _) && U)))=_)
  simp_all
 .intro m i c hc;simp only[aw,bx,or_false]at i
  rcases i with rfl|rfl|rfl|rfl|rfl
  .exact h0.2 c hc
  .exact h1.2 c hc
  .exact h2.2 c hc
  .exact h3.2 c hc
  .exact x.2 c hc
noncomputable def ltN(a b:Nat):Bool:=decide (a<b)
def loN:M.LO ltN:=⟨λx=>by simp[ltN],λx y z h a=>by simp[ltN]at *;exact cT h a,λx y h a=>by simp[ltN]at *;exact aD a h⟩
def lt1(a b:Nat):wH (T [a]) (T [b])=ltN a b:=by
 refine decide_eq_decide.mpr ⟨λh=>?_,λh=>(List.Lex.rel h)⟩
 .cases h with
  |rel h=>exact h
  |cons h=>cases h
theorem BG{α C:Type}{lt:α->α->Bool}{B:C->C->Bool}{g:α->C}(h:∀a b,B (g a) (g b)=lt a b)(x:α):∀l:List α,vR B (g x) (l.map g)=(vR lt x l).map g
 |[]=>rfl
 |y::c=>by
   simp only[aA,vR,h];split
   .rfl
   .split
    .rw[BG h x c];rfl
    .rfl
theorem xF{α C:Type}{lt:α->α->Bool}{B:C->C->Bool}{g:α->C}(h:∀a b,B (g a) (g b)=lt a b):∀l:List α,iw B (l.map g)=(iw lt l).map g
 |[]=>rfl
 |x::l=>by simp only[aA,iw,xF h l,BG h]
theorem BF{α C:Type}{lt:α->α->Bool}{B:C->C->Bool}{g:α->C}(h:∀a b,B (g a) (g b)=lt a b)(x:α):∀l:List α,wZ B (g x) (l.map g)=(wZ lt x l).map g
 |[]=>rfl
 |y::c=>by
   simp only[aA,wZ,h];split
   .rw[BF h x c];rfl
   .rfl
theorem xD{α C:Type}{lt:α->α->Bool}{B:C->C->Bool}{g:α->C}(h:∀a b,B (g a) (g b)=lt a b):∀l:List α,oA B (l.map g)=(oA lt l).map g
 |[]=>rfl
 |x::l=>by simp only[aA,oA,xD h l,BF h]
abbrev c1(l:List Nat):List Dat:=l.map λc=>sT [c]
def TC{l:List Nat}(h:Z l<4000)(B:Z (iw ltN l)<64):jq .sset [.str (T l)]=Y (.lst (c1 (iw ltN l)),U):=by
 show E2 (eQ _)=_;rw[yX];unfold E2;rw[xF lt1,if_pos ⟨by simp_all,by simp_all⟩,cF];rfl
def T5{l:List Nat}(h:Z l<64):jq .sorted [.str (T l)]=Y (.lst (c1 (oA ltN l)),U):=by
 show E4 (eQ _)=_;rw[yX];unfold E4;rw[xD lt1,if_pos (by simp_all),cF];rfl
def ZR(l:List Nat):c1 l=(l.map λc=>[c]).map λl=>Dat.str (T l):=by rw[cF];rfl
def join_1{l:List Nat}(h:Z l<=1000):hZ .join (.str (T [])) [.lst (c1 l)]=Y (.str (T l),J):=by
 have:=uy (by rw[Ya];exact aa h bR);rwa[Sa,<-ZR]at this
noncomputable def lets(fs:List Fm):List Nat:=(fs.map (·.1)).flatten
def U'(fs:List Fm):List Nat:=iw ltN (lets fs)
def LK(ho:∀f∈fs,D8 f):Z (lets fs)<=6 * Z fs:=by
 induction fs with
 |nil=>simp[lets]
 |cons f r c=>
   have a:=c λg m=>ho g (jZ _ m);simp only[lets,aA,List.flatten_cons,aj,bM]at a ⊢;exact kX ((ho f jL).ll) a
def FV:c∈U' fs↔∃f∈fs,c∈f.1:=by
 rw[U',jJ loN];unfold lets;simp
def Sq(ho:∀f∈fs,D8 f):∀c∈U' fs,c∈sL:=λc hc=>by
 obtain⟨f,h3,h2⟩:=FV.mp hc;exact(ho f h3).low c h2
def Sr(ho:∀f∈fs,D8 f):Z (U' fs)<=26:=zm (nD loN (jX loN _)) λc hc=>Sq ho c hc
def HH{fs:List Fm}(h:Z fs<=100)(ho:∀f∈fs,D8 f):Cn D (n+1) 0 [.tup (fs.map iQ)]=Y (sT (U' fs),J):=by
 refine fi W ?_;have hl:=LK ho
 have h2:hZ .join (.str (T [])) [.lst (fs.map λf=>sT f.1)]=Y (.str (T (lets fs)),J):=by
  rw[show(fs.map λf=>sT _)=(fs.map (·.1)).map λl=>.str (T l) by rw[cF];rfl];refine uy ?_
  have e:((fs.map (·.1)).map (·.length)).sum=Z (lets fs):=by
   unfold lets;rw[List.length_flatten]
  exact qt (ae e) hl (Nat.mul_le_mul_left 6 h)
 have a:=Sr ho;exact wU (VE W (gn (VE W (GJ (C:=Cn D n) (ρ:=[Y (.tup _)]) (caps:=[]) (it:=.itv _) (elt:=.ix _ _) W (aa h bR) (λ_ _=>W) λf _=>⟨J,W⟩) h2) (TC (kX hl (Nat.mul_le_mul_left 6 h)) (ao a bR))) (join_1 (aa a bR)))
def slB:((aQ 11).all λk=>qU (E8 (.str (T sW)) L (Y (k:Nat))) (Y (.str (T (sW.take k)),J)))=U:=by kernel_rfl
def aaM(h:k<=10):E8 (.str (T sW)) L (Y (k:Nat))=Y (.str (T (sW.take k)),J):=pe (bE.mp slB k (bu.mpr (bb h)))
noncomputable def Ma(t:Tb)(u:List Nat):List Nat:=if t.m0.isEmpty=U then []else u.map (·- 32)
def raw(t:Tb):List Nat:=[32]++sW.take (Z t.fg)++Ma t (U' t.fs)++U' t.fs
def Qq(t:Tb)(u:List Nat):Z (Ma t u)<=Z u:=by
 unfold Ma;split
 .exact aK _
 simp
def Zy(B:∀c∈u,c∈sL)(hl:Z u<=1000):bf C (.ite (.cmp .eq (.ix (.ix (.v 0) (.e_ 1)) (.e_ 0)) (.tup [])) (.f_ "") (.i6 .upper (.v 1) [])) [Y (tb t),Y (sT u),a,b]=Y (sT (Ma t u),J):=by
 have h:bf C (.cmp .eq (.ix (.ix (.v 0) (.e_ 1)) (.e_ 0)) (.tup [])) [Y (tb t),Y (sT u),a,b]=Y (.bl t.m0.isEmpty,J):=by
  show(jM _ (tI _) (.tup [])).map _=_;rw[Ej];rfl
 rw[Gx h W];unfold Ma;cases t.m0.isEmpty
 .exact uq B hl
 .rfl
def HF(ht:Ie t):∃s,Cn D (n+2) 1 [tb t]=Y (sT s,J)/\∀c,c∈s↔c∈raw t:=by
 refine⟨oA ltN _,?_,λc=>(lS _).mem_iff⟩;have r:=HH (n:=n) (aa ht.hl bR) ht.ho;have e:=Sr ht.ho;have low:=Sq ht.ho;have h:=Qq t (U' t.fs);have d:Z (sW.take t.fg.length)<=10:=by rw[fO];exact k9 _ _
 have j:raw t=[32]++sW.take _++Ma t (U' _)++U' _:=rfl;have f:Z (raw t)<64:=by rw[j];exact Nr d h e e
 have o:=M8 (a:=[32]++sW.take _) (b:=Ma t (U' _)) (by exact qt d h e);have k:=M8 (a:=[32]++sW.take _++Ma t (U' _)) (b:=U' _) (by exact Nr d h e e);rw[<-j]at k;refine fi W ?_;generalize Cn D _=C at r ⊢;refine (?_ : dZ C (.set 1 _::.set 2 _::.set 3 (.sl (.f_ _) L (Y (.blt _ [.ix _ _])))::.ret (.i6 _ _ [.blt _ [.bin _ (.bin _ (.bin _ (.f_ _) _) _) _]])::[]) [Y _,L,L,L]=_);have s1:pB C (.set 1 (.call 0 [.ix (.v 0) (.e_ 0)])) [Y (tb t,J),L,L,L]=Y (.nx [Y _,Y (sT (U' _),J),L,L]):=dv r W;rw[nU s1];generalize q:U' _=u at *;rw[nU (dv (C:=C) (i:=2) (ρ:=[Y _,Y _,L,L]) (Zy low (aa e bR)) W)];generalize Ma t u=g at *
 have s3:pB C (.set 3 (.sl (.f_ "0123456789") L (Y (.blt .len [.ix (.v 0) (.e_ 2)])))) [Y (tb t,J),Y (sT u,J),Y (sT g,J),L]=Y (.nx [Y (tb t,J),Y (sT u,J),Y (sT g,J),Y (sT (sW.take t.fg.length),J)]):=by
  exact dv (fl:=J) (Ka W (gn W (i8 _)) (aaM ht.hf)) W
 show dZ C _ [Y _,Y _,Y _,L]=_;rw[nU s3];exact wU (VE W (gn (fj (fj (fj W rfl (M8 (a:=[32]) (aa (jD d _) bR))) W o) W k) (T5 f)) (join_1 (l:=oA ltN _) (by rw[(lS _).length_eq];exact ax (aa f bR))))
def Wx{ds:List Dat}(h:Z ds=np)(B:dZ C body (ds.map (λd=>Y (d,J))++br (nl - np) L)=Y (.nx ρ)):Qy C np nl body ds=Y (.non,J):=by
 unfold Qy;rw[if_pos h,B];rfl
theorem Y5:∀(x:List Nat)(k:Nat)(B z4:g_),(∀c∈x,c∈s)->∃O F,i7 (eV J [3,4]) (dZ C VW) (xf k (c1 x)) [Y (a,J),Y (b,J),Y (sT s,J),B,z4]=Y (.nx [Y (a,J),Y (b,J),Y (sT s,J),O,F])
 |[],k,B,z4,_=>⟨B,z4,W⟩
 |c::x,k,B,z4,h=>by
   obtain⟨f,g,i⟩:=Y5 x _ (Y (.int _,J)) (Y (sT _,J)) λd hd=>h d (jZ _ hd);refine⟨f,g,?_⟩;exact (zv (ρ1:=[Y _,Y _,Y _,Y (.int _,J),Y (sT _,J)]) W (DH (by rw[Gf (fW W rfl (by rw[YS,decide_eq_true (h c jL)];rfl)) W];rfl))).trans i
def HL(ht:Ie t)(B:∀c∈x,c∈raw t)(hl:Z x<=1000):Cn D (n+3) 14 [tb t,sT x]=Y (.non,J):=by
 obtain⟨s,r,hs⟩:=HF ht;obtain⟨d,e,h⟩:=Y5 (C:=Cn D _) (a:=tb t) (b:=sT x) x 0 L L λc hc=>(hs c).mpr (B c hc);refine Wx (ρ:=[Y (tb t,J),Y (sT x,J),Y (sT s,J),d,e]) W ?_;generalize Cn D _=C at r h ⊢;have s1:pB C (.set 2 (.call 1 [.v 0])) [Y (tb t,J),Y (sT x,J),L,L,L]=Y (.nx [Y _,Y _,Y _,L,L]):=dv r W;refine (?_ : dZ C (.set 2 (.call 1 _)::.loop J _ (.enu _) VW::[]) [Y _,Y _,L,L,L]=_);rw[nU s1];exact DH h
def aaK:((aQ 10).all λk=>qU (jq .str [.int (k:Nat)]) (Y (.str (T [48+k]),J)) && decide (sW[k]?=Y (48+k)))=U:=by kernel_rfl
def xM(h:k<10):jq .str [.int (k:Nat)]=Y (.str (T [48+k]),J)/\sW[k]?=Y (48+k):=by
 have:=bE.mp aaK k (bu.mpr h);rw[ag]at this;exact⟨pe this.1,of_decide_eq_true this.2⟩
def YT:jM .nin (sT [c]) (.lst (c1 l))=Y (!decide (c∈l)):=by
 have hs:∀l:List _,eU 20 (c1 l)=U:=λl=>by
  induction l with
  |nil=>rfl
  |cons a r b=>show(U && eU 20 (c1 r))=U;rw[b];rfl
 show(if(U && eU 20 _)=U then Y (!(c1 l).any λy=>pE y (sT _))else L)=_;rw[hs,qO,if_pos W]
 congr 2
 induction l with
 |nil=>rfl
 |cons a r b=>
   show((T _ == T _) || (c1 r).any λy=>pE y (sT _))=_;rw[b]
   grind
def uD(h:bf C a ρ=Y (tI m,f)):bf C (.cmp .gt (.blt .len [a]) (.e_ 0)) ρ=Y (.bl (!m.isEmpty),J):=fW (gn h (i8 m)) W (by
 show Y (decide (0<((m.length):Int)))=_
 cases m with
 |nil=>rfl
 |cons a r=>simp)
def Yx{t:Tb}(hf:f∈t.fs)(hc:c∈f.1):c∈raw t:=aq _ (FV.mpr ⟨f,hf,hc⟩)
def Yv{t:Tb}(hf:f∈t.fs)(hc:c∈f.1)(B:t.m0.isEmpty=J):c - 32∈raw t:=by
 refine aC _ (aq _ ?_);unfold Ma;rw[B];exact bX.mpr ⟨c,FV.mpr ⟨f,hf,hc⟩,W⟩
def Yw{t:Tb}(hk:k<Z t.fg)(h:k<10):48+k∈raw t:=by
 refine aC _ (aC _ (aq _ ?_));have:=(xM h).2;exact pK.mpr ⟨k,by simp_all⟩
def Yy(t:Tb):32∈raw t:=aC _ (aC _ (aC _ jL))
def sq(t:Tb)(b:Nat)(B:List Nat):Prop:=B≠[]/\Z B<=b/\∀c∈B,c∈raw t
abbrev Xs(t:Tb)(B:List Nat)(z:g_):cY:=[Y (tb t,J),Y (.lst (c1 B),U),z]
def I27(t:Tb)(us:List Fm)(ρ:cY):Prop:=∃a z,ρ=Xs t a z/\sq t (11+2 * Z us) a
def J1(h:sq t b ss)(hc:c∈raw t):sq t (b+1) (ss++[c]):=⟨by simp,by rw[aj];exact bb h.2.1,λd hd=>by
 rcases au.mp hd with q|q
 .exact h.2.2 d q
 simp_all⟩
def MW(B:List Nat)(c:Nat):c1 B++[sT [c]]=c1 (B++[c]):=by show _=xx _ _;rw[dJ];rfl
def Tr(ht:Ie t){us:List Fm}(hf:f∈t.fs)(O:Z us<=100)(h:I27 t us ρ):∃ρ1,eV U [2] (iQ f) ρ=Y ρ1/\Go C Zd ρ1 λo=>∃B,o=.nx B/\I27 t (us++[f]) B:=by
 obtain⟨a,z,rfl,hs⟩:=h;refine⟨_,W,?_⟩;have g:=ht.ho f hf;have hlen:=hs.2.1;have fin:∀i,sq t (11+2 * Z us+2) i->∃B,Out.nx (Xs t _ (Y (iQ f,J)))=.nx B/\I27 t (us++[f]) B:=λi h=>⟨_,W,_,_,W,h.1,by rw[aj];have:=h.2.1;omega,h.2.2⟩
 have l:bf C (.cmp .eq (.blt _ [.ix (.v 2) (.e_ 0)]) (.e_ 1)) (full (Xs t a (Y (iQ f,J))))=Y (.bl (decide (Z f.1=1)),J):=fW (gn W (len_T (aa g.ll bR))) W (by
  show Y (decide _)=_
  rw[decide_eq_decide.mpr (show((f.1.length):Int)=1↔Z f.1=1 by omega)])
 by_cases h1:Z f.1=1
 .obtain⟨c,hc⟩:∃c,f.1=[c]:=by
   match q:f.1,h1 with
   |[c],_=>exact⟨c,W⟩
  have e:c∈f.1:=by simp_all
  have j:bf C (.and (.cmp .eq (.blt .len [.ix (.v 2) (.e_ 0)]) (.e_ 1)) (.cmp .nin (.ix (.v 2) (.e_ 0)) (.v 1))) (full (Xs t a (Y (iQ f,J))))=Y (.bl (!decide (c∈a)),J):=by
   rw[eW l,decide_eq_true h1];exact (fW W rfl (by rw[hc,YT]))
  refine i9 j (λ_=>?_) (λ_=>bw (fin a ⟨hs.1,C3 hlen,hs.2.2⟩)) λk h=>bw ⟨_,W,h⟩;refine qv (P:=(·= sT _)) ⟨sT _,J,W,W,by rw[hc]⟩ W (by exact qt hlen O O) λd hd=>?_;rw[hd,MW];have b:=J1 hs (Yx hf e);refine i9 (uD W) (λq=>?_) (λ_=>bw (fin _ ⟨b.1,cU b.2.1,b.2.2⟩)) λk h=>bw ⟨_,W,h⟩;refine qv (P:=(·= sT [c - 32])) ⟨sT _,J,?_,W,W⟩ W (by exact qt hlen O O) λd hd=>?_
  .show hZ .upper (sT _) []=_;rw[hc];exact (uq (λd hd=>by rw[az.mp hd];exact g.low c e) (by simp))
  .rw[hd,MW];exact bw (fin _ (J1 b (Yv hf e (by simpa using q))))
 .have j:bf C (.and (.cmp .eq (.blt .len [.ix (.v 2) (.e_ 0)]) (.e_ 1)) (.cmp .nin (.ix (.v 2) (.e_ 0)) (.v 1))) (full (Xs t a (Y (iQ f,J))))=Y (.bl J,J):=by
   rw[eW l,decide_eq_false h1];rfl
  exact i9 j (λq=>absurd q bR) (λ_=>bw (fin a ⟨hs.1,C3 hlen,hs.2.2⟩)) λk h=>bw ⟨_,W,h⟩
def Dx(ht:Ie t):∃B,Cn D (n+1) 32 [tb t]=Y (.lst (c1 B),U)/\sq t 40 B:=by
 suffices h:Go _ _ [Y _,L,L] λo=>∃B,o=.rt (.lst (c1 B)) U/\sq t 40 B by
  obtain⟨_,h1,B,rfl,h2⟩:=h;exact⟨B,fi W h1,h2⟩
 generalize Cn D n=C;have a:=ht.hf
 obtain⟨fs,e,l,h1,_⟩:=pU (ρ:=full [Y (tb t,J),L,L]) (it:=.rng [.blt .len [.ix (.v 0) (.e_ 2)]]) (elt:=.blt .str [.v 0]) (λc=>sT [c]) _ (qd (i8 _) (aa a bR)) (by grind) (λ_=>W) λk hk=>by
  have hk:=bu.mp hk;exact⟨_,J,(xM (aa hk a)).1,Yw hk (aa hk a)⟩
 refine eM (ds:=c1 (32::fs)) ?_ ?_
 .show bc (bf C (.comp 1 U [] (.rng [.blt _ [.ix _ _]]) [] (.blt _ _)) (full [Y _,L,L])) _=_;rw[e];show(if 1+Z (fs.map λc=>sT _)<=aE then _ else L)=_;rw[if_pos (by rw[iR];exact kX (ae l) a)];rfl
 .refine iy (I:=I27 t) (lj W rfl (by show(lW _ || J)=U;rw[m6];rfl)) ⟨_,_,W,by simp,by simp_all,λc hc=>?_⟩ (λus f vs ρ q h=>Tr ht (by rw[q];simp) (by have:=ht.hl;grind) h) λb h=>?_
  .rcases aw.mp hc with rfl|hc
   .exact Yy t
   simp_all
  .obtain⟨B,z,rfl,hs⟩:=h;exact⟨_,W,B,W,hs.1,by have:=hs.2.1;have:=ht.hl;omega,hs.2.2⟩
def Ki{ns:List Int}(ht:Ie t)(B:m<=100):∃x b,Cn D (n+3) 33 [.lst (ns.map Dat.int),tb t,.int (m:Nat)]=Y (sT x,b)/\Z x=m/\∀c∈x,c∈raw t:=by
 have hd:Dw (Cn D (n+2)) (.lst (ns.map _)):=dw;refine ac λ_ y=>?_;obtain⟨g,r,h0,hl,hs⟩:=Dx (n:=n+1) ht
 refine y ?_;suffices h:Go (Cn D _) _ [Y (.lst (ns.map _),J),Y _,Y (.int _,J),L] λo=>∃x b,o=.rt (sT x) b/\Z x=m/\∀c∈x,c∈raw t by
  obtain⟨_,h1,x,b,rfl,h2⟩:=h;exact⟨x,b,fi W h1,h2⟩
 generalize Dat.lst (ns.map _)=N at hd ⊢;have j :=bp.mpr h0;refine eM r ?_
 have hi:∀l:List _,lW (c1 l)=U:=λl=>by
  induction l with
  |nil=>rfl
  |cons a r s=>show(U && lW _)=U;rw[s];rfl
 refine eM (ds:=c1 (g++g.drop 1)) ?_ ?_
 .have A:E8 (.lst (c1 g)) (Y 1) L=Y (.lst (c1 (g.drop 1)),U):=by
   show Y (Dat.lst (cutD _ _ L),lW (cutD _ _ L))=_;rw[GF (by simp) (by rw[aB];exact fJ.mpr j)];show Y (Dat.lst ((c1 g).drop 1),lW ((c1 g).drop 1))=_;rw[List.map_drop.symm,hi]
  refine fj W (T8 W rfl A) ?_;rw[oi (by grind),dJ.symm,hi]
 .have h2:∀c∈g++g.drop 1,c∈raw t:=λc hc=>by
   grind
  have h3:0<Z (g++g.drop 1):=by rw[aj];exact NO _ j
  generalize g++g.drop 1=s2 at h2 h3 ⊢;have k:jq .len [.lst (c1 s2)]=Y (.int (s2.length),J):=by simp
  refine ac λ_ y=>?_;obtain⟨d,f,e,_,z,rfl,u,p⟩:=Se (ρ:=full [Y (N,J),Y _,Y (.int _,J),Y (.lst (c1 s2),U)]) (e:=.v 2) (caps:=[0,3]) (elt:=.ix (.v 2) (.call 23 [.v 1,.bin _ (.e_ 31) (.v 0),.e_ 35023,.blt .len [.v 2]])) (r:=(·= m)) ⟨m,_,W,W⟩ (λm h=>(aa (ae h) (aa B bR))) λw h i hi=>Mp W (gW hd W (l5 W rfl) W (k) (by omega) bR (pO.mpr h3) λq h=>by omega) h2;refine y ?_;exact iJ e ⟨z,f,W,u,p⟩
def gX(t:Tb)(f:Fm)(w:Nat×aW×aW):List Ed:=IH f w++(if t.m0.isEmpty=U then []else(IH f w).map (Nv t.m0))
abbrev W4:List (Nat×aW):=[(119,ji),(98,qk),(109,qk),(101,ji)]
def hit(b:aW)(w:Nat×aW):Bool:=decide (w.1∈[119,98]) == !(b == qk)
def hX(t:Tb)(f:Fm)(b:aW)(w:Nat×aW):List Ed:=if hit b w=U then gX t f (w.1,b,w.2)else []
abbrev w2D(w:Nat×aW):Dat:=.tup [sT [w.1],.str w.2]
abbrev CL(t:Tb)(f:Fm)(B:g_)(es:List Ed)(g O C:g_):cY:=[Y (tb t,J),Y (iQ f,J),Y (sT f.1,J),Y (tI f.2.1,J),Y (sT f.2.2,J),Y (tI t.m0,J),Y (tI t.m1,J),B,Y (.lst (es.map cH),U),g,O,C]
set_option tactic.hygienic true in
def Wm(ho:D8 f)(h:bf C a ρ=Y (sT f.1,g)):bf C (.bin .add (.i6 .upper (.sl a L (Y (.e_ 1))) []) (.sl a (Y (.e_ 1)) L)) ρ=Y (sT (L9 f.1),J):=by
 refine ac λ_ j=>?_;obtain⟨b,e,_,h2,h3,d⟩:=BI ho
 refine j ?_;have h1:E8 (sT f.1) L (Y 1)=Y (sT [b],J):=by
  show(if(T _).length<=aE then Y (Dat.str (cJ (T _) L _),J)else L)=_;rw[if_pos (by exact aa ho.ll (by decide))]
  obtain⟨c,r,hc⟩:∃c r,f.1=c::r:=by
   cases q:f.1 with
   |nil=>exact absurd q ho.ne
   |cons c r=>exact⟨c,r,W⟩
  rename_i q;rw[hc]at q ⊢;rw[Oy];have:=Wc (l:=c::r) (i:=0) (by rw[<-hc];exact aa ho.ll (by decide)) (by simp)
  simp_all
 exact fj (VF (Ka h W h1) h2) (T8 h W h3) d
def R0(q:(decide (w.1∈f.2.2) && hit b w)=J):hX t f b w=[]:=by
 unfold hX gX IH;by_cases h:hit b w=U
 .simp_all
 .rw[if_neg h]
def RZ(q:(decide (w.1∈f.2.2) && hit b w)=U):hX t f b w=[(b,f.1,f.2.1,w.2)]++(if t.m0.isEmpty=U then []else [(b,L9 f.1,t.m0++f.2.1,w.2)]):=by
 rw[ag]at q;unfold hX gX IH;rw[if_pos q.2,if_pos q.1];rfl
def D5(t:Tb)(f:Fm)(b:aW)(w:Nat×aW):Z (hX t f b w)<=2:=by
 cases q:(decide (w.1∈f.2.2) && hit b w)with
 |false=>rw[R0 q];exact aK _
 |true=>
   rw[RZ q];cases t.m0.isEmpty
   .exact ak 2
   .exact Hg 1
section
variable{t:Tb}{f:Fm}(ht:Ie t)(ho:D8 f)
include ht ho
def Xa{es:List Ed}(hl:Z es<900):Go C Zm (CL t f B es (Y (.str b,J)) (Y (sT [w.1],J)) (Y (.str w.2,J))) λo=>∃O,o=.nx O/\O=CL t f B (es++hX t f b w) (Y (.str b,J)) (Y (sT [w.1],J)) (Y (.str w.2,J)):=by
 have j:bf C (.and (.cmp .isin (.v 10) (.v 4)) (.cmp .eq (.cmp .isin (.v 10) (.f_ "wb")) (.cmp .ne (.v 9) (.f_ "in")))) (full (CL t f B es (Y (.str b,J)) (Y (sT [w.1],J)) (Y (.str w.2,J))))=Y (.bl (decide (w.1∈f.2.2) && hit b w),J):=by
  rw[eW (fW W rfl qu),(fW (fW W rfl qu) (fW W rfl rfl) W)];cases decide (w.1∈f.2.2)<;>rfl
 refine i9 j (λq=>?_) (λq=>bw ⟨_,W,by rw[R0 q,aI]⟩) λa h=>bw ⟨_,W,h⟩;rw[RZ q,<-aJ];refine oE (e:=(b,f.1,f.2.1,w.2)) (lA W rfl rfl rfl) W (aa hl bR) ?_;refine (?_ : Go C _ (CL t f B _ (Y _) (Y (sT _,J)) (Y (.str _,J))) _);refine i9 (uD W) (λc=>?_) (λc=>bw ⟨_,W,?_⟩) λa h=>bw ⟨_,W,h⟩
 .refine oE (e:=(b,L9 _,t.m0++f.2.1,w.2)) (lA W (Wm ho W) (qC _ _ (by have:=ht.h0;have:=ho.cl;omega)) W) W (by rw[aj];exact ao hl bR) (bw ⟨_,W,?_⟩);have d:t.m0.isEmpty=J:=by simpa using c
  rw[d];rfl
 .have d:t.m0.isEmpty=U:=by simpa using c
  rw[d,if_pos W,aI]
end
abbrev bs(t:Tb):List aW:=if t.fg.isEmpty=U then [jF]else [jF,kc]
abbrev A2(t:Tb)(f:Fm)(b:aW):List Ed:=rA t.m1 f (119,b,ji)++rA t.m1 f (98,b,uL)
abbrev V2:List (Nat×aW):=[(109,uL),(101,ji)]
abbrev A3(t:Tb)(f:Fm)(w:Nat×aW):List Ed:=rA t.m1 f (w.1,uL,w.2)
abbrev F1(t:Tb)(f:Fm):List Ed:=(bs t++[qk]).flatMap λb=>W4.flatMap (hX t f b)
abbrev rm(t:Tb)(f:Fm):List Ed:=F1 t f++(if t.m1.isEmpty=U then []else(bs t).flatMap (A2 t f)++V2.flatMap (A3 t f))
def Es(t:Tb):Z (bs t)<=2:=by
 show(if t.fg.isEmpty=U then [jF]else [jF,kc]).length<=2;split<;>decide
def Na(t:Tb)(f:Fm):Z (F1 t f)<=24:=by
 have h:=f7 (l:=bs t++[qk]) λb _=>f7 (l:=W4) λw _=>D5 t f b w;have h2:=Es t;rw[aj]at h;have h:Z (F1 t f)<=8 * (Z (bs t)+1):=h;omega
def Mg{es:List Ed}(h:bf C c (full ρ)=Y (.bl (bg f w),f'))(B:Ev C x (full ρ) (·= cH (w.2.1,uT f.1,(if(w.2.1 == uL)=U then []else m)++f.2.1,w.2.2)))(hi:(ρ[i]?).join=Y (.lst (es.map cH),U))(O:ρ.set i (Y (.lst (es.map cH),U))=ρ)(hl:Z es<1000)(k:Go C ss (ρ.set i (Y (.lst ((es++rA m f w).map cH),U))) Q):Go C (.ifs c [.mut .app i [x]] []::ss) ρ Q:=by
 refine i9 (J':=λa=>a=ρ.set i (Y (.lst _,U))) h (λq=>?_) (λq=>bw ⟨_,W,?_⟩) λa e=>by rwa[e]
 .unfold rA;rw[if_pos q];exact oE B hi hl (bw ⟨_,W,W⟩)
 .unfold rA;rw[if_neg (by rw[q];decide),aI,O]
def UI(ht:Ie t)(ho:D8 f):Cn D (n+1) 30 [tb t,iQ f]=Y (.lst ((rm t f).map cH),U):=by
 suffices h:Go _ _ [Y _,Y _,L,L,L,L,L,L,L,L,L,L] λo=>o=.rt (.lst ((rm t f).map cH)) U by
  obtain⟨_,h1,rfl⟩:=h;exact fi W h1
 generalize Cn D n=C;have B:=Na t f;have hb:=Es t;have p:=JJ ho
 have K:pB C (.unp [2,3,4] (.v 1)) [Y (tb t,J),Y (iQ f,J),L,L,L,L,L,L,L,L,L,L]=Y (.nx [Y (tb t,J),Y (iQ f,J),Y (sT f.1,J),Y (tI f.2.1,J),Y (sT f.2.2,J),L,L,L,L,L,L,L]):=by
  show bc (if(im _ || J)=U then _ else _) _=_;rw[Ge];rfl
 refine bL K (bL (dv W (lH _)) (bL (dv W (lH _)) ?_))
 have E:bf C (.sl (.lst [.con (.str jF),.con (.str kc)]) L (Y (.bin .add (.e_ 1) (.blt .int [.cmp .gt (.blt .len [.ix (.v 0) (.e_ 2)]) (.e_ 0)])))) (full [Y (tb t,J),Y (iQ f,J),Y (sT f.1,J),Y (tI f.2.1,J),Y (sT f.2.2,J),Y (tI t.m0,J),Y (tI t.m1,J),L,L,L,L,L])=Y (.lst ((bs t).map Dat.str),U):=by
  have u:=uD (C:=C) (ρ:=full [Y (tb t,J),Y (iQ f,J),Y (sT f.1,J),Y (tI f.2.1,J),Y (sT f.2.2,J),Y (tI t.m0,J),Y (tI t.m1,J),L,L,L,L,L]) (a:=.ix (.v 0) (.e_ 2)) W;unfold bs;revert u;cases t.fg.isEmpty
  .intro u;exact Ka W (fj W (gn u W) W) W
  .intro u;exact Ka W (fj W (gn u W) W) W
 refine eM E (eM W ?_);refine iy (I:=λus ρ=>∃j c e,ρ=CL t f (Y (.lst ((bs t).map _),U)) (us.flatMap λb=>W4.flatMap (hX t f b)) j c e) (lj (d:=.lst ((bs t++[qk]).map Dat.str)) ?_ W rfl) ⟨L,L,L,W⟩ ?_ ?_
 .unfold bs;cases t.fg.isEmpty<;>rfl
 .rintro us b vs _ z ⟨j,c,e,rfl⟩
  have s:Z us<=3:=by
   exact kX (ae (congrArg fI z).symm) hb
  have i:=f7 (m:=8) (l:=us) λb _=>f7 (l:=W4) λw _=>D5 t f b w;refine⟨_,W,?_⟩;rw[cL];generalize (us.flatMap λb=>W4.flatMap _)=pre at i ⊢;refine iy (I:=λws ρ=>∃c e,ρ=CL t f (Y (.lst ((bs t).map _),U)) (pre++ws.flatMap (hX t f b)) (Y _) c e) (lj (d:=.lst (W4.map w2D)) W rfl rfl) ⟨c,e,by rw[fP,aI];rfl⟩ ?_ ?_
  .rintro ws w vs _ A ⟨c,e,rfl⟩
   have x:Z ws<=4:=by
    have:=congrArg fI A;simp only[aj,bM,NT]at this;exact aa (aX _ _) (ae this.symm)
   have h2:=f7 (l:=ws) λw _=>D5 t f b w;refine⟨_,W,?_⟩;obtain⟨o,N,M,rfl,rfl⟩:=Xa (es:=pre++ws.flatMap (hX t f b)) ht ho (by rw[aj];exact Nr i h2 (Nat.mul_le_mul_left 8 s) (Nat.mul_le_mul_left 2 x));exact⟨_,N,_,W,_,_,by rw[cL,aJ,cR]⟩
  .rintro _ ⟨c,e,rfl⟩;exact bw ⟨_,W,_,_,_,by rw[cR]⟩
 rintro _ ⟨j,c,e,rfl⟩
 have hc:bf C (.cmp .eq (.blt _ [.v 6]) (.e_ 0)) (full (CL t f (Y (.lst ((bs t).map Dat.str),U)) (F1 t f) j c e))=Y (.bl t.m1.isEmpty,J):=fW (gn W (i8 _)) W (by
  cases t.m1 with
  |nil=>rfl
  |cons a r=>rfl)
 refine (?_ : Go C _ (CL t f (Y (.lst ((bs t).map _),U)) (F1 t f) j c e) λo=>o=.rt (.lst ((F1 t f++(if t.m1.isEmpty=U then []else(bs t).flatMap (A2 t f)++V2.flatMap (A3 t f))).map cH)) U);generalize F1 t f=G at B hc ⊢
 cases q:t.m1.isEmpty with
 |true=>
   rw[q]at hc;refine BJ hc W ?_;rw[if_pos W,aI]
 |false=>
   rw[q]at hc;refine lX hc ?_;rw[if_neg bR];refine iy (ρ0:=CL t f (Y (.lst ((bs t).map _),J)) G j c e) (I:=λus ρ=>∃j c e,ρ=CL t f (Y (.lst ((bs t).map _),J)) (G++us.flatMap (A2 t f)) j c e) (by rfl) ⟨j,c,e,by rw[fP,aI]⟩ ?_ ?_
   .rintro us b vs _ z ⟨j,c,e,rfl⟩
    have y:(b == uL)=J:=by
     have:b∈bs t:=by rw[z];simp
     unfold bs at this;revert this;cases t.fg.isEmpty
     .intro h
      rcases aw.mp h with rfl|h
      .decide
      .rw[az.mp h];decide
     .intro h;rw[az.mp h];decide
    have s:Z us<=2:=by
     exact kX (ae (congrArg fI z).symm) hb
    have i:=f7 (m:=2) (l:=us) λb _=>by
     rw[aj];exact aa (dW (lY (m:=t.m1) (f:=f) (w:=(119,b,ji))) (lY (m:=t.m1) (f:=f) (w:=(98,b,uL)))) bR
    refine⟨_,W,?_⟩;rw[cL,cR];have hl:Z (G++us.flatMap (A2 t f))<=100:=by exact Nr B i s s
    rw[show G++(us.flatMap _++A2 t f b)=(G++us.flatMap (A2 t f))++rA t.m1 f (119,b,ji)++rA t.m1 f (98,b,uL) by simp[A2]];generalize G++us.flatMap _=H at hl ⊢;have k:=qC t.m1 f.2.1 (by have:=ht.h1;have:=ho.cl;omega);unfold Zh;rw[PW,PB];refine Mg (f':=J) ?_ (lA W p (by rwa[y]) W) W rfl (ao hl bR) (Mg (f':=J) ?_ (lA W p (by rwa[y]) W) W rfl (by exact kX hl (lY (m:=t.m1) (f:=f) (w:=(119,b,ji)))) (bw ⟨_,W,_,_,_,W⟩))
    .show bf C _ (full (CL t f (Y (.lst ((bs t).map _),J)) H (Y _) c e))=_;rw[eW (fW W rfl qu),(fW (gn W (len_T (aa ho.ll bR))) W rfl)];unfold bg;cases decide ((119,b,ji).1∈f.2.2)<;>rfl
    .refine fW W rfl ?_;rw[qu];show _=Y (decide _ && U);rw[gR]
   rintro _ ⟨j,c,e,rfl⟩
   have i:=f7 (m:=2) (l:=bs t) λb _=>by
    rw[aj];exact aa (dW (lY (m:=t.m1) (f:=f) (w:=(119,b,ji))) (lY (m:=t.m1) (f:=f) (w:=(98,b,uL)))) bR
   have hl:Z (G++(bs t).flatMap (A2 t f))<=100:=by exact Nr B i hb hb
   rw[<-aJ];generalize G++(bs t).flatMap _=H at hl ⊢;refine iy (I:=λws ρ=>∃c e,ρ=CL t f (Y (.lst ((bs t).map _),J)) (H++ws.flatMap (A3 t f)) j c e) (lj (d:=.lst (V2.map w2D)) W rfl rfl) ⟨c,e,by rw[fP,aI]⟩ ?_ ?_
   .rintro ws w vs _ A ⟨c,e,rfl⟩
    have F:w=(109,uL)\/w=(101,ji):=by
     have:w∈V2:=by rw[A];simp
     simpa using this
    have x:Z ws<=2:=by
     have:=congrArg fI A;simp only[aj,bM,NT]at this;exact aa (aX _ _) (ae this.symm)
    refine⟨_,W,?_⟩;rw[cL,cR,<-aJ];refine Mg (f':=J) ?_ (lA W p W rfl) W rfl (by exact qt hl (f7 (g:=A3 t f) (l:=ws) λw _=>lY) x) (bw ⟨_,W,_,_,W⟩);refine fW W rfl ?_;rw[qu]
    rcases F with rfl|rfl<;>exact congrArg Y (gR _).symm
   .rintro _ ⟨c,e,rfl⟩;exact⟨_,W,W⟩
abbrev dg(t:Tb)(k:Nat):List Ed:=pF t (48+k,t.fg.getD k 0)
abbrev LE(t:Tb):List Ed:=GR++(aQ t.fg.length).flatMap (dg t)++(if t.fg.isEmpty=U then []else [(lr,[],t.m3,kc)])++t.fs.flatMap (rm t)
abbrev Xt(t:Tb)(es:List Ed)(B z4 O:g_):cY:=[Y (tb t,J),Y (Nq t,J),Y (.lst (es.map cH),U),B,z4,O]
def vN(t:Tb)(f:Fm):Z (rm t f)<=30:=by
 have h3:=f7 (g:=A2 t f) (m:=2) (l:=bs t) λb _=>by
  rw[aj];exact aa (dW (lY (m:=t.m1) (f:=f) (w:=(119,b,ji))) (lY (m:=t.m1) (f:=f) (w:=(98,b,uL)))) bR
 have e:Z V2=2:=rfl;have a:Z (if t.m1.isEmpty=U then []else(bs t).flatMap (A2 t f)++V2.flatMap _)<=6:=ite_le (aK _) (by exact Nr h3 (f7 (g:=A3 t f) (l:=V2) λw _=>lY) (Nat.mul_le_mul_left 2 (Es t)) (ae e));rw[aj];exact aa (dW (Na t f) a) bR
def Ts(ht:Ie t){es:List Ed}(hk:k<Z t.fg)(hl:Z es<900):∃ρ1,eV U [3] (.int (k:Nat)) (Xt t es F z4 O)=Y ρ1/\Go C VV ρ1 λo=>∃B,o=.nx B/\∃F z4 O,B=Xt t (es++dg t k) F z4 O:=by
 refine⟨_,W,?_⟩;obtain⟨c,hc⟩:∃c,c=t.fg.getD k 0:=⟨_,W⟩
 have i:x5 (tI t.fg) (.int (k))=Y (.int c):=by
  show uK _ _=_;rw[j3 (by rw[aR,af hk];rfl),hc];simp[hk]
 have m:∀{l:cY},(l[0]?).join=Y _->(l[3]?).join=Y _->bf C (.ix (.ix _ (.e_ 2)) _) _=Y _:=λ{l}a b=>by
  have f:bf C (.v 0) (full l)=Y (tb t,J):=by
   cases h:l[0]? with
   |none=>rw[h]at a;cases a
   |some o=>rw[h]at a;rw[pC,full,aR,h];rw[show o=Y (tb t,J)from a];rfl
  have j:bf C (.v 3) (full l)=Y (.int (k),J):=by
   cases h:l[3]? with
   |none=>rw[h]at b;cases b
   |some o=>rw[h]at b;rw[pC,full,aR,h];rw[show o=Y (.int _,J)from b];rfl
  exact tM (tM f W rfl) j i
 have st:=(xM (aa hk ht.hf)).1;have g:=qC _ [c] (ao ht.h2 bR);unfold VV dg;rw[<-hc];refine n8 (P:=(·= tI [c])) ⟨tI _,_,by rw[zF,gf,m W rfl];rfl,W,W⟩ λd hd=>?_;rw[hd];refine oE (e:=(jF,[48+k],t.m2++[c],lr)) (lA W st g W) W (aa hl bR) ?_;refine oE (e:=(ji,[48+k],t.m2++[c],lr)) (lA W st g W) W (by rw[aj];exact ao hl bR) ?_;refine oE (e:=(lr,[48+k],[c],lr)) (lA W st W rfl) W (by rw[aj,aj];exact bb (ao hl bR)) (bw ⟨_,W,Y (.int (k),J),Y (tI [c],J),O,?_⟩);rw[aJ,aJ];rfl
def UH(ht:Ie t):Cn D (n+2) 31 [tb t]=Y (.lst ((LE t).map cH),U):=by
 have s:∀f∈t.fs,Cn D (n+1) 30 _=Y (.lst _,U):=λf hf=>UI ht (ht.ho f hf)
 suffices h:Go (Cn D _) _ [Y _,L,L,L,L,L] λo=>o=.rt (.lst ((LE t).map cH)) U by
  obtain⟨_,h1,rfl⟩:=h;exact fi W h1
 generalize Cn D _=C at s ⊢;have hf:=ht.hf;refine bL (dv W (D1 t)) (eM W ?_);refine D7 (I:=λus G=>∃c F b,G=Xt t (GR++us.flatMap (dg t)) c F b) (P:=(·= Z t.fg)) ⟨_,J,i8 _,W⟩ (λm h=>(aa (ae h) (aa hf bR))) ⟨L,L,L,W⟩ ?_ ?_
 .rintro m rfl us k vs _ j ⟨c,F,b,rfl⟩;have u:=vp j;have a:=f7 (g:=dg t) (l:=us) λk _=>ak 3;refine ac λ_ i=>?_;obtain⟨K,w,o,x,y,rfl,z,A,B,rfl⟩:=Ts ht (es:=GR++us.flatMap (dg t)) u.2 (by rw[aj];show 3+_<_;exact qt a (Nat.mul_le_mul_left 3 u.1) (Nat.mul_le_mul_left 3 hf));refine i ?_;refine⟨_,w,_,x,_,W,z,A,B,?_⟩;rw[cL,<-aJ,cR]
 rintro m rfl _ ⟨c,F,b,rfl⟩;have a:=f7 (g:=dg t) (l:=aQ t.fg.length) λk _=>ak 3;have d:Z (GR++(aQ t.fg.length).flatMap (dg t))<=40:=by rw[aj];show 3+_<=_;exact Nr a hf hf hf
 refine (?_ : Go C _ _ λo=>o=.rt (.lst ((GR++(aQ t.fg.length).flatMap (dg t)++(if t.fg.isEmpty=U then []else [(lr,[],t.m3,kc)])++t.fs.flatMap (rm t)).map cH)) U);generalize GR++(aQ _).flatMap _=H at d ⊢;refine i9 (J':=λG=>G=Xt t (H++if t.fg.isEmpty=U then []else [(lr,[],t.m3,kc)]) c F b) (uD W) (λq=>?_) (λq=>bw ⟨_,W,?_⟩) ?_
 .refine oE (e:=(lr,[],t.m3,kc)) (lA W rfl rfl rfl) W (ao d bR) (bw ⟨_,W,?_⟩);have p:t.fg.isEmpty=J:=by simpa using q
  rw[p];rfl
 .have p:t.fg.isEmpty=U:=by simpa using q
  rw[p,if_pos W,aI]
 .rintro _ rfl
  have r:Z (H++if t.fg.isEmpty=U then []else [(lr,[],t.m3,kc)])<=41:=by
   rw[aj];exact aa (dW d (ite_le (aK _) (ak _))) bR
  generalize (H++if t.fg.isEmpty=U then []else [(lr,[],t.m3,kc)])=H2 at r ⊢;refine iy (I:=λus G=>∃b,G=Xt t (H2++us.flatMap (rm t)) c F b) (lj W rfl (by show(lW _ || J)=U;rw[m6];rfl)) ⟨b,by rw[fP,aI]⟩ ?_ ?_
  .rintro us f vs _ j ⟨b,rfl⟩;have a:=f7 (l:=us) λf _=>vN t f
   have E:Z us<=12:=by
    exact kX (ae (congrArg fI j).symm) ht.hl
   have ht.hl:=vN t f;refine⟨_,W,bL (zp (ds:=[.lst ((rm t f).map cH)]) W ?_ (Ii (by rw[aB,aB,aj];omega))) (bw ⟨_,W,Y (iQ f,J),?_⟩)⟩
   .have e:bf C (.call 30 [.v 0,.v 5]) (full (Xt t (H2++us.flatMap (rm t)) c F (Y (iQ f,J))))=Y (.lst _,U):=s f (by rw[j];simp);show og C [.call 30 _] (full (Xt t (H2++us.flatMap _) c F (Y _)))=_;rw[gf,e];rfl
   .rw[<-dJ,cL,cR,<-aJ H2];rfl
  .rintro _ ⟨b,rfl⟩;exact⟨_,W,W⟩
def XC(t:Tb)(w:Nat×aW×aW):Prop:=t.fg.isEmpty=U->w.2.1≠kc
variable{t:Tb}
def RA(h:e∈IH f w):e.1=w.2.1:=by
 simp_all
def Ry(h:e∈gX t f w):e.1=w.2.1:=by
 rcases au.mp h with h|h
 .exact RA h
 .split at h
  .cases h
  .obtain⟨b,a,rfl⟩:=bX.mp h;exact RA (e:=b) a
def Rz(h:e∈rA m f w):e.1=w.2.1:=by
 unfold rA at h;split at h
 .rw[az.mp h]
 .cases h
def qq:e∈s0 t↔∃f∈t.fs,∃w∈W6,e∈IH f w:=by
 simp
def DN:e∈s1 t↔∃f∈t.fs,∃w∈W6,e∈gX t f w:=by
 show e∈(if t.m0.isEmpty=U then s0 t else s0 t++(s0 t).map (Nv _))↔_;unfold gX;cases t.m0.isEmpty
 .constructor
  .intro h
   rcases au.mp h with h|h
   .obtain⟨f,hf,w,b,he⟩:=qq.mp h;exact⟨f,hf,w,b,aC _ he⟩
   .obtain⟨c,a,rfl⟩:=bX.mp h;obtain⟨f,hf,w,b,he⟩:=qq.mp a;exact⟨f,hf,w,b,aq _ (c9 he)⟩
  .rintro⟨f,hf,w,b,he⟩
   rcases au.mp he with he|he
   .exact aC _ (qq.mpr ⟨f,hf,w,b,he⟩)
   .obtain⟨c,a,rfl⟩:=bX.mp he;exact aq _ (c9 (qq.mpr ⟨f,hf,w,b,a⟩))
 .refine (?_ : e∈s0 t↔∃f∈t.fs,∃w∈W6,e∈IH f w++[])
  simp only[aI];exact qq
def PY:e∈AV t↔∃f∈t.fs,(∃w∈W6,e∈gX t f w)\/(t.m1.isEmpty=J/\∃w∈A6,e∈rA t.m1 f w):=by
 show e∈(if t.m1.isEmpty=U then s1 t else s1 t++t.fs.flatMap (H6 _))↔_;cases t.m1.isEmpty
 .constructor
  .intro h
   rcases au.mp h with h|h
   .obtain⟨f,hf,h⟩:=DN.mp h;exact⟨f,hf,.inl h⟩
   .obtain⟨f,hf,h⟩:=eB.mp h;exact⟨f,hf,.inr ⟨W,eB.mp h⟩⟩
  .rintro⟨f,hf,h|⟨_,h⟩⟩
   .exact aC _ (DN.mpr ⟨f,hf,h⟩)
   .exact aq _ (eB.mpr ⟨f,hf,eB.mpr h⟩)
 .refine (?_ : e∈s1 t↔_);rw[DN];constructor
  .rintro⟨f,hf,h⟩;exact⟨f,hf,.inl h⟩
  .rintro⟨f,hf,h|⟨h,_⟩⟩
   .exact⟨f,hf,h⟩
   .cases h
def zq:e∈s3 t↔e∈AV t/\(t.fg.isEmpty=U->e.1≠kc):=by
 show e∈(if t.fg.isEmpty=U then(AV t).filter Bj else AV t)↔_;cases t.fg.isEmpty
 .simp
 simp
def Gg(h:hit b w=U):hX t f b w=gX t f (w.1,b,w.2):=if_pos h
def Gh(h:hit b w=J):hX t f b w=[]:=if_neg (by rw[h];decide)
def W_o:W4.flatMap (hX t f jF)=gX t f (119,jF,ji)++gX t f (98,jF,qk):=by
 show hX t f jF _++(hX t f jF _++(hX t f jF _++(hX t f jF _++[])))=_;rw[Gg (by decide +kernel),Gg (by decide +kernel),Gh (by decide +kernel),Gh (by decide +kernel)];simp
def W_l:W4.flatMap (hX t f kc)=gX t f (119,kc,ji)++gX t f (98,kc,qk):=by
 show hX t f kc _++(hX t f kc _++(hX t f kc _++(hX t f kc _++[])))=_;rw[Gg (by decide +kernel),Gg (by decide +kernel),Gh (by decide +kernel),Gh (by decide +kernel)];simp
def W_i:W4.flatMap (hX t f qk)=gX t f (109,qk,qk)++gX t f (101,qk,ji):=by
 show hX t f qk _++(hX t f qk _++(hX t f qk _++(hX t f qk _++[])))=_;rw[aI];rfl
def ol:¬jF=kc:=bR
def il:¬qk=kc:=bR
def al:¬uL=kc:=bR
def FU:e∈rm t f↔(∃w∈W6,XC t w/\e∈gX t f w)\/(t.m1.isEmpty=J/\∃w∈A6,XC t w/\e∈rA t.m1 f w):=by
 have h1:e∈F1 t f↔∃w∈W6,XC t w/\e∈gX t f w:=by
  unfold XC;show e∈((if t.fg.isEmpty=U then [jF]else [jF,kc])++[qk]).flatMap (λb=>W4.flatMap _)↔_;cases t.fg.isEmpty
  .show e∈W4.flatMap _++(W4.flatMap _++(W4.flatMap _++[]))↔_;rw[W_o,W_l,W_i];simp only[W6,au,aw,bx,or_false,exists_eq_or_imp,exists_eq_left,bS,false_implies,true_and];constructor
   .rintro((h|h)|(h|h)|(h|h))
    .exact .inl h
    .exact .inr (.inr (.inl h))
    .exact .inr (.inl h)
    .exact .inr (.inr (.inr (.inl h)))
    .exact .inr (.inr (.inr (.inr (.inl h))))
    .exact .inr (.inr (.inr (.inr (.inr h))))
   .rintro(h|h|h|h|h|h)
    .exact .inl (.inl h)
    .exact .inr (.inl (.inl h))
    .exact .inl (.inr h)
    .exact .inr (.inl (.inr h))
    .exact .inr (.inr (.inl h))
    .exact .inr (.inr (.inr h))
  .show e∈W4.flatMap _++(W4.flatMap _++[])↔_;rw[W_o,W_i];simp only[W6,au,aw,bx,or_false,exists_eq_or_imp,exists_eq_left,true_implies];constructor
   .rintro((h|h)|(h|h))
    .exact .inl ⟨ol,h⟩
    .exact .inr (.inr (.inl ⟨ol,h⟩))
    .exact .inr (.inr (.inr (.inr (.inl ⟨il,h⟩))))
    .exact .inr (.inr (.inr (.inr (.inr ⟨il,h⟩))))
   .rintro(⟨_,h⟩|⟨q,h⟩|⟨_,h⟩|⟨q,h⟩|⟨_,h⟩|⟨_,h⟩)
    .exact .inl (.inl h)
    .exact absurd rfl q
    .exact .inl (.inr h)
    .exact absurd rfl q
    .exact .inr (.inl h)
    .exact .inr (.inr h)
 have h2:e∈(bs t).flatMap (A2 t f)++V2.flatMap (A3 t f)↔∃w∈A6,XC t w/\e∈rA t.m1 f w:=by
  unfold XC;show e∈(if t.fg.isEmpty=U then [jF]else [jF,kc]).flatMap _++V2.flatMap _↔_;cases t.fg.isEmpty
  .show e∈(A2 t f jF++(A2 t f kc++[]))++(rA _ f (109,uL,uL)++(rA _ f (101,uL,ji)++[]))↔_;simp only[A6,A2,au,aw,bx,or_false,exists_eq_or_imp,exists_eq_left,bS,false_implies,true_and];constructor
   .rintro(((h|h)|(h|h))|(h|h))
    .exact .inl h
    .exact .inr (.inr (.inl h))
    .exact .inr (.inl h)
    .exact .inr (.inr (.inr (.inl h)))
    .exact .inr (.inr (.inr (.inr (.inl h))))
    .exact .inr (.inr (.inr (.inr (.inr h))))
   .rintro(h|h|h|h|h|h)
    .exact .inl (.inl (.inl h))
    .exact .inl (.inr (.inl h))
    .exact .inl (.inl (.inr h))
    .exact .inl (.inr (.inr h))
    .exact .inr (.inl h)
    .exact .inr (.inr h)
  .show e∈(A2 t f jF++[])++(rA _ f (109,uL,uL)++(rA _ f (101,uL,ji)++[]))↔_;simp only[A6,A2,au,aw,bx,or_false,exists_eq_or_imp,exists_eq_left,true_implies];constructor
   .rintro((h|h)|(h|h))
    .exact .inl ⟨ol,h⟩
    .exact .inr (.inr (.inl ⟨ol,h⟩))
    .exact .inr (.inr (.inr (.inr (.inl ⟨al,h⟩))))
    .exact .inr (.inr (.inr (.inr (.inr ⟨al,h⟩))))
   .rintro(⟨_,h⟩|⟨q,h⟩|⟨_,h⟩|⟨q,h⟩|⟨_,h⟩|⟨_,h⟩)
    .exact .inl (.inl h)
    .exact absurd rfl q
    .exact .inl (.inr h)
    .exact absurd rfl q
    .exact .inr (.inl h)
    .exact .inr (.inr h)
 rw[au,h1];cases t.m1.isEmpty
 .exact or_congr Nk (h2.trans ⟨λh=>⟨W,h⟩,λh=>h.2⟩)
 .exact or_congr Nk ⟨(λh=>nomatch h),(λh=>nomatch h.1)⟩
def Ij:e∈s3 t↔e∈t.fs.flatMap (rm t):=by
 rw[zq,PY,eB];constructor
 .rintro⟨⟨f,hf,h⟩,q⟩;refine⟨f,hf,FU.mpr ?_⟩
  rcases h with⟨w,a,h⟩|⟨b,w,a,h⟩
  .exact .inl ⟨w,a,λz=>Ry h▸q z,h⟩
  .exact .inr ⟨b,w,a,λz=>Rz h▸q z,h⟩
 .rintro⟨f,hf,h⟩
  rcases FU.mp h with⟨w,a,q,h⟩|⟨b,w,a,q,h⟩
  .exact⟨⟨f,hf,.inl ⟨w,a,h⟩⟩,λz=>by rw[Ry h];exact q z⟩
  .exact⟨⟨f,hf,.inr ⟨b,w,a,h⟩⟩,λz=>by rw[Rz h];exact q z⟩
def Qw(hf:Z t.fg<=10):xd t=(aQ t.fg.length).map λk=>(48+k,t.fg.getD k 0):=by
 refine ju (by rw[aB,a8];rw[wz];exact NN hf) λi h1 h2=>?_;rw[aB,a8]at h2;rw[List.getElem_zip,((aN.mp (xM (aa h2 hf)).2).2)];simp[h2]
def VG(hf:Z t.fg<=10):e∈LE t↔e∈got t:=by
 have hd:(xd t).flatMap (pF t)=(aQ t.fg.length).flatMap (dg t):=by rw[Qw hf,List.flatMap_map]
 show e∈GR++(aQ _).flatMap _++(if t.fg.isEmpty=U then []else [(lr,[],t.m3,kc)])++t.fs.flatMap _↔e∈s3 t++GR++(if t.fg.isEmpty=U then []else(lr,[],t.m3,kc)::(xd t).flatMap _)
 rw[hd];simp only[au,<-Ij];cases q:t.fg.isEmpty
 .simp only[bS,if_false,aw,bx,or_false];constructor
  .rintro(((h|h)|h)|h)
   .exact .inl (.inr h)
   .exact .inr (.inr h)
   .exact .inr (.inl h)
   .exact .inl (.inl h)
  .rintro((h|h)|h|h)
   .exact .inr h
   .exact .inl (.inl (.inl h))
   .exact .inl (.inr h)
   .exact .inl (.inl (.inr h))
 .have z:Z t.fg=0:=by simp_all
  rw[z];simp only[if_true,bx,or_false,List.range_zero,fP];exact or_comm
end K34E
namespace K34E
open PySem L2 M K34
def vS:L9 (c::r)=(c - 32)::r:=by
 have h:cJ (T (c::r)) (Y 1) L=T r:=by
  refine(uv (p:=1) (by simp) (ak _) ?_).trans (by simp);have e:max (0:Int) (min ((c::r).length) ((c::r).length))=((c::r).length):=by omega
  simp only[Builtin.Str.strSliceIndices,show((1) > 0)=True by simp,if_true];rw[if_neg (show¬(((c::r).length):Int)<0 from(λz=>(uU z (fB _)))),e];rfl
 unfold L9;rw[h,GZ];rfl
variable{t:Tb}{e:Ed}
def mr1:e∈s1 t↔∃B∈s0 t,e=B\/(t.m0.isEmpty=J/\e=Nv t.m0 B):=by
 show e∈(if t.m0.isEmpty=U then s0 t else s0 t++(s0 t).map (Nv _))↔_;cases t.m0.isEmpty
 .refine (?_ : e∈s0 t++(s0 t).map (Nv _)↔_);rw[au,bX];constructor
  .rintro(h|⟨B,h,rfl⟩)
   .exact⟨e,h,.inl W⟩
   .exact⟨B,h,.inr ⟨W,W⟩⟩
  .rintro⟨B,h,rfl|⟨_,rfl⟩⟩
   .exact .inl h
   .exact .inr ⟨B,h,W⟩
 .constructor
  .intro h;exact⟨e,h,.inl W⟩
  .rintro⟨B,h,rfl|⟨q,_⟩⟩
   .exact h
   .cases q
def mrb:e∈AV t↔e∈s1 t\/(t.m1.isEmpty=J/\∃f∈t.fs,∃w∈A6,e∈rA t.m1 f w):=by
 show e∈(if t.m1.isEmpty=U then s1 t else s1 t++t.fs.flatMap (H6 _))↔_;cases t.m1.isEmpty
 .simp
 simp
def W6B:(W6.all λw=>decide (w.2.1∈jc) && decide (w.2.2∈jc))=U:=by decide +kernel
def A6B:(A6.all λw=>decide (w.2.1∈jc) && decide (w.2.2∈jc))=U:=by decide +kernel
structure wG(e:Ed):Prop where
 b:e.1∈jc
 o:e.2.2.2∈jc
 t:Z e.2.1<=6
 n:e.2.1=[]->e.1=lr/\e.2.2.2=kc
 c:e.2.2.1≠[]
 z:(∀c∈e.2.2.1,c≠0)\/(e.1∈mD/\e.2.2.2=jF)
 k:Z e.2.2.1<=6
def xV(h1:e.1∈jc)(h2:e.2.2.2∈jc)(h3:Z e.2.1<=6)(B:e.2.1≠[])(C:e.2.2.1≠[])(O:∀c∈e.2.2.1,c≠0)(g:Z e.2.2.1<=6):wG e:=⟨h1,h2,h3,λh=>absurd h B,C,.inl O,g⟩
set_option tactic.hygienic true in
def Wn(w:wT t):∀e∈got t,wG e:=λe he=>by
 have ht:=w.ok;have d:∀m∈[t.m0,t.m1,t.m2,t.m3,t.fg],∀c∈m,c≠0:=λm u c hc=>by have:=w.cm m u c hc;exact λz=>(NY this.1 (fU (oZ z) bR))
 have app:∀{a b:List Int},(∀c∈a,c≠0)->(∀c∈b,c≠0)->∀c∈a++b,c≠0:=λha hb c hc=>(au.mp hc).elim (ha c) (hb c)
 rcases au.mp he with he|he
 .rcases au.mp he with he|he
  .have j:∀f∈t.fs,D8 f/\(∀c∈f.2.1,c≠0)/\f.2.1≠[]/\∃c r,f.1=c::r:=λf hf=>by
    have go:=ht.ho f hf;refine⟨go,λc hc=>by have:=w.cf f hf c hc;exact λz=>(NY this.1 (fU (oZ z) (by decide))),bp.mp go.c1,?_⟩
    cases q:f.1 with
    |nil=>exact absurd q go.ne
    |cons c r=>exact⟨c,r,W⟩
   rcases mrb.mp (zq.mp he).1 with h|⟨_,f,hf,k,n,h⟩
   .obtain⟨v,h0,h⟩:=mr1.mp h;obtain⟨f,hf,k,n,h0⟩:=qq.mp h0;obtain⟨go,l,i,c,r,hc⟩:=j f hf;have g:=bE.mp W6B k n;rw[ag,decide_eq_true_eq,decide_eq_true_eq]at g
    have o:v=(k.2.1,f.1,f.2.1,k.2.2):=by
     unfold IH at h0;split at h0
     .exact az.mp h0
     .cases h0
    subst o;have ll:=go.ll
    rcases h with rfl|⟨_,rfl⟩
    .exact xV g.1 g.2 ll go.ne i l (by exact aa go.cl bR)
    .refine xV g.1 g.2 ?_ ?_ (λh=>i (CH.mp h).2) (app (d _ (by simp)) l) ?_
     .show(L9 _).length<=6;rw[hc,vS];rwa[hc]at ll
     .show L9 _≠[];rw[hc,vS];simp
     .show(t.m0++f.2.1).length<=6;rw[aj];have:=ht.h0;have:=go.cl;omega
   .obtain⟨go,l,i,c,r,hc⟩:=j f hf;have g:=bE.mp A6B k n;rw[ag,decide_eq_true_eq,decide_eq_true_eq]at g;unfold rA at h;split at h
    .rw[az.mp h];refine xV g.1 g.2 ?_ ?_ (λh=>i (CH.mp h).2) ?_ ?_
     .rw[aB];exact go.ll
     .rw[hc];simp
     .refine app (λc hc=>?_) l;split at hc
      .cases hc
      .exact d _ (by simp) c hc
     .have h1:=ht.h1;have h2:=go.cl;rw[aj];split
      .exact aa (jD h2 _) bR
      .exact aa (dW h1 h2) bR
    .cases h
  .have g:(GR.all λe=>decide (e.1∈jc) && (decide (e.2.2.2∈jc) && (decide (Z e.2.1<=6) && (decide (e.2.1≠[]) && (decide (e.2.2.1≠[]) && (decide (e.1∈mD) && (decide (e.2.2.2=jF) && decide (Z e.2.2.1<=6))))))))=U:=by decide +kernel
   have:=bE.mp g e he;simp only[ag,decide_eq_true_eq]at this;obtain⟨h1,h2,h3,x,s,y,A,B⟩:=this;exact⟨h1,h2,h3,λh=>absurd h x,s,.inr ⟨y,A⟩,B⟩
 .have he:e∈(if t.fg.isEmpty=U then []else(lr,[],t.m3,kc)::(xd t).flatMap _):=he;split at he
  .cases he
  .rename_i q
   rcases aw.mp he with rfl|he
   .exact⟨by show lr∈jc;decide,by show kc∈jc;decide,aK _,λ_=>⟨W,W⟩,w.m3 (λz=>q (by rw[z];rfl)),.inl (d _ (by simp)),by exact aa ht.h3 bR⟩
   .obtain⟨p,hp,h⟩:=eB.mp he;have h1:∀c∈[p.2],c≠0:=λc hc=>by rw[az.mp hc];exact (d _ (by simp) _ (iM hp).2)
    simp only[pF,aw,bx,or_false]at h
    rcases h with rfl|rfl|rfl
    .exact xV (by show jF∈jc;decide) (by show lr∈jc;decide) (by simp) (by simp) (by simp) (app (d _ (by simp)) h1) (by rw[aj];exact ao ht.h2 bR)
    .exact xV (by show ji∈jc;decide) (by show lr∈jc;decide) (by simp) (by simp) (by simp) (app (d _ (by simp)) h1) (by rw[aj];exact ao ht.h2 (by decide))
    .exact xV (by show lr∈jc;decide) (by show lr∈jc;decide) (by simp) (by simp) (by simp) h1 (by show 1<=6;decide)
def zA(ht:Ie t):Z (got t)<=300:=by
 rw[aj,aj];show _+3+_<=_;exact kX (Kf ht.hl) (KD t)
def Mv(w:wT t):∃E:List Ed,Hw (got t)=E.map cH/\gE E/\(∀e,e∈E↔e∈got t)/\∀e∈E,wG e:=by
 obtain⟨E,h1,_,h3,a⟩:=TY _;have ok:=λe he=>Wn w e ((h3 e).mp he);exact⟨E,h1,⟨λe he=>(ok e he).b,λe he=>(ok e he).o,λe he=>aa (ok e he).t bR,λe he=>(ok e he).n,aa a (zA w.ok)⟩,h3,ok⟩
def Qk(t:Tb)(d:Nat):Prop:=∃c∈U' t.fs,d=c\/(t.m0.isEmpty=J/\d=c - 32)
def VT(w:wT t)(hd:Qk t d)(B:v∈W6)(hl:t.fg.isEmpty=U->v.2.1≠kc):∃C,(v.2.1,[d],C,v.2.2)∈got t:=by
 obtain⟨c,hc,h⟩:=hd;obtain⟨f,hf,a⟩:=FV.mp hc;obtain⟨C,b⟩:=w.own f hf c a;have g:(W6.all λv=>decide (v.1∈Sz))=U:=bR;have h0 :=qq.mpr ⟨_,b,v,B,by
  unfold IH;rw[if_pos (decide_eq_true (of_decide_eq_true (bE.mp g v B)))]
  exact az.mpr W⟩
 rcases h with rfl|⟨i,rfl⟩
 .exact⟨C,aC _ (aC _ (zq.mpr ⟨mrb.mpr (.inl (mr1.mpr ⟨_,h0,.inl W⟩)),hl⟩))⟩
 .refine⟨t.m0++C,aC _ (aC _ (zq.mpr ⟨mrb.mpr (.inl (mr1.mpr ⟨_,h0,.inr ⟨i,?_⟩⟩)),hl⟩))⟩;show _=(v.2.1,L9 [c],t.m0++C,v.2.2)
  rw[vS]
def WH(hf:Z t.fg<=10)(hk:k<Z t.fg)(hs:s∈mD):∃g,(s,[48+k],g,lr)∈got t:=by
 have c:(48+k,t.fg[k])∈xd t:=by
  refine pK.mpr ⟨k,?_⟩;rw[List.getElem?_zip_eq_some];exact⟨((xM (aa hk hf)).2),af hk⟩
 have b:t.fg.isEmpty=J:=by
  grind
 have a:∀e∈pF t _,e∈got t:=λe he=>by
  refine aq _ ?_;show e∈(if t.fg.isEmpty=U then []else(lr,[],t.m3,kc)::(xd t).flatMap _);rw[b];exact jZ _ (eB.mpr ⟨_,c,he⟩)
 simp only[mD,aw,bx,or_false]at hs
 rcases hs with rfl|rfl|rfl
 .exact⟨_,a _ jL⟩
 .exact⟨_,a _ (jZ _ jL)⟩
 .exact⟨_,a _ (jZ _ (jZ _ jL))⟩
def ZT(hs:s∈mD):(s,[32],[0],jF)∈got t:=by
 refine aC _ (aq _ ?_);have a:(mD.all λs=>decide ((s,[32],[0],jF)∈GR))=U:=by decide +kernel
 exact of_decide_eq_true (bE.mp a s hs)
def YR(h:t.fg.isEmpty=J):(lr,[],t.m3,kc)∈got t:=by
 refine aq _ ?_
 grind
variable{E:List Ed}{x:List Nat}
inductive fin (E:List Ed) (x:List Nat):Nat->aW->Prop
 |z {s:aW}:s∈mD->fin E x x.length s
 |s {p:Nat} {e:Ed}:p<=Z x->e∈E->pre x p e=U->fin E x (p+Z e.2.1) e.2.2.2->fin E x p e.1
def rC(h:fin E x p s):(p=Z x/\s∈mD)\/∃e∈E,e.1=s/\pre x p e=U/\fin E x (p+Z e.2.1) e.2.2.2:=by
 cases h with
 |z h=>exact .inl ⟨W,h⟩
 |s a b c d=>exact .inr ⟨_,b,W,c,d⟩
set_option tactic.hygienic true in
def HR(w:wT t)(h:d∈raw t)(B:¬Qk t d):d=32\/∃k,k<Z t.fg/\d=48+k:=by
 rcases au.mp h with h|h
 .rcases au.mp h with h|h
  .rcases au.mp h with h|h
   .exact .inl (az.mp h)
   .obtain⟨k,hk⟩:=pK.mp h
    have a:k<Z t.fg:=by
     rw[dt]at hk
     simp_all
    rw[dt,if_pos a,(xM (aa a w.ok.hf)).2]at hk;exact .inr ⟨k,a,(bI hk).symm⟩
  .exfalso;unfold Ma at h;split at h
   .cases h
   .rename_i q;obtain⟨c,hc,rfl⟩:=bX.mp h;exact B ⟨c,hc,.inr ⟨by simpa using q,W⟩⟩
 .exact absurd ⟨d,h,.inl W⟩ B
structure cl(t:Tb)(E:List Ed)(x:List Nat)(p:Nat):Prop where
 o:fin E x p jF
 i:(∃d,x[p]?=Y d/\Qk t d)->fin E x p qk
 d:(¬ ∃d,x[p]?=Y d/\Qk t d)->fin E x p ji
 n:t.fg.isEmpty=J->fin E x p lr
theorem zX(w:wT t)(B:∀e,e∈E↔e∈got t)(O:∀c∈x,c∈raw t):∀(m p:Nat),p+m=Z x->cl t E x p
 |0,p,h=>by
   have hp:p=Z x:=by omega
   subst hp;refine⟨.z bR,?_,λ_=>.z bR,λ_=>.z bR⟩;rintro⟨d,hd,_⟩;rw[pN (ak _)]at hd;cases hd
 |m+1,p,h=>by
   have hp :=ao (aX _ _) (ae h);have j:=zX w B O m (p+1) (aD (iF (ae h)) (iF (ae h.symm)));have hd :=af hp
   have f:[x[p]] <+: x.drop p:=by
    rw[eP hp];exact⟨x.drop (p+1),W⟩
   have go:∀{s o:aW}{C:List Int},(s,[x[p]],C,o)∈got t->fin E x (p+1) o->fin E x p s:=λ{s o C}he hf=>.s (ax hp) ((B _).mpr he) (decide_eq_true f) hf;by_cases g:Qk t x[p]
   .have b:∀{v:Nat×aW×aW},v∈W6->(t.fg.isEmpty=U->v.2.1≠kc)->fin E x (p+1) v.2.2->fin E x p v.2.1:=λ{v} y hl hf=>by
     obtain⟨C,he⟩:=VT w g y hl;exact go he hf
    have A:fin E x p kc->t.fg.isEmpty=J->fin E x p lr:=λhl hf=>.s (ax hp) ((B _).mpr (YR hf)) (decide_eq_true NS) hl;by_cases u:∃d,x[p+1]?=Y d/\Qk t d
    .have hi:=j.i u;refine⟨b (v:=(98,jF,qk)) bR (λ_=>by decide) hi,λ_=>b (v:=(109,qk,qk)) bR (λ_=>by decide) hi,λq=>absurd ⟨_,hd,g⟩ q,λq=>A (b (v:=(98,kc,qk)) bR (λz=>by rw[q]at z;cases z) hi) q⟩
    .have hi:=j.d u;refine⟨b (v:=(119,jF,ji)) bR (λ_=>by decide) hi,λ_=>b (v:=(101,qk,ji)) bR (λ_=>by decide) hi,λq=>absurd ⟨_,hd,g⟩ q,λq=>A (b (v:=(119,kc,ji)) bR (λz=>by rw[q]at z;cases z) hi) q⟩
   .have hi:¬ ∃d,x[p]?=Y d/\Qk t d:=by
     rintro⟨d,h1,h2⟩;rw[hd]at h1;exact g (bI h1▸h2)
    rcases HR w (O _ (bA hp)) g with e|⟨k,hk,e⟩
    .have hb:∀{s:aW},s∈mD->fin E x p s:=λ{s}hs=>go (by rw[e];exact ZT hs) j.o;exact⟨hb bR,λz=>absurd z hi,λ_=>hb bR,λ_=>hb bR⟩
    .have l:t.fg.isEmpty=J:=by
      cases h:t.fg with
      |nil=>rw[h]at hk;cases hk
      |cons a r=>rfl
     have hb:∀{s:aW},s∈mD->fin E x p s:=λ{s}hs=>by
      obtain⟨C,he⟩:=WH w.ok.hf hk hs;exact go (by rw[e];exact he) (j.n l)
     exact⟨hb bR,λz=>absurd z hi,λ_=>hb bR,λ_=>hb bR⟩
end K34E
namespace K34E
open PySem L2 M K34
variable{x:List Nat}{s:aW}
noncomputable abbrev jm(S:List Ed):List Int:=S.flatMap λe=>e.2.2.1
def ON(hl:Z (jm S)<=100000):∃b,Cn D (n+1) 20 [.lst (S.map cH)]=Y (tI (jm S),b):=by
 suffices h:Go _ _ [Y (.lst _,J),L,L] λo=>∃b,o=.rt (tI (jm S)) b by
  obtain⟨_,h1,b,rfl⟩:=h;exact⟨b,fi W h1⟩
 refine eM W (iy (I:=λus c=>∃z,c=[Y (.lst (S.map cH),J),Y (.lst ((jm us).map Dat.int),U),z]) (by rfl) ⟨L,W⟩ ?_ ?_)
 .rintro us e vs _ a ⟨z,rfl⟩
  have h1:Z (jm us)+Z e.2.2.1<=100000:=by
   grind
  refine⟨_,W,bL (zp (ds:=[tI e.2.2.1]) W ?_ (Ig (by rw[aB,aB];exact aa h1 bR))) (bw ⟨_,W,Y (cH e,J),?_⟩)⟩
  .show Y ([tI _],(J || im (tI _)) && U)=_;rw[lH];rfl
  simp
 .rintro _ ⟨z,rfl⟩;exact iJ W ⟨_,W⟩
def Ch:aW->List Ed->aW->Prop
 |s,[],o=>s=o
 |s,e::S,o=>e.1=s/\Ch e.2.2.2 S o
theorem En:∀{S:List Ed}{a b:aW}{e:Ed},Ch a S b->e.1=b->Ch a (S++[e]) e.2.2.2
 |[],_,_,_,h,q=>⟨q.trans h.symm,W⟩
 |_::S,_,_,_,h,q=>⟨h.1,En h.2 q⟩
noncomputable abbrev xG(S:List Ed):List Nat:=S.flatMap λe=>e.2.1
abbrev Jo(C:Fs)(ρ:cY):Option Bool:=(bf C (.cmp .lt (.v 5) (.blt .len [(.v 1)])) (full ρ)).bind λx=>fV x.1
def RE(h:bf C a (full ρ)=Y (d,U))(hi:im d=J):pB C (.set i a) ρ=Y (.nx (ρ.set i (Y (d,U)))):=by
 rw[zE,h];show(if(im d || U)=U then Y (Out.nx (ρ.set i (Y _)))else _)=_;rw[hi];rfl
def yO:pB C (.SK c b) ρ=p5 (λρ=>(bf C c (full ρ)).bind λx=>fV x.1) (dZ C b) kH ρ:=rfl
def Gs(h:n<=1000):2 * n+1<kH:=by
 unfold kH;exact kX h h
end K34E
namespace K34E
open PySem L2 M K34
variable{F:List Ed}{x:List Nat}{p:Nat}{s:aW}
structure Rw{α:Type}(ks:List aW)(g:aW->Option α):Prop where
 nd:ks.Nodup
 mem:∀s,s∈ks↔∃k,g s=Y k
 st:∀s∈ks,s∈jc
noncomputable abbrev SU{α:Type}(g:aW->Option α)(s:aW)(v:α):aW->Option α:=λr=>if r=s then Y v else g r
theorem Bu:∀{l:List aW},s∉l->iO (.inr s) (l.map bF) (l.map g)=L
 |[],_=>rfl
 |a::r,h=>by
   have q:¬(bF a:Key)=.inr s:=λe=>h (oV e▸jL);show(if(bF a)=.inr s then _ else iO ..)=L;rw[if_neg q,Bu λm=>h (jZ _ m)]
def DQ{α:Type}[VD α]{B:List aW}{g:aW->Option α}(h:Rw B g):iO (.inr s) (B.map bF) (B.map λs=>vD (g s))=(g s).map VD.v:=by
 by_cases m:s∈B
 .obtain⟨k,hk⟩:=(h.mem s).mp m;rw[LJ m,hk];rfl
 .rw[Bu m]
  cases q:g s with
  |none=>rfl
  |some k=>exact absurd ((h.mem s).mpr ⟨k,q⟩) m
theorem RF{α:Type}[VD α]{g:aW->Option α}{v:α}:∀{C:List aW},C.Nodup->∃B:List aW,putD (.inr s) (VD.v v) (C.map bF) (C.map λs=>vD (g s))=(B.map bF,B.map λr=>vD (SU g s v r))/\Bg (.inr s) (C.map bF)=U/\B.Nodup/\∀r,r∈B↔r∈C\/r=s
 |[],_=>⟨[s],by show([bF s],[VD.v v])=([bF s],[vD (if s=s then Y v else g s)]);rw[if_pos W];rfl,W,by simp,by simp⟩
 |a::l,h=>by
   obtain⟨h1,h2⟩:=a6.mp h;by_cases q:a=s
   .subst q
    have e :=dP λr m=>by
     show vD (g r)=vD (if r=a then Y v else g r);rw[if_neg λz:r=a=>h1 (z▸m)]
    refine⟨_,?_,?_,h,λr=>⟨.inl,λz=>z.elim id λz=>z▸jL⟩⟩
    .show(if(bF a)=.inr a then((bF a)::l.map bF,VD.v v::l.map λr=>vD _)else _)=(_,vD (if a=a then Y v else g a)::_)
     rw[if_pos W,if_pos W,e];rfl
    .show(if(bF a)=.inr a then !((l.map bF).any λi=>decide _)else _)=U
     grind
   .obtain⟨B,b,d,f,c⟩:=RF (v:=v) h2;refine⟨a::B,?_,?_,a6.mpr ⟨λm=>?_,f⟩,λr=>?_⟩
    .show(if(bF a)=.inr s then _ else((bF a)::(putD _ _ _ (l.map λs=>vD _)).1,vD _::(putD _ _ _ (l.map λs=>vD _)).2))=(_,vD (if a=s then Y v else g a)::_)
     rw[if_neg (λe=>q (oV e)),if_neg q,b];rfl
    .show(if(bF a)=.inr s then _ else Bg _ _)=U;rw[if_neg (λe=>q (oV e)),d]
    .grind
    .rw[aw,aw,c,or_assoc]
def YV{α:Type}[VD α]{C:List aW}{g:aW->Option α}(h:Rw C g)(hs:s∈jc)(v:α):∃B,lG .seti (dD C g) [VD.v v,.str s]=Y (dD B (SU g s v))/\Rw B (SU g s v):=by
 refine ac λ_ b=>?_;obtain⟨B,c,d,e,a⟩:=RF (v:=v) h.nd;refine b ?_;refine⟨B,?_,e,λr=>?_,λr m=>?_⟩
 .show(if(C.map bF).length<aE/\Bg _ _=U then Y (Dat.dct (putD _ _ _ (C.map λs=>vD _)).1 (putD _ _ _ (C.map λs=>vD _)).2)else L)=_;rw[if_pos ⟨by rw[aB];exact ao (zm h.nd h.st) bR,d⟩,c]
 .rw[a];show _↔∃k,(if r=s then Y v else g r)=Y k;by_cases q:r=s
  .simp[q]
  .rw[h.mem];simp[q]
 .rcases(a r).mp m with m|m
  .exact h.st r m
  .exact m▸hs
structure CT{α:Type}[VD α](L':List Dat)(n:Nat)(G:Nat->aW->Option α):Prop where
 l:Z L'=n+1
 r:∀q,q<=n->∃ks,L'[q]?=Y (dD ks (G q))/\Rw ks (G q)
abbrev CI{α:Type}(G:Nat->aW->Option α)(p:Nat)(s:aW)(v:α):Nat->aW->Option α:=λq=>if q=p then SU (G p) s v else G q
section
variable{L':List Dat}{G:Nat->Row}
def Bn{α:Type}[VD α]{L':List Dat}{n i:Nat}{v:α}{G:Nat->aW->Option α}{ρ:cY}{ke xi xe:Ex}{O I P:Bool}(h:CT L' n G)(hp:p<=n)(hs:s∈jc)(h2:(ρ[i]?).join=Y (.lst L',U))(e1:bf C xe (full ρ)=Y (VD.v v,O))(e2:bf C ke (full ρ)=Y (.int (p:Nat),I))(e3:bf C xi (full ρ)=Y (.str s,P)) :
  ∃B,pB C (.Ly i ke xi xe) ρ=Y (.nx (ρ.set i (Y (.lst B,U))))/\CT B n (CI G p s v):=by
 obtain⟨k,g,c⟩:=h.r p hp;obtain⟨a,b,b2⟩:=YV c hs v;refine⟨L'.set p (dD a (SU (G p) s v)),?_,by rw[wA];exact h.l,λq f=>?_⟩
 .have h1:tL L'.length ((p))=Y p:=by
   unfold tL;rw[if_pos (fB _),if_pos (by rw[h.l];exact oY.mpr (bb hp))];simp
  have h3:Vu .seti [VD.v v,.str s] (.lst L') (.int (p))=Y (.lst (L'.set p (dD a (SU (G p) s v)))):=by
   show((tL _ _).bind λj=>(L'[j]?).bind λd=>(lG _ d _).map λm=>Dat.lst _)=_
   simp_all
  refine (?_ : bc (bf C xe _) _=_);rw[e1];show(if im _=U then _ else L)=_;rw[if_pos (VD.i v),e2];rw[e3];rw[h2];show(Vu _ _ _ (.int _)).map _=_;rw[h3];rfl
 .by_cases e:q=p
  .subst e;rw[iD (by rw[h.l];exact bb hp)];show ∃k,Y _=Y (dD k (if q=q then _ else _))/\Rw k (if q=q then _ else _);rw[if_pos W];exact⟨a,W,b2⟩
  .rw[dI (cu e)];show ∃k,L'[q]?=Y (dD k (if q=p then _ else _))/\Rw k (if q=p then _ else _);rw[if_neg e];exact h.r q f
def tU{α:Type}[VD α]{L':List Dat}{n q:Nat}{G:Nat->aW->Option α}(h:CT L' n G)(B:q<=n):∃g,x5 (.lst L') (.int (q:Nat))=Y (dD g (G q))/\Rw g (G q):=
 let ⟨g,a,b⟩:=h.r q B
 ⟨g,j3 a,b⟩
def zz{α:Type}[VD α]{B:List aW}{g:aW->Option α}(h:Rw B g):jM .isin (.str s) (dD B g)=Y (g s).isSome:=by
 show Y (iO _ _ (B.map λs=>vD _)).isSome=_;rw[DQ h];cases g s<;>rfl
def Qe{α:Type}[VD α]{B:List aW}{g:aW->Option α}{v:α}(h:Rw B g)(e:g s=Y v):x5 (dD B g) (.str s)=Y (VD.v v):=by
 show iO _ _ (B.map λs=>vD _)=_;rw[DQ h,e];rfl
def Zu(h:Rw B g):hZ .get (dD B g) [.str s,.int (v:Nat)]=Y (.int ((g s).getD v:Nat),J):=by
 show Y ((iO _ _ (B.map λs=>vD _)).getD (.int _),J)=_;rw[DQ h];cases g s<;>rfl
def abe(h1:bf C a ρ=Y (x',f))(h2:bf C b ρ=Y (y,g))(h3:bf C c ρ=Y (z,h))(h:hZ o x' [y,z]=r):bf C (.i6 o a [b,c]) ρ=r:=by rwa[uH,h1,bH,h2,bH,h3]
def vc(x:List Nat)(p:Nat)(e:Ed)(G:Nat->Row):Nat->Row:=if pre x p e=U then match G (p+Z e.2.1) e.2.2.2 with
 |none=>G
 |some c=>CI G p e.1 (min ((G p e.1).getD (Z e.2.2.1+c)) (Z e.2.2.1+c))else G
abbrev Xr(F:List Ed)(x:List Nat)(L':List Dat)(B z4 z6 O g:g_)(p:Nat):cY:=[Y (.lst (F.map cH),J),Y (sT x,J),Y (.lst L',U),B,z4,Y (.int (p:Nat),J),z6,O,g]
def UR(e:Ed):decide ((x.drop p).take (Z e.2.1)=e.2.1)=pre x p e:=decide_eq_decide.mpr ⟨λh=>dF.mpr h.symm,λh=>(dF.mp h).symm⟩
def Dp(B:Z x<=10000)(hp:p<=Z x)(h1:bf C a ρ=Y (sT x,f1))(h2:bf C b ρ=Y (.int (p:Nat),f2))(h3:bf C c ρ=Y (.int ((p+Z e.2.1:Nat):Int),g))(O:bf C d ρ=Y (sT e.2.1,f4)) :
  bf C (.cmp .eq (.sl a (Y b) (Y c)) d) ρ=Y (.bl (pre x p e),J):=by
 refine fW (x':=sT ((x.drop p).take e.2.1.length)) (f:=J) ?_ O ?_
 .rw[BY,h1];show bc (vy _) _=_;rw[h2];show bc (vy (bf C c ρ)) _=_;rw[h3];show(if(T x).length<=aE then Y (Dat.str (cJ _ (Y _) (Y _)),J)else L)=_;rw[if_pos (by exact aa B bR),J8 hp (aX _ _),de]
 .rw[abA,UR]
def Tp{e:Ed}{I z4 z6 R O:g_}(S:Z x<=1000)(hp:p<=Z x)(he:wG e)(h:CT L' x.length G):∃ρ1,eV U [6] (cH e) (Xr F x L' I z4 z6 R O p)=Y ρ1/\Go C Zc ρ1 λo=>∃P,o=.nx P/\∃B z6 R O,P=Xr F x B I z4 z6 R O p/\CT B x.length (vc x p e G):=by
 refine⟨_,W,?_⟩;refine bL (dv (fj W (gn W (len_T (aa he.t bR))) (by rw[oj])) W) ?_;have f:=Dp (C:=C) (ρ:=full (Xr F x L' I z4 (Y (cH e,J)) (Y (.int ((p+Z e.2.1)),J)) O p)) (a:=.v 1) (b:=.v 5) (c:=.v 7) (d:=.ix (.v 6) (.e_ 1)) (aa S (by decide)) hp W rfl rfl rfl;by_cases q:pre x p e=U
 .rw[q]at f;obtain⟨n,c1,c2⟩:=tU h (q:=p+Z e.2.1) (kX (ws hp) ((of_decide_eq_true q).length_le));have l:bf C (.cmp _ (.ix (.v 6) (.e_ 3)) (.ix (.v 2) (.v 7))) (full (Xr F x L' I z4 (Y (cH e,J)) (Y (.int _,J)) O p))=Y (.bl (G _ _).isSome,J):=fW W (tM W rfl c1) (zz c2);have g:=(eW f).trans ((if_pos W).trans l)
  cases k:G _ _ with
  |none=>
    rw[k]at g;exact lX g (bw ⟨_,W,L',_,_,_,W,by unfold vc;simp_all⟩)
  |some c=>
    rw[k]at g;refine i9 (J':=λρ=>∃B O,ρ=Xr F x B I z4 (Y (cH e,J)) (Y (.int ((p+Z e.2.1)),J)) O p/\CT B _ _) g (λ_=>?_) (λz=>nomatch z) λm h=>bw ⟨_,W,by obtain⟨B,z,h1,h2⟩:=h;exact⟨B,_,_,z,h1,h2⟩⟩;refine bL (dv (fj (gn W (i8 _)) (tM (tM W rfl c1) W (Qe c2 k)) (by show gQ _ _ (.int _)=_;rw[oj])) W) ?_;refine ac λ_ j=>?_;obtain⟨kp,d1,d2⟩:=tU h hp
    obtain⟨B,m1,m2⟩:=Bn (i:=2) (ρ:=Xr F x L' I z4 (Y (cH e,J)) (Y (.int _,J)) (Y (.int ((Z e.2.2.1+c)),J)) p) (v:=min ((G p e.1).getD (Z e.2.2.1+c)) (Z e.2.2.1+c)) (ke:=.v 5) (xi:=.ix (.v 6) (.e_ 0)) (xe:=.bin .mn (.v 8) (.i6 _ (.ix (.v 2) (.v 5)) [(.ix (.v 6) (.e_ 0)),(.v 8)])) h hp he.b W (fj W (abe (tM W rfl d1) W rfl (Zu d2)) (by
     refine congrArg (λi=>Y (Dat.int i,J)) ?_
     split<;>omega)) W rfl
    refine j ?_;exact bL m1 (bw ⟨_,W,B,_,W,by unfold vc;simp_all⟩)
 .rw[Nl]at q;rw[q]at f;exact lX ((eW f).trans (if_neg bR)) (bw ⟨_,W,L',_,_,_,W,by unfold vc;simp_all⟩)
end
end K34E
namespace K34E
open PySem L2 M K34
variable{E F:List Ed}{x:List Nat}{p:Nat}{s:aW}{G:Nat->Row}
def kJ(hp:p<=Z x)(h:pre x p e=U):p+Z e.2.1<=Z x:=by
 grind
structure Iv(E F:List Ed)(x:List Nat)(p:Nat)(us:List Ed)(G:Nat->Row):Prop where
 hi:∀q,p<q->q<=Z x->∀s,(G q s).isSome=U↔fin E x q s
 lo:∀q,q<p->∀s,(G q s).isSome=J
 a:∀s,(G p s).isSome=U->fin E x p s
 b:∀e∈us,pre x p e=U->e.2.1≠[]->fin E x (p+Z e.2.1) e.2.2.2->(G p e.1).isSome=U
 c:∀e∈us.drop F.length,e.2.1=[]->fin E x p kc->(G p lr).isSome=U
 z:p=Z x->∀s∈mD,(G p s).isSome=U
def XU:CI G p s v p=SU (G p) s v:=if_pos W
def XW(h:q≠p):CI G p s v q=G q:=if_neg h
def xP:(vc x p e G q s).isSome=U↔(G q s).isSome=U\/pre x p e=U/\(G (p+Z e.2.1) e.2.2.2).isSome=U/\q=p/\s=e.1:=by
 unfold vc;by_cases h:pre x p e=U
 .rw[if_pos h]
  cases b:G _ _ with
  |none=>simp
  |some c=>
    by_cases a:q=p
    .subst a;show(CI G q _ _ q s).isSome=U↔_;rw[XU];show(if s=e.1 then Y _ else G q s).isSome=U↔_;by_cases z:s=e.1<;>simp[z,h]
    .refine (?_ : (CI G p _ _ q s).isSome=U↔_);rw[XW a];simp[a]
 .rw[if_neg h];simp[h]
def VS(g:gE E)(B:∀e,e∈F↔e∈E)(h:Iv E F x p us G)(O:∀e∈F,e∈us)(C:fin E x p kc):(G p kc).isSome=U:=by
 rcases rC C with⟨_,q⟩|⟨e,he,h1,h2,hi⟩
 .exact absurd q bR
 .rw[<-h1];exact h.b e (O e ((B e).mpr he)) h2 (λq=>absurd (h1.symm.trans (g.n e he q).1) bR) hi
def Qf(g:gE E)(B:∀e,e∈F↔e∈E)(hp:p<=Z x)(O:F++F=us++e::vs)(h:Iv E F x p us G):Iv E F x p (us++[e]) (vc x p e G):=by
 have l:e∈F:=by
  have:e∈F++F:=by rw[O];simp
  rcases au.mp this with m|m<;>exact m
 have he:=(B e).mp l
 have j:∀d∈(us++[e]).drop _,d∈us.drop _\/(d=e/\Z F<=Z us):=λd m=>by
  by_cases q:Z F<=Z us
  .rw[uQ q]at m
   rcases au.mp m with m|m
   .exact .inl m
   .exact .inr ⟨az.mp m,q⟩
  .rw[List.drop_of_length_le (by rw[aj];exact cz q)]at m;cases m
 have f:Z F<=Z us->∀d∈F,d∈us:=λq d m=>by
  exact(List.prefix_of_prefix_length_le (by rw[<-O];exact Jg _ _) (Jg _ _) q).subset m
 have v:pre x p e=U->(G (p+Z e.2.1) e.2.2.2).isSome=U->fin E x (p+Z e.2.1) _:=λq k=>by
  by_cases y:e.2.1=[]
  .rw[y]at k ⊢;exact h.a _ k
  .exact(h.hi _ (j4 (bp.mpr y)) (kJ hp q) _).mp k
 refine⟨λq h1 h2 s=>?_,λq h1 s=>?_,λs k=>?_,λd m i o hf=>xP.mpr ?_,λd m i hf=>xP.mpr ?_,λz s hs=>xP.mpr (.inl (h.z z s hs))⟩
 .rw[xP,<-h.hi q h1 h2 s];exact⟨λk=>k.elim id λk=>absurd k.2.2.1 (jx h1),.inl⟩
 .rw[iX,Ne,xP,h.lo q h1 s];exact λk=>k.elim (λk=>nomatch k) λk=>absurd k.2.2.1 (a9 h1)
 .rcases xP.mp k with k|⟨r,t,_,rfl⟩
  .exact h.a s k
  .exact .s hp he r (v r t)
 .rcases au.mp m with m|m
  .exact .inl (h.b d m i o hf)
  .cases az.mp m;exact .inr ⟨i,(h.hi _ (j4 (bp.mpr o)) (kJ hp i) _).mpr hf,W,W⟩
 .rcases j d m with m|⟨rfl,u⟩
  .exact .inl (h.c d m i hf)
  .refine .inr ⟨decide_eq_true (by rw[i];exact NS),?_,W,(g.n d he i).1.symm⟩;rw[i,(g.n d he i).2];exact VS g B h (f u) hf
def We(g:gE E)(B:∀e,e∈F↔e∈E)(h:Iv E F x p (F++F) G):(G p s).isSome=U↔fin E x p s:=by
 refine⟨h.a s,λhf=>?_⟩
 rcases rC hf with⟨f,i⟩|⟨e,he,rfl,h2,hi⟩
 .exact h.z f s i
 .have d:=(B e).mpr he;by_cases y:e.2.1=[]
  .rw[y,(g.n e he y).2]at hi;rw[(g.n e he y).1];exact h.c e (by rwa[jl]) y hi
  .exact h.b e (aC _ d) h2 y hi
end K34E
namespace K34E
open PySem L2 M K34
variable{F:List Ed}{x:List Nat}{s:aW}
def CT.to{G:Nat->Row}(h:CT g n G)(e:∀q,q<=n->G q=B q):CT g n B:=⟨h.l,λq a=>by rw[<-e q a];exact h.r q a⟩
def zU(h:aQ m=us++b::vs):b=Z us/\Z us<m:=by
 have h1:Z us<m:=by have:=congrArg fI h;simp at this;simp_all
 have h2:=congrArg (·[us.length]?) h;simp[h1]at h2;exact⟨h2.symm,h1⟩
def HK(g:gE E)(a5:∀e,e∈F↔e∈E)(ok:∀e∈F,wG e)(hl:Z F<=1000)(B:Z x<=900):∃(L':List Dat) (G:Nat->Row),Cn D (n+1) 34 [.lst (F.map cH),sT x]=Y (.lst L',U)/\CT L' x.length G/\∀q,q<=Z x->∀s,(G q s).isSome=U↔fin E x q s:=by
 suffices h:Go _ _ [Y (.lst _,J),Y _,L,L,L,L,L,L,L] λo=>∃L' G,o=.rt (.lst L') U/\CT L' _ G/\∀q,q<=Z x->∀s,(G q s).isSome=U↔fin E x q s by
  refine ac λ_ t=>?_;obtain⟨_,h1,L',G,rfl,h2⟩:=h;refine t ?_;exact⟨L',G,fi W h1,h2⟩
 generalize Cn D n=C;have r :=len_T (aa B bR);refine eM (mQ (qd ((λh=>fj (gn h r) W (by rfl)) W) (ao B bR)) (by rw[aB,a8];exact ao B bR) (by rw[uB])) ?_
 refine iy (xs:=mD) (I:=λus ρ=>∃L' c,ρ=[Y (.lst _,J),Y _,Y (.lst L',U),c,L,L,L,L,L]/\CT L' x.length λq s=>if q=Z x/\s∈us then Y 0 else L)
  (lj W rfl rfl) ⟨_,L,W,by simp,λq d=>⟨[],?_,dT,λs=>?_,λs m=>nomatch m⟩⟩ ?_ ?_
 .rw[cG,if_pos (by simp;exact bb d)];rfl
 .simp
 .rintro us s vs _ H ⟨L',c,rfl,h⟩;refine⟨_,W,?_⟩
  obtain⟨X,m1,m2⟩:=Bn (i:=2) (ρ:=[Y (.lst _,J),Y (sT x,J),Y _,Y (.str s,J),L,L,L,L,L]) (ke:=.blt _ [.v 1]) (xi:=.v 3) (xe:=.e_ 0) h (ak _) (by
   exact(by decide:∀s∈mD,s∈jc) s (by rw[H];simp)) W rfl (gn W r) W
  refine bL m1 (bw ⟨_,W,X,_,W,m2.to λq d=>?_⟩)
  grind
 rintro _ ⟨L',c,rfl,h⟩
 refine D7 (P:=(·= Z x+1)) (I:=λus ρ=>∃L' G c z4 K V j l,ρ=[Y (.lst _,J),Y _,Y (.lst L',U),c,z4,K,V,j,l]/\CT L' _ G/\∀q,q<=Z x->∀s,(G q s).isSome=U↔if Z x<q+(Z us) then fin E x q s else q=Z x/\s∈mD)
  ⟨_,J,(λh=>fj (gn h r) W (by rfl)) W,W⟩ (λm S=>(aa (ae S) (ao B bR))) ⟨L',_,c,L,L,L,L,L,W,h,λq d s=>?_⟩ ?_ ?_
 .show(if q=Z x/\s∈mD then Y 0 else L).isSome=U↔if Z x<q then _ else _
  rw[if_neg (Nat.not_lt.mpr d)];simp
 .rintro m rfl us b vs _ H ⟨L',G,c,z4,K,V,j,l,rfl,h,u⟩;obtain⟨rfl,hb⟩:=zU H;refine⟨_,W,?_⟩;obtain⟨p,hp⟩:∃p,p+Z us=Z x:=⟨_,mV (aV hb)⟩
  refine bL (dv (fj (gn W r) W (by rw[wc,show((x.length):Int) - ((us.length))=(p) by omega])) W) ?_;have a :=aa (aX _ _) (ae hp)
  have M:Iv E F x p [] G:=by
   have R:=λs=>(u p a s).trans (by rw[if_neg (by omega)]);refine⟨λq h1 h2 s=>(u q h2 s).trans (by rw[if_pos (by omega)]),λq h1 s=>?_,λs k=>?_,(λ_ m=>nomatch m),(λ_ m=>by simp_all),λz s hs=>((R s).mpr ⟨z,hs⟩)⟩
   .rw[iX,Ne,u q (ax (aa h1 a)) s,if_neg (by omega)];exact λz=>a7 h1 (aa a (ae z.1.symm))
   .obtain⟨rfl,q⟩:=(R s).mp k;exact .z q
  refine iy (I:=λw ρ=>∃L' G V j l,ρ=Xr F x L' c (Y (.int _,J)) V j l p/\CT L' _ G/\Iv E F x p w G)
   (lj (f:=lW (F.map cH++F.map cH)) (fj W rfl (by rw[oi (by simp;exact aa (dW hl hl) bR),<-dJ])) W (by rw[<-dJ,D0,tD])) ⟨L',G,_,_,_,W,h,M⟩ ?_ ?_
  .rintro w e T _ y ⟨L',G,V,j,l,rfl,h,A⟩
   have he:e∈F:=by
    have:e∈F++F:=by rw[y];simp
    grind
   refine ac λ_ t=>?_;obtain⟨ρ1,h1,o,h2,U',rfl,X,N,O,Q,rfl,h3⟩:=Tp (aa B bR) a (ok e he) h;refine t ?_;exact⟨_,h1,_,h2,_,W,X,_,N,O,Q,W,h3,Qf g a5 a y A⟩
  .rintro _ ⟨L',G,V,j,l,rfl,h,A⟩;refine bw ⟨_,W,L',G,c,_,_,V,j,l,W,h,λq d s=>?_⟩;rw[aj];show _↔if _<q+(Z us+1)then _ else _
   by_cases z:Z x<q+(Z us+1)
   .rw[if_pos z];by_cases e:q=p
    .rw[e];exact We g a5 A
    .exact A.hi q (bq (kX (ae hp) z) (cu e)) d s
   .rw[if_neg z,A.lo q (kX (cz z) (ae hp.symm)) s]
    grind
 .rintro m rfl _ ⟨L',G,c,z4,K,V,j,l,rfl,h,u⟩;exact⟨_,W,L',G,W,h,λq d s=>(u q d s).trans (by rw[if_pos (by simp;exact gp _ _)])⟩
end K34E
namespace K34E
open PySem L2 M K34
variable{E F:List Ed}{x:List Nat}{p:Nat}{s:aW}
abbrev sel(G:Nat->Row)(x:List Nat)(p:Nat)(s:aW)(e:Ed):Bool:=e.1 == s && (pre x p e && (G (p+Z e.2.1) e.2.2.2).isSome)
abbrev EW(B:Int)(N:Dat)(F:List Ed)(x:List Nat)(I:List Dat)(p:Nat)(s:aW)(S:List Ed)(g C O:g_):cY:=[Y (N,J),Y (.int B,J),Y (.lst (F.map cH),J),Y (sT x,J),Y (.lst I,U),Y (.int (p:Nat),J),Y (.str s,J),Y (.lst (S.map cH),U),g,C,O]
section
variable{C:Fs}{S:List Ed}
def To{G:Nat->Row}{us:List Ed}(g:Z x<=900)(hp:p<=Z x)(he:wG e)(hu:Z us<1000)(h:CT P x.length G):∃ρ1,eV U [9] (cH e) (EW aq0 N F x P p s S (Y (.lst ((us.filter (sel G x p s)).map cH),U)) I B)=Y ρ1/\Go C Zb ρ1 λo=>∃O,o=.nx O/\∃I B,O=EW aq0 N F x P p s S (Y (.lst (((us++[e]).filter (sel G x p s)).map cH),U)) I B:=by
 refine⟨_,W,?_⟩;refine bL (dv (fj W (gn W (len_T (aa he.t bR))) (by rw[oj])) W) ?_;have i:Z (us.filter (sel G x p s))<=Z us:=c8 _ _;rw[rR];generalize us.filter _=R at *;have f:bf C (.and (.cmp .eq (.ix (.v 9) (.e_ 0)) (.v 6)) (.and (.cmp .eq (.sl (.v 3) (Y (.v 5)) (Y (.v 10))) (.ix (.v 9) (.e_ 1))) (.cmp .isin (.ix (.v 9) (.e_ 3)) (.ix (.v 4) (.v 10))))) (full (EW aq0 N F x P p s S (Y (.lst (R.map cH),U)) (Y (cH e,J)) (Y (.int ((p+Z e.2.1:Nat)),J))))=Y (.bl (sel G x p s e),J):=by
  rw[eW (fW W rfl WD),sel]
  cases e.1 == s with
  |false=>rfl
  |true=>
    rw[eW (Dp (C:=C) (ρ:=full (EW _ N F x P p s S (Y (.lst _,U)) (Y _) (Y (.int _,J)))) (a:=.v 3) (b:=.v 5) (c:=.v 10) (d:=.ix _ _) (aa g bR) hp W rfl rfl rfl)]
    cases q:pre x p e with
    |false=>rfl
    |true=>
      obtain⟨k,c1,c2⟩:=tU h (kJ hp q);exact fW W (tM W rfl c1) (zz c2)
 cases q:sel G x p s e with
 |false=>
   rw[q]at f;rw[Ay (by rw[q];decide),NX,aI];exact lX f (bw ⟨_,W,_,_,W⟩)
 |true=>
   rw[q]at f;rw[Ax q,dJ];refine i9 (J':=λρ=>ρ=EW _ N F x P p s S (Y (.lst (R.map cH++[cH e]),U)) (Y (cH e,J)) (Y (.int ((p+Z e.2.1)),J))) f (λ_=>?_) (λz=>nomatch z) λj h=>bw ⟨_,W,_,_,h⟩;refine qv ⟨cH e,J,W,oD e,W⟩ W (by rw[aB];exact aa (ao i hu) bR) λd hd=>?_;rw[hd];exact bw ⟨_,W,W⟩
structure Wk(E:List Ed)(x:List Nat)(S:List Ed)(p:Nat)(s:aW):Prop where
 he:∀e∈S,e∈E
 hp:p<=Z x
 hs:s∈jc
 hl:Z S<=2 * p+1/\(s≠kc->Z S<=2 * p)
 hk:fin E x p s
 hc:Ch jF S s
 ht:xG S=x.take p
def stepK(ha:0<=aq0/\aq0<=31){G:Nat->Row}(hd:Dw C N)(g:gE E)(hF:∀e,e∈F↔e∈E)(ok:∀e∈F,wG e)(hFl:Z F<=1000)(hx:Z x<=400)(h:Wk E x S p s)(hp:p<Z x)(hL:CT L' x.length G)(hG:∀q,q<=Z x->∀s,(G q s).isSome=U↔fin E x q s):∃e y8 y9 a5,dZ C N0 (EW aq0 N F x L' p s S c0 O B)=Y (.nx (EW aq0 N F x L' (p+Z e.2.1) e.2.2.2 (S++[e]) y8 y9 a5))/\Wk E x (S++[e]) (p+Z e.2.1) e.2.2.2/\(e.2.1=[]->s=lr/\e.2.2.2=kc):=by
 have ne:(F.filter (sel G x p s))≠[]:=by
  rcases rC h.hk with⟨q,_⟩|⟨e,he,hs,h2,hf⟩
  .simp_all
  .refine List.ne_nil_of_mem (bJ.mpr ⟨(hF e).mpr he,?_⟩);rw[sel,h2,(hG _ (kJ (ax hp) h2) _).mpr hf,hs];simp
 have pick:∀e∈F.filter (sel G x p s),Wk E x ../\(e.2.1=[]->s=lr/\e.2.2.2=kc)/\wG e:=λe m=>by
  obtain⟨m1,m2⟩:=bJ.mp m;rw[ag,ag]at m2;obtain⟨m2,m3,A⟩:=m2;have hs:e.1=s:=by simpa using m2
  have he:=(hF e).mp m1;have f:=kJ (ax hp) m3;refine⟨⟨λD u=>?_,f,g.o e he,?_,(hG _ f _).mp A,En h.hc hs,?_⟩,λq=>hs▸g.n e he q,ok e m1⟩
  .rcases au.mp u with q|q
   .exact h.he D q
   simp_all
  .obtain⟨T,H⟩:=h.hl;by_cases q:e.2.1=[]
   .obtain⟨w,U'⟩:=g.n e he q;rw[hs]at w;have:=H (by rw[w];decide)
    simp_all
   .have :=bp.mpr q
    grind
  .rw[show xG _=xG S++e.2.1 by simp[xG],h.ht,Ai];exact congrArg _ (dF.mp (of_decide_eq_true m3))
 generalize X:F.filter _=R at ne pick;have V:=h.hl.1
 suffices j:Go C N0 (EW _ N F x L' p s S c0 O B) λo=>∃e∈R,∃c0 O B,o=.nx (EW aq0 N F x L' (p+Z e.2.1) e.2.2.2 (S++[e]) c0 O B) by
  refine ac λ_ c=>?_;obtain⟨_,h1,e,m,k,l,b,rfl⟩:=j;refine c ?_;exact⟨e,k,l,b,h1,(pick e m).1,(pick e m).2.1⟩
 refine eM W (iy (I:=λus ρ=>∃O B,ρ=EW aq0 N F x L' p s S (Y (.lst ((us.filter (sel G x p s)).map cH),U)) O B) (by rfl) ⟨O,B,W⟩ ?_ ?_)
 .rintro us e vs _ K ⟨O,B,rfl⟩;exact To (aa hx (by decide)) (ax hp) (ok e (by rw[K];simp)) (by grind) hL
 rintro _ ⟨O,B,rfl⟩;rw[X];obtain⟨q,f,M⟩:=hd (aq0+Z S) 70001 _ (by omega) (by decide) (pO.mpr (bp.mpr ne));have a:q<Z R:=by omega
 have Q:bf C (.call 23 [(.v 0),(.bin .add (.v 1) (.blt .len [(.v 7)])),(.e_ 70001),(.blt .len [(.v 8)])]) (full (EW aq0 N F x L' p s S (Y (.lst (R.map cH),U)) O B))=Y (.int (q),J):=by
  rwa[jh,bH,bH,fj W (gn W (by rw[wb,aB])) (by exact congrArg (λi=>Y _) (by rfl)),bH,bH,gn W (by rw[wb,aB])]
 obtain⟨y,z,r⟩:=pick _ (bA a);refine bL (dv (tM W Q (j3 (by rw[aR,af a];rfl))) (oD _)) ?_;refine qv (P:=(·= cH _)) ⟨cH _,J,W,oD _,W⟩ W (by grind) λd hd=>?_;rw[hd,show S.map cH++[cH _]=(S++[R[q]]).map cH by simp];refine bL (dv (fj W (gn W (len_T (by exact aa r.t (by decide)))) (by rw[oj])) W) ?_;exact bL (dv W rfl) (bw ⟨_,bA a,_,_,_,W⟩)
abbrev WU(C:Fs)(ρ:cY):Option Bool:=(bf C (.cmp .lt (.v 5) (.blt .len [(.v 3)])) (full ρ)).bind λx=>fV x.1
theorem RR(ha:0<=R/\R<=31)(hd:Dw C N)(g:gE E)(hF:∀e,e∈F↔e∈E)(ok:∀e∈F,wG e)(I:Z F<=1000)(hx:Z x<=400){G:Nat->Row}(hL:CT L' x.length G)(hG:∀q,q<=Z x->∀s,(G q s).isSome=U↔fin E x q s):∀(m fuel:Nat)(S:List Ed)(p:Nat)(s:aW)(P z9 B:g_),Wk E x S p s->2 * (Z x - p)+(if s=lr then 1 else 0)<=m->m<fuel->∃S' s' y8 y9 O,p5 (WU C) (dZ C N0) fuel (EW R N F x L' p s S P z9 B)=Y (.nx (EW R N F x L' x.length s' S' y8 y9 O))/\Wk E x S' x.length s'
 |m,0,S,p,s,_,_,_,h,a,hf=>absurd hf (jO _)
 |m,fuel+1,S,p,s,P,z9,B,h,a,hf=>by
   have b :=len_T (aa hx bR)
   have hc:WU C (EW R N F x L' p s S P z9 B)=Y (decide (p<Z x)):=by
    have:bf C (.cmp .lt (.v 5) (.blt .len [(.v 3)])) (full (EW R N F x L' p s S P z9 B))=Y (.bl (decide (p<Z x)),J):=fW W (gn W b) (by
     show Y (decide ((p:Int)<(x.length)))=_
     simp)
    unfold WU;rw[this];rfl
   unfold p5;rw[hc];by_cases hp:p<Z x
   .rw[decide_eq_true hp];obtain⟨e,y8,y9,O,h1,h2,h3⟩:=stepK ha hd g hF ok I hx h hp hL hG;have i:=h2.hp
    obtain⟨c,d⟩:∃c,m=c+1:=⟨m - 1,by
     omega⟩
    subst d
    obtain⟨S',s',j,k,f,l,r⟩:=RR ha hd g hF ok I hx hL hG c fuel (S++[e]) (p+Z e.2.1) e.2.2.2 y8 y9 O h2 (by
     by_cases q:e.2.1=[]
     .obtain⟨n,o⟩:=h3 q;rw[if_pos n]at a;rw[q,o];exact aV a
     .have :=bp.mpr q
      split<;>omega) (aV hf)
    refine⟨S',s',j,k,f,?_,r⟩;rw[h1];exact l
   .rw[decide_eq_false hp];have :=aD h.hp (bV hp);subst this;exact⟨S,s,P,z9,B,W,h⟩
end
def Kh(ha:0<=I/\I<=31){ns:List Int}(g:gE E)(O:∀e,e∈F↔e∈E)(ok:∀e∈F,wG e)(B:Z F<=1000)(C:Z x<=60)(hk:fin E x 0 jF):∃S s,Cn D (n+3) 35 [.lst (ns.map Dat.int),.int I,.lst (F.map cH),sT x]=Y (.lst (S.map cH),U)/\(∀e∈S,e∈E)/\Ch jF S s/\s∈mD/\xG S=x/\Z (jm S)<=6 * (2 * Z x+1):=by
 refine ac λ_ m=>?_;obtain⟨r,G,hc,c,d⟩:=HK g O ok B (aa C (by decide));refine m ?_;have hd:Dw (Cn D (n+2)) (.lst (ns.map _)):=dw;generalize Dat.lst (ns.map _)=N at hd ⊢;refine ac λ_ m=>?_;obtain⟨S,s,j,l,f,i,a⟩:=RR ha hd g O ok B (aa C (by decide)) c d _ kH [] 0 jF L L L ⟨(λ_ h=>nomatch h),aK _,by decide,by simp,hk,W,W⟩ (by split<;>simp) (Gs (aa C (by decide)))
 refine m ?_;have hs:s∈mD:=by
  rcases rC a.hk with⟨_,q⟩|⟨e,he,rfl,h2,_⟩
  .exact q
  .have b:=of_decide_eq_true h2;rw[ox]at b;rw[(g.n e he (NR.mp b)).1];decide
 refine⟨S,s,?_,a.he,a.hc,hs,by rw[a.ht,ot],?_⟩
 .refine fi W ?_
  suffices h:Go (Cn D _) _ [Y _,Y (.int _,J),Y (.lst _,J),Y _,L,L,L,L,L,L,L] λo=>o=.rt (.lst (S.map cH)) U by
   obtain⟨_,h1,rfl⟩:=h;exact h1
  exact bL (Fd ((Ce W rfl).trans hc)) (bL (dv W rfl) (bL (dv W rfl) (eM W (bL (by rwa[yO]) ⟨_,W,W⟩))))
 .have h1:=f7 λe he=>(ok e ((O e).mpr (a.he e he))).k;have:=a.hl.1
  grind
end K34E
namespace K34E
open PySem L2 M K34
variable{F:List Ed}{x:List Nat}{s:aW}
def Kt(us:List Ed)(e:Ed):jm (us++[e])=jm us++e.2.2.1:=by simp[jm]
def Y9(B:S=us++e::vs):Z (jm us)+Z e.2.2.1<=Z (jm S)/\Z (xG us)+Z e.2.1<=Z (xG S):=by
 subst B;simp
def Kj(hl:Z (jm S)<=1000):Cn D (n+1) 36 [.lst (S.map cH)]=Y (tI (jm S),J):=by
 refine nE W ?_;refine bL (dv W rfl) (iy (I:=λus b=>∃z,b=[Y (.lst (S.map cH),J),Y (tI (jm us),J),z]) (by rfl) ⟨L,W⟩ ?_ ?_)
 .rintro us e vs _ a ⟨z,rfl⟩;exact⟨_,W,bL (dv (fj W rfl (qC _ _ (aa ((Y9 a).1) hl))) (lH _)) (bw ⟨_,W,_,by rw[Kt];rfl⟩)⟩
 .rintro _ ⟨z,rfl⟩;exact⟨_,W,W⟩
def Vn(h:bf C a ρ=Y (.bl b,f)):bf C (.not a) ρ=Y (.bl (!b),J):=by
 rw[Wy,h];rfl
end K34E
namespace K34E
open PySem L2 M K34
noncomputable abbrev mz(r:List Int)(q:Nat)(e:Ed):Bool:=decide (e.2.2.1 <+: r.drop q)
inductive Wl (E:List Ed) (x:List Nat) (r:List Int):Nat->Nat->aW->Prop
 |z:Wl E x r 0 0 jF
 |s {p q:Nat} {e:Ed}:Wl E x r p q e.1->e∈E->pre x p e=U->mz r q e=U->Wl E x r (p+Z e.2.1) (q+Z e.2.2.1) e.2.2.2
section
variable{E:List Ed}{x:List Nat}{r:List Int}
def vt(B:q<=Z r)(h:mz r q e=U):q+Z e.2.2.1<=Z r:=by
 grind
def Wl.le{p q:Nat}{s:aW}(h:Wl E x r p q s):p<=Z x/\q<=Z r:=by
 induction h with
 |z=>simp
 |s _ _ h1 h2 a=>exact⟨kJ a.1 h1,vt a.2 h2⟩
def Wl.st(ho:∀e∈E,e.2.2.2∈jc){p q:Nat}{s:aW}(h:Wl E x r p q s):s∈jc:=by
 cases h with
 |z=>exact jL
 |s _ he _ _=>exact ho _ he
def Nu(E:List Ed)(x:List Nat)(r:List Int):Prop:=∃s∈mD,Wl E x r x.length r.length s
theorem Sh:∀(S us:List Ed){s o:aW},(∀e∈us++S,e∈E)->Ch s S o->Wl E (xG (us++S)) (jm (us++S)) (xG us).length (jm us).length s->Wl E (xG (us++S)) (jm (us++S)) (xG (us++S)).length (jm (us++S)).length o
 |[],us,s,o,_,hc,h=>by
   rw[aI]at h ⊢;exact(hc)▸h
 |e::S,us,s,o,he,hc,h=>by
   obtain⟨rfl,hc⟩:=hc;have a:us++e::S=(us++[e])++S:=by simp
   have w:=Wl.s h (he e (by simp)) (by simp) (by simp);have b3:Z (xG us)+Z e.2.1=Z (xG (us++[e])):=by simp[xG]
   have b4:Z (jm us)+Z e.2.2.1=Z (jm (us++[e])):=by simp[jm]
   rw[b3,b4]at w;rw[a]at w he ⊢;exact Sh S _ he hc w
def zO(he:∀e∈S,e∈E)(hc:Ch jF S s)(hs:s∈mD):Nu E (xG S) (jm S):=⟨s,hs,Sh S [] he hc .z⟩
end
section
variable{G:Nat->Row}
end
section
variable{E:List Ed}{x:List Nat}{r:List Int}{A:Nat->List (Nat×aW)}
noncomputable abbrev yU(a:Nat×aW)(e:Ed):Nat×aW:=(a.1+Z e.2.1,e.2.2.2)
abbrev gd(x:List Nat)(r:List Int)(q:Nat)(a:Nat×aW)(e:Ed):Bool:=(e.1 == a.2 && mz r q e) && pre x a.1 e
noncomputable abbrev upA(A:Nat->List (Nat×aW))(k:Nat)(a:Nat×aW):Nat->List (Nat×aW):=λq=>if q=k then A k++[a]else A q
def AJ(x:List Nat)(r:List Int)(q:Nat)(a:Nat×aW)(e:Ed)(A:Nat->List (Nat×aW)):Nat->List (Nat×aW):=if(gd x r q a e && !decide (yU a e∈A (q+Z e.2.2.1)))=U then upA A (q+Z e.2.2.1) (yU a e)else A
structure Sw(E:List Ed)(x:List Nat)(r:List Int)(A:Nat->List (Nat×aW)):Prop where
 z:(0,jF)∈A 0
 s:∀q,∀a∈A q,Wl E x r a.1 q a.2
 n:∀q,(A q).Nodup
abbrev Cy(x:List Nat)(r:List Int)(A:Nat->List (Nat×aW))(q:Nat)(a:Nat×aW)(e:Ed):Prop:=gd x r q a e=U->yU a e∈A (q+Z e.2.2.1)
def ET(h:b∈A q):b∈upA A k a q:=by
 grind
def Of(h:b∈A k):b∈AJ x r q a e A k:=by
 unfold AJ;split
 .exact ET h
 .exact h
def Yf(h:k≠q+Z e.2.2.1):AJ x r q a e A k=A k:=by
 unfold AJ;by_cases c:(gd x r q a e && !decide (yU a e∈A (q+Z e.2.2.1)))=U
 .rw[if_pos c];exact if_neg h
 .rw[if_neg c]
set_option tactic.hygienic true
def Oa(h:Sw E x r A)(ha:Wl E x r a.1 q a.2)(he:e∈E):Sw E x r (AJ x r q a e A):=by
 unfold AJ;split
 .rename_i c;rw[ag,ag,ag]at c;obtain⟨⟨⟨c1,c2⟩,f⟩,g⟩:=c;refine⟨ET h.z,λk b hb=>?_,λk=>?_⟩
  .have hb:b∈(if k=q+(Z e.2.2.1) then A _++[yU a e]else A k):=hb;split at hb
   .rename_i d
    rcases au.mp hb with hb|hb
    .exact h.s k b (by rwa[d])
    .rw[az.mp hb,d];exact .s ((eq_of_beq c1)▸ha) he f c2
   .exact h.s k b hb
  .show(if k=q+(Z e.2.2.1) then A _++[yU a e]else A k).Nodup;split
   .refine cj.mpr ⟨h.n _,by simp,λb hb c hc z=>?_⟩
    simp_all
   .exact h.n k
 .exact h
def zK(h:Cy x r A k b d):Cy x r (AJ x r q a e A) k b d:=λc=>Of (h c)
def WL:Cy x r (AJ x r q a e A) q a e:=λc=>by
 unfold AJ;split
 .grind
 .rename_i d;rwa[c,nN,iW,Bool.not_eq_false,decide_eq_true_eq]at d
def SJ(h:Sw E x r A)(hc:∀q,q<Z r->∀a∈A q,∀e∈E,Cy x r A q a e)(B:∀e∈E,e.2.2.1≠[])(w:Wl E x r p q s):(p,s)∈A q:=by
 induction w with
 |z=>exact h.z
 |s w he h1 h2 b=>
   rename_i p q e;refine hc q ?_ _ b _ he ?_
   .have:=vt w.le.2 h2;have:=bp.mpr (B _ he);omega
   simp_all
set_option tactic.hygienic false
def Td(h:Sw E x r A)(ho:∀e∈E,e.2.2.2∈jc)(q:Nat):Z (A q)<=(Z x+1) * 6:=by
 have hs:∀a∈A q,a∈(aQ _).flatMap λp=>jc.map λs=>(p,s):=λa ha=>by
  have w:=h.s q a ha;refine eB.mpr ⟨_,bu.mpr (t6 w.le.1),bX.mpr ⟨_,w.st ho,W⟩⟩
 refine aa ((h.n q).length_le_of_subset λa ha=>hs a ha) ?_;simp[List.map_const']
end
section
variable{F:List Ed}{x:List Nat}{r:List Int}{k:Nat}{A:Nat->List (Nat×aW)}{SL:List Dat}{a:Nat×aW}
def QI{α g:Type}{f:α->g}{l:List α}{lo hi:Option Int}:cutD (l.map f) lo hi=(cutD l lo hi).map f:=by
 unfold cutD;simp
def WO{α:Type}{l:List α}(h:i<=Z l):cutD l (Y (i:Nat)) (Y ((i+c:Nat):Int))=(l.drop i).take c:=by
 unfold cutD;rw[HT.Fi,HT.Fi,dY h];by_cases q:i+c<=Z l
 .simp_all
 .rw[NN (ax (cz q)),dq (by simp),dq (by rw[eC];exact kX (ws h) (cz q))]
noncomputable abbrev oB(a:Nat×aW):Dat:=.tup [.int (a.1:Nat),.str a.2]
theorem RB:∀l:List (Nat×aW),eU 20 (l.map oB)=U
 |[]=>rfl
 |a::l=>by
   show(iY 20 (oB a) && eU 20 (l.map oB))=U;rw[RB l];rfl
def Sf(a b:Nat×aW):pE (oB a) (oB b)=decide (a=b):=by
 show((((a.1):Int) == ((b.1))) && ((a.2 == b.2) && U))=_;rw[gR,wD,ag,beq_iff_eq,beq_iff_eq,decide_eq_true_eq,Prod.ext_iff];exact⟨λh=>⟨uS h.1,h.2⟩,λh=>⟨congrArg _ h.1,h.2⟩⟩
def Vs(b:Nat×aW)(l:List (Nat×aW)):jM .nin (oB b) (.lst (l.map oB))=Y (!decide (b∈l)):=by
 show(if(iY 20 _ && eU 20 _)=U then Y (!(l.map oB).any λy=>pE y _)else L)=_;rw[RB,List.any_map];refine congrArg (λt=>Y _) ?_;rw[wD,oz,decide_eq_true_eq];constructor
 .rintro⟨y,c,h⟩;have h:pE _ (oB b)=U:=h;rw[Sf,decide_eq_true_eq]at h;exact h▸c
 .exact λh=>⟨b,h,by show pE _ (oB b)=U;rw[Sf,decide_eq_true_eq]⟩
structure SR(SL:List Dat)(n k:Nat)(A:Nat->List (Nat×aW)):Prop where
 l:Z SL=n+1
 r:∀q,k<=q->q<=n->SL[q]?=Y (.lst ((A q).map oB))
abbrev EI(F:List Ed)(x:List Nat)(r:List Int)(SL:List Dat)(z4 O z6 g C I B:g_):cY:=[Y (.lst (F.map cH),J),Y (sT x,J),Y (tI r,J),Y (.lst SL,U),z4,O,z6,g,C,I,B]
def Oz{ρ:ic}{a b c d:Ex}{q:Nat}{B O g I:Bool}(P:q<=Z r)(h1:bf C a ρ=Y (tI r,B))(h2:bf C b ρ=Y (.int (q:Nat),O))(h3:bf C c ρ=Y (.int ((q+Z e.2.2.1:Nat):Int),g))(R:bf C d ρ=Y (tI e.2.2.1,I)) :
  bf C (.cmp .eq (.sl a (Y b) (Y c)) d) ρ=Y (.bl (mz r q e),J):=by
 refine fW (x':=tI ((r.drop q).take e.2.2.1.length)) (f:=J) ?_ R ?_
 .rw[BY,h1];show bc (vy _) _=_;rw[h2];show bc (vy (bf C c ρ)) _=_;rw[h3];show Y (Dat.tup (cutD (r.map _) (Y _) (Y _)),J)=_;rw[QI,WO P]
 .rw[ZA (si 19 _) (si 19 _),yn];exact congrArg Y (decide_eq_decide.mpr ⟨λh=>dF.mpr h.symm,λh=>(dF.mp h).symm⟩)
def Yb(hx:Z x<=6000)(ha:a.1<=Z x)(I:q<Z r)(he:wG e)(hn:∀q,Z (A q)<=100000)(h:SR SL r.length (q+1) A) :
  ∃ρ1,eV U [7] (cH e) (EI F x r SL (Y (.int (q:Nat),J)) (Y (.int (a.1:Nat),J)) (Y (.str a.2,J)) P R S B)=Y ρ1/\Go C lbW ρ1 λo=>∃O,o=.nx O/\∃SL P R S B,O=EI F x r SL (Y (.int (q:Nat),J)) (Y (.int (a.1:Nat),J)) (Y (.str a.2,J)) P R S B/\SR SL r.length (q+1) (AJ x r q a e A):=by
 refine⟨_,W,?_⟩;refine bL (dv (fj W (gn W (i8 _)) W) W) ?_;refine bL (dv (d:=oB (yU a e)) (by rw[zF,gf,fj W (gn W (len_T (aa he.t (by decide)))) W];rfl) W) ?_;have w:(gd x r q a e && !decide (yU a e∈A _))=J->SR SL _ _ (AJ x r q a e A):=λc=>by unfold AJ;rwa[if_neg (by rw[c];decide)]
 have y:bf C (.and (.cmp .eq (.ix (.v 7) (.e_ 0)) (.v 6)) (.cmp .eq (.sl (.v 2) (Y (.v 4)) (Y (.v 8))) (.ix (.v 7) (.e_ 2)))) (full (EI F x r SL (Y (.int (q),J)) (Y (.int (a.1),J)) (Y (.str a.2,J)) (Y (cH e,J)) (Y (.int ((q+Z e.2.2.1)),J)) (Y (oB (yU a e),J)) B))=Y (.bl (e.1 == a.2 && mz r q e),J):=by
  rw[eW (fW W rfl WD)];cases e.1 == a.2
  .rfl
  .exact Oz (ax I) W rfl rfl rfl
 refine bL (dv y W) ?_;by_cases c1:(e.1 == a.2 && mz r q e)=U
 .have b:=vt (ax I) ((ag _ _▸c1).2);rw[c1];show Go C _ (EI F x r SL (Y (.int _,J)) (Y (.int _,J)) (Y (.str _,J)) (Y _) (Y (.int ((q+Z e.2.2.1:Nat)),J)) (Y (oB _,J)) (Y _)) _;generalize f:EI F x r SL (Y (.int _,J)) (Y (.int _,J)) (Y (.str _,J)) (Y _) (Y (.int _,J)) (Y (oB _,J)) (Y _)=ρ;have g:=h.r _ (jD (bp.mpr he.c) _) b
  have G:bf C (.cmp .nin (.v 9) (.ix (.v 3) (.v 8))) (full ρ)=Y (.bl (!decide (yU a e∈A (q+Z e.2.2.1))),J):=by
   rw[<-f];exact fW W (tM W rfl (j3 g)) (Vs _ _)
  have j:bf C (.and (.v 10) (.and (.cmp .eq (.sl (.v 1) (Y (.v 5)) (Y (.ix (.v 9) (.e_ 0)))) (.ix (.v 7) (.e_ 1))) (.cmp .nin (.v 9) (.ix (.v 3) (.v 8))))) (full ρ)=Y (.bl (pre x a.1 e && !decide (yU a e∈A (q+Z e.2.2.1))),J):=by
   rw[eW (by rw[<-f];rfl),eW (by rw[<-f];exact Dp (aa hx (by decide)) ha W rfl rfl rfl)];cases pre x _ e
   .rfl
   simp_all
  cases c2:(pre x _ e && !decide (yU a e∈A _))with
  |false=>
    rw[c2]at j;refine lX j (bw ⟨_,W,SL,_,_,_,_,f.symm,w ?_⟩);rwa[show gd x r q a e=pre x _ e by show((e.1 == a.2 && mz r q e) && pre x _ e)=_;rw[c1,nN]]
  |true=>
    rw[c2]at j
    have u:tL SL.length ((q+Z e.2.2.1:Nat))=Y (q+Z e.2.2.1):=by
     unfold tL;rw[if_pos (fB _),if_pos (by rw[h.l];exact oY.mpr (bb b))];exact congrArg Y (t7 _)
    have E:pB C (.RO 3 (.v 8) (.v 9)) ρ=Y (.nx (EI F x r (SL.set (q+Z e.2.2.1) (.lst ((A (q+Z e.2.2.1)++[yU a e]).map oB))) (Y (.int (q),J)) (Y (.int (a.1),J)) (Y (.str a.2,J)) (Y (cH e,J)) (Y (.int ((q+Z e.2.2.1)),J)) (Y (oB (yU a e),J)) (Y (.bl U,J)))):=by
     rw[<-f];show kG _ (bc (tL _ _) _)=_;rw[u,bG,g,bG];rw[sG (by grind),dJ];rfl
    refine i9 (J':=λn=>n=EI F x r (SL.set _ (.lst ((A _++[yU a e]).map oB))) (Y (.int _,J)) (Y (.int _,J)) (Y (.str _,J)) (Y _) (Y (.int _,J)) (Y (oB _,J)) (Y _)) j (λ_=>bL E (bw ⟨_,W,W⟩)) (λz=>nomatch z) λn i=>bw ⟨_,W,_,_,_,_,_,i,?_⟩;unfold AJ;rw[if_pos (by rwa[show gd x r q a e=pre x _ e by show((e.1 == a.2 && mz r q e) && pre x _ e)=_;rw[c1,nN]])];refine⟨by rw[wA];exact h.l,λm h1 h2=>?_⟩;show _=Y (Dat.lst ((if m=q+(Z e.2.2.1) then A _++[yU a e]else A m).map oB));by_cases c:m=q+Z e.2.2.1
    .rw[c,iD (by rw[h.l];exact bb b),if_pos W]
    .rw[dI (cu c),if_neg c];exact h.r m h1 h2
 .rw[Nl]at c1;rw[c1];refine lX ((eW W).trans (if_neg (by decide))) (bw ⟨_,W,SL,_,_,_,_,W,w ?_⟩);show(((e.1 == a.2 && mz r q e) && pre x _ e) && _)=J;rw[c1];rfl
end
section
variable{E F:List Ed}{x:List Nat}{r:List Int}{q:Nat}{e:Ed}{A:Nat->List (Nat×aW)}{a:Nat×aW}{A0:List (Nat×aW)}
def Zt{α:Type}{st:Sx}{one:Bool}{O:List Nat}{body g:List Sx}{V:α->Dat}{xs:List α}{ρ ρ0:cY}{Q:Out->Prop}{I:List α->cY->Prop}(P:pB C st ρ=i7 (eV one O) (dZ C body) (xs.map V) ρ0)(S:I [] ρ0)
  (hs:∀(us:List α)x(vs:List α)ρ,xs=us++x::vs->I us ρ->∃ρ1,eV one O (V x) ρ=Y ρ1/\Go C body ρ1 λo=>∃B,o=.nx B/\I (us++[x]) B)(K:∀R,I xs R->Go C g R Q):Go C (st::g) ρ Q:=by
 obtain⟨R,h1,h2⟩:=vM xs [] _ hs S;exact bL (by rwa[P]) (K _ h2)
structure Ic(E F:List Ed)(x:List Nat)(r:List Int)(q:Nat)(A0:List (Nat×aW))(A:Nat->List (Nat×aW)):Prop where
 w:Sw E x r A
 c:∀k,k<q->∀a∈A k,∀e∈F,Cy x r A k a e
 e:A q=A0
def Qm(h:Ic E F x r q A0 A)(ha:a∈A0)(he:e∈E)(hc:e.2.2.1≠[]):Ic E F x r q A0 (AJ x r q a e A):=by
 have ne:∀k,k<=q->AJ x r q a e A k=A k:=λk hk=>Yf (a9 (dW hk (bp.mpr hc)));refine⟨Oa h.w (h.w.s q a (h.e▸ha)) he,λk hk b hb d hd=>?_,(ne q (ak _)).trans h.e⟩;rw[ne k (ax hk)]at hb;exact zK (h.c k hk b hb d hd)
def Yc(hF:∀e∈F,e∈E)(ho:∀e∈E,e.2.2.2∈jc)(ok:∀e∈F,wG e)(hx:Z x<=6000)(hq:q<Z r)(ha:a∈A0)(h:SR S r.length (q+1) A)(hi:Ic E F x r q A0 A)(hu:∀a∈us,∀e∈F,Cy x r A q a e) :
  ∃ρ1,eV J [5,6] (oB a) (EI F x r S (Y (.int (q:Nat),J)) z5 z6 O P R B)=Y ρ1/\Go C lbV ρ1 λo=>∃ρ2,o=.nx ρ2/\∃S A z5 z6 O P R B,ρ2=EI F x r S (Y (.int (q:Nat),J)) z5 z6 O P R B/\SR S r.length (q+1) A/\Ic E F x r q A0 A/\∀b∈us++[a],∀e∈F,Cy x r A q b e:=by
 refine⟨_,W,?_⟩;refine iy (I:=λvs t=>∃S A O P R B,t=EI F x r S (Y (.int (q),J)) (Y (.int (a.1),J)) (Y (.str a.2,J)) O P R B/\SR S _ _ A/\Ic E F x r q A0 A/\(∀b∈us,∀e∈F,Cy x r A q b e)/\∀e∈vs,Cy x r A q a e) (by rfl) ⟨S,A,O,P,R,B,W,h,hi,hu,λ_ h=>nomatch h⟩ ?_ ?_
 .rintro vs e ws _ j ⟨S,A,O,P,R,B,rfl,h,hi,hu,f⟩;have he:e∈F:=by rw[j];simp
  refine ac λ_ p=>?_;obtain⟨ρ1,h1,o,h2,ρ2,rfl,g,l,m,n,i,rfl,h3⟩:=Yb hx (hi.w.s q a (hi.e▸ha)).le.1 hq (ok e he) (λk=>aa (Td hi.w ho k) (iF (Nat.mul_le_mul_left 6 hx))) h;refine p ?_;refine⟨_,h1,_,h2,_,W,g,_,l,m,n,i,W,h3,Qm hi ha (hF e he) (ok e he).c,λb hb d hd=>zK (hu b hb d hd),λd hd=>?_⟩
  rcases au.mp hd with hd|hd
  .exact zK (f d hd)
  .rw[az.mp hd];exact WL
 .rintro _ ⟨S,A,O,P,R,B,rfl,h,hi,hu,f⟩;refine bw ⟨_,W,S,A,_,_,O,P,R,B,W,h,hi,λb hb d hd=>?_⟩
  rcases au.mp hb with hb|hb
  .exact hu b hb d hd
  .rw[az.mp hb];exact f d hd
def Mi(h:SR g n k A)(hk:k<=q)(B:q<=n)(he:bf C ke (full (EI F x r g z4 O z6 P R S I))=Y (.int (q:Nat),f)) :
  pB C (.XH one ts 3 ke body) (EI F x r g z4 O z6 P R S I)=i7 (eV one ts) (dZ C body) ((A q).map oB) (EI F x r (g.set q .any) z4 O z6 P R S I)/\SR (g.set q .any) n (q+1) A:=by
 have b:tL g.length ((q))=Y q:=by
  unfold tL;rw[if_pos (fB _),if_pos (by rw[h.l];exact oY.mpr (bb B))];simp
 refine⟨?_,by rw[wA];exact h.l,λc h1 h2=>?_⟩
 .show bc _ _=_;rw[he];show bc (tL _ _) _=_;rw[b,bG,h.r q hk B];rfl
 .rw[dI (a9 h1)];exact h.r c (ax (ao hk h1)) h2
def stepT(hF:∀e∈F,e∈E)(ho:∀e∈E,e.2.2.2∈jc)(ok:∀e∈F,wG e)(hx:Z x<=6000)(hq:q<Z r)(h:SR S r.length q A)(hw:Sw E x r A)(hc:∀k,k<q->∀a∈A k,∀e∈F,Cy x r A k a e) :
  ∃ρ1,eV U [4] (.int (q:Nat)) (EI F x r S z4 O z6 P R z9 B)=Y ρ1/\Go C lbT ρ1 λo=>∃ρ2,o=.nx ρ2/\∃S A z4 O z6 P R z9 B,ρ2=EI F x r S z4 O z6 P R z9 B/\SR S r.length (q+1) A/\Sw E x r A/\∀k,k<q+1->∀a∈A k,∀e∈F,Cy x r A k a e:=by
 refine⟨_,W,?_⟩;obtain⟨g,i⟩:=Mi (ke:=.v 4) (z4:=Y (.int _,J)) h (ak _) (ax hq) W;refine Zt (I:=λus l=>∃S f O z6 P R z9 B,l=EI F x r S (Y (.int _,J)) O z6 P R z9 B/\SR S _ _ f/\Ic E F x r q _ f/\∀b∈us,∀e∈F,Cy x r f q b e) g ⟨_,A,O,z6,P,R,z9,B,W,i,⟨hw,hc,W⟩,λ_ h=>nomatch h⟩ ?_ ?_
 .rintro us a vs _ j ⟨S,f,O,z6,P,R,z9,B,rfl,h,hi,hb⟩;exact Yc hF ho ok hx hq (by rw[j];simp) h hi hb
 .rintro _ ⟨S,f,O,z6,P,R,z9,B,rfl,h,hi,hb⟩;refine bw ⟨_,W,S,f,_,O,z6,P,R,z9,B,W,h,hi.w,λk hk b d e he=>?_⟩
  rcases gH k q with c|c
  .exact hi.c k c b d e he
  .have:k=q:=aD (aV hk) c
   subst this;rw[hi.e]at d;exact hb b d e he
def Za:List Sx:=[(.ifs (.and (.cmp .eq (.v 5) (.blt .len [(.v 1)])) (.cmp .isin (.v 6) (.lst [(.con (.str jF)),(.con (.str ji)),(.con (.str lr))]))) [(.ret (.con (.bl U)))] [])]
def Wg(s:aW):jM .isin (.str s) (.lst [.str jF,.str ji,.str lr])=Y (decide (s∈mD)):=by
 show Y ((jF == s) || ((ji == s) || ((lr == s) || J)))=_;refine congrArg Y ?_
 grind
theorem Sd(O:Z x<=6000):∀(l:List (Nat×aW))(B z6:g_),∃o,i7 (eV J [5,6]) (dZ C Za) (l.map oB) (EI F x r P z4 B z6 R S z9 I)=Y o/\((∃a∈l,a.1=Z x/\a.2∈mD)->o=.rt (.bl U) J)/\((¬ ∃a∈l,a.1=Z x/\a.2∈mD)->∃ρ,o=.nx ρ)
 |[],B,z6=>⟨_,W,λ⟨_,h,_⟩=>(nomatch h),λ_=>⟨_,W⟩⟩
 |a::l,B,z6=>by
   have f :=len_T (aa O (by decide))
   have d:bf C (.and (.cmp .eq (.v 5) (.blt .len [(.v 1)])) (.cmp .isin (.v 6) (.lst [(.con (.str jF)),(.con (.str ji)),(.con (.str lr))]))) (full (EI F x r P z4 (Y (.int (a.1),J)) (Y (.str a.2,J)) R S z9 I))=Y (.bl (decide (a.1=Z x) && decide (a.2∈mD)),J):=by
    rw[eW (x:=decide (a.1=Z x)) (fW W (gn W f) (by
     exact congrArg Y (decide_eq_decide.mpr (by omega))))]
    cases decide (a.1=Z x)
    .rfl
    .exact fW W rfl (Wg a.2)
   by_cases c:a.1=Z x/\a.2∈mD
   .rw[decide_eq_true c.1,decide_eq_true c.2]at d;refine⟨.rt (.bl U) J,?_,λ_=>W,λh=>absurd ⟨a,jL,c⟩ h⟩;obtain⟨o,h1,rfl⟩:Go C Za (EI F x r P z4 (Y (.int (a.1),J)) (Y (.str a.2,J)) R S z9 I) λo=>o=.rt (.bl U) J:=BJ d (wU W) W;show bc (dZ C Za (EI F x r P z4 (Y (.int (a.1),J)) (Y (.str a.2,J)) R S z9 I)) _=_;rw[h1];rfl
   .have g:(decide (a.1=Z x) && decide (a.2∈mD))=J:=by
     rw[<-Bool.decide_and];exact decide_eq_false c
    rw[g]at d;obtain⟨o,h1,h2,h3⟩:=Sd O l (Y (.int (a.1),J)) (Y (.str a.2,J));obtain⟨k,i,rfl⟩:Go C Za (EI F x r P z4 (Y (.int (a.1),J)) (Y (.str a.2,J)) R S z9 I) λo=>o=.nx (EI F x r P z4 (Y (.int (a.1),J)) (Y (.str a.2,J)) R S z9 I):=lX d (bw W);refine⟨o,?_,λ⟨b,hb,h⟩=>h2 ?_,λh=>h3 λ⟨b,hb,j⟩=>h ⟨b,jZ _ hb,j⟩⟩
    .rw[aA,zv W i];exact h1
    grind
end
section
variable{E F:List Ed}{x:List Nat}{r:List Int}
theorem Bt:∀ds:List Dat,qr (oF C 1 U ρ0 [] (.lst [])) ds=Y (br ds.length (.lst []),U)
 |[]=>rfl
 |d::ds=>by
   show bc (Y (Y (Dat.lst [],U))) (λo=>(qr (oF C 1 U ρ0 [] (.lst [])) ds).map _)=_;rw[Bt ds];rfl
abbrev A1:Nat->List (Nat×aW):=λq=>if q=0 then [(0,jF)]else []
set_option tactic.hygienic true in
def OP{n:Nat}(B:∀e,e∈F↔e∈E)(ge:gE E)(ok:∀e∈F,wG e)(P:Z x<=6000)(O:Z r<=999):∃b,Cn D (n+1) 37 [.lst (F.map cH),sT x,tI r]=Y (.bl b,J)/\(b=U↔Nu E x r):=by
 suffices h:Go _ _ _ λo=>∃b,o=.rt (.bl b) J/\(b=U↔Nu E x r) by
  refine ac λ_ K=>?_;obtain⟨_,h1,b,rfl,h2⟩:=h;refine K ?_;exact⟨b,fi W h1,h2⟩
 generalize Cn D n=C;show Go C (.set 3 (.comp 1 U [] (.rng [(.bin _ (.blt _ _) _)]) [] _)::.RO 3 _ (.tup _)::.loop U _ (.rng [(.blt _ _)]) _::.XH J _ 3 (.blt _ _) Za::.ret (.con _)::[]) _ _;refine eM (mQ (qd (fj (gn W (i8 _)) W rfl) (bb O)) (by rw[aB,a8];exact ao O (by decide)) (Bt _)) ?_;rw[aB,a8]
 have l:tL (br (Z r+1) (Dat.lst [])).length ((0:Nat))=Y 0:=by
  unfold tL;simp
 have s1:pB C (.RO 3 (.e_ 0) (.tup [(.e_ 0),(.con (.str jF))])) (EI F x r (br (Z r+1) (.lst [])) L L L L L L L)=Y (.nx (EI F x r ((br (Z r+1) (.lst [])).set 0 (.lst [oB (0,jF)])) L L L L L L L)):=by
  show kG _ (bc (tL (br _ _).length ((0:Nat))) _)=_;rw[l];rfl
 have G:SR ((br (Z r+1) (.lst [])).set 0 (.lst [oB (0,jF)])) r.length 0 A1:=by
  refine⟨by simp,λq _ f=>?_⟩;by_cases c:q=0
  .subst c;rfl
  .rw[dI (cu c),cG,if_pos (t6 f)]
   simp_all
 have H:Sw E x r A1:=by
  refine⟨by simp,λq a ha=>?_,λq=>?_⟩
  .have ha:a∈(if q=0 then [(0,jF)]else []):=ha;split at ha
   .rename_i c;rw[az.mp ha,c];exact .z
   .cases ha
  .show(if q=0 then [(0,jF)]else []).Nodup;split<;>simp
 refine bL s1 (iy (I:=λus R=>∃M A Q i N m p t d,R=EI F x r M Q i N m p t d/\SR M _ us.length A/\Sw E x r A/\∀k,k<Z us->∀a∈A k,∀e∈F,Cy x r A k a e) (by rw[rH,qd (gn W (i8 _)) (cU O)];rfl) ⟨_,A1,L,L,L,L,L,L,L,W,G,H,λ_ h=>nomatch h⟩ ?_ ?_)
 .rintro us q vs _ S ⟨M,A,Q,i,N,m,p,t,d,rfl,h,j,hc⟩;obtain⟨rfl,f⟩:=zU S;rw[aj];exact stepT (λe=>(B e).mp) ge.o ok P f h j hc
 rintro _ ⟨M,A,Q,i,N,m,p,t,d,rfl,h,j,hc⟩;rw[a8]at h hc;obtain⟨y,_⟩:=Mi (ke:=.blt _ [(.v 2)]) h (ak _) (ak _) (gn W (i8 _));obtain⟨o,h1,h2,h3⟩:=Sd P (A _) i N
 have g:(∃a∈A r.length,a.1=Z x/\a.2∈mD)↔Nu E x r:=by
  constructor
  .rintro⟨a,ha,c1,c2⟩;exact⟨_,c2,c1▸j.s _ a ha⟩
  .rintro⟨s,hs,w⟩;exact⟨_,SJ j (λq f a ha e he=>hc q f a ha e ((B e).mpr he)) (λe he=>(ok e ((B e).mpr he)).c) w,W,hs⟩
 by_cases c:∃a∈A r.length,a.1=Z x/\a.2∈mD
 .refine⟨_,yS (by rw[y,h1,h2 c]),U,W,λ_=>g.mp c,λ_=>W⟩
 .obtain⟨R,u⟩:=h3 c;exact bL (by rw[y,h1,u]) (iJ W ⟨J,W,⟨(λz=>nomatch z),λz=>absurd (g.mpr z) c⟩⟩)
end
inductive Rr (E:List Ed) (r:List Int):Nat->aW->Prop
 |z:Rr E r 0 jF
 |s {q:Nat} {e:Ed}:Rr E r q e.1->e∈E->mz r q e=U->Rr E r (q+Z e.2.2.1) e.2.2.2
variable{E:List Ed}{x:List Nat}{r:List Int}
def Wl.rr{p q:Nat}{s:aW}(w:Wl E x r p q s):Rr E r q s:=by
 induction w with
 |z=>exact .z
 |s w he h1 h2 a=>exact .s a he h2
abbrev Cm:=Nat->aW->Option (Option Ed)
structure Cv(E:List Ed)(r:List Int)(G:Cm):Prop where
 z:∀s o,G 0 s=Y o->s=jF/\o=L
 y:G 0 jF=Y L
 a:∀p s e,G p s=Y (Y e)->e∈E/\e.2.2.2=s/\∃q,q+Z e.2.2.1=p/\mz r q e=U/\(G q e.1).isSome=U
 n:∀p s,0<p->G p s≠Y L
def HV(h:mz r q e=U):r.take (q+Z e.2.2.1)=r.take q++e.2.2.1:=by
 rw[Ai,dF.mp (of_decide_eq_true h)];simp
theorem GL:∀{S:List Ed}{s:aW}{e:Ed},Ch s S e.1->Ch s (S++[e]) e.2.2.2
 |[],_,_,h=>⟨h.symm,W⟩
 |_::_,_,_,⟨h1,h2⟩=>⟨h1,GL h2⟩
def QH{G:Cm}(h:Cv E r G)(ok:∀e∈E,e.2.2.1≠[])(hp:0<p)(hs:(G p s).isSome=U):∃e,G p s=Y (Y e)/\e∈E/\e.2.2.2=s/\Z e.2.2.1<=p/\0<Z e.2.2.1/\mz r (p - Z e.2.2.1) e=U/\(G (p - Z e.2.2.1) e.1).isSome=U:=by
 obtain⟨o,ho⟩:=eX.mp hs
 cases o with
 |none=>exact absurd ho (h.n p s hp)
 |some e=>
   obtain⟨he,rfl,q,rfl,b,hi⟩:=h.a p s e ho;refine⟨e,ho,he,W,gp _ _,bp.mpr (ok e he),?_,?_⟩
   .simp_all
   simp_all
def mK{α:Type}{G:Nat->aW->Option α}{p:Nat}{s:aW}{v:α}:CI G p s v p s=Y v:=by grind
def nR{α:Type}{G:Nat->aW->Option α}{p q:Nat}{s t:aW}{v:α}(h:¬(q=p/\t=s)):CI G p s v q t=G q t:=by
 show(if q=p then(λr=>if r=s then Y v else G p r)else G q) t=_;by_cases c:q=p
 .simp_all
 .rw[if_neg c]
def AF{α:Type}{G:Nat->aW->Option α}{p q:Nat}{s t:aW}{v:α}(h:q≠p):CI G p s v q t=G q t:=nR λz=>h z.1
def ES{α:Type}{G:Nat->aW->Option α}{p q:Nat}{s t:aW}{v:α}(h:(G q t).isSome=U):(CI G p s v q t).isSome=U:=by
 by_cases c:q=p/\t=s
 .rw[c.1,c.2,mK];rfl
 .rwa[nR c]
def WM{G:Cm}(h:Cv E r G)(he:e∈E)(ok:e.2.2.1≠[])(B:mz r q e=U)(hs:(G q e.1).isSome=U):Cv E r (CI G (q+Z e.2.2.1) e.2.2.2 (Y e)):=by
 have hl:=bp.mpr ok;refine⟨λs o ho=>?_,?_,λp s i g=>?_,λp s hp ho=>?_⟩
 .rw[AF (a9 (Nat.lt_add_left _ hl))]at ho;exact h.z s o ho
 .rw[AF (by omega)];exact h.y
 .by_cases c:p=q+Z e.2.2.1/\s=e.2.2.2
  .rw[c.1,c.2,mK]at g;cases g;exact⟨he,c.2.symm,q,c.1.symm,B,ES hs⟩
  .rw[nR c]at g;obtain⟨a,b,j,c,d,f⟩:=h.a p s i g;exact⟨a,b,j,c,d,ES f⟩
 .by_cases c:p=q+Z e.2.2.1/\s=e.2.2.2
  .rw[c.1,c.2,mK]at ho;cases ho
  .rw[nR c]at ho;exact h.n p s hp ho
def WN{G:Cm}(h:Cv E r G)(hc:∀q,∀e∈E,(G q e.1).isSome=U->mz r q e=U->(G (q+Z e.2.2.1) e.2.2.2).isSome=U)(w:Rr E r q s):(G q s).isSome=U:=by
 induction w with
 |z=>rw[h.y];rfl
 |s w he hp a=>exact hc _ _ he a hp
def Qj{G:Cm}(h:Cv E r G)(hc:∀q,∀e∈E,(G q e.1).isSome=U->mz r q e=U->(G (q+Z e.2.2.1) e.2.2.2).isSome=U)(B:Nu E x r):∃s∈mD,(G r.length s).isSome=U:=by
 obtain⟨s,hs,w⟩:=B;exact⟨s,hs,WN h hc w.rr⟩
noncomputable def yz:List Int->List Int->Nat
 |a::as,b::bs=>if a=b then yz as bs+1 else 0
 |_,_=>0
theorem Ez:∀c r:List Int,yz c r=Z c↔c <+: r
 |[],_=>by simp[yz]
 |_::_,[]=>by simp[yz]
 |a::as,b::bs=>by
   unfold yz;by_cases h:a=b
   .rw[if_pos h,bM,Nat.succ_inj,Ez as bs];simp[h]
   .simp[h]
abbrev G1(c r:List Int)(p k:Nat):cY:=[Y (tI c,J),Y (tI r,J),Y (.int (p:Nat),J),Y (.int (k:Nat),J)]
abbrev XA(C:Fs)(ρ:cY):Option Bool:=(bf C c10 (full ρ)).bind λx=>fV x.1
def RV(h:c[k]?=Y a):x5 (tI c) (.int (k:Nat))=Y (.int a):=j3 (by simp_all)
theorem RT{C:Fs}{c r:List Int}{p:Nat}:∀(m fuel k:Nat),k+m=Z c->m<fuel->p5 (XA C) (dZ C SN) fuel (G1 c r p k)=Y (.nx (G1 c r p (k+yz (c.drop k) (r.drop (p+k)))))
 |m,0,k,_,h=>absurd h (jO _)
 |m,fuel+1,k,hk,hf=>by
   have h1:bf C (.cmp .lt (.v 3) (.blt .len [.v 0])) (full (G1 c r p k))=Y (.bl (decide ((k:Int)<(c.length))),J):=fW W (gn W (i8 c)) W;have l:bf C (.bin .add (.v 2) (.v 3)) (full (G1 c r p k))=Y (.int ((p+k):Int),J):=fj W rfl rfl;have h2:bf C (.cmp .lt (.bin .add (.v 2) (.v 3)) (.blt .len [.v 1])) (full (G1 c r p k))=Y (.bl (decide (((p+k:Nat):Int)<(r.length))),J):=fW l (gn W (i8 r)) W
   have g:∀{f:Bool},bf C c10 (full (G1 c r p k))=Y (.bl J,f)->yz (c.drop k) (r.drop (p+k))=0->p5 (XA C) (dZ C SN) (fuel+1) (G1 c r p k)=Y (.nx (G1 c r p (k+yz (c.drop k) (r.drop (p+k))))):=λh q=>by
    have hc:XA C (G1 c r p k)=Y J:=by unfold XA;rw[h];rfl
    unfold p5;rw[hc,q];rfl
   cases hc:c.drop k with
   |nil=>
     have:¬((k:Int)<(c.length)):=by simp_all
     rw[decide_eq_false this]at h1;rw[<-hc];exact g (eW h1) (by rw[hc];rfl)
   |cons a y=>
     have n:c[k]?=Y a:=by rw[<-NU,hc];rfl
     have u :=(aN.mp n).1;rw[decide_eq_true (Int.ofNat_lt.mpr u)]at h1
     cases d:r.drop (p+k)with
     |nil=>
       have:¬(((p+k:Nat):Int)<(r.length)):=by have:=List.drop_eq_nil_iff.mp d;omega
       rw[decide_eq_false this]at h2;rw[<-hc,<-d];exact g ((eW h1).trans ((if_pos W).trans (eW h2))) (by rw[hc,d];rfl)
     |cons b o=>
       have s:r[p+k]?=Y b:=by rw[<-NU,d];rfl
       have w :=(aN.mp s).1;rw[decide_eq_true (Int.ofNat_lt.mpr w)]at h2;have h3:bf C (.cmp .eq (.ix (.v 0) (.v 3)) (.ix (.v 1) (.bin .add (.v 2) (.v 3)))) (full (G1 c r p k))=Y (.bl (decide (a=b)),J):=fW (tM W rfl (RV n)) (tM W l (RV s)) W;have e:=(eW h1).trans ((if_pos W).trans ((eW h2).trans ((if_pos W).trans h3)));by_cases q:a=b
       .rw[decide_eq_true q]at e;obtain⟨i,rfl⟩:∃i,m=i+1:=⟨m - 1,aD (iF (ay m 1)) (iF (ar m 1 (kX u (ae hk.symm))))⟩
        have t:=RT (C:=C) (c:=c) (r:=r) (p:=p) i fuel (k+1) (aD (iF (ae hk)) (iF (ae hk.symm))) (aV hf);rw[<-Ri,hc,<-iS,<-Ri,d]at t;have j:XA C (G1 c r p k)=Y U:=by unfold XA;rw[show bf C c10 (full (G1 c r p k))=_ from e];rfl
        unfold p5;rw[j,bG,if_pos W];refine Eq.trans t ?_;show Y (Out.nx (G1 c r p (k+1+yz y o)))=Y (Out.nx (G1 c r p (k+if a=b then yz y o+1 else 0)));rw[if_pos q,iS,C4 1]
       .rw[decide_eq_false q]at e;rw[<-hc,<-d];exact g e (by rw[hc,d];exact if_neg q)
def UJ{c:List Int}(hc:Z c<=1000):Cn D (n+1) 10 [tI c,tI r,.int (p:Nat)]=Y (.int (yz c (r.drop p):Nat),J):=by
 refine nE W ?_;generalize Cn D n=C;have h:=RT (C:=C) (r:=r) (p:=p) _ kH 0 (fH _) (ao hc (by decide));rw[fH]at h;exact bL (dv W rfl) (bL (by rwa[yO]) ⟨_,W,W⟩)
noncomputable instance:VD Ed:=⟨cH,oD⟩
instance {α:Type} [VD α]:VD (Option α):=⟨vD,λo=>match o with
 |none=>rfl
 |some k=>VD.i k⟩
structure Q3(E:List Ed)(r:List Int)(P:Nat->aW->Prop)(G:Cm):Prop where
 c:Cv E r G
 d:∀e∈E,∀q,P q e.1->(G q e.1).isSome=U->mz r q e=U->(G (q+Z e.2.2.1) e.2.2.2).isSome=U
def UM{G:Cm}(h:Q3 E r P G)(he:e∈E)(ok:e.2.2.1≠[])(B:mz r p e=U)(hs:(G p e.1).isSome=U)(O:∀q t,P q t->q<=p):Q3 E r P (CI G (p+Z e.2.2.1) e.2.2.2 (Y e)):=by
 have hl:=bp.mpr ok;refine⟨WM h.c he ok B hs,λb a q h1 h2 h3=>?_⟩;have:=O q _ h1;rw[AF (a9 (dW this hl))]at h2;exact ES (h.d b a q h1 h2 h3)
abbrev Xu(g:List Dat)(es:List Ed)(r:List Int)(p:Nat)(f:Int)(B z6:g_):cY:=[Y (.lst g,U),Y (.lst (es.map cH),J),Y (tI r,J),Y (.int (p:Nat),J),Y (.int f,J),B,z6]
structure Wo(E:List Ed)(r:List Int)(P:Nat->aW->Prop)(p:Nat)(G G':Cm)(us:List Ed):Prop where
 rd:Q3 E r P G'
 o:∀q t,q<=p->G' q t=G q t
 u:∀e∈us,mz r p e=U->(G' (p+Z e.2.2.1) e.2.2.2).isSome=U
def Tv{G:Cm}(hC:∀{c r:List Int} {p:Nat},Z c<=1000->C 10 [tI c,tI r,.int (p:Nat)]=Y (.int (yz c (r.drop p):Nat),J))(he:e∈E)(ok:wG e)(h1:e.1=s)(hp:p<=Z r)(hP:∀q t,P q t->q<=p)(hs:(G p s).isSome=U)(h:CT S r.length R)(B:Wo E r P p G R us) :
  ∃ρ1,eV U [5] (cH e) (Xu S es r p f F z6)=Y ρ1/\Go C Ze ρ1 λo=>∃O,o=.nx O/\∃I R f F z6,O=Xu I es r p f F z6/\CT I r.length R/\Wo E r P p G R (us++[e]):=by
 refine⟨_,W,?_⟩;subst h1;have hl:=bp.mpr ok.c;refine bL (dv ((wa W rfl rfl).trans (hC (aa ok.k (by decide)))) W) (bL (dv (fj W (fj W rfl rfl) W) W) ?_);generalize (if f<((p)+(yz _ _))then((p:Int)+(yz _ _))else f)=f';have a:bf C (.cmp .eq (.v 6) (.blt _ [.ix (.v 5) (.e_ 2)])) (full (Xu S es r p f' (Y (cH e,J)) (Y (.int (yz e.2.2.1 (r.drop p)),J))))=Y (.bl (decide (((yz _ _):Int)=(e.2.2.1.length))),J):=fW W (gn W (i8 _)) W;have j:decide (((yz _ _):Int)=(e.2.2.1.length))=mz r p e:=decide_eq_decide.mpr (Int.ofNat_inj.trans (Ez _ _));rw[j]at a;by_cases q:mz r p e=U
 .rw[q]at a;have hlen:=(of_decide_eq_true q).length_le;rw[eC]at hlen;obtain⟨I,m1,m2⟩:=Bn (i:=0) (ρ:=Xu S es r p f' (Y (cH e,J)) (Y (.int (yz _ _),J))) (v:=Y e) (p:=p+Z e.2.2.1) (ke:=.bin .add (.v 3) (.v 6)) (xi:=.ix (.v 5) (.e_ 3)) (xe:=.v 5) h (kX (ad hp) hlen) ok.o W rfl (fj W rfl (by rw[((Ez _ _).mpr (of_decide_eq_true q))];rfl)) W;refine i9 (J':=λρ=>ρ=Xu I es r p f' (Y _) (Y (.int (yz _ _),J))) a (λ_=>bL m1 (bw ⟨_,W,W⟩)) (λz=>nomatch z) λl z=>bw ⟨_,W,I,_,f',_,_,z,m2,UM B.rd he ok.c q (by rwa[B.o p _ (ak _)]) hP,λm t g=>(AF (a9 (dW g hl))).trans (B.o m t g),λd hd b=>?_⟩
  rcases au.mp hd with hd|hd
  .exact ES (B.u d hd b)
  .rw[az.mp hd,mK];rfl
 .rw[iX.mpr q]at a;refine lX a (bw ⟨_,W,S,R,f',_,_,W,h,B.rd,B.o,λd hd b=>?_⟩)
  rcases au.mp hd with hd|hd
  .exact B.u d hd b
  .rw[az.mp hd]at b;exact absurd b q
def ZJ:Cn D (k+1) (11+CK) ds=exL (Cn D k) 4 7 b11 ds:=rfl
def UD{G:Cm}(he:∀e∈es,e∈E/\wG e/\e.1=s)(hp:p<=Z r)(O:∀q t,P q t->q<=p)(hs:(G p s).isSome=U)(h:CT S r.length G)(F:Q3 E r P G) :
  ∃B R f,Cn D (k+2) (11+CK) [.lst S,.lst (es.map cH),tI r,.int (p:Nat)]=Y (.tup [.int f,.lst B],J)/\CT B r.length R/\Wo E r P p G R es:=by
 rw[ZJ];have d:∀{c r:List _}{p:Nat},Z c<=1000->Cn D (k+1) 10 [tI c,tI r,.int (p)]=Y (.int (yz c _),J):=λh=>UJ h;generalize Cn D _=C at d
 have g:Go C b11 [Y (.lst S,U),Y (.lst (es.map cH),J),Y (tI r,J),Y (.int (p),J),L,L,L] λo=>∃B R f a v,o=.rl (.int f) (Xu B es r p f a v)/\CT B r.length R/\Wo E r P p G R es:=by
  refine bL (dv W rfl) (iy (I:=λus y=>∃B R f a v,y=Xu B es r p f a v/\CT B _ R/\Wo E r P p G R us) (by rfl) ⟨S,G,p,L,L,W,h,F,λ_ _ _=>W,λ_ h=>nomatch h⟩ ?_ ?_)
  .rintro us e vs _ i ⟨B,R,f,a,v,rfl,w,b⟩;obtain⟨j,l,m⟩:=he e (by rw[i];simp);exact Tv d j l m hp O hs w b
  .rintro _ ⟨B,R,f,a,v,rfl,w,b⟩;exact⟨_,W,B,R,f,a,v,W,w,b⟩
 refine ac λ_ u=>?_;obtain⟨_,n,B,R,f,a,v,rfl,w,b⟩:=g;refine u ?_;refine⟨B,R,f,?_,w,b⟩;show bc (dZ C _ [Y _,Y (.lst _,J),Y _,Y (.int _,J),L,L,L]) ZE=_;rw[n];rfl
end K34E
namespace K34E
open PySem L2 M K34
variable{E:List Ed}{x:List Nat}
def MB{α:Type}[VD α](n:Nat):CT (α:=α) (br n (.dct [] [])++[.dct [] []]) n λ_ _=>L:=by
 refine⟨by simp,λq a=>⟨[],?_,dT,λs=>by simp,λs h=>nomatch h⟩⟩;rw[<-List.replicate_succ',cG,if_pos (t6 a)];rfl
abbrev Km:=Nat->aW->Option (Option Nat)
noncomputable def Y0:Nat->List Nat->Nat
 |a,[]=>a
 |a,b::r=>Y0 (if b<a then b else a) r
def LA:List Nat->Option Nat
 |[]=>L
 |a::r=>Y (Y0 a r)
theorem RN:∀(r:List Nat)(a:Nat),VB (a:Int) (r.map λk:Nat=>(k:Int))=(Y0 a r:Nat)
 |[],_=>rfl
 |b::r,a=>by
   show VB (if(b:Int)<(a)then(b)else(a)) _=_;rw[show(if(b:Int)<(a)then(b:Int)else(a))=((if b<a then b else a:Nat)) by grind];exact RN r _
theorem Lv:∀(r:List Nat)(a:Nat),Y0 a r∈a::r
 |[],a=>jL
 |b::r,a=>by
   show Y0 (if b<a then b else a) r∈_
   rcases aw.mp (Lv r (if b<a then b else a))with h|h
   .rw[h];split<;>simp
   .simp[h]
def PX(h:LA l=Y m):m∈l:=by
 cases l with
 |nil=>cases h
 |cons a r=>cases h;exact Lv r a
def Wh(o:Option Nat):im (vD o)=U:=by cases o<;>rfl
theorem Dl:∀ws:List (Option Nat),(ws.filter NJ).map vD=(ws.filterMap id).map λk:Nat=>Dat.int (k:Nat)
 |[]=>rfl
 |none::r=>Dl r
 |some k::r=>congrArg (Dat.int (k)::·) (Dl r)
theorem LX:∀g:List Nat,yg (g.map λk:Nat=>Dat.int (k:Nat))=Y (g.map λk:Nat=>(k:Int))
 |[]=>rfl
 |k::r=>by show(yg _).map _=_;rw[LX r];rfl
def YZ(g:List Nat):PU (.lst (g.map λk:Nat=>Dat.int (k:Nat)))=Y (vD (LA g),J):=by
 show(yg _).map _=_;rw[LX]
 cases g with
 |nil=>rfl
 |cons a r=>
   show Y (Dat.int (VB (a) (r.map _)),J)=_;rw[RN];rfl
section
variable{G:Km}{p:Nat}{e:Ed}{s:aW}
noncomputable abbrev rE(G:Km)(p:Nat)(e:Ed):Option Nat:=(G (p+Z e.2.1) e.2.2.2).join.map λk=>Z e.2.2.1+k
def Kk(h:CT g m G)(O:p+Z e.2.1<=m)(h1:Z e.2.1<=1000)(B:(G (p+Z e.2.1) e.2.2.2).isSome=U):Cn D (n+1) 16 [cH e,.int (p:Nat),.lst g]=Y (vD (rE G p e),J):=by
 obtain⟨o,B⟩:=eX.mp B;obtain⟨b,a,i2⟩:=tU h O;unfold rE;rw[B];refine nE W ?_;generalize Cn D n=C;refine bL (dv (tM (tM W (fj W (gn W (len_T (aa h1 (by decide)))) W) a) W (Qe i2 B)) (Wh o)) ?_
 cases o with
 |none=>exact iJ W rfl
 |some r=>
   have b2:bf C (.bin .add (.blt _ [.ix (.v 0) (.e_ 2)]) (.v 3)) [Y (cH e),Y (.int (p)),Y (.lst g),Y (.int (r))]=Y (.int _,J):=fj (gn W (i8 _)) W rfl;exact iJ b2 W
abbrev GH(E:List Ed)(x:List Nat)(G:Km)(p:Nat)(s:aW):List Nat:=((Al E s).filter (pre x p)).filterMap (rE G p)
def UG{n:Nat}{es:List Ed}(h:CT g m G)(hp:p<=Z x)(hl:Z es<=1000)(he:∀e∈es,pre x p e=U->Z e.2.1<=1000/\p+Z e.2.1<=m/\(G (p+Z e.2.1) e.2.2.2).isSome=U) :
  Cn D (n+2) 17 [.lst (es.map cH),.str (T x),.int (p:Nat),.lst g]=Y (vD (LA ((es.filter (pre x p)).filterMap (rE G p))),J):=by
 have d:Z (es.filter (pre x p))<=1000:=aa (c8 _ _) hl;have a:=Ks (n:=n) hp hl
 have b:∀e∈es.filter _,Cn D (n+1) 16 [cH e,.int _,.lst g]=Y (vD _,J):=λe m=>by
  obtain⟨h3,f,i⟩:=he e (bJ.mp m).1 (bJ.mp m).2;exact Kk h f h3 i
 refine nE W ?_;generalize Cn D _=C at a b ⊢;generalize es.filter _=fs at d a b ⊢;refine eM (ds:=(fs.map (rE G p)).map vD) ?_ (iJ ?_ W)
 .rw[cF];exact GJ (by show bc (C 15 [.lst _,.str _,.int _]) _=_;rw[a];rfl) d (λ_ _=>Wh _) λe he=>⟨J,b e he⟩
 .rw[show fs.filterMap _=(fs.map (rE G p)).filterMap id by simp];have c2:=uJ (C:=C) (ρ:=[Y (.lst (es.map cH)),Y (.str (T x)),Y (.int (p)),Y (.lst g),Y (.lst ((fs.map (rE G p)).map vD))]) (caps:=[]) (it:=.itv (.v 4)) (c:=.cmp .nisn (.v 0) (.con .non)) NJ W (by simp_all) Wh λo _=>⟨J,by cases o<;>rfl⟩
  rw[Dl]at c2;show bc (bf C (.comp 1 U [] (.itv _) [(.cmp _ _ (.con _))] _) [Y (.lst _),Y (.str _),Y (.int _),Y (.lst g),Y (.lst ((fs.map _).map vD))]) (λy=>PU _)=_;rw[c2];exact YZ _
end
structure Kn(E:List Ed)(x:List Nat)(P:Nat->aW->Prop)(G:Km):Prop where
 w:∀q s k,G q s=Y (Y k)->(q=Z x/\s∈mD)\/∃e∈E,e.1=s/\pre x q e=U/\rE G q e=Y k
 f:∀q s,P q s->fin E x q s->∃k,G q s=Y (Y k)
 d:∀q s,P q s↔(G q s).isSome=U
abbrev Pd(x:List Nat)(p:Nat)(us:List aW):Nat->aW->Prop:=λq s=>(p<q/\q<=Z x/\s∈jc)\/(q=p/\s∈us)
set_option tactic.hygienic true in
def VZ{G:Km}(g:gE E)(h:Kn E x (Pd x p us) G)(hp:p<=Z x)(hs:s∉us)(O:s=lr->kc∈us)
  (B:v=if p=Z x/\s∈mD then Y 0 else LA (GH E x G p s)):Kn E x (Pd x p (us++[s])) (CI G p s v):=by
 have A:¬(G p s).isSome=U:=λz=>by
  rcases(h.d p s).mpr z with z|z
  .exact absurd z.1 (bB _)
  .exact hs z.2
 have l:∀{q t},(G q t).isSome=U->CI G p s v q t=G q t:=λ{q t}z=>nR λc=>A (c.1▸c.2▸z)
 have i:∀{q:Nat}{e:Ed}{k:Nat},rE G q e=Y k->rE (CI G p s v) q e=Y k:=λ{q e k}z=>by
  have:(G (q+Z e.2.1) e.2.2.2).isSome=U:=by
   cases c:G _ _ with
   |none=>simp_all
   |some _=>rfl
  unfold rE;rwa[l this]
 refine⟨λq t k hk=>?_,λq t C hf=>?_,λq t=>?_⟩
 .by_cases c:q=p/\t=s
  .obtain⟨rfl,rfl⟩:=c;rw[mK]at hk;have hk :=bI hk;rw[B]at hk;split at hk
   .rename_i z;exact .inl z
   .obtain⟨e,m,r⟩:=jQ.mp (PX hk);obtain⟨m1,m2⟩:=bJ.mp m;exact .inr ⟨e,(bJ.mp m1).1,by simpa using (bJ.mp m1).2,m2,i r⟩
  .rw[nR c]at hk;exact(h.w q t k hk).imp id λ⟨e,a,b,c,d⟩=>⟨e,a,b,c,i d⟩
 .by_cases c:q=p/\t=s
  .obtain⟨rfl,rfl⟩:=c;rw[mK];by_cases z:q=Z x/\t∈mD
   .exact⟨0,by rw[B,if_pos z]⟩
   .rw[B,if_neg z]
    rcases rC hf with y|⟨e,a,b,c,d⟩
    .exact absurd y z
    .obtain⟨k,hk⟩:=h.f _ _ (by
      by_cases y:e.2.1=[]
      .rw[y,(g.n e a y).2];exact .inr ⟨W,O (b▸(g.n e a y).1)⟩
      .exact .inl ⟨j4 (bp.mpr y),kJ hp c,g.o e a⟩) d
     have m:Z e.2.2.1+k∈GH E x G q t:=jQ.mpr ⟨e,bJ.mpr ⟨bJ.mpr ⟨a,by simpa using b⟩,c⟩,by unfold rE;rw[hk];rfl⟩
     cases y:GH E x G q t with
     |nil=>rw[y]at m;cases m
     |cons j r=>exact⟨_,W⟩
  .rw[nR c];exact h.f q t (C.imp id λz=>⟨z.1,(au.mp z.2).elim id λy=>absurd ⟨z.1,az.mp y⟩ c⟩) hf
 .by_cases c:q=p/\t=s
  .rw[c.1,c.2,mK];exact⟨λ_=>W,λ_=>.inr ⟨W,by simp⟩⟩
  .rw[nR c,<-h.d q t];exact⟨λz=>z.imp id λz=>⟨z.1,(au.mp z.2).elim id λy=>absurd ⟨z.1,az.mp y⟩ c⟩,λz=>z.imp id λz=>⟨z.1,aC _ z.2⟩⟩
noncomputable abbrev Nx:List aW:=["all","let","num","done","in","out"]
abbrev QC(E:List Ed)(x:List Nat)(g:List Dat)(a b:g_):cY:=[Y (kR E,J),Y (.str (T x),J),Y (.lst g,U),a,b]
def Fj(h:Nx=us++lr::vs):kc∈us:=by
 match us,h with
 |[],h=>exact absurd (eD h).1 (by decide)
 |[a],h=>exact absurd (eD (eD h).2).1 (by decide)
 |a::b::l,h=>grind
def Tu{G:Km}(g:gE E)(P:Z x<=1000)(hp:p<=Z x)(O:Nx=us++s::vs)(h:CT R x.length G)(hk:Kn E x (Pd x p us) G) :
  ∃ρ1,eV U [4] (.str s) (QC E x R (Y (.int (p:Nat),J)) z)=Y ρ1/\Go (Cn D (n+2)) B14 ρ1 λo=>∃B,o=.nx B/\∃R G z,B=QC E x R (Y (.int (p:Nat),J)) z/\CT R x.length G/\Kn E x (Pd x p (us++[s])) G:=by
 have hs :=(by decide:∀s∈Nx,s∈jc) s (by rw[O];simp)
 have c :=λm=>by
  have:Nx.Nodup:=by decide
  rw[O]at this;exact(cj.mp this).2.2 s m s jL W
 refine⟨_,W,?_⟩
 have j:=UG (n:=n) (es:=Al E s) h hp (aa (c8 _ _) (aa g.l (by decide))) λe he b=>by
  obtain⟨h1,h2⟩:=bJ.mp he;have h2:e.1=s:=by simpa using h2
  refine⟨g.t e h1,kJ hp b,(hk.d _ _).mp ?_⟩;by_cases y:e.2.1=[]
  .rw[y,(g.n e h1 y).2];exact .inr ⟨W,Fj (by rw[O,<-h2,(g.n e h1 y).1])⟩
  .exact .inl ⟨j4 (bp.mpr y),kJ hp b,g.o e h1⟩
 have u:Cn D (n+2) 2 _=Y (.bl (decide _),J):=Kl hs;generalize Cn D _=C at j u ⊢
 have F:bf C (.cmp .eq (.v 3) (.blt _ [.v 1])) (full (QC E x R (Y (.int _,J)) (Y (.str s,J))))=Y (.bl (decide (p=Z x)),J):=fW W (gn W (len_T (aa P (by decide)))) (by
  show Y (decide _)=_
  rw[decide_eq_decide.mpr (Int.ofNat_inj)])
 obtain⟨A,H⟩:=Xh F ((qg (a:=.v 4) W).trans u)
 have fin:∀(v:Option _)(xe:Ex)(f:Bool),bf C xe (full (QC E x R (Y (.int _,J)) (Y (.str s,J))))=Y (vD v,f)->v=(if p=Z x/\s∈mD then Y 0 else LA _)->Go C [.Ly 2 _ _ xe] (QC E x R (Y (.int _,J)) (Y _)) λo=>∃w,o=.nx w/\∃R G z,w=QC E x R (Y (.int _,J)) z/\CT R _ G/\Kn E x (Pd x p _) G:=λv xe f r k=>by
  obtain⟨I,m1,m2⟩:=Bn (i:=2) h hp hs W r (ke:=.v 3) (xi:=.v 4) W rfl;exact bL m1 (bw ⟨_,W,I,_,_,W,m2,(λv k=>VZ (v:=v) g hk hp c (λq=>Fj (q▸O)) k) v k⟩)
 refine i9 H (λq=>(fin (Y 0) _ J W (by simp_all))) (λq=>?_) λw q=>bw ⟨_,W,q⟩
 .refine fin _ _ J ?_ (if_neg (by simpa using q)).symm;have hd:x5 (kR E) (.str s)=Y (.lst _):=zw hs;rwa[jh,bH,tM W rfl hd]
def HI(g:gE E)(B:Z x<=1000):∃O G,Cn D (n+3) 18 [kR E,.str (T x)]=Y (.lst O,U)/\CT (α:=Option Nat) O x.length G/\Kn E x (λq s=>q<=Z x/\s∈jc) G:=by
 suffices h:Go (Cn D _) _ [Y _,Y (.str _,J),L,L,L] λo=>∃O G,o=.rt (.lst O) U/\CT O _ G/\Kn E x _ G by
  refine ac λ_ m=>?_;obtain⟨_,h1,O,G,rfl,h2⟩:=h;refine m ?_;exact⟨O,G,fi W h1,h2⟩
 have e:=λ(p)G (O)(us vs)(s)(z)(hp:p<=Z x)(l:Nx=us++s::vs)(h:CT O _ G)(hk)=>Tu (n:=n) (z:=z) g B hp l h hk;generalize Cn D _=C at e ⊢;have c1:bf C (.cat (.comp 1 U [] (.itv (.v 1)) [] .m7) (.lst [.m7])) [Y (kR E),Y (.str (T x)),L,L,L]=Y (.lst (br x.length (.dct [] [])++[.dct [] []]),U):=by
  have A:bf C (.comp 1 U [] (.itv (.v 1)) [] .m7) [Y (kR E),Y (.str (T x)),L,L,L]=Y (.lst (br x.length (.dct [] [])),U):=by
   refine mQ (items:=(T x).cps.toList.map λc=>Dat.str ⟨#[c]⟩) ?_ (by simp;exact aa B bR) (by rw[uB];simp)
   first|rfl|simp
  show bc (bf C (.comp 1 U [] (.itv _) [] _) [Y _,Y (.str _),L,L,L]) _=_;rw[A];show(if(br _ _).length+1<=aE then _ else L)=_;rw[if_pos (by rw[fT];exact ao B bR)]
 refine eM c1 ?_
 have rng:Dy [.int (x.length),.int (-1),.int (-1)]=Y ((aQ (Z x+1)).map λk:Nat=>Dat.int ((x.length) - k)):=by
  show(if(-1)=-1/\-1000000<=((x.length):Int)/\((x.length):Int)<=1000000/\-1000000<=(-1)/\(-1)<=1000000 then Y ((aQ _).map λk:Nat=>Dat.int _)else L)=_;rw[if_pos ⟨W,by simp,fK (fJ.mpr B) bR,bR,by simp⟩,show(((x.length):Int) - (-1)).toNat=Z x+1 by rfl]
 refine iy (I:=λus K=>∃O G a b,K=QC E x O a b/\CT O _ G/\Kn E x (λq s=>Z x<q+Z us/\q<=Z x/\s∈jc) G) (by
  rw[rH];show bc (bc (bc (jq .len [.str _]) _) _) _=_;rw[(len_T (aa B (by decide)))];show bc (Dy [.int _,.int _,.int _]) _=_
  rw[rng];rfl) ⟨_,_,L,L,W,MB _,(λq s k h=>nomatch h),(λq s h=>absurd h.1 (NM h.2.1)),λq s=>⟨λh=>absurd h.1 (NM h.2.1),λh=>nomatch h⟩⟩ ?_ ?_
 .rintro us k vs _ l ⟨O,G,a,b,rfl,h,hk⟩;obtain⟨rfl,F⟩:=zU l;obtain⟨p,hp,r⟩:∃p:Nat,p+Z us=Z x/\((Z x:Int) - (us.length))=(p):=⟨Z x - Z us,mV (aV F),Eq.symm (Int.ofNat_sub (aV F))⟩
  have i:∀q s,(Z x<q+Z us/\q<=Z x/\s∈jc)↔Pd x p [] q s:=λq s=>⟨λz=>.inl ⟨kX (ae hp) z.1,z.2⟩,λz=>z.elim (λz=>⟨kX (ae hp.symm) z.1,z.2⟩) λz=>nomatch z.2⟩
  refine⟨QC E x O (Y (.int _,J)) b,by rw[r];rfl,iy (xs:=Nx) (I:=λus K=>∃O G z,K=QC E x O (Y (.int (p),J)) z/\CT O _ G/\Kn E x (Pd x p us) G) (by rfl) ⟨O,G,b,W,h,hk.w,λq s z=>hk.f q s ((i q s).mpr z),λq s=>(i q s).symm.trans (hk.d q s)⟩ ?_ ?_⟩
  .rintro t s u _ y ⟨O,G,z,rfl,h,hk⟩;exact e p G O t u s z (aa (aX _ _) (ae hp)) y h hk
  .rintro _ ⟨O,G,z,rfl,h,hk⟩
   have j:∀q s,(Z x<q+Z (us++[us.length])/\q<=Z x/\s∈jc)↔Pd x p Nx q s:=λq s=>by
    rw[aj,pL];have H:s∈Nx↔s∈jc:=⟨(by decide:∀s∈Nx,s∈jc) s,(by decide:∀s∈jc,s∈Nx) s⟩
    constructor
    .intro z
     grind
    .rintro(z|z)
     .exact⟨kX (ae hp.symm) z.1,z.2⟩
     .exact⟨kX (ae hp.symm) (ae z.1.symm),aa (C3 (ae z.1)) (ae hp),H.mp z.2⟩
   exact bw ⟨_,W,O,G,_,_,W,h,hk.w,λq s z=>hk.f q s ((j q s).mp z),λq s=>(j q s).trans (hk.d q s)⟩
 .rintro _ ⟨O,G,a,b,rfl,h,hk⟩;rw[a8]at hk;have i:∀q s,(Z x<q+(Z x+1)/\q<=Z x/\s∈jc)↔(q<=Z x/\s∈jc):=λq s=>⟨λz=>z.2,λz=>⟨gp _ _,z⟩⟩
  exact⟨_,W,O,G,W,h,hk.w,λq s z=>hk.f q s ((i q s).mpr z),λq s=>(i q s).symm.trans (hk.d q s)⟩
section
variable{G:Km}{L':List Dat}{p:Nat}{s:aW}
def XR(a b:Option Nat):jM .eq (vD a) (vD b)=Y (decide (a=b)):=by
 cases a with
 |none=>cases b<;>rfl
 |some j=>
   cases b with
   |none=>rfl
   |some k=>
     show Y (decide _)=_;rw[decide_eq_decide.mpr (show(j:Int)=(k)↔Y j=Y k by simp;omega)]
abbrev XJ(G:Km)(p:Nat)(o:Option Nat)(e:Ed):Bool:=decide (rE G p e=o)
def OR{es:List Ed}(h:CT L' x.length G)(hl:Z es<=1000)(he:∀e∈es,Z e.2.1<=1000/\p+Z e.2.1<=Z x/\(G (p+Z e.2.1) e.2.2.2).isSome=U)(hh:(es.filter (XJ G p o)).head? = Y e) :
  Cn D (n+2) 19 [.lst (es.map cH),.int (p:Nat),.lst L',vD o]=Y (cH e,J):=by
 refine fi W (wU ?_);exact tM (uJ (XJ G p o) W hl oD λe m=>⟨J,fW (Kk h (he e m).2.1 (he e m).1 (he e m).2.2) W (XR _ _)⟩) W (j3 (by rw[aR,<-List.head?_eq_getElem?,hh];rfl))
def pin(G:Km)(p:Nat)(s:aW):Prop:=∃k,G p s=Y (Y k)
def KP(g:gE E)(hk:Kn E x (λq s=>q<=Z x/\s∈jc) G)(h:pin G x.length s):s∈mD:=by
 obtain⟨k,h⟩:=h
 rcases hk.w _ _ _ h with q|⟨e,he,rfl,b,_⟩
 .exact q.2
 .have a:=of_decide_eq_true b;rw[ox]at a;rw[(g.n e he (NR.mp a)).1];decide
def PK(hk:Kn E x (λq s=>q<=Z x/\s∈jc) G)(hp:p<Z x)(hf:pin G p s):∃e o,G p s=Y o/\(((Al E s).filter (pre x p)).filter (XJ G p o)).head? = Y e/\e∈E/\e.1=s/\e.2.1 <+: x.drop p/\pin G (p+Z e.2.1) e.2.2.2:=by
 obtain⟨k,a⟩:=hf
 rcases hk.w _ _ _ a with q|⟨e,he,h1,h2,h3⟩
 .simp_all
 have d:e∈((Al E s).filter _).filter (XJ G p _):=bJ.mpr ⟨bJ.mpr ⟨bJ.mpr ⟨he,by simpa using h1⟩,h2⟩,decide_eq_true h3⟩
 cases hh:((Al E s).filter _).filter (XJ G p _)with
 |nil=>rw[hh]at d;cases d
 |cons f r=>
   have c:f∈((Al E s).filter (pre x p)).filter (XJ G p (Y k)):=by rw[hh];exact jL
   refine ac λ_ b=>?_;obtain⟨g,i⟩:=bJ.mp (bJ.mp c).1;obtain⟨j,l,_⟩:=ee (of_decide_eq_true (bJ.mp c).2);refine b ?_;exact⟨f,_,a,by rw[hh];rfl,(bJ.mp g).1,by simpa using (bJ.mp g).2,of_decide_eq_true i,j,Option.join_eq_some_iff.mp l⟩
structure Wr(E:List Ed)(x:List Nat)(G:Km)(S:List Ed)(p:Nat)(s:aW):Prop where
 hc:Ch jF S s
 he:∀e∈S,e∈E
 hp:p<=Z x
 ht:xG S=x.take p
 hf:pin G p s
 hs:s∈jc
 hl:Z S<=2 * p+1/\(s≠kc->Z S<=2 * p)
abbrev Jc(t:Tb)(x:List Nat)(E:List Ed)(L':List Dat)(S:List Ed)(p:Nat)(s:aW)(z:g_):cY:=[Y (tb t,J),Y (sT x,J),Y (kR E,U),Y (.lst L',U),Y (.lst (S.map cH),U),Y (.int (p:Nat),J),Y (.str s,J),z]
def Tn(g:gE E)(R:Z x<=1000)(B:CT L' x.length G)(hk:Kn E x (λq s=>q<=Z x/\s∈jc) G)(h:Wr E x G S p s)(hp:p<Z x):∃e O,dZ (Cn D (n+2)) wB (Jc t x E L' S p s z)=Y (.nx (Jc t x E L' (S++[e]) (p+Z e.2.1) e.2.2.2 O))/\Wr E x G (S++[e]) (p+Z e.2.1) e.2.2.2/\(e.2.1=[]->s=lr/\e.2.2.2=kc):=by
 refine ac λ_ k=>?_;obtain⟨e,o,ho,hh,he,hs,a,y⟩:=PK hk hp h.hf;refine k ?_;have hlen:=a.length_le;rw[eC]at hlen;have i:=g.n e he;have b:=Ks (n:=n+1) (es:=Al E s) (ax hp) (aa (c8 _ _) (aa g.l bR))
 have c:=OR (n:=n) B (aa (c8 _ _) (aa (c8 _ _) (aa g.l bR))) (λf r=>by
  obtain⟨h1,h2⟩:=bJ.mp r;have:=kJ (ax hp) h2
  exact⟨g.t f (bJ.mp h1).1,this,(hk.d _ _).mp ⟨this,g.o f (bJ.mp h1).1⟩⟩) hh
 have A:Wr E x G (S++[e]) (p+Z e.2.1) e.2.2.2:=by
  refine⟨En h.hc hs,λf r=>?_,kX (ad (ax hp)) hlen,?_,y,g.o e he,?_⟩
  .rcases au.mp r with q|q
   .exact h.he f q
   simp_all
  .show(S++[e]).flatMap _=_;rw[cL,tz,fP,aI,show(S.flatMap _)=x.take p from h.ht,Ai]
   congr 1
   exact dF.mp a
  .rw[aj];show Z S+1<=_/\(_->Z S+1<=_)
   obtain⟨H,F⟩:=h.hl;by_cases q:e.2.1=[]
   .obtain⟨w,I⟩:=i q;rw[hs]at w;have:=F (by rw[w];decide)
    grind
   .have :=bp.mpr q
    grind
 refine⟨e,Y (cH e,J),?_,A,λq=>⟨hs▸(i q).1,(i q).2⟩⟩;have hl:=h.hl.1;generalize Cn D (n+2)=C at b c ⊢;have d1:x5 (kR E) (.str s)=Y (.lst _):=zw h.hs;refine ac λ_ k=>?_;obtain⟨K,d2,d3⟩:=tU B (ax hp)
 have j:bf C (.call 15 [(.ix (.v 2) (.v 6)),(.v 1),(.v 5)]) (full (Jc t x E L' S p s z))=Y (.lst (((Al E s).filter (pre x p)).map cH),U):=by
  rwa[jh,bH,tM W rfl d1]
 have m:bf C (.call 19 [(.call 15 [(.ix (.v 2) (.v 6)),(.v 1),(.v 5)]),(.v 5),(.v 3),(.ix (.ix (.v 3) (.v 5)) (.v 6))]) (full (Jc t x E L' S p s z))=Y (cH e,J):=by
  rwa[jh,bH,j,bH,bH,bH,(tM (tM W rfl d2) W (Qe d3 ho))]
 have u:Go C wB (Jc t x E L' S p s z) λo=>o=.nx (Jc t x E L' (S++[e]) (p+Z e.2.1) e.2.2.2 (Y (cH e,J))):=by
  refine bL (dv m (oD e)) (qv (P:=(·= cH e)) ⟨cH e,J,W,oD e,W⟩ W (by grind) λd hd=>?_);rw[hd,show S.map cH++[cH e]=(S++[e]).map cH by simp];exact bL (dv (fj W (gn W (len_T (aa (g.t e he) bR))) W) W) (bL (dv W rfl) (bw W))
 obtain⟨_,h1,rfl⟩:=u;refine k ?_;exact h1
theorem RP(g:gE E)(B:Z x<=1000)(F:CT L' x.length G)(hk:Kn E x (λq s=>q<=Z x/\s∈jc) G):∀(m fuel:Nat)(S:List Ed)(p:Nat)(s:aW)(z:g_),Wr E x G S p s->2 * (Z x - p)+(if s=lr then 1 else 0)<=m->m<fuel->∃I P O,p5 (Jo (Cn D (n+2))) (dZ (Cn D (n+2)) wB) fuel (Jc t x E L' S p s z)=Y (.nx (Jc t x E L' I x.length P O))/\Wr E x G I x.length P
 |m,0,S,p,s,z,h,a,hf=>absurd hf (jO _)
 |m,fuel+1,S,p,s,z,h,a,hf=>by
   have b :=len_T (aa B (by decide))
   have hc:Jo (Cn D (n+2)) (Jc t x E L' S p s z)=Y (decide (p<Z x)):=by
    generalize Cn D (n+2)=C;have:bf C (.cmp .lt (.v 5) (.blt .len [(.v 1)])) (full (Jc t x E L' S p s z))=Y (.bl (decide (p<Z x)),J):=fW W (gn W b) (by show Y (decide ((p:Int)<(x.length)))=_;simp);unfold Jo;rw[this];rfl
   unfold p5;rw[hc];by_cases hp:p<Z x
   .rw[decide_eq_true hp];obtain⟨e,O,h1,h2,h3⟩:=Tn g B F hk h hp;have f:=h2.hp
    obtain⟨c,d⟩:∃c,m=c+1:=⟨m - 1,by
     omega⟩
    subst d
    obtain⟨I,P,i,j,o⟩:=RP g B F hk c fuel (S++[e]) (p+Z e.2.1) e.2.2.2 O h2 (by
     by_cases q:e.2.1=[]
     .obtain⟨k,l⟩:=h3 q;rw[if_pos k]at a;rw[q,l];exact aV a
     .have :=bp.mpr q
      split<;>omega) (aV hf)
    refine⟨I,P,i,?_,o⟩;rw[h1];exact j
   .rw[decide_eq_false hp];have :=aD h.hp (bV hp);subst this;exact⟨S,s,z,W,h⟩
def AY(w:wT t)(O:Hw (got t)=E.map cH)(g:gE E)(I:∀e,e∈E↔e∈got t)(ok:∀e∈E,wG e)(B:∀c∈x,c∈raw t)(hl:Z x<=1000):∃S s b,Cn D (n+5) 21 [tb t,sT x]=Y (.tup [tI (jm S),.lst (S.map cH)],b)/\(∀e∈S,e∈E)/\Ch jF S s/\s∈mD/\xG S=x/\Z (jm S)<=6 * (2 * Z x+1):=by
 have d:=HL (n:=n+1) w.ok B hl;have i:=Kr (n:=n+1) (by rw[xS w.ok (zA w.ok),O]) g.l g.b;refine ac λ_ m=>?_;obtain⟨L',G,j,F,hk⟩:=HI g hl;obtain⟨S,s,z,A,a⟩:=RP (t:=t) g hl F hk _ kH [] 0 jF L ⟨W,(λ_ h=>nomatch h),aK _,W,(hk.f 0 jF ⟨aK _,by decide⟩ (zX w I B _ 0 (fH _)).o),bR,by simp⟩ (by split<;>simp) (Gs hl)
 have q:Z (jm S)<=6 * (2 * Z x+1):=by
  have h1:Z (jm S)<=6 * Z S:=f7 λe he=>(ok e (a.he e he)).k;have:=a.hl.1;omega
 obtain⟨r,u⟩:=ON (S:=S) (by omega)
 refine m ?_;suffices h:Go (Cn D _) _ [Y _,Y _,L,L,L,L,L,L] λo=>∃b,o=.rt (.tup [tI (jm S),.lst (S.map cH)]) b by
  obtain⟨_,h1,b,rfl⟩:=h;exact⟨S,s,b,fi W h1,a.he,a.hc,KP g hk a.hf,by rw[a.ht,ot],q⟩
 generalize Cn D (n+4)=C at d i j u A ⊢
 have s1:pB C (.exp (.call 14 [.v 0,.v 1])) [Y (tb t,J),Y (sT x,J),L,L,L,L,L,L]=Y (.nx [Y (tb t,J),Y (sT x,J),L,L,L,L,L,L]):=by
  show kG _ (C 14 [tb t,sT x])=_;rw[d];rfl
 refine bL s1 (bL (RE i W) (bL (Fd j) (eM W (bL (dv W rfl) (bL (dv W rfl) (bL (by rwa[yO]) ?_))))));have y:bf C (.call 20 [.v 4]) (full (Jc t x E L' S x.length s z))=Y (tI _,r):=u
 exact iJ (by
  show bc (og C [.call 20 _,.v 4] (full (Jc t x E L' S _ s z))) _=_;rw[gf,y]
  rfl) ⟨_,W⟩
end
end K34E
namespace K34E
open PySem L2 M K34
variable{E:List Ed}{x:List Nat}{r:List Int}
abbrev Xz(R:List Ed):List Dat:=R.map λe=>Dat.str (T e.2.1)
abbrev XO(g:List Dat)(s:aW)(R:List Ed)(p:Nat)(z4:g_):cY:=[Y (.lst g,J),Y (.str s,J),Y (.lst (Xz R),U),Y (.int (p:Nat),J),z4]
abbrev t12(C:Fs)(ρ:cY):Option Bool:=(bf C (.cmp .gt (.v 3) (.e_ 0)) (full ρ)).bind λx=>fV x.1
theorem RQ{G:Cm}(B:Cv E r G)(ok:∀e∈E,wG e)(I:CT L' r.length G):∀(m fuel p:Nat) (s:aW) (R:List Ed) (z4:g_),p<=m->m<fuel->p<=Z r->Z R+p<=1000->(G p s).isSome=U->
  ∃S s' O,p5 (t12 C) (dZ C SM) fuel (XO L' s R p z4)=Y (.nx (XO L' s' (R++S.reverse) 0 O))/\(∀e∈S,e∈E)/\Ch jF S s/\jm S=r.take p/\Z S<=p
 |m,0,p,s,R,z4,_,h,_,_,_=>absurd h (jO _)
 |m,fuel+1,p,s,R,z4,w,hf,hp,y,hs=>by
   have hc:t12 C (XO L' s R p z4)=Y (decide (0<p)):=by
    show Y (decide _)=_;simp
   unfold p5;rw[hc];by_cases q:0<p
   .refine ac λ_ n=>?_;obtain⟨e,f,A,g,D,F,i,j⟩:=QH B (λe he=>(ok e he).c) q hs;obtain⟨a,rfl⟩:∃a,m=a+1:=⟨m - 1,aD (iF (ay m 1)) (iF (ar m 1 (kX q w)))⟩
    obtain⟨S,s',O,h1,h2,h3,k,v⟩:=RQ B ok I a fuel _ _ (R++[e]) (Y _) (qt (ad D) w F) (aV hf) (aa (oW _ _) hp) (by rw[aj,pL];exact qt y F (ad D)) j;refine n ?_;refine⟨_,s',O,?_,λd hd=>?_,g▸GL h3,?_,by rw[aj,pL];exact qt v F (ad D)⟩
    .refine ac λ_ n=>?_;obtain⟨H,l,i2⟩:=tU I hp;have t:((p):Int) - (e.2.2.1.length)=((p - Z e.2.2.1:Nat)):=Eq.symm (Int.ofNat_sub D)
     have b:Go C SM (XO L' s R p z4) λo=>o=.nx (XO L' e.1 (R++[e]) (p - Z e.2.2.1) (Y (cH e,J))):=by
      refine bL (dv (tM (tM W rfl l) W (Qe i2 f)) (oD e)) (qv (P:=(·= Dat.str (T _))) ⟨_,J,W,W,W⟩ W (by grind) λd hd=>?_);rw[hd,show Xz R++[Dat.str (T _)]=Xz (R++[e]) by simp[Xz]];exact bL (dv (fj W (gn W (i8 _)) (by rw[wc,t])) W) (bL (dv W rfl) (bw W))
     obtain⟨_,u,rfl⟩:=b;refine n ?_;rwa[decide_eq_true q,u,List.reverse_append,<-aJ]
    .rcases au.mp hd with hd|hd
     .exact h2 d hd
     simp_all
    .have:p - Z e.2.2.1+Z e.2.2.1=p:=mV D
     rw[<-this,HV i,<-k];simp[jm]
   .obtain rfl:p=0:=aD (bV q) (aK _)
    obtain⟨o,ho⟩:=eX.mp hs;obtain⟨rfl,_⟩:=B.z s o ho;exact⟨[],jF,z4,by simp,(λ_ h=>nomatch h),W,W,ak _⟩
theorem Tf:∀{S:List Ed},(∀e∈S,Z e.2.1<=6)->((S.map λe=>e.2.1).map (·.length)).sum<=6 * Z S
 |[],_=>ak _
 |e::S,h=>by
   have h1:=h e jL;have h2:=Tf λe he=>h e (jZ _ he)
   grind
def S4(h:∀e∈S,Z e.2.1<=6):Z (xG S)<=6 * Z S:=by
 have:=Tf h;rw[cF]at this;rwa[List.length_flatMap]
def UE{G:Cm}(O:Cv E r G)(ok:∀e∈E,wG e)(B:CT F r.length G)(g:Z r<=999)(hs:(G r.length s).isSome=U) :
  ∃S,Cn D (k+1) 12 [.lst F,.str s]=Y (sT (xG S),J)/\(∀e∈S,e∈E)/\Ch jF S s/\jm S=r/\Z S<=Z r:=by
 refine ac λ_ c=>?_;obtain⟨S,h,b,h1,h2,h3,a,d⟩:=RQ (C:=Cn D k) O ok B _ kH _ s [] L (ak _) (ao g (by decide)) (ak _) (by grind) hs;refine c ?_;rw[ot]at a;refine⟨S,?_,h2,h3,a,d⟩;refine nE W ?_;generalize Cn D k=C at h1
 have f:bf C (.bin .sub (.blt .len [.v 0]) (.e_ 1)) (full [Y (.lst F,J),Y (.str s,J),Y (.lst [],U),L,L])=Y (.int (r.length),J):=fj (gn W rfl) W (by
  rw[B.l];simp)
 refine eM W (bL (dv f W) (bL (by rwa[yO]) (iJ ?_ W)));show hZ .join (.str (T [])) [.lst (Xz _).reverse]=_;rw[List.nil_append,Xz,List.map_reverse,List.reverse_reverse,show(S.map λe=>Dat.str (T _))=(S.map _).map λl=>Dat.str _ by rw[cF];rfl,uy (aa (Tf λe he=>(ok e (h2 e he)).t) (kX (Nat.mul_le_mul_left 6 d) (Nat.mul_le_mul_left 6 g))),<-List.flatMap_def]
abbrev CM(t:Tb)(r:List Int)(E:List Ed)(b:Bool)(g:List Dat)(f:Int)(B z6:g_):cY:=[Y (tb t,J),Y (tI r,J),Y (kR E,b),Y (.lst g,U),Y (.int f,J),B,z6]
abbrev Pr(p:Nat)(us:List aW):Nat->aW->Prop:=λa s0=>a<p\/(a=p/\s0∈us)
def Yd{G:Cm}(ok:∀e∈E,wG e)(hp:p<Z r)(O:jc=us++s::vs)(h:CT C r.length G)(hi:Q3 E r (Pr p us) G) :
  ∃ρ1,eV U [6] (.str s) (CM t r E b C f (Y (.int (p:Nat),J)) z6)=Y ρ1/\Go (Cn D (k+2)) lbR ρ1 λo=>∃B,o=.nx B/\∃b C G f z6,B=CM t r E b C f (Y (.int (p:Nat),J)) z6/\CT C r.length G/\Q3 E r (Pr p (us++[s])) G:=by
 refine⟨_,W,?_⟩;obtain⟨N,n,i2⟩:=tU h (ax hp);have g:bf (Cn D (k+2)) (.cmp _ (.v 6) (.ix (.v 3) (.v 5))) (full (CM t r E b C f (Y (.int _,J)) (Y (.str s,J))))=Y (.bl _,J):=fW W (tM W rfl n) (zz i2);by_cases i:(G p s).isSome=U
 .rw[i]at g
  refine ac λ_ x=>?_;obtain⟨l,F,A,c1,c2,j⟩:=UD (es:=Al E s) (λe he=>by
   obtain⟨m,w⟩:=bJ.mp he
   exact⟨m,ok e m,by simpa using w⟩) (ax hp) (λq t y=>y.elim ax λz=>ae z.1) i h hi
  refine x ?_;have H:x5 (kR E) (.str s)=Y (.lst _):=zw (by rw[O];simp)
  have I:lI (Cn D (k+2)) [.ix (.v 2) (.v 6),.v 1,.v 5] [Y (tb t),Y (tI r),Y (kR E),L,Y (.int f),Y (.int (p)),Y (.str s)]=Y [.lst ((Al E s).map cH),tI r,.int (p)]:=by
   rw[bH,tM W rfl H];rfl
  have s1:pB (Cn D (k+2)) (.lmx 4 (11+CK) 3 [.ix (.v 2) (.v 6),.v 1,.v 5]) (CM t r E b C f (Y (.int (p),J)) (Y (.str s,J)))=Y (.nx (CM t r E J l (if f<A then A else f) (Y (.int (p),J)) (Y (.str s,J)))):=by
   show bc (lI (Cn D _) [.ix _ _,.v 1,.v 5] [Y _,Y (tI r),Y (kR E),L,Y _,Y (.int _),Y (.str s)]) _=_;rw[I];show(Cn D _ _ [.lst C,.lst _,tI r,.int _]).bind _=_;rw[c1];rfl
  refine i9 (J':=λK=>K=CM t r E J l _ (Y (.int _,J)) (Y _)) g (λ_=>bL s1 (bw ⟨_,W,W⟩)) (λz=>nomatch z) λM z=>bw ⟨_,W,_,l,F,_,_,z,c2,j.rd.c,λe he q h1 h2 h3=>?_⟩
  rcases h1 with h1|⟨h1,a⟩
  .exact j.rd.d e he q (.inl h1) h2 h3
  .rcases au.mp a with a|a
   .exact j.rd.d e he q (.inr ⟨h1,a⟩) h2 h3
   .subst h1;exact j.u e (bJ.mpr ⟨he,by simpa using az.mp a⟩) h3
 .rw[iX.mpr i]at g;refine lX g (bw ⟨_,W,b,C,G,f,_,W,h,hi.c,λe he q h1 h2 h3=>?_⟩)
  rcases h1 with h1|⟨h1,a⟩
  .exact hi.d e he q (.inl h1) h2 h3
  .rcases au.mp a with a|a
   .exact hi.d e he q (.inr ⟨h1,a⟩) h2 h3
   .rw[h1,az.mp a]at h2;exact absurd h2 i
theorem findR{G:Cm}(B:∀s∈jc,C 2 [.str s]=Y (.bl (decide (s∈mD)),J))(h:CT F r.length G):∀(l:List aW) (z6:g_),(∀s∈l,s∈jc)->(∃s∈l,s∈mD/\(G r.length s).isSome=U)->
  ∃s∈mD,(G r.length s).isSome=U/\∀d fl,C 12 [.lst F,.str s]=Y (d,fl)->i7 (eV U [6]) (dZ C XE) (l.map Dat.str) (CM t r E b F f I z6)=Y (.rt d fl)
 |[],_,_,h=>by simp_all
 |s::l,z6,hl,u=>by
   obtain⟨y,k,i2⟩:=tU h (ak _);have m:bf C (.call 2 [.v 6]) (full (CM t r E b F f I (Y (.str s,J))))=Y (.bl (decide _),J):=(qg W).trans (B s (hl s jL));have n:bf C (.cmp _ (.v 6) (.ix (.v 3) (.blt _ [.v 1]))) (full (CM t r E b F f I (Y (.str s,J))))=Y (.bl (G _ s).isSome,J):=fW W (tM W (gn W (i8 r)) k) (zz i2);obtain⟨g,a⟩:=Xh m n;by_cases q:(decide (s∈mD) && (G r.length s).isSome)=U
   .rw[q]at a;refine⟨s,of_decide_eq_true (gD.mp q).1,(gD.mp q).2,λd fl hd=>?_⟩;have i:Go C XE (CM t r E b F f I (Y _)) _:=BJ a (wU ((Ce W rfl).trans hd)) W;obtain⟨_,j,rfl⟩:=i;show(dZ C XE (CM t r E b F f I (Y _))).bind _=_;rw[j];rfl
   .rw[iX.mpr q]at a
    obtain⟨w,c,e,p⟩:=findR B h l (Y _) (λs h=>hl s (jZ _ h)) (by
     grind)
    refine⟨w,c,e,λd fl hd=>?_⟩;have i:Go C XE (CM t r E b F f I (Y _)) λo=>o=.nx (CM t r E b F f I (Y _)):=lX a (bw W);obtain⟨_,j,rfl⟩:=i;show(dZ C XE (CM t r E b F f I (Y _))).bind _=_;rw[j];exact p d fl hd
def run_read(ge:gE E)(ok:∀e∈E,wG e)(O:Cn D (k+3) 9 [tb t]=Y (kR E,U))(a5:Z r<=999)(c0:Nu E x r):∃y,Cn D (k+4) 13 [tb t,tI r]=Y (sT y,J)/\Nu E y r/\Z y<=6 * Z r:=by
 suffices h:Go (Cn D _) _ [Y _,Y _,L,L,L,L,L] λo=>∃y,o=.rt (sT y) J/\Nu E y r/\Z y<=6 * (Z r) by
  refine ac λ_ V=>?_;obtain⟨_,h1,y,rfl,h2⟩:=h;refine V ?_;exact⟨y,fi W h1,h2⟩
 have a:∀s∈jc,Cn D (k+3) 2 _=Y (.bl (decide _),J):=λs hs=>Kl hs;have g:=λ(X)(G:Cm)(s)(H)(J':CT X _ G)(hs:(G _ s).isSome=U)=>UE (k:=k+2) H ok J' a5 hs;have j:=λ(p)(b)(X)G (f)(z6)(s)(us vs)(hp:p<Z r)(l:jc=us++s::vs)(h:CT X _ G)(hi)=>Yd (k:=k+1) (t:=t) (b:=b) (f:=f) (z6:=z6) ok hp l h hi;generalize Cn D _=C at O a g j ⊢
 have c1:bf C (.cat (.comp 1 U [] (.itv (.v 1)) [] .m7) (.lst [.m7])) [Y (tb t),Y (tI r),Y (kR E),L,L,L,L]=Y (.lst (br r.length (.dct [] [])++[.dct [] []]),U):=by
  have K:bf C (.comp 1 U [] (.itv (.v 1)) [] .m7) [Y (tb t),Y (tI r),Y (kR E),L,L,L,L]=Y (.lst (br r.length (.dct [] [])),U):=by
   refine mQ W (by rw[aB];exact aa a5 (by decide)) (by rw[uB,aB])
  show bc (bf C (.comp 1 U [] (.itv _) [] _) [Y _,Y _,Y _,L,L,L,L]) _=_;rw[K];show(if(br _ _).length+1<=aE then _ else L)=_;rw[if_pos (by rw[fT,iR];exact ao a5 (by decide))]
 refine bL (RE ((qg W).trans O) W) (eM c1 ?_);obtain⟨M,m1,m2⟩:=Bn (i:=3) (ρ:=[Y _,Y _,Y _,Y (.lst (br _ _++[.dct [] []]),U),L,L,L]) (v:=(L:Option Ed)) (ke:=.e_ 0) (xi:=.con (.str jF)) (xe:=.con .non) (MB _) (aK _) (by decide) W rfl rfl rfl;refine bL m1 (bL (dv W rfl) ?_)
 have m:Q3 E r (Pr 0 []) (CI (λ_ _=>L) 0 jF L):=by
  refine⟨⟨λs o ho=>?_,mK,λp s e he=>?_,λp s hp ho=>?_⟩,λe he q h1=>by grind⟩
  .grind
  .by_cases c:p=0/\s=jF
   .rw[c.1,c.2]at he;cases he
   .rw[nR c]at he;cases he
  .rw[AF (jx hp)]at ho;cases ho
 refine iy (I:=λus ρ=>∃b X G f n z6,ρ=CM t r E b X f n z6/\CT X _ G/\Q3 E r (Pr us.length []) G) (by rw[rH,qd (gn W (i8 r)) (cU a5)];rfl) ⟨U,M,_,0,L,L,W,m2,m⟩ ?_ ?_
 .rintro us p vs _ l ⟨b,X,G,f,n,z6,rfl,h,hi⟩;obtain⟨rfl,hp⟩:=zU l;refine⟨_,W,iy (xs:=jc) (I:=λvs ρ=>∃b X G f z6,ρ=CM t r E b X f (Y (.int (us.length),J)) z6/\CT X _ G/\Q3 E r (Pr _ vs) G) (by rfl) ⟨b,X,G,f,z6,W,h,hi⟩ ?_ ?_⟩
  .rintro u s w _ A ⟨b,X,G,f,z6,rfl,h,hi⟩;exact j _ b X G f z6 s u w hp A h hi
  .rintro _ ⟨b,X,G,f,z6,rfl,h,hi⟩;refine bw ⟨_,W,b,X,G,f,_,_,W,h,hi.c,λe he q h1=>hi.d e he q ?_⟩;rw[aj]at h1
   rcases h1 with h1|⟨_,h1⟩
   .rcases gH q _ with z|z
    .exact .inl z
    .exact .inr ⟨aD (aV h1) z,ge.b e he⟩
   .cases h1
 rintro _ ⟨b,X,G,f,n,z6,rfl,h,hi⟩;rw[a8]at hi
 have B:∀q,∀e∈E,(G q _).isSome=U->mz r q e=U->(G _ _).isSome=U:=λq e he h1 h2=>by
  have h3:=(of_decide_eq_true h2).length_le;rw[eC]at h3;have:=bp.mpr (ok e he).c;exact hi.d e he q (.inl (by omega)) h1 h2
 refine ac λ_ V=>?_;obtain⟨s0,F,N⟩:=Qj hi.c B c0;obtain⟨s,P,Q,R⟩:=findR a h jc z6 (λ_ h=>h) ⟨s0,(by decide:∀s∈mD,s∈jc) s0 F,F,N⟩;obtain⟨S,e1,e2,e3,T,e5⟩:=g X G s hi.c h Q;refine V ?_;refine⟨_,yS (R _ _ e1),_,W,T▸zO e2 e3 P,?_⟩;have:=S4 λe he=>(ok e (e2 e he)).t;exact kX this (Nat.mul_le_mul_left 6 e5)
end K34E
namespace K34E
open PySem L2 M K34
def VU(ht:Ie t):Z (LE t)<=1000:=by
 have h1:=f7 (g:=dg t) (l:=aQ t.fg.length) λk _=>ak 3;have h2:=f7 (l:=t.fs) λf _=>vN t f;have h3:=ht.hf;have a:=ht.hl;have b:Z (if t.fg.isEmpty=U then []else [(lr,[],t.m3,kc)]:List Ed)<=1:=by split<;>simp
 rw[a8]at h1;rw[aj,aj,aj];show 3+_+_+_<=_;omega
def RW(t:Tb):im (tb t)=U:=by
 show(lW _ && (im _ && (im (tI _) && U)))=U;rw[m6,D1,lH];rfl
def Gd(E:List Ed)(r:List Int):Prop:=Z r<=400/\∃x,Nu E x r
structure Pt(C:Fs)(N:Dat)(t:Tb)(E:List Ed):Prop where
 e:C 31 [tb t]=Y (.lst ((LE t).map cH),U)
 w:∀(a:Int),0<=a/\a<=31->∀x:List Nat,(∀c∈x,c∈raw t)->Z x<=32->∃S r,C 35 [N,.int a,.lst ((LE t).map cH),sT x]=Y (.lst (xx cH S),U)/\C 36 [.lst (xx cH S)]=Y (tI r,J)/\Gd E r
 v:∀x:List Nat,(∀c∈x,c∈raw t)->Z x<=32->∃r d b,C 21 [tb t,sT x]=Y (.tup [tI r,d],b)/\Gd E r
 q:∀r,Gd E r->∃f,C 38 [tb t,.lst ((LE t).map cH),tI r]=Y (.bl U,f)
 z:C 13 [tb t,tI []]=Y (sT [],J)
 y:Gd E []
def HG(w:wT t)(g:gE E)(O:∀e,e∈LE t↔e∈E)(ok:∀e∈E,wG e)(B:Cn D (n+4) 9 [tb t]=Y (kR E,U))(h:Gd E r):∃f,Cn D (n+6) 38 [tb t,.lst ((LE t).map cH),tI r]=Y (.bl U,f):=by
 refine ac λ_ c=>?_;obtain⟨h1,x,h2⟩:=h;obtain⟨y,d,i,j⟩:=run_read g ok B (aa h1 (by decide)) h2;obtain⟨b,a,e5⟩:=OP O g (λe he=>ok e ((O e).mp he)) (x:=y) (kX j (Nat.mul_le_mul_left 6 h1)) (aa h1 (by decide));refine c ?_;rw[e5.mpr i]at a;refine⟨J,nE W ?_⟩;refine bL (dv ((Ce W rfl).trans d) W) (iJ ?_ W);rw[eW (gn W rfl)];exact(wa W rfl rfl).trans a
def pack{ns:List Int}(w:wT t):∃E,Pt (Cn D (n+6)) (.lst (ns.map Dat.int)) t E:=by
 obtain⟨E,u,g,f,ok⟩:=Mv w;have i:=λe=>(VG w.ok.hf).trans (f e).symm;have c:∀m,Cn D (m+3) 9 _=Y _:=λm=>Kr (by rw[xS w.ok (zA w.ok),u]) g.l g.b;have h0:Nu E [] []:=zO (S:=[]) (λ_ h=>nomatch h) W (by decide);refine⟨E,UH w.ok,λa ha x p hl=>?_,λx p hl=>?_,λr d=>HG w g i ok (c _) d,?_,aK _,_,h0⟩
 .refine ac λ_ j=>?_;obtain⟨S,s,h1,h2,h3,q,k,v⟩:=Kh ha g i (λe m=>ok e ((i e).mp m)) (VU w.ok) (aa hl (by decide)) ((zX w f p _ 0 (fH _)).o);refine j ?_;have d:Z (jm S)<=400:=kX v (Nat.mul_le_mul_left 12 hl)
  exact⟨S,_,h1,Kj (aa d (by decide)),d,x,k▸zO h2 h3 q⟩
 .obtain⟨S,s,b,h1,h2,h3,q,k,v⟩:=AY w u g f ok p (aa hl (by decide));exact⟨_,_,b,h1,kX v (Nat.mul_le_mul_left 12 hl),x,k▸zO h2 h3 q⟩
 .obtain⟨y,z,_,A⟩:=run_read g ok (c _) (aK _) h0;rwa[lu (Nat.le_zero.mp A)]at z
abbrev EL(N:Dat)(t B:Tb)(m:Nat)(x O:List Nat)(g C F:List Int)(z:g_):cY:=[Y (N,J),Y (tb t,J),Y (.lst ((LE t).map cH),U),Y (.int (m:Nat),J),Y (sT x,J),Y (tI g,J),Y (tI C,J),Y (tI F,J),Y (tb B,J),Y (sT O,J),z]
def OO{ns:List Int}:Cn D (n+7) 39 [.lst (ns.map Dat.int)]=Y (.bl U,J):=by
 obtain⟨t,b,K,w⟩:=HD;have hd:Dw (Cn D (n+6)) (.lst (ns.map _)):=dw;have p:=λ(t)(w:wT t)(m)(h:m<=100)=>Ki (n:=n+3) (ns:=ns) w.ok h;let k:Tb:=⟨t.fs,[],[],[],[],[]⟩
 have U':wT k:=⟨⟨w.ok.ho,w.ok.hl,aK _,aK _,aK _,aK _,aK _⟩,w.own,w.cf,(λm H c hc=>by
  have:m=[]:=by simpa [k]using H
  grind),λh=>absurd rfl h,λh=>absurd rfl h⟩
 obtain⟨E,P⟩:=pack (n:=n) w;obtain⟨E0,J'⟩:=pack (n:=n) U'
 suffices h:Go (Cn D _) _ [Y (.lst (ns.map _),J),L,L,L,L,L,L,L,L,L,L] λo=>o=.rt (.bl U) J by
  obtain⟨_,h1,rfl⟩:=h;exact fi W h1
 generalize Dat.lst (ns.map _)=N at *;generalize Cn D _=C at *;refine bL (dv ((qg W).trans K) (RW t)) (bL (Fd ((qg W).trans P.e)) ?_);refine vU (P:=(·<=32)) (gW hd W rfl rfl rfl bR bR bR λq h=>by omega) (λv=>tP (gW hd W rfl rfl rfl bR bR bR λ_ _=>trivial) 0) (λv=>Mu 13 (gW hd W rfl rfl rfl bR bR bR λq h=>by omega) λq h=>by omega) λm H=>?_;refine ac λ_ k0=>?_;obtain⟨x,_,L',s,a⟩:=p t w m (aa H (by decide));have g :=s▸H;obtain⟨S5,l,M,O,V⟩:=P.w 31 (by decide) x a g;obtain⟨_,a5⟩:=P.q l V;obtain⟨u,d6,_,Q,c0⟩:=P.v x a g;refine k0 ?_;refine bL (dv ((wa W rfl rfl).trans L') W) ?_;refine bL (dv ((qg (jh.trans (by exact M))).trans O) (lH _)) ?_;refine lX (Vn ((wa W rfl rfl).trans a5)) ?_;refine bL (dv (tM ((Ce W rfl).trans Q) W rfl) (lH _)) ?_;obtain⟨h,hh,R⟩:∃h:Nat,((m):Int) / 2=h/\h<=Z x:=⟨_,by rfl,aa (Rh _ _) (ae s.symm)⟩
 have c3:∀{ρ:ic},bf C (.v 3) ρ=Y (.int _,J)->bf C (.bin _ _ (.e_ 2)) ρ=Y (.int _,J):=λq=>fj q W (by rw[Cq bR bR,hh]);obtain⟨S7,A,B,F,g7⟩:=P.w 17 (by decide) (x.take h) (λc hc=>a c (cy hc)) (by grind)
 have es:∀{ρ:ic},bf C (.v 4) ρ=Y (sT x,J)->bf C _ ρ=Y (.int _,J)->bf C (.sl _ L (Y (.bin _ _ _))) ρ=Y (sT _,J):=λq1 q2=>Ka q1 (c3 q2) (by
  show(if(T x).length<=aE then Y (Dat.str (cJ _ L (Y _)),J)else L)=_
  rw[if_pos (by exact aa g (by decide)),J9 R])
 refine bL (dv ((qg (jh.trans (by rwa[bH,bH,bH,bH,es W rfl]))).trans F) (lH _)) ?_;refine bL (dv (d:=tb k) W (RW k)) ?_;obtain⟨X,_,G,hy1,S⟩:=p k U' h (aa R (aa g (by decide)));refine bL (dv ((wa W rfl (c3 W)).trans G) W) ?_;obtain⟨S9,r9,i,j,g9⟩:=J'.w 31 (by decide) X S (aa (ae hy1) (aa R g));obtain⟨_,q9⟩:=J'.q r9 g9;refine lX (Vn ((wa W ((qg W).trans J'.e) ((qg (jh.trans (by rwa[bH,bH,bH,(qg W).trans J'.e]))).trans j)).trans q9)) ?_;refine iy (xs:=[u,A,l,[]]) (I:=λ_ ρ=>∃z,ρ=EL N t k m x X l u A z) (lj (f:=U) (by show Y (Dat.lst [tI u,tI A,tI l,tI []],(J || im (tI u)) && ((J || im (tI A)) && ((J || im (tI l)) && ((U || im (tI [])) && U))))=_;rw[lH,lH,lH];rfl) W (by simp)) ⟨_,W⟩ ?_ ?_
 .rintro us r vs _ hu ⟨z,rfl⟩
  have hr:Gd E r:=by
   have:r∈[u,A,l,[]]:=by rw[hu];simp
   simp only[aw,bx,or_false]at this
   rcases this with rfl|rfl|rfl|rfl
   .exact c0
   .exact g7
   .exact V
   .exact P.y
  obtain⟨_,q⟩:=P.q r hr;exact⟨_,W,lX (Vn ((wa W rfl rfl).trans q)) (bw ⟨_,W,_,W⟩)⟩
 .rintro _ ⟨z,rfl⟩;exact iJ (fW ((Ce W rfl).trans P.z) W rfl) W
end K34E
def K34.math(ns:List Int)(_:Z ns<=63):∃fr,M.Cn K34.D 12 39 [.lst (ns.map M.Dat.int)]=Y (.bl U,fr):=⟨_,K34E.OO⟩
open PySem PySem.W PyProof.Rows
structure PySem.W.Fast:Prop where(tw8307034626896893471 tw1153838051995781483 tw14442082190849788646 tw14663109278432528751 tw2048646851343606488 tw12696649866342107699 tw7394666227295415993 tw14558516530240555241 tw650385083628311681 tw14017774307145587734 tw18331499375344711997 tw1832554918452460742 tw11589496659191570199 tw459876868629905873 tw3673871703634978119 tw16059807532642891853 tw5003524739952118480 tw2521867203213296743 tw14610157338488251470 tw2739520358482788593 tw14347596444602857174 tw15006021696914833333 tw5269546163505678895 tw17068803669780587353 tw9160984331317604854 tw9469765708499100015 tw13219759328329291977 tw1334835380521119110 tw12122382640091469869 tw3485580650539932772 tw11293481355297910412 tw16516624190528747307 tw817563620758633639 tw5564754314016597472 tw818385786716603047 tw15670373411793079273 tw3638528377599730882 tw12809129200449116802 tw14964562599998141172 tw17700401025385690657 tw18048580660561493979 tw815299081067420956 tw12869826770731949480 tw18443162754279271094 tw5015171859521573984 tw14424308144583626558 tw5811431645892335498 tw976878104122992617 tw7691620074374171968 tw9724732452266533698 tw9607684849410371063 tw596012679053118297 tw7917651325410025462 tw2403031985448556866 tw12960750618855905207 tw9260779885847812414 tw5926183404221352130 tw1574745252605858354 tw13083183465174539607 tw12955700783861033358 tw18182793130544782814 tw18151704856129069807 tw872590413970659805 tw424451057696703459 tw17159265032134286821 tw8230635419049127855 tw16428322223139838926 tw16974647770937533008 tw593746503668505384 tw8632955359251857462 tw5811578783730624322 tw8048569551199668869 tw3149654233607490193 tw1791626235663088678 tw7619963860316953133 tw6691683412347610601 tw1604227946952563952 tw7325922042662232664 tw6929200986438835935 tw987296683969238883 tw6641207114080993908 tw15591188217342651475 tw2925887768824776348 tw8758240138125633995 tw8861775059422456392 tw3320674519296773409 tw94229854138656895 tw3609520323319331407 tw14909429759733504179 tw763671720727436524 tw10526429454442254407 tw3052360138503266917 tw12819383701099881565 tw1223260598051571190 tw10528182164657697351 tw6734262226201265143 tw15461286542629695448 tw2996453044728088819 tw9738224232975455400 tw12481277032552340927 tw17538083186487227561 tw1233442995649466403 tw12419682675059349528 tw8103120476560165124 tw4419671471451355685 tw11679492070801944702 tw11826294616209151675 tw6142409547853330489 tw6439625343041343919 tw8400437835210631281 tw15685918603309169958 tw3352266118964821538 tw16196649181234579351 tw9266500317543863845 tw13409865161031702863 tw12883504840795823603 tw8988001009540228271 tw7096683291848848821 tw4349545632275304253 tw10763204280465691016 tw15229566843709640855 tw16927954763074168043 tw3642099919522463124 tw8249756953465461972 tw17813411549832279736 tw15456414251132973743 tw17770127085577216642 tw5615706730785948270 tw17532738303218472582 tw5389664073874847126 tw2201418136457095107 tw18026216624218002447 tw4405696730267732659 tw17397051345883666436 tw17121356306809175803 tw16040061608622545238 tw15811610741197804101 tw9942524635549849200 tw4908134861036038788 tw14884424416519522030 tw14139299956686561391 tw6526422094191156885 tw15820364589736277143 tw14410637972909832328 tw18162469972423073467 tw3943531572812544897 tw17664391861024433324 tw6536391377503587067 tw14007187947058213275 tw6432193225604383709 tw12740710525025091132 tw5196896887258314642 tw8063668234053219104 tw6032495108876787832 tw3377633279254079539 tw4681058580909123016 tw14059736534318334157 tw6034121462803645445 tw14705290290127923958 tw18295917738104047838 tw7432130052600016302 tw14641482452928412499 tw6450045472361476739 tw5832787675543612196 tw4961551612029129499 tw16222330838078194165 tw550953842428588359 tw10465162700081164414 tw8720088769661803896 tw15433755048403370806 tw1507256099904269035 tw6377461476135166229 tw8485543242506509494 tw2385818042344122772 tw307632207682679405 tw9281746347337963947 tw14051376391719168683 tw14376287051968316450 tw8404772415323840482 tw9047435090187933831 tw4476759538223691990 tw18409399106291683236 tw6372096012453964956 tw12507735285561616333 tw9026145369207158481 tw8719662163040891310 tw1899013754718364470 tw10441481376289200388 tw938998977289335480 tw1174515510120770305 tw14948225172706091615 tw7072802692774788077 tw7771335564423339888 tw6163286470221572566 tw671615991070817436 tw5839405561667709220 tw17684606237709916412 tw14313181933331772191 tw3349593077241525058 tw14393461431674862709 tw1251420673973095368 tw3850826455251369455 tw8739137462452820741 tw9747826662582000549 tw6839186009760177416 tw5456631337487368827 tw10191873683328293894 tw10219599706271688498 tw8821417134357410359 tw7791593430383226849 tw17805879102372547122 tw8195654935842952043 tw2824469615775340874 tw14728960740343726622 tw14347924630327877977 tw3336968412303468128 tw5301027132458954446 tw6379276856642580515 tw6013545392475537201 tw6961638341427815935:True)
set_option maxRecDepth 100000 in
set_option maxHeartbeats 0 in
theorem PySem.Challenge.cw_dots_k34_read_holds : PySem.Challenge.rw_dots_k34_read.Holds := by
 w_on;o_law;k_head;(case hw=>w_witness2)
 k_fill
 refine M.walk (l:=oI) (n:=12) (x:="_law_script") rfl ⟨rfl,by decide,by decide⟩ rfl (λw h Y=>PySem.W.kIn_of Y) ?F
 case F=>
  intro w mg fa h KX G hmg
  have Z:∀x∈M.l9,mg x=L:=by
   refine M.QY KX G ?_
   kernel_rfl
  have T:M.Here (L2.KOf KX) mg K34.D K34.con:=⟨K34.YO,M.Xg KX G (by kernel_rfl) (by kernel_rfl) (λ_ _ _ _ _ _ _=>by kernel_rfl),by decide,Z,M.GI KX G (by kernel_rfl)⟩
  exact M.VX (l:=oI) T (j:=39) rfl rfl hmg K34.math
