import PyProof.Rows.All
import Wide.All
import OpenK.AllK
import Wide.FinOn
import Lean
import PyProof.EqAt
import PyProof.EqKinds
import PyProof.TupleCall
import PySem.Challenge.RW_dots_k33_is_written
set_option tactic.hygienic false
open Option renaming some->a_,none->b_
open Bool renaming true->c_,false->d_
noncomputable section
set_option bootstrap.genMatcherCode false
set_option genInjectivity false
set_option genSizeOf false
open And renaming intro->Mu
open Array renaming getElem?_eq_getElem->a8,length_toList->bF,getElem?_eq_some_iff->cX,getElem?_eq_none->gZ,getElem?_toList->iy,forIn_toList->lJ,ext_getElem?->qi,replicate->ue,getD_eq_getD_getElem?->vT,getElem_toList->Cf,getD->Gh
open Bool renaming and_eq_true->ag,false_eq_true->bT,and_true->gm,and_eq_true_iff->iZ,not_eq_true'->jP,or_eq_true->kS,eq_iff_iff->kT,true_and->m9,and_self->qh,or_true->sx,eq_false_iff->sy,decide_and->vS,and_assoc->wG,not_eq_true->LZ,not_false->PK
open Classical renaming propDecidable->mj,em->Il
open Eq renaming symm->tM
open False renaming elim->iT
open ForInStep renaming yield->i6
open Iff renaming rfl->LY
open Int renaming ofNat_zero_le->dE,ofNat->eO,lt_of_le_of_lt->eP,ofNat_le->eT,le_trans->gf,eq_ofNat_of_zero_le->jF,natCast_pos->kY,ofNat_lt->lI,not_le->mf,le_of_eq->ot,toNat_natCast->tj,toNat->ub,not_le_of_gt->ud,negSucc->vR,not_lt_of_ge->Mt,le_antisymm->PH,emod_nonneg->PJ
open Int.ofNat renaming inj->uc
open List renaming getElem?_eq_getElem->af,length_append->ah,mem_append_right->ai,mem_append_left->au,mem_cons->aw,mem_append->ax,mem_singleton->az,length_map->aA,map_cons->aB,append_nil->aE,append_assoc->aH,getElem?_append_right->aJ,getElem?_eq_some_iff->aN,getElem?_map->aO,getElem?_append_left->aQ,range->aR,nodup_cons->aU,mem_of_getElem?->aX,length_range->a6,take_append_drop->be,mem_range->bf,size_toArray->bh,not_mem_nil->bq,getElem_mem->br,all_eq_true->bB,replicate->bD,length_cons->bG,getElem?_set_ne->bP,mem_map->bQ,length_pos_iff->bY,getElem?_replicate->cx,map_append->cF,take_of_length_le->cG,nodup_append->cH,mem_of_mem_take->cJ,flatMap_singleton->cL,mem_map_of_mem->cU,flatMap_append->cV,getElem?_take->c9,map_congr_left->dq,mem_iff_getElem->dA,perm_append_comm->dG,all_cons->dH,pairwise_append->dT,mem_flatMap->dU,length_drop->dW,nodup_nil->en,map_map->eo,getElem?_set_self->eA,pairwise_iff_getElem->eE,drop_eq_getElem_cons->eF,pairwise_cons->eM,mem_of_mem_drop->eV,prefix_iff_eq_take->eY,getElem?_cons_succ->eZ,drop_sublist->e8,length->fD,nodup_range->fG,lookup_cons->fH,length_take->fI,length_filter_le->fO,mem_filter->fR,reverse_perm->fS,pairwise_map->fT,mem_of_mem_tail->fU,getElem?_of_mem->fV,flatMap_nil->gD,any_eq_true->gG,of_mem_zip->iu,length_replicate->iE,take_sublist->iG,perm_ext_iff_of_nodup->iX,drop_left->iY,isEmpty_iff->i5,getElem_of_mem->jb,getElem?_drop->jm,length_eq_zero_iff->jq,set_eq_take_append_cons_drop->jD,take_zero->jK,take_take->jL,getElem?_inj->jM,drop_eq_nil_of_le->jN,drop_drop->jO,pairwise_reverse->kh,getElem?_toArray->ki,getElem?_eq_none->kj,ext_getElem->kA,take_left->lQ,reverse_cons->mL,ext_getElem?->mM,any_cons->m8,pairwise_singleton->nO,cons_append->nP,length_set->om,mem_iff_getElem?->oV,zipIdx_map_fst->qb,filterMap_cons->qc,mem_filterMap->qT,filter_append->qU,zipWith->sr,map_inj_left->su,getElem?_set->sv,zipIdx_cons->tK,drop_length->tL,take_append_of_le_length->t8,eq_nil_of_length_eq_zero->t9,drop_append_of_le_length->ua,length_zip->vO,length_nil->vP,forIn_cons->vQ,map->wC,drop_take->wD,map_take->zm,find?_range_eq_none->zo,pairwise_filterMap->zC,filter_cons_of_pos->zD,filter_cons_of_neg->zE,zipWith_cons_cons->BS,pairwise_lt_range->BU,length_eq_one_iff->BV,drop_of_length_le->BW,append_eq_nil_iff->BX,any_map->BY,length_reverse->Gf,filter_sublist->Gg,zip_cons_cons->HH,prefix_append->HI,map_inj_right->HJ,length_modify->HK,getElem_range->HL,tail_sublist->Ii,flatMap_cons->Ij,take_length->LU,reverse_nil->LV,perm_middle->LW,getElem_map->LX,zip_append->Mn,zipIdx_nil->Mo,nil_prefix->Mp,head?_cons->Mq,foldl_cons->Mr,filter_nil->Ms,forIn_nil->PD,drop_zero->PF
open List.Nodup renaming sublist->zp
open List.Pairwise renaming imp_of_mem->kN,imp->oo,nil->wF
open List.Perm renaming append_left->jE,trans->DX
open List.cons renaming injEq->fM,inj->gQ
open Nat renaming le_trans->aa,le_of_eq->ae,le_refl->ao,lt_of_le_of_lt->aq,le_of_lt->aD,le_antisymm->aF,zero_le->aT,le_add_right->aV,lt_of_lt_of_le->aW,succ_le_succ->aY,not_le_of_lt->aZ,le_of_succ_le_succ->a7,ne_of_lt->bb,lt_of_le_of_ne->bp,lt_irrefl->bx,lt_of_not_le->bR,le_of_not_lt->bS,pos_of_ne_zero->bV,lt_trans->cM,add_le_add->cO,add_sub_cancel_left->cY,le_succ_of_le->c5,min_eq_left->dO,sub_self->fX,lt_or_ge->fY,add_sub_of_le->fZ,add_le_of_le_sub->f7,zero_add->ic,add_right_comm->ie,le_add_left->iw,ne_of_gt->i8,min_le_left->jl,mod_lt->jo,min_le_right->kF,lt_succ_self->kG,add_assoc->kI,add_le_add_left->lH,sub_add_cancel->me,lt_trichotomy->mZ,lt_succ_of_lt->m6,lt_succ_of_le->m7,sub_le->oj,add_lt_of_lt_sub->pQ,le_succ->vN,not_lt_zero->wa,le_of_add_le_add_left->zl,lt_add_of_pos_right->BR,le_add_right_of_le->Cc,add_comm->Ce,lt_sub_of_add_lt->Gc,le_sub_of_add_le->Ge,testBit_two_pow->HG,sub_lt_of_lt->Mj,min_eq_right->Ml,lt_add_right->Mm,testBit_and->PC
open Ne renaming symm->cj
open Option renaming bind->bo,bind_some->bE,isNone_iff_eq_none->c6,map_some->df,map->j5,isSome_iff_exists->mJ,getD_some->sk,bind_eq_some_iff->xN,map_eq_some_iff->zk,getD_none->HF
open Option.some renaming inj->bA,injEq->je
open Prod renaming ext->DW
open Prod.mk renaming injEq->v9
open PyProof.Rows renaming SortSt->bM,callWith_type1->de,slot_tuple_getitem->dm,Keyed->jk,len_tuple->lP,IsTup->nj,lt_int->nN,AllBare->n9,SortKind->pq,callWith_builtin1->pC,getItem_tuple->qS,listUpdate_at->Gb,subscriptTail_builtinR->Ia,IntsAre->Ig,tail_any->Mh,seqEpoch_at->Mi
open PyProof.Rows.F renaming plain_set_update_loop->mX,entry_set_update_loop->mY
open PyProof.Rows.IsTup renaming new->Ie
open PyProof.Rows.SortSt renaming mk'->lG
open PySem renaming Value->aj,Shared->ak,sizeLine->aC,wpAny->aG,model->aI,Addr->aK,starEach->aS,Expr->a9,Str->bc,SetTable->bC,wpAny_setField_rec->bH,wpAny_call_entry->bJ,Around->cc,Heap->cg,Program->cz,wpAny_field->cA,wpAny_callSpecial?_slot->cB,World->dh,wpAny_isInstance->dv,wpAny_mono->dz,wpAny_seqItems->dB,wpAny_setState_of->dI,wpAny_newObj_type->dJ,cLine->dM,wpAny_holding->dQ,wpAny_specialOf->eJ,sizeLine_eq->eK,wpAny_Call_Name_kw->eW,mem_of_lookup->gv,wpAny_truthy_bool->gw,Builtin->gC,wpAny_attempt->gH,wpAny_forIn_list->hZ,wpAny_rule->iF,wpAny_passesOwn->iS,Stmt->i4,FuncData->jG,wpAny_tupleItemsOf->jT,wpAny_of_eq->jZ,wpAny_getItem_str_slice->j3,wpAny_typeOf->kB,codeAny_mono->kC,NameKind->kE,Obj->lF,codeAny_builtin->lX,Paired->lY,Scope->mI,wpAny_pyIter_list->n8,PassesOwn->pk,IsPair->pO,wpAny_updateSeq->p7,wpAny_loadPart'->p8,post_val_or_str->p9,isSubtype_tuple_tuple->qe,wpAny_updateSeq_pair->qY,isSubtype_stop->qZ,IsPart->rh,wpAny_onRaise->tH,wpAny_pyIter_slot->vV,concat_meets->vX,callType_new->vY,Pos->v7,wpAny_askSetting->xG,noFill_tuple_add->xH,entryFor_of_tree->xI,wpAny_ite_split->zv,wpAny_execs_nil->zw,placed->zx,wpAny_richCompare_same_room->BN,Sem->BO,ItemsOf->BP,BindsTo->BQ,wpAny_newTuple->B3,pyIter->B4,entryFor_alias->B5,Operator->B7,MulOk->B8,GenState->B9,wpAny_standAt->FY,wpAny_comprehension_free->FZ,seq_tuple_add->F6,plainId_quiet->F7,call->F8,seqIndex_neg->HU,Slot->HV,Tok->LP,Env->LS,wpAny_letGo->L9,seqIndex_of->Ma,codeAny_call_builtin->Mb,wpAny_setEntries_of->Py
open PySem.Builtin renaming bitNot->gr,bitOr->pB,bitAnd->HY
open PySem.Builtin.Frozenset renaming updateFrom->Me,sizeOf->Mf,isAnySet->Mg
open PySem.Builtin.List renaming listTooLong->fL,listLengthHint->j4,listFitsIndex->qR,listSameRef->sj
open PySem.Builtin.Slice renaming slicePlaces->iq,sliceAdjust->qQ
open PySem.Builtin.SmallTypes renaming nextOf->gY
open PySem.Builtin.Str renaming occurrences->tJ
open PySem.Builtin.Tuple renaming tupleHashOf->dZ,tupleItemsOf->kg
open PySem.Calls renaming spliced_cons->qg,spliced_nil->rk,Name_function_global->v8,callWith_builtin->zB
open PySem.Challenge renaming rw_dots_k33_is_written->l9
open PySem.Env renaming kindOf->rj
open PySem.F renaming slot_tuple_iterator_next->fQ,slot_tuple_hash->gp,slot_list_append->i7,plainAttrs_list->jh,slot_zip_next->jJ,args_object_init_2->kX,type_list_append->lZ,slot_list_extend->l5,args_tuple_add_2->l8,entry_tuple_add->mK,slot_tuple_add->ng,plainAttrs_str->ni,slot_tuple_eq->nW,args_tuple_iterator_next_1->pP,entry_tuple_iterator_next->qa,slot_tuple_getitem->t7,slot_dict_getitem->vM,args_zip_next_1->wB,entry_zip_next->xK,entry_set_init->xM,slot_tuple_lt->zh,slot_set_iter->zi,slot_dict_get->zj,called_set->Cb,args_list_extend_2->HX,entry_list_extend->LR
open PySem.Heap renaming get?_push_size->aL,SameBut->du,size_push->fK,get?_update_self->iD,get?_update_other->jI,get?_none_of_le->pA,ExtBut->DV
open PySem.Heap.SameBut renaming update->nM
open PySem.NameKind renaming free->dY,cell->lO
open PySem.Obj renaming mapSeq->eN,data_mapFields->HW
open PySem.Paired renaming length->wA
open PySem.PassesOwn renaming never->DU
open PySem.ScopeKind renaming function->zA
open PySem.SeqAt renaming RcNeAt->zz,RcAt->F9,EqAt->Ga
open PySem.SetTable renaming below->aM,Probe->bK,insertAt->cW,runEnd->dC,advance->dN,bits->dX,toList_insertAt->eG,sizeAbove->fA,leap->gW,grown->iC,turns->kR,slot->lL,laid->lM,fits->lN,fill->ph,has->wz,layClean->B6,tooFull->DT,Met->LQ
open PySem.SetTable.below renaming go->kD
open PySem.SetTable.layClean renaming free->di
open PySem.SetTable.probe renaming go->cv
open PySem.Str renaming ofString->ab
open PySem.Txt renaming slice->bN,startswith3->gV,upper->rf,join->tf,slice_le->zy
open PySem.Unicode renaming upperOf->td
open PySem.Value renaming ref->c7,none->fJ,type->kc,bool->v5,isStrOf->Pz
open PySem.W renaming Frag->aP,keepIn->fB,kia_one->gR,OpenLaw->ja,nsIn->nc,fnOf->qf,codeIn->t6,WalkO->vZ,cellsFrom_some->xJ,mg_of->LN,kas_item->Md
open PySem.pickOrder renaming go->vW
open Sum renaming inr->bI,inl->wx
open Sum.inl renaming inj->si
open Sum.inr renaming inj->oi
open True renaming intro->n6
set_option Elab.async false
set_option compiler.extract_closed false
set_option linter.all false
set_option maxRecDepth 100000
set_option maxHeartbeats 4000000
def ck{α β:Type _}{x:Option α}{f:α->Option β}{b:β}(h:x.bind f=a_ b):∃a,x=a_ a/\f a=a_ b:=xN.mp h
def ee{α β:Type _}{x:Option α}{f:α->β}{b:β}(h:x.map f=a_ b):∃a,x=a_ a/\f a=b:=zk.mp h
open PySem PySem.Spec in def wb9:=@wpAny_bind
open PySem PySem.Spec in def wu9:=@wpAny_pure
open PySem in def hp9:=@Heap.get?_push_of_some
open PySem in def hl9:=@Heap.lt_size
def jv{α:Type _}{a:α}{l:List α}:a∈a::l:=List.mem_cons_self
def ju{α:Type _}(y:α){a:α}{l:List α}(h:a∈l):a∈y::l:=List.mem_cons_of_mem y h
def cy{p:Prop}[Decidable p](h:decide p=c_:=by rfl):p:=of_decide_eq_true h
theorem ac{G:Prop}(h:∀P:Prop,(G->P)->P):G:=h G id
def G5{e f:Nat}(h:e<=f:=by simp +arith):e<=f:=h
def lwq{e f:Nat}(h:e=f:=by simp +arith):e=f:=h
def ig{a b e f:Nat}(h1:a<=b)(h:e+b<=f+a:=by simp +arith):e<=f:=by omega
def j8{a b c d e f:Nat}(h1:a<=b)(h2:c<=d)(h:e+b+d<=f+a+c:=by simp +arith):e<=f:=by omega
def qV{a b c d i j e f:Nat}(h1:a<=b)(h2:c<=d)(h3:i<=j)(h:e+b+d+j<=f+a+c+i:=by simp +arith):e<=f:=by omega
def Tw{a b c d i j k l e f:Nat}(h1:a<=b)(h2:c<=d)(h3:i<=j)(B:k<=l)(h:e+b+d+j+l<=f+a+c+i+k:=by simp +arith):e<=f:=by omega
def Y6{a b:Nat}(h1:a<=b)(h:b+1<=a:=by simp +arith):False:=aZ h h1
def Tv{a b c d:Nat}(h1:a<=b)(h2:c<=d)(h:b+d+1<=a+c:=by simp +arith):False:=aZ h (cO h1 h2)
def Tu{a b c d i j:Nat}(h1:a<=b)(h2:c<=d)(h3:i<=j)(h:b+d+j+1<=a+c+i:=by simp +arith):False:=aZ h (cO (cO h1 h2) h3)
def Ts{a b c d i j k l:Nat}(h1:a<=b)(h2:c<=d)(h3:i<=j)(B:k<=l)(h:b+d+j+l+1<=a+c+i+k:=by simp +arith):False:=by omega
def ws{a b:Nat}(h:b<=a):a - b+b<=a:=Nat.add_le_of_le_sub h (Nat.le_refl _)
def wt{a b:Nat}(h:b<=a):a<=a - b+b:=by omega
def Z9{e f:Int}(h:e<=f:=by simp +arith):e<=f:=h
def HN{a b e f:Int}(h1:a<=b)(h:e+b<=f+a:=by simp +arith):e<=f:=by omega
def iw2{a b c d e f:Int}(h1:a<=b)(h2:c<=d)(h:e+b+d<=f+a+c:=by simp +arith):e<=f:=by omega
def iw3{a b c d i j e f:Int}(h1:a<=b)(h2:c<=d)(h3:i<=j)(h:e+b+d+j<=f+a+c+i:=by simp +arith):e<=f:=by omega
def aaW{a b:Int}(h1:a<=b)(h:b+1<=a:=by simp +arith):False:=by omega
def aaV{a b c d:Int}(h1:a<=b)(h2:c<=d)(h:b+d+1<=a+c:=by simp +arith):False:=by omega
def aaU{a b c d i j:Int}(h1:a<=b)(h2:c<=d)(h3:i<=j)(h:b+d+j+1<=a+c+i:=by simp +arith):False:=by omega
theorem ad{a b:Nat}(h:b<=a):a-b+b<=a:=by omega
theorem am{a b:Nat}(h:b<=a):a<=a-b+b:=by omega
theorem ar(a b:Nat)(h:b<=a):a-b+b<=a:=ad h
theorem ay(a b:Nat):a<=a-b+b:=by omega
theorem a0(a b:Nat)(h:a<=b):a<=min a b:=by omega
theorem a1(a b:Nat)(h:b<=a):b<=min a b:=by omega
theorem a2(l r:Nat)(h:l+1<=r):l<=(l+r)/2/\(l+r)/2+1<=r:=by omega
theorem a3(l r:Nat)(h:l+1<=r):(r-l)/2+1<=r-l:=by omega
theorem a4{a b c d i j k l m n e f:Nat}(h1:a<=b)(h2:c<=d)(h3:i<=j)(h4:k<=l)(h5:m<=n)(h:e+b+d+j+l+n<=f+a+c+i+k+m:=by simp +arith):e<=f:=by omega
def wS(a b:Nat)(h:b<=a):a - b+b<=a:=ws h
def wT(a b:Nat):a<=a - b+b:=by omega
def wd(a:Nat):2 * (a / 2)<=a:=by omega
namespace L2
open PySem PySem.Spec PyProof.Rows
abbrev Key:=Sum Int bc
noncomputable def w5:Key->aj->Bool
 |.inl k,v=>Value.isInt k v
 |.inr x,v=>Pz x v
noncomputable def Ze(w:dh):Key->Int
 |.inl k=>hashInt k
 |.inr x=>hashStr w x
def cZ:∀{k:Key}{v:aj},w5 k v=c_->(∃i t,k=wx i/\v=Value.int i t)\/(∃x t,k=bI x/\v=Value.str x t)
 |.inl i,v,h=>by
   obtain⟨t,e⟩:=Value.isInt_shape h;exact .inl ⟨i,t,rfl,e⟩
 |.inr x,v,h=>by
   obtain⟨t,e⟩:=Value.isStrOf_shape h;exact .inr ⟨x,t,rfl,e⟩
def G8(i:Int)(t:LP):w5 (.inl i) (.int i t)=c_:=by simp[w5,Value.isInt]
def G7(x:bc)(t:LP):w5 (.inr x) (.str x t)=c_:=by simp[w5,Pz]
def TY(a b:Int):decide ((wx a:Key)=wx b)=(a == b):=by
 grind
def TR(a b:bc):decide ((bI a:Key)=bI b)=decide (a=b):=by
 simp
def TX(a:Int)(b:bc):decide ((wx a:Key)=bI b)=d_:=decide_eq_false (λq=>nomatch q)
def TV(a:bc)(b:Int):decide ((bI a:Key)=wx b)=d_:=decide_eq_false (λq=>nomatch q)
def dx(prog:cz)(w:dh):PySem.KeyKind prog w Key where
 is:=w5
 hash:=Ze w
 inj:=λv a b ha hb=>by
  rcases cZ ha with⟨i,t,rfl,rfl⟩|⟨x,t,rfl,rfl⟩
  .rcases cZ hb with⟨j,u,rfl,e⟩|⟨y,u,rfl,e⟩
   .injection e with e1 _;rw[e1]
   .exact nomatch e
  .rcases cZ hb with⟨j,u,rfl,e⟩|⟨y,u,rfl,e⟩
   .exact nomatch e
   .injection e with e1 _;rw[e1]
 byValue:=λk v h=>by
  rcases cZ h with⟨i,t,rfl,rfl⟩|⟨x,t,rfl,rfl⟩<;>rfl
 pyHash:=λc h=>by
  rcases cZ c with⟨i,t,rfl,rfl⟩|⟨x,t,rfl,rfl⟩
  .exact wpAny_pyHash_int h
  .exact wpAny_pyHash_str h
 eqBool:=λd c h=>by
  rcases cZ d with⟨i,t,rfl,rfl⟩|⟨x,t,rfl,rfl⟩
  .rcases cZ c with⟨j,u,rfl,rfl⟩|⟨y,u,rfl,rfl⟩
   .rw[TY]at h;exact wpAny_eqBool_int h
   .rw[TX]at h;exact SeqAt.EqAt.int_str i t y u _ _ _ _ h
  .rcases cZ c with⟨j,u,rfl,rfl⟩|⟨y,u,rfl,rfl⟩
   .rw[TV]at h;exact SeqAt.EqAt.str_int x t j u _ _ _ _ h
   .rw[TR]at h;exact wpAny_eqBool_str h
 «strs» :=λk x t v h=>by
  rcases cZ h with⟨i,u,rfl,e⟩|⟨y,u,rfl,e⟩
  .exact nomatch e
  .injection e with e1 _
   subst e1;cases v<;>rfl
def Ay(prog:cz)(w:dh)(i:Int)(t:LP):(dx prog w).is (.inl i) (.int i t)=c_:=G8 i t
def Ax(prog:cz)(w:dh)(x:bc)(t:LP):(dx prog w).is (.inr x) (.str x t)=c_:=G7 x t
def Pn(h h':cg):Prop:=∀b o,h.get? b=a_ o->o.cls=.type "tuple"->(∃its n,o.data=.seq its n)->h'.get? b=a_ o
structure Ik(P:cz)(w:dh) where
 κ:Type
 d:Nat
 is:cg->κ->aj->Prop
 hash:κ->Int
 draw:κ->Nat
 inj:∀{h:cg}{x y:κ}{v:aj},is h x v->is h y v->x=y
 nY:∀{h h':cg}{k:κ}{v:aj},Pn h h'->is h k v->is h' k v
 hsh:∀{A:cc}{E:aj->ak->Prop}{s:ak}{k:κ}{v:aj}{Q:Int->ak->Prop},A.units+d<=dM->is s.heap k v->Q (hash k) { s with toks:=s.toks+draw k }->aG (aI P w) A (pyHash v) Q E s
 eqb:∀{A:cc}{E:aj->ak->Prop}{s:ak}{x y:κ}{u v:aj}{Q:Bool->ak->Prop},A.units+d<=dM->is s.heap x u->is s.heap y v->(x=y->Q c_ s)->(x≠y->Q d_ s)->aG (aI P w) A (eqBool u v) Q E s
 qui:∀{A:cc}{E:aj->ak->Prop}{s:ak}{k:κ}{v:aj}{Q:Bool->ak->Prop}{n:Nat},d<=n->is s.heap k v->Q c_ s->aG (aI P w) A (eqIsQuiet n v) Q E s
 cla:∀{A:cc}{E:aj->ak->Prop}{s:ak}{k:κ}{v:aj}{Q:Bool->ak->Prop}{n:Nat},d<=n->is s.heap k v->Q d_ s->aG (aI P w) A (ofAClassStatement n v) Q E s
 hbv:∀{A:cc}{E:aj->ak->Prop}{s:ak}{k:κ}{v:aj}{Q:Bool->ak->Prop}{n:Nat},d<=n->is s.heap k v->(∀b,Q b s)->aG (aI P w) A (hashByValue n v) Q E s
section
variable{P:cz}{w:dh}{A:cc}{E:aj->ak->Prop}{z0:ak}{I:Ik P w}
def Ll(B:carriedByValue v=c_)(h:Q d_ z0):aG (aI P w) A (ofAClassStatement n v) Q E z0:=by
 cases v<;>first|(cases B;done)|(exact wu9 h)|(cases n<;>(exact wu9 h))
def Ue(B:carriedByValue v=c_)(h:∀b,Q b z0):aG (aI P w) A (hashByValue n v) Q E z0:=by
 cases v<;>first|(cases B;done)|(unfold hashByValue;exact wu9 (h _))|simp
abbrev G9(P:cz)(w:dh):Ik P w where
 κ:=Key
 d:=0
 is:=λ_ k v=>(dx P w).is k v=c_
 hash:=(dx P w).hash
 draw:=λ_=>1
 inj:=λex b=>(dx P w).inj _ _ _ ex b
 nY:=λ_ x=>x
 hsh:=λ_ a h=>(dx P w).pyHash a h
 eqb:=λ{A E s x y u v Q}_ ex b h1 h2=>(dx P w).eqBool ex b (by
  by_cases e:x=y
  .rw[decide_eq_true e];exact h1 e
  .rw[decide_eq_false e];exact h2 e)
 qui:=λ_ a h=>by rw[eqIsQuiet_byValue _ ((dx P w).byValue _ _ a)];exact wu9 h
 cla:=λ_ a h=>Ll ((dx P w).byValue _ _ a) h
 hbv:=λ_ a h=>Ue ((dx P w).byValue _ _ a) h
inductive qW (I:Ik P w) (h:cg):List I.κ->List aj->Prop
 |nil:qW I h [] []
 |cons {k:I.κ} {v:aj} {ks:List I.κ} {vs:List aj}:I.is h k v->qW I h ks vs->qW I h (k::ks) (v::vs)
def qX(I:Ik P w)(h:cg)(ks:List I.κ)(p:aK):Prop:=∃o a n,h.get? p=a_ o/\o.cls=.type "tuple"/\o.data=.seq a n/\qW I h ks a.toList
theorem qW.inj(ex:qW I h x vs)(B:qW I h y vs):x=y:=by
 induction ex generalizing y with
 |nil=>cases B;rfl
 |cons h1 _ a=>
   cases B with
   |cons h2 b=>rw[I.inj h1 h2,a b]
theorem qW.length(x:qW I h ks vs):vs.length=ks.length:=by
 induction x with
 |nil=>rfl
 |cons _ _ a=>simp[a]
theorem qW.nY(k:Pn h h')(x:qW I h ks vs):qW I h' ks vs:=by
 induction x with
 |nil=>exact .nil
 |cons h1 _ a=>exact .cons (I.nY k h1) a
def qX.typeIs(x:qX I z0.heap ks p):z0.TypeIs (.ref p) "tuple":=let ⟨o,_,_,go,gc,_⟩:=x;⟨o,go,gc⟩
def qX.inj(ex:qX I h x p)(B:qX I h y p):x=y:=by
 refine ac λ_ j=>?_;obtain⟨o,e,n,go,_,f,g⟩:=ex;obtain⟨o',b,i,c,_,a,d⟩:=B;obtain rfl:o=o':=bA (go.symm.trans c);refine j ?_;rw[f]at a
 injection a with h1 _
 subst h1;exact g.inj d
def qX.nY(k:Pn h h')(x:qX I h ks p):qX I h' ks p:=
 let ⟨o,its,n,h1,h2,h3,h4⟩:=x;⟨o,_,n,k p o h1 h2 ⟨_,_,h3⟩,h2,h3,h4.nY k⟩
def XD{h h':cg}(go:h.get? d=a_ o)(B:o.cls≠.type "tuple")(k:∀b o,b≠d->h.get? b=a_ o->h'.get? b=a_ o):Pn h h':=λb o' e c _=>
 k b o' (λz=>by
   simp_all) e
noncomputable def Fc(I:Ik P w)(ks:List I.κ):Int:=reduceHash (dZ (ks.map I.hash))
def Dp(O:A.units+(I.d+1)<=dM)(B:qX I z0.heap ks p)(h:Q (Fc I ks) { z0 with toks:=z0.toks+((ks.map I.draw).sum+1) }) :
  aG (aI P w) A (pyHash (.ref p)) Q E z0:=by
 have gt:=B.typeIs;obtain⟨o,j,n,go,_,l,m⟩:=B
 first|unfold pyHashByItsType|skip
 first|refine wb9 (wpAny_cRoomFor_or (.inr (aq (aV _ _) O)) ?_)|skip
 refine wb9 (eJ gt gp.lookup ?_);refine wb9 (eJ gt gp.lookup ?_);refine wb9 (wpAny_callSpecialIfBoundUnlessNone?_slot gt gp (bJ gp gt PySem.F.entry_tuple_hash ?_ (PySem.F.args_tuple_hash_1 _)));refine (?_ : aG _ _ (kg _ >>= _) _ _ z0);refine wb9 (jT go l ?_);refine wb9 ?_;rw[<-lJ]
 refine hZ _
  (λtl(b)c=>∃pre a,ks=pre++a/\qW I _ a tl/\b.toList=pre.map I.hash/\c={ z0 with toks:=z0.toks+(pre.map I.draw).sum })
  _ ?_ ?_ _ _ ⟨[],ks,rfl,m,rfl,rfl⟩
 .rintro x tl b c ⟨pre,a,rfl,e,f,rfl⟩
  cases e with
  | @cons k _ g _ h1 i=>
    refine wb9 (I.hsh ?_ h1 ?_)
    .grind
    first
     |exact wu9 ⟨pre++[k],g,by simp,i,by simp[f],by simp[kI]⟩
     |simp
 .rintro b c ⟨pre,a,rfl,e,f,rfl⟩;refine ac λ_ q=>?_;cases e;refine q ?_;rw[aE]at h;show aG _ _ (retInt (dZ _)) ..;rw[f];refine wpAny_ret_mkInt ?_;refine (?_ : aG _ _ (if(decide (-(2) ^ 63<=dZ (pre.map _)) && decide (dZ (pre.map _)<2 ^ 63))=c_ then _ else _) Q E _);unfold Fc reduceHash at h;by_cases ge:(decide (-(2) ^ 63<=dZ (pre.map I.hash)) && decide (dZ (pre.map I.hash)<2 ^ 63))=c_
  .rw[if_pos ge];rw[if_pos ge]at h;exact wu9 (by simpa [kI]using h)
  .rw[if_neg ge];rw[if_neg ge]at h;exact wb9 (iF (wu9 (by simpa [kI]using h)))
def K7(Y:A.units+I.d<=dM)(ex:qX I z0.heap x p)(O:qX I z0.heap y b)(h1:x=y->R (.done (.ret (.bool c_))) z0)(h2:x≠y->R (.done (.ret (.bool d_))) z0) :
  aG (aI P w) A (gC.«tuple.__eq__» ⟨[.ref p,.ref b],[]⟩) R E z0:=by
 have l:=O.typeIs;refine ac λ_ N=>?_;obtain⟨G,xs,na,m,_,n,o⟩:=ex;obtain⟨H,ys,nb,q,_,s,t⟩:=O;refine N ?_;show aG _ _ (isInstance _ (.type _) >>= _) _ _ z0;refine wb9 (dv l qe ?_);refine wb9 (jT m n ?_);refine wb9 (jT q s ?_);refine wb9 ?_
 refine hZ _
  (λtl r j=>r.1=b_/\j=z0/\∃x' k a c,tl=List.zip a c/\qW I _ x' a/\qW I _ k c/\(x'=k↔x=y)/\(a.length == c.length)=(xs.size == ys.size))
  _ ?_ ?_ _ _ ⟨rfl,rfl,x,y,_,_,rfl,o,t,LY,by simp⟩
 .rintro⟨u,v⟩ tl r j ⟨ge,rfl,x',k,a,c,gz,hx',hy',gdec,glen⟩
  cases hx' with
  |nil=>simp at gz
  | @cons J K z f D g=>
    cases hy' with
    |nil=>simp at gz
    | @cons L M B h F i=>
      refine ac λ_ N=>?_;obtain⟨⟨rfl,rfl⟩,rfl⟩:=gz;refine N ?_;refine wb9 (I.eqb Y D F (λC=>?_) λC=>(wb9 (wu9 (wu9 (wu9 (h2 λe=>C (gQ (gdec.mpr e)).1))))))
      .refine wu9 ⟨rfl,rfl,z,B,f,h,rfl,g,i,?_,by simpa using glen⟩
       simp_all
 .rintro⟨r1,r2⟩ j ⟨rfl,rfl,x',k,a,c,gz,hx',hy',gdec,glen⟩;refine wu9 ?_;show R (.done (.ret (.bool (xs.size == ys.size)))) j;rw[<-glen]
  cases hx' with
  |nil=>
    cases hy' with
    |nil=>exact h1 (gdec.mp rfl)
    |cons _ _=>simp_all
  |cons _ _=>
    cases hy' with
    |nil=>simp_all
    |cons _ _=>simp at gz
def tz{x y:List I.κ}{p b:aK}{Q:Bool->ak->Prop}(O:A.units+(I.d+1)<=dM)(ex:qX I z0.heap x p)(B:qX I z0.heap y b)(h1:x=y->Q c_ z0)(h2:x≠y->Q d_ z0) :
  aG (aI P w) A (eqBool (.ref p) (.ref b)) Q E z0:=by
 unfold eqBool
 try with_reducible refine dQ ?_
 by_cases a:(c7 p == c7 b)=c_
 .rw[if_pos a];have e:p=b:=by simp_all
  subst e;obtain rfl:=ex.inj B;exact wb9 (iF (wu9 (h1 rfl)))
 .rw[if_neg a]
  exact wb9 (BN ex.typeIs B.typeIs nW
   (bJ nW ex.typeIs PySem.F.entry_tuple_eq (K7 (by exact ig O) ex B (λe=>⟨_,rfl,(λe=>nomatch e),gw (h1 e)⟩) λe=>⟨_,rfl,(λe=>nomatch e),gw (h2 e)⟩) (PySem.F.args_tuple_eq_2 _ _)) (aq (aV _ _) O))
def tP(O:I.d<=n)(B:qX I z0.heap ks p)(h:Q c_ z0):aG (aI P w) A (eqIsQuiet (n+1) (.ref p)) Q E z0:=by
 have gt:=B.typeIs;obtain⟨o,e,m,go,_,f,g⟩:=B;unfold eqIsQuiet;refine wb9 (eJ gt nW.lookup ?_);refine wb9 (dv gt qe ?_);refine wb9 (dB go f ?_);refine wb9 ?_;rw[<-lJ];refine hZ _ (λtl r a=>r.1=b_/\a=z0/\∃l,qW I _ l tl) _ ?_ ?_ _ _ ⟨rfl,rfl,_,g⟩
 .rintro v tl r a ⟨ge,rfl,l,i⟩
  cases i with
  | @cons k _ b _ h1 c=>
    exact wb9 (I.qui O h1 (wu9 ⟨rfl,rfl,b,c⟩))
 .rintro⟨r1,r2⟩ a ⟨rfl,rfl,_⟩;exact wu9 h
def yP(B:I.d<=n)(O:qX I z0.heap ks p)(h:Q d_ z0):aG (aI P w) A (ofAClassStatement (n+1) (.ref p)) Q E z0:=by
 obtain⟨o,e,m,go,f,g,i⟩:=O;unfold ofAClassStatement;refine wb9 (wpAny_typeOf_ref go ?_);rw[f];refine wb9 (wu9 ?_);refine wb9 (dB go g ?_);refine wb9 ?_;rw[<-lJ];refine hZ _ (λtl r a=>r.1=b_/\a=z0/\∃l,qW I _ l tl) _ ?_ ?_ _ _ ⟨rfl,rfl,_,i⟩
 .rintro v tl r a ⟨ge,rfl,l,j⟩
  cases j with
  | @cons k _ b _ h1 c=>
    exact wb9 (I.cla B h1 (wu9 ⟨rfl,rfl,b,c⟩))
 .rintro⟨r1,r2⟩ a ⟨rfl,rfl,_⟩;exact wu9 h
def Qh(O:I.d<=n)(B:qX I z0.heap ks p)(h:∀b,Q b z0):aG (aI P w) A (hashByValue (n+1) (.ref p)) Q E z0:=by
 have gt:=B.typeIs;obtain⟨o,f,m,go,q,g,i⟩:=B;refine wb9 (eJ gt gp.lookup ?_);refine wb9 (dB go g ?_);refine wb9 ?_;rw[<-lJ];refine hZ _ (λtl r a=>r.1=b_/\a=z0/\∃l,qW I _ l tl) _ ?_ ?_ _ _ ⟨rfl,rfl,_,i⟩
 .rintro v tl r a ⟨ge,rfl,l,j⟩
  cases j with
  | @cons k _ c _ h1 e=>
    refine wb9 (I.hbv O h1 λb=>?_);cases b
    .exact wu9 (wu9 (h _))
    .exact wu9 ⟨rfl,rfl,c,e⟩
 .rintro⟨r1,r2⟩ a ⟨rfl,rfl,_⟩;exact wu9 (h _)
abbrev tupI(I:Ik P w):Ik P w where
 κ:=Sum Key (List I.κ)
 d:=I.d+1
 is:=λh k v=>match k with
  |.inl k=>(dx P w).is k v=c_
  |.inr ks=>∃b,v=.ref b/\qX I h ks b
 hash:=λk=>match k with
  |.inl k=>(dx P w).hash k
  |.inr ks=>Fc I ks
 draw:=λk=>match k with
  |.inl _=>1
  |.inr ks=>(ks.map I.draw).sum+1
 inj:=λ{h x y v}ex c=>by
  cases x with
  |inl k=>
    cases y with
    |inl k'=>exact congrArg _ ((dx P w).inj _ _ _ ex c)
    |inr ks=>obtain⟨b,rfl,_⟩:=c;exact nomatch ((dx P w).byValue _ _ ex)
  |inr ks=>
    obtain⟨b,rfl,q⟩:=ex
    cases y with
    |inl k'=>exact nomatch ((dx P w).byValue _ _ c)
    |inr j=>obtain⟨p,e,l⟩:=c;cases e;exact congrArg _ (q.inj l)
 nY:=λ{h h' k v}q x=>by
  cases k with
  |inl k=>exact x
  |inr ks=>obtain⟨b,e,z⟩:=x;exact⟨b,e,z.nY q⟩
 hsh:=λ{A E s k v Q}g a h=>by
  cases k with
  |inl k=>exact(dx P w).pyHash a h
  |inr ks=>obtain⟨b,rfl,z⟩:=a;exact Dp g z h
 eqb:=λ{A E s x y u v Q}g ex c h1 h2=>by
  cases x with
  |inl k=>
    cases y with
    |inl k'=>exact(G9 P w).eqb (by show A.units+0<=dM;exact aa (aV _ _) g) ex c (λe=>h1 (by rw[e])) λe=>h2 λz=>e (si z)
    |inr ks=>
      obtain⟨b,rfl,o,its,n,go,m,gd,_⟩:=c;have ht:s.heap.IsTuple b its:=⟨o,go,m,n,gd⟩
      rcases cZ ex with⟨i,t,rfl,rfl⟩|⟨z,t,rfl,rfl⟩
      .exact SeqAt.EqAt.int_tuple i t ht (aq (aV _ _) g) _ _ _ _ (h2 λe=>nomatch e)
      .exact SeqAt.EqAt.str_tuple z t ht (by omega) _ _ _ _ (h2 λe=>nomatch e)
  |inr ks=>
    obtain⟨b,rfl,q⟩:=ex
    cases y with
    |inl k'=>
      obtain⟨o,its,n,go,m,gd,_⟩:=q;have ht:s.heap.IsTuple b its:=⟨o,go,m,n,gd⟩
      rcases cZ c with⟨i,t,rfl,rfl⟩|⟨z,t,rfl,rfl⟩
      .exact SeqAt.EqAt.tuple_int i t ht (by omega) _ _ _ _ (h2 λe=>nomatch e)
      .exact SeqAt.EqAt.tuple_str z t ht (by omega) _ _ _ _ (h2 λe=>nomatch e)
    |inr j=>
      obtain⟨p,rfl,l⟩:=c;exact tz g q l (λe=>h1 (by rw[e])) λe=>h2 λz=>e (oi z)
 qui:=λ{A E s k v Q n}f a h=>by
  cases k with
  |inl k=>exact(G9 P w).qui (aT _) a h
  |inr ks=>
    obtain⟨b,rfl,z⟩:=a
    cases n with
    |zero=>exact((aZ f (aT _))).elim
    |succ n=>exact tP (a7 f) z h
 cla:=λ{A E s k v Q n}f a h=>by
  cases k with
  |inl k=>exact(G9 P w).cla (aT _) a h
  |inr ks=>
    obtain⟨b,rfl,z⟩:=a
    cases n with
    |zero=>omega
    |succ n=>exact yP (a7 f) z h
 hbv:=λ{A E s k v Q n}f a h=>by
  cases k with
  |inl k=>exact(G9 P w).hbv (aT _) a h
  |inr ks=>
    obtain⟨b,rfl,z⟩:=a
    cases n with
    |zero=>omega
    |succ n=>exact Qh (a7 f) z h
end
abbrev N2:=Sum Key (List Key)
abbrev NK:=Sum Key (List N2)
noncomputable instance aae:DecidableEq N2:=instDecidableEqSum
instance aad:DecidableEq NK:=instDecidableEqSum
abbrev i2(P:cz)(w:dh):Ik P w:=tupI (G9 P w)
abbrev i3(P:cz)(w:dh):Ik P w:=tupI (i2 P w)
abbrev YY(P:cz)(w:dh):cg->NK->aj->Prop:=(i3 P w).is
abbrev Vh(P:cz)(w:dh):cg->List NK->List aj->Prop:=qW (i3 P w)
abbrev qd(P:cz)(w:dh):cg->List NK->aK->Prop:=qX (i3 P w)
abbrev dS(P:cz)(w:dh):List NK->Int:=Fc (i3 P w)
section
variable{A:cc}{z0:ak}
def Gm:(i3 P w).d<=7:=by show 2<=7;simp
def Xp(B:A.units+3<=dM)(ex:qd P w z0.heap x p)(O:qd P w z0.heap y b)(h:Q (decide (x=y)) z0) :
  aG (aI P w) A (eqBool (.ref p) (.ref b)) Q E z0:=
 tz B ex O (λe=>by simp_all) λe=>by simp_all
end
def WQ(P:cz)(w:dh):HeapKind P w (List NK) where
 is:=qd P w
 hash:=dS P w
 draws:=λks=>(ks.map (i3 P w).draw).sum+1
 room:=λA=>A.units+3<=dM
 inj:=λex c=>ex.inj c
 keeps:=λ{h h' k a d o es ep}x go gd f=>x.nY λb o' e _ ⟨j,l,q⟩=>(f.2 b λz=>by
  subst z;rw[go]at e;cases e
  rw[gd]at q;cases q).trans e
 pyHash:=λg i h=>Dp g i h
 eqBool:=λg ex c h=>Xp g ex c h
 quiet:=λi h=>tP Gm i h
inductive V where
 |non|bl (b:Bool)|int (i:Int)|str (x:bc)|byt (b:Array UInt8)|flt (b:UInt64)|ref (a:aK)|ty (n:String)
 deriving DecidableEq
def RelV:V->aj->Prop
 |.non,u=>u=fJ
 |.bl b,u=>u=v5 b
 |.int i,u=>∃t,u=Value.int i t
 |.str x,u=>∃t,u=Value.str x t
 |.byt b,u=>∃t,u=Value.bytes b t
 |.flt b,u=>∃t,u=Value.float b t
 |.ref a,u=>u=c7 a
 |.ty n,u=>u=kc n
abbrev cR:List V->List aj->Prop:=lY RelV
def cR.length(r:cR xs us):xs.length=us.length:=wA r
theorem cR.get:∀{xs:List V}{us:List aj}{i:Nat}{x:V},cR xs us->xs[i]?=a_ x->∃u,us[i]?=a_ u/\RelV x u
 |_,_,_,_,.nil,e=>by simp at e
 |_,_,0,_,.cons r _,e=>by simp at e;subst e;exact⟨_,rfl,r⟩
 |_,_,i+1,x,.cons _ t,e=>by
   obtain⟨u,h1,h2⟩:=cR.get t (by simpa using e);exact⟨u,by simpa using h1,h2⟩
theorem cR.set(r:RelV x u):∀{xs:List V}{us:List aj}(i:Nat),cR xs us->cR (xs.set i x) (us.set i u)
 |_,_,_,.nil=>.nil
 |_,_,0,.cons _ t=>.cons r t
 |_,_,i+1,.cons q t=>.cons q (cR.set r i t)
theorem cR.append:∀{xs ys:List V}{us ws:List aj},cR xs us->cR ys ws->cR (xs++ys) (us++ws)
 |_,_,_,_,.nil,s=>s
 |_,_,_,_,.cons r t,s=>.cons r (cR.append t s)
theorem cR.take:∀{xs:List V}{us:List aj}(n:Nat),cR xs us->cR (xs.take n) (us.take n)
 |_,_,0,_=>.nil
 |_,_,_+1,.nil=>.nil
 |_,_,n+1,.cons r t=>.cons r (cR.take n t)
theorem cR.drop:∀{xs:List V}{us:List aj}(n:Nat),cR xs us->cR (xs.drop n) (us.drop n)
 |_,_,0,r=>r
 |_,_,_+1,.nil=>.nil
 |_,_,n+1,.cons _ t=>cR.drop n t
def BK:Option V->Option aj->Prop
 |some v,a_ u=>RelV v u
 |none,b_=>True
 |_,_=>False
def KV{κ:Type}:List (κ×V)->List (κ×aj)->Prop:=lY λ(p:κ×V)(q:κ×aj)=>p.1=q.1/\RelV p.2 q.2
noncomputable def kV:Key->V
 |.inl i=>.int i
 |.inr x=>.str x
inductive HO where
 |lst (xs:List V)
 |tup (xs:List V)
 |dK (k_:List (Key×V))
 |kK (o:lF) (u:HO)
abbrev Hp:=aK->Option HO
noncomputable def upd(H:Hp)(a:aK)(o:HO):Hp:=λb=>if b=a then a_ o else H b
def cC:upd H a o a=a_ o:=by unfold upd;rw[if_pos rfl]
def dR(h:b≠a):upd H a o b=H b:=by unfold upd;rw[if_neg h]
def Z0{H:Hp}{a b:aK}{o u:HO}(h:H a=a_ o)(h':H b=a_ u)(d:o≠u):a≠b:=by
 intro e;simp_all
def iM{H:Hp}{a b:aK}{o:HO}(h:H a=a_ o)(h':H b=b_):a≠b:=by
 intro e;simp_all
section
variable(P:cz)(w:dh)
def ku(H:Hp)(h:cg)(a:aK):HO->Prop
 |.lst xs=>xs.length<=aC/\∃(its:List aj) (n:Nat),cR xs its/\h.get? a=a_ { cls:=.type "list",data:=.seq its.toArray n }
 |.tup xs=>xs.length<=aC/\∃its:List aj,cR xs its/\nj h a its.toArray
 |.dK k_=>k_.length<=aC/\(a == sysModules)=d_/\∃vs,KV k_ vs/\h.DictOf (dx P w) a vs
 |.kK o u=>h.get? a=a_ o/\ku H h a u
def sY(H:Hp)(h:cg):Prop:=∀a o,H a=a_ o->ku P w H h a o
end
section
variable{P:cz}{w:dh}{H:Hp}{h h':cg}{a:aK}{o:HO}
theorem ku.lt(x:ku P w H h a o):a<h.objs.size:=by
 cases o with
 |lst xs=>obtain⟨_,_,_,_,e⟩:=x;exact hl9 e
 |tup xs=>obtain⟨_,_,_,p⟩:=x;exact p.lt
 |dK k_=>obtain⟨_,_,_,_,o,_,_,e,_⟩:=x;exact hl9 e
 |kK b u=>exact hl9 x.1
def ku.nY(x:ku P w H h a o)(k:∀u,h.get? a=a_ u->h'.get? a=a_ u):ku P w H' h' a o:=by
 induction o with
 |lst xs=>obtain⟨z,its,n,r,e⟩:=x;exact⟨z,_,n,r,k _ e⟩
 |tup xs=>obtain⟨z,its,r,b,e,c⟩:=x;exact⟨z,_,r,b,k _ e,c⟩
 |dK k_=>obtain⟨z,y,vs,r,b,es,ep,e,c⟩:=x;exact⟨z,y,vs,r,b,es,ep,k _ e,c⟩
 |kK b u d=>exact⟨k _ x.1,d x.2⟩
def sY.lt(x:sY P w H h)(e:H a=a_ o):a<h.objs.size:=(x a o e).lt
def sY.fresh(x:sY P w H h)(e:h.objs.size<=a):H a=b_:=by
 cases q:H a with
 |none=>rfl
 |some u=>exact absurd (aW (x.lt q) e) (bx _)
def sY.kept(x:sY P w H h)(k:∀b u,h.get? b=a_ u->h'.get? b=a_ u):sY P w H h':=λa o e=>
 (x a o e).nY (k a)
def sY.laid(x:sY P w H h)(k:∀b u,h.get? b=a_ u->h'.get? b=a_ u)(hp:h.objs.size<=a)(new:ku P w (upd H a o) h' a o):sY P w (upd H a o) h':=λb u e=>by
 by_cases hb:b=a
 .subst hb;rw[cC]at e;cases e;exact new
 .rw[dR hb]at e;exact(x b u e).nY (k b)
end
def Rd(H:Hp)(a:aK)(u:HO):Prop:=H a=a_ u\/∃o,H a=a_ (.kK o u)
def Rd.ok(r:Rd H a u)(x:sY P w H h):ku P w H h a u:=by
 rcases r with r|⟨o,r⟩
 .exact x a u r
 .exact (x a _ r).2
def Yg:Option HO->Prop
 |some (.lst _)=>True
 |some (.dK _)=>True
 |_=>False
section
variable{h':cg}
def sY.write(ok:sY P w H h)(k:∀b u,b≠x->h.get? b=a_ u->h'.get? b=a_ u)(new:ku P w (upd H x o') h' x o'):sY P w (upd H x o') h':=λb u q=>by
 by_cases hb:b=x
 .subst hb;rw[cC]at q;cases q;exact new
 .rw[dR hb]at q;exact(ok b u q).nY λv=>k b v hb
end
structure Un(fs ex:List aK)(H H':Hp)(h h':cg):Prop where
 keep:∀b o,h.get? b=a_ o->H b=b_->b∉fs->b∉ex->h'.get? b=a_ o
 slot:∀b o,h.get? b=a_ o->H b=b_->b∈fs->b∉ex->∃sl,h'.get? b=a_ { o with slots:=sl }
 free:∀b o,h.get? b=a_ o->H b=b_->b∉ex->H' b=b_
 there:∀b o,h.get? b=a_ o->b∉ex->∃o',h'.get? b=a_ o'
 tups:∀b xs,H b=a_ (.tup xs)->H' b=a_ (.tup xs)
 frzs:∀b o u,H b=a_ (.kK o u)->H' b=a_ (.kK o u)
section
variable{h h':cg}
def Un.any(u:Un fs ex H H1 h h1)(q:h.get? b=a_ ob)(n:H b=b_)(B:b∉ex):∃sl,h1.get? b=a_ { ob with slots:=sl }:=by
 by_cases hb:b∈fs
 .exact u.slot b ob q n hb B
 .exact⟨_,u.keep b ob q n hb B⟩
def Un.kept(k:∀b u,h.get? b=a_ u->h'.get? b=a_ u):Un fs ex H H h h':=
 ⟨λb a q _ _ _=>k b a q,λb a q _ _ _=>⟨_,k b a q⟩,λ_ _ _ n _=>n,λb a q _=>⟨a,k b a q⟩,λ_ _ q=>q,λ_ _ _ q=>q⟩
def Un.refl:Un fs ex H H h h:=Un.kept λ_ _ q=>q
def Un.laid(k:∀b u,h.get? b=a_ u->h'.get? b=a_ u)(hp:h.objs.size<=a)(B:H a=b_):Un fs ex H (upd H a o) h h' where
 keep:=λb u q _ _ _=>k b u q
 slot:=λb u q _ _ _=>⟨u.slots,k b u q⟩
 free:=λb u q n _=>by rw[dR (bb (aW (hl9 q) hp))];exact n
 there:=λb u q _=>⟨u,k b u q⟩
 tups:=λb xs q=>by rw[dR (iM q B)];exact q
 frzs:=λb u xs q=>by rw[dR (iM q B)];exact q
def Un.write(B:Yg (H x))(k:∀b u,b≠x->h.get? b=a_ u->h'.get? b=a_ u)(O:∃u,h'.get? x=a_ u):Un fs ex H (upd H x o) h h':=by
 have c:∀b,H b=b_->b≠x:=λb n z=>by subst z;rwa[n]at B
 have d:∀b u,H b=a_ u->¬Yg (a_ u)->b≠x:=λb u q nm z=>by subst z;rw[q]at B;exact nm B
 refine⟨λb u q n _ _=>k b u (c b n) q,λb u q n _ _=>⟨_,k b u (c b n) q⟩,λb u q n _=>by rwa[dR (c b n)],λb u q _=>?_,
  λb xs q=>by rwa[dR (d b _ q λz=>z)],λb u xs q=>by rwa[dR (d b _ q λz=>z)]⟩
 by_cases a:b=x
 .subst a;exact O
 .exact⟨u,k b u a q⟩
end
noncomputable def X2(h:cg)(H:Hp):List aK:=(aR h.objs.size).filter λa=>(H a).isSome
def AS(h:cg)(H:Hp):cg:=PySem.W.hideAll h (X2 h H)
def Hg(h:cg)(H:Hp):(AS h H).objs.size=h.objs.size:=PySem.W.hideAll_size _ _
def KI{h:cg}(e:h.get? b=a_ o)(n:H b=b_):(AS h H).get? b=a_ o:=
 PySem.W.hideAll_get _ e λa=>by
  have q :=(fR.mp a).2;rw[n]at q;simp at q
def N1(e:(AS h H).get? b=a_ o):h.get? b=a_ o/\H b=b_:=by
 have a :=PySem.W.of_hideAll _ e;refine⟨a,?_⟩
 cases q:H b with
 |none=>rfl
 |some x=>
   have z:(AS h H).get? b=b_:=PySem.W.hideAll_none _ (fR.mpr ⟨bf.mpr (hl9 a),by simp[q]⟩);rw[z]at e;cases e
noncomputable def Pl(g h:cg)(L:aK):List (aK×lF):=(aR h.objs.size).filterMap λa=>if a=L\/(g.get? a).isSome=c_ then b_ else(h.get? a).map λo=>(a,o)
def rest(g h:cg)(L d:aK):List (aK×lF):=(Pl g h L).filter λp=>decide (p.1≠d)
structure Mod(K:aP)(mg:bc->Option aj)(base:cg):Prop where
 kin:K.In base
 glob:base.Ns mainGlobals mg
 blt:∃mb,base.Ns builtinsNs mb/\∀x:bc,x≠"__name__"->mb x=bootBuiltins x
 nolimit:base.NoLimit
structure Cx where
 prog:cz
 w:dh
 K:aP
 mg:bc->Option aj
 base:cg
 A:cc
 N:List bc
 s₀:ak
 H₀:Hp
 env:LS
 outer:List LS
 stack:List LS
 ex:List aK
 fn:bc->Bool
 calm:Bool
 pn:List (aK×lF)
 xe:aj->ak->Prop
noncomputable def HP(l:List LS):List aK:=l.filterMap (·.frame)
abbrev Cx.fs(X:Cx):List aK:=HP X.outer
def Qz(sc:mI)(x:bc):Prop:=sc.names.lookup x=a_ .local\/sc.names.lookup x=a_ .cell\/sc.names.lookup x=a_ .free
def Loc(sc:mI)(x:bc):Prop:=sc.names.lookup x=a_ .local\/sc.names.lookup x=a_ .cell
def Look(env:LS)(h:cg)(m:bc->Option aj)(x:bc)(u:aj):Prop:=
 (env.kindOf x=a_ .local/\m x=a_ u)\/((env.kindOf x=a_ .cell\/env.kindOf x=a_ .free)/\∃c,env.cells.lookup x=a_ c/\h.IsCell c (a_ u))
structure Cx.Ok(X:Cx):Prop where
 mod:Mod X.K X.mg X.base
 kind:X.env.scope.kind=.function
 glob:X.env.globals=mainGlobals
 blt:X.env.builtins=builtinsNs
 above:X.s₀.heap.objs.size<=X.env.locals
 inj:∀x y c,X.env.cells.lookup x=a_ c->X.env.cells.lookup y=a_ c->x=y
 has:∀x,(X.env.kindOf x=a_ .cell\/X.env.kindOf x=a_ .free)->∃c,X.env.cells.lookup x=a_ c
 cab:∀x c,X.fn x=c_->X.env.cells.lookup x=a_ c->X.s₀.heap.objs.size<=c
 hd:X.calm=c_->X.A.handled=b_
 frames:X.A.frames=a_ X.stack
 MO:X.stack=X.outer\/(X.stack=X.env::X.outer/\X.env.frame=a_ X.env.locals)
 exf:∀b∈X.ex,b≠X.env.locals/\∀x c,X.env.cells.lookup x=a_ c->c≠b
 bs:∀b o,X.base.get? b=a_ o->X.s₀.heap.get? b=a_ o/\X.H₀ b=b_
 bsz:X.base.objs.size<=X.s₀.heap.objs.size
 noex:∀b o,X.base.get? b=a_ o->b∉X.ex
 exfs:∀b∈X.ex,b∉X.fs
 vh:X.s₀.heap.FunFrames X.base X.outer
 frf:∀b∈X.fs,X.H₀ b=b_
structure Inv(X:Cx)(h_:List (aK×lF))(σ:List (Option V))(H:Hp)(s:ak):Prop where
 ok:X.Ok
 os:s.os=X.s₀.os
 bare:n9 s.gens
 base:Un X.fs X.ex X.H₀ H X.s₀.heap s.heap
 loc:∃m,s.heap.Ns X.env.locals m/\∀(i:Nat)(x:bc)(v:V),X.N[i]?=a_ x->σ[i]?=a_ (a_ v)->Qz X.env.scope x->∃u,RelV v u/\Look X.env s.heap m x u
 cell:∀x c,X.env.cells.lookup x=a_ c->∃v,s.heap.IsCell c v
 free:H X.env.locals=b_
 freeC:∀x c,X.env.cells.lookup x=a_ c->H c=b_
 pin:∀p∈X.pn++h_,s.heap.get? p.1=a_ p.2/\H p.1=b_/\p.1≠X.env.locals/\p.1∉X.fs/\∀v,p.2.data≠.cell v
 hok:sY X.prog X.w H s.heap
 len:σ.length=X.N.length
section
variable{X:Cx}{h_:List (aK×lF)}{σ:List (Option V)}{H:Hp}{s:ak}{h':cg}
def Cx.Ok.YT(ok:X.Ok)(e:X.base.get? b=a_ o):b∉X.fs:=λhb=>by
 have:=(ok.vh.mem hb).1
 simp_all
def Inv.bs(I:Inv X h_ σ H s):∀b o,X.base.get? b=a_ o->s.heap.get? b=a_ o/\H b=b_:=λb o e=>
 ⟨I.base.keep b o (I.ok.bs b o e).1 (I.ok.bs b o e).2 (I.ok.YT e) (I.ok.noex b o e),I.base.free b o (I.ok.bs b o e).1 (I.ok.bs b o e).2 (I.ok.noex b o e)⟩
def Inv.bk(I:Inv X h_ σ H s):∀b o,X.base.get? b=a_ o->s.heap.get? b=a_ o:=λb o e=>(I.bs b o e).1
def Inv.mod(I:Inv X h_ σ H s):Mod X.K X.mg X.base:=I.ok.mod
def Inv.EX(I:Inv X h_ σ H s):X.K.In s.heap:=I.ok.mod.kin.keeps I.bk
def Inv.fr(I:Inv X h_ σ H s):∃m,Fr X.base X.env.locals s.heap m:=
 let ⟨m,hn,_⟩:=I.loc
 ⟨m,hn,I.bk,aa I.ok.bsz I.ok.above⟩
def Inv.lt(I:Inv X h_ σ H s):X.env.locals<s.heap.objs.size:=let ⟨_,hn,_⟩:=I.loc;hn.lt
def Inv.sz(I:Inv X h_ σ H s):X.s₀.heap.objs.size<=s.heap.objs.size:=aa I.ok.above (aD I.lt)
def Inv.WM(I:Inv X h_ σ H s)(h:s.heap.objs.size<=a):a∉X.fs:=λhb=>by
 obtain⟨_,o,ho,_⟩:=I.ok.vh.mem hb;exact absurd (aW (hl9 ho) (aa I.sz h)) (bx _)
def Inv.UR(I:Inv X h_ σ H s):∀x c,X.env.cells.lookup x=a_ c->c≠X.env.locals:=λx c e z=>by
 obtain⟨v,o,ho,hd⟩:=I.cell x c e;obtain⟨m,⟨o',es,ep,a,b,_⟩,_⟩:=I.loc
 grind
theorem Inv.vh(I:Inv X h_ σ H s):s.heap.FunFrames X.base X.outer:=by
 have all:∀(l:List LS),(∀b∈HP l,b∈X.fs)->X.s₀.heap.FunFrames X.base l->s.heap.FunFrames X.base l:=by
  intro l
  induction l with
  |nil=>intro _ _;trivial
  |cons env r c=>
    intro hs hl;obtain⟨hk,⟨L,o,hf,d,ho,hd⟩,f⟩:=hl;have a :=hs L (by unfold HP;simp_all);obtain⟨sl,e⟩:=I.base.slot L o ho (I.ok.frf L a) a λz=>I.ok.exfs L z a;exact⟨hk,⟨L,_,hf,d,e,hd⟩,c (λb hb=>hs b (by unfold HP;rw[qc,hf];exact ju _ hb)) f⟩
 exact all _ (λ_ hb=>hb) I.ok.vh
def Inv.stack(I:Inv X h_ σ H s):s.heap.FunFrames X.base X.stack:=by
 rcases I.ok.MO with e|⟨e,hf⟩
 .rw[e];exact I.vh
 .rw[e];obtain⟨m,a,_⟩:=I.loc;exact .cons (by rw[I.ok.kind];decide) hf a (pA (aa I.ok.bsz I.ok.above)) I.vh
def Inv.uo(I:Inv X h_ σ H s):∀b∈HP X.stack,b∈X.env.locals::X.fs:=λb hb=>by
 rcases I.ok.MO with e|⟨e,hf⟩
 .simp_all
 .rw[e]at hb;unfold HP at hb;rwa[qc,hf]at hb
def Inv.D6(I:Inv X h_ σ H s):∀b∈HP X.stack,H b=b_:=λb hb=>by
 rcases aw.mp (I.uo b hb)with e|hb
 .rw[e];exact I.free
 .obtain⟨_,o,ho,_⟩:=I.ok.vh.mem hb;exact I.base.free b o ho (I.ok.frf b hb) λz=>I.ok.exfs b z hb
def Inv.step{g':Array B9}{t':Nat}{d':Drawn}{ch:List aK}(I:Inv X h_ σ H s)
  (B:∀b∈ch,(b∈X.ex\/X.s₀.heap.objs.size<=b)/\b≠X.env.locals/\(∀x c,X.env.cells.lookup x=a_ c->c≠b)/\∀p∈X.pn++h_,p.1≠b)
  (keep:∀b o,b≠X.env.locals->b∉X.fs->b∉ch->s.heap.get? b=a_ o->H b=b_->h'.get? b=a_ o)
  (slot:∀b o,b≠X.env.locals->b∈X.fs->b∉ch->s.heap.get? b=a_ o->H b=b_->∃sl,h'.get? b=a_ { o with slots:=sl })(free:∀b o,b∉ch->s.heap.get? b=a_ o->H b=b_->H' b=b_)
  (there:∀b o,b∉ch->s.heap.get? b=a_ o->∃o',h'.get? b=a_ o')
  (tups:∀b xs,H b=a_ (.tup xs)->H' b=a_ (.tup xs))(frzs:∀b o u,H b=a_ (.kK o u)->H' b=a_ (.kK o u))
  (ns:∀m,s.heap.Ns X.env.locals m->h'.Ns X.env.locals m)(hok:sY X.prog X.w H' h')(O:n9 g') :
  Inv X h_ σ H' { s with heap:=h',gens:=g',drawn:=d',toks:=t' }:=by
 have g:∀b o,X.s₀.heap.get? b=a_ o->b∉X.ex->b∉ch:=λb o e a hb=>by
  rcases(B b hb).1 with z|z
  .exact a z
  .exact absurd (aW (hl9 e) z) (bx _)
 have cellK:∀x c,X.env.cells.lookup x=a_ c->∀v,s.heap.IsCell c v->h'.IsCell c v:=λx c e v z4=>by
  obtain⟨o,ho,hd⟩:=z4;have f :=λz=>(B c z).2.2.1 x c e rfl;by_cases hc:c∈X.fs
  .obtain⟨sl,q⟩:=slot c o (I.UR x c e) hc f ho (I.freeC x c e);exact⟨_,q,hd⟩
  .exact⟨o,keep c o (I.UR x c e) hc f ho (I.freeC x c e),hd⟩
 refine⟨I.ok,I.os,O,⟨λb o e n hb a=>(keep b o ((λb o e=>bb (aW (hl9 e) I.ok.above)) b o e) hb (g b o e a) (I.base.keep b o e n hb a) (I.base.free b o e n a)),λb o e n hb a=>?_,λb o e n a=>?_,λb o e a=>?_,λb xs e=>tups b xs (I.base.tups b xs e),λb o xs e=>frzs b o xs (I.base.frzs b o xs e)⟩,?_,λx c e=>?_,?_,λx c e=>?_,λp hp=>?_,hok,I.len⟩
 .obtain⟨sl,e1⟩:=I.base.slot b o e n hb a;obtain⟨j,e2⟩:=slot b _ ((λb o e=>bb (aW (hl9 e) I.ok.above)) b o e) hb (g b o e a) e1 (I.base.free b o e n a);exact⟨j,e2⟩
 .obtain⟨o',e1⟩:=I.base.there b o e a;exact free b o' (g b o e a) e1 (I.base.free b o e n a)
 .obtain⟨o',e1⟩:=I.base.there b o e a;exact there b o' (g b o e a) e1
 .obtain⟨m,t,hl⟩:=I.loc;refine⟨m,ns m t,λi x v e1 e2 e3=>?_⟩;obtain⟨u,r,l⟩:=hl i x v e1 e2 e3;refine⟨u,r,?_⟩
  rcases l with l|⟨k,c,e,z⟩
  .exact .inl l
  .exact .inr ⟨k,c,e,cellK x c e _ z⟩
 .obtain⟨v,z⟩:=I.cell x c e;exact⟨v,cellK x c e v z⟩
 .obtain⟨m,⟨o,_,_,ho,_⟩,_⟩:=I.loc;exact free _ o (λz=>(B _ z).2.1 rfl) ho I.free
 .obtain⟨v,o,ho,hd⟩:=I.cell x c e;exact free c o (λz=>(B c z).2.2.1 x c e rfl) ho (I.freeC x c e)
 .obtain⟨e,n,ne,nf,d⟩:=I.pin p hp;have f :=λz=>(B _ z).2.2.2 p hp rfl;exact⟨keep _ _ ne nf f e n,free _ _ f e n,ne,nf,d⟩
def Inv.un(I:Inv X h_ σ H s)(u:Un X.fs [] H H' s.heap h')(hok:sY X.prog X.w H' h'):Inv X h_ σ H' { s with heap:=h',toks:=t' }:=by
 refine ac λ_ i=>?_;obtain⟨m,⟨o,es,ep,ho,r⟩,_⟩:=id I.loc;obtain⟨sl,d⟩:=u.any ho I.free (by simp)
 refine i ?_;exact I.step (ch:=[]) (λ_ z=>nomatch z) (λb o _ hb _ e n=>u.keep b o e n hb (by simp)) (λb o _ hb _ e n=>u.slot b o e n hb (by simp)) (λb o _ e n=>u.free b o e n (by simp)) (λb o _ e=>u.there b o e (by simp)) u.tups u.frzs (λh f=>by
  obtain⟨o',es',c,a,g⟩:=f;rw[ho]at a;cases a
  exact⟨_,_,c,d,g⟩) hok I.bare
def Inv.call(I:Inv X h_ σ H s)(u:Un (HP X.stack) ch H H' s.heap h')(hok:sY X.prog X.w H' h')(O:n9 g')
  (B:∀b∈ch,(b∈X.ex\/X.s₀.heap.objs.size<=b)/\b≠X.env.locals/\(∀x c,X.env.cells.lookup x=a_ c->c≠b)/\∀p∈X.pn++h_,p.1≠b) :
  Inv X h_ σ H' { s with heap:=h',gens:=g',drawn:=d',toks:=t' }:=by
 refine ac λ_ j=>?_;obtain⟨m,⟨o,es,ep,ho,r⟩,_⟩:=id I.loc;obtain⟨sl,d⟩:=u.any ho I.free λz=>(B _ z).2.1 rfl
 refine j ?_;exact I.step B (λb o d hb hc e n=>u.keep b o e n (λz=>(aw.mp (I.uo b z)).elim d hb) hc) (λb o _ _ hc e n=>u.any e n hc) (λb o hc e n=>u.free b o e n hc) (λb o hc e=>u.there b o e hc) u.tups u.frzs (λi g=>by
  obtain⟨o',es',f,a,h⟩:=g;rw[ho]at a;cases a
  exact⟨_,_,f,d,h⟩) hok O
def Inv.turned(I:Inv X h_ σ H s)(k:∀b o,b≠it->s.heap.get? b=a_ o->h'.get? b=a_ o)(O:H it=b_)(B:it≠X.env.locals)
  (h1:it∈X.ex\/X.s₀.heap.objs.size<=it)(h2:∀x c,X.env.cells.lookup x=a_ c->c≠it)(h3:∀p∈X.pn++h_,p.1≠it):Inv X h_ σ H { s with heap:=h',toks:=t' }:=by
 refine I.step (ch:=[it]) (λb hb=>?_) (λb o _ _ hc e _=>k b o (λz=>hc (by simp[z])) e) (λb o _ _ hc e _=>⟨_,k b o (λz=>hc (by simp[z])) e⟩) (λ_ _ _ _ n=>n)
  (λb o hc e=>⟨o,k b o (λz=>hc (by simp[z])) e⟩) (λ_ _ e=>e) (λ_ _ _ e=>e) (λm d=>?_) (λb u e=>((I.hok b u e).nY λv=>k b v ((λb u e z=>by simp_all) b u e))) I.bare
 .have e:b=it:=by simpa using hb
  subst e;exact⟨h1,B,h2,h3⟩
 .obtain⟨o,es,ep,ho,r⟩:=d;exact⟨o,es,ep,k _ o (cj B) ho,r⟩
def Inv.tok(I:Inv X h_ σ H s)(t:Nat):Inv X h_ σ H { s with toks:=t }:=I.un Un.refl I.hok
def Inv.kept(I:Inv X h_ σ H s)(k:∀b u,s.heap.get? b=a_ u->h'.get? b=a_ u):Inv X h_ σ H { s with heap:=h',toks:=t' }:=I.un (Un.kept k) (I.hok.kept k)
def Inv.laid(I:Inv X h_ σ H s)(k:∀b u,s.heap.get? b=a_ u->h'.get? b=a_ u)(hp:s.heap.objs.size<=a)(new:ku X.prog X.w (upd H a o) h' a o) :
  Inv X h_ σ (upd H a o) { s with heap:=h',toks:=t' }:=I.un (Un.laid k hp (I.hok.fresh hp)) (I.hok.laid k hp new)
def Inv.write(I:Inv X h_ σ H s)(O:Yg (H x))(k:∀b u,b≠x->s.heap.get? b=a_ u->h'.get? b=a_ u)(B:∃u,h'.get? x=a_ u)
  (new:ku X.prog X.w (upd H x o) h' x o):Inv X h_ σ (upd H x o) { s with heap:=h',toks:=t' }:=I.un (Un.write O k B) (I.hok.write k new)
def Inv.weak{B:List (Option V)}(I:Inv X h_ σ H s)(hl:B.length=σ.length)(w:∀(i:Nat)v,B[i]?=a_ (a_ v)->σ[i]?=a_ (a_ v)):Inv X h_ B H s:=
 ⟨I.ok,I.os,I.bare,I.base,let ⟨m,hn,hl'⟩:=I.loc;⟨m,hn,λi x v e1 e2 e3=>hl' i x v e1 (w i v e2) e3⟩,I.cell,I.free,I.freeC,I.pin,I.hok,hl.trans I.len⟩
def Inv.qv(I:Inv X h_ σ H s)(h:∀p∈pins',s.heap.get? p.1=a_ p.2/\H p.1=b_/\p.1≠X.env.locals/\p.1∉X.fs/\∀v,p.2.data≠.cell v):Inv X pins' σ H s:=
 ⟨I.ok,I.os,I.bare,I.base,I.loc,I.cell,I.free,I.freeC,λp hp=>(ax.mp hp).elim (λz=>I.pin p (au _ z)) (h p),I.hok,I.len⟩
def Aq{N:List bc}(B:N.Nodup){i j:Nat}{x:bc}(a:N[i]?=a_ x)(b:N[j]?=a_ x):i=j:=by
 exact(List.getElem_inj B).mp ((aN.mp a).2.trans (aN.mp b).2.symm)
def Gw(I:Inv X h_ σ H s)(Y:X.N.Nodup)(hi:X.N[i]?=a_ x)(B:Loc X.env.scope x)(r:RelV v u)
  (h:∀s',Inv X h_ (σ.set i (a_ v)) H s'->(∃a,du a s.heap s'.heap/\(a=X.env.locals\/X.env.cells.lookup x=a_ a))->Q () s')(hf:X.fn x=c_\/X.env.scope.names.lookup x=a_ .local):aG M A (storeName X.env x u) Q E s:=by
 obtain⟨m,G,hl⟩:=id I.loc;have f:i<σ.length:=by rw[I.len];exact(aN.mp hi).1
 have tracked:∀{a:aK}{h':cg},(∃o,s.heap.get? a=a_ o/\H a=b_)->du a _ h'->sY _ _ H h':=λ{a h'}ha hs b W e=>by
  obtain⟨_,_,J⟩:=ha;refine(I.hok b W e).nY λK q=>(hs.2 b ?_).trans q;rintro rfl
  simp_all
 rcases B with hk|hk
 .refine wpAny_storeName_local hk G (λh' L hs=>?_) (by rw[I.ok.kind];rfl);obtain⟨Z,_,_,O,_⟩:=id G;refine h _ ⟨I.ok,I.os,I.bare,⟨λb o e n hb B=>((hs.2 b (bb (aW (hl9 e) I.ok.above))).trans (I.base.keep b o e n hb B)),λb o e n hb B=>?_,I.base.free,λb o e B=>?_,I.base.tups,I.base.frzs⟩,⟨_,L,λj y P e1 e2 e3=>?_⟩,λy c e=>?_,I.free,I.freeC,λp hp=>?_,tracked ⟨Z,O,I.free⟩ hs,by simpa using I.len⟩ ⟨_,hs,.inl rfl⟩
  .obtain⟨sl,e1⟩:=I.base.slot b o e n hb B;exact⟨sl,(hs.2 b (bb (aW (hl9 e) I.ok.above))).trans e1⟩
  .obtain⟨o',e1⟩:=I.base.there b o e B;exact⟨o',(hs.2 b (bb (aW (hl9 e) I.ok.above))).trans e1⟩
  .by_cases g:j=i
   .subst g;rw[hi]at e1;cases e1;rw[eA f]at e2;cases e2;exact⟨u,r,.inl ⟨hk,by simp⟩⟩
   .rw[bP (cj g)]at e2;obtain⟨R,S,q⟩:=hl j y P e1 e2 e3;refine⟨R,S,?_⟩
    rcases q with⟨k,e⟩|⟨k,c,e,z⟩
    .refine .inl ⟨k,?_⟩;have:y≠x:=λe=>g (Aq Y e1 (e▸hi));simp[this,e]
    .exact .inr ⟨k,c,e,z.sameBut hs (I.UR y c e)⟩
  .obtain⟨K,z⟩:=I.cell y c e;exact⟨K,z.sameBut hs (I.UR y c e)⟩
  .obtain⟨e,n,ne,nf,d⟩:=I.pin p hp;exact⟨(hs.2 _ ne).trans e,n,ne,nf,d⟩
 .have l:X.fn x=c_:=by
   grind
  obtain⟨c,hc⟩:=I.ok.has x (.inl hk);obtain⟨K,z⟩:=I.cell x c hc;refine wpAny_storeName_cell I.ok.kind hk hc z (λh' C hs=>?_);obtain⟨oc,T,U⟩:=id z;refine h _ ⟨I.ok,I.os,I.bare,⟨λb o e n hb B=>((hs.2 b (bb (aW (hl9 e) (I.ok.cab x c l hc)))).trans (I.base.keep b o e n hb B)),λb o e n hb B=>?_,I.base.free,λb o e B=>?_,I.base.tups,I.base.frzs⟩,⟨m,G.sameBut hs (cj (I.UR x c hc)),λj y P e1 e2 e3=>?_⟩,λy F e=>?_,I.free,I.freeC,λp hp=>?_,tracked ⟨oc,T,I.freeC x c hc⟩ hs,by simpa using I.len⟩ ⟨c,hs,.inr hc⟩
  .obtain⟨sl,e1⟩:=I.base.slot b o e n hb B;exact⟨sl,(hs.2 b (bb (aW (hl9 e) (I.ok.cab x c l hc)))).trans e1⟩
  .obtain⟨o',e1⟩:=I.base.there b o e B;exact⟨o',(hs.2 b (bb (aW (hl9 e) (I.ok.cab x c l hc)))).trans e1⟩
  .by_cases g:j=i
   .subst g;rw[hi]at e1;cases e1;rw[eA f]at e2;cases e2;exact⟨u,r,.inr ⟨.inl hk,c,hc,C⟩⟩
   .rw[bP (cj g)]at e2;obtain⟨R,S,q⟩:=hl j y P e1 e2 e3;refine⟨R,S,?_⟩
    rcases q with q|⟨k,F,e,z'⟩
    .exact .inl q
    .refine .inr ⟨k,F,e,z'.sameBut hs ?_⟩;rintro rfl;exact g (Aq Y e1 (I.ok.inj _ _ _ e hc▸hi))
  .by_cases D:F=c
   .subst D;exact⟨_,C⟩
   .obtain⟨w2,z2⟩:=I.cell y F e;exact⟨w2,z2.sameBut hs D⟩
  .obtain⟨e,n,ne,nf,d⟩:=I.pin p hp;refine⟨(hs.2 _ ?_).trans e,n,ne,nf,d⟩
   grind
def um(I:Inv X h_ σ H s)(B:X.N.Nodup)(hi:X.N[i]?=a_ x)(O:Loc X.env.scope x)(r:RelV v u)
  (h:∀s',Inv X h_ (σ.set i (a_ v)) H s'->Q () s')(hf:X.fn x=c_\/X.env.scope.names.lookup x=a_ .local):aG M A (storeName X.env x u) Q E s:=
 Gw I B hi O r (λs' I' _=>h s' I') hf
def Inv.Xv{s':ak}(I:Inv X h_ σ H s)(ho:s'.os=s.os)(u:Un (HP X.stack) ch H H' s.heap s'.heap)(hok:sY X.prog X.w H' s'.heap)(O:n9 s'.gens)
  (B:∀b∈ch,(b∈X.ex\/X.s₀.heap.objs.size<=b)/\b≠X.env.locals/\(∀x c,X.env.cells.lookup x=a_ c->c≠b)/\∀p∈X.pn++h_,p.1≠b):Inv X h_ σ H' s':=by
 obtain⟨h',g',d',t',o'⟩:=s';subst ho;exact I.call u hok O B
end
abbrev XK:=aj->Option aK->Hp->Prop
abbrev St:=List (Option V)
abbrev VK:=V->Hp->Prop
abbrev TE:=St->Hp->VK->Prop
abbrev TT:=St->Hp->(Bool->Hp->Prop)->Prop
abbrev TA:=St->Hp->(List V->Hp->Prop)->Prop
structure Ends where
 nx:St->Hp->Prop
 rt:VK
 bk:St->Hp->Prop:=λ_ _=>False
 ct:St->Hp->Prop:=λ_ _=>False
abbrev TS:=Ends->St->Hp->Prop
def EP(X:Cx)(h_:List (aK×lF))(σ:St)(Q:VK)(u:aj)(s':ak):Prop:=∃v H',Inv X h_ σ H' s'/\RelV v u/\Q v H'
def TP(X:Cx)(h_:List (aK×lF))(σ:St)(Q:Bool->Hp->Prop)(b:Bool)(s':ak):Prop:=∃H',Inv X h_ σ H' s'/\Q b H'
def AP(X:Cx)(h_:List (aK×lF))(σ:St)(Q:List V->Hp->Prop)(us:List aj)(s':ak):Prop:=∃vs H',Inv X h_ σ H' s'/\cR vs us/\Q vs H'
def SP(X:Cx)(h_:List (aK×lF))(D:Ends)(f:Flow)(s':ak):Prop:=
 match f with
 |.next=>∃a H',Inv X h_ a H' s'/\D.nx a H'
 |.brk=>∃a H',Inv X h_ a H' s'/\D.bk a H'
 |.cont=>∃a H',Inv X h_ a H' s'/\D.ct a H'
 |.ret u=>∃v a H',Inv X h_ a H' s'/\RelV v u/\D.rt v H'
def PE(X:Cx)(e:a9)(t:TE):Prop:=
 ∀(h_:List (aK×lF))(s:ak)(σ:St)(H:Hp)(Q:VK),Inv X h_ σ H s->t σ H Q->aG (aI X.prog X.w) X.A (eval e X.env) (EP X h_ σ Q) X.xe s
def PT(X:Cx)(e:a9)(t:TT):Prop:=
 ∀(h_:List (aK×lF))(s:ak)(σ:St)(H:Hp)(Q:Bool->Hp->Prop),Inv X h_ σ H s->t σ H Q->aG (aI X.prog X.w) X.A (isTrue e X.env (eval e X.env)) (TP X h_ σ Q) X.xe s
def PW(X:Cx)(e:a9)(t:TT):Prop:=
 ∀(whole:BO aj)(h_:List (aK×lF))(s:ak)(σ:St)(H:Hp)(Q:Bool->Hp->Prop),Inv X h_ σ H s->t σ H Q->aG (aI X.prog X.w) X.A (isTrue e X.env whole) (TP X h_ σ Q) X.xe s
def PW.pt(h:PW X e t):PT X e t:=h _
def PA(X:Cx)(es:List a9)(t:TA):Prop:=
 ∀(pos:v7)(h_:List (aK×lF))(s:ak)(σ:St)(H:Hp)(Q:List V->Hp->Prop),Inv X h_ σ H s->t σ H Q->aG (aI X.prog X.w) X.A (spliced (backTo pos (aS es X.env))) (AP X h_ σ Q) X.xe s
def PS(X:Cx)(st:i4)(t:TS):Prop:=
 ∀(h_:List (aK×lF))(s:ak)(σ:St)(H:Hp)(D:Ends),Inv X h_ σ H s->t D σ H->aG (aI X.prog X.w) X.A (exec st X.env) (SP X h_ D) X.xe s
def zf(X:Cx)(st:List i4)(t:TS):Prop:=
 ∀(h_:List (aK×lF))(s:ak)(σ:St)(H:Hp)(D:Ends),Inv X h_ σ H s->t D σ H->aG (aI X.prog X.w) X.A (execs st X.env) (SP X h_ D) X.xe s
def iR (h:aG M A t Q E s)(B:∀a s,Q a s->Q' a s):aG M A t Q' E s:=dz h B λ_ _ x=>x
section
variable{X:Cx}
def bin{a b:a9}{Y tb:TE}(ha:PE X a Y)(hb:PE X b tb){h_:List (aK×lF)}{s:ak}{σ:St}{H:Hp}{R:V->V->Hp->Prop}(I:Inv X h_ σ H s)(h:Y σ H λx O=>tb σ O λy H2=>R x y H2)
  {α:Type}{Q:α->ak->Prop}{f:aj->aj->BO α}
  (hf:∀v u s2 x y H2,Inv X h_ σ H2 s2->RelV x v->RelV y u->R x y H2->aG (aI X.prog X.w) X.A (f v u) Q X.xe s2) :
  aG (aI X.prog X.w) X.A (eval a X.env) (λv s₁=>aG (aI X.prog X.w) X.A (eval b X.env) (λu B=>aG (aI X.prog X.w) X.A (f v u) Q X.xe B) X.xe s₁) X.xe s:=by
 refine iR (ha h_ s σ H _ I h) λv s1 ⟨x,O,c,d,e⟩=>?_;exact iR (hb h_ s1 σ O _ c e) λu s2 ⟨y,H2,g,i,j⟩=>hf v u s2 x y H2 g d i j
def tm(i:Nat):TE:=λσ H Q=>∃v,σ[i]?=a_ (a_ v)/\Q v H
def tC(v:V):TE:=λ_ H Q=>Q v H
def my(O:X.N[i]?=a_ x)(Y:Qz X.env.scope x)(hd:(x == ("__debug__":bc))=d_)(B:(x == ("__classdict__":bc))=d_):PE X (.Name x pos) (tm i):=by
 intro h_ s σ H Q I h;obtain⟨v,e,h⟩:=h;obtain⟨m,b,hl⟩:=I.loc;obtain⟨u,r,l⟩:=hl i x v O e Y;have fin:EP X h_ σ Q u s:=⟨v,H,I,r,h⟩
 rcases l with⟨hk,d⟩|⟨hk,c,hc,a⟩
 .exact wpAny_Name (wpAny_loadName_local I.ok.kind hk b d fin) hd
 .rcases hk with hk|hk
  .exact wpAny_Name (wpAny_loadName_cell I.ok.kind hk hc a fin) hd
  .exact wpAny_Name (wpAny_loadName_free I.ok.kind hk hc a fin B) hd
def Sl{i j pos}:PE X (.Constant (.int i) j pos) (tC (.int i)):=λ_ _ _ H _ I h=>wpAny_Constant_int ⟨.int i,H,I.tok _,⟨_,rfl⟩,h⟩
def WD{b j pos}:PE X (.Constant (.bool b) j pos) (tC (.bl b)):=λ_ _ _ H _ I h=>Constant_bool ⟨.bl b,H,I,rfl,h⟩
def Sj{j pos}:PE X (.Constant .none j pos) (tC .non):=λ_ _ _ H _ I h=>Constant_none ⟨.non,H,I,rfl,h⟩
def Sh{x j pos}:PE X (.Constant (.str x) j pos) (tC (.str x)):=λ_ _ _ H _ I h=>Calls.Constant_str ⟨.str x,H,I.tok _,⟨_,rfl⟩,h⟩
def Gl(X:Cx)(x:bc):Prop:=X.env.kindOf x=a_ .globalImplicit
def yw(I:Inv X h_ σ H s)(B:Gl X x)(O:X.mg x=a_ u)(h:Q u s)
  (hd:(x == ("__debug__":bc))=d_):aG (aI X.prog X.w) X.A (eval (.Name x pos) X.env) Q E s:=
 v8 I.ok.kind B (Calls.loadGlobal_global (by rw[I.ok.glob];exact I.mod.glob.keeps I.bk) O h) hd
def mD(I:Inv X h_ σ H s)(B:Gl X x)(O:X.mg x=b_)(Y:bootBuiltins x=a_ u)(h:Q u s)
  (Z:x≠"__name__":=by decide)(hd:(x == ("__debug__":bc))=d_:=by decide):aG (aI X.prog X.w) X.A (eval (.Name x pos) X.env) Q E s:=by
 obtain⟨mb,h1,h2⟩:=I.mod.blt;exact v8 I.ok.kind B (Calls.loadGlobal_builtin (by rw[I.ok.glob];exact I.mod.glob.keeps I.bk) O (by rw[I.ok.blt];exact h1.keeps I.bk) ((h2 x Z).trans Y) h) hd
def NL(B:Gl X x)(O:X.mg x=a_ u)(r:RelV v u)(hd:(x == ("__debug__":bc))=d_):PE X (.Name x pos) (tC v):=
 λ_ _ _ H _ I h=>yw I B O ⟨v,H,I,r,h⟩ hd
def NO(B:Gl X x)(O:X.mg x=b_)(Y:bootBuiltins x=a_ u)(r:RelV v u)(Z:x≠"__name__")(hd:(x == ("__debug__":bc))=d_):PE X (.Name x pos) (tC v):=
 λ_ _ _ H _ I h=>mD I B O Y ⟨v,H,I,r,h⟩ Z hd
variable{ta tb:TE}
def tB(t:TE):TT:=λσ H Q=>t σ H λx a=>∃c,x=.bl c/\Q c a
variable{rest:List a9}
def YA(t u:TT):TT:=λσ H Q=>t σ H λc a=>if c=c_ then u σ a Q else Q d_ a
def tOr(t u:TT):TT:=λσ H Q=>t σ H λc a=>if c=c_ then Q c_ a else u σ a Q
def Yv(t:TT):TT:=λσ H Q=>t σ H λc a=>Q (!c) a
def NB(ha:PT X a tA):PW X (.BoolOp .And [a] pos) tA:=by
 intro b h_ s σ H Q I h;refine isTrue_and (iR (ha h_ s σ H Q I h) λc s1 e=>?_)
 cases c with
 |true=>exact isTrue_and_nil e
 |false=>exact e
def R0(ha:PT X a tA):PW X (.BoolOp .Or [a] pos) tA:=by
 intro b h_ s σ H Q I h;refine isTrue_or (iR (ha h_ s σ H Q I h) λc s1 e=>?_)
 cases c with
 |false=>exact isTrue_or_nil e
 |true=>exact e
def R3(ha:PT X a tA)(hb:PW X (.BoolOp .And (b::rest) pos) tB'):PW X (.BoolOp .And (a::b::rest) pos) (YA tA tB'):=by
 intro g h_ s σ H Q I h;refine isTrue_and (iR (ha h_ s σ H _ I h) λc s1 ⟨d,e,f⟩=>?_)
 cases c with
 |true=>exact hb g h_ s1 σ d Q e f
 |false=>exact⟨d,e,f⟩
def Wx(ha:PT X a tA)(hb:PW X (.BoolOp .Or (b::rest) pos) tB'):PW X (.BoolOp .Or (a::b::rest) pos) (tOr tA tB'):=by
 intro g h_ s σ H Q I h;refine isTrue_or (iR (ha h_ s σ H _ I h) λc s1 ⟨d,e,f⟩=>?_)
 cases c with
 |true=>exact⟨d,e,f⟩
 |false=>exact hb g h_ s1 σ d Q e f
def R7(ha:PT X a tA):PT X (.UnaryOp .Not a pos) (Yv tA):=by
 intro h_ s σ H Q I h;exact isTrue_not (ha h_ s σ H (λc b=>Q _ b) I h)
def VW(ta tb:TE):TE:=λσ H Q=>ta σ H λx a=>∃c,x=.bl c/\if c=c_ then tb σ a Q else Q (.bl d_) a
def Yu(ta tb:TE):TE:=λσ H Q=>ta σ H λx a=>∃c,x=.bl c/\if c=c_ then Q (.bl c_) a else tb σ a Q
def Si{op}(h:PE X a t):PE X (.BoolOp op [a] pos) t:=λh_ s σ H Q I b=>BoolOp_one (h h_ s σ H Q I b)
def Sn(ha:PE X a ta)(hb:PE X (.BoolOp .And (b::rest) pos) tb):PE X (.BoolOp .And (a::b::rest) pos) (VW ta tb):=by
 intro h_ s σ H Q I h;refine BoolOp_and (iR (ha h_ s σ H _ I h) λv s1 ⟨x,e,f,g,d⟩=>?_);obtain⟨c,rfl,d⟩:=d;cases g;refine gw ?_
 cases c with
 |true=>exact hb h_ s1 σ e Q f d
 |false=>exact⟨.bl d_,e,f,rfl,d⟩
def WC(ha:PE X a ta)(hb:PE X (.BoolOp .Or (b::rest) pos) tb):PE X (.BoolOp .Or (a::b::rest) pos) (Yu ta tb):=by
 intro h_ s σ H Q I h;refine BoolOp_or (iR (ha h_ s σ H _ I h) λv s1 ⟨x,e,f,g,d⟩=>?_);obtain⟨c,rfl,d⟩:=d;cases g;refine gw ?_
 cases c with
 |false=>exact hb h_ s1 σ e Q f d
 |true=>exact⟨.bl c_,e,f,rfl,d⟩
def tIf(t:TT)(ta tb:TE):TE:=λσ H Q=>t σ H λc a=>if c=c_ then ta σ a Q else tb σ a Q
def JN(hc:PT X c tA)(ha:PE X a ta)(hb:PE X b tb):PE X (.IfExp c a b pos) (tIf tA ta tb):=by
 intro h_ s σ H Q I h;refine wpAny_IfExp (iR (hc h_ s σ H _ I h) λd s1 ⟨e,f,g⟩=>?_)
 cases d with
 |true=>exact ha h_ s1 σ e Q f g
 |false=>exact hb h_ s1 σ e Q f g
end
def mH(K:aP)(H:Hp)(a:aK)(xs:List V):Prop:=
 Rd H a (.lst xs)\/
  ∃(o:lF) (its:Array aj) (n:Nat),K.lookup a=a_ o/\o.cls=.type "list"/\o.dict=b_/\o.data=.seq its n/\its.size<=aC/\cR xs its.toList
def vJ(K:aP)(H:Hp)(a:aK)(xs:List V):Prop:=
 Rd H a (.tup xs)\/
  ∃(o:lF) (its:Array aj) (n:Nat),K.lookup a=a_ o/\o.cls=.type "tuple"/\o.data=.seq its n/\its.size<=aC/\cR xs its.toList
noncomputable def ZF:aj->Option V
 |.none=>a_ .non
 |.bool b=>a_ (.bl b)
 |.int i _=>a_ (.int i)
 |.str x _=>a_ (.str x)
 |.bytes b _=>a_ (.byt b)
 |.float b _=>a_ (.flt b)
 |.ref a=>a_ (.ref a)
 |.type n=>a_ (.ty n)
 |_=>b_
def RelV.abs(r:RelV x u):ZF u=a_ x:=by
 cases x with
 |non=>cases r;rfl
 |bl _=>cases r;rfl
 |int _=>obtain⟨t,rfl⟩:=r;rfl
 |str _=>obtain⟨t,rfl⟩:=r;rfl
 |byt _=>obtain⟨t,rfl⟩:=r;rfl
 |flt _=>obtain⟨t,rfl⟩:=r;rfl
 |ref _=>cases r;rfl
 |ty _=>cases r;rfl
def RelV.inj(r:RelV x u)(q:RelV y u):x=y:=bA (r.abs.symm.trans q.abs)
theorem cR.inj:∀{xs ys:List V}{us:List aj},cR xs us->cR ys us->xs=ys
 |_,_,_,.nil,.nil=>rfl
 |_,_,_,.cons r t,.cons a t'=>by rw[r.inj a,cR.inj t t']
section
def mH.of{K:aP}(h:H a=a_ (.lst xs)):mH K H a xs:=.inl (.inl h)
def Inv.list(I:Inv X h_ σ H s)(h:mH X.K H a xs):∃its:List aj,cR xs its/\PlainL s.heap a its.toArray/\xs.length<=aC:=by
 rcases h with h|⟨o,its,n,hk,hc,hd,hs,b,r⟩
 .obtain⟨z,its,n,r,e⟩:=h.ok I.hok;exact⟨_,r,⟨_,n,e,rfl,rfl,rfl⟩,z⟩
 .refine⟨_,r,⟨o,n,I.EX a o hk,hc,hd,by simpa using hs⟩,?_⟩;have e:=r.length
  simp_all
def Inv.tuple(I:Inv X h_ σ H s)(h:vJ X.K H a xs):∃its:List aj,cR xs its/\nj s.heap a its.toArray/\xs.length<=aC:=by
 rcases h with h|⟨o,its,n,hk,hc,hs,b,r⟩
 .obtain⟨z,its,r,p⟩:=h.ok I.hok;exact⟨_,r,p,z⟩
 .refine⟨_,r,⟨o,I.EX a o hk,hc,n,by simpa using hs⟩,?_⟩;have e:=r.length
  simp_all
def Inv.oJ(I:Inv X h_ σ H s)(h:mH X.K H a xs)(h':mH X.K H a ys):xs=ys:=by
 obtain⟨its,r,⟨o,n,e,_,_,d⟩,_⟩:=I.list h;obtain⟨b,f,⟨o',g,c,_,_,d'⟩,_⟩:=I.list h';rw[e]at c;cases c;rw[d]at d'
 injection d' with d1 _
 have:its=b:=by simp_all
 subst this;exact r.inj f
def Inv.rn(I:Inv X h_ σ H s)(h:vJ X.K H a xs)(h':vJ X.K H a ys):xs=ys:=by
 obtain⟨its,r,⟨o,e,_,n,d⟩,_⟩:=I.tuple h;obtain⟨b,f,⟨o',c,_,g,d'⟩,_⟩:=I.tuple h';rw[e]at c;cases c;rw[d]at d'
 injection d' with d1 _
 have:its=b:=by simp_all
 subst this;exact r.inj f
end
noncomputable abbrev Cx.wb(X:Cx)(E:aj->ak->Prop):Cx:={ X with xe:=E }
abbrev Cx.P9(X:Cx):Cx:=X.wb λ_ _=>False
def Cx.Ok.wb{X:Cx}(ok:X.Ok)(E:aj->ak->Prop):(X.wb E).Ok:=
 ⟨ok.mod,ok.kind,ok.glob,ok.blt,ok.above,ok.inj,ok.has,ok.cab,ok.hd,ok.frames,ok.MO,ok.exf,ok.bs,ok.bsz,ok.noex,ok.exfs,ok.vh,ok.frf⟩
def Cx.Ok.oy{X:Cx}(ok:(X.wb E).Ok):X.Ok:=
 ⟨ok.mod,ok.kind,ok.glob,ok.blt,ok.above,ok.inj,ok.has,ok.cab,ok.hd,ok.frames,ok.MO,ok.exf,ok.bs,ok.bsz,ok.noex,ok.exfs,ok.vh,ok.frf⟩
section
variable{X:Cx}
def Inv.wb(I:Inv X h_ σ H s)(E:aj->ak->Prop):Inv (X.wb E) h_ σ H s:=⟨I.ok.wb E,I.os,I.bare,I.base,I.loc,I.cell,I.free,I.freeC,I.pin,I.hok,I.len⟩
def Inv.oy(I:Inv (X.wb E) h_ σ H s):Inv X h_ σ H s:=⟨I.ok.oy,I.os,I.bare,I.base,I.loc,I.cell,I.free,I.freeC,I.pin,I.hok,I.len⟩
theorem SP.oy{D:Ends}(h:SP (X.wb E) h_ D f s'):SP X h_ D f s':=by
 cases f with
 |next=>obtain⟨a,H',I,q⟩:=h;exact⟨a,H',I.oy,q⟩
 |brk=>obtain⟨a,H',I,q⟩:=h;exact⟨a,H',I.oy,q⟩
 |cont=>obtain⟨a,H',I,q⟩:=h;exact⟨a,H',I.oy,q⟩
 |ret u=>obtain⟨v,a,H',I,r,q⟩:=h;exact⟨v,a,H',I.oy,r,q⟩
def zf.P9{st:List i4}(h:zf X.P9 st t):zf X st t:=λh_ s σ H D I a=>
 dz (h h_ s σ H D (I.wb _) a) (λ_ _ q=>q.oy) λ_ _ z=>iT z
end
section
variable{st:i4}{rest:List i4}{t u:TS}{te:TE}{pos:v7}
def VT:TS:=λD σ H=>D.nx σ H
def Ys(t u:TS):TS:=λD σ H=>t { D with nx:=u D } σ H
def NG:zf X [] VT:=λ_ _ σ H _ I h=>zw ⟨σ,H,I,h⟩
def uF(h1:PS X st t)(h2:zf X rest u):zf X (st::rest) (Ys t u):=by
 intro h_ s σ H D I h;refine wpAny_execs_cons (iR (h1 h_ s σ H _ I h) λf s1 q=>?_)
 cases f with
 |next=>
   obtain⟨a,H',I',q⟩:=q;exact h2 h_ s1 a H' D I' q
 |ret v=>exact q
 |brk=>exact q
 |cont=>exact q
def Inv.quiet(I:Inv X h_ σ H s):interactive X.env=d_:=by simp[interactive,I.ok.kind]
def zL(te:TE):TS:=λD σ H=>te σ H λ_ a=>D.nx σ a
def qt(he:PE X e te)(hs:swapsWith e b_ pos.line X.env=pure d_):PS X (.Expr e pos) (zL te):=by
 intro h_ s σ H D I h;exact wpAny_Expr_any (iR (he h_ s σ H _ I h) λv s1 ⟨x,a,b,d,c⟩=>⟨σ,a,b,c⟩) I.quiet hs
def Yt(te:TE):TS:=λD σ H=>te σ H D.rt
def JD(he:PE X e te):PS X (.Return (a_ e) pos) (Yt te):=by
 intro h_ s σ H D I h;exact wpAny_Return_some (iR (he h_ s σ H _ I h) λv s1 ⟨x,a,b,c,d⟩=>⟨x,σ,a,b,c,d⟩)
def Yx(c:TT)(t u:TS):TS:=λD σ H=>c σ H λb a=>if b=c_ then t D σ a else u D σ a
def Wy(hc:PT X c tc)(ha:zf X a t)(hb:zf X b u):PS X (.If c a b pos) (Yx tc t u):=by
 intro h_ s σ H D I h;refine wpAny_If (iR (hc h_ s σ H _ I h) λd s1 ⟨e,f,g⟩=>?_)
 cases d with
 |true=>exact ha h_ s1 σ e D f g
 |false=>exact hb h_ s1 σ e D f g
end
abbrev TG:=V->St->Hp->(St->Hp->Prop)->Prop
abbrev QC:=List V->St->Hp->(St->Hp->Prop)->Prop
def PG(X:Cx)(target:a9)(t:TG):Prop:=
 ∀(h_:List (aK×lF))(s:ak)(σ:St)(H:Hp)(v:V)(u:aj)(Q:St->Hp->Prop),Inv X h_ σ H s->RelV v u->t v σ H Q->
  aG (aI X.prog X.w) X.A (assign target X.env u) (λ_ s'=>∃a H',Inv X h_ a H' s'/\Q a H') X.xe s
def VH(X:Cx)(B:List a9)(t:QC):Prop:=
 ∀(h_:List (aK×lF))(s:ak)(σ:St)(H:Hp)(vs:List V)(us:List aj)(Q:St->Hp->Prop),Inv X h_ σ H s->cR vs us->t vs σ H Q->
  aG (aI X.prog X.w) X.A (assignInOrder ((assignEach B X.env).map (·.2)) us) (λ_ s'=>∃a H',Inv X h_ a H' s'/\Q a H') X.xe s
abbrev XN:=V->V->V->Hp->(Hp->Prop)->Prop
def Vf(X:Cx)(t:XN):Prop:=
 ∀(h_:List (aK×lF))(s:ak)(σ:St)(H:Hp)(o i v:V)(a b u:aj)(Q:Hp->Prop),Inv X h_ σ H s->RelV o a->RelV i b->RelV v u->t o i v H Q->
  aG (aI X.prog X.w) X.A (setItem a b u) (λ_ s'=>∃H',Inv X h_ σ H' s'/\Q H') X.xe s
section
variable{X:Cx}{pos:v7}
def kr(i:Nat):TG:=λv σ H Q=>Q (σ.set i (a_ v)) H
def Eu(B:X.N.Nodup)(hi:X.N[i]?=a_ x)(O:Loc X.env.scope x)(hf:X.fn x=c_\/X.env.scope.names.lookup x=a_ .local):PG X (.Name x pos) (kr i):=by
 intro h_ s σ H v u Q I r h;exact wpAny_assign_Name (um I B hi O r (λs' I'=>⟨_,H,I',h⟩) hf)
def Hj:QC:=λvs σ H Q=>vs=[]/\Q σ H
def xj(t:TG)(u:QC):QC:=λvs σ H Q=>∃v r,vs=v::r/\t v σ H λa H'=>u r a H' Q
def Et:VH X [] Hj:=by
 intro h_ s σ H vs us Q I r h;obtain⟨rfl,h⟩:=h;cases r;exact assignInOrder_nil ⟨σ,H,I,h⟩
def An(h1:PG X e t)(h2:VH X es u)
  (hs:(assignEach (e::es) X.env).map (·.2)=assign e X.env::(assignEach es X.env).map (·.2):=by rfl):VH X (e::es) (xj t u):=by
 intro h_ s σ H vs us Q I r h;obtain⟨v,g,rfl,h⟩:=h;cases r with
 |cons r b=>
   rw[hs];exact assignInOrder_cons (iR (h1 h_ s σ H _ _ _ I r h) λ_ s1 ⟨a,c,d,f⟩=>h2 h_ s1 a c _ _ Q d b f)
def KQ(K:aP)(n:Nat)(t:QC):TG:=λv σ H Q=>∃a xs,v=.ref a/\vJ K H a xs/\xs.length=n/\t xs σ H Q
def JJ(hc:X.calm=c_)(h:VH X es t)
  (O:(assignEach es X.env).length=n)(B:(assignEach es X.env).findIdx? (·.1)=b_):PG X (.Tuple es k pos) (KQ X.K n t):=by
 intro h_ s σ H v u Q I r c;refine ac λ_ i=>?_;obtain⟨a,xs,rfl,f,hl,c⟩:=c;cases r;obtain⟨its,d,ht,j⟩:=I.tuple f;refine i ?_;refine assign_Tuple_tuple (I.ok.hd hc) ht (by simp[O,<-hl,d.length]) B λh' g=>?_;exact h h_ _ σ H xs _ Q (I.kept λb o e=>g b o (bb (hl9 e)) e) (by simpa using d) c
def OI(to B:TE)(t:XN):TG:=λv σ H Q=>to σ H λo a=>B σ a λi H2=>t o i v H2 λb=>Q σ b
def CM(ho:PE X o to)(hi:PE X i ti)(hs:Vf X t)
  (ha:∀v,assign (.Subscript o i pos) X.env v=(do
   let B <-holding [v] (eval o X.env);let O <-holding [v,B] (eval i X.env)
   standAt pos
   holding [v,B,O] (setItem B O v)
   release [v,B,O] []):=by intro _;rfl):PG X (.Subscript o i pos) (OI to ti t):=by
 intro h_ s σ H v u Q I r h;rw[ha];refine wb9 (dQ (iR (ho h_ s σ H _ I h) λB s1 ⟨x,a,b,c,d⟩=>?_));refine wb9 (dQ (iR (hi h_ s1 σ a _ b d) λO s2 ⟨y,H2,e,f,g⟩=>?_));exact wb9 (FY (wb9 (dQ (iR (hs h_ s2 σ H2 x y v B O u _ e c f r g) λ_ s3 ⟨j,k,l⟩=>wpAny_release ⟨σ,j,k,l⟩))))
def zM(te:TE)(g:TG):TS:=λD σ H=>te σ H λx a=>g x σ a D.nx
def uG(he:PE X e te)(B:PG X tg g)(hs:swapsWithSole [tg] e pos.line X.env=pure d_)(O:swappedStores [tg] e X.env=pure b_)
  (h1:(assignEach [tg] X.env).map (·.2)=[assign tg X.env]):PS X (.Assign [tg] e pos) (zM te g):=by
 intro h_ s σ H D I h;refine wpAny_Assign_stores (iR (he h_ s σ H _ I h) λv s1 ⟨x,a,b,c,d⟩=>?_) hs O;rw[h1];exact iR (B h_ s1 σ a x v _ b c d) λ_ s2 q=>q
def R8(B:X.N.Nodup)(hi:X.N[i]?=a_ x)(O:Loc X.env.scope x)(he:PE X e te)(hs:swapsWith e (a_ (.Name x pos')) pos.line X.env=pure d_)(hf:X.fn x=c_\/X.env.scope.names.lookup x=a_ .local) :
  PS X (.Assign [.Name x pos'] e pos) (zM te (kr i)):=by
 intro h_ s σ H D I h;exact wpAny_Assign_Name (iR (he h_ s σ H _ I h) λv s1 ⟨y,a,b,c,d⟩=>um b B hi O c (λs2 f=>⟨_,a,f,d⟩) hf) hs
end
section
variable{X:Cx}
def QQ(c:TT)(tb:TS):TS:=λD σ H=>∃W:Nat->St->Hp->Prop,(∃m,W m σ H)/\∀m σ H,W m σ H->
 c σ H λb d=>if b=c_ then ∃N:St->Hp->Prop,(∀a H',N a H'->∃e,e<m/\W e a H')/\tb { D with nx:=N,ct:=N,bk:=D.nx } σ d else D.nx σ d
def JC{tb:TS}(hp:pk (aI X.prog X.w) X.A X.env X.xe)(hc:PT X c tc)(hb:zf X body tb):PS X (.While c body [] pos) (QQ tc tb):=by
 intro h_ s σ H D I h;obtain⟨W,⟨m0,u⟩,turn⟩:=h;refine wpAny_While (codeAny_whileLoop (λn s'=>∃e H',Inv X h_ e H' s'/\W n e H') ?_ m0 ⟨σ,H,I,u⟩);rintro n s1 ⟨d,q,x,y⟩;refine iS hp (iR (hc h_ s1 d q _ x (turn n d q y)) λb s2 ⟨H2,r,i⟩=>?_)
 cases b with
 |true=>
   obtain⟨N,t,i⟩:=i;refine iS hp (iR (hb h_ s2 d H2 _ r i) λf s3 j=>?_)
   cases f with
   |next=>
     obtain⟨a,g,k,l⟩:=j;obtain⟨m,o,p⟩:=t a g l;exact⟨m,o,a,g,k,p⟩
   |cont=>
     obtain⟨a,g,k,l⟩:=j;obtain⟨m,o,p⟩:=t a g l;exact⟨m,o,a,g,k,p⟩
   |brk=>exact j
   |ret v=>exact j
 |false=>
   exact zw ⟨d,H2,r,i⟩
end
structure It where
 go:Nat->Hp->Prop
 yld:Nat->Hp->V->Hp->Prop
 stop:Nat->Hp->Prop
def p6(X:Cx)(h_:List (aK×lF))(H:Hp)(b:aK):Prop:=
 H b=b_/\b≠X.env.locals/\b∉X.fs/\(b∈X.ex\/X.s₀.heap.objs.size<=b)/\(∀x c,X.env.cells.lookup x=a_ c->c≠b)/\∀p∈X.pn++h_,p.1≠b
def Inv.A9(I:Inv X h_ σ H s)(hb:s.heap.objs.size<=b)(B:H' b=b_):p6 X h_ H' b:=by
 refine⟨B,i8 (aW I.lt hb),I.WM hb,.inr (aa I.sz hb),λx c e z=>?_,λp hp z=>(absurd (aW (hl9 (I.pin p hp).1) (by rwa[z])) (bx _))⟩
 .obtain⟨v,q⟩:=I.cell x c e;exact absurd (aW q.lt (by rwa[z])) (bx _)
structure Turn(P:cz)(w:dh)(K:aP)(tg:a9)(J:It)(fp:List aK)(it:aK)(tn:Nat->cg->Prop):Prop where
 mem:it∈fp
 obj:∀i h,tn i h->∀b∈fp,∃o,h.get? b=a_ o/\∀v,o.data≠.cell v
 keep:∀i h h',tn i h->(∀b∈fp,∀o,h.get? b=a_ o->h'.get? b=a_ o)->tn i h'
 item:∀(X:Cx),X.prog=P->X.w=w->X.K=K->X.calm=c_->∀(i:Nat)(h_:List (aK×lF))(s:ak)(σ:St)(H:Hp)(E:aj->ak->Prop),Inv X h_ σ H s->(∀b∈fp,p6 X h_ H b)->tn i s.heap->J.go i H->
  aG (aI P w) X.A (pyNext (.ref it)) (λr s1=>∃u,r=a_ u/\
   aG (aI P w) X.A (letOwnedTupleGo tg (.ref it) u) (λ_ s2=>∃x H',Inv X h_ σ H' s2/\RelV x u/\J.yld i H x H'/\tn (i+1) s2.heap/\∀b∈fp,H' b=b_) E s1) E s
 done:∀(X:Cx),X.prog=P->X.w=w->X.K=K->X.calm=c_->∀(i:Nat)(h_:List (aK×lF))(s:ak)(σ:St)(H:Hp)(E:aj->ak->Prop),Inv X h_ σ H s->(∀b∈fp,p6 X h_ H b)->tn i s.heap->J.stop i H->
  aG (aI P w) X.A (pyNext (.ref it)) (λr s1=>r=b_/\Inv X h_ σ H s1) E s
 self:∀(A:cc)(i:Nat)(s:ak)(Q:aj->ak->Prop)(E:aj->ak->Prop),tn i s.heap->Q (.ref it) s->aG (aI P w) A (B4 (.ref it)) Q E s
abbrev TI:=St->Hp->(It->Hp->Prop)->Prop
def ZK(X:Cx)(h_:List (aK×lF))(σ:St)(tg:a9)(R:It->Hp->Prop)(itv:aj)(s2:ak):Prop:=
 ∃(it:aK) (fp:List aK) (tn:Nat->cg->Prop) (J:It) (H':Hp),itv=.ref it/\Inv X h_ σ H' s2/\Turn X.prog X.w X.K tg J fp it tn/\tn 0 s2.heap/\(∀b∈fp,p6 X h_ H' b)/\R J H'
def PI(X:Cx)(tg iter:a9)(wi:TI):Prop:=
 ∀(h_:List (aK×lF))(s:ak)(σ:St)(H:Hp)(R:It->Hp->Prop),Inv X h_ σ H s->wi σ H R->
  aG (aI X.prog X.w) X.A (eval iter X.env) (λv s1=>aG (aI X.prog X.w) X.A (B4 v) (ZK X h_ σ tg R) X.xe s1) X.xe s
def AV{s:ak}(ho:s.heap.get? it=a_ o)(hc:o.cls=.type n)(hd:o.data=.fields vs)
  (O:["enumerate","zip","dict_itemiterator","dict_reverseitemiterator","odict_iterator","itertools.zip_longest","itertools.pairwise"].contains n=d_)(B:Q () s):aG M A (letOwnedTupleGo tg (.ref it) u) Q E s:=by
 cases tg<;>first
  |exact wu9 B
  | (cases u<;>first
    |exact wu9 B
    | (refine wb9 (wpAny_load ho ?_)
       rw[hc,hd];show aG M A (if(["enumerate","zip","dict_itemiterator","dict_reverseitemiterator","odict_iterator","itertools.zip_longest","itertools.pairwise"].contains n && vs[0]? == a_ _)=c_ then _ else _) Q E s;rw[if_neg (by grind)]
       exact wu9 B))
noncomputable def ZN(K:aP)(a:aK):It:=
 ⟨λi H=>∃xs x,mH K H a xs/\xs[i]?=a_ x,λi H x H'=>H'=H/\∀xs,mH K H a xs->xs[i]?=a_ x,λi H=>∃xs,mH K H a xs/\xs.length<=i⟩
noncomputable def ZM(K:aP)(a:aK):It:=
 ⟨λi H=>∃xs x,vJ K H a xs/\xs[i]?=a_ x,λi H x H'=>H'=H/\∀xs,vJ K H a xs->xs[i]?=a_ x,λi H=>∃xs,vJ K H a xs/\xs.length<=i⟩
noncomputable def Yj(lo:Int)(n:Nat):It:=⟨λi _=>i<n,λi H x H'=>H'=H/\x=.int (lo+i),λi _=>n<=i⟩
def Gq{K:aP}(a it:aK):Turn P w K tg (ZN K a) [it] it (λi h=>h.IsListIter it a i) where
 mem:=by simp
 obj:=λi h st b hb=>by
  have e:b=it:=by simpa using hb
  subst e;obtain⟨o,e,c,d⟩:=st;exact⟨o,e,λv z=>by rw[d]at z;cases z⟩
 keep:=λi h h' st k=>st.at λo e=>k it (by simp) o e
 item:=by
  intro X l m n hc i h_ s σ H E I hf st q;subst l m n;obtain⟨xs,x,g,j⟩:=q;obtain⟨its,r,p,D⟩:=I.list g;obtain⟨u,F,G⟩:=r.get j;obtain⟨t,y,J,A,B,C⟩:=hf it (by simp);refine wpAny_pyNext_list_item st p.isList (x:=u) (by simpa using F) λh' f L=>?_;have M:Inv X h_ σ H { s with heap:=h' }:=I.turned (t':=s.toks) (λb o hb e=>(L.2 b hb).trans e) t y A B C;obtain⟨o,e,c,d⟩:=id f;exact⟨u,rfl,AV (s:={ s with heap:=h' }) e c d cy ⟨x,H,M,G,⟨rfl,λys N=>by rw[I.oJ N g];exact j⟩,f,λb hb=>(hf b hb).1⟩⟩
 done:=by
  intro X l m n hc i h_ s σ H E I hf st q;subst l m n;obtain⟨xs,g,j⟩:=q;obtain⟨its,r,p,D⟩:=I.list g;obtain⟨t,y,J,A,B,C⟩:=hf it (by simp);have hl:=r.length;exact wpAny_pyNext_list_end (I.ok.hd hc) st p.isList (by simp;exact aa (ae hl.symm) j) λh' O=>⟨rfl,I.turned (t':=s.toks) (λb o hb e=>O b o hb e) t y A B C⟩
 self:=λ_ _ _ _ _ st h=>wpAny_pyIter_listiter st h
def Ck{K:aP}(a it:aK):Turn P w K tg (ZM K a) [it] it (λi h=>h.IsTupleIter it a i) where
 mem:=by simp
 obj:=λi h st b hb=>by
  have e:b=it:=by simpa using hb
  subst e;obtain⟨o,e,c,d⟩:=st;exact⟨o,e,λv z=>by rw[d]at z;cases z⟩
 keep:=λi h h' st k=>st.at λo e=>k it (by simp) o e
 item:=by
  intro X l m n hc i h_ s σ H E I hf st q;subst l m n;obtain⟨xs,x,g,j⟩:=q;obtain⟨its,r,p,D⟩:=I.tuple g;obtain⟨u,F,G⟩:=r.get j;obtain⟨t,y,J,A,B,C⟩:=hf it (by simp);refine wpAny_pyNext_tuple_item st (show s.heap.IsTuple a its.toArray from p) (x:=u) (by simpa using F) λh' f L=>?_;have M:Inv X h_ σ H { s with heap:=h' }:=I.turned (t':=s.toks) (λb o hb e=>(L.2 b hb).trans e) t y A B C;obtain⟨o,e,c,d⟩:=id f;exact⟨u,rfl,AV (s:={ s with heap:=h' }) e c d cy ⟨x,H,M,G,⟨rfl,λys N=>by rw[I.rn N g];exact j⟩,f,λb hb=>(hf b hb).1⟩⟩
 done:=by
  intro X l m n hc i h_ s σ H E I hf st q;subst l m n;obtain⟨xs,g,j⟩:=q;obtain⟨its,r,p,D⟩:=I.tuple g;obtain⟨t,y,J,A,B,C⟩:=hf it (by simp);have hl:=r.length;exact wpAny_pyNext_tuple_end (I.ok.hd hc) st (show s.heap.IsTuple a its.toArray from p) (by simp;exact aa (ae hl.symm) j) λh' O=>⟨rfl,I.turned (t':=s.toks) (λb o hb e=>O b o hb e) t y A B C⟩
 self:=λ_ _ _ _ _ st h=>wpAny_pyIter_tupleiter st h
def Cm{K:aP}(it:aK)(lo:Int)(n:Nat):Turn P w K tg (Yj lo n) [it] it (λi h=>IsRangeIter h it (lo+(i:Nat) * 1) ((n:Int) - (i:Nat)) 1) where
 mem:=by simp
 obj:=λi h st b hb=>by
  have e:b=it:=by simpa using hb
  subst e
  exact⟨_,st,λv z=>by
   have u:Data.fields _=Data.cell v:=z
   cases u⟩
 keep:=λi h h' st k=>k it (by simp) _ st
 item:=by
  intro X c d f hc i h_ s σ H E I hf st g;subst c d f;obtain⟨j,l,x,m,p,q⟩:=hf it (by simp);have W:=Walks.range (prog:=X.prog) (w:=X.w) (I.ok.hd hc) it lo 1 n;refine W.item i s _ _ g st λv h' r y a kk=>?_;obtain⟨t,rfl⟩:=y;have A:Inv X h_ σ H { s with heap:=h',toks:=r }:=I.turned (λb o hb e=>kk b o (by simpa using hb) e) j l m p q;refine⟨_,rfl,AV (s:={ s with heap:=h',toks:=r }) (n:="range_iterator") a rfl rfl cy ⟨.int (lo+i),H,A,⟨t,?_⟩,⟨rfl,rfl⟩,a,λb hb=>(hf b hb).1⟩⟩;rw[Int.mul_one]
 done:=by
  intro X c d f hc i h_ s σ H E I hf st g;subst c d f;obtain⟨j,l,x,m,p,q⟩:=hf it (by simp);exact PySem.wpAny_pyNext_range_end (I.ok.hd hc) st (by have:n<=i:=g;omega) λh' B=>⟨rfl,I.turned (t':=s.toks) (λb o hb e=>B b o hb e) j l m p q⟩
 self:=λ_ _ _ _ _ st h=>PySem.wpAny_pyIter_rangeiter st h
section
variable{X:Cx}
def Xg(K:aP)(tl:TE):TI:=λσ H R=>tl σ H λx b=>∃a,x=.ref a/\(∃xs,mH K b a xs)/\R (ZN K a) b
def Zj(K:aP)(tl:TE):TI:=λσ H R=>tl σ H λx b=>∃a,x=.ref a/\(∃xs,vJ K b a xs)/\R (ZM K a) b
def yg(hl:PE X l tl):PI X tg l (Xg X.K tl):=by
 intro h_ s σ H R I h;refine iR (hl h_ s σ H _ I h) λv s1 ⟨x,d,c,f,g⟩=>?_;refine ac λ_ m=>?_;obtain⟨a,rfl,⟨xs,i⟩,q⟩:=g;cases f;obtain⟨its,j,p,k⟩:=c.list i;refine m ?_;refine n8 p.isList ?_;refine⟨_,_,_,_,d,rfl,c.kept λb o e=>hp9 _ e,Gq a _,⟨_,aL _ rfl,rfl,rfl⟩,λb hb=>?_,q⟩;have e:b=s1.heap.objs.size:=by simpa using hb
 subst e;exact c.A9 (ao _) (c.hok.fresh (ao _))
def JH(hl:PE X l tl):PI X tg l (Zj X.K tl):=by
 intro h_ s σ H R I h;refine iR (hl h_ s σ H _ I h) λv s1 ⟨x,d,c,f,g⟩=>?_;refine ac λ_ m=>?_;obtain⟨a,rfl,⟨xs,i⟩,q⟩:=g;cases f;obtain⟨its,j,p,k⟩:=c.tuple i;refine m ?_;refine wpAny_pyIter_tuple (p) ?_;refine⟨_,_,_,_,d,rfl,c.kept λb o e=>hp9 _ e,Ck a _,⟨_,aL _ rfl,rfl,rfl⟩,λb hb=>?_,q⟩;have e:b=s1.heap.objs.size:=by simpa using hb
 subst e;exact c.A9 (ao _) (c.hok.fresh (ao _))
def Jy{lo:Int}(I:Inv X h_ σ H s)(h1:-(2 ^ 62)<=lo)(h2:lo<2 ^ 62)(h3:-(2 ^ 62)<=hi)(B:hi<2 ^ 62)
  (q:R (Yj lo (hi - lo).toNat) H):aG (aI X.prog X.w) X.A (B4 (.ref s.heap.objs.size)) (ZK X h_ σ tg R) E { s with heap:=s.heap.push { cls:=.type "range",data:=.fields #[.int lo t,.int hi u,.int 1 v] },toks:=tk }:=by
 refine wpAny_pyIter_range (PySem.IsRange.new ..) (small_one h1 h2 h3 B) ?_;have a:Inv X h_ σ H { s with heap:=s.heap.push { cls:=.type "range",data:=.fields #[.int lo t,.int hi u,.int 1 v] },toks:=tk }:=I.kept λb o e=>hp9 _ e
 refine⟨(s.heap.push { cls:=.type _,data:=.fields _ }).objs.size,[(s.heap.push { cls:=.type _,data:=.fields _ }).objs.size],_,_,H,rfl,
  a.kept λb o e=>hp9 _ e,Cm _ lo _,?_,λb hb=>?_,q⟩
 .have e1:lo+((0:Nat)) * 1=lo:=by simp
  have e2:(((hi - lo).toNat)) - ((0:Nat))=PySem.Builtin.Range.rangeSize lo hi 1:=by rw[rangeSize_one];split<;>omega
  rw[e1,e2];exact aL _ rfl
 .have e:b=(s.heap.push { cls:=.type "range",data:=.fields #[.int lo t,.int hi u,.int 1 v] }).objs.size:=by simpa using hb
  subst e;exact a.A9 (ao _) (a.hok.fresh (ao _))
def Xe(B:TA):TI:=λσ H R=>B σ H λvs a=>∃j:Int,vs=[.int j]/\-(2 ^ 62)<=j/\j<2 ^ 62/\R (Yj 0 j.toNat) a
def GV(B:Gl X "range")(O:X.mg "range"=b_)(ha:PA X [a] ta)(hs:aS [a] X.env=[(d_,eval a X.env)]):PI X tg (.Call (.Name "range" p) [a] [] pos) (Xe ta):=by
 intro h_ s σ H R I h;refine Call_ (mD I B O boot_range (de (iR (ha _ h_ s σ H _ I h) λus s1 ⟨vs,i,c,d,b⟩=>?_) hs rfl));obtain⟨j,rfl,b,f,q⟩:=b;cases d with
 |cons r g=>
   cases g;obtain⟨t,rfl⟩:=r;exact call_range_1 (Jy c (by simp) (by simp) b f (by simpa using q))
def Yy(wi:TI)(g:TG)(tb:TS):TS:=λD σ H=>wi σ H λJ c=>∃W:Nat->Nat->St->Hp->Prop,(∃m,W 0 m σ c)/\∀i m σ H,W i m σ H->
 (J.stop i H/\D.nx σ H)\/(J.go i H/\∃N:St->Hp->Prop,(∀a H',N a H'->∃b,b<m/\W (i+1) b a H')/\∀x H',J.yld i H x H'->g x σ H' λσ2 H2=>tb { D with nx:=N,ct:=N,bk:=D.nx } σ2 H2)
noncomputable def mr(fp:List aK)(h:cg):List (aK×lF):=fp.filterMap λb=>(h.get? b).map λo=>(b,o)
def nE{h:cg}(hb:b∈fp)(e:h.get? b=a_ o):(b,o)∈mr fp h:=qT.mpr ⟨b,hb,by rw[e];rfl⟩
def wW(hp:p∈mr fp h):p.1∈fp/\h.get? p.1=a_ p.2:=by
 obtain⟨b,hb,e⟩:=qT.mp hp
 cases q:h.get? b with
 |none=>rw[q]at e;cases e
 |some o=>
   rw[q]at e;have a :=bA e;subst a;exact⟨hb,q⟩
def Inv.pinned(I:Inv X h_ σ H s)(hf:∀b∈fp,p6 X h_ H b)(ho:∀b∈fp,∃o,s.heap.get? b=a_ o/\∀v,o.data≠.cell v):Inv X (h_++mr fp s.heap) σ H s:=
 I.qv λp hp=>(ax.mp hp).elim (λz=>I.pin p (ai _ z)) λz=>by
  refine ac λ_ h=>?_;obtain⟨hb,e⟩:=wW z;obtain⟨a,c,f,_⟩:=hf _ hb;obtain⟨o,g,d⟩:=ho _ hb
  refine h ?_;simp_all
def Inv.mN(I:Inv X (h_++pl) σ H s):Inv X h_ σ H s:=I.qv λp hp=>I.pin p (ai _ (au _ hp))
def CJ{iter:a9}{tb:TS}(hp:pk (aI X.prog X.w) X.A X.env X.xe)(hc:X.calm=c_)(hi:PI X tg iter wi)(Y:PG X tg g)(hb:zf X body tb)
  (hs:∀x,foldedSetIterable iter X.env x=pure x):PS X (.For tg iter body [] pos) (Yy wi g tb):=by
 intro h_ s σ H D I h;refine wpAny_For (iR (hi h_ s σ H _ I h) λv s1 h1=>iR h1 λitv s2 h2=>?_) hs;refine ac λ_ K=>?_;obtain⟨it,fp,tn,J,H2,rfl,S,T,E,O,W,⟨m0,U⟩,turn⟩:=h2;refine K ?_;have c:∀{H':Hp},(∀b∈fp,H' b=b_)->∀b∈fp,p6 X h_ H' b:=λV b hb=>⟨V b hb,(O b hb).2⟩
 refine codeAny_forLoop_any (λn s'=>∃i j H',Inv X h_ j H' s'/\tn i s'.heap/\(∀b∈fp,H' b=b_)/\W i n j H') ?_ m0 ⟨0,σ,H2,S,E,λb hb=>(O b hb).1,U⟩;rintro n s3 ⟨i,k,C,P,y,z,Z⟩
 rcases turn i n k C Z with⟨stop,qn⟩|⟨go,N,hN,step⟩
 .refine iS hp (iR (T.done X rfl rfl rfl hc i h_ s3 k C _ P (c z) y stop) λr s4 ⟨F,I4⟩=>?_);subst F;exact zw ⟨k,C,I4,qn⟩
 .refine iS hp (iR (T.item X rfl rfl rfl hc i h_ s3 k C _ P (c z) y go) λr s4 ⟨u,F,h4⟩=>?_);subst F;refine iS hp (iR h4 λ_ Q ⟨x,R,I5,r5,y5,t,G⟩=>?_);refine iS hp (iR (Y _ Q k R x u _ (I5.pinned (c G) (T.obj _ _ t)) r5 (step x R y5)) λ_ s6 ⟨L,H6,I6,q6⟩=>?_);refine iS hp (iR (hb _ s6 L H6 _ I6 q6) λf M q=>?_)
  have again:∀{a:St}{l:Hp},Inv X (h_++mr fp _) a l M->N a l->∃m,m<n/\∃i j H',Inv X h_ j H' M/\tn i _/\(∀b∈fp,H' b=b_)/\W i m j H':=λ{a l}p B=>by
   obtain⟨m',hm,w7⟩:=hN a l B;refine⟨m',hm,_,a,l,p.mN,T.keep _ _ _ t λb hb o e=>(p.pin _ (ai _ (ai _ (nE hb e)))).1,λb hb=>?_,w7⟩;obtain⟨o,e,d⟩:=T.obj _ _ t b hb;exact(p.pin _ (ai _ (ai _ (nE hb e)))).2.1
  cases f with
  |next=>obtain⟨a,l,p,B⟩:=q;exact again p B
  |cont=>obtain⟨a,l,p,B⟩:=q;exact again p B
  |brk=>obtain⟨a,l,p,q⟩:=q;exact⟨a,l,p.mN,q⟩
  |ret v=>refine ac λ_ K=>?_;obtain⟨x7,a,l,p,r7,q⟩:=q;refine K ?_;exact⟨x7,a,l,p.mN,r7,q⟩
end
abbrev R2:=V->V->Hp->VK->Prop
def j9(X:Cx)(f:aj->aj->BO aj)(r:R2):Prop:=
 ∀(h_:List (aK×lF))(s:ak)(σ:St)(H:Hp)(x y:V)(v u:aj)(Q:VK),Inv X h_ σ H s->RelV x v->RelV y u->r x y H Q->
  aG (aI X.prog X.w) X.A (f v u) (EP X h_ σ Q) X.xe s
def ZH(X:Cx)(f:aj->BO aj)(r:V->Hp->VK->Prop):Prop:=
 ∀(h_:List (aK×lF))(s:ak)(σ:St)(H:Hp)(x:V)(v:aj)(Q:VK),Inv X h_ σ H s->RelV x v->r x H Q->
  aG (aI X.prog X.w) X.A (f v) (EP X h_ σ Q) X.xe s
def jS(X:Cx)(f:aj)(r:List V->Hp->VK->Prop):Prop:=
 ∀(h_:List (aK×lF))(s:ak)(σ:St)(H:Hp)(xs:List V)(us:List aj)(Q:VK),Inv X h_ σ H s->cR xs us->r xs H Q->
  aG (aI X.prog X.w) X.A (call f us) (EP X h_ σ Q) X.xe s
def ZI(X:Cx)(r:V->Hp->(Bool->Hp->Prop)->Prop):Prop:=
 ∀(h_:List (aK×lF))(s:ak)(σ:St)(H:Hp)(x:V)(v:aj)(Q:Bool->Hp->Prop),Inv X h_ σ H s->RelV x v->r x H Q->
  aG (aI X.prog X.w) X.A (truthy v) (TP X h_ σ Q) X.xe s
def IJ(r:R2)(B tb:TE):TE:=λσ H Q=>B σ H λx a=>tb σ a λy H2=>r x y H2 Q
def tUn(r:V->Hp->VK->Prop)(B:TE):TE:=λσ H Q=>B σ H λx a=>r x a Q
def rI(C:Int->Int->Prop)(g:Int->Int->V):R2:=λx y H Q=>∃i j,x=.int i/\y=.int j/\C i j/\Q (g i j) H
def L1(g:Int->Int->V):R2:=λx y H Q=>∃i j,x=.int i/\y=.int j/\Q (g i j) H
def rU(g:Int->V):V->Hp->VK->Prop:=λx H Q=>∃i,x=.int i/\Q (g i) H
section
variable{X:Cx}{tb:TE}
def U8(ha:PE X a ta)(hb:PE X b tb){h_:List (aK×lF)}{s:ak}{σ:St}{H:Hp}{R:V->V->Hp->Prop}(I:Inv X h_ σ H s)
  (h:ta σ H λx O=>tb σ O λy H2=>R x y H2){Q:aj->ak->Prop}{f:aj->aj->BO aj}
  (hf:∀v u s2 x y H2,Inv X h_ σ H2 s2->RelV x v->RelV y u->R x y H2->aG (aI X.prog X.w) X.A (f v u) Q X.xe s2) :
  aG (aI X.prog X.w) X.A (eval a X.env) (λv s₁=>aG (aI X.prog X.w) X.A (eval b X.env) (λu B=>aG (aI X.prog X.w) X.A (f v u) Q X.xe B) X.xe s₁) X.xe s:=by
 refine iR (ha h_ s σ H _ I h) λv s1 ⟨x,O,c,d,e⟩=>?_;exact iR (hb h_ s1 σ O _ c e) λu s2 ⟨y,H2,g,i,j⟩=>hf v u s2 x y H2 g d i j
def P6(ho:j9 X (binaryOp op) r)(ha:PE X a ta)(hb:PE X b tb):PE X (.BinOp a op b pos) (IJ r ta tb):=by
 intro h_ s σ H Q I h;exact wpAny_BinOp (U8 ha hb I h λv u s2 x y H2 c d e q=>ho h_ s2 σ H2 x y v u Q c d e q)
def WB(ho:ZH X (unaryOp op) r)(ha:PE X a ta):PE X (.UnaryOp op a pos) (tUn r ta):=by
 intro h_ s σ H Q I h;exact UnaryOp_ (iR (ha h_ s σ H _ I h) λv s1 ⟨x,b,c,d,e⟩=>ho h_ s1 σ b x v Q c d e)
def X5{f:aj->aj->BO aj}{C:Int->Int->Prop}{g:Int->Int->Int}
  (rule:∀(i j:Int)(t u:LP)(s:ak)(Q:aj->ak->Prop)(E:aj->ak->Prop),C i j->Q (.int (g i j) s.toks) { s with toks:=s.toks+1 }->aG (aI X.prog X.w) X.A (f (.int i t) (.int j u)) Q E s) :
  j9 X f (rI C λi j=>.int (g i j)):=by
 intro h_ s σ H x y v u Q I a b h;obtain⟨i,j,rfl,rfl,hc,q⟩:=h;obtain⟨t,rfl⟩:=a;obtain⟨t',rfl⟩:=b;exact rule i j t t' s _ _ hc ⟨.int _,H,I.tok _,⟨_,rfl⟩,q⟩
def N0{f:aj->aj->BO aj}{g:Int->Int->Int}
  (rule:∀(i j:Int)(t u:LP)(s:ak)(Q:aj->ak->Prop)(E:aj->ak->Prop),Q (.int (g i j) s.toks) { s with toks:=s.toks+1 }->aG (aI X.prog X.w) X.A (f (.int i t) (.int j u)) Q E s) :
  j9 X f (L1 λi j=>.int (g i j)):=by
 intro h_ s σ H x y v u Q I a b h;obtain⟨i,j,rfl,rfl,q⟩:=h;obtain⟨t,rfl⟩:=a;obtain⟨t',rfl⟩:=b;exact rule i j t t' s _ _ ⟨.int _,H,I.tok _,⟨_,rfl⟩,q⟩
def WJ{f:aj->aj->BO aj}{g:Int->Int->Bool}
  (rule:∀(i j:Int)(t u:LP)(s:ak)(Q:aj->ak->Prop)(E:aj->ak->Prop),Q (.bool (g i j)) s->aG (aI X.prog X.w) X.A (f (.int i t) (.int j u)) Q E s) :
  j9 X f (L1 λi j=>.bl (g i j)):=by
 intro h_ s σ H x y v u Q I a b h;obtain⟨i,j,rfl,rfl,q⟩:=h;obtain⟨t,rfl⟩:=a;obtain⟨t',rfl⟩:=b;exact rule i j t t' s _ _ ⟨.bl _,H,I,rfl,q⟩
def Vr(i j:Int):Prop:=0<j/\j<1073741824
def Vq(i j:Int):Prop:=0<=j/\j<=1000000/\i.natAbs<2 ^ 64
def HE(i j:Int):Prop:=(-(2 ^ 64)<i/\i<2 ^ 64)\/(-(2 ^ 64)<j/\j<2 ^ 64)
def HE.ok(h:HE i j):IntMulOk i j:=by
 rcases h with⟨h1,h2⟩|⟨h1,h2⟩
 .exact .of_left (intBits_le_64 h1 h2)
 .exact .of_right (intBits_le_64 h1 h2)
def Cj(k:Nat):(0:Int)<=2 ^ k:=by
 exact Int.natCast_nonneg _
def SN:j9 X (binaryOp .Add) (L1 λi j=>.int (i+j)):=N0 λ_ _ _ _ _ _ _ q=>add_int q
def Sq:j9 X (binaryOp .Sub) (L1 λi j=>.int (i - j)):=N0 λ_ _ _ _ _ _ _ q=>sub_int q
def Sy:j9 X (binaryOp .Mult) (rI HE λi j=>.int (i * j)):=X5 λ_ _ _ _ _ _ _ hc q=>mul_int q hc.ok
def Sz:j9 X (binaryOp .Mod) (rI (λ_ j=>0<j) λi j=>.int (i % j)):=X5 λi j _ _ _ _ _ hc q=>by
 exact mod_int' (Int.ne_of_gt hc) (by rwa[Int.fmod_eq_emod_of_nonneg i (Int.le_of_lt hc)])
def Sr:j9 X (binaryOp .RShift) (rI (λ_ j=>0<=j) λi j=>.int (i / 2 ^ j.toNat)):=X5 λi j _ _ _ _ _ hc q=>
 rshift_int hc (by rwa[Int.fdiv_eq_ediv_of_nonneg i (Cj _)])
def SM:j9 X (binaryOp .BitAnd) (L1 λi j=>.int (HY i j)):=N0 λ_ _ _ _ _ _ _ q=>and_int q
def WG:j9 X (binaryOp .BitOr) (L1 λi j=>.int (pB i j)):=N0 λ_ _ _ _ _ _ _ q=>or_int q
def unI{f:aj->BO aj}{g:Int->Int}
  (rule:∀(i:Int)(t:LP)(s:ak)(Q:aj->ak->Prop)(E:aj->ak->Prop),Q (.int (g i) s.toks) { s with toks:=s.toks+1 }->aG (aI X.prog X.w) X.A (f (.int i t)) Q E s) :
  ZH X f (rU λi=>.int (g i)):=by
 intro h_ s σ H x v Q I a h;obtain⟨i,rfl,q⟩:=h;obtain⟨t,rfl⟩:=a;exact rule i t s _ _ ⟨.int _,H,I.tok _,⟨_,rfl⟩,q⟩
def QN:ZH X (unaryOp .USub) (rU λi=>.int (-i)):=unI λ_ _ _ _ _ q=>neg_int q
end
section
variable{b:a9}{tb:TE}
def Ut(I:Inv X h_ σ H s)(q:Q (.bl k) H)(e:k=k'):EP X h_ σ Q (.bool k') s:=by
 subst e;exact⟨.bl k,H,I,rfl,q⟩
def WH:j9 X (compareOp .Lt) (L1 λi j=>.bl (decide (i<j))):=WJ λ_ _ _ _ _ _ _ q=>nN q
def WI:j9 X (compareOp .Gt) (L1 λi j=>.bl (decide (j<i))):=WJ λ_ _ _ _ _ _ _ q=>gt_int q
def GY:j9 X (compareOp .In) (λx y H Q=>∃i j,x=.str i/\y=.str j/\Q (.bl (!(tJ j i 0 j.length 1).isEmpty)) H):=by
 intro h_ s σ H x y v u Q I a c h;obtain⟨i,j,rfl,rfl,q⟩:=h;obtain⟨t,rfl⟩:=a;obtain⟨t',rfl⟩:=c;exact in_str (Ut I q rfl)
def NN(ho:j9 X (compareOp op) r)(ha:PE X a ta)(hb:PE X b tb)(B:behindInMarks op b=d_):PE X (.Compare a [op] [b] pos) (IJ r ta tb):=by
 intro h_ s σ H Q I h;exact wpAny_Compare1 (U8 ha hb I h λv u s2 x y H2 c d e q=>ho h_ s2 σ H2 x y v u Q c d e q) B
def VQ(t:TE):TT:=λσ H Q=>t σ H λx H'=>∃k,x=.bl k/\Q k H'
def NF(ho:j9 X (compareOp op) r)(ha:PE X a ta)(hb:PE X b tb)(B:behindInMarks op b=d_):PT X (.Compare a [op] [b] pos) (VQ (IJ r ta tb)):=by
 intro h_ s σ H Q I h
 refine wpAny_isTrue_Compare1 (iR (ha h_ s σ H _ I h) λv s1 ⟨x,d,f,g,i⟩=>iR (hb h_ s1 σ d _ f i) λu s2 ⟨y,H2,j,l,m⟩=>
  iR (ho h_ s2 σ H2 x y v u _ j g l m) λc s3 ⟨z,n,o,p,k,e,q⟩=>?_) B
 subst e;cases p;exact gw ⟨n,o,q⟩
def Vd(K:aP)(x:V)(H:Hp)(k:Bool):Prop:=
 match x with
 |.non=>k=d_
 |.bl b=>k=b
 |.int i=>k=(i != 0)
 |.str y=>y.length<=aC/\k=((y.length:Int) != 0)
 |.byt y=>y.size<=aC/\k=((y.size:Int) != 0)
 |.ref p=>(∃xs,mH K H p xs/\k=!xs.isEmpty)\/(∃xs,vJ K H p xs/\k=!xs.isEmpty)\/∃k_,H p=a_ (.dK k_)/\k=!k_.isEmpty
 |_=>False
def Dj{κ:Type}{k_:List (κ×V)}{vs:List (κ×aj)}(r:KV k_ vs):(!vs.isEmpty)=!k_.isEmpty:=by
 cases r<;>rfl
def u9(r:cR xs its):(!its.toArray.isEmpty)=!xs.isEmpty:=by
 cases r<;>simp
def rP:(aC:Nat)<2 ^ 63:=cy
def IE:ZI X (λx H Q=>∃k,Vd X.K x H k/\Q k H):=by
 intro h_ s σ H x v Q I c h;obtain⟨k,e,q⟩:=h;have hs :=eK
 cases x with
 |non=>
   cases c;subst e;exact truthy_none ⟨H,I,q⟩
 |bl b=>
   cases c;subst e;exact gw ⟨H,I,q⟩
 |int i=>
   obtain⟨t,rfl⟩:=c;subst e;exact PySem.P.truthy_int ⟨H,I,q⟩
 |str y=>
   obtain⟨t,rfl⟩:=c;obtain⟨f,rfl⟩:y.length<=aC/\k=((y.length:Int) != 0):=e;exact PySem.P.truthy_str (by omega) ⟨H,I.tok _,q⟩
 |byt y=>
   obtain⟨t,rfl⟩:=c;obtain⟨f,rfl⟩:y.size<=aC/\k=((y.size:Int) != 0):=e;exact PySem.W.truthy_bytes (aa f cy) ⟨H,I.tok _,q⟩
 |ref p=>
   cases c;have a :=e
   rcases a with⟨xs,d,a⟩|⟨xs,d,a⟩|⟨k_,d,a⟩
   .subst a;obtain⟨its,r,pl,g⟩:=I.list d;have hlen:=r.length;exact wpAny_truthy_list pl.isList (by simp only[bh];omega) ⟨H,I.tok _,by rwa[u9 r]⟩
   .subst a;obtain⟨its,r,pl,g⟩:=I.tuple d;have hlen:=r.length;exact truthy_tuple pl (by simp only[bh];omega) ⟨H,I.tok _,by rwa[u9 r]⟩
   .subst a;obtain⟨g,j,vs,r,m⟩:k_.length<=aC/\(p == sysModules)=d_/\∃vs,KV k_ vs/\s.heap.DictOf (dx _ _) p vs:=I.hok p _ d;have hlen :=wA r;exact wpAny_truthy_dict j m (by omega) ⟨H,I.tok _,by rwa[Dj r]⟩
 |_=>exact(e).elim
def JB(ha:PE X a ta)(he:∀whole,isTrue a X.env whole=(do let v <-whole;standAt a.pos;holding [v] (truthy v))) :
  PT X a (λσ H Q=>ta σ H λx H'=>∃k,Vd X.K x H' k/\Q k H'):=by
 intro h_ s σ H Q I h;exact isTrue_plain (iR (ha h_ s σ H _ I h) λv s1 ⟨x,c,d,e,f⟩=>IE h_ s1 σ c x v Q d e f) (he _)
def CP:j9 X (binaryOp .Add) (λx y H Q=>∃i j,x=.str i/\y=.str j/\i.length+j.length<=aC/\Q (.str (i++j)) H):=by
 intro h_ s σ H x y v u Q I a c h;obtain⟨i,j,rfl,rfl,d,q⟩:=h;obtain⟨t,rfl⟩:=a;obtain⟨t',rfl⟩:=c;exact add_str (λt' e=>⟨.str _,H,I.tok _,⟨_,rfl⟩,q⟩) d
def vals1(r:cR [x] us):∃u,us=[u]/\RelV x u:=by
 cases r with
 |cons a c=>cases c;exact⟨_,rfl,a⟩
def vals2(r:cR [x,y] us):∃u B,us=[u,B]/\RelV x u/\RelV y B:=by
 cases r with
 |cons a c=>
   cases c with
   |cons d e=>cases e;exact⟨_,_,rfl,a,d⟩
def Hx:jS X (.type "int") (λxs H Q=>(∃i,xs=[.int i]/\Q (.int i) H)\/∃k,xs=[.bl k]/\Q (.int (if k then 1 else 0)) H):=by
 intro h_ s σ H xs us Q I r h
 rcases h with⟨i,rfl,q⟩|⟨k,rfl,q⟩
 .obtain⟨u,rfl,t,rfl⟩:=vals1 r;exact call_int_int ⟨.int i,H,I,⟨_,rfl⟩,q⟩
 .obtain⟨u,rfl,a⟩:=vals1 r;cases a;exact call_int_bool ⟨.int _,H,I.tok _,⟨_,rfl⟩,q⟩
def yQ:jS X (.type "str") (λxs H Q=>∃i,xs=[.int i]/\i.natAbs.log2<1920/\Q (.str (toString i)) H):=by
 intro h_ s σ H xs us Q I r h;obtain⟨i,rfl,a,q⟩:=h;obtain⟨u,rfl,t,rfl⟩:=vals1 r;exact PySem.P.str_of_int a ⟨.str _,H,I.tok _,⟨_,rfl⟩,q⟩
end
section
variable{K:aP}
end
noncomputable def rB(f:bc)(v:V):List (bc×V)->List (bc×V)
 |[]=>[(f,v)]
 |(g,x)::r=>if g=f then(g,v)::r else(g,x)::rB f v r
def BK.some_of(r:BK (a_ v) o):∃u,o=a_ u/\RelV v u:=by
 cases o with
 |none=>exact(r).elim
 |some u=>exact⟨u,rfl,r⟩
section
end
section
end
section
end
section
end
structure lz(k:Nat)(A:cc):Prop where
 hd:A.handled=b_
 dp:A.depth+3 * k+5<recursionLimit
 un:A.units+16 * k+200<dM
def lz.deeper(r:lz (k+1) A)(env:LS):lz k (A.deeper env):=
 ⟨r.hd,by refine (?_ : A.depth+1+3 * k+5<_);exact ig r.dp,by exact ig r.un⟩
def lz.depth(r:lz k A):A.depth<recursionLimit:=ig r.dp
def lz.units(r:lz k A):A.units+64<dM:=ig r.un
def VS:TA:=λ_ H Q=>Q [] H
def VU(B:TE)(tr:TA):TA:=λσ H Q=>B σ H λx a=>tr σ a λxs H2=>Q (x::xs) H2
section
variable{t:TA}
def yh:PA X [] VS:=λ_ _ _ _ H Q I h=>rk ⟨[],H,I,.nil,h⟩
def o5(ha:PE X e te)(B:PA X es t)(hs:aS (e::es) X.env=(d_,eval e X.env)::aS es X.env:=by rfl):PA X (e::es) (VU te t):=by
 intro pos h_ s σ H Q I h;rw[hs];exact qg (iR (ha h_ s σ H _ I h) λu s1 ⟨x,a,b,c,d⟩=>iR (B _ h_ s1 σ a _ b d) λus s2 ⟨xs,H2,f,g,i⟩=>⟨_,H2,f,.cons c g,i⟩)
def Yr(t:TA):TE:=λσ H Q=>t σ H λxs a=>xs.length<=aC/\∀p,a p=b_->Q (.ref p) (upd a p (.tup xs))
def Yw(t:TA):TE:=λσ H Q=>t σ H λxs a=>xs.length<=aC/\∀p,a p=b_->Q (.ref p) (upd a p (.lst xs))
def Sf{x1}(h:PA X es t):PE X (.Tuple es x1 pos) (Yr t):=by
 intro h_ s σ H Q I c;refine wpAny_Tuple_spliced (iR (h _ h_ s σ H _ I c) λus s1 ⟨xs,d,a,r,z,q⟩=>⟨by rwa[<-r.length],?_⟩);exact ⟨.ref _,upd d _ (.tup xs),a.laid (λb u e=>hp9 _ e) (ao _) (⟨z,us,r,⟨_,aL _ rfl,rfl,_,rfl⟩⟩),rfl,q _ (a.hok.fresh (ao _))⟩
def Sk(h:PA X es t):PE X (.List es pos) (Yw t):=by
 intro h_ s σ H Q I c;refine wpAny_List_spliced (iR (h _ h_ s σ H _ I c) λus s1 ⟨xs,d,a,r,z,q⟩=>⟨by rwa[<-r.length],?_⟩);exact ⟨.ref _,upd d _ (.lst xs),a.laid (λb u e=>hp9 _ e) (ao _) ⟨z,us,0,r,aL _ rfl⟩,rfl,q _ (a.hok.fresh (ao _))⟩
end
abbrev Sp:=List V->Hp->VK->XK->Prop
abbrev VI:=List LS->Hp->ak->XK->aj->ak->Prop
structure fm(P:cz)(w:dh)(K:aP)(mg:bc->Option aj)(base:cg)(A:cc)(outer:List LS)(s:ak)(H:Hp):Prop where
 frames:A.frames=a_ outer
 mod:Mod K mg base
 bs:∀b o,base.get? b=a_ o->s.heap.get? b=a_ o/\H b=b_
 bsz:base.objs.size<=s.heap.objs.size
 vh:s.heap.FunFrames base outer
 frf:∀b∈HP outer,H b=b_
 hok:sY P w H s.heap
 bare:n9 s.gens
def CE(outer:List LS)(P:cz)(w:dh)(H:Hp)(s:ak)(Q:VK)(u:aj)(s':ak):Prop:=
 ∃v H',s'.os=s.os/\n9 s'.gens/\Un (HP outer) [] H H' s.heap s'.heap/\sY P w H' s'.heap/\RelV v u/\Q v H'
def CR(CX:VI)(outer:List LS)(P:cz)(w:dh)(H:Hp)(s:ak)(Q:VK)(E:XK)(r:Result)(s':ak):Prop:=
 match r with
 |.ok (.ret u)=>CE outer P w H s Q u s'
 |.ok _=>False
 |.error e=>CX outer H s E e s'
structure lE(P:cz)(w:dh)(K:aP)(mg:bc->Option aj)(base:cg)(CX:VI)(k:Nat)(f:aK)(fd:jG)(ps:List bc)(sp:Sp):Prop where
 len:∀vs H Q E,sp vs H Q E->vs.length=ps.length
 run:∀(A:cc)(outer:List LS)(s:ak)(H:Hp)(args:Args)(us:List aj)(vs:List V)(Q:VK)(E:XK),lz k A->fm P w K mg base A outer s H->BQ s fd args (ps.zip us)->cR vs us->sp vs H Q E->
  codeAny (aI P w) A (.call (.ref f) args) (CR CX outer P w H s Q E) s
def lE.imp{K:aP}{base:cg}(F:lE P w K mg base CX k f fd ps sp)
  (h:∀vs H Q E,sp' vs H Q E->sp vs H Q E):lE P w K mg base CX k f fd ps sp':=
 ⟨λvs H Q E q=>F.len vs H Q E (h _ _ _ _ q),λA outer s H args us vs Q E a he hb b hs=>F.run A _ s H _ us vs Q E a he hb b (h _ _ _ _ hs)⟩
section
def Inv.Zr(I:Inv X h_ σ H s):fm X.prog X.w X.K X.mg X.base X.A X.stack s H:=
 ⟨I.ok.frames,I.ok.mod,I.bs,aa I.ok.bsz I.sz,I.stack,I.D6,I.hok,I.bare⟩
def Inv.after(I:Inv X h_ σ H s)(h:CE X.stack X.prog X.w H s Q u s'):EP X h_ σ Q u s':=by
 obtain⟨v,H',os,bare,un,hok,r,q⟩:=h;obtain⟨hh,g,d,t,a⟩:=s';obtain rfl:a=s.os:=os;exact⟨v,H',I.call un hok bare (λb z=>absurd z (by simp)),r,q⟩
end
def PN(sp:Sp)(B:List V)(E:XK)(t:TA):TE:=λσ H Q=>t σ H λvs a=>sp (vs++B) a Q E
def Binds(K:aP)(fd:jG)(ps:List bc)(ds:List aj):Prop:=
 ∀(s:ak)(us:List aj),K.In s.heap->(us++ds).length=ps.length->BQ s fd ⟨us,[]⟩ (ps.zip (us++ds))
def Binds.all{K:aP}{ps:List bc}(h:∀us:List aj,us.length=ps.length->bindArgs fd ⟨us,[]⟩=pure (ps.zip us)):Binds K fd ps []:=λs us _ hl=>by
 rw[aE]at hl ⊢;exact .of_eq (h us hl)
def ze(CX:VI)(X:Cx)(E:XK):Prop:=∀(h_:List (aK×lF))(σ:St)(H:Hp)(s:ak)(e:aj)(s':ak),Inv X h_ σ H s->CX X.stack H s E e s'->X.xe e s'
section
variable{X:Cx}{f C:aK}
def Jo(F:lE X.prog X.w X.K X.mg X.base CX k f fd ps sp)(B:lz k X.A)(hb:Binds X.K fd ps ds)(hd:cR dvs ds)(O:ze CX X E)
  (I:Inv X h_ σ H s)(r:cR vs us)(h:sp (vs++dvs) H Q E):aG (aI X.prog X.w) X.A (call (.ref f) us) (EP X h_ σ Q) X.xe s:=by
 have b :=r.append hd;refine wpAny_call (kC (F.run _ _ s H _ _ _ Q E B I.Zr (hb s us I.EX (by rw[<-b.length];exact F.len _ _ _ _ h)) b h) λr s' a=>?_)
 cases r with
 |error e=>exact O h_ σ H s e s' I a
 |ok fl=>
   cases fl with
   |ret u=>exact I.after a
   |next=>exact iT a
   |brk=>exact iT a
   |cont=>exact iT a
def Ew(F:lE X.prog X.w X.K X.mg X.base CX k f fd ps sp)(Y:lz k X.A)(Z:Gl X x)(hm:X.mg x=a_ (.ref f))(hk:fB X.K (.ref f)=c_)(hb:Binds X.K fd ps ds)(hd:cR dvs ds)(hx:ze CX X E)
  (ha:PA X (e::es) t)(B:(x == ("__debug__":bc))=d_)(he:aS (e::es) X.env=(d_,eval e X.env)::aS es X.env)(O:(backTo pos (aS es X.env)).any (·.1)=d_) :
  PE X (.Call (.Name x p) (e::es) [] pos) (PN sp dvs E t):=by
 intro h_ s σ H Q I h;refine eW (yw I Z hm ?_ B);exact PySem.W.callWith_K I.ok.mod.kin hk (iR (ha _ h_ s σ H _ I h) λus s1 ⟨vs,b,a,r,q⟩=>⟨a.EX,(Jo F Y hb hd hx a r q)⟩) he O
def JP(F:lE X.prog X.w X.K X.mg X.base CX k f fd ps sp)(O:lz k X.A)(Y:Gl X x)(Z:X.mg x=a_ (.ref f))(hk:fB X.K (.ref f)=c_)(hb:Binds X.K fd ps ds)(hd:cR dvs ds)(hx:ze CX X E)
  (B:(x == ("__debug__":bc))=d_):PE X (.Call (.Name x p) [] [] pos) (PN sp dvs E VS):=by
 intro h_ s σ H Q I h;exact eW (yw I Y Z (PySem.W.callWith_K0 I.EX hk (Jo F O hb hd hx I .nil h)) B)
structure Mk(K:aP)(C f:aK):Prop where
 makes:PySem.W.makesIn K C=c_
 init:PySem.W.findIn K (.ref C) "__init__"=a_ (a_ (.ref f))
 fn:PySem.W.isFn K (.ref f)=c_
 kp:fB K (.ref C)=c_
end
section
end
structure pf(N P:List bc)(sc:mI):Prop where
 kind:sc.kind=.function
 co:sc.isCoroutine=d_
 gen:sc.isGenerator=d_
 nd:N.Nodup
 pre:N.take P.length=P
 par:∀x∈P,sc.names.lookup x=a_ .local\/sc.names.lookup x=a_ .cell
 nofree:∀y∈sc.names,y.2≠.free
theorem xx{kindOf:bc->Option kE}:∀{binds:List (bc×aj)}{m:bc->Option aj},(∀v,(x,v)∉binds)->bindL kindOf binds m x=m x
 |[],_,_=>rfl
 |(n,v)::r,m,h=>by
   unfold bindL;rw[xx λw a=>h w (ju _ a)];split
   .grind
   .rfl
theorem xC{kindOf:bc->Option kE}:∀{binds:List (bc×aj)}{m:bc->Option aj},(∀v,(x,v)∉binds)->bindC kindOf binds m x=m x
 |[],_,_=>rfl
 |(n,v)::r,m,h=>by
   unfold bindC;rw[xC λw a=>h w (ju _ a)];split
   .rfl
   grind
theorem xA{kindOf:bc->Option kE}:∀{P:List bc} {vs:List aj} {i:Nat} {m:bc->Option aj},P.Nodup->P[i]?=a_ x->vs[i]?=a_ v->kindOf x=a_ .local->
  bindL kindOf (P.zip vs) m x=a_ v
 |[],_,_,_,_,h,_,_=>by simp at h
 |_::_,[],_,_,_,_,h,_=>by simp at h
 |p::P,w::vs,0,m,nd,h1,h2,hk=>by
   simp at h1 h2;subst h1;subst h2;show bindL _ ((p,w)::P.zip vs) m p=_;unfold bindL;rw[xx λv a=>(aU.mp nd).1 (iu a).1,if_pos hk];simp
 |p::P,w::vs,i+1,m,nd,h1,h2,hk=>by
   show bindL _ ((p,w)::P.zip vs) m x=_;exact xA (aU.mp nd).2 (by simpa using h1) (by simpa using h2) hk
theorem xD{kindOf:bc->Option kE}:∀{P:List bc} {vs:List aj} {i:Nat} {m:bc->Option aj},P.Nodup->P[i]?=a_ x->vs[i]?=a_ v->kindOf x≠a_ .local->
  bindC kindOf (P.zip vs) m x=a_ v
 |[],_,_,_,_,h,_,_=>by simp at h
 |_::_,[],_,_,_,_,h,_=>by simp at h
 |p::P,w::vs,0,m,nd,h1,h2,hk=>by
   simp at h1 h2;subst h1;subst h2;show bindC _ ((p,w)::P.zip vs) m p=_;unfold bindC;rw[xC λv a=>(aU.mp nd).1 (iu a).1,if_neg hk];simp
 |p::P,w::vs,i+1,m,nd,h1,h2,hk=>by
   show bindC _ ((p,w)::P.zip vs) m x=_;exact xD (aU.mp nd).2 (by simpa using h1) (by simpa using h2) hk
noncomputable def start(N:List bc)(vs:List V):St:=vs.map a_++bD (N.length - vs.length) b_
noncomputable def wo(CX:VI)(P:cz)(w:dh)(K:aP)(mg:bc->Option aj)(base:cg)(N:List bc)(qual:bc)(scope:mI)(f:aK)(B:aj)(A:cc)(outer:List LS)(s:ak)(H:Hp)(E:XK):Cx where
 prog:=P
 w:=w
 K:=K
 mg:=mg
 base:=base
 A:=A.deeper (envOfC qual scope s.heap.objs.size f B)
 N:=N
 s₀:=s
 H₀:=H
 env:=envOfC qual scope s.heap.objs.size f B
 outer:=outer
 stack:=envOfC qual scope s.heap.objs.size f B::outer
 ex:=[]
 calm:=c_
 fn:=λ_=>c_
 pn:=[]
 xe:=λe s'=>aG (aI P w) (A.deeper (envOfC qual scope s.heap.objs.size f B)) (leaving (envOfC qual scope s.heap.objs.size f B) e) (λ_ a=>CX outer H s E e a) (λb a=>CX outer H s E b a) s'
def Bs{sc:mI}(h:sc.names.lookup x=a_ .cell):∃c,(cellsFrom n sc.names []).lookup x=a_ c:=by
 exact mJ.mp (xJ _ n [] (.inl h))
def Hf{K:aP}{base:cg}{A:cc}{s1:ak}{vs:List V}
  (S:pf N ps scope)(hd:A.handled=b_)(B:fm P w K mg base A outer s H)(hl:vs.length=ps.length)(r:cR vs us)
  (x:InCallC s s.heap.objs.size (bindL (envOfC qual scope s.heap.objs.size f cd).kindOf (ps.zip us) λ_=>b_) (cellsFrom (s.heap.objs.size+1) scope.names []) (bindC (envOfC qual scope s.heap.objs.size f cd).kindOf (ps.zip us) λ_=>b_) s1) :
  Inv (wo CX P w K mg base N qual scope f cd A outer s H E) [] (start N vs) H s1:=by
 obtain⟨h1,n,rfl,hk⟩:=x.done;have a:∀b:aK,b∉(wo CX P w K mg base N qual scope f cd A outer s H E).ex:=λb z=>absurd (show b∈([])from z) (by simp)
 refine⟨⟨B.mod,S.kind,rfl,rfl,ao _,λy z c h1 h2=>(name_of_addr x.apart (gv h1) (gv h2)),λy d=>?_,λy c _ h=>(aD (x.above y c (gv h))),λ_=>hd,Around.frames_deeper B.frames,.inr ⟨rfl,rfl⟩,λb z=>absurd z (a b),B.bs,B.bsz,λb _ _=>a b,λb z=>absurd z (a b),B.vh,B.frf⟩,
  rfl,B.bare,Un.kept hk,⟨_,x.toInCall.ns,λi y v h1 h2 h3=>?_⟩,λy c h=>⟨_,x.cell y c h⟩,B.hok.fresh (ao _),λy c h=>(B.hok.fresh (aD (x.above y c (gv h)))),λp hp=>absurd (show p∈([])from hp) (by simp),B.hok.kept hk,?_⟩
 .rcases d with d|d
  .exact Bs d
  .exact absurd rfl (S.nofree _ (gv d))
 .have hi:i<vs.length:=by
   unfold start at h2;by_cases hi:i<vs.length
   .exact hi
   .rw[aJ (by simpa using hi)]at h2;rw[cx]at h2
    grind
  have ha:vs[i]?=a_ v:=by
   unfold start at h2;rw[aQ (by simpa using hi),aO]at h2
   simp_all
  obtain⟨u,l,m⟩:=r.get ha
  have hp:ps[i]?=a_ y:=by
   rwa[<-S.pre,List.getElem?_take_of_lt (aa hi (ae hl))]
  have g:ps.Nodup:=by rw[<-S.pre];exact S.nd.sublist (iG _ _)
  refine⟨u,m,?_⟩
  rcases S.par y (aX hp)with k|k
  .exact .inl ⟨k,xA g hp l k⟩
  .obtain⟨c,e⟩:=Bs k;refine .inr ⟨.inl k,c,e,?_⟩;have q:=x.cell y c e;rwa[xD g hp l (by show scope.names.lookup y≠_;rw[k];decide)]at q
 .unfold start;rw[ah,aA,iE];exact fZ (aa (ae hl) (by have:=congrArg fD S.pre;rw[fI]at this;exact aa (ae this.symm) (kF _ _)))
def Xj{K:aP}{base:cg}{kV:aj}
  (Y:K.lookup f=a_ ⟨oc,od,.func (qf name qual params body scope dV kV doc pm an cdv ct),osl⟩)(O:t6 K cdv qual=c_)(S:pf N ps scope)
  (len:∀vs H Q E,sp vs H Q E->vs.length=ps.length)
  (B:∀(A:cc)(outer:List LS)(s:ak)(H:Hp)(vs:List V)(Q:VK)(E:XK),lz k (A.deeper (envOfC qual scope s.heap.objs.size f cdv))->sp vs H Q E->
   ∃t,zf (wo CX P w K mg base N qual scope f cdv A outer s H E) body t/\t { nx:=λ_ H'=>Q .non H',rt:=Q } (start N vs) H) :
  lE P w K mg base CX (k+1) f (qf name qual params body scope dV kV doc pm an cdv ct) ps sp:=by
 refine⟨len,λA outer s H args us vs Q E h d hb r g=>?_⟩;have l :=d.mod.kin.keeps λb o e=>(d.bs b o e).1;have c:∀y∈ps.zip us,scope.names.lookup _=a_ _\/(scope.names.lookup _=a_ _/\((cellsFrom (s.heap.objs.size+1) _ []).lookup _).isSome=c_):=λm p=>by
  rcases S.par _ (iu p).1 with q|q
  .exact .inl q
  .exact .inr ⟨q,xJ _ _ _ (.inl q)⟩
 refine codeAny_call_function h.depth (l _ _ Y) rfl S.co S.gen rfl (PySem.W.codeRec_of l O) (hb _ _ _ _ ?_);refine wpAny_newFunctionEnv_cells S.kind c λenv he s1 x=>?_;subst he;refine⟨(d.mod.nolimit.keeps λb o e=>(d.bs b o e).1).keeps x.toInCall.keep,codeAny_func ?_⟩;obtain⟨t,ht,z⟩:=B A _ s H vs Q E (h.deeper _) g;refine dz (ht [] s1 _ H _ (Hf S h.hd d (len _ _ _ _ g) r x) z) (λfl s' hs=>?_) λe s' hs=>hs
 have fin:∀{a:St}{H':Hp}{v:V}{u:aj},Inv (wo CX P w K mg base N qual scope f cdv A outer s H E) [] a H' s'->RelV v u->Q v H'->CE _ P w H s Q u s':=
  λ{a H' v u}J j q=>⟨v,H',J.os,J.bare,J.base,J.hok,j,q⟩
 cases fl with
 |ret u=>
   obtain⟨v,a,H',J,j,q⟩:=hs;exact fin J j q
 |next=>
   obtain⟨a,H',J,q⟩:=hs;exact fin (v:=V.non) J rfl q
 |brk=>
   obtain⟨_,_,_,q⟩:=hs;exact iT q
 |cont=>
   obtain⟨_,_,_,q⟩:=hs;exact iT q
section
variable{t:TA}{id T:String}{r:List V->Hp->VK->Prop}
def Yz(r:List V->Hp->VK->Prop)(t:TA):TE:=λσ H Q=>t σ H λvs a=>r vs a Q
def uK(hc:jS X (.builtin id) r)(Y:Gl X x)(Z:X.mg x=b_)(hv:bootBuiltins x=a_ (.builtin id))(ha:PA X (e::es) t)(hn:x≠"__name__")(B:(x == ("__debug__":bc))=d_)
  (he:aS (e::es) X.env=(d_,eval e X.env)::aS es X.env)(O:(backTo pos (aS es X.env)).any (·.1)=d_):PE X (.Call (.Name x p) (e::es) [] pos) (Yz r t):=by
 intro h_ s σ H Q I h;exact eW (mD I Y Z hv (pC (iR (ha _ h_ s σ H _ I h) λus s1 ⟨vs,a,b,c,d⟩=>hc h_ s1 σ a vs us Q b c d) he O) hn B)
def GW(hc:jS X (.type T) r)(Y:Gl X x)(Z:X.mg x=b_)(hv:bootBuiltins x=a_ (.type T))(ha:PA X (e::es) t)(hn:x≠"__name__")(B:(x == ("__debug__":bc))=d_)
  (he:aS (e::es) X.env=(d_,eval e X.env)::aS es X.env)(O:(backTo pos (aS es X.env)).any (·.1)=d_):PE X (.Call (.Name x p) (e::es) [] pos) (Yz r t):=by
 intro h_ s σ H Q I h;exact eW (mD I Y Z hv (de (iR (ha _ h_ s σ H _ I h) λus s1 ⟨vs,a,b,c,d⟩=>hc h_ s1 σ a vs us Q b c d) he O) hn B)
end
end L2
namespace HT
open PySem PyProof.Rows
section
open PySem.SeqAt
open PySem.AutoSeq1 (wpAny_loadPart')
open PySem.MeetsSeq PySem.MeetsSeq2 PySem.MeetsSeq3
end
section
variable{s:ak}
def OY{vs ws:List aj}(ht:nj s.heap t vs.toArray)(hb:nj s.heap b ws.toArray)(B:vs≠[])
  (h1:ws=[]->Q (.ref t) s)(h2:ws≠[]->Q (.ref s.heap.objs.size) { s with heap:=s.heap.push { cls:=.type "tuple",data:=.seq (vs++ws).toArray } })
  (hsz:vs.length+ws.length<=aC):aG (aI prog w) A (binaryOp .Add (.ref t) (.ref b)) Q E s:=by
 refine ac λ_ k=>?_;obtain⟨⟨cls,h,data,sl⟩,ho,hc,n,hd⟩:=id ht;obtain⟨⟨i,c,data2,xV⟩,a,f,j,g⟩:=id hb;subst hc hd f g;refine k ?_;have e:vs.toArray++ws.toArray=(vs++ws).toArray:=by simp
 by_cases d:ws=[]
 .exact vX ⟨_,ho,rfl⟩ ⟨_,a,rfl⟩ xH F6 ng mK (l8 _ _)
   (tuple_addW1 t b _ _ n j h c sl xV (by simpa using B) (by simp[d])) ⟨ho,a,h1 d⟩
 .refine vX ⟨_,ho,rfl⟩ ⟨_,a,rfl⟩ xH F6 ng mK (l8 _ _)
   (tuple_addW2 t b _ _ n j h c sl xV (by simpa using B) (by simpa using d) (by exact hsz)) ⟨ho,a,?_⟩
  rw[e];exact h2 d
noncomputable def iH(n d:Nat):Option Int->Nat
 |none=>d
 |some v=>if v<0 then(v+(n:Int)).toNat else min v.toNat n
def Af(n d:Nat):iH n d b_=d:=rfl
def Ef(n d k:Nat):iH n d (a_ (k:Int))=min k n:=by
 show(if(k)<0 then((k:Int)+(n)).toNat else min _ n)=min k n;simp
def RM(n d:Nat)(hd:d<=n)(o:Option Int):iH n d o<=n:=by
 cases o with
 |none=>exact hd
 |some v=>
   show(if v<0 then(v+(n)).toNat else min _ n)<=n;by_cases a:v<0
   .rw[if_pos a];omega
   .rw[if_neg a];exact kF _ _
def FH(v:Int)(n d:Nat):(if v<0 then max (v+(n:Int)) 0 else min v (n:Int))=((iH n d (a_ v):Nat):Int):=by
 show(if v<0 then max _ 0 else min v _)=(((if v<0 then(v+(n)).toNat else min _ n):Nat))
 grind
def DQ(lo hi:Option Int)(n:Nat):qQ lo hi 1 (n:Int)=(((iH n 0 lo:Nat):Int),((iH n n hi:Nat):Int)):=by
 refine DW ?_ ?_
 .cases lo with
  |none=>rfl
  |some v=>exact FH v n 0
 .cases hi with
  |none=>rfl
  |some v=>exact FH v n n
def CK(i j:Nat):iq (i:Int) (j:Int) 1=j - i:=by
 unfold iq
 grind
def uu(p:rh v o)(h:Q o s):aG (aI prog w) A (Builtin.Slice.slicePartIndex v) Q E s:=by
 cases p with
 |none=>exact slicePart_none h
 |int i t=>exact slicePart_int h
def mP{sl:aK}{B O:aj}{lo hi:Option Int}{n:Nat}{Q:Int×Int×Nat->ak->Prop}(hs:s.heap.IsSliceOf sl B O .none)(pl:rh B lo)(Y:rh O hi)
  (h:Q (((iH n 0 lo:Nat):Int),1,iH n n hi - iH n 0 lo) s):aG (aI prog w) A (Builtin.Slice.sliceApplied (.ref sl) (pure (n:Int))) Q E s:=by
 obtain⟨os,a,c,b⟩:=id hs;refine wb9 (wb9 (cA a b (x:=B) rfl (wb9 (cA a b (x:=O) rfl (wb9 (cA a b rfl (wu9 ?_)))))));refine wb9 (slicePart_none ?_);refine wb9 (uu pl (wb9 (uu Y (wb9 (wu9 ?_)))));show aG _ _ (match qQ lo hi 1 (n)with|(lo,hi)=>pure (lo,(1:Int),iq lo hi 1)) _ _ s;rw[DQ lo hi n];show aG _ _ (pure (((iH n 0 lo):Int),(1),iq _ _ 1)) _ _ s;rw[CK];exact wu9 h
def JG(xs:Array aj)(i k:Nat):((aR k).filterMap λ(m:Nat)=>xs[((i:Int)+(m:Int) * 1).toNat]?).toArray=((xs.toList.drop i).take k).toArray:=by
 have e:(λ(m:Nat)=>xs[((i:Int)+(m) * 1).toNat]?)=λm=>xs[i+m]? :=by
  funext m
  grind
 rw[e];have:=pick_run xs i k;have e2:((λx=>xs[x]?) ∘ λx=>i+x)=λm=>xs[i+m]? :=rfl
 simp_all
def qH{sl:aK}{lo:Option Int}(ht:nj s.heap t items)(hs:s.heap.IsSliceOf sl vl vu .none)(pl:rh vl lo)(B:rh vu hi)
  (O:¬(iH items.size 0 lo=0/\iH items.size items.size hi=items.size))
  (h:Q (.ref s.heap.objs.size) { s with heap:=s.heap.push { cls:=.type "tuple",data:=.seq ((items.toList.drop (iH items.size 0 lo)).take (iH items.size items.size hi - iH items.size 0 lo)).toArray } })
  (hsz:items.size<=aC):aG (aI prog w) A (getItem (.ref t) (.ref sl)) Q E s:=by
 have a:sizeOk (.seq ((items.toList.drop (iH items.size 0 lo)).take (iH items.size items.size hi - iH items.size 0 lo)).toArray):=by
  show((items.toList.drop (iH _ 0 lo)).take (iH _ _ hi - iH _ 0 lo)).toArray.size<=aC;rw[bh,fI,dW,bF];omega
 obtain⟨os,b,c,f⟩:=id hs;unfold getItem
 try with_reducible refine dQ ?_
 first|grind|skip
 refine wb9 (wpAny_sequenceKey ht.typeIs cy ?_)
 refine wb9 (cB ht.typeIs dm
  (bJ dm ht.typeIs entry_tuple_getitem ?_ (args_tuple_getitem _ _)))
 show aG _ _ (kg _ >>= _) _ _ s;refine wb9 (tupleItemsOf_ ht ?_);refine wb9 (kB ⟨os,b,c⟩ ?_);refine wb9 (mP hs pl B ?_)
 have e:¬((((iH items.size 0 lo):Int) == 0 && (1:Int) == 1 && (iH items.size items.size hi - iH items.size 0 lo) == items.size)=c_):=by
  simp_all
 show aG _ _ (if(((iH _ 0 lo):Int) == 0 && (1) == 1 && (iH _ _ hi - iH _ 0 lo) == items.size)=c_ then _ else _) _ _ s;rw[if_neg e,JG]
 first
  |exact wb9 (dJ (wu9 ⟨_,rfl,wu9 h⟩) a)
  |simp
  |simp
  |simp
end
end HT
namespace L2
open PySem PySem.Spec PyProof.Rows
abbrev TO:=St->Hp->(Option Int->Hp->Prop)->Prop
def PO(X:Cx)(e:Option a9)(t:TO):Prop:=
 ∀(h_:List (aK×lF))(s:ak)(σ:St)(H:Hp)(Q:Option Int->Hp->Prop),Inv X h_ σ H s->t σ H Q->
  aG (aI X.prog X.w) X.A (evalPart e X.env) (λu s'=>∃o H',Inv X h_ σ H' s'/\rh u o/\Q o H') X.xe s
def MG:TO:=λ_ H Q=>Q b_ H
def VR(t:TE):TO:=λσ H Q=>t σ H λx a=>∃i,x=.int i/\Q (a_ i) a
section
variable{X:Cx}{te:TE}{lo hi:Option a9}{tl th:TO}
def NI:PO X b_ MG:=by
 intro h_ s σ H Q I h;exact wu9 ⟨b_,H,I,.none,h⟩
def NH(h:PE X e te):PO X (a_ e) (VR te):=by
 intro h_ s σ H Q I a;refine iR (h h_ s σ H _ I a) λu s1 ⟨x,b,c,d,f⟩=>?_;obtain⟨i,rfl,q⟩:=f;obtain⟨t,rfl⟩:=d;exact⟨_,b,c,.int i t,q⟩
def Yf(X:Cx)(r:V->Option Int->Option Int->Hp->VK->Prop):Prop:=
 ∀(h_:List (aK×lF))(s:ak)(σ:St)(H:Hp)(x:V)(v a b:aj)(lo hi:Option Int)(sl:aK)(Q:VK),Inv X h_ σ H s->RelV x v->s.heap.IsSliceOf sl a b .none->rh a lo->rh b hi->r x lo hi H Q->
  ∃T c,typeLookup (.type T) "__getitem__"=pure (a_ (.builtin c))/\s.TypeIs v T/\aG (aI X.prog X.w) X.A (getItem v (.ref sl)) (EP X h_ σ Q) X.xe s
def tSl(r:V->Option Int->Option Int->Hp->VK->Prop)(te:TE)(tl th:TO):TE:=λσ H Q=>te σ H λx a=>tl σ a λl H2=>th σ H2 λu b=>r x l u b Q
def JM(B:Yf X r)(he:PE X e te)(hl:PO X lo tl)(O:PO X hi th):PE X (.Subscript e (.Slice lo hi b_ p2) pos) (tSl r te tl th):=by
 intro h_ s σ H Q I h;refine Subscript_ (iR (he h_ s σ H _ I h) λv s1 ⟨x,f,g,i,j⟩=>?_);refine wpAny_Slice (iR (hl h_ s1 σ f _ g j) λa s2 ⟨l,H2,k,pl,m⟩=>iR (O h_ s2 σ H2 _ k m) λc s3 ⟨u,d,n,o,p⟩=>?_);refine wu9 ?_;obtain⟨T,A,w,ht,y⟩:=B h_ { s3 with heap:=s3.heap.push { cls:=.type _,data:=.fields _ } } σ d x v a c l u _ Q (n.kept λb z q=>hp9 _ q) i (Heap.IsSliceOf.new ..) pl o p;exact Mh ht w y (by with_unfolding_all rfl)
def DE(xs:List V)(lo hi:Option Int):List V:=(xs.drop (HT.iH xs.length 0 lo)).take (HT.iH xs.length xs.length hi - HT.iH xs.length 0 lo)
def sV(xs:List V)(lo hi:Option Int):(DE xs lo hi).length<=xs.length:=by
 unfold DE;rw[fI,dW];exact aa (kF _ _) (oj _ _)
def YI(K:aP):V->Option Int->Option Int->Hp->VK->Prop:=λx lo hi H Q=>∃a xs,x=.ref a/\vJ K H a xs/\
 ¬(HT.iH xs.length 0 lo=0/\HT.iH xs.length xs.length hi=xs.length)/\∀p,H p=b_->Q (.ref p) (upd H p (.tup (DE xs lo hi)))
def Ro:Yf X (YI X.K):=by
 intro h_ s σ H x v i j lo hi sl Q I d hs pl e h;refine ac λ_ l=>?_;obtain⟨a,xs,rfl,f,g,q⟩:=h;cases d;obtain⟨its,r,ht,c⟩:=I.tuple f;refine l ?_;have hlen:its.toArray.size=xs.length:=by exact r.length.symm
 refine⟨_,_,dm.lookup,ht.typeIs,?_⟩;refine HT.qH ht hs pl e (by rwa[hlen]) ?_ (by rwa[hlen]);rw[hlen];refine⟨.ref _,_,I.laid (λb k q=>hp9 _ q) (ao _) ?_,rfl,q _ (I.hok.fresh (ao _))⟩;exact⟨aa (sV xs lo hi) c,_,(r.drop (HT.iH _ 0 lo)).take (HT.iH _ _ hi - HT.iH _ 0 lo),Ie _ _⟩
def Wv(K:aP):R2:=λx y H Q=>∃a b xs ys,x=.ref a/\y=.ref b/\vJ K H a xs/\vJ K H b ys/\xs≠[]/\xs.length+ys.length<=aC/\
 (ys=[]->Q (.ref a) H)/\(ys≠[]->∀p,H p=b_->Q (.ref p) (upd H p (.tup (xs++ys))))
def cR.yj(r:cR xs us):us=[]↔xs=[]:=by
 cases r with
 |nil=>simp
 |cons _ _=>simp
def NW:j9 X (binaryOp .Add) (Wv X.K):=by
 intro h_ s σ H x y v u Q I e f h;refine ac λ_ p=>?_;obtain⟨a,b,xs,ys,rfl,rfl,ha,hb,g,i,j,k⟩:=h;cases e;cases f;obtain⟨its,d,l,_⟩:=I.tuple ha;obtain⟨n,c,m,_⟩:=I.tuple hb;refine p ?_;refine HT.OY l m (λz=>g (d.yj.mp z)) (λz=>⟨.ref a,H,I,rfl,j (c.yj.mp z)⟩) (λz=>?_) (by rwa[<-d.length,<-c.length]);refine⟨.ref _,_,I.laid (λb o q=>hp9 _ q) (ao _) ?_,rfl,k (λw=>z (c.yj.mpr w)) _ (I.hok.fresh (ao _))⟩;exact⟨by simp_all,_,d.append c,Ie _ _⟩
end
noncomputable def pH(n:Nat)(i:Int):Option Nat:=if 0<=i then(if i<n then a_ i.toNat else b_)else if -(n:Int)<=i then a_ (i+n).toNat else b_
def tF{α:Type}(xs:List α)(i:Int):Option α:=(pH xs.length i).bind λj=>xs[j]?
def yy(h:pH n i=a_ j):seqIndex? i n=a_ j/\j<n/\-(n:Int)<=i/\i<n:=by
 unfold pH at h;by_cases h0:0<=i
 .rw[if_pos h0]at h;by_cases h1:i<n
  .rw[if_pos h1]at h;have e :=bA h;exact⟨by rw[Ma h0 h1,e],by omega,by omega,h1⟩
  simp_all
 .rw[if_neg h0]at h;by_cases h1:-(n)<=i
  .rw[if_pos h1]at h;have e :=bA h;exact⟨by rw[HU (mf.mp h0) h1,e],by omega,h1,gf (mf.mp h0) (dE _)⟩
  simp_all
def yV (h:tF xs i=a_ v):∃j,seqIndex? i xs.length=a_ j/\xs[j]?=a_ v/\j<xs.length/\-(xs.length:Int)<=i/\i<xs.length:=by
 unfold tF at h
 cases e:pH _ i with
 |none=>rw[e]at h;cases h
 |some j=>
   rw[e]at h;obtain⟨h1,h2,h3,a⟩:=yy e;exact⟨j,h1,h,h2,h3,a⟩
def jd{α:Type}{xs:List α}{j:Nat}{v:α}(h:xs[j]?=a_ v):tF xs (j:Int)=a_ v:=by
 have a :=(aN.mp h).1
 have e:pH xs.length (j)=a_ j:=by
  unfold pH
  simp_all
 unfold tF;rwa[e]
def yZ(b:a9):Prop:=∀o i,subscripted b d_ o i=operate [o,i] (getItem o i)
def Vi(X:Cx)(r:R2):Prop:=
 ∀(value slice:a9)(h_:List (aK×lF))(s:ak)(σ:St)(H:Hp)(x y:V)(v u:aj)(Q:VK),Inv X h_ σ H s->RelV x v->RelV y u->r x y H Q->
  subscripted slice d_ v u=operate [v,u] (getItem v u)->aG (aI X.prog X.w) X.A (subscriptTail value slice v u) (EP X h_ σ Q) X.xe s
def Pp(X:Cx)(B:String)(r:V->List V->Hp->VK->Prop):Prop:=
 ∀(h_:List (aK×lF))(s:ak)(σ:St)(H:Hp)(x:V)(xs:List V)(v:aj)(us:List aj)(Q:VK),Inv X h_ σ H s->RelV x v->cR xs us->r x xs H Q->
  aG (aI X.prog X.w) X.A (call (.builtin B) (v::us)) (EP X h_ σ Q) X.xe s
section
variable{a:a9}{tb:TE}
def wU(B:Vi X r)(ha:PE X a ta)(hb:PE X b tb)(hs:yZ b):PE X (.Subscript a b pos) (IJ r ta tb):=by
 intro h_ s σ H Q I h;exact Subscript_ (U8 ha hb I h λv u s2 x y H2 c d e q=>B a b h_ s2 σ H2 x y v u Q c d e q (hs _ _))
def GS(K:aP):R2:=λx y H Q=>∃p xs i v,x=.ref p/\y=.int i/\mH K H p xs/\tF xs i=a_ v/\Q v H
def YK(K:aP):R2:=λx y H Q=>∃p xs i v,x=.ref p/\y=.int i/\vJ K H p xs/\tF xs i=a_ v/\Q v H
def YL:R2:=λx y H Q=>∃z i c,x=.str z/\y=.int i/\z.length<=aC/\tF z.cps.toList i=a_ c/\Q (.str ⟨#[c]⟩) H
def qD:Vi X (GS X.K):=by
 intro value slice h_ s σ H x y v u Q I e f h hs;refine ac λ_ a=>?_;obtain⟨p,xs,i,z,rfl,rfl,g,he,q⟩:=h;cases e;obtain⟨t,rfl⟩:=f;obtain⟨its,r,pl,k⟩:=I.list g;obtain⟨j,h1,h2,h3,l,h5⟩:=yV he;obtain⟨w,d,b⟩:=r.get h2;refine a ?_;have hl:=r.length;have m:=rP;by_cases h0:0<=i
 .have c:i.toNat=j:=by
   rw[Ma h0 h5]at h1
   simp_all
  exact item_listR pl.isList h0 (gf h5 (gf (eT.mpr k) cy)) (by rw[c];simpa using d) ⟨z,H,I,b,q⟩ hs
 .have c:(i+(its.toArray.size)).toNat=j:=by
   rw[HU (mf.mp h0) l]at h1
   simp_all
  exact Ia pl.isList.typeIs slot_list_getitem.lookup
   (wpAny_getItem_list_neg pl.isList (mf.mp h0) (by simp_all) (by omega) (by rw[c];simpa using d) ⟨rfl,⟨z,H,I,b,q⟩⟩) hs
def T5:Vi X (YK X.K):=by
 intro value slice h_ s σ H x y v u Q I c d h hs;refine ac λ_ a=>?_;obtain⟨p,xs,i,z,rfl,rfl,e,he,q⟩:=h;cases c;obtain⟨t,rfl⟩:=d;obtain⟨its,r,pl,f⟩:=I.tuple e;obtain⟨j,h1,h2,h3,k,h5⟩:=yV he;obtain⟨w,g,b⟩:=r.get h2;refine a ?_;have l:=rP;exact Ia pl.typeIs slot_tuple_getitem.lookup
  (qS pl (by omega) (gf h5 (gf (eT.mpr f) cy)) (by rwa[bh,<-r.length]) (by simpa using g) ⟨rfl,⟨z,H,I,b,q⟩⟩) hs
def T6:Vi X YL:=by
 intro value slice h_ s σ H x y v u Q I b d h hs;refine ac λ_ a=>?_;obtain⟨z,i,c,rfl,rfl,f,he,q⟩:=h;obtain⟨t,rfl⟩:=b;obtain⟨t',rfl⟩:=d;obtain⟨j,h1,h2,h3,e,h5⟩:=yV he;refine a ?_;have hl:z.cps.toList.length=z.length:=by simp[Str.length]
 rw[hl]at h1 e h5;have g:=rP
 exact Mh (typeIs_str s z t) slot_str_getitem.lookup (getItem_str (by
  grind) (by rw[h1];simpa using h2) ⟨.str ⟨_⟩,H,I.tok _,⟨_,rfl⟩,q⟩) hs
def C5(its:List aj)(n j:Nat)(u:aj):eN (·.setIfInBounds j u) { cls:=.type "list",data:=.seq its.toArray n }={ cls:=.type "list",data:=.seq (its.set j u).toArray n }:=by
 simp[eN]
def Inv.lst(I:Inv X h_ σ H s)(h:H p=a_ (.lst xs)) :
  ∃(its:List aj) (n:Nat),cR xs its/\s.heap.get? p=a_ { cls:=.type "list",data:=.seq its.toArray n }/\xs.length<=aC:=by
 obtain⟨z,its,n,r,e⟩:=I.hok p _ h;exact⟨_,n,r,e,z⟩
def Inv.TC{its B:List aj}(I:Inv X h_ σ H s)(h:H p=a_ (.lst xs))
  (ho:s.heap.get? p=a_ { cls:=.type "list",data:=.seq its.toArray n })(hf:f { cls:=.type "list",data:=.seq its.toArray n }={ cls:=.type "list",data:=.seq B.toArray n' })(r:cR ys B)(O:ys.length<=aC)(t:Nat) :
  Inv X h_ σ (upd H p (.lst ys)) { s with heap:=s.heap.update p f,toks:=t }:=by
 have e:(s.heap.update p f).get? p=a_ { cls:=.type "list",data:=.seq B.toArray n' }:=by
  rw[iD f ho (by rw[hf]<;>rfl),hf]
 exact I.write (by rw[h];trivial) (λb u hb q=>(jI _ _ (cj hb)).trans q) ⟨_,e⟩ ⟨O,B,n',r,e⟩
def Ak:V->V->V->Hp->(Hp->Prop)->Prop:=λo i v H Q=>∃p xs k j,o=.ref p/\i=.int k/\H p=a_ (.lst xs)/\pH xs.length k=a_ j/\Q (upd H p (.lst (xs.set j v)))
def set_list:Vf X Ak:=by
 intro h_ s σ H o i v l m u Q I c d e h;refine ac λ_ a=>?_;obtain⟨p,xs,k,j,rfl,rfl,hp,f,q⟩:=h;cases c;obtain⟨t,rfl⟩:=d;obtain⟨its,n,r,ho,g⟩:=I.lst hp;obtain⟨h1,h2,h3,b⟩:=yy f;refine a ?_;have hl:=r.length;have w:=rP
 have I' :=
  I.TC hp ho (C5 _ n j u) (r.set e j) (by simp_all) s.toks
 by_cases h0:0<=k
 .have hk:k.toNat=j:=by
   rw[Ma h0 b]at h1
   simp_all
  exact PySem.W.ki_setAt ho h0 (gf b (gf (eT.mpr g) cy)) (by simp_all) (by rw[hk];exact⟨_,I',q⟩)
 .have hk:(k+(its.toArray.size)).toNat=j:=by
   rw[HU (mf.mp h0) h3]at h1
   simp_all
  exact PySem.W.ki_setBack ho (mf.mp h0) (by simp_all) (by omega) (by rw[hk];exact⟨_,I',q⟩)
def xU(lo hi:Option Int)(n:Nat):(sliceBounds lo hi b_ n).1=((HT.iH n 0 lo:Nat):Int)/\(sliceBounds lo hi b_ n).2.1=((HT.iH n n hi:Nat):Int)/\(sliceBounds lo hi b_ n).2.2=1:=by
 refine⟨?_,?_,rfl⟩
 .cases lo with
  |none=>simp[sliceBounds,HT.iH]
  |some i=>
    simp only[sliceBounds,HT.iH,HF,show(1:Int) > 0 by decide,if_true];by_cases h:i<0
    .simp only[h,if_true]<;>omega
    .simp only[h,if_false]<;>omega
 .cases hi with
  |none=>simp[sliceBounds,HT.iH]
  |some i=>
    simp only[sliceBounds,HT.iH,HF,show(1:Int) > 0 by decide,if_true];by_cases h:i<0
    .simp only[h,if_true]<;>omega
    .simp only[h,if_false]<;>omega
def wc(its:List aj)(lo hi:Option Int):slicePick its.toArray lo hi b_=((its.drop (HT.iH its.length 0 lo)).take (HT.iH its.length its.length hi - HT.iH its.length 0 lo)).toArray:=by
 obtain⟨h1,h2,h3⟩:=xU lo hi _;unfold slicePick;rw[h1,h2,h3];simp only[sliceRange_one,pick_run,bh]<;>rfl
def YJ(K:aP):V->Option Int->Option Int->Hp->VK->Prop:=λx lo hi H Q=>∃a xs,x=.ref a/\mH K H a xs/\∀p,H p=b_->Q (.ref p) (upd H p (.lst (DE xs lo hi)))
def M5:Yf X (YJ X.K):=by
 intro h_ s σ H x v g i lo hi sl Q I c hs pl d h;refine ac λ_ k=>?_;obtain⟨a,xs,rfl,e,q⟩:=h;cases c;obtain⟨its,r,ht,f⟩:=I.list e;refine k ?_;have hlen:=r.length;refine⟨_,_,slot_list_getitem.lookup,ht.isList.typeIs,?_⟩;refine wpAny_getItem_list_slice ht.isList hs pl d .none (by simp) ?_ (by simp_all);rw[wc,<-hlen];refine⟨.ref _,_,I.laid (λb j q=>hp9 _ q) (ao _) ?_,rfl,q _ (I.hok.fresh (ao _))⟩;exact⟨aa (sV xs lo hi) f,_,0,(r.drop (HT.iH _ 0 lo)).take (HT.iH _ _ hi - HT.iH _ 0 lo),aL _ rfl⟩
def qN:jS X (.builtin "len") (λxs H Q=>∃p ys,xs=[.ref p]/\(mH X.K H p ys\/vJ X.K H p ys)/\Q (.int ys.length) H):=by
 intro h_ s σ H xs us Q I r h;obtain⟨p,ys,rfl,b,q⟩:=h;obtain⟨u,rfl,d⟩:=vals1 r;cases d;have f:=rP
 rcases b with b|b
 .obtain⟨its,c,pl,e⟩:=I.list b;have hlen:=c.length;exact Calls.call_len_list pl.isList (by simp only[bh]<;>omega) ⟨.int _,H,I.tok _,⟨_,by rw[bh,hlen]⟩,q⟩
 .obtain⟨its,c,pl,e⟩:=I.tuple b;have hlen:=c.length;exact lP pl (by simp only[bh]<;>omega) ⟨.int _,H,I.tok _,⟨_,by rw[bh,hlen]⟩,q⟩
def yR:jS X (.builtin "len") (λxs H Q=>∃z,xs=[.str z]/\z.length<=aC/\Q (.int z.length) H):=by
 intro h_ s σ H xs us Q I r h;obtain⟨z,rfl,b,q⟩:=h;obtain⟨u,rfl,t,rfl⟩:=vals1 r;have c:=rP;exact len_str (by omega) ⟨.int _,H,I.tok _,⟨_,rfl⟩,q⟩
def pK:jS X (.type "tuple") (λxs H Q=>∃p ys,xs=[.ref p]/\((mH X.K H p ys/\∀l,H l=b_->Q (.ref l) (upd H l (.tup ys)))\/(vJ X.K H p ys/\Q (.ref p) H))):=by
 intro h_ s σ H xs us Q I r h;obtain⟨p,ys,rfl,h⟩:=h;obtain⟨u,rfl,i⟩:=vals1 r;cases i
 rcases h with⟨c,q⟩|⟨c,q⟩
 .obtain⟨its,d,pl,f⟩:=I.list c;have hlen:=d.length;refine call_tuple_list pl.isList (λh' kp=>?_) (by grind);have g:Inv X h_ σ H { s with heap:=h' }:=I.kept kp
  have j:Inv X h_ σ (upd H _ (.tup ys)) { s with heap:=h'.push { cls:=.type _,data:=.seq _ } }:=
   g.laid (λb o e=>hp9 _ e) (ao _) (⟨f,_,d,Ie _ _⟩)
  exact⟨.ref _,_,j,rfl,q _ (g.hok.fresh (ao _))⟩
 .obtain⟨its,d,pl,f⟩:=I.tuple c;exact call_tuple_same pl ⟨.ref p,H,I,rfl,q⟩
def Yp(K:aP)(T:String)(x:V)(H:Hp):Prop:=match x with
 |.str _=>T="str"
 |.int _=>T="int"
 | .ref p=>(T="list"/\∃xs,mH K H p xs)\/(T="tuple"/\∃o,K.lookup p=a_ o/\o.cls=.type "tuple"/\o.dict=b_)\/
   T="dict"/\∃k_,H p=a_ (.dK k_)
 |_=>False
def Iz{T:String}(I:Inv X h_ σ H s)(r:RelV x v)(ty:Yp X.K T x H) :
  s.TypeIs v T/\∀a,v=.ref a->∃B,s.heap.get? a=a_ B/\B.dict=b_:=by
 cases x with
 |str z=>
   obtain⟨t,rfl⟩:=r;cases(ty);exact⟨typeIs_str s z t,λ_ e=>nomatch e⟩
 |int i=>
   obtain⟨t,rfl⟩:=r;cases(ty);exact⟨typeIs_int s i t,λ_ e=>nomatch e⟩
 |ref p=>
   cases r
   rcases ty with⟨rfl,xs,b⟩|⟨rfl,o,hk,hc,hd⟩|⟨rfl,k_,hk⟩
   .obtain⟨its,_,pl,_⟩:=I.list b;refine⟨pl.isList.typeIs,λa e=>?_⟩;cases e;obtain⟨o,n,e,c,hd,_⟩:=pl;exact⟨o,e,hd⟩
   .refine⟨⟨o,I.EX p o hk,hc⟩,λa e=>?_⟩;cases e;exact⟨o,I.EX _ o hk,hd⟩
   .refine ac λ_ d=>?_;obtain⟨_,_,_,_,o,_,_,e,ex,_⟩:=I.hok p _ hk;refine d ?_;refine⟨⟨o,e,ex.1⟩,λa e2=>?_⟩;cases e2;exact⟨o,e,ex.2.1⟩
 |_=>exact iT ty
def VV(K:aP)(T:String)(r:V->List V->Hp->VK->Prop)(to:TE):TE:=λσ H Q=>to σ H λx b=>Yp K T x b/\r x [] b Q
def QS(K:aP)(T:String)(r:V->List V->Hp->VK->Prop)(to:TE)(t:TA):TE:=λσ H Q=>to σ H λx b=>Yp K T x b/\t σ b λxs H2=>r x xs H2 Q
variable{apos cpos:v7}{T id:String}
def Sm(Z:PlainAttrs T)(slot:HV T name id)(Y:typeOf (.builtin id)=pure (.type "method_descriptor"))(hm:Pp X id r)(ho:PE X o to)
  (B:attributeBase o name X.env (eval o X.env)=eval o X.env)(O:(apos.endLine == cpos.line)=c_):PE X (.Call (.Attribute o name apos) [] [] cpos) (VV X.K T r to):=by
 intro h_ s σ H Q I h;refine wpAny_Call_method0_late B O (iR (ho h_ s σ H _ I h) λv s1 ⟨x,d,b,c,ty,e⟩=>?_);exact⟨T,id,Z,slot,Y,(Iz b c ty).1,(Iz b c ty).2,zB rfl (PySem.evalArgs_none (hm h_ s1 σ d x [] v [] Q b c .nil e))⟩
def uL(pa:PlainAttrs T)(slot:HV T name id)(hty:typeOf (.builtin id)=pure (.type "method_descriptor"))(hm:Pp X id r)(ho:PE X o to)(ha:PA X (e::es) t)
  (O:attributeBase o name X.env (eval o X.env)=eval o X.env)
  (Z:((backTo cpos (aS (e::es) X.env)).all (λx=>!x.1) && (backToKw cpos (keywordEach [] X.env)).all (λx=>x.1.isSome)
   && decide ((e::es).length+([]:List Keyword).length+(if([]:List Keyword).isEmpty then 0 else 1)<30))=c_:=by rfl)
  (Y:(apos.endLine == cpos.line)=c_:=by rfl)(hs:aS (e::es) X.env=(d_,eval e X.env)::aS es X.env:=by rfl)(B:(backTo cpos (aS es X.env)).any (·.1)=d_:=by rfl) :
  PE X (.Call (.Attribute o name apos) (e::es) [] cpos) (QS X.K T r to t):=by
 intro h_ s σ H Q I h;refine wpAny_Call_method_late O Z Y rfl (iR (ho h_ s σ H _ I h) λv s1 ⟨x,f,b,c,ty,g⟩=>?_);refine⟨T,id,pa,slot,hty,(Iz b c ty).1,(Iz b c ty).2,?_⟩;have d:=ha cpos h_ s1 σ f _ b g;rw[hs]at d ⊢;exact zB (by show(d_ || (backTo _ (aS es _)).any _)=d_;rw[B]<;>rfl) (Calls.evalArgs_plain (iR d λus s2 ⟨vs,H2,i,j,k⟩=>hm h_ s2 σ H2 x vs v us Q i c j k))
end
def MtM(X:Cx)(B:String)(r:V->List V->Hp->VK->Prop):Prop:=
 ∀(h_:List (aK×lF))(s:ak)(σ:St)(H:Hp)(x:V)(xs:List V)(v:aj)(us:List aj)(Q:VK),Inv X h_ σ H s->RelV x v->cR xs us->r x xs H Q->
  aG (aI X.prog X.w) X.A (call (.builtin B) (v::us)) (EP X h_ σ Q) X.xe s
def cR.one:∀{x:V}{us:List aj},cR [x] us->∃u,us=[u]/\RelV x u
 |_,_,.cons r .nil=>⟨_,rfl,r⟩
theorem cR.reverse(h:cR xs us):cR xs.reverse us.reverse:=by
 induction h with
 |nil=>exact .nil
 |cons r t a=>rw[mL,mL];exact cR.append a (.cons r .nil)
section
def Inv.WW{its B:List aj}(I:Inv X h_ σ H s)(O:H l=a_ (.lst xs))
  (e:s.heap.get? l=a_ { cls:=.type "list",data:=.seq its.toArray n })(hf:f its.toArray=B.toArray)(Y:cR ys B)(Z:ys.length<=aC) :
  Inv X h_ σ (upd H l (.lst ys)) { s with heap:=s.heap.update l (eN f),toks:=t' }:=by
 have q:=PySem.IsL.update e f;rw[hf]at q;exact I.write (by rw[O];exact trivial) (λb u hb a=>(jI _ _ (cj hb)).trans a) ⟨_,q⟩ ⟨Z,B,_,Y,q⟩
def Inv.WX(I:Inv X h_ σ H s)(B:cR ys its)(O:ys.length<=aC) :
  Inv X h_ σ (upd H s.heap.objs.size (.lst ys)) { s with heap:=s.heap.push { cls:=.type "list",data:=.seq its.toArray },toks:=t' }:=
 I.laid (λ_ _ q=>hp9 _ q) (ao _) ⟨O,_,0,B,aL _ rfl⟩
def Inv.fresh(I:Inv X h_ σ H s):H s.heap.objs.size=b_:=I.hok.fresh (ao _)
def Inv.Oq(I:Inv X h_ σ H s)(B:H l=a_ (.lst xs)):xs.length<=aC/\∃(its:List aj) (n:Nat),cR xs its/\xs.length=its.length/\s.heap.get? l=a_ { cls:=.type "list",data:=.seq its.toArray n }:=by
 obtain⟨z,its,n,r,e⟩:=I.hok l _ B;exact⟨z,_,n,r,r.length,e⟩
def JY(h:n<=aC):fL n=d_:=by
 exact decide_eq_false (λz=>(aZ z h))
end
section
def Em:V->List V->Hp->VK->Prop:=λx vs H Q=>∃l xs y,x=.ref l/\vs=[y]/\H l=a_ (.lst xs)/\xs.length<aC/\Q .non (upd H l (.lst (xs++[y])))
def rM:MtM X "list.append" Em:=by
 intro h_ s σ H x vs v us Q I b c h;refine ac λ_ g=>?_;obtain⟨l,xs,y,rfl,rfl,a,d,q⟩:=h;cases b;obtain⟨u,rfl,f⟩:=c.one;obtain⟨z,its,n,r,hl,e⟩:=I.Oq a;refine g ?_;refine PySem.call_meets i7 ⟨_,e,rfl⟩ F.entry_list_append (F.args_list_append_2 _ _) (PySem.list_append l _ n u (by simp_all)) ⟨e,?_⟩;refine⟨.non,_,I.WW a e (by simp) (r.append (.cons f .nil)) ?_,rfl,q⟩;rwa[ah]
def YN:R2:=λx y H Q=>∃l b xs a,x=.ref l/\y=.ref b/\H l=a_ (.lst xs)/\H b=a_ (.lst a)/\xs.length+a.length<=aC/\∀p,H p=b_->Q (.ref p) (upd H p (.lst (xs++a)))
def SK:j9 X (binaryOp .Add) YN:=by
 intro h_ s σ H x y v u Q I c d h;refine ac λ_ w=>?_;obtain⟨l,b,xs,m,rfl,rfl,f,g,o,q⟩:=h;cases c;cases d;obtain⟨z,its,n,r,hl,e⟩:=I.Oq f;obtain⟨p,a,t,i,j,e2⟩:=I.Oq g;refine w ?_;refine PySem.P.add_list e e2 ?_ (by simp_all);have k:its.toArray++a.toArray=(its++a).toArray:=by simp
 rw[k];exact⟨.ref _,_,I.WX (r.append i) (by rw[ah];omega),rfl,q _ I.fresh⟩
end
section
end
section
end
end L2
namespace Att
open PySem PySem.W PySem.Calls PyProof.Rows
def tw:∀(ns:List Int)(vs:List aj),WellAll P h vs (ns.map WData.int)->Ig vs ns:=by
 intro ns
 induction ns with
 |nil=>
   intro vs w;cases w;exact .nil
 |cons n ns c=>
   intro vs w
   cases w with
   |cons a b=>
     cases a;exact .cons _ _ (c _ b)
def GF{l:ja}(Y:l.most=a_ n)
  (B:l.row.toRowW.claim.pre args=c_)(O:WellAll P h vals args) :
  ∃a vs ns,vals=[c7 a]/\args=[WData.list (ns.map WData.int)]/\h.get? a=a_ { cls:=.type "list",data:=.seq vs.toArray }/\Ig vs ns/\ns.length<=n:=by
 obtain⟨d,r,rfl,h1,h2⟩:=hasAllW_cons ((pre_splitW B).1);obtain rfl:=hasAllW_nil h2;obtain⟨xs,rfl,h3⟩:=hasW_list h1;obtain⟨ns,rfl⟩:=items_int h3
 have hlen:ns.length<=n:=by
  have c:(WTm.not (.lt (.lit (.int (n))) (.len (.arg 0)))).holds [] { args:=[.list (ns.map .int)] }=c_:=by
   have c:=(holds_andW ((pre_splitW B).2)).1;rwa[Y]at c
  have h5:=condW_of c (w_not (w_lt w_lit (w_len_list (w_arg rfl))))
  simp_all
 cases O with
 |cons e f=>
   cases f
   cases e with
   |list ho b=>exact⟨_,_,ns,rfl,rfl,ho,tw ns _ b,hlen⟩
def GU(l:ja)(args:List WData):l.row.toRowW.claim.post args (.bool c_) args=c_:=
 postW_of
  (by first|rfl|decide|simp)
  (w_eq_bool (w_res rfl) w_lit) rfl
def BD{l:ja}{d:DefRec}
  (hn:l.most=a_ n)(Z:d.params.defaults=[])
  (call:∀(w:dh)(s₀ s₁:ak)(mg mb:bc->Option aj)(B:aK)(o:lF)(pm O doc:aj)(a:aK)(vs:List aj)(ns:List Int),
   Ground q loose [] XP w s₀ mg mb s₁.heap->YP w s₁.heap->
   s₁.heap.get? B=a_ o->o.data=.func (docDef d.name d.params d.body d.scope pm O doc)->s₁.heap.CodeRec O d.name->mg d.name=a_ (.ref B)->
   s₁.heap.get? a=a_ { cls:=.type "list",data:=.seq vs.toArray }->Ig vs ns->ns.length<=n->s₁.gens=#[]->
   codeAny (aI l.prog w) callerA (.call (.ref B) ⟨[.ref a],[]⟩) (λr s'=>r=.ok (.ret (.bool c_))/\OldK s₁.heap s'.heap/\s'.os=s₁.os/\n9 s'.gens) s₁) :
  vZ q loose XP YP l.row.toRowW d [] (λf vs=>F8 f vs):=by
 intro w s₀ s₁ mg mb G Y B o pm O doc k kV ho hd e i g m args vals as b j p h s;refine ac λ_ x=>?_;obtain rfl:k=.none:=Dflts.none i Z;obtain rfl:kV=.none:=Dflts.noKw i;obtain⟨a,vs,ns,rfl,rfl,c,hints,hlen⟩:=GF hn b h;refine x ?_;refine enter_call (kC (call w _ _ mg mb B o pm O _ a vs ns G Y ho (fd_plain hd) e g c hints hlen m) λr s' t=>?_);obtain⟨rfl,h2,h3,u⟩:=t;exact⟨.inl ⟨_,_,[],rfl,λ_=>rfl,.bool c_,GU l _,λ_=>⟨wF,λ_ v=>(nomatch v)⟩⟩,h2,h3,u⟩
section
variable{K:aP}
end
end Att
namespace L2
open PySem PySem.Spec PyProof.Rows
theorem wH:∀{vs:List aj}{ns:List Int},Ig vs ns->cR (ns.map V.int) vs
 |_,_,.nil=>.nil
 |_,_,.cons n t h=>.cons ⟨t,rfl⟩ (wH h)
def Vg(H:Hp):Prop:=∀b,H b=b_\/∃o xs,H b=a_ (.kK o (.lst xs))
def Kp{K:aP}{s₁:ak}{vs:List aj}
  (KX:K.In s₁.heap)(O:s₁.heap.Ns mainGlobals mg)(hb:s₁.heap.Ns builtinsNs mb)(Z:∀x:bc,x≠"__name__"->mb x=bootBuiltins x)(Y:s₁.heap.NoLimit)(hg:s₁.gens=#[])
  (ha:s₁.heap.get? a=a_ { cls:=.type "list",data:=.seq vs.toArray })(hi:Ig vs ns)(hl:ns.length<=aC)(hr:lz k callerA)
  (F:∀base:cg,K.In base->base.Ns mainGlobals mg->lE P w K mg base CX k fa fd [x] sp)(B:∀(s:ak)(u:aj),BQ s fd ⟨[u],[]⟩ [(x,u)])
  (hsp:∀H:Hp,Vg H->mH K H a (ns.map V.int)->sp [.ref a] H (λv _=>v=.bl c_) λ_ _ _=>False)
  (hCX:∀H e s',CX [] H s₁ (λ_ _ _=>False) e s'->False) :
  codeAny (aI P w) callerA (.call (.ref fa) ⟨[.ref a],[]⟩) (λr s'=>r=.ok (.ret (.bool c_))/\OldK s₁.heap s'.heap/\s'.os=s₁.os/\n9 s'.gens) s₁:=by
 have y:=wH hi;have core:∀H:Hp,Vg H->mH K H a (ns.map V.int)->sY P w H s₁.heap->(∀b,H b≠b_->b=a)->(H a≠b_->K.lookup a=b_)->
   codeAny (aI P w) callerA (.call (.ref fa) ⟨[.ref a],[]⟩) (λr s'=>r=.ok (.ret (.bool c_))/\OldK s₁.heap s'.heap/\s'.os=s₁.os/\n9 s'.gens) s₁:=by
  intro H A D hok C E;have c:∀{b:aK}{o:lF},s₁.heap.get? b=a_ o->H b=b_->(AS _ H).get? b=a_ o:=λe n=>KI e n
  have l:∀{b:aK}{o:lF}{es:Array _}{ep:Nat},s₁.heap.get? b=a_ o->o.data=.dict es ep->H b=b_:=λ{b o es ep}e d=>by
   cases q:H b with
   |none=>rfl
   |some u=>
     have p :=C b (by rw[q];simp);subst p;rw[ha]at e;cases e;cases d
  have f:∀{b:aK}{m:bc->Option aj},s₁.heap.Ns b m->(AS _ H).Ns b m:=λ{b m} ⟨o,es,ep,e,d,r⟩=>⟨o,es,ep,c e (l e d),d,r⟩
  have i :=λb o e=>c (KX b o e) (by
   cases q:H b with
   |none=>rfl
   |some u=>
     have p :=C b (by rw[q];simp);subst p
     rw[E (by rw[q];simp)]at e;cases e)
  refine kC ((F _ i (f O)).run _ [] _ H ⟨_,[]⟩ _ [.ref a] _ _ hr ⟨rfl,(⟨i,f O,⟨mb,f hb,Z⟩,let ⟨mc,h1,h2⟩:=Y;⟨mc,f h1,h2⟩⟩),λb o e=>N1 e,ae (Hg _ _),trivial,λb hb=>absurd (show b∈([])from hb) (by simp),hok,.of_eq hg⟩ (B _ _) (.cons rfl .nil) (hsp H A D)) λr s' h=>?_
  cases r with
  |error e=>exact(hCX H e s' h).elim
  |ok fl=>
    cases fl with
    |next=>exact iT h
    |brk=>exact iT h
    |cont=>exact iT h
    |ret u=>
      refine ac λ_ g=>?_;obtain⟨v,H',os,bare,un,j,J,rfl⟩:=h;obtain rfl:u=Value.bool c_:=J;refine g ?_;refine⟨rfl,OldK.of_keep λb o e=>?_,os,bare⟩
      cases q:H b with
      |none=>exact un.keep b o e q (by intro z;exact absurd (show b∈([])from z) (by simp)) (by simp)
      |some u=>
        rcases A b with z|⟨M,xs,z⟩
        .rw[q]at z;cases z
        .have N:=un.frzs b M _ z;obtain⟨e1,_⟩:=hok b _ z;rw[e]at e1;cases e1;exact (j b _ N).1
 cases hk:K.lookup a with
 |some o=>
   have e:=KX a o hk;rw[ha]at e;refine ac λ_ g=>?_;cases e;refine g ?_;refine core _ (λ_=>.inl rfl) (.inr ⟨_,_,_,hk,rfl,rfl,rfl,by rwa[bh,hi.length],by simpa using y⟩) (λb u z=>by cases z) (λb z=>absurd rfl z) λz=>absurd rfl z
 |none=>
   refine core (λb=>if b=a then a_ (.kK { cls:=.type "list",data:=.seq vs.toArray } (.lst (ns.map _)))else b_) (λb=>?_) (.inl (.inr ⟨{ cls:=.type _,data:=.seq _ },if_pos rfl⟩)) (λb u z=>?_) (λb z=>?_) λ_=>hk
   .by_cases hb:b=a
    .exact .inr ⟨_,_,if_pos hb⟩
    .exact .inl (if_neg hb)
   .by_cases hb:b=a
    .have t:=(if_pos hb).symm.trans z;cases t;subst hb;exact⟨ha,by simp_all,vs,_,y,ha⟩
    simp_all
   simp_all
noncomputable abbrev KOf{K:aP}{h:cg}(_:K.In h):aP:=K
def My{l:ja}{n k:Nat}{q:cz}{loose:List bc}{XP:(bc->Option aj)->cg->Prop}{YP:dh->cg->Prop}{d:DefRec}{K:Params->aP}{CX:dh->VI}{sp:dh->Sp}{x:bc}
  (hn:l.most=a_ n)(O:n<=aC)(Z:d.params.defaults=[])(hr:lz k callerA)
  (hY:∀(w:dh)(h:cg),YP w h->(K w.params).In h)
  (F:∀(w:dh)(mg:bc->Option aj)(B:aK)(h:cg),(K w.params).In h->h.Ns mainGlobals mg->mg d.name=a_ (.ref B)->
   ∃fd:jG,(∀(s:ak)(u:aj),BQ s fd ⟨[u],[]⟩ [(x,u)])/\
    ∀base:cg,(K w.params).In base->base.Ns mainGlobals mg->lE l.prog w (K w.params) mg base (CX w) k B fd [x] (sp w))
  (hsp:∀(w:dh)(H:Hp)(a:aK)(ns:List Int),ns.length<=n->Vg H->mH (K w.params) H a (ns.map V.int)->sp w [.ref a] H (λv _=>v=.bl c_) λ_ _ _=>False)
  (hCX:∀(w:dh)(H:Hp)(s:ak)(e:aj)(s':ak),CX w [] H s (λ_ _ _=>False) e s'->False) :
  vZ q loose XP YP l.row.toRowW d [] (λf vs=>F8 f vs):=by
 refine Att.BD hn Z λw s₀ s₁ mg mb B o pm z doc a vs ns G Y ho hd m i c hints hlen p=>?_;have j:=hY w _ Y;obtain⟨fd,hb,r⟩:=F w mg B _ j G.T.g i;exact Kp j G.T.g G.T.b G.T.builtins G.T.nolimit p c hints (aa hlen O) hr r hb (λH t y=>hsp w H a ns hlen t y) λH e s'=>hCX w H _ e s'
end L2
namespace L2
open PySem PySem.Spec PyProof.Rows
noncomputable def yK(s:i4):Arguments:=match s with
 |.FunctionDef _ a _ _ _ _ _ _ _ _=>a
 |_=>{ posonlyargs:=[],args:=[],vararg:=b_,kwonlyargs:=[],kw_defaults:=[],kwarg:=b_,defaults:=[] }
noncomputable def lU(s:i4):List i4:=match s with
 |.FunctionDef _ _ b _ _ _ _ _ _ _=>b
 |_=>[]
noncomputable def cD(s:i4):mI:=match s with
 |.FunctionDef _ _ _ _ _ _ sc _ _ _=>sc
 |_=>{ kind:=.function,names:=[],isGenerator:=d_,isCoroutine:=d_ }
abbrev zg:VI:=λ_ _ _ _ _ _=>False
abbrev E0:XK:=λ_ _ _=>False
def JQ:ze zg X E0:=λ_ _ _ _ _ _ _ h=>h.elim
structure XU(K:aP)(x qual:bc)(st:i4)(f:aK)(fd:jG):Prop where
 ex:∃(oc:aj) (od:Option aK) (kV doc pm:aj) (an:Option aK) (cdv ct:aj) (osl:Array (Option aj)),
  fd=qf x qual (yK st) (lU st) (cD st) .none kV doc pm an cdv ct/\K.lookup f=a_ ⟨oc,od,.func fd,osl⟩/\t6 K cdv qual=c_
 kp:fB K (.ref f)=c_
section
variable{K:aP}{base:cg}
def XU.ok{st:i4}(F:XU K x qual st f fd)(S:pf N ps (cD st))(len:∀vs H Q E,sp vs H Q E->vs.length=ps.length)
  (B:∀(cdv:aj)(A:cc)(outer:List LS)(s:ak)(H:Hp)(vs:List V)(Q:VK)(E:XK),lz k (A.deeper (envOfC qual (cD st) s.heap.objs.size f cdv))->sp vs H Q E->
   ∃t,zf (wo zg P w K mg base N qual (cD st) f cdv A outer s H E).P9 (lU st) t/\t { nx:=λ_ H'=>Q .non H',rt:=Q } (start N vs) H):lE P w K mg base zg (k+1) f fd ps sp:=by
 refine ac λ_ e=>?_;obtain⟨oc,od,kV,doc,pm,an,cdv,ct,osl,rfl,c,a⟩:=F.ex;refine e ?_;refine Xj c a S len λA outer s H vs Q E d b=>?_;obtain⟨t,h,q⟩:=B _ A _ s H vs Q E d b;exact⟨t,h.P9,q⟩
end
section
end
def Dh{A B:Prop}(h:B):if d_=c_ then A else B:=by
 exact h
def Dg{A B:Prop}(h:A):if c_=c_ then A else B:=by
 exact h
def bO(H H':Hp):Prop:=∀b o,H b=a_ o->H' b=a_ o
def bO.refl(H:Hp):bO H H:=λ_ _ h=>h
def bO.trans(a:bO H H1)(b:bO H1 H2):bO H H2:=λc o h=>b c o (a c o h)
def bO.free(e:bO H H')(h:H' l=Option.none):H l=Option.none:=by
 cases q:H l with
 |none=>rfl
 |some o=>
   rw[e l o q]at h;cases h
def bO.seq{K:aP}(e:bO H H')(h:mH K H a xs):mH K H' a xs:=by
 rcases h with(h|⟨o,h⟩)|h
 .exact .inl (.inl (e _ _ h))
 .exact .inl (.inr ⟨o,e _ _ h⟩)
 .exact .inr h
section
variable{κ:Type}[DecidableEq κ]
noncomputable def nX(k_:List (κ×V))(k:κ):Option V:=(k_.find? λa=>decide (a.1=k)).map (·.2)
noncomputable def putK(k_:List (κ×V))(k:κ)(v:V):List (κ×V):=
 if(k_.any λa=>decide (a.1=k))=c_ then k_.map (λa=>if a.1=k then(a.1,v)else a)else k_++[(k,v)]
def uf{p:κ×V}{r:List (κ×V)}{k:κ}(e:p.1=k):nX (p::r) k=a_ p.2:=by simp[nX,e]
def qk{p:κ×V}{r:List (κ×V)}{k:κ}(e:¬p.1=k):nX (p::r) k=nX r k:=by simp[nX,e]
theorem Iu(k:κ):∀k_:List (κ×V),(k_.any λB=>decide (B.1=k))=(nX k_ k).isSome
 |[]=>rfl
 |p::r=>by
   rw[m8];by_cases e:p.1=k
   .simp only[uf e,decide_eq_true e,Bool.true_or,Option.isSome_some]
   .rw[qk e,decide_eq_false e];exact Iu k r
def AH(k_:List (κ×V))(k:κ)(v:V):(putK k_ k v).length<=k_.length+1:=by
 unfold putK;split
 .simp
 simp
def BK.Hd(r:BK o u):o.isSome=u.isSome:=by
 cases o with
 | none=>cases u with
   |none=>rfl
   |some _=>exact(r).elim
 | some _=>cases u with
   |none=>exact(r).elim
   |some _=>rfl
theorem BK.getD(r:BK o u)(B:RelV d d'):RelV (o.getD d) (u.getD d'):=by
 cases o with
 | none=>cases u with
   |none=>exact B
   |some _=>exact(r).elim
 | some _=>cases u with
   |none=>exact(r).elim
   |some _=>exact r
def KV.val(r:KV k_ vs)(k:κ):BK (nX k_ k) (valueAt vs k):=by
 induction r with
 |nil=>exact n6
 | @cons p q ps a h t d=>
   obtain⟨h1,h2⟩:=h;by_cases e:p.1=k
   .have c :=h1.symm.trans e;have b:valueAt (q::a) k=a_ q.2:=by simp[valueAt,c]
    rwa[uf e,b]
   .have c:¬q.1=k:=λz=>e (h1.trans z);have b:valueAt (q::a) k=valueAt a k:=by simp[valueAt,c]
    rwa[qk e,b]
theorem KV.any(r:KV k_ vs)(k:κ):(k_.any λB=>decide (B.1=k))=vs.any λB=>decide (B.1=k):=by
 induction r with
 |nil=>rfl
 |cons h t a=>simp_all
def KV.YH(r:KV k_ vs)(k:κ)(O:RelV y u) :
  KV (k_.map λB=>if B.1=k then(B.1,y)else B) (vs.map λB=>if B.1=k then(B.1,u)else B):=by
 induction r with
 |nil=>exact .nil
 | @cons p q ps b h t a=>
   rw[aB];refine .cons ?_ a;by_cases e:p.1=k
   .simp_all
   simp_all
def KV.put(r:KV k_ vs)(k:κ)(B:RelV y u):KV (putK k_ k y) (stored vs k u):=by
 unfold putK stored;rw[r.any k];by_cases e:(vs.any λa=>decide (a.1=k))=c_
 .rw[if_pos e,if_pos e];exact r.YH k B
 .rw[if_neg e,if_neg e];exact Paired.snoc r ⟨rfl,B⟩
def KV.length{k_:List (κ×V)}{vs:List (κ×aj)}(r:KV k_ vs):k_.length=vs.length:=wA r
end
def u7(r:RelV (kV k) u):(dx P w).is k u=c_:=by
 cases k with
 |inl i=>obtain⟨t,rfl⟩:=(r);exact Ay P w i t
 |inr x=>obtain⟨t,rfl⟩:=(r);exact Ax P w x t
section
def Wm(ok:sY P w H h)(e:Rd H a u):ku P w H h a u:=e.ok ok
def xr(ok:sY P w H h)(e:Rd H a (.dK k_)):k_.length<=aC/\(a == sysModules)=d_/\∃vs,KV k_ vs/\h.DictOf (dx P w) a vs:=
 Wm ok e
def Xq(ok:sY P w H h)(e:H a=a_ (.dK k_)):k_.length<=aC/\(a == sysModules)=d_/\∃vs,KV k_ vs/\h.DictOf (dx P w) a vs:=xr ok (.inl e)
end
def sg(H:Hp)(a:aK)(y:V)(r:Option V):Prop:=∃k_ k,Rd H a (.dK k_)/\y=kV k/\r=nX k_ k
def Pw(H:Hp)(a:aK)(y v:V)(H':Hp):Prop:=∃k_ k,H a=a_ (.dK k_)/\y=kV k/\k_.length<aC/\H'=upd H a (.dK (putK k_ k v))
def sg.k{H:Hp}{a:aK}{k_:List (Key×V)}{k:Key}(e:H a=a_ (.dK k_)):sg H a (kV k) (nX k_ k):=⟨k_,k,.inl e,rfl,rfl⟩
def Pw.k{H:Hp}{a:aK}{k_:List (Key×V)}{k:Key}{v:V}(e:H a=a_ (.dK k_))(hl:k_.length<aC):Pw H a (kV k) v (upd H a (.dK (putK k_ k v))):=⟨k_,k,e,rfl,hl,rfl⟩
section
def Inv.big(I:Inv X h_ σ H s):sysModules<s.heap.objs.size:=by
 exact cM cy ((I.mod.glob.keeps I.bk).lt)
def xt(I:Inv X h_ σ H s)(g:sg H a y (a_ v))(O:RelV y u)(h:∀B s',Inv X h_ σ H s'->RelV v B->Q B s') :
  aG (aI X.prog X.w) A (getItem (.ref a) u) Q E s:=by
 refine ac λ_ d=>?_;obtain⟨k_,k,e,rfl,l⟩:=g;obtain⟨z,hd,vs,b,f⟩:=xr I.hok e;obtain⟨B,i,c⟩:=BK.some_of (by rw[l];exact b.val k);refine d ?_;exact wpAny_getItem_of (u7 O) f.mapOf i (h B _ (I.tok _) c)
def Zt(I:Inv X h_ σ H s)(g:sg H a y o)(B:RelV y u)(h:∀s',Inv X h_ σ H s'->Q (.bool o.isSome) s') :
  aG (aI X.prog X.w) A (compareOp .In u (.ref a)) Q E s:=by
 refine ac λ_ c=>?_;obtain⟨k_,k,e,rfl,l⟩:=g;obtain⟨z,hd,vs,b,d⟩:=xr I.hok e;refine c ?_;refine wpAny_in_of (u7 B) hd d.mapOf ?_;rw[<-(b.val k).Hd,<-l];exact h _ (I.tok _)
def OW(I:Inv X h_ σ H s)(B:Yg (H a))(hs:du a s.heap h')(he:∃q,h'.get? a=a_ q)(new:ku X.prog X.w (upd H a ob) h' a ob) :
  Inv X h_ σ (upd H a ob) { s with heap:=h',toks:=t' }:=
 I.write B (λb q hb z=>(hs.2 b hb).trans z) he new
def UG{h':cg}{k_:List (Key×V)}(z:k_.length<=aC)(hd:(a == sysModules)=d_)(rel:KV k_ vs)(B:h'.DictOf (dx P w) a vs) :
  ku P w H' h' a (.dK k_):=⟨z,hd,vs,rel,B⟩
def Ho(I:Inv X h_ σ H s)(g:Pw H a y v H')(B:RelV y u)(O:RelV v r)(h:∀s',Inv X h_ σ H' s'->Q () s') :
  aG (aI X.prog X.w) A (setItem (.ref a) u r) Q E s:=by
 refine ac λ_ m=>?_;obtain⟨k_,k,e,d,l,f⟩:=g;subst d f;obtain⟨z,hd,vs,b,i⟩:=Xq I.hok e;refine m ?_;have j:vs.length<=aC:=by rwa[<-b.length]
 refine wpAny_setItem_pairs (u7 B) i λh' c hs=>h _ ?_;exact OW I (by rw[e];exact n6) hs (let ⟨q,_,_,hq,_⟩:=c;⟨q,hq⟩) (UG (aa (AH k_ k v) l) hd (b.put k O) c)
end
section
def Xr(I:Inv X h_ σ H s)(e:Rd H a (.dK k_))(h:∀t s',Inv X h_ σ H s'->Q (.int k_.length t) s'):aG (aI X.prog X.w) A (call (.builtin "len") [.ref a]) Q E s:=by
 obtain⟨z,hd,vs,rel,b⟩:=xr I.hok e;refine call_len_dict hd b (by rw[<-rel.length];exact eP (eT.mpr z) cy) ?_;rw[<-rel.length];exact h _ _ (I.tok _)
end
def sU(I:Inv X h_ σ H s)(g:sg H a y o):s.TypeIs (.ref a) "dict":=by
 obtain⟨k_,k,e,_,_⟩:=g;obtain⟨_,_,vs,_,b⟩:=xr I.hok e;exact b.typeIs
section
end
def Ld(h:cg)(hb:sysModules<h.objs.size):ku P w H (h.push { cls:=.type "dict",data:=.dict #[] }) h.objs.size (.dK []):=
 ⟨aT _,beq_eq_false_iff_ne.mpr (cj (bb hb)),[],.nil,Heap.DictOf.new h⟩
def QR:TE:=λ_ H Q=>∀p,H p=b_->Q (.ref p) (upd H p (.dK []))
section
def JO:PE X (.Dict [] [] pos) QR:=λh_ s σ H Q I h=>
 wpAny_Dict_empty ⟨.ref _,_,I.laid (λ_ _ q=>hp9 _ q) (ao _) (Ld _ I.big),rfl,h _ (I.hok.fresh (ao _))⟩
end
section
def UK(I:Inv X h_ σ H s)(g:sg H a y o)(O:RelV y u)(Y:RelV d r)(h:∀B s',Inv X h_ σ H s'->RelV (o.getD d) B->Q B s') :
  aG (aI X.prog X.w) A (call (.builtin "dict.get") [.ref a,u,r]) Q E s:=by
 refine ac λ_ f=>?_;obtain⟨k_,k,e,rfl,l⟩:=g;obtain⟨z,hd,vs,b,c⟩:=xr I.hok e;refine f ?_;refine call_meetsIn zj c.typeIs PySem.F.entry_dict_get (PySem.F.args_dict_get_3 ..) (meets_dict_get_default (dx _ _) a (u7 O) hd r) ⟨_,c.mapOf,h _ _ (I.tok _) ?_⟩;rw[l];exact(b.val k).getD Y
end
section
end
section
end
section
end
end L2
namespace M
open PySem PySem.Spec PyProof.Rows L2
set_option genInjectivity true in
inductive Dat where
 |non|bl (b:Bool)|int (i:Int)|str (x:bc)|tup (xs:List Dat)|lst (xs:List Dat)|dct (ks:List Key) (vs:List Dat)|any
 deriving Inhabited
abbrev Fg:=aP
def Tq(K:Fg)(F:Hp)(a:aK)(vs:List V):Prop:=F a=a_ (.tup vs)\/∃(o:lF) (its:Array aj) (n:Nat),K.lookup a=a_ o/\o.cls=.type "tuple"/\o.data=.seq its n/\its.size<=aC/\cR vs its.toList
def Tq.sq{K:Fg}(h:Tq K F a vs):vJ K F a vs:=by
 rcases h with h|h
 .exact .inl (.inl h)
 .exact .inr h
def Tq.mono{K:Fg}(s:bO F F')(h:Tq K F a vs):Tq K F' a vs:=by
 rcases h with h|h
 .exact .inl (s _ _ h)
 .exact .inr h
def XS(K:Fg)(F:Hp):List N2->List V->Prop
 |[],vs=>vs=[]
 |.inl k::ks,vs=>∃r,vs=kV k::r/\XS K F ks r
 |.inr q::ks,vs=>∃b r,vs=.ref b::r/\Tq K F b (q.map kV)/\XS K F ks r
def XR(K:Fg)(F:Hp):List NK->List V->Prop
 |[],vs=>vs=[]
 |.inl k::ks,vs=>∃r,vs=kV k::r/\XR K F ks r
 |.inr q::ks,vs=>∃b r us,vs=.ref b::r/\Tq K F b us/\XS K F q us/\XR K F ks r
def ZL(K:Fg)(F:Hp)(k:List NK)(a:aK):Prop:=∃vs,Tq K F a vs/\XR K F k vs
mutual
def Rep(K:Fg)(F:Hp):Dat->V->Prop
 |.non,v=>v=.non
 |.bl b,v=>v=.bl b
 |.int i,v=>v=.int i
 |.str x,v=>v=.str x
 |.tup ds,v=>∃a vs,v=.ref a/\Tq K F a vs/\cQ K F ds vs
 |.lst ds,v=>∃a vs,v=.ref a/\mH K F a vs/\cQ K F ds vs
 |.dct ks ds,v=>∃a k_,v=.ref a/\F a=a_ (.dK k_)/\k_.map (·.1)=ks/\cQ K F ds (k_.map (·.2))
 |.any,_=>True
def cQ(K:Fg)(F:Hp):List Dat->List V->Prop
 |[],vs=>vs=[]
 |d::ds,vs=>∃v r,vs=v::r/\Rep K F d v/\cQ K F ds r
end
mutual
theorem Rep.mono{K:Fg}(s:bO F F'):∀(d:Dat){v:V},Rep K F d v->Rep K F' d v
 |.non,_,h=>h
 |.bl _,_,h=>h
 |.int _,_,h=>h
 |.str _,_,h=>h
 |.tup ds,_,⟨a,vs,e,t,r⟩=>⟨a,vs,e,t.mono s,cQ.mono s ds r⟩
 |.lst ds,_,⟨a,vs,e,t,r⟩=>⟨a,vs,e,s.seq t,cQ.mono s ds r⟩
 |.dct _ ds,_,⟨a,k_,e,t,k,r⟩=>⟨a,k_,e,s _ _ t,k,cQ.mono s ds r⟩
 |.any,_,_=>trivial
theorem cQ.mono{K:Fg}(s:bO F F'):∀(ds:List Dat){vs:List V},cQ K F ds vs->cQ K F' ds vs
 |[],_,h=>h
 |d::ds,_,⟨v,r,e,h1,h2⟩=>⟨v,r,e,Rep.mono s d h1,cQ.mono s ds h2⟩
end
theorem cQ.length{K:Fg}:∀{ds:List Dat}{vs:List V},cQ K F ds vs->vs.length=ds.length
 |[],_,h=>by rw[h];rfl
 |d::ds,_,a=>by obtain⟨v,r,e,_,h2⟩:=a;rw[e,bG,bG,cQ.length h2]
theorem cQ.get{K:Fg}:∀{ds:List Dat}{vs:List V}{i:Nat}{d:Dat},cQ K F ds vs->ds[i]?=a_ d->∃v,vs[i]?=a_ v/\Rep K F d v
 |[],_,_,_,_,e=>by simp at e
 |d::ds,_,0,_,a,z=>by obtain⟨v,r,rfl,h1,_⟩:=a;simp at z;subst z;exact⟨v,rfl,h1⟩
 |d::ds,_,i+1,_,a,z=>by
   obtain⟨v,r,rfl,_,h2⟩:=a;obtain⟨w,b,c⟩:=cQ.get h2 (by simpa using z);exact⟨w,by simpa using b,c⟩
theorem cQ.append{K:Fg}:∀{ds es:List Dat}{vs us:List V},cQ K F ds vs->cQ K F es us->cQ K F (ds++es) (vs++us)
 |[],_,_,_,h,h'=>by rwa[h]
 |d::ds,_,_,_,a,h'=>by obtain⟨v,r,rfl,h1,h2⟩:=a;exact⟨v,_,rfl,h1,cQ.append h2 h'⟩
def cQ.one{K:Fg}(h:Rep K F d v):cQ K F [d] [v]:=⟨v,[],rfl,h,rfl⟩
theorem cQ.take{K:Fg}:∀(n:Nat){ds:List Dat}{vs:List V},cQ K F ds vs->cQ K F (ds.take n) (vs.take n)
 |0,_,_,_=>by simp[cQ]
 |n+1,[],_,h=>by rw[h];exact rfl
 |n+1,d::ds,_,a=>by obtain⟨v,r,rfl,h1,h2⟩:=a;exact⟨v,_,rfl,h1,cQ.take n h2⟩
theorem cQ.drop{K:Fg}:∀(n:Nat){ds:List Dat}{vs:List V},cQ K F ds vs->cQ K F (ds.drop n) (vs.drop n)
 |0,_,_,h=>h
 |n+1,[],_,h=>by rw[h];exact rfl
 |n+1,d::ds,_,a=>by obtain⟨v,r,rfl,h1,h2⟩:=a;exact cQ.drop n h2
theorem cQ.reverse{K:Fg}:∀{ds:List Dat}{vs:List V},cQ K F ds vs->cQ K F ds.reverse vs.reverse
 |[],_,h=>by rw[h];exact rfl
 |d::ds,_,a=>by obtain⟨v,r,rfl,h1,h2⟩:=a;rw[mL,mL];exact(cQ.reverse h2).append (.one h1)
mutual
noncomputable def im:Dat->Bool
 |.lst _=>d_
 |.dct _ _=>d_
 |.any=>d_
 |.tup ds=>kW ds
 |_=>c_
noncomputable def kW:List Dat->Bool
 |[]=>c_
 |d::ds=>im d && kW ds
end
structure Good(F H:Hp):Prop where
 sub:bO F H
 tup:∀a vs,H a=a_ (.tup vs)->F a=a_ (.tup vs)
structure Step(F H F' H':Hp):Prop where
 good:Good F' H'
 ff:bO F F'
 hh:bO H H'
 un:∀a o,H a=a_ o->F a=b_->F' a=b_
def Step.refl(g:Good F H):Step F H F H:=⟨g,bO.refl _,bO.refl _,λ_ _ _ n=>n⟩
def Step.trans{F1:Hp}(a:Step F H F1 H1)(b:Step F1 H1 F2 H2):Step F H F2 H2:=
 ⟨b.good,a.ff.trans b.ff,a.hh.trans b.hh,λx o h n=>b.un x o (a.hh x o h) (a.un x o h n)⟩
def bO.upd(hp:H p=b_):bO H (upd H p o):=λb u e=>by rwa[dR (iM e hp)]
def Step.alloc(g:Good F H)(hp:H p=b_):Step F H (upd F p o) (upd H p o):=by
 have c:F p=b_:=by
  cases q:F p with
  |none=>rfl
  |some u=>rw[g.sub p u q]at hp;cases hp
 refine⟨⟨λb u e=>?_,λa vs e=>?_⟩,bO.upd c,bO.upd hp,λa u h n=>?_⟩
 .by_cases hb:b=p
  .subst hb;rwa[cC]at e ⊢
  .rw[dR hb]at e ⊢;exact g.sub b u e
 .by_cases hb:a=p
  .subst hb;rwa[cC]at e ⊢
  .rw[dR hb]at e ⊢;exact g.tup a vs e
 .rwa[dR (iM h hp)]
noncomputable def shr(F H F1:Hp):Hp:=λa=>match F a,H a with
 |none,a_ _=>b_
 |_,_=>F1 a
def Ru{F1:Hp}(h:shr F H F1 a=a_ o):F1 a=a_ o:=by
 unfold shr at h
 cases q:F a with
 |none=>
   cases b:H a with
   |none=>simp_all
   |some u=>simp_all
 |some u=>rwa[q]at h
def Cv{F1:Hp}(h:F a≠b_\/H a=b_):shr F H F1 a=F1 a:=by
 unfold shr
 cases q:F a with
 |none=>
   simp_all
 |some u=>rfl
def Step.shrink{F1:Hp}(g:Good F H)(s:bO F Fp)(st:Step Fp H F1 H1):Step F H (shr F H F1) H1:=by
 refine⟨⟨λa o e=>st.good.sub a o (Ru e),λa vs e=>?_⟩,λa o e=>?_,st.hh,λa o h n=>?_⟩
 .rw[Cv ?_]
  .exact (st.good.tup a vs e)
  .cases q:H a with
   |none=>exact .inr rfl
   |some u=>
     have:=st.hh a u q;rw[e]at this;cases this;exact .inl (by rw[g.tup a vs q];simp)
 .rw[Cv (.inl (by rw[e];simp))];exact st.ff a o (s a o e)
 .unfold shr;rw[n,h]
def Tq.shrink{K:Fg}{F1:Hp}(g:Good F H)(st:Step Fp H F1 H1)(h:Tq K F1 a vs):Tq K (shr F H F1) a vs:=by
 rcases h with h|h
 .refine .inl ?_;rw[Cv ?_]
  .exact h
  .cases q:H a with
   |none=>exact .inr rfl
   |some u=>
     have:=st.hh a u q;rw[st.good.sub a _ h]at this;cases this;exact .inl (by rw[g.tup a vs q];simp)
 .exact .inr h
mutual
theorem Rep.shrink{K:Fg}{F1:Hp}(g:Good F H)(st:Step Fp H F1 H1):∀(d:Dat){v:V},im d=c_->Rep K F1 d v->Rep K (shr F H F1) d v
 |.non,_,_,h=>h
 |.bl _,_,_,h=>h
 |.int _,_,_,h=>h
 |.str _,_,_,h=>h
 |.tup ds,_,m,⟨a,vs,e,t,r⟩=>⟨a,vs,e,t.shrink g st,cQ.shrink g st ds m r⟩
 |.lst ds,_,m,_=>nomatch m
 |.dct _ _,_,m,_=>nomatch m
 |.any,_,m,_=>nomatch m
theorem cQ.shrink{K:Fg}{F1:Hp}(g:Good F H)(st:Step Fp H F1 H1):∀(ds:List Dat){vs:List V},kW ds=c_->cQ K F1 ds vs->cQ K (shr F H F1) ds vs
 |[],_,_,h=>h
 |d::ds,_,m,b=>by
   obtain⟨v,r,e,h1,h2⟩:=b;have a:im d=c_/\kW ds=c_:=by simpa [kW]using m
   exact⟨v,r,e,Rep.shrink g st d a.1 h1,cQ.shrink g st ds a.2 h2⟩
end
mutual
def jQ(K:Fg)(H:Hp):Dat->V->List aK->Prop
 |.non,v,S=>v=.non/\S=[]
 |.bl b,v,S=>v=.bl b/\S=[]
 |.int i,v,S=>v=.int i/\S=[]
 |.str x,v,S=>v=.str x/\S=[]
 |.tup ds,v,S=>∃a vs,v=.ref a/\Tq K H a vs/\cP K H ds vs S
 |.lst ds,v,S=>∃a vs S',v=.ref a/\H a=a_ (.lst vs)/\cP K H ds vs S'/\S=a::S'
 |.dct ks ds,v,S=>∃a k_ S',v=.ref a/\H a=a_ (.dK k_)/\k_.map (·.1)=ks/\cP K H ds (k_.map (·.2)) S'/\S=a::S'
 |.any,_,S=>S=[]
def cP(K:Fg)(H:Hp):List Dat->List V->List aK->Prop
 |[],vs,S=>vs=[]/\S=[]
 |d::ds,vs,S=>∃v r a b,vs=v::r/\jQ K H d v a/\cP K H ds r b/\S=a++b
end
mutual
theorem jQ.mono{K:Fg}(s:bO H H'):∀(d:Dat){v:V}{S:List aK},jQ K H d v S->jQ K H' d v S
 |.non,_,_,h=>h
 |.bl _,_,_,h=>h
 |.int _,_,_,h=>h
 |.str _,_,_,h=>h
 |.tup ds,_,_,⟨a,vs,e,t,r⟩=>⟨a,vs,e,t.mono s,cP.mono s ds r⟩
 |.lst ds,_,_,⟨a,vs,S',e,t,r,q⟩=>⟨a,vs,S',e,s _ _ t,cP.mono s ds r,q⟩
 |.dct _ ds,_,_,⟨a,k_,S',e,t,k,r,q⟩=>⟨a,k_,S',e,s _ _ t,k,cP.mono s ds r,q⟩
 |.any,_,_,h=>h
theorem cP.mono{K:Fg}(s:bO H H'):∀(ds:List Dat){vs:List V}{S:List aK},cP K H ds vs S->cP K H' ds vs S
 |[],_,_,h=>h
 |d::ds,_,_,⟨v,r,a,b,e,h1,h2,q⟩=>⟨v,r,a,b,e,jQ.mono s d h1,cP.mono s ds h2,q⟩
end
def HD:HO->Prop
 |.lst _=>True
 |.dK _=>True
 |_=>False
mutual
theorem jQ.tD{K:Fg}:∀(d:Dat){v:V}{S:List aK},jQ K H d v S->∀a∈S,∃o,H a=a_ o/\HD o
 |.non,_,_,h=>by rw[h.2];intro a m;cases m
 |.bl _,_,_,h=>by rw[h.2];intro a m;cases m
 |.int _,_,_,h=>by rw[h.2];intro a m;cases m
 |.str _,_,_,h=>by rw[h.2];intro a m;cases m
 |.tup ds,_,_,⟨a,vs,e,t,r⟩=>cP.tD ds r
 |.lst ds,_,_,c=>by
   obtain⟨a,vs,S',e,t,r,rfl⟩:=c;intro b m
   rcases aw.mp m with rfl|m
   .exact⟨_,t,trivial⟩
   .exact cP.tD ds r b m
 |.dct _ ds,_,_,c=>by
   obtain⟨a,k_,S',e,t,k,r,rfl⟩:=c;intro b m
   rcases aw.mp m with rfl|m
   .exact⟨_,t,trivial⟩
   .exact cP.tD ds r b m
 |.any,_,S,h=>by rw[h];intro a m;cases m
theorem cP.tD{K:Fg}:∀(ds:List Dat){vs:List V}{S:List aK},cP K H ds vs S->∀a∈S,∃o,H a=a_ o/\HD o
 |[],_,_,h=>by rw[h.2];intro a m;cases m
 |d::ds,_,_,c=>by
   obtain⟨v,r,f,g,e,h1,h2,q⟩:=c;subst q;intro b m
   rcases ax.mp m with m|m
   .exact jQ.tD d h1 b m
   .exact cP.tD ds h2 b m
end
noncomputable def fz(F H:Hp)(S:List aK):Hp:=λa=>if a∈S then H a else F a
def Fl(h:a∈S):fz F H S a=H a:=if_pos h
def nH(h:a∉S):fz F H S a=F a:=if_neg h
def Um(g:bO F H):bO (fz F H S) H:=λa o e=>by
 by_cases m:a∈S
 .rwa[Fl m]at e
 .rw[nH m]at e;exact g a o e
def oN(g:bO F H):bO F (fz F H S):=λa o e=>by
 by_cases m:a∈S
 .rw[Fl m];exact g a o e
 .rwa[nH m]
def tY(g:Good F H):Good (fz F H S) H:=⟨Um g.sub,λa vs e=>oN g.sub a _ (g.tup a vs e)⟩
mutual
theorem jQ.kK{K:Fg}(g:Good F H):∀(d:Dat){v:V}{S T:List aK},jQ K H d v S->(∀a∈S,a∈T)->Rep K (fz F H T) d v
 |.non,_,_,_,h,_=>h.1
 |.bl _,_,_,_,h,_=>h.1
 |.int _,_,_,_,h,_=>h.1
 |.str _,_,_,_,h,_=>h.1
 |.tup ds,_,_,_,z4,m=>by
   obtain⟨a,vs,e,t,r⟩:=z4;refine⟨a,vs,e,?_,cP.kK g ds r m⟩
   rcases t with t|t
   .exact .inl (oN g.sub _ _ (g.tup _ _ t))
   .exact .inr t
 |.lst ds,_,_,_,z4,m=>by
   obtain⟨a,vs,S',e,t,r,rfl⟩:=z4;refine⟨a,vs,e,.inl (.inl ?_),cP.kK g ds r λb hb=>m b (ju _ hb)⟩;rwa[Fl (m a jv)]
 |.dct _ ds,_,_,_,z4,m=>by
   obtain⟨a,k_,S',e,t,k,r,rfl⟩:=z4;refine⟨a,k_,e,?_,k,cP.kK g ds r λb hb=>m b (ju _ hb)⟩;rwa[Fl (m a jv)]
 |.any,_,_,_,_,_=>trivial
theorem cP.kK{K:Fg}(g:Good F H):∀(ds:List Dat){vs:List V}{S T:List aK},cP K H ds vs S->(∀a∈S,a∈T)->cQ K (fz F H T) ds vs
 |[],_,_,_,h,_=>h.1
 |d::ds,_,_,_,b,m=>by
   obtain⟨v,r,c,f,e,h1,h2,q⟩:=b;subst q;exact⟨v,r,e,jQ.kK g d h1 λa ha=>m a (au _ ha),cP.kK g ds h2 λa ha=>m a (ai _ ha)⟩
end
mutual
theorem jQ.ko{K:Fg}(g:bO F H):∀(d:Dat){v:V},im d=c_->Rep K F d v->jQ K H d v []
 |.non,_,_,h=>⟨h,rfl⟩
 |.bl _,_,_,h=>⟨h,rfl⟩
 |.int _,_,_,h=>⟨h,rfl⟩
 |.str _,_,_,h=>⟨h,rfl⟩
 |.tup ds,_,m,⟨a,vs,e,t,r⟩=>⟨a,vs,e,t.mono g,cP.ko g ds m r⟩
 |.lst ds,_,m,_=>nomatch m
 |.dct _ _,_,m,_=>nomatch m
 |.any,_,m,_=>nomatch m
theorem cP.ko{K:Fg}(g:bO F H):∀(ds:List Dat){vs:List V},kW ds=c_->cQ K F ds vs->cP K H ds vs []
 |[],_,_,h=>⟨h,rfl⟩
 |d::ds,_,m,b=>by
   obtain⟨v,r,e,h1,h2⟩:=b;have a:im d=c_/\kW ds=c_:=by simpa [kW]using m
   exact⟨v,r,[],[],e,jQ.ko g d a.1 h1,cP.ko g ds a.2 h2,rfl⟩
end
mutual
theorem jQ.upd{K:Fg}(hp:∀vs,H p≠a_ (.tup vs)):∀(d:Dat){v:V}{S:List aK},jQ K H d v S->p∉S->jQ K (upd H p o) d v S
 |.non,_,_,h,_=>h
 |.bl _,_,_,h,_=>h
 |.int _,_,_,h,_=>h
 |.str _,_,_,h,_=>h
 |.tup ds,_,_,c,n=>by
   obtain⟨a,vs,e,t,r⟩:=c;refine⟨a,vs,e,?_,cP.upd hp ds r n⟩
   rcases t with t|t
   .refine .inl ?_;rwa[dR (λz=>hp vs (by rwa[<-z]))]
   .exact .inr t
 |.lst ds,_,_,c,n=>by
   obtain⟨a,vs,S',e,t,r,rfl⟩:=c;have b:a≠p:=λz=>n (z▸jv);exact⟨a,vs,S',e,(dR b).trans t,cP.upd hp ds r (λm=>n (ju _ m)),rfl⟩
 |.dct _ ds,_,_,c,n=>by
   obtain⟨a,k_,S',e,t,k,r,rfl⟩:=c;have b:a≠p:=λz=>n (z▸jv);exact⟨a,k_,S',e,(dR b).trans t,k,cP.upd hp ds r (λm=>n (ju _ m)),rfl⟩
 |.any,_,_,h,_=>h
theorem cP.upd{K:Fg}(hp:∀vs,H p≠a_ (.tup vs)):∀(ds:List Dat){vs:List V}{S:List aK},cP K H ds vs S->p∉S->cP K (upd H p o) ds vs S
 |[],_,_,h,_=>h
 |d::ds,_,_,a,n=>by
   obtain⟨v,r,b,c,e,h1,h2,q⟩:=a;subst q;exact⟨v,r,b,c,e,jQ.upd hp d h1 (λm=>n (au _ m)),cP.upd hp ds h2 (λm=>n (ai _ m)),rfl⟩
end
theorem cP.length{K:Fg}:∀{ds:List Dat}{vs:List V}{S:List aK},cP K H ds vs S->vs.length=ds.length
 |[],_,_,h=>by rw[h.1];rfl
 |d::ds,_,_,a=>by obtain⟨v,r,b,c,e,_,h2,_⟩:=a;rw[e,bG,bG,cP.length h2]
theorem cP.append{K:Fg}:∀{ds es:List Dat}{vs us:List V}{S T:List aK},cP K H ds vs S->cP K H es us T->cP K H (ds++es) (vs++us) (S++T)
 |[],_,_,_,_,_,h,h'=>by rwa[h.1,h.2]
 |d::ds,_,_,_,_,_,a,h'=>by obtain⟨v,r,b,c,e,h1,h2,q⟩:=a;subst e q;exact⟨v,_,b,_,rfl,h1,cP.append h2 h',by rw[aH]⟩
def cP.one{K:Fg}(h:jQ K H d v S):cP K H [d] [v] S:=⟨v,[],S,[],rfl,h,⟨rfl,rfl⟩,by simp⟩
abbrev St:=L2.St
abbrev fm:=List (Option Dat)
def mW(K:Fg)(F:Hp)(σ:St)(ρ:fm):Prop:=∀(i:Nat)d,ρ[i]?=a_ (a_ d)->∃v,σ[i]?=a_ (a_ v)/\Rep K F d v
def mW.mono{K:Fg}(s:bO F F')(h:mW K F σ ρ):mW K F' σ ρ:=λi d e=>let ⟨v,q1,q2⟩:=h i d e;⟨v,q1,q2.mono s⟩
def gu(K:Fg)(H H':Hp)(d:Dat)(v:V):Prop:=∃S:List aK,S.Nodup/\(∀a∈S,H a=b_)/\jQ K H' d v S
def fj(K:Fg)(H H':Hp)(ds:List Dat)(vs:List V):Prop:=∃S:List aK,S.Nodup/\(∀a∈S,H a=b_)/\cP K H' ds vs S
def gu.back{K:Fg}{F:Hp}(s:bO H0 H)(h:gu K H H' d v):gu K H0 H' d v:=by
 obtain⟨S,n,e,r⟩:=h;exact⟨S,n,λa m=>s.free (e a m),r⟩
def fj.back{K:Fg}{F:Hp}(s:bO H0 H)(h:fj K H H' ds vs):fj K H0 H' ds vs:=by
 obtain⟨S,n,e,r⟩:=h;exact⟨S,n,λa m=>s.free (e a m),r⟩
def gu.ko{K:Fg}(g:Good F H')(m:im d=c_)(r:Rep K F d v):gu K H H' d v:=⟨[],en,(λa z=>by cases z),jQ.ko g.sub d m r⟩
def fj.ko{K:Fg}(g:Good F H')(m:kW ds=c_)(r:cQ K F ds vs):fj K H H' ds vs:=⟨[],en,(λa z=>by cases z),cP.ko g.sub ds m r⟩
def fj.cons{K:Fg}{H B H2:Hp}{d:Dat}{ds:List Dat}{v:V}{vs:List V}(s:bO H B)(s':bO B H2)(h:gu K H B d v)(hs:fj K B H2 ds vs):fj K H H2 (d::ds) (v::vs):=by
 obtain⟨S,n,e,r⟩:=h;obtain⟨T,c,f,g⟩:=hs;refine⟨_,cH.mpr ⟨n,c,λa ha b hb z=>?_⟩,λa m=>?_,v,vs,S,T,rfl,r.mono s',g,rfl⟩
 .subst z;obtain⟨o,ho,_⟩:=r.tD _ a ha
  grind
 .rcases ax.mp m with m|m
  .exact e a m
  .exact s.free (f a m)
def fj.snoc{K:Fg}(s:bO H H1)(s':bO H1 H2)(hs:fj K H H1 ds vs)(h:gu K H1 H2 d v):fj K H H2 (ds++[d]) (vs++[v]):=by
 refine ac λ_ i=>?_;obtain⟨S,n,e,r⟩:=hs;obtain⟨T,c,f,g⟩:=h;refine i ?_;refine⟨_,cH.mpr ⟨n,c,λa ha b hb z=>?_⟩,λa m=>?_,(r.mono s').append (.one g)⟩
 .subst z;obtain⟨o,ho,_⟩:=r.tD _ a ha
  grind
 .rcases ax.mp m with m|m
  .exact e a m
  .exact s.free (f a m)
def fj.mono{K:Fg}(s:bO H1 H')(h:fj K H H1 ds vs):fj K H H' ds vs:=by
 obtain⟨S,n,e,r⟩:=h;exact⟨S,n,e,r.mono s⟩
def fj.nil{K:Fg}:fj K H H1 [] []:=⟨[],en,(λa z=>by cases z),rfl,rfl⟩
def gu.lst{K:Fg}(s:bO H H1)(hp:H1 p=b_)(h:fj K H H1 ds vs):gu K H (L2.upd H1 p (.lst vs)) (.lst ds) (.ref p):=by
 obtain⟨S,n,e,r⟩:=h;refine⟨_,aU.mpr ⟨λm=>?_,n⟩,λa m=>?_,p,vs,S,rfl,cC,r.mono (bO.upd hp),rfl⟩
 .obtain⟨o,ho,_⟩:=r.tD _ p m;rw[hp]at ho;cases ho
 .rcases aw.mp m with rfl|m
  .exact s.free hp
  .exact e a m
def gu.tup{K:Fg}(hp:H1 p=b_)(h:fj K H H1 ds vs):gu K H (L2.upd H1 p (.tup vs)) (.tup ds) (.ref p):=by
 obtain⟨S,n,e,r⟩:=h;exact⟨S,n,e,p,vs,rfl,.inl cC,r.mono (bO.upd hp)⟩
def tE(K:Fg)(ρ:fm)(d:Dat)(fr:Bool):TE:=λσ H Q=>∃F,Good F H/\mW K F σ ρ/\∀v F' H',Step F H F' H'->Rep K F' d v->(fr=c_->gu K H H' d v)->Q v H'
def tEs(K:Fg)(ρ:fm)(ds:List Dat):TA:=λσ H Q=>∃F,Good F H/\mW K F σ ρ/\∀vs F' H',Step F H F' H'->cQ K F' ds vs->Q vs H'
def tT(K:Fg)(ρ:fm)(b:Bool):TT:=λσ H Q=>∃F,Good F H/\mW K F σ ρ/\∀F' H',Step F H F' H'->Q b H'
def tFs(K:Fg)(ρ:fm)(ds:List Dat)(al:Bool):TA:=λσ H Q=>∃F,Good F H/\mW K F σ ρ/\∀vs F' H',Step F H F' H'->cQ K F' ds vs->(al=c_->fj K H H' ds vs)->Q vs H'
def rD(K:Fg)(da B:Dat)(d:Dat)(fr:Bool):R2:=λx y H Q=>∃F,Good F H/\Rep K F da x/\Rep K F B y/\∀v F' H',Step F H F' H'->Rep K F' d v->(fr=c_->gu K H H' d v)->Q v H'
def rDs(K:Fg)(ds:List Dat)(d:Dat)(fr:Bool):List V->Hp->VK->Prop:=λxs H Q=>∃F,Good F H/\cQ K F ds xs/\∀v F' H',Step F H F' H'->Rep K F' d v->(fr=c_->gu K H H' d v)->Q v H'
section
def PE.imp(h:PE X e t)(f:∀σ H Q,t' σ H Q->t σ H Q):PE X e t':=λh_ s σ H Q I q=>h h_ s σ H Q I (f _ _ _ q)
def PT.imp(h:PT X e t)(f:∀σ H Q,t' σ H Q->t σ H Q):PT X e t':=λh_ s σ H Q I q=>h h_ s σ H Q I (f _ _ _ q)
def PA.imp(h:PA X e t)(f:∀σ H Q,t' σ H Q->t σ H Q):PA X e t':=λp h_ s σ H Q I q=>h p h_ s σ H Q I (f _ _ _ q)
def PS.imp(h:PS X e t)(f:∀D σ H,t' D σ H->t D σ H):PS X e t':=λh_ s σ H D I q=>h h_ s σ H D I (f _ _ _ q)
def zf.imp(h:zf X e t)(f:∀D σ H,t' D σ H->t D σ H):zf X e t':=λh_ s σ H D I q=>h h_ s σ H D I (f _ _ _ q)
def j9.imp(h:j9 X f r)(g:∀x y H Q,r' x y H Q->r x y H Q):j9 X f r':=λh_ s σ H x y v u Q I a b q=>h h_ s σ H x y v u Q I a b (g _ _ _ _ q)
end
end M
namespace L2
open PySem PySem.Spec PyProof.Rows
def DS(xs:Array Nat):Prop:=xs.toList.Pairwise (·< ·)
def DS.get(h:DS xs)(O:j<xs.size)(B:i<j):xs[i]'(cM B O)<xs[j]:=by
 have:=(eE.mp h) i j (by simpa using(Nat.lt_trans B O)) (by simpa using O) B;simpa using this
theorem DM(hs:DS xs):∀(fuel lo hi:Nat),lo<=hi->hi<=xs.size->hi - lo<=fuel->(∀i (h:i<xs.size),i<lo->xs[i]<j)->(∀i (h:i<xs.size),hi<=i->j<=xs[i])->
  kD xs j fuel lo hi<=xs.size/\(∀i(h:i<xs.size),i<kD xs j fuel lo hi->xs[i]<j)/\∀i(h:i<xs.size),kD xs j fuel lo hi<=i->j<=xs[i]
 |0,lo,hi,h1,h2,h3,c,h5=>by
   have e:lo=hi:=aF (ig h1) (j8 (wt h1) h3);subst e;exact⟨h2,c,h5⟩
 |fuel+1,lo,hi,h1,h2,h3,c,h5=>by
   simp only[kD];by_cases hl:lo<hi
   .rw[if_pos hl];have d:(lo+hi) / 2<xs.size:=j8 (a2 lo hi (ig hl)).2 h2
    have f:xs.getD ((lo+hi) / 2) j=xs[(lo+hi) / 2]:=by simp_all
    rw[f];by_cases b:xs[(lo+hi) / 2]<j
    .rw[if_pos b];refine DM hs _ _ hi (ig (a2 lo hi (ig hl)).2) h2 (Nat.sub_le_of_le_add (qV (am (Nat.le_of_lt hl)) h3 (a2 lo hi (ig hl)).1)) (λi h q=>?_) h5;by_cases a:i=(lo+hi) / 2
     .subst a;exact b
     .exact cM (hs.get d (bp (ig q) a)) b
    .rw[if_neg b];refine DM hs _ lo _ (ig (a2 lo hi (ig hl)).1) (aD d) (Nat.sub_le_of_le_add (qV (a2 lo hi (ig hl)).2 (am (Nat.le_of_lt hl)) h3)) c (λi h q=>?_);by_cases a:(lo+hi) / 2=i
     .subst a;simp_all
     .exact aD (aa (bR b) (hs.get h ((bp q a))))
   .rw[if_neg hl];have e :=aF h1 (bS hl);subst e;exact⟨h2,c,h5⟩
def LD(hs:DS xs)(j:Nat):aM xs j<=xs.size/\(∀i(h:i<xs.size),i<aM xs j->xs[i]<j)/\∀i(h:i<xs.size),aM xs j<=i->j<=xs[i]:=
 DM hs _ 0 _ (aT _) (ao _) (by simp) (λi _ q=>absurd q (wa _)) (λi h q=>((aZ h q)).elim)
def LB(hs:DS xs):aM xs 0=0:=by
 cases q:aM xs 0 with
 |zero=>rfl
 |succ n=>exact absurd ((LD hs 0).2.1 0 (aa (aq (aT _) (ae q.symm)) (LD hs 0).1) (aq (aT _) (ae q.symm))) (wa _)
def LC(hs:DS xs)(hi:i<xs.size):aM xs (xs[i]+1)=i+1:=by
 obtain⟨h1,h2,h3⟩:=LD hs (xs[i]+1)
 rcases mZ (aM xs _) (i+1)with h|h|h
 .exact(Y6 (h3 i hi (a7 h))).elim
 .exact h
 .exact(Tv (hs.get  (aa h h1) (ao _)) (h2 _ (aa h h1) h)).elim
def Nw(hs:DS xs)(B:xs[aM xs j]?≠a_ j):DS (cW xs (aM xs j) j):=by
 obtain⟨h1,h2,h3⟩:=LD hs j;unfold DS;rw[eG];refine dT.mpr ⟨hs.sublist (iG _ _),eM.mpr ⟨λy h=>?_,hs.sublist (e8 _ _)⟩,λx p y h=>?_⟩
 .obtain⟨k,hk,rfl⟩:=dA.mp h;have d:aM xs j+k<xs.size:=by grind
  have i:xs[aM xs j+k]≠j:=by
   intro e
   cases k with
   |zero=>exact B (by rw[a8 _];simpa using e)
   |succ k=>
     exact aZ (hs.get d ((aY (aV _ _)))) (aa (ae e) (h3 _ (aq (aV _ _) d) (ao _)))
  simpa using (bp (ig (h3 _ d (aV _ _))) (cj i))
 .obtain⟨k,hk,rfl⟩:=dA.mp p;rw[List.getElem_take];have f:k<aM xs j:=by simp at hk;simp_all
  have n:xs.toList[k]'(by exact aa f h1)<j:=by simpa using (h2 k (aa f h1) f)
  rcases aw.mp h with rfl|h
  .exact n
  .obtain⟨m,o,rfl⟩:=dA.mp h;exact aa n (by simpa using (h3 (aM xs j+m) (by simp at o;exact j8 (ws h1) o) (aV _ _)))
structure BI(led:Bool)(t:bC):Prop where
 d:t.dummies=#[]
 r:DS t.place
 l:t.led=led
def BI.fresh(led:Bool):BI led (.fresh 0 0 led):=⟨rfl,by exact wF,rfl⟩
def BI.off(h:BI led t):BI led { t with plain:=d_ }:=⟨h.d,h.r,h.l⟩
def Fd(j:Nat):wz #[] j=d_:=by simp[wz]
def Cs{t:bC}(hd:t.dummies=#[])(h:t.slot j=.empty):t.place[aM t.place j]?≠a_ j:=by
 intro e;unfold lL at h
 simp_all
def nu{t:bC}(hd:t.dummies=#[])(h:t.slot j=.dummy):False:=by
 unfold lL at h;rw[hd,Fd]at h
 grind
def xE{t:bC}{p:bK}(h:p.dummy=b_):(t.advance p).dummy=b_:=by
 unfold dN;split
 .exact h
 .exact h
def BI.put(h:BI led t)(B:t.place[aM t.place j]?≠a_ j):BI led (t.put j).1:=by
 refine⟨?_,Nw h.r B,h.l⟩;show(if wz _ j then _ else t.dummies)=_;rw[h.d];rfl
def BI.laid(h:lM mask f m led pl hs=a_ (t,o)):BI led t:=by
 unfold lM at h;simp only[Option.bind_eq_bind,xN]at h;obtain⟨ow,h1,h⟩:=h
 injection h with h
 injection h with h2 h3
 subst h2;refine⟨rfl,?_,rfl⟩;show(wC _ _).toArray.toList.Pairwise _;rw[fT,zC];refine oo ?_ BU
 simp_all
end L2
namespace L2
open PySem
noncomputable def tv(mask:Nat):Nat->Nat->Nat->Nat×Nat
 |0,i,p=>(i,p)
 |n+1,i,p=>tv mask n (gW mask i p).1 (gW mask i p).2
theorem tS(mask:Nat):∀(a b i p:Nat),tv mask (a+b) i p=tv mask b (tv mask a i p).1 (tv mask a i p).2
 |0,b,i,p=>by rw[ic];rfl
 |a+1,b,i,p=>by rw[(ie ..)];exact tS _ a b _ _
theorem uX(mask:Nat):∀(n i p:Nat),(tv mask n i p).2=p / 32 ^ n
 |0,i,p=>by simp[tv]
 |n+1,i,p=>by
   rw[tv,uX _ n,gW,Nat.div_div_eq_div_mul,Nat.pow_succ,Nat.mul_comm]
theorem Kk(mask:Nat):∀(n i p:Nat),i<mask+1->(tv mask n i p).1<mask+1
 |0,i,p,h=>h
 |n+1,i,p,h=>Kk _ n _ _ (jo _ (by simp))
noncomputable def X4(mask:Nat):Nat->Nat->List Nat
 |0,i=>[i]
 |n+1,i=>i::X4 mask n ((i * 5+1) % (mask+1))
theorem Ez(mask:Nat):∀(n i j:Nat),j∈X4 mask n i->∃m,m<=n/\(tv mask m i 0).1=j
 |0,i,j,h=>by
   simp[X4]at h;exact⟨0,by simp,h.symm⟩
 |n+1,i,j,h=>by
   rcases aw.mp h with h|h
   .exact⟨0,aT _,h.symm⟩
   .obtain⟨m,a,e⟩:=Ez _ n _ j h;refine⟨_,aY a,?_⟩;rw[tv];simpa [gW]using e
def Lg(mask:Nat):Bool:=(aR (mask+1)).all λj=>(X4 mask mask 0).any λx=>Nat.beq x j
def Zv:Lg 7=c_:=by decide +kernel
def Xs:Lg 31=c_:=by decide +kernel
def UP:Lg 127=c_:=by decide +kernel
def UO:Lg 511=c_:=by decide +kernel
def YO:(tv 7 8 0 0).1=0:=by decide +kernel
def WA:(tv 31 32 0 0).1=0:=by decide +kernel
def Se:(tv 127 128 0 0).1=0:=by decide +kernel
def Sd:(tv 511 512 0 0).1=0:=by decide +kernel
def Lf(h:mask=7\/mask=31\/mask=127\/mask=511):Lg mask=c_/\(tv mask (mask+1) 0 0).1=0:=by
 rcases h with rfl|rfl|rfl|rfl
 .exact⟨Zv,YO⟩
 .exact⟨Xs,WA⟩
 .exact⟨UP,Se⟩
 .exact⟨UO,Sd⟩
def Gi(mask n i:Nat):(tv mask n i 0).2=0:=by rw[uX,Nat.zero_div]
def uW(mask a b i:Nat):(tv mask (a+b) i 0).1=(tv mask b (tv mask a i 0).1 0).1:=by rw[tS,Gi]
def Qn(h:mask=7\/mask=31\/mask=127\/mask=511)(B:j<mask+1):∃n,n<=mask/\(tv mask n 0 0).1=j:=by
 obtain⟨x,a,e⟩:=gG.mp (bB.mp (Lf h).1 j (bf.mpr B));have e:=Nat.eq_of_beq_eq_true e;subst e;exact Ez _ _ 0 x a
def ET(h:mask=7\/mask=31\/mask=127\/mask=511)(hi:i<mask+1)(hp:p<2 ^ 64)(B:j<mask+1):∃n,n<=mask+13/\(tv mask n i p).1=j:=by
 have c:(tv mask 13 i p).2=0:=by
  rw[uX];exact Nat.div_eq_of_lt (aa hp cy)
 obtain⟨a,ha,f⟩:=Qn h (Kk _ 13 i p hi);obtain⟨b,hb,g⟩:=Qn h B;by_cases e:a<=b
 .refine⟨13+(b - a),j8 (oj b a) hb,?_⟩;rwa[tS,c,<-f,<-uW,(fZ e)]
 .refine⟨13+(mask+1 - a+b),by omega,?_⟩;rwa[tS,c,<-f,<-uW,show a+(mask+1 - a+b)=(mask+1)+b by omega,uW,((Lf h).2)]
structure xF(t:bC)(p:bK):Prop where
 j:p.j=p.i
 m:p.more=dC t.mask p.i - p.i
 d:p.dummy=b_
def uA(h:xF t p):p.more<=9:=by
 rw[h.m];unfold dC;split<;>simp
set_option tactic.hygienic true
theorem yz{t:bC}(hd:t.dummies=#[]):∀(k f:Nat) (p:bK),p.more=k->p.dummy=b_->cv t ha hh (k+1+f) p=b_->
  t.slot p.j≠.empty/\∃q:bK,cv t ha hh f q=b_/\xF t q/\q.i=(gW t.mask p.i p.perturb).1/\q.perturb=(gW t.mask p.i p.perturb).2
 |0,f,p,hk,hp,h=>by
   rw[(Ce _ _),cv]at h
   cases hs:t.slot _ with
   |empty=>rw[hs]at h;cases h
   |dummy=>exact(nu hd hs).elim
   |live i=>
     rw[hs]at h;dsimp only at h;split at h
     .cases h
     rename_i a;refine⟨by simp,_,h,?_,?_,?_⟩
     .unfold dN;rw[if_neg (λz=>(aZ z (ae hk)))];exact⟨rfl,rfl,hp⟩
     .unfold dN;rw[if_neg (λz=>(aZ z (ae hk)))]
     .unfold dN;rw[if_neg (λz=>(aZ z (ae hk)))]
 |k+1,f,p,hk,hp,h=>by
   rw[(ie ..),cv]at h
   cases hs:t.slot _ with
   |empty=>rw[hs]at h;cases h
   |dummy=>exact(nu hd hs).elim
   |live i=>
     rw[hs]at h;dsimp only at h;split at h
     .cases h
     rename_i a;have e:t.advance p={ p with j:=p.j+1,more:=p.more - 1 }:=by unfold dN;simp_all
     rw[e]at h;obtain⟨_,q,h1,h2,h3,b⟩:=yz hd k f { p with j:=p.j+1,more:=p.more - 1 } (by grind) hp h;exact⟨by simp,q,h1,h2,h3,b⟩
theorem tX:∀(f g:Nat)(p:bK),cv t ha hh (f+g) p=b_->cv t ha hh f p=b_
 |0,g,p,h=>rfl
 |f+1,g,p,h=>by
   rw[show f+1+g=(f+g)+1 from(ie ..),cv]at h;rw[cv]
   cases hs:t.slot _ with
   |empty=>rw[hs]at h;cases h
   |dummy=>rw[hs]at h;exact tX f g _ h
   |live i=>
     rw[hs]at h;simp only at h ⊢;split
     .grind
     .rename_i q;rw[if_neg q]at h;exact tX f g _ h
set_option tactic.hygienic false
theorem AW{t:bC}(hd:t.dummies=#[]):∀(m:Nat)(p:bK),xF t p->cv t ha hh (10 * (m+1)) p=b_->∀n≤m,t.slot (tv t.mask n p.i p.perturb).1≠.empty
 |m,p,hp,h,0,_=>by
   obtain⟨h1,_⟩:=yz hd _ _ p rfl hp.d (by rwa[show p.more+1+(10 * (m+1) - (p.more+1))=10 * (m+1)from(fZ (aY (Nat.le_add_left_of_le (uA hp))))]);rwa[hp.j]at h1
 |0,p,hp,h,n+1,a=>(λz=>(aZ a (aT _)))
 |m+1,p,hp,h,n+1,a=>by
   have b:=uA hp;obtain⟨_,q,h1,h2,h3,c⟩:=yz hd _ _ p rfl hp.d (by rwa[show p.more+1+(10 * (m+1+1) - (p.more+1))=10 * (m+1+1)from(aF (ig (wS (10 * (m+1+1)) (p.more+1) (ig b))) (ig (wT (10 * (m+1+1)) (p.more+1))))]);have:=AW hd m q h2 (tX _ _ q (by rwa[show 10 * (m+1)+(9 - p.more)=10 * (m+1+1) - (p.more+1)from(aF (j8 (wT (10 * (m+1+1)) (p.more+1)) (ws b)) (j8 (wS (10 * (m+1+1)) (p.more+1) (ig b)) (wt b)))])) n (a7 a);rwa[h3,c]at this
def wL(t:bC)(h:Int):xF t (t.probeStart h):=⟨rfl,rfl,rfl⟩
structure vL(t:bC)(p:bK):Prop where
 m:p.more<=9
 i:p.i<t.mask+1
 q:p.perturb<2 ^ 64
 d:p.dummy=b_
def wK(t:bC)(h:Int):vL t (t.probeStart h):=
 ⟨uA (wL t h),jo _ (by simp),by show dX h<_;unfold dX;omega,rfl⟩
def vL.ZE(h:vL t p):vL t (t.advance p):=by
 unfold dN;split
 .exact⟨by exact aa (oj _ _) h.m,h.i,h.q,h.d⟩
 .refine⟨?_,jo _ (by simp),(aq (Nat.div_le_self _ _) h.q),h.d⟩
  .show dC _ _ - _<=9;unfold dC;split<;>simp
def sJ{t:bC}(B:t.mask=7\/t.mask=31\/t.mask=127\/t.mask=511)(hd:t.dummies=#[])(hp:vL t p)(O:j<t.mask+1)(he:t.slot j=.empty) :
  ∃m,t.probe ha hh p=a_ m:=by
 cases q:t.probe ha hh p with
 |some m=>exact⟨m,rfl⟩
 |none=>
   exfalso;have a:=hp.m;have c:=hp.q;obtain⟨_,r,h1,h2,h3,b⟩:=yz hd p.more (10 * (t.mask+15) - (p.more+1)) p rfl hp.d (by rw[show p.more+1+(10 * (t.mask+15) - (p.more+1))=10 * (t.mask+15)from(aF (ig (wS (10 * (t.mask+15)) (p.more+1) (ig a))) (ig (wT (10 * (t.mask+15)) (p.more+1))))];exact q);have h5:=tX (10 * (t.mask+14)) (9 - p.more) r (by rw[show 10 * (t.mask+14)+(9 - p.more)=10 * (t.mask+15) - (p.more+1)from(aF (j8 (wT (10 * (t.mask+15)) (p.more+1)) (ws a)) (j8 (wS (10 * (t.mask+15)) (p.more+1) (ig a)) (wt a)))];exact h1);obtain⟨n,e1,e2⟩:=ET B (i:=r.i) (p:=r.perturb) (by rw[h3];exact jo _ (by simp)) (by rw[b];show p.perturb / 32<2 ^ 64;omega) O;have:=AW hd (t.mask+13) r h2 h5 n e1;rw[e2]at this;exact this he
noncomputable def way(t:bC):Nat->bK->bK
 |0,p=>p
 |n+1,p=>way t n (t.advance p)
theorem kO(t:bC):∀(a b:Nat)(p:bK),way t (a+b) p=way t b (way t a p)
 |0,b,p=>by rw[ic];rfl
 |a+1,b,p=>by rw[show a+1+b=(a+b)+1 from(ie ..)];exact kO t a b _
theorem Ip:∀(n:Nat){p:bK},vL t p->vL t (way t n p)
 |0,p,h=>h
 |n+1,p,h=>Ip n h.ZE
set_option tactic.hygienic true
theorem wR{t:bC}(hd:t.dummies=#[]):∀(fuel:Nat) (p:bK) {m:LQ},p.dummy=b_->cv t ha hh fuel p=a_ m->
  ∃n,(∀k<n,∃i,t.slot (way t k p).j=.live i/\ha i≠hh)/\((m=.empty (way t n p).j b_/\t.slot (way t n p).j=.empty)\/∃i,m=.candidate (way t n p).j i (way t (n+1) p)/\t.slot (way t n p).j=.live i/\ha i=hh)
 |0,p,m,_,h=>by cases h
 |fuel+1,p,m,hp,h=>by
   rw[cv]at h
   cases hs:t.slot _ with
   |empty=>
     rw[hs]at h
     injection h with h
     exact⟨0,λk hk=>((aZ hk (aT _))).elim,.inl ⟨by rw[<-h,hp];rfl,hs⟩⟩
   |dummy=>exact(nu hd hs).elim
   |live i=>
     rw[hs]at h;dsimp only at h;split at h
     .rename_i e
      injection h with h
      exact⟨0,λk hk=>((aZ hk (aT _))).elim,.inr ⟨i,h.symm,hs,by simpa using e⟩⟩
     .rename_i e;obtain⟨n,h1,h2⟩:=wR hd _ _ (xE hp) h;refine⟨n+1,λk hk=>?_,h2⟩
      cases k with
      |zero=>exact⟨i,hs,by simpa using e⟩
      |succ k=>exact h1 k (a7 hk)
def N3(hs:DS xs)(h:j∈xs.toList):xs[aM xs j]?=a_ j:=by
 obtain⟨i,hi,e⟩:=dA.mp h;have c:i<xs.size:=by simpa using hi
 obtain⟨h1,h2,h3⟩:=LD hs j
 have hb:aM xs j<=i:=by
  rcases fY i (aM xs j)with hl|hl
  .have:=h2 i c hl;simp_all
  .exact hl
 have f:aM xs j=i:=by
  rcases fY _ i with hl|hl
  .exact((aZ (hs.get c hl) (aa (ae (by simpa using e)) (h3 _ (aq hb c) (ao _))))).elim
  .exact aF hb hl
 simp_all
def zU{t:bC}(B:DS t.place)(h:j∈t.place.toList):t.slot j=.live (aM t.place j):=by
 unfold lL;simp only[N3 B h,beq_self_eq_true,if_true]
def JV{t:bC}(hd:t.dummies=#[])(h:t.slot j≠.empty):j∈t.place.toList:=by
 unfold lL at h;dsimp only at h;split at h
 .rename_i e;exact dA.mpr ⟨_,by simpa using (cX.mp (by simpa using e)).1,by simpa using (cX.mp (by simpa using e)).2⟩
 .rw[hd,Fd]at h;simp at h
set_option tactic.hygienic false
def Ot{t:bC}(h:t.slot j=.live i):t.place[i]?=a_ j:=by
 unfold lL at h;dsimp only at h;split at h
 .simp_all
 grind
def LJ{t t':bC}(h:t.mask=t'.mask)(p:bK):t.advance p=t'.advance p:=by
 unfold dN;rw[h]
theorem ox{t t':bC}(h:t.mask=t'.mask):∀(n:Nat)(p:bK),way t n p=way t' n p
 |0,p=>rfl
 |n+1,p=>by rw[way,way,LJ h,ox h n]
def uq{t t':bC}(h:t.mask=t'.mask)(x:Int):t.probeStart x=t'.probeStart x:=by
 unfold SetTable.probeStart;rw[h]
def mU(t:bC)(x:Int)(j:Nat):Prop:=∃n,(way t n (t.probeStart x)).j=j/\∀k<n,(way t k (t.probeStart x)).j∈t.place.toList
def mU.mono{t t':bC}(h:t.mask=t'.mask)(hs:∀j∈t.place.toList,j∈t'.place.toList)(y:mU t x j):mU t' x j:=by
 obtain⟨n,h1,h2⟩:=y;refine⟨n,?_,λk hk=>?_⟩
 .rwa[<-uq h,<-ox h]
 .rw[<-uq h,<-ox h];exact hs _ (h2 k hk)
def EM{t:bC}:a∈(t.put j).1.place.toList↔a=j\/a∈t.place.toList:=by
 show a∈(cW _ _ j).toList↔_;rw[eG];have e:=be (aM t.place j) t.place.toList;constructor
 .grind
 grind
def mU.new(h:∀k<n,(way t k (t.probeStart x)).j∈t.place.toList):mU (t.put (way t n (t.probeStart x)).j).1 x (way t n (t.probeStart x)).j:=by
 exact mU.mono (t:=t)  rfl (λj a=>EM.mpr (.inr a)) ⟨n,rfl,h⟩
def Pu(t:bC)(p:bK):Prop:=p.j+p.more<=t.mask
def Jn(h:i<mask+1):i+(dC mask i - i)<=mask:=by
 unfold dC;split<;>omega
def Pu.start(t:bC)(x:Int):Pu t (t.probeStart x):=Jn (jo _ (by simp))
def Pu.ZE(h:Pu t p):Pu t (t.advance p):=by
 unfold Pu at h ⊢;unfold dN;split
 .grind
 .exact Jn (jo _ (by simp))
theorem Iq:∀(n:Nat){p:bK},Pu t p->Pu t (way t n p)
 |0,p,h=>h
 |n+1,p,h=>Iq n h.ZE
def Cg(n:Nat)(x:Int):(way t n (t.probeStart x)).j<=t.mask:=by
 exact aa (aV _ _) (Iq n (Pu.start t x))
theorem qj:∀(k:Nat)(p:bK),k<=p.more->way t k p={ p with j:=p.j+k,more:=p.more - k }
 |0,p,h=>rfl
 |k+1,p,h=>by
   rw[way];have e:t.advance p={ p with j:=p.j+1,more:=p.more - 1 }:=by unfold dN;rw[if_pos (aq (aT _) h)]
   rw[e,qj k _ (by exact Ge h)]
   grind
noncomputable abbrev B0(ow:Array (Option Nat))(j:Nat):Bool:=(ow.getD j (a_ 0)).isSome
set_option tactic.hygienic true
theorem A8{ow:Array (Option Nat)}:∀(fuel:Nat) (p:bK) {j:Nat},xF t p->di t.mask ow fuel p.i p.perturb=a_ j->
  ∃n,(way t n p).j=j/\(∀k<n,B0 ow (way t k p).j=c_)/\ow.getD j (a_ 0)=b_
 |0,p,j,_,h=>by cases h
 |fuel+1,p,j,hp,h=>by
   have b:dC t.mask p.i+1 - p.i=p.more+1:=by rw[hp.m];exact Nat.sub_add_comm (by unfold dC;split<;>simp)
   rw[di,b]at h;split at h
   .rename_i k hk
    injection h with h
    subst h;obtain⟨h1,h2,h3⟩:=List.find?_range_eq_some.mp hk;have h2 :=bf.mp h2;refine⟨k,?_,λm e=>?_,by simpa using h1⟩
    .rw[qj k p (a7 h2)];rw[hp.j]
    .rw[qj m p (a7 (cM e h2))];rw[hp.j];simpa [B0,c6]using (h3 m e)
   .rename_i hk;have hk:=zo.mp hk;have f:way t (p.more+1) p=t.advance (way t p.more p):=by rw[kO];rfl
    have l:xF t (way t (p.more+1) p)/\(way t (p.more+1) p).i=(gW t.mask p.i p.perturb).1/\(way t (p.more+1) p).perturb=(gW t.mask p.i p.perturb).2:=by
     rw[f,(qj (t:=t) _ p (ao _))];unfold dN;rw[if_neg (by simp)];exact⟨⟨rfl,rfl,hp.d⟩,rfl,rfl⟩
    obtain⟨o,q,r⟩:=l;dsimp only at h;rw[<-q,<-r]at h;obtain⟨n,s,u,v⟩:=A8 _ _ o h;refine⟨_,by rwa[kO],λk c=>?_,v⟩
    rcases fY k (p.more+1)with hl|hl
    .rw[qj k p (a7 hl)];rw[hp.j];simpa [B0,c6]using (hk k hl)
    .have:=u (k - (p.more+1)) (j8 (ws hl) c);rwa[<-kO,(fZ hl)]at this
def LL(t:bC)(ow:Array (Option Nat))(x:Int)(j:Nat):Prop:=∃n,(way t n (t.probeStart x)).j=j/\∀k<n,B0 ow (way t k (t.probeStart x)).j=c_
structure Lay(t:bC)(hs:List Int)(ow:Array (Option Nat))(c:Nat):Prop where
 sz:ow.size=t.mask+1
 st:∀j k:Nat,ow[j]?=a_ (a_ k)->k<c/\LL t ow (hs.getD k 0) j
 ex:∀k<c,∃j:Nat,ow[j]?=a_ (a_ k)
 un:∀j j' k:Nat,ow[j]?=a_ (a_ k)->ow[j']?=a_ (a_ k)->j=j'
def getD_none{ow:Array (Option Nat)}(h:ow.getD j (a_ 0)=b_):ow[j]?=a_ b_:=by
 unfold Gh at h;split at h
 .simp_all
 .cases h
def SV{ow:Array (Option Nat)}(h:B0 ow a=c_):B0 (ow.setIfInBounds j (a_ c)) a=c_:=by
 unfold B0 Gh at h ⊢;by_cases ha:a<ow.size
 .rw[dif_pos ha]at h;rw[dif_pos (by simpa using ha)];by_cases e:j=a
  .subst e;simp
  simp_all
 .rw[dif_neg (by simpa using ha)];rfl
def LL.set{ow:Array (Option Nat)}(h:LL t ow x a):LL t (ow.setIfInBounds j (a_ c)) x a:=
 let ⟨n,h1,h2⟩:=h
 ⟨n,h1,λk hk=>SV (h2 k hk)⟩
def get_set{ow:Array (Option Nat)}(B:j<ow.size):(ow.setIfInBounds j (a_ c))[a]?=if j=a then a_ (a_ c)else ow[a]? :=by
 rw[Array.getElem?_setIfInBounds];split
 .simp
 .rfl
def Lay.step{ow:Array (Option Nat)}(y:Lay t hs ow c)(h:di t.mask ow (kR t.mask) (dX (hs.getD c 0) % (t.mask+1)) (dX (hs.getD c 0))=a_ j):Lay t hs (ow.setIfInBounds j (a_ c)) (c+1):=by
 obtain⟨n,h1,h2,h3⟩:=A8 _ (t.probeStart (hs.getD c 0)) (wL t _) h;have h3:=getD_none h3;have d :=(cX.mp h3).1;refine⟨by simpa using y.sz,λa k ha=>?_,λk hk=>?_,λa f k ha b=>?_⟩
 .rw[get_set d]at ha;split at ha
  .rename_i e;subst e
   injection ha with ha
   injection ha with ha
   subst ha;exact⟨ao _,LL.set ⟨n,h1,h2⟩⟩
  .obtain⟨g,i⟩:=y.st a k ha;exact⟨c5 g,i.set⟩
 .rcases fY k c with hl|hl
  .obtain⟨a,ha⟩:=y.ex k hl;refine⟨a,?_⟩;rw[get_set d,if_neg (λe=>by grind)];exact ha
  .refine⟨j,?_⟩;rw[get_set d,if_pos rfl,(aF (a7 hk) hl)]
 .rw[get_set d]at ha b;split at ha<;>split at b
  .grind
  .injection ha with ha
   injection ha with ha
   have:=(y.st f k b).1
   simp_all
  .injection b with b
   injection b with b
   have:=(y.st a k ha).1;exact((aZ this (ae b))).elim
  .exact y.un a f k ha b
theorem xm{ow:Array (Option Nat)}:∀(fuel i p:Nat),di mask ow fuel i p=b_->∀n<fuel,B0 ow (tv mask n i p).1=c_
 |0,i,p,h,n,a=>((aZ a (aT _))).elim
 |fuel+1,i,p,h,n,a=>by
   have b:i<=dC mask i:=by unfold dC;split<;>simp
   rw[di]at h;split at h
   .cases h
   .rename_i hk;cases n with
    |zero=>
      show B0 ow i=c_;simpa [B0]using ((zo.mp hk) 0 (by omega))
    |succ n=>exact xm _ _ _ h n (a7 a)
set_option tactic.hygienic false
def OL(B:mask=7\/mask=31\/mask=127\/mask=511){ow:Array (Option Nat)}(O:j<mask+1)(he:B0 ow j=d_):∃a,di mask ow (kR mask) (dX x % (mask+1)) (dX x)=a_ a:=by
 cases q:di mask ow (kR mask) (dX x % (mask+1)) (dX x)with
 |some a=>exact⟨a,rfl⟩
 |none=>
   exfalso;obtain⟨n,h1,h2⟩:=ET B (p:=dX x) (jo _ (by simp)) (by unfold dX;omega) O;have:=xm _ _ _ q n (by exact c5 (aY h1));rw[h2,he]at this;cases this
def JZ{l:List Nat}(B:l.Nodup)(h:∀x∈l,x<c):l.length<=c:=by
 have hp:l.Perm ((aR c).filter λx=>decide (x∈l)):=by
  rw[iX B (zp Gg fG)]
  simp_all
 rw[hp.length_eq];exact aa (fO _ _) (by simp)
def EC{ow:Array (Option Nat)}(B:j<ow.size)(h:B0 ow j=c_):∃k,ow[j]?=a_ (a_ k):=by
 unfold B0 Gh at h;rw[dif_pos B]at h;obtain⟨k,hk⟩:=mJ.mp h
 simp_all
def Lay.room{ow:Array (Option Nat)}(y:Lay t hs ow c)(hc:c<t.mask+1):∃j,j<t.mask+1/\B0 ow j=d_:=by
 rcases Il (∃j,j<t.mask+1/\B0 ow j=d_)with h|h
 .exact h
 .exfalso
  have g:∀j,j<t.mask+1->∃k:Nat,ow[j]?=a_ _:=λj f=>EC (by rwa[y.sz]) (by
   cases q:B0 ow j with
   |true=>rfl
   |false=>exact absurd ⟨j,f,q⟩ h)
  have hk:∀j,j<t.mask+1->ow[j]?=a_ (a_ ((ow.getD j b_).getD 0)):=λj f=>by
   obtain⟨k,e⟩:=g j f
   simp_all
  have l:((aR (t.mask+1)).map λj=>(ow.getD j b_).getD 0).Nodup:=by
   refine List.Pairwise.map _ (R:=λa b=>a∈aR (t.mask+1)/\b∈aR (t.mask+1)/\a≠b) ?_ (kN (λha hb d=>⟨ha,hb,d⟩) fG)
   .rintro a b ⟨ha,hb,d⟩ e;have i:=hk a (bf.mp ha);rw[e]at i;exact d (y.un _ _ _ i (hk b (bf.mp hb)))
  have:=JZ l (λx n=>by
   obtain⟨j,f,rfl⟩:=bQ.mp n
   exact(y.st j _ (hk j (bf.mp f))).1)
  rw[aA,a6]at this;exact aZ hc this
noncomputable def ES(mask:Nat)(B:Option (Array (Option Nat)×Nat))(h:Int):Option (Array (Option Nat)×Nat):=do
 let (owner,k) <-B;let j <-di mask owner (kR mask) (dX h % (mask+1)) (dX h)
 pure (owner.setIfInBounds j (a_ k),k+1)
theorem AI{t:bC}(O:t.mask=7\/t.mask=31\/t.mask=127\/t.mask=511){hs:List Int}(hl:hs.length<=t.mask):∀(rest pre:List Int)(ow:Array (Option Nat)),hs=pre++rest->Lay t hs ow pre.length->∃B,rest.foldl (ES t.mask) (a_ (ow,pre.length))=a_ (B,hs.length)/\Lay t hs B hs.length
 |[],pre,ow,e,y=>⟨ow,by simp_all,by grind⟩
 |x::rest,pre,ow,e,y=>by
   obtain⟨g,h1,h2⟩:=y.room (c5 (aa (by rw[e];simp) hl));have c:hs.getD pre.length 0=x:=by rw[e];simp
   obtain⟨a,ha⟩:=OL O h1 h2;have b:=y.step (by rwa[c]);obtain⟨B,d,f⟩:=AI O hl rest (pre++[x]) _ (by simp_all) (by rwa[ah]);refine⟨B,?_,f⟩;rw[Mr]
   have:ES t.mask (a_ (ow,pre.length)) x=a_ (ow.setIfInBounds a (a_ pre.length),(pre++[x]).length):=by
    unfold ES
    simp_all
   rwa[this]
def Jw{n j k:Nat}(h:(ue n (b_:Option Nat))[j]?=a_ (a_ k)):False:=by
 rw[Array.getElem?_replicate]at h
 simp_all
def Lay.nil(t:bC)(hs:List Int):Lay t hs (ue (t.mask+1) b_) 0:=
 ⟨by simp,λj k h=>(Jw h).elim,λk hk=>by omega,λj j' k h _=>(Jw h).elim⟩
def Ou{t:bC}(B:t.mask=7\/t.mask=31\/t.mask=127\/t.mask=511){hs:Array Int}(hl:hs.size<=t.mask):∃ow,B6 t.mask hs=a_ ow/\Lay t hs.toList ow hs.size:=by
 obtain⟨ow,h1,h2⟩:=AI B (by simpa using hl) hs.toList [] _ rfl (Lay.nil t _);refine⟨ow,?_,by simpa using h2⟩;unfold B6;rw[<-Array.foldl_toList]
 have e:(hs.toList.foldl (ES t.mask) (a_ (ue (t.mask+1) b_,0))).map (·.1)=a_ ow:=by
  simp_all
 exact e
def Ov{hs:Array Int}(B:mask=7\/mask=31\/mask=127\/mask=511)(hl:hs.size<=mask) :
  ∃t o,lM mask f m led pl hs=a_ (t,o)/\t.mask=mask/\t.led=led/\o.toList.Perm (aR hs.size)/\t.place.size=o.size/\(∀j∈t.place.toList,j<=mask)/\∀(i:Nat)(h:i<o.size)(h':i<t.place.size),mU t (hs.toList.getD o[i] 0) t.place[i]:=by
 let d:bC:={ mask,place:=#[],dummies:=#[],finger:=f,led,moves:=m,plain:=pl }
 obtain⟨ow,h1,y⟩:=Ou (t:=d) B hl;have hsz :=y.sz;let live:=(aR (mask+1)).filterMap λj=>(ow.getD j b_).map (j,·)
 have c:∀j k,(j,k)∈live↔ow[j]?=a_ _:=λj k=>by
  simp only[live,qT,bf,zk,v9];constructor
  .rintro⟨a,ha,b,hb,rfl,rfl⟩;rw[vT]at hb;rw[a8 (aa ha (ae hsz.symm))]at hb ⊢;exact congrArg a_ hb
  .intro h;exact⟨j,aa ((cX.mp h).1) (ae hsz),k,by rw[vT,h];rfl,rfl,rfl⟩
 let t:bC:={ mask,place:=(live.map (·.1)).toArray,dummies:=#[],finger:=f,led,moves:=m,plain:=pl }
 refine⟨t,(live.map (·.2)).toArray,?_,rfl,rfl,?_,by simp[t],λj g=>?_,λi hi v=>?_⟩
 .unfold lM;rw[h1];rfl
 .have l:(live.map (·.2)).Nodup:=by
   have hp:live.Pairwise λa b=>a.1≠b.1:=by
    refine zC.mpr (oo ?_ BU);intro a b p x w z A;obtain⟨_,_,rfl⟩:=ee w;obtain⟨_,_,rfl⟩:=ee A;exact bb p
   refine fT.mpr (kN ?_ hp);intro a b ha hb q e;have u:=(c _ _).mp ha;rw[e]at u;exact q (y.un _ _ _ u ((c _ _).mp hb))
  rw[iX l fG];intro k;rw[bQ,bf];constructor
  .rintro⟨a,ha,rfl⟩;exact(y.st _ _ ((c _ _).mp ha)).1
  .intro hk;obtain⟨j,g⟩:=y.ex k hk;exact⟨_,(c j k).mpr g,rfl⟩
 .obtain⟨a,ha,rfl⟩:=bQ.mp g;exact a7 (aa ((cX.mp ((c _ _).mp ha)).1) (ae hsz))
 .have r:i<live.length:=by simpa using hi
  have e1:(live.map (·.2)).toArray[i]=live[i].2:=by simp
  have e2:t.place[i]=live[i].1:=by simp[t]
  rw[e1,e2];obtain⟨_,n,D,E⟩:=y.st _ _ ((c live[i].1 live[i].2).mp (br r));refine⟨n,?_,λk hk=>?_⟩
  .rwa[ox (t:=t) (t':=d) rfl]
  .rw[ox (t:=t) (t':=d) rfl];obtain⟨b,hb⟩:=EC (aq (Cg k _) (ae hsz.symm)) (E k hk);exact bQ.mpr ⟨_,(c _ b).mpr hb,rfl⟩
theorem AY{t:bC}(hd:t.dummies=#[])(B:∀i,ha i≠hh):∀(fuel:Nat)(p:bK){m:LQ},p.dummy=b_->cv t ha hh fuel p=a_ m->∃n,n<fuel/\t.slot (way t n p).j=.empty/\∀k<n,t.slot (way t k p).j≠.empty
 |0,p,m,_,h=>by cases h
 |fuel+1,p,m,hp,h=>by
   rw[cv]at h
   cases hs:t.slot p.j with
   |empty=>exact⟨0,by simp,hs,λk hk=>by omega⟩
   |dummy=>exact(nu hd hs).elim
   |live i=>
     rw[hs]at h;dsimp only at h;rw[if_neg (by simpa using B i)]at h;obtain⟨n,h1,h2,h3⟩:=AY hd B _ _ (xE hp) h;refine⟨_,aY h1,h2,λk hk=>?_⟩
     cases k with
     |zero=>show t.slot p.j≠_;rw[hs];simp
     |succ k=>exact h3 k (a7 hk)
def Dv{t:bC}(B:t.mask=7\/t.mask=31\/t.mask=127\/t.mask=511)(hd:t.dummies=#[])(x:Int)(O:j<t.mask+1)(he:t.slot j=.empty) :
  ∃N,N<6000/\t.slot (way t N (t.probeStart x)).j=.empty/\∀k<N,t.slot (way t k (t.probeStart x)).j≠.empty:=by
 obtain⟨m,h⟩:=sJ B hd (ha:=λ_=>x+1) (wK t x) O he;obtain⟨n,h1,h2,h3⟩:=AY hd (λ_=>(λz=>(ud (ot z) (Int.le_refl _)))) _ _ rfl h;refine⟨n,?_,h2,h3⟩;unfold kR at h1;omega
def Cz{t:bC}(O:t.mask=7\/t.mask=31\/t.mask=127\/t.mask=511)(hd:t.dummies=#[])(h1:t.slot (way t N (t.probeStart x)).j=.empty)(h2:∀k<N,t.slot (way t k (t.probeStart x)).j≠.empty)(B:a<=N) :
  (t.probe ha x (way t a (t.probeStart x))=a_ (.empty (way t N (t.probeStart x)).j b_)/\∀k,a<=k->k<N->∃i,t.slot (way t k (t.probeStart x)).j=.live i/\ha i≠x)\/
  ∃b i,a<=b/\b<N/\t.probe ha x (way t a (t.probeStart x))=a_ (.candidate (way t b (t.probeStart x)).j i (way t (b+1) (t.probeStart x)))/\t.slot (way t b (t.probeStart x)).j=.live i/\ha i=x/\∀k,a<=k->k<b->∃i,t.slot (way t k (t.probeStart x)).j=.live i/\ha i≠x:=by
 have g :=Ip a (wK t x);have p:=Cg (t:=t) N x;obtain⟨m,h⟩:=sJ O hd g (aY p) h1;obtain⟨c,u,l⟩:=wR hd _ _ g.d h
 have f:∀k,a<=k->k<a+c->∃i,t.slot (way t k (t.probeStart x)).j=.live i/\ha i≠x:=λk n q=>by
  have:=u (k - a) (j8 (ws n) q);rw[<-kO,(fZ n)]at this;exact this
 have r:a+c<=N:=by
  rcases fY N (a+c)with hl|hl
  .obtain⟨i,e,_⟩:=f N B hl
   grind
  .exact hl
 rcases l with⟨l,o⟩|⟨i,l,o,v⟩
 .rw[<-kO]at l o
  have:a+c=N:=by
   rcases fY (a+c) N with hl|hl
   .simp_all
   .exact aF r hl
  refine .inl ⟨by rw[h,l,this],λk n q=>f k n (aa q (ae this.symm))⟩
 .rw[<-kO]at o
  have s:a+c<N:=by
   grind
  refine .inr ⟨a+c,i,aV _ _,s,?_,o,v,f⟩;rw[h,l,<-kO,<-kO];rfl
end L2
namespace L2
open PySem PySem.Spec PyProof.Rows
structure mV(led:Bool)(h:cg)(S:aK)(es:Array (Int×aj))(ep:Nat)(t:bC):Prop where
 obj:h.get? S=a_ { cls:=.type "set",dict:=b_,data:=.set es ep t }
 fits:t.fits es.size=c_
 ok:BI led t
def mV.keep{h':cg}(y:mV led h S es ep t)(k:∀o,h.get? S=a_ o->h'.get? S=a_ o):mV led h' S es ep t:=⟨k _ y.obj,y.fits,y.ok⟩
noncomputable abbrev rQ(w:dh):Bool:=!w.params.followText "set-order"
def sO{α β:Type}{R:α->β->Prop}{l l':List α}(p:l'.Perm l):∀{ks:List β},lY R l ks->∃B,lY R l' B/\B.Perm ks:=by
 induction p with
 |nil=>intro ks h;cases h;exact⟨[],.nil,.nil⟩
 | cons x p g=>intro ks h;cases h with
   |cons a b=>obtain⟨B,c,d⟩:=g b;exact⟨_,.cons a c,d.cons _⟩
 | swap x y l=>intro ks h;cases h with
   | cons a b=>cases b with
     |cons c d=>exact⟨_,.cons c (.cons a d),.swap ..⟩
 |trans p q e f=>
   intro ks h;obtain⟨j,a,b⟩:=f h;obtain⟨i,c,d⟩:=e a;exact⟨i,c,d.trans b⟩
theorem sL{α β:Type}{R:α->β->Prop}{x:α}{y:β}(h:R x y):∀{l:List α}{ks:List β},lY R l ks->lY R (l++[x]) (ks++[y])
 |_,_,.nil=>.cons h .nil
 |_,_,.cons a b=>.cons a (sL h b)
theorem pT{α β:Type}{R:α->β->Prop}:∀{l:List α}{ks:List β},lY R l ks->l.length=ks.length
 |_,_,.nil=>rfl
 |_,_,.cons a b=>by rw[bG,bG,pT b]
theorem oE{α β:Type}{R:α->β->Prop}{x:α}:∀{l:List α}{ks:List β},lY R l ks->x∈l->∃y∈ks,R x y
 |_,_,.nil,h=>by cases h
 |_,_,.cons a b,h=>by
   rcases aw.mp h with rfl|h
   .exact⟨_,.head _,a⟩
   .obtain⟨y,c,d⟩:=oE b h;exact⟨y,.tail _ c,d⟩
theorem qw{α β:Type}{R:α->β->Prop}{y:β}:∀{l:List α}{ks:List β},lY R l ks->y∈ks->∃x∈l,R x y
 |_,_,.nil,h=>by cases h
 |_,_,.cons a b,h=>by
   rcases aw.mp h with rfl|h
   .exact⟨_,.head _,a⟩
   .obtain⟨x,c,d⟩:=qw b h;exact⟨x,.tail _ c,d⟩
section
variable{prog:cz}{w:dh}{K:Type}[DecidableEq K]{s:ak}
def zP{es':Array (Int×aj)}{t':bC}(y:mV led s.heap S es ep t)(f:t'.fits es'.size=c_)(o:BI led t')(B:es'.size<=aC)
  (k:∀h',du S s.heap h'->mV led h' S es' (ep+1) t'->Q () { s with heap:=h' }):aG (aI prog w) A (storeSet S es' t') Q E s:=by
 refine wpAny_storeSet_of y.obj rfl (k _ (nM ..) ⟨?_,f,o⟩) B;exact (iD (Obj.putSet _ t') y.obj (by rfl))
end
section
variable{prog:cz}{w:dh}{K:Type}[DecidableEq K]{G:Array B9->Array B9->Prop}{St:Nat->ak->Prop}
end
section
variable{z0:ak}
def Lh{st:List aj}(B:qd P w z0.heap ks p)(hs:∀v∈st,∃l b,v=.ref b/\qd P w z0.heap l b)(h:Q d_ z0):aG (aI P w) A (searchCouldBeSeen (.ref p) st) Q E z0:=by
 refine wb9 ?_;refine hZ _ (λtl r d=>r.1=b_/\d=z0/\∀v∈tl,∃l b,v=.ref b/\qd P w _ l b) _ ?_ ?_ _ _ ⟨rfl,rfl,hs⟩
 .rintro v tl r d ⟨ge,rfl,a⟩;obtain⟨l,b,rfl,e⟩:=a v jv;dsimp only;split
  .exact wu9 ⟨rfl,rfl,λu c=>a u (ju _ c)⟩
  .refine wb9 (tP Gm B ?_);refine wb9 (tP Gm e ?_);refine wb9 (yP Gm B ?_);exact wb9 (yP Gm e (wu9 ⟨rfl,rfl,λu c=>a u (ju _ c)⟩))
 .rintro⟨r1,r2⟩ d ⟨rfl,rfl,_⟩;exact wu9 h
end
def below_at(hs:DS xs)(hi:i<xs.size):aM xs xs[i]=i:=by
 obtain⟨h1,h2,h3⟩:=LD hs _
 rcases mZ (aM xs _) i with hl|hl|hl
 .exact((aZ (hs.get hi hl) (h3 (aM xs _) (cM hl hi) (ao _)))).elim
 .exact hl
 .exact((aZ (h2 i hi hl) (ao _))).elim
def M2{t:bC}(B:DS t.place)(hi:i<t.place.size):t.slot t.place[i]=.live i:=by
 rw[zU B (by simp),below_at B hi]
noncomputable abbrev Zm(es:Array (Int×aj))(i:Nat):Int:=(es[i]?.map (·.1)).getD 0
section
variable{P:cz}{w:dh}{A:cc}{s:ak}{es:Array (Int×aj)}{t:bC}
structure XQ(P:cz)(w:dh)(h:cg)(es:Array (Int×aj))(t:bC)(kf:Nat->List NK):Prop where
 mask:t.mask=7\/t.mask=31\/t.mask=127\/t.mask=511
 el:∀(i:Nat)(hi:i<es.size),∃b,es[i].2=.ref b/\qd P w h (kf i) b/\es[i].1=dS P w (kf i)
 std:∀(i:Nat)(hi:i<es.size)(hp:i<t.place.size),mU t es[i].1 t.place[i]
 le:∀j∈t.place.toList,j<=t.mask
theorem Ad(Y:A.units+3<=dM)(y:mV led s.heap S es ep t)(z:XQ P w s.heap es t kf)(O:qd P w s.heap ks p)
  (h1:t.slot (way t N (t.probeStart (dS P w ks))).j=.empty)(h2:∀k<N,t.slot (way t k (t.probeStart (dS P w ks))).j≠.empty)
  (B:∀i,i<es.size->kf i=ks->Q (.there b_) s)(new:(∀i,i<es.size->kf i≠ks)->Q (.free (way t N (t.probeStart (dS P w ks))).j d_) s) :
  ∀(fuel a:Nat)(stand:Option bK),a<=N->N - a<fuel->stand.getD (t.probeStart (dS P w ks))=way t a (t.probeStart (dS P w ks))->(∀k<a,∀i,t.slot (way t k (t.probeStart (dS P w ks))).j=.live i->kf i≠ks)->
   aG (aI P w) A (setSearchFrom S (.ref p) (dS P w ks) c_ fuel stand) Q E s
 |0,a,stand,ha,hf,_,_=>((aZ hf (aT _))).elim
 |fuel+1,a,stand,ha,hf,G,o=>by
   have hsz:t.place.size=es.size:=by
    have:=y.fits;simp only[lN,ag,beq_iff_eq]at this;exact this.1
   have g:=z.mask
   have U:t.gaveWay=d_:=by
    unfold SetTable.gaveWay
    rcases g with e|e|e|e<;>rw[e]<;>rfl
   have l:∀{j i:Nat},t.slot j=.live i->∃hi:i<es.size,Zm es i=es[i].1:=λ{j i}e=>by
    have hi:=(cX.mp (Ot e)).1;refine⟨aa hi (ae hsz),?_⟩;unfold Zm;simp[a8 ((aa hi (ae hsz)))]
   refine wb9 (dI y.obj rfl y.fits ?_);dsimp only;rw[U];simp only[if_false,bT];rw[G]
   rcases Cz g y.ok.d (ha:=Zm es) h1 h2 ha with⟨H,D⟩|⟨b,i,b1,b2,H,D,g3,V⟩
   .erw [H]
    refine wu9 (new λi hi e=>?_);obtain⟨n,R,T⟩:=z.std i hi (aa hi (ae hsz.symm));have hh:es[i].1=dS P w ks:=by obtain⟨_,_,_,q⟩:=z.el i hi;rw[q,e]
    rw[hh]at R T;have f:t.slot (way t n (t.probeStart (dS P w ks))).j=.live i:=by rw[R];exact M2 y.ok.r (aa hi (ae hsz.symm))
    have I:n<N:=by
     rcases mZ n N with hl|hl|hl
     .exact hl
     .simp_all
     .have:=T N hl;rw[zU y.ok.r this]at h1;cases h1
    rcases fY n a with hl|hl
    .exact o n hl i f e
    .obtain⟨h,e1,e2⟩:=D n hl I;rw[f]at e1
     injection e1 with e1
     subst e1;obtain⟨_,e3⟩:=l f
     simp_all
   .erw [H]
    dsimp only;obtain⟨hi,e3⟩:=l D;obtain⟨c,c1,c2,c3⟩:=z.el i hi
    have u:es[i]?=a_ (es[i].1,.ref c):=by
     rw[a8 hi,<-c1]
    have next:aG (aI P w) A (do
      let a_ (_,v):=es[i]? | unsupported "internal:set-entry"
      let equal <-holding [v] (eqBool v (.ref p));let (es',_,t') <-setState S
      if(c_ && equal)=c_ then return .there b_
      let a_ same:=t'.sameMemory t.moves t.mask|unsupported "set.changed-during-lookup:is-the-new-block-at-the-old-address"
      let still <-match(if same=c_ then t'.slot (way t b (t.probeStart (dS P w ks))).j else .empty)with
       | .live h=>match es'[h]? with
         |some (_,W)=>do pure (if(<-isSame W v)=c_ then a_ h else b_)
         |none=>pure b_
       |_=>pure b_
      match still with
      |none=>rule "set.search.anew";setSearchFrom S (.ref p) (dS P w ks) c_ fuel b_
      |some h=>if equal=c_ then return .there (a_ h)else setSearchFrom S (.ref p) (dS P w ks) c_ fuel (a_ (way t (b+1) (t.probeStart (dS P w ks))))) Q E s:=by
     rw[u];dsimp only;refine wb9 (dQ (Xp Y c2 O ?_));refine wb9 (dI y.obj rfl y.fits ?_);by_cases e:kf i=ks
     .rw[decide_eq_true e];exact wu9 (B i hi e)
     .rw[decide_eq_false e];have J:t.sameMemory t.moves t.mask=a_ c_:=by unfold SetTable.sameMemory;simp
      rw[J];simp only[if_true];rw[D];dsimp only;rw[u];refine wb9 (wpAny_isSame_ref_self (wb9 (wu9 ?_)));refine Ad Y y z O h1 h2 B new _ _ _ (b2) (Tw (ws b2) (wt ha) hf b1) rfl λk hk h K L=>?_
      rcases mZ k b with hl|hl|hl
      .rcases fY k a with m|m
       .exact o k m h K L
       .obtain⟨i2,F,q2⟩:=V k m hl;rw[K]at F
        injection F with F
        subst F;obtain⟨M,q3⟩:=l K;obtain⟨_,_,_,q4⟩:=z.el h M
        simp_all
      .simp_all
      .exact aZ hk hl
    split
    .refine wb9 (Lh O (λv X=>?_) next)
     .obtain⟨x,C,rfl⟩:=bQ.mp X;obtain⟨k,hk,rfl⟩:=Array.mem_iff_getElem.mp (Array.mem_filter.mp (Array.mem_toList_iff.mp C)).1;obtain⟨Z,d1,d2,_⟩:=z.el k hk;exact⟨_,Z,d1,d2⟩
    .exact next
end
section
variable{z0:ak}
def Xh(B:qd P w z0.heap ks p)(h:∀b,Q b z0):aG (aI P w) A (hashByValue 8 (.ref p)) Q E z0:=Qh Gm B h
end
section
variable{P:cz}{w:dh}{A:cc}{s:ak}{es:Array (Int×aj)}{t:bC}
def _root_.L2.qX.keepsC(x:qX I h ks p)(go:h.get? d=a_ o)(B:o.cls≠.type "tuple")(O:du d h h'):qX I h' ks p:=
 x.nY (XD go B λb o n e=>(O.2 b n).trans e)
structure DR(P:cz)(w:dh)(h:cg)(es:Array (Int×aj))(t:bC):Prop where
 mask:t.mask=7\/t.mask=31\/t.mask=127\/t.mask=511
 el:∀e∈es.toList,∃l b,e.2=.ref b/\qd P w h l b/\e.1=dS P w l
 std:∀q∈es.toList.zip t.place.toList,mU t q.1.1 q.2
 le:∀j∈t.place.toList,j<=t.mask
 nf:t.place.size * 5<t.mask * 3
def DR.toN(z:DR P w h es t):∃kf,XQ P w h es t kf:=by
 refine⟨λi=>if hi:i<es.size then(z.el es[i] (by simp)).choose else [],z.mask,λi hi=>?_,λi hi hp=>?_,z.le⟩
 .obtain⟨b,h1,h2,h3⟩:=(z.el es[i] (by simp)).choose_spec;refine⟨b,h1,?_,?_⟩
  .rwa[dif_pos hi]
  .rwa[dif_pos hi]
 .refine z.std (es[i],t.place[i]) ?_;refine dA.mpr ⟨i,by simp;omega,by simp⟩
def rJ{l l':List Nat}(O:l.Nodup)(B:l'.Nodup)(h:∀x∈l,x∈l'):l.length<=l'.length:=by
 have hp:l.Perm (l'.filter λx=>decide (x∈l)):=by
  rw[iX O (zp Gg B)]
  simp_all
 rw[hp.length_eq];exact fO _ _
def Uo(B:DS t.place)(hf:t.place.size<t.mask+1)(hd:t.dummies=#[]):∃j,j<t.mask+1/\t.slot j=.empty:=by
 rcases Il (∃j,j<t.mask+1/\t.slot j=.empty)with h|h
 .exact h
 .exfalso;have:=rJ fG (oo (λh=>(bb h)) B) λj(b)=>JV hd λe=>h ⟨j,bf.mp b,e⟩;rw[a6]at this;exact aZ hf this
def CA(O:A.units+3<=dM)(y:mV led s.heap S es ep t)(z:DR P w s.heap es t)(Y:qd P w s.heap ks p)
  (B:(∃e∈es.toList,∃b,e.2=.ref b/\qd P w s.heap ks b)->Q (.there b_) s)
  (new:∀j,(¬ ∃e∈es.toList,∃b,e.2=.ref b/\qd P w s.heap ks b)->t.slot j=.empty->j<=t.mask->mU (t.put j).1 (dS P w ks) j->Q (.free j d_) s) :
  aG (aI P w) A (setSearch S (.ref p) (dS P w ks) c_) Q E s:=by
 refine ac λ_ x=>?_;obtain⟨kf,n⟩:=z.toN;have f:=z.nf;obtain⟨j,l,he⟩:=Uo y.ok.r (by rcases z.mask with e|e|e|e<;>rw[e]at f ⊢<;>omega) y.ok.d;obtain⟨N,m,h1,h2⟩:=Dv z.mask y.ok.d _ l he;refine x ?_;refine Ad O y n Y h1 h2 (λi hi e=>B ?_) (λg=>new _ ?_ h1 (Cg N _) (mU.new λk hk=>JV y.ok.d (h2 k hk))) _ 0 b_ (aT _) (aa m cy) rfl λk hk=>((aZ hk (aT _))).elim
 .obtain⟨b,a,h,_⟩:=n.el i hi;exact⟨_,by simp,b,a,e▸h⟩
 .rintro⟨e,he,b,a,h⟩;obtain⟨i,hi,rfl⟩:=dA.mp he;have c:i<es.size:=by simpa using hi
  obtain⟨u,o,q,_⟩:=n.el i c;rw[Cf]at a;rw[o]at a;cases a;exact g i c (q.inj h)
end
section
variable{s:ak}
def Ny(y:mV led s.heap S es ep t)(B:fA wanted<=aC)(hl:t.relaid (es.map (·.1)) wanted=a_ (t',o))(hs:(o.filterMap (es[·]?)).size=es.size)
  (f:t'.fits (o.filterMap (es[·]?)).size=c_)(ok:BI led t')(O:es.size<=aC)(k:∀h',du S s.heap h'->mV led h' S (o.filterMap (es[·]?)) (ep+1) t'->Q () { s with heap:=h' }) :
  aG (aI P w) A (setRelay S wanted) Q E s:=by
 refine wb9 (dI y.obj rfl y.fits ?_);dsimp only;rw[if_neg (λz=>(aZ z B)),hl];refine wb9 ?_;change aG _ _ (if((o.filterMap _).size != es.size)=c_ then(unsupported _ >>= λ_=>pure (o.filterMap _,t'))else pure (o.filterMap _,t')) ..;rw[if_neg (by simp[hs])];exact wu9 (zP y f ok (by rwa[hs]) k)
end
theorem filterMap_map{α β:Type}{f:α->Option β}{g:α->β}:∀{l:List α},(∀k∈l,f k=a_ (g k))->l.filterMap f=l.map g
 |[],_=>rfl
 |a::l,h=>by rw[qc,h a jv,aB,filterMap_map λk hk=>h k (ju _ hk)]
def GR(es:Array (Int×aj)):(aR es.size).map (λk=>(es[k]?).getD (0,.none))=es.toList:=by
 apply kA
 .simp
 simp_all
section
variable{es:Array (Int×aj)}
def Ao{o:Array Nat}(hp:o.toList.Perm (aR es.size)):(o.filterMap (es[·]?)).toList=o.toList.map (λk=>(es[k]?).getD (0,.none)):=by
 rw[Array.toList_filterMap];refine filterMap_map λk hk=>?_;have :=bf.mp (hp.mem_iff.mp hk)
 simp_all
def uM{o:Array Nat}(hp:o.toList.Perm (aR es.size)):(o.filterMap (es[·]?)).toList.Perm es.toList:=by
 rw[Ao hp];have:=hp.map (λk=>(es[k]?).getD (0,fJ));rwa[GR]at this
def Nz{h:cg}(B:mask=7\/mask=31\/mask=127\/mask=511)(O:es.size<=mask)(Y:es.size * 5<mask * 3)(el:∀e∈es.toList,∃l b,e.2=.ref b/\qd P w h' l b/\e.1=dS P w l) :
  ∃t' o,lM mask f m led pl (es.map (·.1))=a_ (t',o)/\(o.filterMap (es[·]?)).size=es.size/\t'.fits (o.filterMap (es[·]?)).size=c_/\BI led t'/\(o.filterMap (es[·]?)).toList.Perm es.toList/\DR P w h' (o.filterMap (es[·]?)) t':=by
 obtain⟨t',o,h1,h2,h3,a,h5,k,n⟩:=Ov (hs:=es.map _) B (by simpa using O);have a:o.toList.Perm (aR es.size):=by simpa using a
 have hp:=uM a;have hsz:(o.filterMap (es[·]?)).size=es.size:=by rw[<-bF,hp.length_eq,bF]
 have p:o.size=es.size:=by rw[<-bF,a.length_eq,a6]
 have ok:=BI.laid h1;refine⟨t',o,h1,hsz,?_,ok,hp,?_⟩
 .simp only[lN,ph,ag,beq_iff_eq,decide_eq_true_eq,ok.d]
  simp_all
 .refine⟨by rwa[h2],λe he=>el e (hp.mem_iff.mp he),λq r=>?_,λj s=>by rw[h2];exact k j s,Tw (Nat.mul_le_mul_left 5 (Nat.le_of_eq h5)) Y (Nat.mul_le_mul_left 5 (Nat.le_of_eq p)) (Nat.mul_le_mul_left 3 (Nat.le_of_eq h2.symm))⟩;obtain⟨i,hi,rfl⟩:=dA.mp r;rw[vO]at hi;have c:i<o.size:=by simp at hi;omega
  have hk:o[i]<es.size:=bf.mp (a.mem_iff.mp (by simp))
  have e1:(o.filterMap _).toList[i]'(by exact aa hi (jl _ _))=es[o[i]]:=by
   simp only[Ao a,LX,Cf,a8 hk,sk]
  have h8:=n i c (aa c (ae h5.symm))
  simp_all
end
def E5{α:Type}(xs:Array α)(hp:p<=xs.size)(x:α):(cW xs p x).size=xs.size+1:=by
 rw[<-bF,eG,ah,bG,fI,dW];exact Nat.le_antisymm (j8 (Nat.min_le_left p _) (ad hp)) (j8 (am hp) (a0 p xs.size (ig hp)))
def AQ{α:Type}(xs:Array α)(p:Nat)(x:α):(cW xs p x).toList.Perm (xs.toList++[x]):=by
 rw[eG];refine LW.trans ?_;rw[be];exact dG (l₁:=[x])
def OB{α β:Type}(xs:Array α)(ys:Array β)(h:xs.size=ys.size){p:Nat}(hp:p<=xs.size)(x:α)(y:β){q:α×β}(B:q∈(cW xs p x).toList.zip (cW ys p y).toList):q=(x,y)\/q∈xs.toList.zip ys.toList:=by
 rw[eG,eG,Mn (by simp;exact Nat.le_antisymm (j8 (Nat.min_le_left p _) (a0 p ys.size (j8 hp (Nat.le_of_eq h)))) (j8 (Nat.min_le_left p _) (a0 p xs.size (ig hp))))]at B
 have a:xs.toList.zip ys.toList=(xs.toList.take p).zip (ys.toList.take p)++(xs.toList.drop p).zip (ys.toList.drop p):=by
  rw[<-Mn (by simp;omega),be,be]
 rw[a]
 rcases ax.mp B with B|B
 .simp_all
 .rcases aw.mp B with B|B
  .exact .inl B
  .exact .inr (ax.mpr (.inr B))
section
def zH{c:Prop}[Decidable c]{m O:BO Bool}{k:Bool->BO Bool}{Q:Bool->ak->Prop}(h:∀b,aG (aI P w) A (k b) Q E s)(Y:∀{Q':Bool->ak->Prop},(∀b,Q' b s)->aG (aI P w) A m Q' E s)(B:∀{Q':Bool->ak->Prop},(∀b,Q' b s)->aG (aI P w) A O Q' E s) :
  aG (aI P w) A (if c then m >>= k else O >>= k) Q E s:=by
 split
 .exact wb9 (Y h)
 .exact wb9 (B h)
def mU.plain(h:mU t x j):mU { t with plain:=b } x j:=
 mU.mono (t:=t)  rfl (λ_ h=>h) h
def OG(B:mask=7\/mask=31\/mask=127\/mask=511)(h0:n * 5<mask * 3)(h1:(n+1) * 5>=mask * 3)(O:n<300):(fA (iC (n+1)) - 1=31\/fA (iC (n+1)) - 1=127\/fA (iC (n+1)) - 1=511)/\n+1<=fA (iC (n+1)) - 1/\(n+1) * 5<(fA (iC (n+1)) - 1) * 3/\fA (iC (n+1))<=512:=by
 rcases B with rfl|rfl|rfl|rfl
 .obtain rfl:n=4:=by omega
  decide +kernel
 .obtain rfl:n=18:=by omega
  decide +kernel
 .obtain rfl:n=76:=by omega
  decide +kernel
 .exact ⟨(.inl (Tv h1 (Nat.mul_le_mul_left 5 O)).elim),⟨(Tv h1 (Nat.mul_le_mul_left 5 O)).elim,⟨(Tv h1 (Nat.mul_le_mul_left 5 O)).elim,(Tv h1 (Nat.mul_le_mul_left 5 O)).elim⟩⟩⟩
end
section
variable{s:ak}{A:cc}
set_option tactic.hygienic true in
def add_n(i_:A.units+3<=dM)(y:mV led s.heap S es ep t)(z:DR P w s.heap es t)(O:qd P w s.heap ks p)(room:es.size<300)
  (Y:∀b,(∃e∈es.toList,∃b,e.2=.ref b/\qd P w s.heap ks b)->Q b s)
  (new:∀b h' es' Z t',(¬ ∃e∈es.toList,∃b,e.2=.ref b/\qd P w s.heap ks b)->du S s.heap h'->mV led h' S es' Z t'->DR P w h' es' t'->es'.toList.Perm (es.toList++[(dS P w ks,.ref p)])->Q b { s with heap:=h' }) :
  aG (aI P w) A (setAddHashed S (.ref p) (dS P w ks)) Q E s:=by
 have hsz:t.place.size=es.size:=by
  have:=y.fits;simp only[lN,ag,beq_iff_eq]at this;exact this.1
 refine dQ ?_;refine wb9 (dI y.obj rfl y.fits ?_);dsimp only;refine wb9 (CA i_ y z O (λh=>(wu9 (Y _ h))) (λj F hs N R=>?_))
 .refine wb9 (dI y.obj rfl y.fits ?_);refine zH (λb=>?_) (λq=>Xh O q) (λq=>wu9 (q _));have i :=(LD y.ok.r j).1
  have n:({ cls:=.type "set",dict:=b_,data:=.set es ep t }:lF).cls≠.type "tuple":=by
   simp
  generalize m:(if b=c_ then(t.put j).1 else { (t.put j).1 with plain:=d_ })=t1;have T:t1.place=cW t.place (aM t.place j) j:=by rw[<-m];split<;>rfl
  have L:t1.mask=t.mask:=by rw[<-m];split<;>rfl
  have G:BI led t1:=by
   have:=y.ok.put (Cs y.ok.d hs);rw[<-m];split
   .exact this
   .exact this.off
  have q4:∀x a,mU _ x a->mU t1 x a:=λx a h=>by
   rw[<-m];split
   .exact h
   .exact h.plain
  have C:t1.place.size=es.size+1:=by rw[T,E5 _ i,hsz]
  have g:(cW es (aM _ j) (dS P w ks,c7 p)).size=es.size+1:=E5 _ (aa i (ae hsz)) _;have c:=AQ es (aM t.place j) (dS P w ks,c7 p)
  have u:∀e,e∈(cW es (aM _ j) _).toList->e∈es.toList\/e=(dS P w ks,c7 p):=λe he=>by
   rcases ax.mp (c.mem_iff.mp he)with h|h
   .exact .inl h
   .exact .inr (az.mp h)
  have H:=z.nf
  have v:t1.fits (cW es (aM t.place j) (dS P w ks,c7 p)).size=c_:=by
   simp only[lN,ph,ag,beq_iff_eq,decide_eq_true_eq,G.d];refine⟨aF (aa (ae C) (ae g.symm)) (aa (ae g) (ae C.symm)),?_⟩;show t1.place.size+0<=t1.mask;rw[L]
   rcases z.mask with e|e|e|e<;>rw[e]at H ⊢<;>omega
  have I:∀a∈t1.place.toList,a<=t1.mask:=λa ha=>by
   rw[T]at ha;rw[L]
   rcases ax.mp ((AQ _ (aM _ j) j).mem_iff.mp ha)with h|h
   .exact z.le a h
   .rwa[az.mp h]
  have k:∀q∈(cW es (aM _ j) (dS P w ks,c7 p)).toList.zip t1.place.toList,mU t1 q.1.1 q.2:=λq hq=>by
   rw[T]at hq
   rcases OB es _ hsz.symm (aa i (ae hsz)) _ _ hq with h|h
   .rw[h];exact q4 _ _ R
   .exact q4 _ _ (mU.mono (t:=t)  rfl (λa ha=>EM.mpr (.inr ha)) (z.std q h))
  rw[show(t.put j).2=aM _ j from rfl];generalize cW es (aM _ j) _=es1 at g c u v k ⊢;refine wb9 (zP y v G (by rw[g];exact aa room cy) λh1 M U=>?_)
  have B:∀h',du S _ h'->∀e∈es1.toList,∃l b,e.2=.ref b/\qd P w h' l b/\e.1=dS P w l:=λh' J e he=>by
   rcases u e he with h|h
   .obtain⟨l,b,V,W,X⟩:=z.el e h;exact⟨l,b,V,W.keepsC y.obj n J,X⟩
   .rw[h];exact⟨ks,p,rfl,O.keepsC y.obj n J,rfl⟩
  split
  .rename_i f
   have f:(es.size+1) * 5>=t.mask * 3:=by
    simp only[PK,Bool.true_and,DT,ph,G.d,decide_eq_true_eq]at f;have:(#[]:Array Nat).size=0:=rfl;exact Tw (Nat.mul_le_mul_left 3 (Nat.le_of_eq L.symm)) f (Nat.mul_le_mul_left 5 (Nat.le_of_eq C)) (Nat.mul_le_mul_left 5 (Nat.le_of_eq this))
   refine ac fun op_notN kq => ?_; obtain⟨m1,m2,m3,m4⟩:=OG z.mask (by rwa[<-hsz]) f room;obtain⟨t',o,V,W,X,r4,r5,K⟩:=Nz (h:=s.heap) (.inr m1) (aa (ae g) m2) (j8 (Nat.mul_le_mul_left 5 (Nat.le_of_eq g)) m3) (B h1 M)
   refine kq ?_; have hrl:t1.relaid (es1.map (·.1)) (iC (es.size+1))=a_ (t',o):=by
    unfold PySem.SetTable.relaid;rwa[G.l]
   refine wb9 (Ny U (by exact aa m4 cy) hrl W X r4 (by rw[g];exact aa room cy) λh2 CB y2=>?_)
   have D:({ cls:=.type "set",dict:=b_,data:=.set es1 (ep+1) t1 }:lF).cls≠.type "tuple":=by
    simp
   refine wu9 (new _ h2 _ _ _ F (M.trans CB) y2 ⟨K.mask,λe he=>?_,K.std,K.le,K.nf⟩ (r5.trans c));obtain⟨l,b,s1,s2,s3⟩:=K.el e he;exact⟨l,b,s1,s2.keepsC U.obj D CB,s3⟩
  .rename_i f
   have f:(es.size+1) * 5<t.mask * 3:=by
    simp only[PK,Bool.true_and,DT,ph,G.d,decide_eq_true_eq]at f;exact qV (Nat.mul_le_mul_left 5 (Nat.le_of_eq C.symm)) (Nat.lt_of_not_le f) (Nat.mul_le_mul_left 3 (Nat.le_of_eq L))
   exact wu9 (new _ h1 _ _ _ F M U ⟨by rw[L];exact z.mask,B h1 M,k,I,by rwa[L,C]⟩ c)
end
section
variable{prog:cz}{w:dh}{A:cc}{s:ak}
abbrev Ab(w:dh):lF:={ cls:=.type "set",dict:=b_,data:=.set #[] 0 (.fresh 0 0 (rQ w)) }
def Nb(a:aj)(k:Q (.ref s.heap.objs.size) { s with heap:=s.heap.push (Ab w) }):codeAny (aI prog w) A (.call (.builtin "set.__new__") ⟨[.type "set",a],[]⟩) (wants Q E) s:=by
 refine Mb PySem.F.plain_set_new PySem.F.entry_set_new (jZ (PySem.F.newCall_set_1 a) ?_);have b:=sub_set_self;obtain⟨hp,g,d,c,os⟩:=s
 wp_walk
 refine xG ?_;exact wu9 (wb9 (wpAny_alloc (wu9 (wu9 k))))
def yS{T:String}(O:TypeCalled T nI iI)(ct:checkTypeCall T ⟨args,[]⟩=pure ())(eI:entryFor table iI=a_ B)
  (Z:codeAny (aI prog w) A.in1 (.call (.builtin nI) ⟨.type T::args,[]⟩) (wants Q1 E) s)
  (hx:∀Y s1,Q1 Y s1->s1.TypeIs Y T/\codeAny (aI prog w) A.in1 (.call (.builtin iI) ⟨Y::args,[]⟩) (wants (λr s2=>r=.none/\Q Y s2) E) s1) :
  aG (aI prog w) A (call (.type T) args) Q E s:=by
 obtain⟨c,tl,e1⟩:=O.mro;have e2:=O.made;have e3:=O.sub;refine wpAny_call (codeAny_of_tree ?_);refine wu9 (Mu (Code.quiet_builtin _ (by decide +kernel)) (lX PySem.F.entry_type_call ?_));have h:=O.notType;have e5:=O.canCreate
 repeat any_goals first|assumption|wp_step
 refine kC Z λr s1 b=>?_
 cases r with
 |error e=>exact b
 |ok fl=>
   cases fl with
   |ret Y=>
     obtain⟨i,f⟩:=hx _ _ b;have j:=O.init.lookup;have k:=O.init.bind Y
     repeat any_goals first|assumption|wp_step
     refine kC f λg s2 a=>?_
     cases g with
     |error e=>exact a
     |ok d=>
       cases d with
       |ret r=>
         obtain⟨rfl,l⟩:=a
         repeat any_goals first|assumption|wp_step
       |_=>exact a.elim
   |_=>exact b.elim
def HC{T:String}(ty:s.TypeIs v T)(a:isSubtype (.type T) (.type "set")=pure d_)(b:isSubtype (.type T) (.type "frozenset")=pure d_)(k:Q d_ s):aG M A (Mg v) Q E s:=by
 exact wb9 (dv ty a (dv ty b k))
variable{K:Type}[DecidableEq K]
def QD(prog:cz)(w:dh)(h:cg)(v:aj)(n:Nat)(P:Nat->aj->Prop):Prop:=
 ∀(A1:cc)(c:aj->ak->Prop)(s1:ak)(Q1:aj->ak->Prop),h.objs.size<s1.heap.objs.size->(∀b o,h.get? b=a_ o->s1.heap.get? b=a_ o)->
  (∀(o:lF)(fp:List aK)(St:Nat->cg->Prop),(∀a,a.handled=b_->Walks prog w a s1.heap.objs.size fp [s1.heap.objs.size] n P St)->(∀b∈fp,b=s1.heap.objs.size\/b<h.objs.size)->St 0 (s1.heap.push o)->
   Q1 (.ref s1.heap.objs.size) { s1 with heap:=s1.heap.push o })->aG (aI prog w) A1 (B4 v) Q1 c s1
end
section
variable{P:cz}{w:dh}
def _root_.L2.qX.mono{h':cg}(x:qX I h ks p)(k:∀b o,h.get? b=a_ o->h'.get? b=a_ o):qX I h' ks p:=x.nY λb o e _ _=>k b o e
def BM(P:cz)(w:dh)(led:Bool)(h:cg)(S:aK)(kf:Nat->List NK)(B:Nat->aK)(i:Nat):Prop:=
 ∃es ep t js,mV led h S es ep t/\DR P w h es t/\lY (λ(e:Int×aj)j=>e.2=.ref (B j)) es.toList js/\(js.map kf).Nodup/\(∀j∈js,j<i)/\∀j,j<i->kf j∈js.map kf
variable{kf:Nat->List NK}{av:Nat->aK}
def BM.keep{h':cg}(y:BM P w led h S kf av i)(k:∀o,h.get? S=a_ o->h'.get? S=a_ o)(a:∀j,j<i->qd P w h (kf j) (av j))(b:∀j,j<i->qd P w h' (kf j) (av j)):BM P w led h' S kf av i:=by
 refine ac λ_ r=>?_;obtain⟨es,ep,t,js,n,c,f,p,d,q⟩:=y;refine r ?_;refine⟨es,ep,t,js,n.keep k,⟨c.mask,λe he=>?_,c.std,c.le,c.nf⟩,f,p,d,q⟩;refine ac λ_ r=>?_;obtain⟨l,b0,e1,e2,e3⟩:=c.el e he;obtain⟨j,g,m⟩:=oE f he;refine r ?_;rw[m]at e1;cases e1;rw[e2.inj (a j (d j g))]at e3;exact⟨_,_,m,b j (d j g),e3⟩
variable{A:cc}{G:Array B9->Array B9->Prop}{St:Nat->ak->Prop}
def OF{h:cg}{es:Array (Int×aj)}{js:List Nat}{i m:Nat}(B:lY (λ(e:Int×aj) j=>e.2=.ref (av j)) es.toList js)(O:∀j∈js,j<i)(a:∀j,j<m->qd P w h (kf j) (av j))(hi:i<m) :
  (∃e∈es.toList,∃b,e.2=.ref b/\qd P w h (kf i) b)↔kf i∈js.map kf:=by
 constructor
 .rintro⟨e,he,b,e1,e2⟩;obtain⟨j,d,f⟩:=oE B he;rw[f]at e1;cases e1;rw[e2.inj (a j (cM (O j d) hi))];exact cU d
 .intro q;obtain⟨j,d,e⟩:=bQ.mp q;obtain⟨x,g,f⟩:=qw B d;exact⟨x,g,_,f,e▸a j (cM (O j d) hi)⟩
def Gj(W:WalksS P w A.in1 I fp wr G n Pv St)(S:aK)(Z:S∉fp)(hv:∀i v,Pv i v->v=.ref (av i))(h0:cg)(hk:∀j,j<n->qd P w h0 (kf j) (av j))(O:h0.get? S=b_)(Y:∀b∈wr,h0.get? b=b_)
  (hb:n<=300)(i_:A.in1.units+3<=dM) :
  ∀(k i:Nat)(s:ak),n - i=k->i<=n->St i s->(∀b o,h0.get? b=a_ o->s.heap.get? b=a_ o)->BM P w led s.heap S kf av i->
   (∀s',Moved (S::wr) G s s'->BM P w led s'.heap S kf av n->R (.ok (.ret .none)) s')->
   codeAny (aI P w) A (.builtin "set.update.loop" ⟨[.ref S,.ref I],[]⟩) R s:=by
 have x :=λh=>Z (W.sub _ h);have sub:∀b∈wr,b∈S::wr:=λb m=>ju _ m;have kin:∀(h:cg),(∀b o,h0.get? b=a_ o->h.get? b=a_ o)->∀j,j<n->qd P w h (kf j) (av j):=λh q j d=>(hk j d).mono q;intro k
 induction k with
 |zero=>
   intro i s g hi r B y K;obtain rfl:i=n:=aF (ig hi) (j8 (wt hi) (ae g));refine lX mY ?_;refine wb9 (W.done s _ _ r λs' m=>?_);exact wu9 (K s' (m.mono sub) (y.keep (λo e=>m.heap S o x e) (kin _ B) (kin _ (λb o e=>m.heap b o (λz=>by simp_all) (B b o e)))))
 |succ k ih=>
   intro i s g hi r B y K;refine lX mY ?_;rw[Around.under_plainId mX];refine wb9 (W.item i s _ _ (j8 (ws hi) (ae g.symm)) r λv s' hP C m=>?_);have u :=λb o e=>m.heap b o (λz=>by rw[Y b z]at e;cases e) (B b o e);refine ac fun Pq kq => ?_; obtain rfl:=hv i v hP;have c:i<n:=j8 (ws hi) (ae g.symm);obtain⟨es,ep,t,js,V,X,H,L,J,yf⟩:=y.keep (λo e=>m.heap S o x e) (λj d=>kin _ B j (aa d hi)) (λj d=>kin _ u j (aa d hi));refine kq ?_; refine wb9 (dQ ?_);refine dQ (wb9 (Dp i_ (kin _ u i c) ?_));have len:=pT H;have M:js.length<=i:=by
    have:=rJ ((fT.mp L).imp λh e=>h (congrArg kf e)) fG λj d=>bf.mpr (J j d)
    simp_all
   have has:=OF H J (kin _ u) c
   have go:∀h' N,du S s'.heap h'->s'.toks<=N->BM P w led h' S kf av (i+1)->
     aG (aI P w) A.in1 (again (.builtin "set.update.loop" ⟨[.ref S,.ref I],[]⟩)) (λfin l=>match fin with | .done f=>R (.ok f) l | .again c'=>c'.quiet=c_/\codeAny (aI P w) A c' R l) (λe l=>R (.error e) l) { s' with heap:=h',toks:=N }:=by
    intro h' N D E Q;refine wu9 ⟨F7 mX _,ih _ _ (aF (qV (ws c) (wt (aD c)) (ae g)) (qV (ae g.symm) (ws (aD c)) (wt c))) (c) (W.frame _ s' _ _ C E λb hb o e=>?_) (λb o e=>?_) Q λs2 m2 y2=>?_⟩
    .rw[D.2 b λz=>Z (z▸hb)];exact e
    .rw[D.2 b λz=>by rw[z,O]at e;cases e];exact u b o e
    .refine K s2 (Moved.trans W.gtrans ((m.mono sub).then_heap E λb o hb e=>?_) m2) y2;rw[D.2 b λz=>hb (z▸jv)];exact e
   refine add_n i_ V X (kin _ u i c) (Tw (ae len) M c hb) (λb T=>?_) (λb h' es' U t' T D Q z' p=>?_)
   .refine go _ _ (Heap.SameBut.refl ..) (aV _ _) ⟨es,ep,t,js,V,X,H,L,λj d=>m6 (J j d),λj d=>?_⟩;by_cases e:j=i
    .subst e;exact has.mp T
    .exact yf j (bp (ig d) e)
   .obtain⟨F,c1,c2⟩:=sO p (sL (R:=λ(e)j=>e.2=.ref (av j)) rfl H);have c3:(F.map kf).Perm (js.map kf++[kf i]):=by
     have:=c2.map kf
     rwa [cF]at this
    refine go h' _ D (aV _ _) ⟨_,U,t',F,Q,z',c1,?_,λj d=>?_,λj d=>?_⟩
    .refine c3.nodup_iff.mpr (cH.mpr ⟨L,aU.mpr ⟨by simp,en⟩,λa ha b hb=>?_⟩);rw[az]at hb;subst hb;exact λz=>(λz=>T (has.mpr z)) (z▸ha)
    .rcases ax.mp (c2.mem_iff.mp d)with h|h
     .exact m6 (J j h)
     .rw[az.mp h];simp
    .rw[c3.mem_iff];by_cases e:j=i
     .grind
     .exact au _ (yf j (bp (ig d) e))
end
section
variable{A:cc}{s:ak}
def GB{T:String}(hh:A.handled=b_)(ty:∀s1:ak,(∀b o,s.heap.get? b=a_ o->s1.heap.get? b=a_ o)->s1.TypeIs v T)
  (a:isSubtype (.type T) (.type "set")=pure d_)(b:isSubtype (.type T) (.type "frozenset")=pure d_)(nd:(kc T == kc "dict")=d_)(B:QD P w s.heap v n Pv)
  (O:∀i v,Pv i v->v=.ref (av i))(hk:∀j,j<n->qd P w s.heap (kf j) (av j))(hb:n<=300)(Y:A.in1.in1.in1.units+3<=dM)
  (k:∀h' Z,BM P w (rQ w) h' s.heap.objs.size kf av n->(∀b o,s.heap.get? b=a_ o->h'.get? b=a_ o)->Q (.ref s.heap.objs.size) { s with heap:=h',toks:=Z }) :
  aG (aI P w) A (call (.type "set") [v]) Q E s:=by
 refine yS (Q1:=λl s1=>l=.ref s.heap.objs.size/\s1={ s with heap:=s.heap.push (Ab w) }) Cb (PySem.F.typeCall_set_1 v) xM (Nb v ⟨rfl,rfl⟩) ?_;rintro l s1 ⟨rfl,rfl⟩;have gS:(s.heap.push (Ab w)).get? s.heap.objs.size=a_ (Ab w):=aL _ rfl;have p:PySem.Shared.TypeIs { s with heap:=s.heap.push (Ab w) } (.ref s.heap.objs.size) "set":=⟨_,gS,rfl⟩
 refine⟨p,Mb Cb.init.plain xM (check_set_init_1 p ?_)⟩;have e1:∀b o,s.heap.get? b=a_ o->(s.heap.push (Ab w)).get? b=a_ o:=λb o e=>hp9 _ e;unfold gC.«set.__init__» noKeywords;generalize t:Me=U
 wp_walk
 subst t;refine wb9 (HC (ty _ e1) a b ?_);refine wb9 (kB (ty _ e1) ?_);rw[nd];have sz:(s.heap.push (Ab w)).objs.size=s.heap.objs.size+1:=fK ..;refine wb9 (B _ _ _ _ (by simp) e1 λo fp St W d st=>?_);refine wb9 (PySem.wpAny_runValue ?_);refine Gj (led:=rQ w) (W _ (by simp[hh])).toS _ (λm=>?_) O _ hk (pA (ao _)) (λb hb=>?_) hb Y n 0 _ rfl (aT _) st (λb o e=>hp9 _ (e1 b o e)) ?_ ?_
 .rcases d _ m with q|q
  .have r :=q;rw[sz]at r;exact absurd r (bb (kG _))
  .exact absurd q (bx _)
 .have f:b=(s.heap.push (Ab w)).objs.size:=by simpa using hb
  rw[f,sz];exact pA (vN _)
 .refine⟨_,0,_,[],⟨hp9 _ gS,by rfl,BI.fresh _⟩,⟨.inl rfl,λe he=>by simp at he,λq u=>by simp at u,λj c=>?_,by show 0 * 5<7 * 3;decide⟩,.nil,en,λj c=>by simp at c,λj c=>((aZ c (aT _))).elim⟩;simp[SetTable.fresh]at c
 .intro s' m y;refine wu9 ?_;obtain⟨h',g',d',g,h⟩:=s';obtain rfl:g'=s.gens:=m.gens;obtain rfl:d'=s.drawn:=m.drawn;obtain rfl:h=s.os:=m.os;refine wu9 ⟨rfl,k h' g y λb o e=>m.heap b o (λz=>?_) (hp9 _ (hp9 _ e))⟩;have lt:=hl9 e;simp only[aw,bq,or_false]at z
  rcases z with z|z
  .rw[z]at lt;exact absurd lt (bx _)
  .rw[z,sz]at lt;exact absurd (Nat.lt_of_succ_lt lt) (bx _)
end
end L2
local macro_rules | `(tactic| walk_at $s:str) => if s.getString.startsWith "u " then do let n := Lean.mkIdent (Lean.mkPrivateNameCore `PySem.Builtin.List.W1All (`PySem.Builtin ++ (s.getString.drop 2).toString.toName)); `(tactic| delta $n:ident) else Lean.Macro.throwUnsupported
namespace L2
open PySem PySem.W PySem.Spec PyProof.Rows
structure Lt(lt:Nat->Nat->Bool):Prop where
 tr:∀i j k,lt i j=c_->lt j k=c_->lt i k=c_
 co:∀i j,i≠j->lt i j=d_->lt j i=c_
 as:∀i j,lt i j=c_->lt j i=d_
noncomputable def yD:Bool->jk->Array jk->Nat->Nat->Nat->StateT bM BO (Option Nat):=sortPriv% PySem.Builtin.gallop
noncomputable def AA:Array jk->Array jk->StateT bM BO (Array jk):=sortPriv% PySem.Builtin.mergeLo
noncomputable def AB:Array jk->Array jk->StateT bM BO (Array jk):=sortPriv% PySem.Builtin.mergeHi
section
variable{P:cz}{w:dh}{A:cc}{E:aj->ak->Prop}{s:ak}{κ:pq}{it:Nat->jk}{lt:Nat->Nat->Bool}{N:Nat}
def Wt(P:cz)(w:dh)(A:cc)(E:aj->ak->Prop)(s:ak){α:Type}(m:StateT bM BO α)(G:α->bM->Prop)(st:bM):Prop:=
 kasC (aI P w) A E m (λr a s'=>G r a/\s'=s) st s
variable{α β:Type}{G:β->bM->Prop}{st:bM}
def Wt.pure(h:G b st):Wt P w A E s (pure b) G st:=kasC_pure ⟨h,rfl⟩
def Wt.bind(h:Wt P w A E s m (λa B=>Wt P w A E s (f a) G B) st):Wt P w A E s (m >>= f) G st:=
 kasC_bind (dz h (λ_ _ z=>by obtain⟨z,rfl⟩:=z;exact z) λ_ _ e=>e)
def Wt.mono(h:Wt P w A E s m G' st)(f:∀b B,G' b B->G b B):Wt P w A E s m G st:=
 dz h (λ_ _ z=>⟨f _ _ z.1,z.2⟩) λ_ _ e=>e
def Wt.get{G:bM->bM->Prop}(h:G st st):Wt P w A E s (get:StateT bM BO bM) G st:=kasC_get ⟨h,rfl⟩
def Wt.modify{G:PUnit->bM->Prop}(h:G ⟨⟩ (f st)):Wt P w A E s (modify f:StateT bM BO PUnit) G st:=kasC_modify ⟨h,rfl⟩
def Wt.set{G:PUnit->bM->Prop}(h:G ⟨⟩ st'):Wt P w A E s (MonadStateOf.set st':StateT bM BO PUnit) G st:=by
 exact wu9 ⟨h,rfl⟩
def Wt.rule{G:Unit->bM->Prop}(h:G () st):Wt P w A E s (liftM (rule n):StateT bM BO Unit) G st:=kasC_lift (iF ⟨h,rfl⟩)
abbrev XO(G I:β->bM->Prop):ForInStep β->bM->Prop
 |.done b,st=>G b st
 |.yield b,st=>I b st
def Wt.loop{l:List Nat}{b:β}{f:Nat->β->StateT bM BO (ForInStep β)}(I:Nat->β->bM->Prop)(h0:I 0 b st)
  (hb:∀j x b st,l[j]?=a_ x->I j b st->Wt P w A E s (f x b) (XO G (I (j+1))) st)(he:∀b st,I l.length b st->G b st):Wt P w A E s (forIn l b f) G st:=by
 have go:∀(r:List _)(j:Nat)(b:β)(st:bM),j+r.length=l.length->(∀k,r[k]?=l[j+k]?)->I j b st->Wt P w A E s (forIn r b f) G st:=by
  intro r
  induction r with
  |nil=>
    intro j b st a _ hi;exact kasC_nil ⟨he b st (by rwa[<-a]),rfl⟩
  |cons x r i=>
    intro j b st a g hi;refine kasC_cons (dz (hb j x b st ((g 0).symm) hi) (λc s' z=>?_) λ_ _ e=>e);obtain⟨c,d⟩:=c;obtain⟨z,rfl⟩:=z
    cases c with
    |done h=>exact⟨z,rfl⟩
    |yield h=>
      exact i _ h d (by exact aF (ig (ae a)) (ig (ae a.symm))) (λk=>by have:=g (k+1);grind) z
 simp_all
def Wt.range(I:Nat->β->bM->Prop)(h0:I 0 c st)
  (hb:∀j B st,j<b - a->I j B st->Wt P w A E s (f (a+j) B) (XO G (I (j+1))) st)(he:∀B st,I (b - a) B st->G B st):Wt P w A E s (forIn [a:b] c f) G st:=
 kasC_range (Wt.loop I h0 (λj x B st d hi=>by
  have e:j<b - a:=by simpa using ((aN.mp d).1)
  rw[List.getElem?_range' e]at d;cases d
  simp_all) λB st hi=>he B st (by simp_all))
def tG(P:cz)(w:dh)(A:cc)(s:ak)(κ:pq)(it:Nat->jk)(lt:Nat->Nat->Bool)(N:Nat):Prop:=
 ∀i j,i<N->j<N->∀C:Bool->ak->Prop,C (lt i j) s->aG (aI P w) A (keyLt' κ (it i).1 (it j).1) C (λ_ _=>False) s
def Wt.ask{G:Option Bool->bM->Prop}(h:tG P w A s κ it lt N)(hk:kindOf st=κ)(hi:i<N)(B:j<N)(g:G (a_ (lt i j)) st):Wt P w A E s (lt' (it i) (it j)) G st:=by
 rw[lt'_eq];refine kasC_bind (kasC_get ?_);refine kasC_bind (kasC_lift (gH ?_));rw[hk];exact dz (h i j hi B (λc s'=>c=lt i j/\s'=s) ⟨rfl,rfl⟩) (λc s' ⟨e1,e2⟩=>by subst e1 e2;exact kasC_pure ⟨g,rfl⟩) λ_ _ z=>z.elim
noncomputable abbrev Ar(it:Nat->jk)(l:List Nat):Array jk:=(l.map it).toArray
def Wt.elem{G:jk->bM->Prop}(h:l[i]?=a_ x)(g:G (it x) st):Wt P w A E s (elem' (Ar it l) i) G st:=by
 rw[elem'_eq];have:(Ar it l)[i]?=a_ (it x):=by simp[h]
 rw[this];exact .pure g
end
section
variable{st:bM}
abbrev GSt:=Option (Option Nat)×Nat×Nat
def Fe{lo:Nat}(h1:lo<=k)(h2:k<=hi)(h3:hi<=n)
  (hf:∀x lo hi(G':ForInStep GSt->bM->Prop),lo<=k->k<=hi->hi<=n->(lo>=hi->G' (.done (b_,lo,hi)) st)->(lo<hi->lo+(hi - lo) / 2<k->G' (.yield (b_,lo+(hi - lo) / 2+1,hi)) st)->
   (lo<hi->¬lo+(hi - lo) / 2<k->G' (.yield (b_,lo,lo+(hi - lo) / 2)) st)->Wt P w A E s (f x (b_,lo,hi)) G' st) :
  Wt P w A E s (forIn [0:n] ((b_,lo,hi):GSt) f) (λb B=>B=st/\∃lo,b=(b_,lo,k)) st:=by
 refine Wt.range (λj b B=>B=st/\∃lo hi,b=(b_,lo,hi)/\lo<=k/\k<=hi/\hi<=n/\hi - lo<=n - j) ⟨rfl,lo,hi,rfl,h1,h2,h3,aa (oj _ _) h3⟩ (λj b B i z=>?_) λb B z=>by grind
 refine ac λ_ m=>?_;obtain⟨e,lo,hi,e1,a,c,d,l⟩:=z;subst e e1;refine m ?_;refine hf _ lo hi _ a c d (λq=>⟨rfl,lo,by congr;exact aF (aa q a) c⟩) (λh g=>⟨rfl,_,_,rfl,g,c,d,a4 (ar hi (lo + (hi - lo) / 2 + 1) (j8 g c)) (am (Nat.le_of_lt h)) l (ad (Nat.le_of_lt i)) (am i)⟩) λh g=>⟨rfl,_,_,rfl,a,bS g,qV (ws (aD h)) (wd (hi - lo)) d,a4 (ar (lo + (hi - lo) / 2) lo (G5)) (a3 lo hi (ig h)) l (ad (Nat.le_of_lt i)) (am i)⟩
def Hh{left:Bool}{x:Nat}{l:List Nat}{base n hint k:Nat}{g:Nat->Nat}{G:Option Nat->bM->Prop}(as:tG P w A s κ it lt N)(hk:kindOf st=κ)(O:x<N)(hl:∀i,i<n->l[base+i]?=a_ (g i)/\g i<N)
  (Y:∀i,i<n->(if left=c_ then lt (g i) x else !(lt x (g i)))=decide (i<k))(B:k<=n)(hh:hint<n)(q:G (a_ k) st):Wt P w A E s (yD left (it x) (Ar it l) base n hint) G st:=by
 have hb:∀i,i<n->∀{G':Option _->bM->Prop},G' (a_ (decide (i<k))) st->Wt P w A E s (do
   let y <-elem' (Ar it l) (base+i)
   if left=c_ then lt' y (it x)else do
    let b <-lt' (it x) y
    pure (b.map λz=>!z)) G' st:=by
  intro i hi G' D;obtain⟨e1,e2⟩:=hl i hi;refine .bind (.elem e1 ?_)
  cases left with
  |true=>
    refine Wt.ask as hk e2 O ?_
    simp_all
  |false=>
    refine .bind (Wt.ask as hk O e2 (.pure ?_))
    simp_all
 unfold yD;walk_at "u gallop";refine .bind (hb _ hh ?_);by_cases c:hint<k
 .rw[decide_eq_true c]
  refine .bind (Wt.mono (Wt.range (G:=λb a=>a=st/\∃lo of:Nat,b=((b_,lo,of))/\hint+lo<k/\lo<of/\(k<=hint+of\/n - hint<=of)) (λj b a=>a=st/\∃lo of:Nat,b=((b_,lo,of))/\hint+lo<k/\lo<of/\j+1<=of)
   ⟨rfl,0,1,rfl,by omega,by simp,cy⟩ (λj b a C z=>?_) λb a z=>by obtain⟨e,lo,of,e1,f,h,m⟩:=z;exact⟨e,lo,of,e1,f,h,.inl (qV B (wT n 0) m)⟩) λb a z=>?_)
  .refine ac λ_ t=>?_;obtain⟨e,lo,of,e1,f,h,m⟩:=z;subst e e1;refine t ?_;by_cases d:of>=n - hint
   .rw[if_pos d];exact .pure ⟨rfl,lo,of,rfl,f,h,.inr d⟩
   .rw[if_neg d];refine .bind (hb (hint+of) (j8 (ws (aD hh)) (bR d)) ?_);by_cases d':hint+of<k
    .rw[decide_eq_true d'];exact .pure ⟨rfl,of,_,rfl,d',G5,ig m⟩
    .rw[decide_eq_false d'];exact .pure ⟨rfl,lo,of,rfl,f,h,.inl (bS d')⟩
  .obtain⟨e,lo,of,e1,f,h,m⟩:=z;subst e e1;refine .bind (Wt.mono (Fe (hi:=hint+min of _) (f) (by omega) (j8 (ad (Nat.le_of_lt hh)) (Nat.min_le_right of (n - hint))) λy lo hi G' f h m p r v=>?_) λb a z=>by refine ac λ_ t=>?_;obtain⟨e,lo,e1⟩:=z;subst e e1;refine t ?_;exact .pure q);by_cases c:lo>=hi
   .rw[if_pos c];exact .pure (p c)
   .rw[if_neg c];refine .bind (hb (lo+(hi - lo) / 2) (qV (ad (Nat.le_of_lt (Nat.lt_of_not_le c))) (a3 lo hi (ig (Nat.lt_of_not_le c))) m) ?_);by_cases d:lo+(hi - lo) / 2<k
    .rw[decide_eq_true d];exact .pure (r (bR c) d)
    .rw[decide_eq_false d];exact .pure (v (bR c) d)
 .rw[decide_eq_false c]
  refine .bind (Wt.mono (Wt.range (G:=λb a=>a=st/\∃lo of:Nat,b=((b_,lo,of))/\k<=hint - lo/\lo<=hint/\lo<of/\(hint - of<k/\of<=hint\/hint+1<=of)) (λj b a=>a=st/\∃lo of:Nat,b=((b_,lo,of))/\k<=hint - lo/\lo<=hint/\lo<of/\j+1<=of)
   ⟨rfl,0,1,rfl,bS c,aT _,by simp,by decide⟩ (λj b a C z=>?_) λb a z=>by obtain⟨e,lo,of,e1,o,f,h,m⟩:=z;exact⟨e,lo,of,e1,o,f,h,.inr (cM hh m)⟩) λb a z=>?_)
  .obtain⟨e,lo,of,e1,o,f,h,m⟩:=z;subst e e1;by_cases d:of>=hint+1
   .rw[if_pos d];exact .pure ⟨rfl,lo,of,rfl,o,f,h,.inr d⟩
   .rw[if_neg d];refine .bind (hb (hint - of) (Mj hh) ?_);by_cases d':hint - of<k
    .rw[decide_eq_true d'];exact .pure ⟨rfl,lo,of,rfl,o,f,h,.inl ⟨d',bS d⟩⟩
    .rw[decide_eq_false d'];exact .pure ⟨rfl,of,_,rfl,bS d',bS d,G5,ig m⟩
  .obtain⟨e,lo,of,e1,o,f,h,m⟩:=z;subst e e1;refine .bind (Wt.mono (Fe (k:=k) (lo:=hint+1 - min of _) (by omega) (by omega) (aD (Mj hh)) λy lo hi G' f h m p r v=>?_) λb a z=>by obtain⟨e,lo,e1⟩:=z;subst e e1;exact .pure q);by_cases c:lo>=hi
   .rw[if_pos c];exact .pure (p c)
   .rw[if_neg c];refine .bind (hb (lo+(hi - lo) / 2) (qV (ad (Nat.le_of_lt (Nat.lt_of_not_le c))) (a3 lo hi (ig (Nat.lt_of_not_le c))) m) ?_);by_cases d:lo+(hi - lo) / 2<k
    .rw[decide_eq_true d];exact .pure (r (bR c) d)
    .rw[decide_eq_false d];exact .pure (v (Nat.lt_of_not_le c) d)
end
noncomputable def P1:Nat->StateT bM BO Unit:=sortPriv% PySem.Builtin.setMinGallop
section
variable{st:bM}{β:Type}{G:β->bM->Prop}
def Wt.Na{G:Unit->bM->Prop}(h:G () (lG (kindOf st) (arrOf st) (pendingOf st) g (failedOf st))):Wt P w A E s (P1 g) G st:=by
 unfold P1;walk_at "u setMinGallop";exact .modify h
def Wt.wy(Q:(StateT bM BO β->Prop)->Prop)(h1:Q λm=>Wt P w A E s m G st)(h2:(Q λm=>Wt P w A E s m G st)->Wt P w A E s m G st):Wt P w A E s m G st:=h2 h1
def Wt.W8{c:Prop}[Decidable c](h:c)(x:Wt P w A E s m G st):Wt P w A E s (if c then m else m') G st:=by rwa[if_pos h]
def Wt.EZ{c:Prop}[Decidable c](h:¬c)(x:Wt P w A E s m' G st):Wt P w A E s (if c then m else m') G st:=by rwa[if_neg h]
def Wt.ite{c:Prop}[Decidable c](x:c->Wt P w A E s m G st)(y:¬c->Wt P w A E s m' G st):Wt P w A E s (if c then m else m') G st:=by
 by_cases h:c
 .exact .W8 h (x h)
 .exact .EZ h (y h)
end
abbrev eB(lt:Nat->Nat->Bool)(l:List Nat):Prop:=l.Pairwise λx y=>lt x y=c_
section
variable{lt:Nat->Nat->Bool}{a b out:List Nat}{ia ib:Nat}
structure ML(lt:Nat->Nat->Bool)(a b out:List Nat)(ia ib:Nat):Prop where
 so:eB lt out
 LD:∀x∈out,∀y,y∈a.drop ia\/y∈b.drop ib->lt x y=c_
 pm:(out++(a.drop ia++b.drop ib)).Perm (a++b)
def ML.swap(h:ML lt a b out ia ib):ML lt b a out ib ia:=
 ⟨h.so,λx c y d=>h.LD x c y d.symm,((jE _ dG).trans h.pm).trans dG⟩
def ML.start:ML lt a b [] 0 0:=⟨.nil,λx c=>by simp at c,by simp⟩
def ML.pD(h:ML lt a b out ia ib)(B:eB lt b)(k:Nat)(hc:∀y∈(b.drop ib).take k,∀x∈a.drop ia,lt y x=c_):ML lt a b (out++(b.drop ib).take k) ia (ib+k):=by
 have e:b.drop ib=(b.drop ib).take k++b.drop (ib+k):=by rw[<-jO];exact(be k _).symm
 have f:eB lt (b.drop ib):=B.sublist (e8 _ _);rw[e]at f;refine⟨dT.mpr ⟨h.so,(dT.mp f).1,λx d y c=>h.LD x d y (.inr (cJ c))⟩,λx d y c=>?_,?_⟩
 .rcases ax.mp d with d|d
  .refine h.LD x d y (c.imp id λc=>?_);rw[e];exact ai _ c
  .rcases c with c|c
   .exact hc x d y c
   .exact (dT.mp f).2.2 x d y c
 .refine DX ?_ h.pm
  conv=>rhs;rw[e]
  rw[aH];refine jE _ ?_;rw[<-aH,<-aH];exact List.Perm.append_right _ dG
def ML.wI(h:ML lt a b out ia ib)(sa:eB lt a)(k:Nat)(hc:∀y∈(a.drop ia).take k,∀x∈b.drop ib,lt y x=c_):ML lt a b (out++(a.drop ia).take k) (ia+k) ib:=
 (h.swap.pD sa k hc).swap
def ML.fin(h:ML lt a b out ia ib)(sa:eB lt a)(hb:b.length<=ib):eB lt (out++a.drop ia++b.drop ib)/\(out++a.drop ia++b.drop ib).Perm (a++b):=by
 refine⟨?_,by rw[aH];exact h.pm⟩;rw[(jN hb),aE];exact dT.mpr ⟨h.so,sa.sublist (e8 _ _),λx c y d=>h.LD x c y (.inl d)⟩
def jy{l:List Nat}{i x:Nat}(h:l[i]?=a_ x):l.drop i=x::l.drop (i+1):=by
 rw[eF (aN.mp h).1,(aN.mp h).2]
def take_one{l:List Nat}{i x:Nat}(h:l[i]?=a_ x):(l.drop i).take 1=[x]:=by rw[jy h];rfl
def qK(o:Lt lt)(sl:eB lt l)(h:l[i]?=a_ x)(c:lt y x=c_):∀z∈l.drop i,lt y z=c_:=λz d=>by
 rw[jy h]at d;have e:=sl.sublist (e8 i _);rw[jy h]at e
 rcases aw.mp d with rfl|d
 .exact c
 .exact o.tr _ _ _ c ((eM.mp e).1 z d)
def ML.qL(h:ML lt a b out ia ib)(sa:eB lt a)(B:eB lt b)(hc:∀y∈b.drop ib,∀x∈a.drop ia,lt y x=c_):eB lt (out++b.drop ib++a.drop ia)/\(out++b.drop ib++a.drop ia).Perm (a++b):=by
 have q:=(h.pD B _ (λy c=>hc y (cJ c))).fin sa (iw _ _);rw[cG (by simp)]at q;rwa[(jN (iw _ _)),aE]at q
def lW:(Ar it l).push (it x)=Ar it (l++[x]):=by simp
def mG:Ar it l++(Ar it b).extract i j=Ar it (l++(b.drop i).take (j - i)):=by
 simp
def cu:(Ar it l).size=l.length:=by simp
def hJ{l:List Nat}:(l.drop i).take (l.length - i)=l.drop i:=cG (by simp)
def Ey(o:Lt lt)(sl:eB lt l)(y:Nat):∃k,k<=l.length/\∀i x,l[i]?=a_ x->lt x y=decide (i<k):=by
 induction l with
 |nil=>simp
 |cons a l e=>
   obtain⟨s1,s2⟩:=eM.mp sl;obtain⟨k,h1,h2⟩:=e s2
   cases c:lt a y with
   |true=>
     refine⟨k+1,by simpa using h1,λi x h=>?_⟩
     cases i with
     |zero=>cases h;rw[c];simp
     |succ i=>rw[h2 i x (by simpa using h)];simp
   |false=>
     refine⟨0,by simp,λi x h=>?_⟩
     cases i with
     |zero=>cases h;rw[c];simp
     |succ i=>
       cases d:lt x y with
       |false=>simp
       |true=>rw[o.tr _ _ _ (s1 x (aX (by simpa using h))) d]at c;cases c
section
def rT(o:Lt lt)(as:tG P w A s κ it lt N){l:List Nat}{base:Nat}(Y:base+n<=l.length)(sl:eB lt ((l.drop base).take n))(B:∀x∈(l.drop base).take n,x<N/\x≠y)(O:y<N) :
  ∃k,k<=n/\(∀z∈((l.drop base).take n).take k,lt z y=c_)/\(∀z∈((l.drop base).take n).drop k,lt y z=c_)/\
   ∀{E:aj->ak->Prop}(left:Bool)(hint:Nat){G:Option Nat->bM->Prop}{st:bM},kindOf st=κ->hint<n->G (a_ k) st->Wt P w A E s (yD left (it y) (Ar it l) base n hint) G st:=by
 generalize r:(l.drop _).take n=L at sl B;have d:L.length=n:=by grind
 have f:∀i,i<n->L[i]?=l[base+i]? :=λi hi=>by grind
 obtain⟨k,m,p⟩:=Ey o sl y;refine⟨k,aa m (ae d),λz h=>?_,λz h=>?_,λleft hint G st hk hh q=>?_⟩
 .obtain⟨i,hi⟩:=fV h;rw[c9]at hi
  grind
 .obtain⟨i,hi⟩:=fV h;rw[jm]at hi;refine o.co _ _ (B z (aX hi)).2 ?_;rw[p _ z hi,decide_eq_false (by simp)]
 .refine Hh (g:=λi=>L.getD i 0) as hk O (λi hi=>?_) (λi hi=>?_) (aa m (ae d)) hh q
  .have e:=af ((aa hi (ae d.symm)));refine⟨by rw[<-f i hi];simp[e],?_⟩;simpa [e]using ((B _ (aX e)).1)
  .have e:=af ((aa hi (ae d.symm)));have e3:L.getD i 0=L[i]:=by simp[e]
   rw[e3]
   cases left with
   |true=>exact (p i _ e)
   |false=>
     rw[<-(p i _ e)]
     cases c:lt _ y with
     |true=>rw[o.as _ _ c];rfl
     |false=>rw[o.co _ _ ((B _ (aX e)).2) c];rfl
end
end
section
variable{it:Nat->jk}{lt:Nat->Nat->Bool}
noncomputable abbrev ur(st:bM)(g:Nat):bM:=lG (kindOf st) (arrOf st) (pendingOf st) g (failedOf st)
def Res(it:Nat->jk)(lt:Nat->Nat->Bool)(l:List Nat)(r:Array jk):Prop:=∃R,r=Ar it R/\eB lt R/\R.Perm l
structure Yi(lt:Nat->Nat->Bool)(a b out:List Nat)(ia ib m:Nat):Prop where
 ml:ML lt a b out ia ib
 ha:ia+1<a.length
 hb:ib<b.length
 m:m<=ia+ib
def Wt.rg{τ τ' R β' γ:Type}{a b:Nat}{f:Nat->Option R×β'->StateT bM BO (ForInStep (Option R×β'))}{k:Option R×β'->StateT bM BO γ}{G:γ->bM->Prop}{Q:R->Prop}{t:τ->bM}{I':List Nat->Nat->Nat->Prop}{z:List Nat->Nat->Nat->τ->β'}{out:List Nat}{ia ib:Nat}{r:τ}(I:Nat->List Nat->Nat->Nat->Prop)(O:List Nat->Nat->Nat->τ'->β')(t':τ'->bM)(h0:I 0 out ia ib)(he:∀out ia ib,¬I (b - a) out ia ib)
  (Y:∀r x B,Q r->Wt P w A E s (k (a_ r,x)) G (t' B))(Z:∀out ia ib r,I' out ia ib->Wt P w A E s (k (b_,O out ia ib r)) G (t' r))
  (hb:∀j out ia ib r,j<b - a->I j out ia ib->Wt P w A E s (f (a+j) (b_,z out ia ib r)) (XO (λb st=>(∃r x B,b=(a_ r,x)/\st=t' B/\Q r)\/∃out ia ib r,b=(b_,O out ia ib r)/\st=t' r/\I' out ia ib) λb st=>∃out ia ib r,b=(b_,z out ia ib r)/\st=t r/\I (j+1) out ia ib) (t r)) :
  Wt P w A E s (forIn [a:b] (b_,z out ia ib r) f >>= k) G (t r):=
 .bind (Wt.mono (Wt.range (λj b st=>∃out ia ib r,b=(b_,z out ia ib r)/\st=t r/\I j out ia ib) ⟨_,ia,ib,r,rfl,rfl,h0⟩ (λj b st c q=>by refine ac λ_ d=>?_;obtain⟨_,_,_,_,rfl,rfl,h⟩:=q;refine d ?_;exact hb _ _ _ _ _ c h) λb st q=>by simp_all) λb st q=>by
  rcases q with⟨_,_,_,rfl,rfl,h⟩|⟨_,_,_,_,rfl,rfl,h⟩
  .exact Y _ _ _ h
  .exact Z _ _ _ _ h)
def C1{st:bM}{G:Array jk->bM->Prop}(o:Lt lt)(as:tG P w A s κ it lt N)(hk:kindOf st=κ)(na:∀x∈a,x<N)(nb:∀x∈b,x<N)(sa:eB lt a)(Y:eB lt b)(Fy:∀x∈a,x∉b)
  (h0:0<a.length)(O:b[0]?=a_ y0)(hf:∀x∈a,lt y0 x=c_)(hl:∀y∈b,∀x∈a.drop (a.length - 1),lt y x=c_)
  (q:∀r g,Res it lt (a++b) r->G r (ur st g)):Wt P w A E s (AA (Ar it a) (Ar it b)) G st:=by
 have W :=(aN.mp O).1
 have v:∀{out:List Nat}{ia ib:Nat},ML lt a b out ia ib->b.length<=ib->Res it lt (a++b) (Ar it out++(Ar it a).extract ia (Ar it a).size++(Ar it b).extract ib (Ar it b).size):=λh hb=>by
  obtain⟨F,I⟩:=h.fin sa hb;exact⟨_,by rw[mG,mG,cu,cu,hJ,hJ],F,I⟩
 have J:∀{out:List Nat}{ia ib:Nat},ML lt a b out ia ib->a.length<=ia->Res it lt (a++b) (Ar it out++(Ar it a).extract ia (Ar it a).size++(Ar it b).extract ib (Ar it b).size):=λ{out ia ib}h ha=>by
  obtain⟨F,I⟩:=h.swap.fin Y ha;have e :=jN ha;rw[e,aE]at F I;refine⟨out++b.drop ib,by rw[mG,mG,cu,cu,hJ,hJ,e,aE],F,I.trans dG⟩
 have qL:∀{out:List Nat}{ia ib:Nat},ML lt a b out ia ib->ia+1=a.length->Res it lt (a++b) (Ar it out++(Ar it b).extract ib (Ar it b).size++(Ar it a).extract ia (Ar it a).size):=λ{out ia ib}h ha=>by
  obtain⟨F,I⟩:=h.qL sa Y λy hy x M=>hl y (eV hy) x (by rw[show a.length - 1=ia from(aF (j8 (ws h0) (ae ha.symm)) (j8 (ae ha) (wt h0)))];exact M);exact⟨_,by rw[mG,mG,cu,cu,hJ,hJ],F,I⟩
 have C:∀{ib:Nat},ib<b.length->∃y,b[ib]?=a_ y/\y<N/\y∉a:=λ{ib}h=>⟨b[ib],af h,nb _ (br h),λz=>Fy _ z (br h)⟩
 have H:∀{ia:Nat},ia<a.length->∃x,a[ia]?=a_ x/\x<N/\x∉b:=λ{ia}h=>⟨a[ia],af h,na _ (br h),λz=>Fy _ (br h) z⟩
 have X:∀{ia ib x y:Nat},a[ia]?=a_ x->b[ib]?=a_ y->x≠y:=λh1 h2 e=>Fy _ (aX h1) (e▸aX h2)
 have tB:∀{out:List Nat}{ia ib x y:Nat},ML lt a b out ia ib->a[ia]?=a_ x->b[ib]?=a_ y->lt y x=c_->ML lt a b (out++[y]) ia (ib+1):=λ{out ia ib x y}h h1 h2 c=>by
  have:=h.pD Y 1 (λz p=>by rw[take_one h2,az]at p;subst p;exact qK o sa h1 c);rw[take_one h2]at this;exact this
 have tA:∀{out:List Nat}{ia ib x y:Nat},ML lt a b out ia ib->a[ia]?=a_ x->b[ib]?=a_ y->lt x y=c_->ML lt a b (out++[x]) (ia+1) ib:=λ{out ia ib x y}h h1 h2 c=>by
  have:=h.wI sa 1 (λz p=>by rw[take_one h1,az]at p;subst p;exact qK o Y h2 c);rw[take_one h1]at this;exact this
 unfold AA;walk_at "u mergeLo";refine .bind (.rule (.bind (.elem O ?_)))
 have m0:ML lt a b [y0] 0 1:=by
  have:=(ML.start ).pD Y 1 (λz p x M=>by rw[take_one O,az]at p;subst p;exact hf x M);rw[take_one O]at this;exact this
 refine .ite (λc=>.pure (q _ (gallopOf st) (v m0 (by have c:=beq_iff_eq.mp c;rw[cu]at c;exact ae c.symm)))) λc1=>?_;refine .ite (λc=>.pure (q _ (gallopOf st) (qL m0 (by have c:=beq_iff_eq.mp c;rw[cu]at c;omega)))) λc2=>?_;refine .bind (.get ?_);have b1:1<b.length:=by have c :=λe=>c1 (beq_iff_eq.mpr e);rw[cu]at c;exact bp W c
 have b2:0+1<a.length:=by have c :=λe=>c2 (beq_iff_eq.mpr e);rw[cu]at c;exact bp h0 c
 refine Wt.rg (I':=λ_ _ _=>False) (r:=(_,gallopOf st)) (t:=λr:Nat×Nat=>ur st r.2) (z:=λout ia ib r=>(Ar it out,ia,ib,r.1)) (λj out ia ib=>Yi lt a b out ia ib (j+1)) (λout ia ib r=>(Ar it out,ia,ib,r.1)) (λr:Nat×Nat=>ur st r.2) ⟨m0,b2,b1,cy⟩
  (λout ia ib f=>by have h1:=f.m;have h2:=f.ha;have h3:=f.hb;rw[cu,cu]at h1;exact Ts h3 (wT (a.length+b.length) 0) h1 h2) (λr _ g e=>.pure (q r g.2 e)) (λ_ _ _ _ h=>h.elim) λj out ia ib V hj f=>?_
 refine Wt.rg (I':=λout ia ib=>Yi lt a b out ia ib (j+1+1)) (r:=(0,0)) (t:=λ_:Nat×Nat=>ur st V.2) (z:=λout ia ib r=>(Ar it out,ia,ib,r.1,r.2)) (λi out ia ib=>Yi lt a b out ia ib (j+1+i)) (λout ia ib r=>(Ar it out,ia,ib,r.1,r.2)) (λ_:Nat×Nat=>ur st V.2) f
  (λout ia ib f=>by have h1:=f.m;have h2:=f.ha;have h3:=f.hb;rw[cu,cu]at h1;exact Ts h3 (wT (a.length+b.length) 0) h1 h2) (λr _ _ e=>.pure (.inl ⟨r,_,(0,V.2),rfl,rfl,e⟩)) (λout ia ib Z f=>?_) λi out ia ib Z hi f=>?_
 rotate_left
 .obtain⟨y,D,y2,y3⟩:=C f.hb;obtain⟨x,x1,x2,x3⟩:=H (aD f.ha);have B:=f.m;refine .bind (.elem D (.bind (.elem x1 (.bind (Wt.ask as hk y2 x2 ?_)))))
  cases c:lt y x with
  |true=>
    refine .bind (.elem D ?_);have m2:=tB f.ml x1 D c;rw[lW];refine .ite (λd=>.pure (.inl ⟨_,_,(0,0),rfl,rfl,v m2 (by simp_all)⟩)) λd=>?_;have d:ib+1<b.length:=by have c :=λe=>d (beq_iff_eq.mpr e);rw[cu]at c;have:=f.hb;exact bp this c
    exact .ite (λ_=>.pure (.inr ⟨_,ia,ib+1,(_,_),rfl,rfl,m2,f.ha,d,ig B⟩)) λ_=>.pure ⟨_,ia,ib+1,(_,_),rfl,rfl,m2,f.ha,d,aY B⟩
  |false=>
    refine .bind (.elem x1 ?_);have m2:=tA f.ml x1 D (o.co _ _ (X x1 D).symm c);rw[lW];refine .ite (λd=>.pure (.inl ⟨_,_,(0,0),rfl,rfl,qL m2 (by simp_all)⟩)) λd=>?_;have d:ia+1+1<a.length:=by have c :=λe=>d (beq_iff_eq.mpr e);rw[cu]at c;have:=f.ha;exact bp this c
    exact .ite (λ_=>.pure (.inr ⟨_,ia+1,ib,(_,_),rfl,rfl,m2,d,f.hb,ig B⟩)) λ_=>.pure ⟨_,ia+1,ib,(_,_),rfl,rfl,m2,d,f.hb,ig B⟩
 refine .bind (.rule (Wt.rg (r:=(_,Z.1,Z.2,V.2)) (t:=λr:Nat×Nat×Nat×Nat=>ur st r.2.2.2) (z:=λout ia ib r=>(Ar it out,ia,ib,r.1,r.2.1,r.2.2.1)) (λi out ia ib=>Yi lt a b out ia ib (j+1+1+i)) (λout ia ib r=>(Ar it out,ia,ib,r.1,r.2.1,r.2.2.1)) (λr:Nat×Nat×Nat×Nat=>ur st r.2.2.2) f
  (λout ia ib f=>by have h1:=f.m;have h2:=f.ha;have h3:=f.hb;rw[cu,cu]at h1;exact Ts h3 (wT (a.length+b.length) 0) h1 h2) (λr _ g e=>.pure (.inl ⟨r,_,(0,g.2.2.2),rfl,rfl,e⟩)) (λout ia ib r f=>.bind (.Na (.pure ⟨out,ia,ib,(_,_),rfl,rfl,f⟩))) λi out ia ib r2 hi f=>?_))
 extract_lets s1 o1 s2 ia1 s3 ib1 s4 mg1 s5 ac1 bc1 ib2 jp mg2
 refine Wt.wy (λR=>∀mg,R (jp () mg)) ?_ λh=>?_
 rotate_left
 .exact .ite (λ_=>h _) λ_=>h _
 intro mg;have B:=f.m;refine ac fun op_notN kq => ?_; obtain⟨y,D,y2,y3⟩:=C f.hb;obtain⟨k,k1,k2,Q,k4⟩:=rT o as (l:=a) (base:=ia) (n:=a.length - ia) (ig (wS a.length ia (ig f.ha))) (by rw[hJ];exact sa.sublist (e8 _ _)) (λx M=>by rw[hJ]at M;have:=eV M;exact⟨na x this,λe=>y3 (e▸this)⟩) y2;refine kq ?_; rw[hJ]at k2 Q;rw[<-cu ]at k4;refine .bind (.Na (.bind (.elem D (.bind (k4 d_ 0 hk (by rw[cu];have:=f.ha;exact j8 this (wT a.length ia)) ?_)))));have K :=f.ml.wI sa k λz p=>qK o Y D (k2 z p);rw[jO]at Q;dsimp -zeta -zetaHave only
 extract_lets +onlyGivenNames ac1 jp2
 refine Wt.wy (λR=>∀out ia,ML lt a b out ia ib->ia+1<a.length->(∀z∈a.drop ia,lt y z=c_)->j+1+1+i<=ia+ib->R (jp2 () (Ar it out) ia)) ?_ λh=>?_
 rotate_left
 .refine .ite (λ_=>?_) λc=>?_
  .rw[mG,(cY _ _)];refine .ite (λd=>.pure (.inl ⟨_,_,(0,0,0,_),rfl,rfl,qL K (by have d:=beq_iff_eq.mp d;rw[cu]at d;omega)⟩)) λd=>?_;refine .ite (λd=>.pure (.inl ⟨_,_,(0,0,0,_),rfl,rfl,J K (by have d:=beq_iff_eq.mp d;rw[cu]at d;exact ae d.symm)⟩)) λd'=>?_;have c1:¬ia+k+1=(Ar it a).size:=λe=>d (beq_iff_eq.mpr e);have c2:¬ia+k=(Ar it a).size:=λe=>d' (beq_iff_eq.mpr e);rw[cu]at c1 c2;exact h (out++(a.drop ia).take k) (ia+k) K (by omega) Q (ig B)
  .obtain rfl:k=0:=aF (bS c) (aT _);rw[jK,aE]at K;exact h out ia K f.ha Q B
 intro out ia K U Q B;obtain⟨x,x1,x2,x3⟩:=H ((aD U));have yx :=Q x (by rw[jy x1];simp);have m2:=tB K x1 D yx;refine .bind (.elem D ?_);rw[lW];refine .ite (λd=>.pure (.inl ⟨_,_,(0,0,0,_),rfl,rfl,v m2 (by simp_all)⟩)) λd=>?_;have d:ib+1<b.length:=by have c :=λe=>d (beq_iff_eq.mpr e);rw[cu]at c;have:=f.hb;exact bp this c
 refine ac fun op_notN kq => ?_; obtain⟨k',l1,l2,S,l4⟩:=rT o as (l:=b) (base:=ib+1) (n:=b.length - (ib+1)) (ig (ws (aD d))) (by rw[hJ];exact Y.sublist (e8 _ _)) (λz p=>by rw[hJ]at p;have:=eV p;exact⟨nb z this,λe=>x3 (e▸this)⟩) x2;refine kq ?_; rw[hJ]at l2 S;rw[<-cu ]at l4;refine .bind (.elem x1 (.bind (l4 c_ 0 hk (by rw[cu];exact j8 d (wt (aD d))) ?_)));have T :=m2.pD Y k' λz p=>qK o sa x1 (l2 z p);rw[jO]at S;dsimp -zeta -zetaHave only
 extract_lets +onlyGivenNames bc1 ia2 jp3
 refine Wt.wy (λR=>∀out ib',ML lt a b out ia ib'->ib'<b.length->(∀z∈b.drop ib',lt x z=c_)->j+1+1+i+1<=ia+ib'->R (jp3 () (Ar it out) ib')) ?_ λh=>?_
 rotate_left
 .refine .ite (λ_=>?_) λc=>?_
  .rw[mG,(cY _ _)];refine .ite (λd=>.pure (.inl ⟨_,_,(0,0,0,_),rfl,rfl,v T (by simp_all)⟩)) λd'=>?_;have c2:¬ib+1+k'=(Ar it b).size:=λe=>d' (beq_iff_eq.mpr e);rw[cu]at c2;exact h (out++[y]++(b.drop (ib+1)).take k') (ib+1+k') T (bp (j8 (ws (aD d)) l1) c2) S (ig B)
  .obtain rfl:k'=0:=aF (bS c) (aT _);rw[jK,aE]at T;exact h (out++[y]) (ib+1) T d S (aY B)
 intro out ib' T L S B;refine ac fun op_notN kq => ?_; obtain⟨z,F,I,z3⟩:=C L;refine kq ?_; have m3:=tA T x1 F (S z (by rw[jy F];simp));refine .bind (.elem x1 ?_);rw[lW];refine .ite (λd=>.pure (.inl ⟨_,_,(0,0,0,_),rfl,rfl,qL m3 (by simp_all)⟩)) λd=>?_;have d:ia+1+1<a.length:=by have c :=λe=>d (beq_iff_eq.mpr e);rw[cu]at c;exact bp U c
 exact .ite (λ_=>.pure (.inr ⟨_,ia+1,_,(_,_,_,_),rfl,rfl,m3,d,L,ig B⟩)) λ_=>.pure ⟨_,ia+1,_,(_,_,_,_),rfl,rfl,m3,d,L,ig B⟩
end
section
variable{lt:Nat->Nat->Bool}{a b out:List Nat}{na nb:Nat}
noncomputable abbrev Ug(lt:Nat->Nat->Bool):Nat->Nat->Bool:=λx y=>lt y x
def eB.rev(h:eB lt a):eB (Ug lt) a.reverse:=kh.mpr h
structure MH(lt:Nat->Nat->Bool)(a b out:List Nat)(na nb:Nat):Prop where
 ml:ML (Ug lt) a.reverse b.reverse out (a.length - na) (b.length - nb)
 la:na<=a.length
 lb:nb<=b.length
def MH.swap(h:MH lt a b out na nb):MH lt b a out nb na:=⟨h.ml.swap,h.lb,h.la⟩
def k8{l:List Nat}:l.reverse.drop (l.length - n)=(l.take n).reverse:=by rw[List.reverse_take]
def MH.pD(h:MH lt a b out na nb)(B:eB lt b)(ht:at_<=nb)(hc:∀y∈(b.drop at_).take (nb - at_),∀x∈a.take na,lt x y=c_):MH lt a b (out++((b.drop at_).take (nb - at_)).reverse) na at_:=by
 have hb:=h.lb
 have e:(b.reverse.drop (b.length - nb)).take (nb - at_)=((b.drop at_).take (nb - at_)).reverse:=by
  rw[k8,List.take_reverse,fI,dO hb,show nb - (nb - at_)=at_ by omega,wD]
 have:=h.ml.pD B.rev (nb - at_) (λy c x d=>by
  rw[k8]at d
  simp_all)
 rw[e,show b.length - nb+(nb - at_)=b.length - at_ from(aF (qV (ws hb) (ws ht) (wT b.length at_)) (qV (wS b.length at_ (j8 ht hb)) (wt hb) (wt ht)))]at this;exact⟨this,h.la,aa ht hb⟩
def MH.wI(h:MH lt a b out na nb)(sa:eB lt a)(ht:at_<=na)(hc:∀y∈(a.drop at_).take (na - at_),∀x∈b.take nb,lt x y=c_):MH lt a b (out++((a.drop at_).take (na - at_)).reverse) at_ nb:=
 (h.swap.pD sa ht hc).swap
def MH.fin(h:MH lt a b out na nb)(B:eB lt b)(O:na=0):eB lt (a.take na++b.take nb++out.reverse)/\(a.take na++b.take nb++out.reverse).Perm (a++b):=by
 obtain⟨c,d⟩:=h.ml.swap.fin B.rev (by simp_all)
 have e:(a.take na++b.take nb++out.reverse)=(out++b.reverse.drop (b.length - nb)++a.reverse.drop (a.length - na)).reverse:=by
  rw[k8,k8];simp
 rw[e];exact ⟨kh.mpr c,((fS _).trans d).trans (((fS b).append (fS a)).trans dG)⟩
def MH.qL(h:MH lt a b out na nb)(sa:eB lt a)(B:eB lt b)(hc:∀y∈a.take na,∀x∈b.take nb,lt x y=c_):eB lt (b.take nb++a.take na++out.reverse)/\(b.take nb++a.take na++out.reverse).Perm (a++b):=by
 obtain⟨c,d⟩:=h.ml.swap.qL B.rev sa.rev (λy f x g=>by
  rw[k8]at f g
  simp_all)
 have e:(b.take nb++a.take na++out.reverse)=(out++a.reverse.drop (a.length - na)++b.reverse.drop (b.length - nb)).reverse:=by
  rw[k8,k8];simp
 rw[e];exact ⟨kh.mpr c,((fS _).trans d).trans (((fS b).append (fS a)).trans dG)⟩
def k9{l:List Nat}{n x:Nat}(h:l[n]?=a_ x):(l.drop n).take (n+1 - n)=[x]:=by rw[(cY _ _)];exact take_one h
set_option tactic.hygienic true in
def qC(o:Lt lt)(sl:eB lt l)(h:l[n]?=a_ x)(c:lt x y=c_):∀z∈l.take (n+1),lt z y=c_:=λz f=>by
 obtain⟨i,hi⟩:=fV f;rw[c9]at hi;split at hi
 .rename_i d;by_cases e:i=n
  .grind
  .obtain⟨g,j⟩:=aN.mp hi;obtain⟨k,m⟩:=aN.mp h;have:=eE.mp sl i n g k (bp (ig d) e);rw[j,m]at this;exact o.tr _ _ _ this c
 .cases hi
def DP:(Ar it l).extract 0 i++(Ar it m).extract 0 j++(Ar it n).reverse=Ar it (l.take i++m.take j++n.reverse):=by
 simp[zm]
def FT:Ar it l++((Ar it b).extract i j).reverse=Ar it (l++((b.drop i).take (j - i)).reverse):=by
 simp
structure Pq(lt:Nat->Nat->Bool)(a b out:List Nat)(na nb m:Nat):Prop where
 mh:MH lt a b out na nb
 ha:0<na
 hb:1<nb
 m:m+na+nb<=a.length+b.length
end
section
def C2{st:bM}{G:Array jk->bM->Prop}(o:Lt lt)(as:tG P w A s κ it lt N)(hk:kindOf st=κ)(na:∀x∈a,x<N)(nb:∀x∈b,x<N)(sa:eB lt a)(O:eB lt b)(Fy:∀x∈a,x∉b)
  (hb0:0<b.length)(Z:a.length=n+1)(Y:a[n]?=a_ y0)(hf:∀x∈b,lt x y0=c_)(hl:∀y∈a,∀x∈b.take 1,lt x y=c_)
  (q:∀r g,Res it lt (a++b) r->G r (ur st g)):Wt P w A E s (AB (Ar it a) (Ar it b)) G st:=by
 have v:∀{out:List Nat}{ia ib:Nat},MH lt a b out ia ib->ia=0->Res it lt (a++b) ((Ar it a).extract 0 ia++(Ar it b).extract 0 ib++(Ar it out).reverse):=λh p=>by
  exact⟨_,DP,(h.fin O p).1,(h.fin O p).2⟩
 have K:∀{out:List Nat}{ia ib:Nat},MH lt a b out ia ib->ib=0->Res it lt (a++b) ((Ar it a).extract 0 ia++(Ar it b).extract 0 ib++(Ar it out).reverse):=λ{out ia ib}h p=>by
  obtain⟨H,T⟩:=h.swap.fin sa p;subst p;exact⟨a.take ia++out.reverse,by rw[DP,jK,aE],H,T.trans dG⟩
 have qL:∀{out:List Nat}{ia ib:Nat},MH lt a b out ia ib->ib=1->Res it lt (a++b) ((Ar it b).extract 0 ib++(Ar it a).extract 0 ia++(Ar it out).reverse):=λ{out ia ib}h p=>by
  subst p;obtain⟨H,T⟩:=h.qL sa O λy hy x hx=>hl y (cJ hy) x hx;exact⟨_,DP,H,T⟩
 have D:∀{ib:Nat},ib<b.length->∃y,b[ib]?=a_ y/\y<N/\y∉a:=λ{ib}h=>⟨b[ib],af h,nb _ (br h),λz=>Fy _ z (br h)⟩
 have I:∀{ia:Nat},ia<a.length->∃x,a[ia]?=a_ x/\x<N/\x∉b:=λ{ia}h=>⟨a[ia],af h,na _ (br h),λz=>Fy _ (br h) z⟩
 have nex:∀{ia ib x y:Nat},a[ia]?=a_ x->b[ib]?=a_ y->x≠y:=λh1 h2 e=>Fy _ (aX h1) (e▸aX h2)
 have tB:∀{out:List Nat}{ia ib x y:Nat},MH lt a b out (ia+1) (ib+1)->a[ia]?=a_ x->b[ib]?=a_ y->lt x y=c_->MH lt a b (out++[y]) (ia+1) ib:=λ{out ia ib x y}h h1 h2 c=>by
  have:=h.pD O (at_:=ib) (by simp) (λz p=>by rw[k9 h2,az]at p;subst p;exact qC o sa h1 c);rw[k9 h2]at this;exact this
 have tA:∀{out:List Nat}{ia ib x y:Nat},MH lt a b out (ia+1) (ib+1)->a[ia]?=a_ x->b[ib]?=a_ y->lt y x=c_->MH lt a b (out++[x]) ia (ib+1):=λ{out ia ib x y}h h1 h2 c=>by
  have:=h.wI sa (at_:=ia) (by simp) (λz p=>by rw[k9 h1,az]at p;subst p;exact qC o O h2 c);rw[k9 h1]at this;exact this
 have m0:MH lt a b [y0] n b.length:=by
  have h:MH lt a b [] (n+1) b.length:=⟨by rw[Z,fX,fX];exact ML.start,ae Z.symm,ao _⟩
  have:=h.wI sa (at_:=n) (by simp) (λz p x hx=>by rw[k9 Y,az]at p;simp_all);rw[k9 Y]at this;exact this
 have hsz:(Ar it a).size - 1=n:=by rw[cu];exact aF (j8 (wS a.length 1 (ig (ae Z.symm))) (ae Z)) (j8 (ae Z.symm) (wT a.length 1))
 unfold AB;walk_at "u mergeHi";rw[hsz];refine .bind (.rule (.bind (.elem Y ?_)));have L:MH lt a b [y0] n (Ar it b).size:=by rw[cu];exact m0
 refine .ite (λc=>.pure (q _ (gallopOf st) (v L (beq_iff_eq.mp c)))) λc1=>?_;refine .ite (λc=>.pure (q _ (gallopOf st) (qL L (beq_iff_eq.mp c)))) λc2=>?_;refine .bind (.get ?_);have b1:0<n:=by exact bV (λe=>c1 (beq_iff_eq.mpr e))
 refine Wt.rg (I':=λ_ _ _=>False) (r:=(_,gallopOf st)) (t:=λr:Nat×Nat=>ur st r.2) (z:=λout ia ib r=>(ia,ib,Ar it out,r.1)) (λj out ia ib=>Pq lt a b out ia ib (j+1)) (λout ia ib r=>(ia,ib,Ar it out,r.1)) (λr:Nat×Nat=>ur st r.2) ⟨L,b1,(by grind),by exact ig (ae Z.symm)⟩
  (λout ia ib f=>by have h1:=f.m;grind) (λr _ g e=>.pure (q r g.2 e)) (λ_ _ _ _ h=>h.elim) λj out ia ib r0 hj f=>?_
 refine Wt.rg (I':=λout ia ib=>Pq lt a b out ia ib (j+1+1)) (r:=(0,0)) (t:=λ_:Nat×Nat=>ur st r0.2) (z:=λout ia ib r=>(ia,ib,Ar it out,r.1,r.2)) (λi out ia ib=>Pq lt a b out ia ib (j+1+i)) (λout ia ib r=>(ia,ib,Ar it out,r.1,r.2)) (λ_:Nat×Nat=>ur st r0.2) f
  (λout ia ib f=>by have h1:=f.m;exact Tv h1 (wT (a.length+b.length) 0)) (λr _ _ e=>.pure (.inl ⟨r,_,(0,r0.2),rfl,rfl,e⟩)) (λout ia ib r1 f=>?_) λi out ia ib r1 hi f=>?_
 rotate_left
 .have C:=f.m;refine ac λ_ l=>?_;obtain⟨ia,rfl⟩:∃k,ia=k+1:=⟨ia - 1,tM (me f.ha)⟩
  obtain⟨ib,rfl⟩:∃k,ib=k+1:=⟨ib - 1,by have:=f.hb;exact aF (ig (wt (aD this))) (ig (ws (aD this)))⟩
  obtain⟨y,F,y2,y3⟩:=D (f.mh.lb);obtain⟨x,x1,x2,x3⟩:=I (f.mh.la);refine l ?_;refine .bind (.elem F (.bind (.elem x1 (.bind (Wt.ask as hk y2 x2 ?_)))))
  cases c:lt y x with
  |true=>
    refine .bind (.elem x1 ?_);have m2:=tA f.mh x1 F c;rw[lW];refine .ite (λd=>.pure (.inl ⟨_,_,(0,0),rfl,rfl,v m2 (beq_iff_eq.mp d)⟩)) λd=>?_;have d:0<ia:=by exact bV (λe=>d (beq_iff_eq.mpr e))
    exact .ite (λ_=>.pure (.inr ⟨_,ia,ib+1,(_,_),rfl,rfl,m2,d,f.hb,ig C⟩)) λ_=>.pure ⟨_,ia,ib+1,(_,_),rfl,rfl,m2,d,f.hb,ig C⟩
  |false=>
    refine .bind (.elem F ?_);have m2:=tB f.mh x1 F (o.co _ _ (nex x1 F).symm c);rw[lW];refine .ite (λd=>.pure (.inl ⟨_,_,(0,0),rfl,rfl,qL m2 (beq_iff_eq.mp d)⟩)) λd=>?_;have d:1<ib:=by have c:=λe=>d (beq_iff_eq.mpr e);exact bp (ig f.hb) (cj c)
    exact .ite (λ_=>.pure (.inr ⟨_,ia+1,ib,(_,_),rfl,rfl,m2,f.ha,d,ig C⟩)) λ_=>.pure ⟨_,ia+1,ib,(_,_),rfl,rfl,m2,f.ha,d,ig C⟩
 refine .bind (.rule (Wt.rg (r:=(_,r1.1,r1.2,r0.2)) (t:=λr:Nat×Nat×Nat×Nat=>ur st r.2.2.2) (z:=λout ia ib r=>(ia,ib,Ar it out,r.1,r.2.1,r.2.2.1)) (λi out ia ib=>Pq lt a b out ia ib (j+1+1+i)) (λout ia ib r=>(ia,ib,Ar it out,r.1,r.2.1,r.2.2.1)) (λr:Nat×Nat×Nat×Nat=>ur st r.2.2.2) f
  (λout ia ib f=>by have h1:=f.m;exact Tv h1 (wT (a.length+b.length) 0)) (λr _ g e=>.pure (.inl ⟨r,_,(0,g.2.2.2),rfl,rfl,e⟩)) (λout ia ib r f=>.bind (.Na (.pure ⟨out,ia,ib,(_,_),rfl,rfl,f⟩))) λi out ia ib r2 hi f=>?_))
 extract_lets s1 o1 s2 ia1 s3 ib1 s4 mg1 s5 U V ib2 jp mg2
 subst s1 o1 s2 ia1 s3 ib1 s4 mg1 s5 U V ib2 mg2;refine Wt.wy (λR=>∀mg,R (jp () mg)) ?_ λh=>?_
 rotate_left
 .exact .ite (λ_=>h _) λ_=>h _
 intro mg;have C:=f.m;have la:=f.mh.la;have lb:=f.mh.lb;have Q:=f.ha;obtain⟨ib,rfl⟩:∃k,ib=k+1:=⟨ib - 1,by have:=f.hb;exact aF (ig (wt (aD this))) (ig (ws (aD this)))⟩
 obtain⟨y,F,y2,y3⟩:=D (lb);obtain⟨k,k1,W,k3,k4⟩:=rT o as (f7 la (aT _)) (by exact sa.sublist (iG _ _)) (λx hx=>by have:=cJ hx;exact⟨na x this,λe=>y3 (e▸this)⟩) y2;rw[wD]at k3;rw[jL,dO k1]at W;refine .bind (.Na (.bind (.elem F (.bind (k4 d_ (ia - 1) hk (f7 Q (ao _)) ?_)))));have S :=f.mh.wI sa k1 λz p=>qC o O F (k3 z p);dsimp -zeta -zetaHave only
 extract_lets +onlyGivenNames ka U jp2
 refine Wt.wy (λR=>∀out ia,MH lt a b out ia (ib+1)->0<ia->(∀z∈a.take ia,lt z y=c_)->j+1+1+i+ia+(ib+1)<=a.length+b.length->R (jp2 () ia (Ar it out))) ?_ λh=>?_
 rotate_left
 .refine .ite (λ_=>?_) λc=>?_
  .rw[FT];refine .ite (λd=>.pure (.inl ⟨_,_,(0,0,0,_),rfl,rfl,v S (beq_iff_eq.mp d)⟩)) λd=>?_;exact h (out++((a.drop k).take (ia - k)).reverse) k S (bV (λe=>d (beq_iff_eq.mpr e))) W (j8 C k1)
  .obtain rfl:k=ia:=by omega
   rw[fX,jK,LV,aE]at S;exact h out k S f.ha W C
 intro out ia S Q W C;obtain⟨ia,rfl⟩:∃k,ia=k+1:=⟨ia - 1,tM (me Q)⟩
 obtain⟨x,x1,x2,x3⟩:=I (S.la);have m2:=tB S x1 F (W x (aX (by rw[c9,if_pos (kG _)];exact x1)));refine .bind (.elem F ?_);rw[lW];refine .ite (λd=>.pure (.inl ⟨_,_,(0,0,0,_),rfl,rfl,qL m2 (beq_iff_eq.mp d)⟩)) λd=>?_;have d:1<ib:=by have c:=λe=>d (beq_iff_eq.mpr e);exact bp (ig f.hb) (cj c)
 refine ac λ_ l=>?_;obtain⟨k',l1,X,l3,l4⟩:=rT o as  (base:=0) (n:=ib) (ig lb) (by exact O.sublist (iG _ _)) (λz p=>by have:=cJ p;exact⟨nb z this,λe=>x3 (e▸this)⟩) x2;refine l ?_;rw[wD]at l3;rw[jL,dO l1]at X;refine .bind (.elem x1 (.bind (l4 c_ (ib - 1) hk (ig (ws (aD d))) ?_)));have J :=m2.pD O l1 λz p=>qC o sa x1 (l3 z p);dsimp -zeta -zetaHave only
 extract_lets +onlyGivenNames kb V ia2 jp3
 refine Wt.wy (λR=>∀out ib',MH lt a b out (ia+1) ib'->1<ib'->(∀z∈b.take ib',lt z x=c_)->j+1+1+i+1+(ia+1)+ib'<=a.length+b.length->R (jp3 () ib' (Ar it out))) ?_ λh=>?_
 rotate_left
 .refine .ite (λ_=>?_) λc=>?_
  .rw[FT];refine .ite (λd=>.pure (.inl ⟨_,_,(0,0,0,_),rfl,rfl,qL J (beq_iff_eq.mp d)⟩)) λd=>?_;refine .ite (λd=>.pure (.inl ⟨_,_,(0,0,0,_),rfl,rfl,K J (beq_iff_eq.mp d)⟩)) λd'=>?_;have c1:=λe=>d (beq_iff_eq.mpr e);have c2:=λe=>d' (beq_iff_eq.mpr e);exact h (out++[y]++((b.drop k').take _).reverse) k' J (bp (ig (bV c2)) (cj c1)) X (j8 C l1)
  .obtain rfl:k'=ib:=by omega
   rw[fX,jK,LV,aE]at J;exact h _ k' J d X (ig C)
 intro out ib' J B X C;refine ac λ_ l=>?_;obtain⟨ib',rfl⟩:∃k,ib'=k+1:=⟨ib' - 1,aF (ig (wt (aD B))) (ig (ws (aD B)))⟩
 obtain⟨z,H,T,z3⟩:=D (J.lb);refine l ?_;have m3:=tA J x1 H (X z (aX (by rw[c9,if_pos (kG _)];exact H)));refine .bind (.elem x1 ?_);rw[lW];refine .ite (λd=>.pure (.inl ⟨_,_,(0,0,0,_),rfl,rfl,v m3 (beq_iff_eq.mp d)⟩)) λd=>?_;have d:0<ia:=by exact bV (λe=>d (beq_iff_eq.mpr e))
 exact .ite (λ_=>.pure (.inr ⟨_,ia,_,(_,_,_,_),rfl,rfl,m3,d,B,ig C⟩)) λ_=>.pure ⟨_,ia,_,(_,_,_,_),rfl,rfl,m3,d,B,ig C⟩
end
abbrev pE(κ:pq)(it:Nat->jk)(l:List Nat)(B:List (Nat×Nat×Nat))(g:Nat):bM:=lG κ (Ar it l) B.toArray g b_
section
theorem Al:∀(R B u v:List Nat)(c n:Nat),B.length=R.length->c+n=u.length->((R.map it).zipIdx n).foldl (λ(a:Array jk)(x:jk×Nat)=>a.setIfInBounds (c+x.2) x.1) (Ar it (u++B++v))=Ar it (u++R++v)
 |[],[],u,v,c,n,_,_=>rfl
 |r::R,p::B,u,v,c,n,hl,hc=>by
   rw[aB,tK,Mr]
   have e:(Ar it (u++(p::B)++v)).setIfInBounds (c+n) (it r)=Ar it ((u++[r])++B++v):=by
    simp_all
   rw[e,Al R B _ v c _ (by simpa using hl) (by simp;grind)];simp
def mQ(ha:eB lt a)(hb:eB lt b)(h:∀x∈a,∀y∈b,lt x y=c_):eB lt (a++b):=dT.mpr ⟨ha,hb,h⟩
def C3{pre:List Nat}{G:Bool->bM->Prop}(o:Lt lt)(as:tG P w A s κ it lt N)(sB:eB lt B)(Z:eB lt C)(nB:0<B.length)(nC:0<C.length)(lB:∀x∈B,x<N)(lC:∀x∈C,x<N)(Fy:∀x∈B,x∉C)
  (q:∀M g,eB lt M->M.Perm (B++C)->G c_ (pE κ it (pre++M++post) (O++(pre.length,B.length+C.length,pw)::Y) g)) :
  Wt P w A E s (mergeAt' O.length) G (pE κ it (pre++(B++C)++post) (O++(pre.length,B.length,pw)::(pre.length+B.length,C.length,pw')::Y) g):=by
 generalize D:pre++(B++C)++post=L;have K:∃y,C[0]?=a_ y:=⟨C[0],af nC⟩
 refine ac fun op_notN kq => ?_; obtain⟨y,K⟩:=K;have H:∃x,B[B.length - 1]?=a_ x:=⟨_,af (f7 nB (ao _))⟩
 obtain⟨x,H⟩:=H;have yC:=aX K;have xB:=aX H;have I:(L.drop pre.length).take B.length=B:=by rw[<-D,aH,iY,aH,lQ]
 have xV:(L.drop (pre.length+B.length)).take C.length=C:=by
  rw[<-D,<-jO,aH,iY,aH,iY,lQ]
 have Q:pre.length+B.length+C.length<=L.length:=by rw[<-D];exact G5
 have gy:L[pre.length+B.length]?=a_ y:=by
  rw[<-D,aH,aJ (aV _ _),aH,aJ (by simp),aQ (by omega)];rw[(Nat.sub_eq_zero_of_le (ae (cY _ _)))];exact K
 have gx:L[pre.length+B.length - 1]?=a_ x:=by
  rw[<-D,aH,aJ (Ge (lH nB _)),aH,aQ (by omega)];rw[show pre.length+B.length - 1 - pre.length=B.length - 1 by omega];exact H
 obtain⟨k,J,k2,k3,k4⟩:=rT o as (aa (aV _ _) Q) (by rw[I];exact sB) (λz d=>by rw[I]at d;exact⟨lB z d,λe=>Fy z d (e▸yC)⟩) (lC y yC);obtain⟨m,m1,m2,m3,m4⟩:=rT o as (by omega) (by rw[xV];exact Z) (λz d=>by rw[xV]at d;exact⟨lC z d,λe=>Fy x xB (e▸d)⟩) (lB x xB);refine kq ?_; rw[I]at k2 k3;rw[xV]at m2 m3
 have p:∀z∈C,z=y\/lt y z=c_:=λz d=>by
  have e:=jy K;rw[PF]at e;rw[e]at d Z
  rcases aw.mp d with h|h
  .exact .inl h
  .exact .inr ((eM.mp Z).1 z h)
 have S:∀z∈B,z=x\/lt z x=c_:=λz d=>by
  obtain⟨i,hi⟩:=fV d;obtain⟨O,Y⟩:=aN.mp hi;by_cases e:i=B.length - 1
  .subst e;rw[H]at hi;cases hi;exact .inl rfl
  .have:=eE.mp sB i (B.length - 1) O (aN.mp H).1 (bp (j8 O (wt nB)) e);rw[Y,(aN.mp H).2]at this;exact .inr this
 have low:∀u,(∀z∈C,z=y\/lt y z=c_)->lt u y=c_->∀z∈C,lt u z=c_:=λu _ h z d=>by
  rcases p z d with rfl|h'
  .exact h
  .exact o.tr _ _ _ h h'
 have high:∀u,lt x u=c_->∀z∈B,lt z u=c_:=λu h z d=>by
  rcases S z d with rfl|h'
  .exact h
  .exact o.tr _ _ _ h' h
 unfold mergeAt';walk_at "u mergeAt";refine .bind (.get ?_)
 have e1:(pendingOf (pE κ it L (O++(pre.length,B.length,pw)::(pre.length+B.length,C.length,pw')::Y) g))[O.length]?=a_ (pre.length,B.length,pw):=by
  rw[ki,aJ (ao _),fX];rfl
 have e2:(pendingOf (pE κ it L (O++(pre.length,B.length,pw)::(pre.length+B.length,C.length,pw')::Y) g))[O.length+1]?=a_ (pre.length+B.length,C.length,pw'):=by
  rw[ki,aJ (by simp),(cY _ _)];rfl
 rw[e1,e2]
 have e3:((pendingOf (pE κ it L (O++(pre.length,B.length,pw)::(pre.length+B.length,C.length,pw')::Y) g)).setIfInBounds O.length (pre.length,B.length+C.length,pw)).eraseIdxIfInBounds (O.length+1)=(O++(pre.length,B.length+C.length,pw)::Y).toArray:=by
  rw[List.setIfInBounds_toArray,List.set_append_right (h:=ao _),fX];unfold Array.eraseIdxIfInBounds;rw[dif_pos (by simp)];rw[List.eraseIdx_toArray,List.eraseIdx_append_of_length_le (by simp),(cY _ _)];rfl
 refine .bind (.set ?_);rw[e3];refine .bind (.elem gy (.bind (k4 d_ 0 rfl nB ?_)));refine .ite (λc=>?_) λc=>?_
 .refine .pure ?_;rw[<-D];refine q (B++C) g (mQ sB Z λu n=>low u p (k2 u ?_)) (.refl _);rw[cG (j8 (wt J) (ae (beq_iff_eq.mp c)))];exact n
 have c:=λe=>c (beq_iff_eq.mpr e);refine .bind (.elem (by rw[show pre.length+k+(B.length - k) - 1=pre.length+B.length - 1 from(aF (qV (wS (pre.length+k+(B.length - k)) 1 (ig (bV c))) (wT (pre.length+B.length) 1) (ws J)) (qV (wS (pre.length+B.length) 1 (ig nB)) (wT (pre.length+k+(B.length - k)) 1) (wt J)))];exact gx) (.bind (m4 c_ (C.length - 1) rfl (f7 nC (ao _)) ?_)));refine .ite (λc=>?_) λc'=>?_
 .have c :=beq_iff_eq.mp c;subst c;refine .pure ?_;rw[<-D];exact q (B++C) g (mQ sB Z λu n z d=>high z (m3 z d) u n) (.refl _)
 have c':0<m:=by exact bV (λe=>c' (beq_iff_eq.mpr e))
 have ex:(Ar it L).extract (pre.length+k) (pre.length+B.length)=Ar it (B.drop k):=by
  have:(L.drop (pre.length+k)).take (pre.length+B.length - (pre.length+k))=B.drop k:=by
   rw[<-D,<-jO,aH,iY,aH,ua J,show pre.length+B.length - (pre.length+k)=(B.drop k).length by simp;omega,lQ]
  have h:=mG (it:=it) (l:=[]) (b:=L) (i:=pre.length+k) (j:=pre.length+B.length);rw[this]at h;simpa using h
 have ey:(Ar it L).extract (pre.length+B.length) (pre.length+B.length+m)=Ar it (C.take m):=by
  have:(L.drop (pre.length+B.length)).take (pre.length+B.length+m - (pre.length+B.length))=C.take m:=by
   rw[<-D,<-jO,aH,iY,aH,iY,(cY _ _),t8 m1]
  have h:=mG (it:=it) (l:=[]) (b:=L) (i:=pre.length+B.length) (j:=pre.length+B.length+m);rw[this]at h;simpa using h
 have T:eB lt (B.drop k):=sB.sublist (e8 _ _);have U:eB lt (C.take m):=Z.sublist (iG _ _)
 have fin:∀r g',Res it lt (B.drop k++C.take m) r->G c_ (lG κ (r.toList.zipIdx.foldl (λ(a)(x)=>a.setIfInBounds (pre.length+k+x.2) x.1) (Ar it L)) (O++(pre.length,B.length+C.length,pw)::Y).toArray g' b_):=by
  rintro r g' ⟨R,rfl,sR,pR⟩
  have hLs:L=(pre++B.take k)++(B.drop k++C.take m)++(C.drop m++post):=by
   rw[<-D]
   conv=>lhs;rw[<-be k B,<-be m C]
   grind
  rw[hLs,(Al (it:=it) R _ _ _ _ 0 pR.length_eq.symm (by simp;exact tM (dO J)))];have:=q (B.take k++R++C.drop m) g' ?_ ?_
  .simpa only[aH]using this
  .refine mQ (mQ (sB.sublist (iG _ _)) sR λu n z d=>?_) (Z.sublist (e8 _ _)) λu n z d=>?_
   .rcases ax.mp (pR.mem_iff.mp d)with h|h
    .have:=sB;rw[<-be k B]at this;exact(dT.mp this).2.2 u n z h
    .exact low u p (k2 u n) z (cJ h)
   .have V:=m3 z d
    rcases ax.mp n with h|h
    .exact high z V u (cJ h)
    .rcases ax.mp (pR.mem_iff.mp h)with h|h
     .exact high z V u (eV h)
     .have:=Z;rw[<-be m C]at this;exact(dT.mp this).2.2 u h z d
  .conv=>rhs;rw[<-be k B,<-be m C]
   simpa only[aH]using ((pR.append_left _).append_right _)
 have W:∀x∈B.drop k,x<N:=λz h=>lB z (eV h);have X:∀x∈C.take m,x<N:=λz h=>lC z (cJ h);have F:∀x∈B.drop k,x∉C.take m:=λz h h'=>Fy z (eV h) (cJ h');have t:(B.drop k).length=B.length - k:=by simp
 have hlC:(C.take m).length=m:=by simp;exact dO m1
 have v:(B.drop k)[B.length - k - 1]?=a_ x:=by rw[jm,show k+(B.length - k - 1)=B.length - 1 from(aF (qV (ws J) (ws (bV c)) (wt nB)) (qV (ws nB) (wt J) (wt (bV c))))];exact H
 have f:(C.take m)[0]?=a_ y:=by rw[c9,if_pos c'];exact K
 extract_lets +onlyGivenNames lx ly jp
 subst lx ly
 have h:∀r g',Res it lt (B.drop k++C.take m) r->Wt P w A E s (jp r) G (lG κ (Ar it L) (O++(pre.length,B.length+C.length,pw)::Y).toArray g' b_):=by
  intro r g' hr;exact .bind (.modify (.bind (.get (.pure (fin r g' hr)))))
 refine .ite (λ_=>?_) λ_=>?_
 .refine .bind ?_;rw[ex,ey];refine C1 o as rfl W X T U F (aa (bV c) (ae t.symm)) f k3 (λz d u n=>?_) λr g' hr=>h r g' hr;rw[t,jy v]at n;rw[(jN (j8 (ae t) (wt (bV c)))),az]at n
  grind
 .refine .bind ?_;rw[ex,ey];refine C2 o as rfl W X T U F (aa c' (ae hlC.symm)) (aF (j8 (ae t) (wt (bV c))) (j8 (ws (bV c)) (ae t.symm))) v m2 (λz d u n=>?_) λr g' hr=>h r g' hr;have e:=take_one f
  simp_all
end
section
def Wt.WV{G:Option Bool->bM->Prop}(as:tG P w A s κ it lt N)(B:l[i]?=a_ x)(O:l[j]?=a_ y)(nx:x<N)(Y:y<N)(h:G (a_ (lt x y)) (pE κ it l pd g)):Wt P w A E s (ltAt' i j) G (pE κ it l pd g):=by
 exact .bind (.get (.bind (.elem B (.bind (.elem O (Wt.ask as rfl nx Y h))))))
set_option tactic.hygienic true
def Az(pre X Y:List Nat):mirror (Ar it (pre++X++Y)) pre.length (pre.length+X.length) ((pre.length+X.length - pre.length) / 2)=Ar it (pre++X.reverse++Y):=by
 apply qi;intro k;rw[getElem?_mirror_all (by simp)];simp only[ki,aO];split
 .rename_i h;rw[aH,aH,aJ (by omega),aQ (by omega),aJ (h.1),aQ (by simp;exact j8 (ws h.1) h.2),List.getElem?_reverse (j8 (ws h.1) h.2)]
  congr 2;omega
 grind
def BB(p V Y:List Nat)(x:Nat):bubble (Ar it (p++(V++x::Y))) (p.length+V.length) V.length=Ar it (p++(x::V++Y)):=by
 apply qi;intro k;rw[getElem?_bubble (by rw[cu];simp) _ (iw _ _)];simp only[ki,aO];by_cases c:k<p.length
 .rw[if_neg (λz=>(Tu c (wT (p.length+V.length) V.length) (ae z.symm))),if_neg (λz=>(Tu z.1 c (wT (p.length+V.length) V.length))),aQ c,aQ c]
 .obtain⟨m,rfl⟩:∃m,k=p.length+m:=⟨_,tM (fZ (bS c))⟩
  clear c;have ap:∀(Z:List _)(i:Nat),(p++Z)[p.length+i]?=Z[i]? :=λZ i=>by rw[aJ (aV _ _),cY]
  rw[ap _ m,ap,ap];split
  .simp_all
  cases m with
  |zero=>simp_all
  |succ m=>
    split
    .rename_i h h';have a :=zl h'.2;rw[show p.length+(m+1) - 1=p.length+m from rfl,ap,aQ a,nP,eZ,aQ a]
    .rename_i h h';have a:V.length<=m:=by omega
     rw[aJ (c5 a),nP,eZ,aJ a,Nat.succ_sub a,eZ]
set_option tactic.hygienic false
def rA(o:Lt lt){l:List Nat}(h:eB lt (l.take (n+1)))(O:l[n]?=a_ u)(B:l[n+1]?=a_ v)(c:lt u v=c_):eB lt (l.take (n+1+1)):=by
 rw[List.take_succ,B];refine mQ h (nO _ _) λz b y a=>?_;have a:y=v:=by simpa using a
 subst a;have:=qC o h (n:=n) (by grind) c z;rw[jL,Nat.min_self]at this;exact this b
abbrev ASt:=Option (Option Nat)×Nat
def Eh{rest:List Nat}{st:bM}(o:Lt lt)(nd:rest.Nodup)(ha:1<=a)(hb:a<=rest.length)(h:eB lt (rest.take a))
  (hf:∀x n u v(G':ForInStep ASt->bM->Prop),rest[n]?=a_ u->rest[n+1]?=a_ v->(lt v u=c_->G' (.done (b_,n+1)) st)->(lt v u=d_->G' (.yield (b_,n+1+1)) st)->Wt P w A E s (f x (b_,n+1)) G' st) :
  Wt P w A E s (forIn [a:rest.length] ((b_,a):ASt) f) (λb B=>B=st/\∃n,b=(b_,n)/\a<=n/\n<=rest.length/\eB lt (rest.take n)/\∀k u v,n=k+1->rest[k]?=a_ u->rest[k+1]?=a_ v->lt v u=c_) st:=by
 refine Wt.range (λj b B=>B=st/\b=(b_,a+j)/\eB lt (rest.take (a+j))) ⟨rfl,rfl,h⟩ (λj b B g z=>?_) λb B z=>⟨z.1,_,z.2.1,aV _ _,ae (fZ hb),z.2.2,λk u v hk _ i=>by simp_all⟩
 obtain⟨e,e1,l⟩:=z;subst e e1;obtain⟨n,d⟩:∃n,a+j=n+1:=⟨a+j - 1,aF (ig (wT _ 1)) (ig (wS (a+j) 1 (ig ha)))⟩
 rw[d]at l ⊢;have m:=af (show n<rest.length from(qV (ae d.symm) (ws hb) g));have i:=af (show n+1<rest.length from(qV (ae d.symm) g (ws hb)))
 refine hf _ n _ _ _ m i (λc=>⟨rfl,_,rfl,aa (aV _ _) (ae d),qV (ae d.symm) (ws hb) g,l,λk u v hk p q=>by
  obtain rfl:n=k:=Nat.add_right_cancel hk
  simp_all⟩) λc=>⟨rfl,by rw[show a+(j+1)=n+1+1 from(aF (aY (ae d)) (aY (ae d.symm)))],?_⟩
 rw[show a+(j+1)=n+1+1 from(aF (aY (ae d)) (aY (ae d.symm)))];refine rA o l m i (o.co _ _ (λe=>?_) c);have:=(jM (qV (ae d.symm) g (ws hb)) nd).mp (i.trans (by rw[e];exact m.symm))
 grind
def tQ{pre rest:List Nat}:(pre++rest)[pre.length+n]?=rest[n]? :=by rw[aJ (aV _ _)];simp
def Bo{pre rest:List Nat}{G:Option Nat->bM->Prop}(o:Lt lt)(as:tG P w A s κ it lt N)(Y:0<rest.length)(O:∀x∈rest,x<N)(nd:rest.Nodup)
  (q:∀n rest',1<=n->n<=rest.length->rest'.Perm rest->eB lt (rest'.take n)->G (a_ n) (pE κ it (pre++rest') pd g)):Wt P w A E s (countRun' pre.length rest.length) G (pE κ it (pre++rest) pd g):=by
 have ask:∀{rest':List Nat}{i j x y:Nat}{G':Option Bool->bM->Prop},rest'.Perm rest->rest'[i]?=a_ x->rest'[j]?=a_ y->G' (a_ (lt x y)) (pE κ it (pre++rest') pd g)->Wt P w A E s (ltAt' (pre.length+i) (pre.length+j)) G' (pE κ it (pre++rest') pd g):=λhp J K h=>
  Wt.WV as (tQ.trans J) (tQ.trans K) (O _ (hp.mem_iff.mp (aX J))) (O _ (hp.mem_iff.mp (aX K))) h
 unfold countRun';walk_at "u countRun"
 refine .bind (Wt.mono (Eh o nd (ao 1) Y (by
  cases rest with
  |nil=>exact .nil
  |cons z r=>exact nO _ _) λx n u v G' f l C D=>?_) λb d z=>?_)
 .refine .bind (ask (.refl _) l f ?_)
  cases c:lt v u with
  |true=>exact .pure (C c)
  |false=>exact .pure (D c)
 obtain⟨e,n,e1,h1,h2,B,hs⟩:=z;subst e e1;refine .ite (λc=>.pure (q n rest h1 h2 (.refl _) B)) λc=>?_;have c:n<rest.length:=by exact bp h2 (λe=>c (beq_iff_eq.mpr e))
 extract_lets +onlyGivenNames T U L
 refine Wt.wy (λR=>n=1->R (L ())) ?_ λh=>?_
 rotate_left
 .refine .ite (λc1=>?_) λc1=>h (by exact aF (bS c1) h1);obtain⟨k,rfl⟩:∃k,n=k+1:=⟨n - 1,tM (me h1)⟩
  refine .bind (ask (i:=0) (.refl _) (af (show 0<rest.length by omega)) (af (h2)) ?_)
  have:lt rest[0] rest[k]=c_:=by
   have:=eE.mp B 0 k (by exact ig (a0 (k + 1) rest.length (ig c))) (by simp;exact ig (a0 (k + 1) rest.length (ig c))) (a7 c1);simpa using this
  rw[this];exact .pure (q _ _ h1 h2 (.refl _) B)
 rintro rfl;have l:=af (by omega);have f:=af (show 0<rest.length by omega);have o':Lt (Ug lt):=⟨λi j k a b=>o.tr _ _ _ b a,λi j a b=>o.co _ _ (cj a) b,λi j a=>o.as _ _ a⟩
 have M:eB (Ug lt) (rest.take 2):=by
  refine rA o' ?_ f l (hs 0 _ _ rfl f l)
  cases rest with
  |nil=>exact .nil
  |cons z r=>exact nO _ _
 refine .bind (.rule (.bind (Wt.mono (Wt.range (G:=λ(b)d=>d=pE κ it _ pd g/\∃m,b=(b_,m,0)/\2<=m/\m<=rest.length/\eB _ (rest.take m))
  (λj b d=>d=pE κ it _ pd g/\b=(b_,j+2,0)/\eB _ (rest.take (j+2))) ⟨rfl,rfl,M⟩ (λj b d F z=>?_) λb d z=>⟨z.1,_,z.2.1,by simp,f7 c (ao _),z.2.2⟩) λb d z=>?_)))
 .obtain⟨e,e1,hd⟩:=z;subst e e1;have f:=af (show j+1<rest.length from(aD (pQ F)));have l:=af (show j+2<rest.length from(pQ F));refine .bind (ask (.refl _) l f ?_)
  cases c:lt _ rest[j+1]with
  |true=>
    refine .pure ⟨rfl,rfl,?_⟩;have H:=hd;exact (rA o' H f (l) c)
  |false=>
    have I:rest[j+2]≠rest[j+1]:=λe=>by
     have:=(jM (by omega) nd).mp (l.trans (by rw[e];exact f.symm))
     simp_all
    refine .bind (ask (.refl _) f l ?_);rw[o.co _ _ I c];exact .pure ⟨rfl,_,rfl,iw _ _,aD (pQ F),hd⟩
 obtain⟨e,m,e1,m1,m2,hd⟩:=z;subst e e1;have p:((rest.take m).reverse++rest.drop m).Perm rest:=by
  conv=>rhs;rw[<-be m rest]
  exact(fS _).append_right _
 refine .bind ?_;show Wt P w A E s (reverseSlice' _ _) _ _;rw[reverseSlice'_eq];refine .modify ?_
 have Q:mirror (Ar it (pre++rest)) pre.length (pre.length+m) ((pre.length+m - pre.length) / 2)=Ar it (pre++((rest.take m).reverse++rest.drop m)):=by
  have:=Az (it:=it) pre (rest.take m) (rest.drop m)
  simp_all
 rw[Q];have t :=p.length_eq;generalize S:(rest.take m).reverse++rest.drop m=rest' at p t;have ht:rest'.take m=(rest.take m).reverse:=by grind
 rw[<-t];refine .bind (Wt.mono (Eh o (p.nodup_iff.mpr nd) ((aD m1)) (aa m2 (ae t.symm)) (by rw[ht];exact kh.mpr hd) λx n u v G' f l C D=>?_) λb d z=>?_)
 .refine .bind (ask p l f ?_)
  cases c:lt v u with
  |true=>exact .pure (C c)
  |false=>exact .pure (D c)
 .obtain⟨e,n,e1,h1,h2,B,_⟩:=z;subst e e1;exact .pure (q n _ (aD (aa m1 h1)) (aa h2 (ae t)) p B)
end
section
set_option tactic.hygienic true in
def wq{pre rest:List Nat}{G:Bool->bM->Prop}(o:Lt lt)(as:tG P w A s κ it lt N)(h1:1<=ok)(h2:ok<=n)(hn:n<=rest.length)(Y:∀x∈rest,x<N)(nd:rest.Nodup)(Z:eB lt (rest.take ok))
  (q:∀rest',rest'.Perm rest->eB lt (rest'.take n)->G c_ (pE κ it (pre++rest') pd g)):Wt P w A E s (binarySort' pre.length n ok) G (pE κ it (pre++rest) pd g):=by
 unfold binarySort';walk_at "u binarySort";rw[Nat.max_eq_left h1]
 refine .bind (Wt.mono (Wt.range (G:=λ(b)a=>b=(b_,())/\∃rest',a=pE κ it (pre++rest') pd g/\rest'.Perm rest/\eB lt (rest'.take n))
  (λj b a=>b=(b_,())/\∃rest',a=pE κ it (pre++rest') pd g/\rest'.Perm rest/\eB lt (rest'.take (ok+j))) ⟨rfl,_,rfl,.refl _,Z⟩ (λj b a S z=>?_) λb a z=>by simp_all) λb a z=>by obtain⟨e1,rest',e,hp,f⟩:=z;subst e e1;exact .pure (q _ hp f))
 refine ac λ_ V=>?_;obtain⟨e1,rest',e,hp,f⟩:=z;subst e e1;refine V ?_;generalize hk:ok+j=k at f;have B:k<rest'.length:=a4 (Nat.le_of_eq hk.symm) S (ad h2) hn (Nat.le_of_eq hp.length_eq.symm)
 have C:=af B;generalize rest'[k]=x at C;have mem:∀{i z:Nat},rest'[i]?=a_ z->z<N:=λh=>Y _ (hp.mem_iff.mp (aX h));obtain⟨t,p,M⟩:=Ey o f x;have p:t<=k:=by simp at p;exact aa p (jl _ _)
 have less:∀m,m<k->∃z,rest'[m]?=a_ z/\lt x z=decide (¬m<t):=λm F=>by
  have v:=af ((cM F B));refine⟨_,v,?_⟩;have e:=M m _ (by rw[c9,if_pos F];exact v)
  have I:rest'[m]≠x:=λe=>by
   exact aZ F (ae ((jM ((cM F B)) (hp.nodup_iff.mpr nd)).mp (v.trans (by rw[e];exact C.symm))).symm)
  by_cases c:m<t
  .rw[decide_eq_true c]at e;rw[decide_eq_false (λz=>(z c))];exact o.as _ _ e
  .rw[decide_eq_false c]at e;rw[decide_eq_true c];exact o.co _ _ I e
 refine .bind (Wt.mono (Wt.range (G:=λ(b)a=>a=pE κ it (pre++rest') pd g/\∃r,b=(b_,t,r))
  (λi b a=>a=pE κ it _ pd g/\∃l r,b=(b_,l,r)/\l<=t/\t<=r/\r<=k/\r - l<=k - i) ⟨rfl,0,k,rfl,aT _,p,ao _,by simp⟩ (λi b a hi z=>?_) λb a z=>by refine ac λ_ V=>?_;obtain⟨e,l,r,e1,H,J,K,Q⟩:=z;refine V ?_;grind) λb a z=>?_)
 .refine ac λ_ V=>?_;obtain⟨e,l,r,e1,H,J,K,Q⟩:=z;subst e e1;refine V ?_;refine .ite (λc=>.pure ⟨rfl,r,by rw[(aF (aa J c) H)]⟩) λc=>?_;have c:=c;obtain⟨z,L,O⟩:=less ((l+r) / 2) (j8 (a2 l r (ig (Nat.lt_of_not_le c))).2 K);refine .bind (Wt.WV as (tQ.trans C) (tQ.trans L) (mem C) (mem L) ?_);rw[O];by_cases d:(l+r) / 2<t
  .rw[decide_eq_false (λz=>(z d))];exact .pure ⟨rfl,_,r,rfl,d,J,K,Nat.sub_le_of_le_add (a4 (am (Nat.le_of_lt (Nat.lt_of_not_le c))) Q (a2 l r (ig (Nat.lt_of_not_le c))).1 (ad (Nat.le_of_lt hi)) (am hi))⟩
  .rw[decide_eq_true d];exact .pure ⟨rfl,l,_,rfl,H,bS d,Tw (wd (l+r)) H K (bR d),Nat.sub_le_of_le_add (a4 (a2 l r (ig (Nat.lt_of_not_le c))).2 (am (Nat.le_of_lt (Nat.lt_of_not_le c))) Q (ad (Nat.le_of_lt hi)) (am hi))⟩
 obtain⟨e,r,e1⟩:=z;subst e e1;refine .bind ?_;show Wt P w A E s (moveDown' _ _) _ _;rw[moveDown'_eq];refine .modify (.pure ⟨rfl,rest'.take t++(x::(rest'.take k).drop t++rest'.drop (k+1)),?_,?_,?_⟩)
 .have hb:=BB (it:=it) (pre++rest'.take t) ((rest'.take k).drop t) (rest'.drop (k+1)) x
  have e1:rest'.take t++(rest'.take k).drop t=rest'.take k:=by
   conv=>rhs;rw[<-be t (rest'.take k)]
   rw[jL,dO p]
  have e2:rest'=rest'.take k++x::rest'.drop (k+1):=by rw[<-jy C,be]
  have e3:pre++rest'.take t++((rest'.take k).drop t++x::rest'.drop (k+1))=pre++rest':=by
   rw[aH,<-aH (rest'.take t),e1,<-e2]
  have R:(pre++rest'.take t).length+((rest'.take k).drop t).length=pre.length+k:=by simp;omega
  have e5:((rest'.take k).drop t).length=pre.length+k - (pre.length+t):=by simp;omega
  rw[e3,R,e5,aH]at hb;rw[hb]
 .refine DX ?_ hp
  have e2:rest'=rest'.take t++((rest'.take k).drop t++x::rest'.drop (k+1)):=by
   rw[<-aH]
   have e1:rest'.take t++(rest'.take k).drop t=rest'.take k:=by
    conv=>rhs;rw[<-be t (rest'.take k)]
    rw[jL,dO p]
   rw[e1,<-jy C,be]
  conv=>rhs;rw[e2]
  exact jE _ LW.symm
 .have e1:rest'.take t++(rest'.take k).drop t=rest'.take k:=by
   conv=>rhs;rw[<-be t (rest'.take k)]
   rw[jL,dO p]
  have e2:(rest'.take t++(x::(rest'.take k).drop t++rest'.drop (k+1))).take (ok+(j+1))=rest'.take t++(x::(rest'.take k).drop t):=by
   rw[<-aH,t8 (by simp;exact Tw (Nat.le_of_eq hk) (a0 k rest'.length (ig B)) (ay (min k _) t) (a0 t rest'.length (j8 p B))),cG (by simp;omega)]
  rw[e2];have D:=f;rw[<-e1]at D;have lo:∀z∈rest'.take t,lt z x=c_:=λz v=>by
   obtain⟨i,hi⟩:=fV v;rw[c9]at hi;split at hi
   .rename_i c;rw[M i z (by rw[c9,if_pos (aW c p)];exact hi),decide_eq_true c]
   .cases hi
  have hi:∀z∈(rest'.take k).drop t,lt x z=c_:=λz v=>by
   obtain⟨i,hi⟩:=fV v;rw[jm,c9]at hi;split at hi
   .rename_i c;obtain⟨T,L,O⟩:=less _ c
    simp_all
   .cases hi
  refine mQ (dT.mp D).1 (eM.mpr ⟨hi,(dT.mp D).2.1⟩) λz v y U=>?_
  grind
end
inductive lA (lt:Nat->Nat->Bool):Nat->List (Nat×Nat×Nat)->List (List Nat)->Prop
 |nil {o:Nat}:lA lt o [] []
 |cons {o pw:Nat} {R:List Nat} {ps:List (Nat×Nat×Nat)} {Rs:List (List Nat)}:0<R.length->eB lt R->lA lt (o+R.length) ps Rs->lA lt o ((o,R.length,pw)::ps) (R::Rs)
section
def lA.split(h:lA lt o pd Rs):∀{i:Nat},i+1<pd.length->∃Z pw Y p2 O B C R2,pd=Z++(o+(O.flatten:List Nat).length,B.length,pw)::(o+O.flatten.length+B.length,C.length,Y)::p2/\Rs=O++B::C::R2/\Z.length=i/\
  0<B.length/\0<C.length/\eB lt B/\eB lt C/\∀M:List Nat,M.length=B.length+C.length->eB lt M->lA lt o (Z++(o+O.flatten.length,B.length+C.length,pw)::p2) (O++M::R2):=by
 induction h with
 |nil=>intro i hi;simp at hi
 | @cons o pw R ps Rs h1 h2 h3 c=>
   intro i hi
   cases i with
   |zero=>
     cases h3 with
     |nil=>simp at hi
     | @cons _ Y C ps Rs d f g=>
       refine⟨[],pw,Y,ps,[],R,C,Rs,rfl,rfl,rfl,h1,d,h2,f,λM a b=>?_⟩;have:=lA.cons (pw:=pw) (aa (Mm _ h1) (ae a.symm)) b (by rwa[a,<-kI])
       simp_all
   |succ i=>
     refine ac λ_ l=>?_;obtain⟨Z,j,k,p2,O,B,C,R2,e1,e2,e3,b1,b2,b3,b4,b5⟩:=c (by simpa using hi);refine l ?_;have e:o+(R::O).flatten.length=o+R.length+O.flatten.length:=by simp;exact tM (kI ..)
     refine⟨(o,R.length,pw)::Z,j,k,p2,_,B,C,R2,by rw[e,e1];rfl,by rw[e2];rfl,by simp[e3],b1,b2,b3,b4,λM a b=>?_⟩;rw[e];exact .cons h1 h2 (b5 M a b)
def lA.push{R:List Nat}(h:lA lt o pd Rs)(h1:0<R.length)(h2:eB lt R):lA lt o (pd++[(o+Rs.flatten.length,R.length,x)]) (Rs++[R]):=by
 induction h with
 |nil=>exact .cons h1 h2 .nil
 | @cons o pw a ps Rs b c e d=>
   refine .cons b c ?_;rwa[show o+(a::Rs).flatten.length=o+a.length+Rs.flatten.length by simp;exact tM (kI ..)]
def lA.mod(hf:∀a b c,∃d,f (a,b,c)=(a,b,d))(h:lA lt o pd Rs):∀k,lA lt o (pd.modify k f) Rs:=by
 induction h with
 |nil=>intro k;simp;exact .nil
 | @cons o g l ps Rs i j m n=>
   intro k
   cases k with
   |zero=>
     obtain⟨d,e⟩:=hf o _ g;rw[List.modify_zero_cons,e];exact .cons i j m
   |succ k=>exact .cons i j (n k)
def lA.len(h:lA lt o pd Rs):pd.length<=Rs.flatten.length:=by
 induction h with
 |nil=>exact ao _
 |cons b c d a=>simp at a ⊢;exact j8 a b
end
section
variable{κ:pq}{it:Nat->jk}{lt:Nat->Nat->Bool}
def uU{Rs:List (List Nat)}{rest:List Nat}{G:Bool->bM->Prop}(o:Lt lt)(as:tG P w A s κ it lt N)(O:∀x∈l,x<N)(nd:l.Nodup)(hl:l=Rs.flatten++rest)(hp:lA lt 0 pd Rs)(hi:i+1<pd.length)
  (q:∀l' pd' g' Rs',l'=Rs'.flatten++rest->lA lt 0 pd' Rs'->l'.Perm l->Rs'.flatten.length=Rs.flatten.length->pd'.length+1=pd.length->G c_ (pE κ it l' pd' g')):Wt P w A E s (mergeAt' i) G (pE κ it l pd g):=by
 refine ac λ_ r=>?_;obtain⟨n,pw,e,p,c,B,C,R2,e1,e2,e3,b1,b2,b3,b4,b5⟩:=hp.split hi;refine r ?_;rw[ic]at e1 b5;have el:l=c.flatten++(B++C)++(R2.flatten++rest):=by rw[hl,e2];simp
 have f:∀x∈B,x∈l:=λx a=>by rw[el];simp[a]
 have h:∀x∈C,x∈l:=λx a=>by rw[el];simp[a]
 have Fy :=λx j k=>by
  rw[el]at nd;exact(cH.mp ((cH.mp (cH.mp nd).1).2.1)).2.2 x j x k rfl
 subst e3;rw[e1,el];refine C3 o as b3 b4 b1 b2 (λx a=>O x (f x a)) (λx a=>O x (h x a)) Fy λM g' m d=>?_;have b:M.length=B.length+C.length:=by rw[d.length_eq];simp
 refine q _ _ g' _ (by simp) (b5 M b m) ?_ (by rw[e2];simp;exact aF (ig (ae b)) (ig (ae b.symm))) (by rw[e1];simp;rfl);rw[el];exact(d.append_left _).append_right _
abbrev Vk(κ:pq)(it:Nat->jk)(lt:Nat->Nat->Bool)(O:List Nat)(n:Nat)(b:Option Unit×Nat)(B:bM):Prop:=∃l a g Rs,b=(b_,n)/\B=pE κ it l a g/\l=(Rs:List (List Nat)).flatten/\lA lt 0 a Rs/\l.Perm O
abbrev Vj(κ:pq)(it:Nat->jk)(lt:Nat->Nat->Bool)(O:List Nat)(j:Nat)(b:Option Unit×Nat)(B:bM):Prop:=∃l a g Rs rest,b=(b_,(Rs.flatten:List Nat).length)/\B=pE κ it l a g/\l=Rs.flatten++rest/\lA lt 0 a Rs/\l.Perm O/\(rest=[]\/j<=Rs.flatten.length)
def ite_le{c:Prop}[Decidable c]:(if c then a - 1 else a)<=a:=by split<;>simp
def zS{G:Unit->bM->Prop}(o:Lt lt)(as:tG P w A s κ it lt N)(O:∀x∈l0,x<N)(Y:l0.Nodup)(q:∀l B g,l.Perm l0->eB lt l->G () (pE κ it l B g)):Wt P w A E s sortRuns' G (pE κ it l0 [] g0):=by
 have L:∀{l:List Nat},l.Perm l0->∀x∈l,x<N:=λh x H=>O x (h.mem_iff.mp H);have nd:∀{l:List Nat},l.Perm l0->l.Nodup:=λh=>h.nodup_iff.mpr Y;unfold sortRuns';walk_at "u sortRuns";refine .bind (.get ?_);have hsz:(arrOf (pE κ it l0 [] g0)).size=l0.length:=cu;rw[hsz];generalize M:l0.length=n
 refine .bind (Wt.mono (Wt.range (G:=Vk κ it lt l0 n) (Vj κ it lt l0) ⟨l0,[],g0,[],l0,rfl,rfl,rfl,.nil,.refl _,.inr (ao _)⟩
  (λj b f W z=>?_) λb f z=>?_) λb f z=>?_)
 rotate_left
 .refine ac fun op_notN kq => ?_; obtain⟨l,B,g,Rs,rest,e1,e2,hl,hp,e,v⟩:=z;have h1:=e.length_eq
  have Q:rest=[]:=by
   rcases v with h|h
   .exact h
   .rw[hl,ah]at h1;exact jq.mp (Nat.le_antisymm (qV (Nat.le_of_eq h1) (Nat.le_of_eq M) h) (G5))
  subst Q;refine kq ?_; rw[aE]at hl;refine⟨l,B,g,Rs,?_,e2,hl,hp,e⟩
  simp_all
 .refine ac fun op_notN kq => ?_; obtain⟨l,B,g,Rs,e1,e2,hl,hp,e⟩:=z;subst e1 e2
  refine kq ?_; refine .bind (Wt.mono (Wt.range (G:=λ(b)f=>∃l B g Rs,b=(b_,())/\f=pE κ it l B g/\l=(Rs).flatten/\lA lt 0 B Rs/\l.Perm l0/\B.length<=1)
   (λj b f=>∃l B g Rs,b=(b_,())/\f=pE κ it l B g/\l=(Rs).flatten/\lA lt 0 B Rs/\l.Perm l0/\(B.length<=1\/B.length+j<=n)) ⟨l,B,g,Rs,rfl,rfl,hl,hp,e,.inr (by have:=hp.len;rw[<-hl,e.length_eq]at this;simp_all)⟩
   (λj b f W z=>?_) λb f z=>by refine ac fun op_notN kq => ?_; obtain⟨l,B,g,Rs,e1,e2,hl,hp,e,v⟩:=z;refine kq ?_; exact⟨l,B,g,Rs,e1,e2,hl,hp,e,by omega⟩) λb f z=>?_)
  .refine ac fun op_notN kq => ?_; obtain⟨l,B,g,Rs,e1,e2,hl,hp,e,v⟩:=z;subst e1 e2;refine kq ?_; refine .bind (.get ?_);refine .ite (λc=>.pure ⟨l,B,g,Rs,rfl,rfl,hl,hp,e,by exact c⟩) λc=>?_;have c:¬B.length<=1:=by exact c
   refine .bind (uU o as (L e) (nd e) (by rw[aE];exact hl) hp (aq (aY (ite_le (a:=B.length - 2))) (ig (ws (bR c)))) λl' pd' g' Rs' X R S Z k5=>?_)
   .refine .EZ (by simp) (.pure ⟨l',pd',g',Rs',rfl,rfl,by simp_all,R,S.trans e,.inr (by omega)⟩)
  .obtain⟨l,B,g,Rs,e1,e2,hl,hp,e,v⟩:=z;subst e1 e2;refine .pure (q l B g e ?_);rw[hl]
   match B,Rs,hp,v with
   |_,_,.nil,_=>exact .nil
   |_,_,.cons h1 h2 .nil,_=>simpa using h2
   |_,_,.cons h1 h2 (.cons _ _ _),v=>simp at v
 obtain⟨l,B,g,Rs,rest,e1,e2,hl,hp,e,v⟩:=z;subst e1 e2;have hlen:=e.length_eq;have k:Rs.flatten.length+rest.length=n:=by simp_all
 refine .ite (λc=>?_) λc=>?_
 .have Q :=jq.mp (aF (zl (aa (ae k) c)) (aT _));subst Q;rw[aE]at hl;refine .pure ⟨l,B,g,Rs,?_,rfl,hl,hp,e⟩;rw[<-hl,hlen,M]
 have I :=λx H=>L e x (by rw[hl];exact ai _ H);have J :=(cH.mp (hl▸nd e)).2.1;refine .bind ?_;rw[show n - Rs.flatten.length=rest.length from(aF (j8 (ws (aD (bR c))) (ae k.symm)) (j8 (ae k) (wt (aD (bR c))))),hl];refine Bo o as (j8 (bR c) (ae k.symm)) I J λm d m1 m2 y K=>?_;have C:=y.length_eq;dsimp -zeta -zetaHave only
 extract_lets +onlyGivenNames n1 jp
 suffices h:∀m d g,1<=m->m<=rest.length->(d).Perm rest->eB lt (d.take m)->Wt P w A E s (jp () m) (XO (Vk κ it lt l0 n) (Vj κ it lt l0 (j+1))) (pE κ it (Rs.flatten++d) B g) by
  refine .ite (λc1=>?_) λ_=>h m d g m1 m2 y K;refine .bind (.rule (.bind (wq o as m1 ?_ (aa (jl _ _) (ae C.symm)) (λx H=>I x (y.mem_iff.mp H)) (y.nodup_iff.mpr J) K λF p2 r2=>?_)))
  .omega
  .exact .EZ (by simp) (h _ F g (by omega) (jl _ _) (p2.trans y) r2)
 intro m d g m1 m2 y K;have C:=y.length_eq;refine .bind (.get ?_)
 extract_lets +onlyGivenNames lo T
 subst lo
 have h:∀l B g(Rs':List (List Nat)),l=Rs'.flatten++d->lA lt 0 B Rs'->l.Perm l0->Rs'.flatten.length=Rs.flatten.length->Wt P w A E s (T ()) (XO (Vk κ it lt l0 n) (Vj κ it lt l0 (j+1))) (pE κ it l B g):=by
  intro l B g Rs' p r i t;refine .bind (.modify (.pure ⟨l,B++[(Rs.flatten.length,m,0)],g,Rs'++[d.take m],d.drop m,?_,?_,?_,?_,i,?_⟩))
  .simp_all
  .rw[List.push_toArray]
  .rw[p];simp
  .have:=r.push (x:=0) (by simp;exact j8 m1 (a0 m d.length (j8 m2 (Nat.le_of_eq C.symm)))) K
   grind
  .refine .inr ?_
   grind
 have D :=(y.append_left _).trans (hl▸e)
 cases hb:B.toArray.back? with
 |none=>exact h _ _ _ Rs rfl hp D rfl
 |some z=>
   obtain⟨s1,n1,z3⟩:=z
   refine .bind (Wt.mono (Wt.range
    (λj b f=>∃l B g Rs',b=(b_,())/\f=pE κ it l B g/\l=(Rs').flatten++d/\lA lt 0 B Rs'/\l.Perm l0/\Rs'.flatten.length=Rs.flatten.length) ⟨_,B,g,Rs,rfl,rfl,rfl,hp,D,rfl⟩
    (λj b f W z=>?_) λb f h=>h) λb f z=>?_)
   .refine ac fun op_notN kq => ?_; obtain⟨l,B,g,Rs',e1,e2,p,r,i,t⟩:=z;subst e1 e2;refine kq ?_; refine .bind (.get ?_);dsimp only;rw[bh];by_cases c2:B.length > 1
    .rw[if_pos c2]
     have hz:B.toArray[B.length - 2]?=a_ B[B.length - 2]:=by
      simp
     rw[hz];generalize B[B.length - 2]=z;obtain⟨za,zb,zc⟩:=z;refine .ite (λ_=>.pure ⟨l,B,g,_,rfl,rfl,p,r,i,t⟩) λ_=>?_;refine .bind (uU o as (L i) (nd i) p r (ig (ws c2)) λl2 U g2 V X R S Z k5=>?_);exact .EZ (by simp) (.pure ⟨l2,U,g2,V,rfl,rfl,X,R,S.trans i,Z.trans t⟩)
    .rw[if_neg c2];exact .pure ⟨l,B,g,_,rfl,rfl,p,r,i,t⟩
   .refine ac fun op_notN kq => ?_; obtain⟨l,B,g,Rs',e1,e2,p,r,i,t⟩:=z;subst e1 e2;refine kq ?_; refine .bind (.modify ?_);rw[List.modify_toArray];exact h l _ g _ p (r.mod (λa b c=>⟨_,rfl⟩) _) i t
end
section
variable{lt:Nat->Nat->Bool}{n:Nat}
structure Po(lt:Nat->Nat->Bool)(n:Nat):Prop where
 tr:∀i j k,i<n->j<n->k<n->lt i j=c_->lt j k=c_->lt i k=c_
 co:∀i j,i<n->j<n->i≠j->lt i j=d_->lt j i=c_
 as:∀i j,i<n->j<n->lt i j=c_->lt j i=d_
noncomputable abbrev pg(p:Array Nat)(k:Nat):Nat:=p.getD k 0
structure Pm(p:Array Nat)(n:Nat):Prop where
 sz:p.size=n
 lt:∀k,k<n->pg p k<n
 inj:∀i j,i<n->j<n->pg p i=pg p j->i=j
 pm:p.toList.Perm (aR n)
def JL{p:Array Nat}(h:k<p.size):p[k]?=a_ (pg p k):=by
 simp_all
def Wz(h:p[k]?=a_ x):pg p k=x:=by
 simp_all
def Pm.of{p:Array Nat}(h:p.toList.Perm (aR n)):Pm p n:=by
 have sz:p.size=n:=by rw[<-bF,h.length_eq,a6]
 refine⟨sz,λk hk=>?_,λi j hi c e=>?_,h⟩
 .have:pg p k∈p.toList:=by
   simp_all
  exact bf.mp (h.mem_iff.mp this)
 .have a:=JL (aa hi (ae sz.symm));have b:=JL (aa c (ae sz.symm));rw[<-iy]at a b;rw[e]at a;exact(jM (by simp_all) (h.nodup_iff.mpr fG)).mp (a.trans b.symm)
def Up(lt:Nat->Nat->Bool)(p:Array Nat)(m:Nat):Prop:=∀i j,i<j->j<m->lt (pg p i) (pg p j)=c_
noncomputable def TB(lt:Nat->Nat->Bool)(n i j:Nat):Bool:=if i<n then(if j<n then lt i j else c_)else if j<n then d_ else decide (i<j)
def Ki(hi:i<n)(B:j<n):TB lt n i j=lt i j:=by unfold TB;simp_all
def Tx(o:Po lt n):Lt (TB lt n):=by
 refine⟨λi j k a b=>?_,λi j ne a=>?_,λi j a=>?_⟩
 .unfold TB at a b ⊢;by_cases hi:i<n<;>by_cases c:j<n<;>by_cases hk:k<n<;>simp only[hi,c,hk,if_true,if_false,bT,decide_eq_true_eq]at a b ⊢
  .exact o.tr i j k hi c hk a b
  .exact cM a b
 .unfold TB at a ⊢;by_cases hi:i<n<;>by_cases c:j<n<;>simp only[hi,c,if_true,if_false,Bool.true_eq_false,decide_eq_false_iff_not,decide_eq_true_eq]at a ⊢
  .exact o.co i j hi c ne a
  .omega
 .unfold TB at a ⊢;by_cases hi:i<n<;>by_cases c:j<n<;>simp only[hi,c,if_true,if_false,bT,decide_eq_false_iff_not,decide_eq_true_eq]at a ⊢
  .exact o.as i j hi c a
  .exact λz=>(aZ z (aD a))
end
section
def IW{vs:List aj}(o:Po lt vs.length)(hc:∀i j,i<vs.length->j<vs.length->∀C:Bool->ak->Prop,C (lt i j) s->aG (aI P w) A (keyLt' κ (vs.getD i .none) (vs.getD j .none)) C (λ_ _=>False) s) :
  aG (aI P w) A ((sortRuns').run (lG κ (vs.toArray.zip vs.toArray) #[] 7 b_)) (λr s'=>s'=s/\∃p:Array Nat,Pm p vs.length/\Up lt p vs.length/\arrOf r.2=p.map (Md (vs.toArray.zip vs.toArray))/\failedOf r.2=b_) E s:=by
 have as:tG P w A s κ (Md (vs.toArray.zip _)) (TB lt _) _:=λi j hi b C f=>by
  rw[Ki hi b]at f;have e:=kas_item_eq vs;unfold pairsOf at e;rw[e i,e j];exact hc i j hi b C f
 have d:lG κ (vs.toArray.zip vs.toArray) #[] 7 b_=pE κ (Md (vs.toArray.zip vs.toArray)) (aR vs.length) [] 7:=by
  have e:=kas_range (vs.toArray.zip vs.toArray)
  grind
 rw[d]
 have run:=zS (E:=E) (g0:=7) (G:=λ_ c=>∃p:Array _,Pm p _/\Up lt p vs.length/\arrOf c=p.map (Md (vs.toArray.zip _))/\failedOf c=b_)
  (Tx o) as (λx h=>bf.mp h) fG λl m g hp k=>by
   have pm:Pm l.toArray _:=.of hp;refine⟨_,pm,λi j a b=>?_,by rw[List.map_toArray],rfl⟩;have hl:l.length=vs.length:=by simpa using hp.length_eq
   have e1:pg l.toArray i=l[i]:=by simp[pg,show i<l.length by omega]
   have e2:pg l.toArray j=l[j]:=by simp_all
   rw[e1,e2,<-Ki (lt:=lt) (e1▸pm.lt i (cM a b)) (e2▸pm.lt j (by omega))];exact (eE.mp k i j (aa (cM a b) (ae hl.symm)) (aa b (ae hl.symm)) a)
 exact dz run (λr s' z=>⟨z.2,z.1⟩) λ_ _ e=>e
end
noncomputable def qA{α:Type}[DecidableEq α](f:α->α->Bool):List α->List α->Bool
 |[],[]=>d_
 |[],_::_=>c_
 |_::_,[]=>d_
 |x::xs,y::ys=>if x=y then qA f xs ys else f x y
structure LO{α:Type}(f:α->α->Bool):Prop where
 tr:∀a b c,f a b=c_->f b c=c_->f a c=c_
 co:∀a b,a≠b->f a b=d_->f b a=c_
 ir:∀a,f a a=d_
def LO.as (h:LO f)(x:f a b=c_):f b a=d_:=by
 cases q:f b a with
 |false=>rfl
 |true=>have:=h.tr _ _ _ x q;rw[h.ir]at this;cases this
def LO.int:LO (λi j:Int=>decide (i<j)):=
 ⟨λa b c x y=>by simp only[decide_eq_true_eq]at *;exact Int.le_of_lt (eP x y),λa b n x=>by grind,λa=>by simp⟩
section
variable{α:Type}[DecidableEq α]{f:α->α->Bool}
def lg{x y:α}{xs ys:List α}:qA f (x::xs) (y::ys)=if x=y then qA f xs ys else f x y:=rfl
def LO.lex(h:LO f):LO (qA f):=by
 refine⟨λa=>?_,λa=>?_,λa=>?_⟩
 .induction a with
  |nil=>
    intro b c x y
    cases b with
    |nil=>cases x
    | cons _ _=>cases c with
      |nil=>cases y
      |cons _ _=>rfl
  |cons p a d=>
    intro b c x y
    cases b with
    |nil=>cases x
    |cons q b=>
      cases c with
      |nil=>cases y
      |cons r c=>
        rw[lg]at x y ⊢;by_cases e1:p=q
        .subst e1
         grind
        .rw[if_neg e1]at x;by_cases e2:q=r
         .simp_all
         .rw[if_neg e2]at y;have z:=h.tr _ _ _ x y;rwa[if_neg λe=>by rw[<-e]at z;rw[h.ir]at z;cases z]
 .induction a with
  |nil=>
    intro b n x
    cases b with
    |nil=>exact absurd rfl n
    |cons _ _=>cases x
  |cons p a d=>
    intro b n x
    cases b with
    |nil=>rfl
    |cons q b=>
      rw[lg]at x ⊢;by_cases e:p=q
      .grind
      .rw[if_neg e]at x;rw[if_neg λz=>e z.symm];exact h.co _ _ e x
 .induction a with
  |nil=>rfl
  |cons p a d=>rwa[lg,if_pos rfl]
end
abbrev Kj:List Int->List Int->Bool:=qA λi j=>decide (i<j)
abbrev WU:List (List Int)->List (List Int)->Bool:=qA Kj
abbrev vU:List (List (List Int))->List (List (List Int))->Bool:=qA WU
def Om:LO Kj:=LO.int.lex
def nF:LO vU:=LO.int.lex.lex.lex
def Oo:Kj [i] [j]=decide (i<j):=by
 show(if i=j then d_ else decide _)=decide _;by_cases e:i=j
 .rw[e];simp
 .rw[if_neg e]
theorem yt:∀l l':List Nat,Kj (l.map eO) (l'.map eO)=decide (l<l')
 |[],[]=>by simp[Kj,qA]
 |[],_::_=>by simp[Kj,qA]
 |_::_,[]=>by simp[Kj,qA]
 |a::l,b::l'=>by
   have c:=yt l l';show(if eO a=eO b then Kj _ (l'.map eO)else decide _)=_;by_cases e:a=b
   .simp_all
   .rw[if_neg λz=>e (uc z)];refine decide_eq_decide.mpr ?_;rw[List.cons_lt_cons_iff]
    simp_all
noncomputable def cK:Key->List Int
 |.inl i=>[i]
 |.inr x=>x.cps.toList.map eO
noncomputable def iK:Key->Int
 |.inl i=>i
 |.inr _=>0
noncomputable def sK:Key->Bool
 |.inl _=>c_
 |.inr _=>d_
def c2:N2->List Int
 |.inl k=>cK k
 |.inr ks=>ks.map iK
def s2:N2->Nat
 |.inl (.inl _)=>0
 |.inl (.inr _)=>1
 |.inr ks=>if ks.all sK=c_ then 2 else 3
def sI:N2->Bool
 |.inl k=>sK k
 |.inr _=>d_
def VD:N2->Int
 |.inl k=>iK k
 |.inr _=>0
def cN:NK->List (List Int)
 |.inl k=>[cK k]
 |.inr ks=>if ks.all sI=c_ then [ks.map VD]else ks.map c2
def sN:NK->List Nat
 |.inl (.inl _)=>[0]
 |.inl (.inr _)=>[1]
 |.inr ks=>if ks.all sI=c_ then [2]else 3::ks.map s2
noncomputable def Ap:List Nat->Bool
 |3::l=>l.all λn=>decide (n<3)
 |_=>c_
theorem KE:∀{x y:List Key},x.all sK=c_->y.all sK=c_->x.map iK=y.map iK->x=y
 |[],[],_,_,_=>rfl
 |[],_::_,_,_,h=>by cases h
 |_::_,[],_,_,h=>by cases h
 |.inl i::x,.inl j::y,a,b,h=>by
   simp only[aB,fM,iK]at h;simp only[dH,ag]at a b;rw[h.1,KE a.2 b.2 h.2]
 |.inr _::_,_::_,a,_,_=>by simp[sK]at a
 |_::_,.inr _::_,_,b,_=>by simp[sK]at b
def Lv(hs:sK x=sK y)(h:cK x=cK y):x=y:=by
 cases x with
 |inl i=>
   cases y with
   |inl j=>simp only[cK,fM,and_true]at h;rw[h]
   |inr b=>cases hs
 |inr a=>
   cases y with
   |inl j=>cases hs
   |inr b=>
     have:=(HJ (λ_ _ z=>uc z)).mp h;cases a;simp_all
def Lz(hs:s2 x=s2 y)(h3:s2 x<3)(h:c2 x=c2 y):x=y:=by
 cases x with
 |inl a=>
   cases y with
   |inl b=>rw[Lv (by cases a<;>cases b<;>first|rfl|cases hs) h]
   |inr ks=>cases a<;>(simp only[s2]at hs;grind)
 |inr ks=>
   cases y with
   |inl b=>cases b<;>(simp only[s2]at hs;grind)
   |inr c=>
     simp only[s2]at hs h3;by_cases c1:ks.all sK=c_
     .by_cases c2:c.all sK=c_
      .rw[KE c1 c2 h]
      grind
     simp_all
theorem KG:∀{x y:List N2},x.all sI=c_->y.all sI=c_->x.map VD=y.map VD->x=y
 |[],[],_,_,_=>rfl
 |[],_::_,_,_,h=>by cases h
 |_::_,[],_,_,h=>by cases h
 |.inl (.inl i)::x,.inl (.inl j)::y,a,b,h=>by
   simp only[aB,fM,VD,iK]at h;simp only[dH,ag]at a b;rw[h.1,KG a.2 b.2 h.2]
 |.inl (.inr _)::_,_::_,a,_,_=>by simp[sI,sK]at a
 |.inr _::_,_::_,a,_,_=>by simp[sI]at a
 |_::_,.inl (.inr _)::_,_,b,_=>by simp[sI,sK]at b
 |_::_,.inr _::_,_,b,_=>by simp[sI]at b
theorem FN:∀{x y:List N2},x.map s2=y.map s2->(∀n∈x.map s2,n<3)->x.map c2=y.map c2->x=y
 |[],[],_,_,_=>rfl
 |[],_::_,h,_,_=>by cases h
 |_::_,[],h,_,_=>by cases h
 |a::x,b::y,h,h3,e=>by
   simp only[aB,fM]at h e;rw[Lz h.1 (h3 _ (by simp)) e.1,FN h.2 (λn c=>h3 n (by exact ju _ c)) e.2]
def JU(h:Ap (3::l)=c_):∀n∈l,n<3:=λn a=>by
 simpa using (bB.mp (h) n a)
def uy(hs:sN x=sN y)(h3:Ap (sN x)=c_):(∃a b,x=.inl a/\y=.inl b/\sK a=sK b)\/(∃a b,x=.inr a/\y=.inr b/\a.all sI=c_/\b.all sI=c_)\/
  ∃a b,x=.inr a/\y=.inr b/\¬a.all sI=c_/\¬b.all sI=c_/\a.map s2=b.map s2/\∀n∈a.map s2,n<3:=by
 cases x with
 |inl a=>
   cases y with
   |inl b=>exact .inl ⟨a,b,rfl,rfl,by cases a<;>cases b<;>first|rfl|(simp[sN]at hs)⟩
   |inr ks=>exfalso;cases a<;>(simp only[sN]at hs;split at hs<;>simp at hs)
 |inr a=>
   cases y with
   |inl b=>exfalso;cases b<;>(simp only[sN]at hs;split at hs<;>simp at hs)
   |inr b=>
     simp only[sN]at hs h3;by_cases d:a.all sI=c_
     .by_cases c:b.all sI=c_
      .exact .inr (.inl ⟨a,b,rfl,rfl,d,c⟩)
      simp_all
     .rw[if_neg d]at hs h3;by_cases c:b.all sI=c_
      .simp_all
      .rw[if_neg c]at hs;exact .inr (.inr ⟨a,b,rfl,rfl,d,c,(gQ hs).2,JU h3⟩)
def Ls(hs:sN x=sN y)(h3:Ap (sN x)=c_)(h:cN x=cN y):x=y:=by
 rcases uy hs h3 with⟨a,b,rfl,rfl,q⟩|⟨a,b,rfl,rfl,c,d⟩|⟨a,b,rfl,rfl,c,d,e,f⟩
 .rw[Lv q (gQ h).1]
 .simp only[cN]at h;rw[if_pos c,if_pos d]at h;rw[KG c d (gQ h).1]
 .simp only[cN]at h;rw[if_neg c,if_neg d]at h;rw[FN e f h]
section
variable{A:cc}{z0:ak}
def Kg{I:Ik P w}{α:Type}[DecidableEq α]{f:α->α->Bool}{c:I.κ->α}{R:I.κ->I.κ->Prop}{x y:List I.κ}{p b:aK}{G:Fin->ak->Prop}(Y:A.units+I.d<=dM)(ex:qX I z0.heap x p)(O:qX I z0.heap y b)
  (Z:∀q∈x.zip y,R q.1 q.2)(ci:∀a b,R a b->c a=c b->a=b)
  (lt:∀(E:aj->ak->Prop)(a b:I.κ)(u v:aj)(Q:aj->ak->Prop),R a b->I.is z0.heap a u->I.is z0.heap b v->Q (.bool (f (c a) (c b))) z0->aG (aI P w) A (compareOp .Lt u v) Q E z0)
  (h:G (.done (.ret (.bool (qA f (x.map c) (y.map c))))) z0):aG (aI P w) A (gC.«tuple.__lt__» ⟨[.ref p,.ref b],[]⟩) G E z0:=by
 have s:=O.typeIs;refine ac λ_ W=>?_;obtain⟨S,xs,na,t,_,z,B⟩:=ex;obtain⟨T,ys,nb,C,_,D,F⟩:=O;refine W ?_;show aG _ _ (isInstance _ (.type _) >>= _) _ _ z0;refine wb9 (dv s qe ?_);refine wb9 (jT t z ?_);refine wb9 (jT C D ?_);refine wb9 ?_
 refine hZ _
  (λtl r o=>r.1=b_/\o=z0/\∃x' j g i,tl=List.zip g i/\qW I _ x' g/\qW I _ j i/\(∀q∈x'.zip j,R q.1 q.2)/\
   qA f (x'.map c) (j.map c)=qA f _ _/\decide (g.length<i.length)=decide (xs.size<ys.size))
  _ ?_ ?_ _ _ ⟨rfl,rfl,x,y,_,_,rfl,B,F,Z,rfl,by simp⟩
 .rintro⟨u,v⟩ tl r o ⟨ge,rfl,x',j,g,i,gz,hx',hy',hr,gdec,glen⟩
  cases hx' with
  |nil=>simp at gz
  | @cons L U H k h1 l=>
    cases hy' with
    |nil=>simp at gz
    | @cons M V J m h2 n=>
      simp only[v9,fM,HH]at gz;obtain⟨⟨rfl,rfl⟩,rfl⟩:=gz;rw[aB,aB,lg]at gdec;refine wb9 (I.eqb Y h1 h2 (λK=>?_) λK=>?_)
      .refine wu9 ⟨rfl,rfl,H,J,k,m,rfl,l,n,λq N=>hr q (ju _ N),?_,by simpa using glen⟩
       simp_all
      .rw[if_neg λe=>K (ci _ _ (hr _ jv) e)]at gdec;rw[<-gdec]at h;exact wb9 (iF (wb9 (lt _ L M _ _ _ (hr _ jv) h1 h2 (wb9 (wu9 (wu9 (wu9 h)))))))
 .rintro⟨r1,r2⟩ o ⟨rfl,rfl,x',j,g,i,gz,hx',hy',hr,gdec,glen⟩;refine wu9 ?_;show G (.done (.ret (.bool (decide _)))) o;rw[<-gdec,]at h;rw[<-glen]
  cases hx' with
  |nil=>
    cases hy' with
    |nil=>exact h
    |cons _ _=>exact h
  |cons _ _=>
    cases hy' with
    |nil=>exact h
    |cons _ _=>simp at gz
def yr{I:Ik P w}{α:Type}[DecidableEq α]{f:α->α->Bool}{c:I.κ->α}{R:I.κ->I.κ->Prop}{x y:List I.κ}{p b:aK}{Q:aj->ak->Prop}(B:A.units+(I.d+1)<=dM)(ex:qX I z0.heap x p)(O:qX I z0.heap y b)
  (Z:∀q∈x.zip y,R q.1 q.2)(ci:∀a b,R a b->c a=c b->a=b)
  (lt:∀(Y:cc)(E:aj->ak->Prop)(a b:I.κ)(u v:aj)(Q:aj->ak->Prop),Y.units=A.units+1->R a b->I.is z0.heap a u->I.is z0.heap b v->Q (.bool (f (c a) (c b))) z0->aG (aI P w) Y (compareOp .Lt u v) Q E z0)
  (h:Q (.bool (qA f (x.map c) (y.map c))) z0):aG (aI P w) A (compareOp .Lt (.ref p) (.ref b)) Q E z0:=by
 show aG _ _ (richCompare .Lt _ _) ..
 exact BN ex.typeIs O.typeIs zh
  (bJ zh ex.typeIs PySem.F.entry_tuple_lt (Kg (by exact ig B) ex O Z ci (λE a b u v Q=>lt _ E a b u v Q rfl) ⟨_,rfl,(λe=>nomatch e),h⟩) (PySem.F.args_tuple_lt_2 _ _)) (aq (aV _ _) B)
def tR(h:(dx P w).is k v=c_)(hs:sK k=c_):∃t,v=.int (iK k) t:=by
 cases k with
 |inl i=>
   rcases cZ (k:=.inl i) h with⟨a,t,e,rfl⟩|⟨x,t,e,_⟩
   .cases e;exact⟨t,rfl⟩
   .cases e
 |inr x=>cases hs
def Kf(hs:sK a=sK b)(ex:(dx P w).is a u=c_)(B:(dx P w).is b v=c_)(h:Q (.bool (Kj (cK a) (cK b))) z0):aG (aI P w) A (compareOp .Lt u v) Q E z0:=by
 cases a with
 |inl i=>
   cases b with
   |inr _=>cases hs
   |inl j=>
     obtain⟨d,rfl⟩:=tR ex rfl;obtain⟨f,rfl⟩:=tR B rfl;refine nN ?_;rwa[show cK _=[i]from rfl,show cK _=[j]from rfl,Oo]at h
 |inr a=>
   cases b with
   |inl _=>cases hs
   |inr c=>
     rcases cZ (k:=.inr a) ex with⟨g,t,e,_⟩|⟨x1,d,e1,rfl⟩
     .cases e
     .rcases cZ (k:=.inr c) B with⟨g,t,e,_⟩|⟨l,f,e2,rfl⟩
      .cases e
      .cases e1;cases e2;refine PyProof.Rows.lt_str ?_;rwa[show cK _=a.cps.toList.map eO from rfl,show cK _=c.cps.toList.map eO from rfl,(yt _ _)]at h
def ER(ha:sK a=c_)(hb:sK b=c_)(ex:(dx P w).is a u=c_)(B:(dx P w).is b v=c_)(h:Q (.bool (decide (iK a<iK b))) z0):aG (aI P w) A (compareOp .Lt u v) Q E z0:=by
 obtain⟨c,rfl⟩:=tR ex ha;obtain⟨d,rfl⟩:=tR B hb;exact nN h
def FU{α:Type}{p:α->Bool}{x y:List α}(B:x.all p=c_)(O:y.all p=c_):∀q∈x.zip y,p q.1=c_/\p q.2=c_:=λq a=>
 ⟨bB.mp B _ (iu a).1,bB.mp O _ (iu a).2⟩
def Kh{x y:N2}{u v:aj}{Q:aj->ak->Prop}(O:A.units+1<=dM)(ex:(i2 P w).is z0.heap x u)(B:(i2 P w).is z0.heap y v)(hs:s2 x=s2 y)(h3:s2 x<3)(h:Q (.bool (Kj (c2 x) (c2 y))) z0) :
  aG (aI P w) A (compareOp .Lt u v) Q E z0:=by
 cases x with
 |inl a=>
   cases y with
   |inl b=>exact Kf (by cases a<;>cases b<;>first|rfl|cases hs) ex B h
   |inr ks=>cases a<;>(simp only[s2]at hs;split at hs<;>cases hs)
 |inr ks=>
   cases y with
   |inl b=>cases b<;>(simp only[s2]at hs;split at hs<;>cases hs)
   |inr d=>
     obtain⟨p,rfl,q⟩:=ex;obtain⟨b,rfl,f⟩:=B;simp only[s2]at hs h3;by_cases c1:ks.all sK=c_
     .by_cases c2:d.all sK=c_
      .exact yr (R:=λa b=>sK a=c_/\sK b=c_) O q f (FU c1 c2) (λa b c e=>by
         match a,b,c,e with
         |.inl i,.inl j,_,e=>exact congrArg _ e) (λk l a b u v Q _ c e1 e2 g=>ER c.1 c.2 e1 e2 g) h
      simp_all
     simp_all
def yu:WU [a] [b]=Kj a b:=by
 rw[WU,lg];by_cases e:a=b
 .rw[if_pos e,e,Om.ir];rfl
 .rw[if_neg e]
theorem EO{α β:Type}{f:α->β}:∀{x y:List α},x.map f=y.map f->∀q∈x.zip y,f q.1=f q.2
 |[],_,_,_,h=>by simp at h
 |_::_,[],_,_,h=>by simp at h
 |a::x,b::y,h,q,c=>by
   obtain⟨h1,h2⟩:=gQ h
   rcases aw.mp c with rfl|c
   .exact h1
   .exact EO h2 q c
def Ol(O:A.units+2<=dM)(ex:YY P w z0.heap x u)(B:YY P w z0.heap y v)(hs:sN x=sN y)(h3:Ap (sN x)=c_)(h:Q (.bool (WU (cN x) (cN y))) z0) :
  aG (aI P w) A (compareOp .Lt u v) Q E z0:=by
 rcases uy hs h3 with⟨a,b,rfl,rfl,q⟩|⟨a,b,rfl,rfl,f,g⟩|⟨a,b,rfl,rfl,f,g,l,m⟩
 .simp only[cN]at h;rw[yu]at h;exact Kf q ex B h
 .simp only[cN]at h;rw[if_pos f,if_pos g,yu]at h;obtain⟨p,rfl,r⟩:=ex;obtain⟨b,rfl,k⟩:=B;refine yr (R:=λa b=>sI a=c_/\sI b=c_) O r k (FU f g) (λa b c e=>?_) (λn o a b u v Q _ c e1 e2 d=>?_) h
  .match a,b,c,e with
   |.inl (.inl i),.inl (.inl j),_,e=>exact congrArg _ (congrArg _ e)
  .match a,b,c,e1,e2,d with
   |.inl a,.inl b,c,e1,e2,d=>exact ER c.1 c.2 e1 e2 d
 .simp only[cN]at h;rw[if_neg f,if_neg g]at h;obtain⟨p,rfl,r⟩:=ex;obtain⟨b,rfl,k⟩:=B;refine yr (R:=λa b=>s2 a=s2 b/\s2 a<3) O r k (λq d=>⟨EO l q d,m _ (cU (iu d).1)⟩) (λa b c e=>Lz c.1 c.2 e) (λn o a b u v Q s c e1 e2 d=>?_) h;exact Kh (by rw[s];omega) e1 e2 c.1 c.2 d
end
end L2
namespace L2
open PySem PySem.Spec PyProof.Rows
def Bj:entryFor table "set.__iter__"=a_ gC.«frozenset.__iter__» :=B5 (id':="frozenset.__iter__") (by kernel_rfl) rfl (by decide +kernel) (by kernel_rfl)
def pJ:entryFor table "set_iterator.__next__"=a_ gC.«set_iterator.__next__» :=entryFor_of_tree (by kernel_rfl)
def fo:HV "set_iterator" "__next__" "set_iterator.__next__":=.of (owner:="set_iterator") (n:="__next__") (by kernel_rfl) (by decide +kernel) (by decide +kernel) (by decide +kernel) (.inl (by decide +kernel)) (by kernel_rfl)
def pL(a:aj):argsOk "set_iterator.__next__" ⟨[a],[]⟩:=by
 kernel_rfl
theorem pX{α:Type}:∀{xs:List α}{i:Nat}(h:i<xs.length),(xs[i]::xs.eraseIdx i).Perm xs
 |x::r,0,_=>by simp
 |x::r,i+1,h=>by
   exact(List.Perm.swap ..).trans ((pX (by simpa using h)).cons x)
theorem Es{α:Type}(nx:Nat->Nat):∀(fuel k:Nat)(left:List α)(out:Array α),left.length<=fuel->(vW nx fuel k left out).toList.Perm (out.toList++left)
 |0,k,left,out,h=>by
   obtain rfl:left=[]:=jq.mp (aF h (aT _));simp only[vW,aE];exact .refl _
 |fuel+1,k,left,out,h=>by
   simp only[vW]
   cases q:left[nx k % left.length]? with
   |none=>
     have:left=[]:=by
      cases left with
      |nil=>rfl
      |cons x r=>
        have a:nx k % (x::r).length<(x::r).length:=jo _ (by simp);rw[af a]at q;cases q
     subst this;simp
   |some x=>
     obtain⟨a,e⟩:=aN.mp q;have b:=Es nx fuel (k+1) (left.eraseIdx (nx k % left.length)) (out.push x) (by grind);refine b.trans ?_;rw[Array.toList_push,aH];refine jE _ ?_;rw[<-e];exact pX a
def rC{α:Type}(nx:Nat->Nat)(xs:Array α):(pickOrder nx xs).toList.Perm xs.toList:=by
 simpa [pickOrder]using (Es nx _ 0 _ #[] (by simp))
section
def Hr(B:n≠0)(k:∀i d,i<n->Q i { s with drawn:=d }):aG (aI prog w) A (choose src n) Q E s:=λΓ p _=>by
 exact⟨B,k _ _ (jo _ (bV B))⟩
theorem Fx{α:Type}:∀(n:Nat)(xs:List α)(s:ak){Q:List α->ak->Prop},xs.length<=n->(∀ys d,ys.Perm xs->Q ys { s with drawn:=d })->aG (aI prog w) A (drawOrder n xs) Q E s
 |0,xs,s,Q,h,k=>by
   obtain rfl:xs=[]:=jq.mp (aF h (aT _));exact wu9 (k [] s.drawn (.refl _))
 |n+1,[],s,Q,h,k=>wu9 (k [] s.drawn (.refl _))
 |n+1,x::r,s,Q,h,k=>by
   refine wb9 (Hr (by simp) λi d a=>?_);rw[af a];refine wb9 (Fx n ((x::r).eraseIdx i) _ (by grind) λys d pm=>wu9 (k _ d ?_));exact(pm.cons _).trans (pX a)
end
inductive Mode where
 |tx|dr (T:aK) (ps:List Nat)|pl
noncomputable def slotAt(t:bC):Nat->Nat
 |0=>0
 |i+1=>t.place.getD i 0+1
def Mode.first(t:bC)(i:Nat):Mode->aj
 |.tx=>rawInt 0
 |.dr T _=>.ref T
 |.pl=>rawInt (slotAt t i)
def Mode.Ok(w:dh)(es:Array (Int×aj))(t:bC)(h:cg)(I:aK):Mode->Prop
 |.tx=>w.params.followText "set-order"=c_
 |.dr T ps=>T≠I/\ps.Perm (aR es.size)/\h.get? T=a_ { cls:=.type "tuple",data:=.seq (ps.map λ(p:Nat)=>rawInt p).toArray }
 |.pl=>w.params.followText "set-order"=d_/\(!t.plain && decide (es.size > 1))=d_
noncomputable def Mode.ord(w:dh)(S:aK)(es:Array (Int×aj))(ep:Nat):Mode->List aj
 |.tx=>(pickOrder (w.params.setOrder S ep) es).toList.map (·.2)
 |.dr _ ps=>ps.map λp=>(es[p]?.map (·.2)).getD .none
 |.pl=>es.toList.map (·.2)
def Mode.uM:∀{m:Mode},m.Ok w es t h I->(m.ord w S es ep).Perm (es.toList.map (·.2))
 |.tx,_=>(rC _ _).map _
 |.dr T ps,h=>by
   refine(h.2.1.map _).trans ?_;rw[show(aR _).map (λp=>(es[p]?.map _).getD fJ)=es.toList.map (·.2)from ?_];apply kA (by simp);intro n h1 h2;simp at h1 h2;simp[h1]
 |.pl,_=>.refl _
structure BJ(w:dh)(h:cg)(I S:aK)(es:Array (Int×aj))(ep:Nat)(t:bC)(m:Mode)(i:Nat):Prop where
 it:h.get? I=a_ { cls:=.type "set_iterator",data:=.fields #[m.first t i,rawInt i,.ref S,rawInt es.size,rawInt ep] }
 st:mV (rQ w) h S es ep t
 md:m.Ok w es t h I
 ne:S≠I
section
variable{w:dh}{s:ak}{m:Mode}
def Mode.Ok.keep{h':cg}(y:m.Ok w es t h I)(k:∀b o,b≠I->h.get? b=a_ o->h'.get? b=a_ o):m.Ok w es t h' I:=by
 cases m with
 |dr T ps=>exact⟨y.1,y.2.1,k _ _ y.1 y.2.2⟩
 |_=>exact y
def o9(k:Q (w.params.followText "set-order") s):aG (aI prog w) A setsByText Q E s:=by
 exact wb9 (xG (wu9 k))
def Mx(y:mV (rQ w) s.heap S es ep t)(h:w.params.followText "set-order"=c_)(k:Q (pickOrder (w.params.setOrder S ep) es) s):aG (aI prog w) A (setWalk S) Q E s:=by
 refine wb9 (dI y.obj rfl y.fits ?_);refine wb9 (o9 ?_);rw[h];exact wb9 (xG (wu9 k))
def uJ(y:mV (rQ w) s.heap S es ep t):t.place.size=es.size:=by
 have:=y.fits;simp only[lN,ag,beq_iff_eq]at this;exact this.1
def EG(y:mV (rQ w) s.heap S es ep t)(h:w.params.followText "set-order"=d_)(hd:(!t.plain && decide (es.size > 1))=d_)(hi:i<=es.size)
  (k:Q (match es[i]? with|some x=>a_ (x.2,slotAt t (i+1))|none=>b_) s):aG (aI prog w) A (setNext S (slotAt t i) g e) Q E s:=by
 refine wb9 (dI y.obj rfl y.fits ?_);refine wb9 (o9 ?_);rw[h];show aG (aI _ w) A (if(!t.plain && decide _)=c_ then _ else _) Q E s;rw[hd];show aG (aI _ w) A ((if(!t.led && !es.isEmpty)=c_ then _ else pure ()) >>= _) Q E s;rw[y.ok.l,rQ,h];refine wb9 (wu9 (wu9 ?_))
 have hb:aM t.place (slotAt t i)=i:=by
  cases i with
  |zero=>exact LB y.ok.r
  |succ j=>
    have c:j<t.place.size:=by rwa[uJ y]
    show aM _ (t.place.getD j 0+1)=j+1;rw[show t.place.getD j 0=t.place[j] by simp_all];exact LC y.ok.r c
 rw[hb]
 cases q:es[i]? with
 |none=>rwa[q]at k
 |some x=>
   rw[q]at k
   have b:i<es.size:=by
    rcases cX.mp q with⟨a,_⟩;exact a
   have hp:t.place[i]?=a_ (t.place[i]'(by rwa[uJ y])):=a8 _;rw[hp];simp only[slotAt]at k
   simp_all
def EF{sl:Nat}(y:mV (rQ w) s.heap S es ep t)(h:w.params.followText "set-order"=c_)(k:Q (((pickOrder (w.params.setOrder S ep) es)[i]?).map λe=>(e.2,sl)) s):aG (aI prog w) A (setNext S sl i ep) Q E s:=by
 refine wb9 (dI y.obj rfl y.fits ?_);refine wb9 (o9 ?_);rw[h];simp only[bne_self_eq_false,bT,if_false];exact wb9 (Mx y h (wu9 k))
def N8(y:mV (rQ w) s.heap S es ep t)(B:es[p]?=a_ x)(k:Q x.2 s):aG (aI prog w) A (setNextDrawn S p ep) Q E s:=by
 refine wb9 (dI y.obj rfl y.fits ?_);simp only[bne_self_eq_false,bT,if_false];rw[B];exact wu9 k
def Kt{c:aj}(y:BJ w s.heap I S es ep t m i)(k:∀h',BJ w h' I S es ep t m (i+1)->du I s.heap h'->Q (.done (.ret r)) { s with heap:=h' })(hf:a=m.first t (i+1))(hb:b=rawInt ((i:Int)+1)) :
  aG (aI prog w) A (do setField (.ref I) 0 a;setField (.ref I) 1 b;ret r) Q E s:=by
 subst hf;subst hb;refine wb9 (bH y.it (by simp) λh1 d s1=>wb9 (bH d (by simp) λh2 f s2=>wu9 ?_));have kp:∀b o,b≠I->s.heap.get? b=a_ o->h2.get? b=a_ o:=λb o n e=>s2.extBut _ _ n (s1.extBut _ _ n e);refine k h2 ⟨?_,y.st.keep λo e=>kp _ _ y.ne e,y.md.keep kp,y.ne⟩ (s1.trans s2);rw[f];simp
end
section
variable{A:cc}{s:ak}
def D9(y:BJ w s.heap I S es ep t m i)
  (k:aG (aI prog w) A (if let .int slot _:=m.first t i then do
    match <-setNext S slot.toNat (i:Int).toNat (ep:Int).toNat with
    |some (x,next)=>do setField (.ref I) 0 (rawInt next);setField (.ref I) 1 (rawInt ((i:Int)+1));ret x
    |none=>do setField (.ref I) 2 .none;raiseNew (<-newExc (.type "StopIteration") [])
   else do
    let a_ places <-seqItems? (m.first t i)|unsupported "internal:set_iterator"
    match places[(i:Int).toNat]? with
    |some (.int place _)=>do let x <-setNextDrawn S place.toNat (ep:Int).toNat;setField (.ref I) 1 (rawInt ((i:Int)+1));ret x
    |some _=>unsupported "internal:set_iterator"
    |none=>do setField (.ref I) 0 (rawInt 0);setField (.ref I) 2 .none;raiseNew (<-newExc (.type "StopIteration") [])) Q E s) :
  aG (aI prog w) A (gC.«set_iterator.__next__» ⟨[.ref I],[]⟩) Q E s:=by
 show aG (aI _ w) A (fieldsOf _ >>= _) Q E s;refine wb9 (wpAny_fieldsOf y.it rfl ?_);refine wb9 (Py y.st.obj rfl y.st.fits ?_);simp only[bne_self_eq_false,bT,if_false];exact k
def tO{α:Type}{Q:α->ak->Prop}(B:A.handled=b_)(k:∀h' e,(∀b o,s.heap.get? b=a_ o->h'.get? b=a_ o)->(∃o,h'.get? e=a_ o/\o.cls=.type "StopIteration")->E (.ref e) { s with heap:=h' }) :
  aG (aI prog w) A (do raiseNew (<-newExc (.type "StopIteration") []):BO α) Q E s:=by
 refine wb9 ?_;refine wb9 (dJ (wb9 (jZ (by first|rfl|(rfl)) (dJ ?_ (by size_fits)))) (by size_fits));refine wb9 (wpAny_handled ?_);rw[B];exact wb9 (wu9 (wpAny_throw (k _ _ (λb o e=>hp9 _ (hp9 _ e)) ⟨_,aL _ rfl,rfl⟩)))
def M1{Q:aj->ak->Prop}(y:BJ w s.heap I S es ep t m i)(hi:i<es.size)(k:∀h' v,(m.ord w S es ep)[i]?=a_ v->BJ w h' I S es ep t m (i+1)->du I s.heap h'->Q v { s with heap:=h' }) :
  aG (aI prog w) A (gC.«set_iterator.__next__» ⟨[.ref I],[]⟩) (λf s'=>∃v,f=.done (.ret v)/\Q v s') E s:=by
 refine D9 y ?_
 cases m with
 |tx=>
   refine (?_ : aG (aI _ w) A (setNext S 0 i ep >>= _) _ E s);refine wb9 (EF y.st y.md ?_)
   have j:(pickOrder (w.params.setOrder S ep) es).size=es.size:=by
    simpa using ((rC _ es).length_eq)
   rw[a8 (by rwa[j])];refine Kt (c:=.none) y (λh' d g=>⟨_,rfl,k h' _ ?_ d g⟩) rfl rfl;simp only[Mode.ord,aO,iy]
   simp_all
 |dr T ps=>
   obtain⟨u,h,l⟩:=id y.md;refine wb9 (dB l rfl ?_);have hl:ps.length=es.size:=by rw[h.length_eq,a6]
   have a:i<ps.length:=aa hi (ae hl.symm);have hp :=bf.mp (h.mem_iff.mp (br a));have q:((ps.map λ(p:Nat)=>rawInt p).toArray)[(i:Int).toNat]?=a_ (rawInt (ps[i])):=by simp[a]
   dsimp only;rw[q];refine wb9 (N8 y.st (a8 hp) ?_);refine wb9 (bH y.it (by simp) λh1 r s1=>wu9 ⟨_,rfl,k h1 _ ?_ ⟨?_,y.st.keep λo e=>s1.extBut _ _ y.ne e,y.md.keep λb o n e=>s1.extBut _ _ n e,y.ne⟩ s1⟩)
   .simp only[Mode.ord,aO]
    simp_all
   .rw[r];simp[Mode.first,rawInt]
 |pl=>
   refine wb9 (EG y.st y.md.1 y.md.2 (aD hi) ?_);rw[a8 hi];refine Kt (c:=.none) y (λh' d g=>⟨_,rfl,k h' _ ?_ d g⟩) rfl rfl;simp[Mode.ord,hi]
def Rn(B:A.handled=b_)(y:BJ w s.heap I S es ep t m es.size)(k:∀h' e,(∀b o,b≠I->s.heap.get? b=a_ o->h'.get? b=a_ o)->(∃o,h'.get? e=a_ o/\o.cls=.type "StopIteration")->E (.ref e) { s with heap:=h' }) :
  aG (aI prog w) A (gC.«set_iterator.__next__» ⟨[.ref I],[]⟩) Q E s:=by
 refine D9 y ?_
 cases m with
 |tx=>
   refine (?_ : aG (aI _ w) A (setNext S 0 es.size ep >>= _) _ E s);refine wb9 (EF y.st y.md ?_)
   have c:(pickOrder (w.params.setOrder S ep) es).size=es.size:=by
    simpa using ((rC _ es).length_eq)
   rw[gZ (ae c)];exact wb9 (bH y.it (by simp) λh1 a s1=>tO B λh' e kp he=>k h' e (λb o n q=>kp _ _ (s1.extBut _ _ n q)) he)
 |dr T ps=>
   refine wb9 (dB (id y.md).2.2 rfl ?_);have hl:ps.length=es.size:=by rw[(id y.md).2.1.length_eq,a6]
   dsimp only;rw[gZ (by simp[hl])];exact wb9 (bH y.it (by simp) λh1 a s1=>wb9 (bH a (by simp) λh2 h s2=>tO B λh' e kp he=>k h' e (λb o n q=>kp _ _ (s2.extBut _ _ n (s1.extBut _ _ n q))) he))
 |pl=>
   refine wb9 (EG y.st y.md.1 y.md.2 (ao _) ?_);rw[gZ (ao _)];exact wb9 (bH y.it (by simp) λh1 a s1=>tO B λh' e kp he=>k h' e (λb o n q=>kp _ _ (s1.extBut _ _ n q)) he)
def BJ.ty(y:BJ w s.heap I S es ep t m i):s.TypeIs (.ref I) "set_iterator":=⟨_,y.it,rfl⟩
def MY(y:BJ w s.heap I S es ep t m i)(hi:i<es.size)(k:∀h' v,(m.ord w S es ep)[i]?=a_ v->BJ w h' I S es ep t m (i+1)->du I s.heap h'->Q (a_ v) { s with heap:=h' }) :
  aG (aI prog w) A (pyNext (.ref I)) Q E s:=by
 exact wb9 (gH (cB y.ty fo (bJ fo y.ty pJ (M1 y hi λh' v a b c=>wu9 (k h' v a b c)) (pL _))))
def Rj(B:A.handled=b_)(y:BJ w s.heap I S es ep t m es.size)(k:∀h',(∀b o,b≠I->s.heap.get? b=a_ o->h'.get? b=a_ o)->Q b_ { s with heap:=h' }) :
  aG (aI prog w) A (pyNext (.ref I)) Q E s:=by
 refine wb9 (gH (cB y.ty fo (bJ fo y.ty pJ (Rn B y λh' e kp he=>?_) (pL _))));obtain⟨o,ho,hc⟩:=he;exact wb9 (dv ⟨o,ho,hc⟩ qZ (wu9 (k _ kp)))
end
def wm:entryFor table "set_iterator.__iter__"=a_ gC.«dict_keyiterator.__iter__» :=B5 (id':="dict_keyiterator.__iter__") (by kernel_rfl) rfl (by decide +kernel) (by kernel_rfl)
def pG:HV "set_iterator" "__iter__" "set_iterator.__iter__":=.of (owner:="set_iterator") (n:="__iter__") (by kernel_rfl) (by decide +kernel) (by decide +kernel) (by decide +kernel) (.inl (by decide +kernel)) (by kernel_rfl)
def wu(a:aj):argsOk "set_iterator.__iter__" ⟨[a],[]⟩:=by
 kernel_rfl
noncomputable def Mode.fp:Mode->List aK
 |.dr T _=>[T]
 |_=>[]
section
variable{A:cc}{s:ak}{es:Array (Int×aj)}{m:Mode}
def BJ.frame{h':cg}(y:BJ w h I S es ep t m i)(k:∀b∈I::S::m.fp,∀o,h.get? b=a_ o->h'.get? b=a_ o):BJ w h' I S es ep t m i:=by
 refine⟨k I (.head _) _ y.it,y.st.keep λo e=>k S (.tail _ (.head _)) o e,?_,y.ne⟩
 cases m with
 |dr T ps=>exact⟨y.md.1,y.md.2.1,k T (.tail _ (.tail _ (.head _))) _ y.md.2.2⟩
 |tx=>exact y.md
 |pl=>exact y.md
def zZ(hh:A.handled=b_):Walks prog w A I (I::S::m.fp) [I] es.size (λi v=>(m.ord w S es ep)[i]?=a_ v) (λi h=>BJ w h I S es ep t m i) where
 sub:=λb hb=>by rw[az.mp hb];exact .head _
 frame:=λi h h' st k=>st.frame k
 item:=λi s Q E hi st k=>MY st hi λh' v a b c=>k v h' s.toks a b λb o hb e=>c.extBut _ _ (λz=>hb (z▸az.mpr rfl)) e
 done:=λs Q E st k=>Rj hh st λh' kp=>k h' s.toks λb o hb e=>kp b o (λz=>hb (z▸az.mpr rfl)) e
 self:=λi s Q E st k=>by
  refine vV st.ty pG (bJ pG st.ty wm ?_ (wu _));show aG _ _ (ret (.ref I)) _ _ s;exact wu9 ⟨_,rfl,"set_iterator",_,st.ty,fo.lookup,k⟩
def CH(y:mV (rQ w) s.heap S es ep t)(B:es.size<=aC)
  (k:∀(h1:cg)d I m,s.heap.objs.size<=I->(∀b∈m.fp,s.heap.objs.size<=b)->(∀b o,s.heap.get? b=a_ o->h1.get? b=a_ o)->BJ w h1 I S es ep t m 0->Q (.ref I) { s with heap:=h1,drawn:=d }) :
  aG (aI prog w) A (B4 (.ref S)) Q E s:=by
 refine vV ⟨_,y.obj,rfl⟩ zi (bJ zi ⟨_,y.obj,rfl⟩ Bj ?_ (PySem.F.args_set_iter_1 _));refine (?_ : aG (aI _ w) _ (Mf S >>= _) _ _ s);refine wb9 (wb9 (Py y.obj rfl y.fits (wu9 ?_)))
 have dr:∀{c:cc}{g:aj->ak->Prop}{Q1:Bool->ak->Prop},Q1 (!w.params.followText "set-order" && (!t.plain && decide (es.size > 1))) s->aG (aI prog w) c (setDrawn S) Q1 g s:=by
  intro c g Q1 h;exact wb9 (dI y.obj rfl y.fits (wb9 (o9 (wu9 h))))
 have one:∀{c:cc} {g:aj->ak->Prop} {Q1:Fin->ak->Prop} {m:Mode} (s1:ak) (f:aj),f=m.first t 0->m.Ok w es t s1.heap s1.heap.objs.size->s.heap.objs.size<=s1.heap.objs.size->(∀b o,s.heap.get? b=a_ o->s1.heap.get? b=a_ o)->
   (∀h1,h1=s1.heap.push { cls:=.type "set_iterator",data:=.fields #[m.first t 0,rawInt (0),.ref S,rawInt es.size,rawInt ep] }->BJ w h1 s1.heap.objs.size S es ep t m 0->Q1 (.done (.ret (.ref s1.heap.objs.size))) { s1 with heap:=h1 })->
   aG (aI prog w) c (do ret (<-newFields "set_iterator" [f,rawInt 0,.ref S,rawInt es.size,rawInt (<-setEpoch S)])) Q1 g s1:=by
  intro c g Q1 m s1 f hf ok le ex h;have a:=y.keep λo e=>ex _ _ e;refine wb9 (wpAny_setEpoch_of a.obj rfl a.fits ?_);refine wb9 ?_;refine dJ ?_ (by size_fits);subst hf;exact wu9 (h _ rfl ⟨aL _ rfl,a.keep λo e=>hp9 _ e,ok.keep λb o n e=>hp9 _ e,bb (aW (hl9 y.obj) le)⟩)
 refine wb9 (dr ?_)
 cases hb:w.params.followText _ with
 |true=>
   refine wb9 (wu9 ?_);refine one (m:=.tx) s _ rfl hb (ao _) (λb o e=>e) λh1 e1 a=>⟨_,rfl,_,_,a.ty ,fo.lookup,?_⟩
   subst e1;exact k _ _ _ _ (ao _) (λb h=>by cases h) (λb o e=>hp9 _ e) a
 |false=>
   cases hd:(!t.plain && decide (es.size > 1))with
   |false=>
     refine wb9 (wu9 ?_);refine one (m:=.pl) s _ rfl ⟨hb,hd⟩ (ao _) (λb o e=>e) λh1 e1 a=>⟨_,rfl,_,_,a.ty ,fo.lookup,?_⟩
     subst e1;exact k _ _ _ _ (ao _) (λb h=>by cases h) (λb o e=>hp9 _ e) a
   |true=>
     refine wb9 (Fx _ (aR _) s (by simp) λps d pm=>?_);have hl:ps.length=es.size:=by rw[pm.length_eq,a6]
     refine wb9 (B3 ?_ (by simp_all));refine one (m:=.dr _ ps) _ _ rfl ⟨?_,pm,(aL _ rfl)⟩ ?_ (λb o e=>hp9 _ e) ?_
     .simp
     .simp
     .intro h1 e1 a;refine⟨_,rfl,_,_,a.ty ,fo.lookup,?_⟩;subst e1;refine k _ d _ _ ?_ ?_ (λb o e=>hp9 _ (hp9 _ e)) a
      .simp
      .intro b hb;rw[az.mp hb];exact ao _
end
section
variable{A:cc}{s:ak}
def KH(ty:s.TypeIs v "set")(k:Q d_ s):aG M A (j4 v) Q E s:=by
 refine wb9 (eJ ty PySem.F.slot_set_len.lookup ?_);refine wb9 (dv ty sub_set_self ?_);exact wb9 (kB ty (wu9 k))
def De{ord:List aj}(h:ItemsOf (λi v=>ord[i]?=a_ v) acc ord.length):acc.toList=ord:=by
 obtain⟨h1,h2⟩:=h;apply mM;intro i;by_cases hi:i<acc.size
 .have:=h2 i _ (a8 hi)
  simp_all
 simp_all
def vy{T:String}{D:Drawn->(Nat->aj->Prop)->Prop}{K:aK->Prop}(Z:s.TypeIs (.ref S) T)
  (t1:(kc T == kc "list")=d_)(t2:(kc T == kc "tuple")=d_)(hz:n<=aC)
  (it:∀{Y:aj->ak->Prop}{Q1:aj->ak->Prop}(h0:cg),(∀b o,s.heap.get? b=a_ o->h0.get? b=a_ o)->s.heap.objs.size<h0.objs.size->(∀(h1:cg)d I fp R W,Walks prog w A.in1 I fp [I] n R W->W 0 h1->s.heap.objs.size∉fp->(∀b o,K b->s.heap.get? b=a_ o->b≠I)->
   (∀b o,h0.get? b=a_ o->h1.get? b=a_ o)->D d R->Q1 (.ref I) { s with heap:=h1,drawn:=d })->aG (aI prog w) A.in1 (B4 (.ref S)) Q1 Y { s with heap:=h0 })
  (hint:∀{Y:aj->ak->Prop}{Q1:Bool->ak->Prop}(h1:cg)d,(∀b o,s.heap.get? b=a_ o->h1.get? b=a_ o)->(∀b O,Q1 b { s with heap:=h1,drawn:=d,toks:=O })->aG (aI prog w) A.in1 (j4 (.ref S)) Q1 Y { s with heap:=h1,drawn:=d })
  (k:∀(h1:cg)d O B R,D d R->s.heap.objs.size<h1.objs.size->(∀b o,K b->s.heap.get? b=a_ o->h1.get? b=a_ o)->BP R B n->Q B.toList { s with heap:=h1,drawn:=d,toks:=O }):aG (aI prog w) A (collect (.ref S)) Q E s:=by
 refine wb9 (wpAny_runValue (lX PySem.F.entry_proto_collect ?_));refine wb9 (dJ ?_);refine wu9 (Mu (F7 PySem.F.plain_list_iadd _) (lX PySem.F.entry_list_iadd ?_));obtain⟨C,t,cS⟩:=Z;have ne:=i8 (hl9 t);generalize j:s.heap.objs.size=L at *;generalize g:({ cls:=.type _,data:=.seq _ }:lF)=lo;have a:∀b o,s.heap.get? b=a_ o->(s.heap.push lo).get? b=a_ o:=λ_ _=>hp9 _;have gL:(s.heap.push lo).get? L=a_ { cls:=.type "list",data:=.seq (#[]) }:=by rw[<-j];exact(aL _ (by rw[<-g];rfl)).trans (by rw[<-g])
 refine (?_ : aG _ A.in1 (Builtin.List.listExtendWith _ _ _) _ _ _);refine wb9 (kB ⟨_,a _ _ t,cS⟩ ?_);have b1:sj (.ref L) (.ref S)=d_:=by simp[sj,ne]
 simp only[b1,t1,t2,Bool.or_false,bT,if_false];refine wb9 (it _ a (hl9 gL) λh1 d I fp R W u st nf y ex hd=>?_);refine wb9 (dQ (hint h1 d (λb o e=>ex _ _ (a _ _ e)) λb O=>?_));have l:=ex _ _ gL;refine zv (λ_=>wb9 (iF (wb9 (wb9 (p7 l rfl ?_))))) λ_=>?_;have v:=iD (eN (·.push fJ)) l rfl;refine p7 v rfl ?_;have x:=iD (eN (·.pop)) v rfl;have f:∀b o,b≠L->h1.get? b=a_ o->((h1.update L (eN (·.push fJ))).update L (eN (·.pop))).get? b=a_ o:=λb o n e=>(jI _ _ (cj n)).trans ((jI _ _ (cj n)).trans e)
 rotate_left
 have x:=l;have f:∀b o,b≠L->h1.get? b=a_ o->h1.get? b=a_ o:=λ_ _ _ e=>e
 all_goals
  refine wu9 (Mu (F7 PySem.F.plain_extend_loop _) (codeAny_extend_loopS u.toS hz _ nf _ n 0 _ _ _ rfl (aT _) (u.frame _ _ _ st λb hb o e=>f b o (λz=>nf (z▸hb)) e) x (ItemsOf.nil _) λs' B c i gS h=>?_));obtain⟨h',g',d',p,r⟩:=s';obtain rfl:g'=s.gens:=i.gens;obtain rfl:d'=d:=i.drawn;obtain rfl:r=s.os:=i.os;refine wb9 (wpAny_load gS (wu9 (k h' _ p _ R hd (hl9 gS) (λb o z q=>i.heap b o (λm=>?_) (f b o (λm=>?_) (ex _ _ (a _ _ q)))) h)))
  .rcases aw.mp m with m|m
   .subst j;exact absurd (hl9 q) (m▸bx _)
   .exact y b o z q (az.mp m)
  .subst j;exact absurd (hl9 q) (m▸bx _)
def Bq(hh:A.handled=b_)(y:mV (rQ w) s.heap S es ep t)(O:es.size<=aC)
  (k:∀h1 d B vs,(∀b o,s.heap.get? b=a_ o->h1.get? b=a_ o)->s.heap.objs.size<=h1.objs.size->vs.Perm (es.toList.map (·.2))->Q vs { s with heap:=h1,drawn:=d,toks:=B }):aG (aI prog w) A (collect (.ref S)) Q E s:=by
 refine vy (K:=λ_=>True) (D:=λ_ R=>∃ord:List aj,ord.Perm (es.toList.map _)/\R=λi v=>ord[i]?=a_ v) ⟨_,y.obj,rfl⟩ cy cy O (λh0 ex lt c=>CH (y.keep λo e=>ex _ _ e) O λh1 d I m f g ex it=>c h1 d I _ _ _ (zZ hh) it (λz=>?_) (λb o _ e z=>(absurd (cM (hl9 e) (aW lt f)) (z▸bx _))) ex ⟨_,Mode.uM it.md,rfl⟩)
  (λh1 d ex c=>KH ⟨_,ex _ _ y.obj,rfl⟩ (c _ _)) λh1 d B h _ ⟨ord,pm,e⟩ sz kp a=>?_
 .rcases aw.mp z with z|z
  .exact absurd (aW lt f) (z▸bx _)
  rcases aw.mp z with z|z
  .exact absurd (hl9 y.obj) (z▸bx _)
  .exact absurd (aW lt (g _ z)) (bx _)
 .subst e;have hl:ord.length=es.size:=by rw[pm.length_eq,aA,bF]
  rw[<-hl]at a;rw[De a];exact k h1 d B _ (λb o=>kp b o trivial) (aD sz) pm
end
section
variable{prog:cz}{w:dh}{A:cc}{s:ak}
def Vp(prog:cz)(w:dh)(A:cc)(s:ak)(v:aj)(Gd:List aj->Prop):Prop:=
 ∀(a:cc)(c:aj->ak->Prop)(Q':List aj->ak->Prop),a.handled=A.handled->(∀vs h1 d e,(∀b o,s.heap.get? b=a_ o->h1.get? b=a_ o)->s.heap.objs.size<=h1.objs.size->Gd vs->Q' vs { s with heap:=h1,drawn:=d,toks:=e })->
  aG (aI prog w) a (collect v) Q' c s
end
end L2
namespace L2
open PySem PySem.W PySem.Spec PyProof.Rows
section
variable{A:cc}{s:ak}
def _root_.L2.qW.first(x:qW I h ks vs):(ks=[]/\vs=[])\/∃k v B O,ks=k::B/\vs=v::O/\I.is h k v/\qW I h B O:=by
 cases x with
 |nil=>exact .inl ⟨rfl,rfl⟩
 |cons a b=>exact .inr ⟨_,_,_,_,rfl,rfl,a,b⟩
def Hb{fin:Bool}(O:A.units+2<=dM)(Y:qW (i3 P w) s.heap kx xs):∀{B:List (i3 P w).κ} {ys:List aj} (i:Nat),qW (i3 P w) s.heap B ys->kx.map sN=B.map sN->(∀k∈kx,Ap (sN k)=c_)->
  (b=c_->i=0->∀k,kx.head? = a_ k->sN k=[1])->Q (if kx=B then fin else vU (kx.map cN) (B.map cN)) s->KatLex P w A b fin Q (xs.zip ys) i s:=by
 induction Y with
 |nil=>
   intro B ys i d hs _ _ h
   cases d with
   |nil=>exact kat_nil (by simpa using h)
   |cons _ _=>cases hs
 | @cons f u kx xs h1 Y n=>
   intro B ys i d hs h3 h0 h
   cases d with
   |nil=>cases hs
   | @cons m v B ys h2 d=>
     simp only[aB,fM]at hs;refine kat_cons ((i3 P w).eqb O h1 h2 (λe=>?_) λe=>?_)
     .subst e;refine kat_yes (n _ d hs.2 (λk hk=>h3 k (ju _ hk)) (λ_ z=>((aZ (ae z) (aT _))).elim) ?_);by_cases e2:kx=B
      .simp_all
      .rw[if_neg e2];rw[if_neg λz=>e2 (gQ z).2,aB,aB]at h;rwa[show vU _ _=vU (kx.map cN) _ by rw[vU,lg,if_pos rfl]]at h
     .rw[if_neg λz=>e (gQ z).1,aB,aB]at h;rw[show vU _ _=WU _ _ by rw[vU,lg,if_neg (λz=>e (Ls hs.1 (h3 _ jv) z))]]at h;refine kat_no ?_;by_cases j:(b && i == 0)=c_
      .rw[j];simp only[ag,beq_iff_eq]at j;have g:=h0 j.1 j.2 f rfl
       rcases uy hs.1 (h3 _ jv)with⟨a,c,rfl,rfl,q⟩|⟨a,c,rfl,rfl,q1,q2⟩|⟨a,c,rfl,rfl,q1,q2,q3,q4⟩
       .cases a with
        |inl _=>simp[sN]at g
        |inr a=>
          cases c with
          |inl _=>cases q
          |inr c=>
            rcases cZ (k:=.inr a) h1 with⟨_,_,e1,_⟩|⟨x1,o,e1,rfl⟩
            .cases e1
            .rcases cZ (k:=.inr c) h2 with⟨_,_,e2,_⟩|⟨p,r,e2,rfl⟩
             .cases e2
             .cases e1;cases e2;refine oneLt_str ?_;simp only[cN]at h;rwa[yu,show cK _=a.cps.toList.map eO from rfl,show cK _=c.cps.toList.map eO from rfl,(yt a.cps.toList c.cps.toList)]at h
       .simp only[sN]at g;simp_all
       .simp only[sN]at g;simp_all
      .rw[Bool.eq_false_iff.mpr j];refine kat_one _ _ (Ol O h1 h2 hs.1 (h3 _ jv) ?_);exact h
def Y7(B:A.units+2<=dM)(ex:qd P w s.heap x p)(O:qd P w s.heap y c)(hs:x.map sN=y.map sN)(h3:∀k∈x,Ap (sN k)=c_)(h1:b=c_->∀k,x.head? = a_ k->sN k=[1])
  (h:Q (vU (x.map cN) (y.map cN)) s):aG (aI P w) A (keyLt' (tuples' b) (.ref p) (.ref c)) Q E s:=by
 refine ac λ_ n=>?_;obtain⟨l,xs,na,f,_,g,a⟩:=ex;obtain⟨m,ys,nb,i,_,j,d⟩:=O;refine n ?_;refine kat_lt f g i j (Hb B a 0 d hs h3 (λz _=>h1 z) ?_)
 have hl:xs.size=ys.size:=by
  have e:=congrArg fD hs;simp only[aA]at e;rw[<-bF,<-bF,a.length,d.length,e]
 by_cases e:x=y
 .rw[if_pos e,hl];rw[e,nF.ir]at h;simpa using h
 simp_all
noncomputable def Qg(B:List (List Nat)):Option Bool:=match B.head? with
 |some [1]=>a_ c_
 |some [2]=>a_ d_
 |some (3::_)=>a_ d_
 |_=>b_
def KZ(q:YY P w s.heap k v)(hb:Qg (sN k::sh)=a_ b):∃T:aj,(T=if b=c_ then .type "str" else .type "tuple")/\∀M,Looks M s.heap (typeOf v) T:=by
 cases k with
 |inl k=>
   cases k with
   |inl i=>simp[Qg,sN]at hb
   |inr a=>
     have e:b=c_:=by simpa [Qg,sN]using hb.symm
     subst e
     rcases cZ (k:=.inr a) q with⟨_,_,z,_⟩|⟨x1,f,_,rfl⟩
     .cases z
     .exact⟨_,rfl,λM=>Looks.of_pure rfl⟩
 |inr ks=>
   have e:b=d_:=by
    simp only[Qg,sN,Mq]at hb;by_cases c:ks.all sI=c_
    .simp_all
    simp_all
   subst e;obtain⟨p,rfl,o,its,n,go,d,_⟩:=q;exact ⟨_,rfl,λM=>d▸(Looks.ld go).andThen .now⟩
def TQ{js:List Nat}{kf:Nat->List NK}{O:Nat->aK}{Y:List (List Nat)}{b:Bool}{Q:pq->ak->Prop}(hk:∀j∈js,qd P w s.heap (kf j) (O j))(h1:∀j∈js,(kf j).map sN=Y)(hb:Qg Y=a_ b)(B:0<js.length)(h:Q (tuples' b) s) :
  aG (aI P w) A (keyKind' (js.map λj=>c7 (O j)).toArray) Q E s:=by
 have fs:∃fs,KatTups s.heap (js.map λj=>c7 (O j)) fs/\fs.length=js.length/\∀v∈fs,Looks (aI P w) s.heap (typeOf v) (if b=c_ then .type "str" else .type "tuple"):=by
  clear h B
  induction js with
  |nil=>exact⟨[],KatTups.nil,rfl,λv a=>by cases a⟩
  |cons j js k=>
    obtain⟨fs,d,e,f⟩:=k (λj g=>hk j (ju _ g)) (λj g=>h1 j (ju _ g));obtain⟨o,its,n,e1,e2,e3,l⟩:=hk j jv;have c:=h1 j jv
    rcases l.first with⟨z,_⟩|⟨u,i,m,p,z,hl,q,x⟩
    .rw[z]at c;rw[<-c]at hb;cases hb
    .rw[z]at c;rw[<-c]at hb;obtain⟨T,r,t⟩:=KZ q hb;refine⟨_,KatTups.cons e1 e2 e3 (by rw[<-iy,hl];rfl) d,by simp[e],λv a=>?_⟩
     rcases aw.mp a with rfl|a
     .rw[<-r];exact t _
     .exact f v a
 obtain⟨fs,d,e,f⟩:=fs;refine kat_kind d (aa B (ae e.symm)) f (by cases b<;>decide) ?_
 cases b with
 |true=>exact h
 |false=>exact h
end
section
variable{s:ak}
def Gx{vs:List aj}(h:vs.length<2):((vs.toArray.zip vs.toArray).map λx=>x.2)=((aR vs.length).toArray.toList.map λi=>vs.getD i fJ).toArray:=by
 grind
def IY(h:n<2):Pm (aR n).toArray n:=by
 have a:∀k,k<n->pg (aR n).toArray k=k:=λk hk=>Wz (by simp[hk]);exact⟨by simp,λk hk=>by rwa[a k hk],λi j hi b e=>(aF (j8 hi h) (j8 b h)),by simp⟩
def Dc{vs:List aj}(ho:s.heap.get? a=a_ (seqObj "list" vs.toArray n))(B:vs.length<=300)(o:Po lt vs.length)
  (O:2<=vs.length->∀(h':cg)(Y:aj->ak->Prop)(Q:pq->ak->Prop),(∀b o,b≠a->s.heap.get? b=a_ o->h'.get? b=a_ o)->Q (tuples' b) { s with heap:=h' }->aG (aI P w) A (keyKind' vs.toArray) Q Y { s with heap:=h' })
  (Z:∀(h':cg)(Y:aj->ak->Prop)(Q:Bool->ak->Prop)i j,i<vs.length->j<vs.length->(∀b o,b≠a->s.heap.get? b=a_ o->h'.get? b=a_ o)->Q (lt i j) { s with heap:=h' }->
   aG (aI P w) A (keyLt' (tuples' b) (vs.getD i .none) (vs.getD j .none)) Q Y { s with heap:=h' })
  (h:∀p:Array Nat,Pm p vs.length->Up lt p vs.length->R (.done (.ret .none)) { s with heap:=sortedHeap s.heap a vs (p.toList.map λi=>vs.getD i .none).toArray }) :
  aG (aI P w) A (gC.«list.sort» ⟨[.ref a],[]⟩) R E s:=by
 rw[list_sort_plain];refine wb9 (listItems_at ho rfl (wb9 (Gb ho rfl ?_ (by exact aa B cy) (aT _))));obtain⟨e1,k⟩:∃e1,(s.heap.update a _).get? a=a_ (seqObj _ _ e1):=⟨_,get?_update_seq ho _⟩
 refine wb9 (Mi k rfl (wb9 (B3 ?_ (by exact aa B (by decide)))));refine wb9 (PySem.wpAny_newList ?_ (aT _));refine dQ ?_;have g:(((s.heap.update a (eN _)).push (seqObj "tuple" vs.toArray 0)).push (seqObj "list" #[] 0)).get? a=a_ (seqObj _ _ e1):=hp9 _ (hp9 _ k)
 have kp:∀b o,b≠a->s.heap.get? b=a_ o->(((s.heap.update a (eN λ_=>(#[]))).push (seqObj "tuple" vs.toArray 0)).push (seqObj "list" #[] 0)).get? b=a_ o:=λb o nb e=>
  hp9 _ (hp9 _ ((Heap.get?_update_ne _ _ _ _ nb).trans e))
 generalize l:((s.heap.update a (eN _)).push (seqObj _ _ 0)).push (seqObj _ _ 0)=h6 at g kp ⊢;by_cases c:vs.toArray.size<2
 .rw[if_pos c,if_pos c];refine wb9 (wu9 ?_);refine wb9 (wu9 ?_);have hl:vs.length<2:=by exact c
  have hh:=h (aR _).toArray (IY hl) (λi j h1 h2=>(Tu h2 hl h1).elim);refine wb9 (Mi g rfl (wb9 (Gb g rfl ?_ (aT _) (by show((vs.toArray.zip _).map _).size<=_;simp;exact aa B cy))));simp only[bne_self_eq_false,bT,if_false];unfold sortedHeap at hh;rw[l]at hh;rw[<-(Gx hl)]at hh;exact wu9 hh
 rw[if_neg c,if_neg c];refine wb9 (O (by simp_all) h6 _ _ kp ?_);refine wb9 (dz (IW (E:=E) o λi j hi m C q=>Z h6 _ C i j hi m kp q) ?_ λ_ _ e=>e);rintro⟨⟨⟩,st'⟩ s' ⟨rfl,p,p1,p2,f,hf⟩;have d:=kat_snds rfl f;have hsz:(p.toList.map λi=>vs.getD i fJ).length=vs.length:=by rw[aA,bF,p1.sz]
 refine wb9 (Mi g rfl (wb9 (Gb g rfl ?_ (aT _) (by rw[d];show(p.toList.map _).length<=_;rw[hsz];exact aa B cy))));rw[hf];simp only[bne_self_eq_false,bT,if_false];have:=h p p1 p2;unfold sortedHeap at this;rw[l]at this;rw[d];exact wu9 this
end
section
variable{P:cz}{w:dh}{A:cc}{E:aj->ak->Prop}{s:ak}{kf:Nat->List NK}{av:Nat->aK}{n:Nat}
def CO{js:List Nat}:∀{vs:List aj},lY (λv j=>v=c7 (av j)) vs js->vs=js.map λj=>c7 (av j):=by
 induction js with
 |nil=>intro vs h;cases h;rfl
 | cons j js c=>intro vs h;cases h with
   |cons a b=>rw[a,c b];rfl
def CN{js:List Nat}:∀{es:List (Int×aj)},lY (λ(e:Int×aj)j=>e.2=c7 (av j)) es js->lY (λv j=>v=c7 (av j)) (es.map (·.2)) js:=by
 induction js with
 |nil=>intro es h;cases h;exact .nil
 | cons j js c=>intro es h;cases h with
   |cons a b=>exact .cons a (c b)
structure Sel(kf:Nat->List NK)(n:Nat)(js:List Nat):Prop where
 nd:(js.map kf).Nodup
 lt:∀j∈js,j<n
 all:∀j,j<n->kf j∈js.map kf
def Sel.perm{B:List Nat}(h:Sel kf n js)(p:B.Perm js):Sel kf n B:=
 ⟨(p.map kf).nodup_iff.mpr h.nd,λj a=>h.lt j (p.mem_iff.mp a),λj a=>(p.map kf).mem_iff.mpr (h.all j a)⟩
def Sel.len(h:Sel kf n js):js.length<=n:=by
 have:=rJ ((fT.mp h.nd).imp λx e=>x (congrArg kf e)) fG λj b=>bf.mpr (h.lt j b)
 simp_all
def Hq(hh:A.handled=b_)(y:BM P w (rQ w) s.heap S kf av n)(B:n<=300) :
  Vp P w A s (.ref S) (λvs=>∃js,vs=js.map (λj=>c7 (av j))/\Sel kf n js):=by
 refine ac λ_ r=>?_;obtain⟨es,ep,t,js,c,o,b,f,g,h⟩:=y;refine r ?_;have sl:Sel kf n js:=⟨f,g,h⟩
 intro p q Q' e k;refine Bq (e.trans hh) c (by rw[eK];exact qV (ae (pT b)) sl.len B) λh1 d i vs ex sz pm=>k vs h1 d i ex sz ?_;obtain⟨a,l,m⟩:=sO pm (CN b);exact⟨a,CO l,sl.perm m⟩
abbrev codeN(k:List NK):List (List (List Int)):=k.map cN
theorem code_inj:∀{x y:List NK},x.map sN=y.map sN->(∀k∈x,Ap (sN k)=c_)->codeN x=codeN y->x=y
 |[],[],_,_,_=>rfl
 |[],_::_,h,_,_=>by cases h
 |_::_,[],h,_,_=>by cases h
 |a::x,b::y,h,h3,e=>by
   simp only[aB,fM]at h e;rw[Ls h.1 (h3 _ jv) e.1,code_inj h.2 (λk hk=>h3 k (ju _ hk)) e.2]
set_option tactic.hygienic true in
def sorted_N{v:aj}{O:List (List Nat)}{b:Bool}{Q:aj->ak->Prop}(Z:A.in1.in1.units+2<=dM)(hk:∀j,j<n->qd P w s.heap (kf j) (av j))(hsh:∀j,j<n->(kf j).map sN=O)(h3:∀x∈O,Ap x=c_)(h1:Qg O=a_ b)
  (hc:Vp P w A s v (λvs=>∃js,vs=js.map (λj=>c7 (av j))/\Sel kf n js/\js.length<=300))
  (k:∀h' d Y l js e,(∀b o,s.heap.get? b=a_ o->h'.get? b=a_ o)->s.heap.objs.size<=l->h'.get? l=a_ (seqObj "list" (js.map λj=>c7 (av j)).toArray e)->Sel kf n js->
   (js.map λj=>codeN (kf j)).Pairwise (λa b=>vU a b=c_)->Q (.ref l) { s with heap:=h',drawn:=d,toks:=Y }) :
  aG (aI P w) A (call (.builtin "sorted") [v]) Q E s:=by
 have t:∀j,j<n->∀k∈kf j,Ap _=c_:=λj c k hk=>h3 _ (by rw[<-hsh j c];exact cU hk)
 have F:b=c_->∀j,j<n->∀k,(kf j).head? = a_ k->sN k=[1]:=λhb j c k hk=>by
  have:=hsh j c
  cases q:kf j with
  |nil=>rw[q]at hk;cases hk
  |cons x r=>
    rw[q]at this hk;cases hk;rw[<-this,hb]at h1;simp only[Qg,Mq]at h1;split at h1
    .rename_i z;exact bA z
    .cases h1
    .cases h1
    .cases h1
 refine PySem.Calls.call_function_entry kind_sorted plain_sorted entry_sorted (args_sorted1 _) ?_;refine wb9 (wu9 ?_);refine wb9 (hc _ _ _ (by rfl) λvs g d Y ex sz ⟨js,u,sl,B⟩=>?_);have hl:vs.length=js.length:=by simp_all
 refine wb9 (PySem.wpAny_newList ?_ (by exact aa (ae hl) (aa B cy)));have at_:∀i,i<vs.length->vs.getD i fJ=.ref (av (js.getD i 0))/\js.getD i 0<n:=λi hi=>by
  have f:i<js.length:=aa hi (ae hl);constructor
  .rw[u];simp[f]
  .rw[show js.getD i 0=js[i] by simp[f]];exact sl.lt _ (br f)
 have h:∀h',(∀b o,b≠g.objs.size->(g.push (seqObj "list" vs.toArray 0)).get? b=a_ o->h'.get? b=a_ o)->∀j,j<n->qd P w h' _ _:=λh' q j c=>
  (hk j c).mono λb o e=>by
   have e1:=ex b o e;exact q b o (bb (hl9 e1)) (hp9 _ e1)
 have C :=λi j hi c e=>by
  have a:=at_ i hi
  have f:i<js.length:=aa hi (ae hl);have m:j<js.length:=aa c (ae hl);have e1:(js.map kf)[i]?=a_ (kf (js.getD i 0)):=by simp[f]
  have e2:(js.map kf)[j]?=a_ (kf (js.getD j 0)):=by simp[m]
  rw[(code_inj ((hsh _ a.2).trans (hsh _ (at_ j c).2).symm) (t _ a.2) e)]at e1;exact(jM (by simp_all) sl.nd).mp (e1.trans e2.symm)
 have N:Po (λi j=>vU (codeN (kf (js.getD i 0))) (codeN (kf _))) _:=
  ⟨λi j k _ _ _ x y=>nF.tr _ _ _ x y,λi j hi c ne x=>nF.co _ _ (λz=>ne (C i j hi c z)) x,λi j _ _ x=>nF.as x⟩
 refine wb9 (dQ (bJ slot_list_sort ⟨_,(aL _ rfl),rfl⟩ entry_list_sort (Dc (b:=b) (aL _ rfl) (aa (ae hl) B) N (λh2 h' R Q' q H=>?_) (λh' R Q' i j hi c q H=>?_) λp I S=>⟨_,rfl,?_⟩) (args_list_sort _)))
 .rw[u];exact TQ (λj c=>h h' q j (sl.lt j c)) (λj c=>hsh j (sl.lt j c)) h1 (aD (aa h2 (ae hl))) H
 .obtain⟨T,D⟩:=at_ i hi
  obtain⟨b1,b2⟩:=at_ j c
  rw[T,b1];exact Y7 Z (h h' q _ D) (h h' q _ b2) ((hsh _ D).trans (hsh _ b2).symm) (t _ D) (λz=>F z _ D) H
 .obtain⟨e,he⟩:=sortedHeap_at (out:=(p.toList.map _).toArray) (aL _ rfl)
  have L:(p.toList.map λi=>vs.getD i fJ)=(p.toList.map λi=>js.getD i 0).map λj=>c7 (av j):=by
   rw[eo];exact dq λi hi=>(at_ i ((bf.mp (I.pm.mem_iff.mp hi)))).1
  rw[L]at he
  have U:(p.toList.map λi=>js.getD i 0).Perm js:=by
   refine (I.pm.map _).trans ?_;rw[hl];refine List.Perm.of_eq ?_;apply mM;intro i;by_cases hi:i<js.length
   .simp[hi]
   .simp[hi]
  refine wu9 ⟨_,rfl,k _ d Y _ (p.toList.map _) e (λb o q=>?_) sz ?_ (sl.perm U) ?_⟩
  .have lb:=hl9 (ex b o q);exact(sortedHeap_old (bb lb) (by rw[size_push'];exact m6 lb)).trans (hp9 _ (ex b o q))
  .rwa[L]
  .rw[eo,fT,eE];intro i j hi c J;have:=S i j J (by rwa[bF,I.sz]at c)
   have e1:∀x(K:x<p.toList.length),p.toList[x]=pg p x:=λx K=>by
    have:=JL (by simpa using K);rw[<-iy,af K]at this;exact bA this
   rwa[e1 i hi,e1 j c]
end
end L2
namespace M
open PySem PySem.Spec PyProof.Rows L2
inductive Vt|add|sub|mul|fdiv|mod|shr|shl|band|bor|pow|mn|mx
inductive XX|eq|ne|lt|le|gt|ge|isin|nin|isn|nisn
inductive Ty|int|bool|str|tuple|list
inductive XY|len|list|tuple|all|any|isi (t:Ty)|tuprev|int|str|min|max|sorted|sset|abs|sum
inductive Yh|join|split|upper|lower|find|index|count|get|startswith|isalpha|tindex
inductive HS|app|ext|ins|pop|clr|seti|dput
mutual
noncomputable def og:Dat->Dat->Bool
 | .non,c=>match c with
   |.non=>c_
   |_=>d_
 | .bl a,c=>match c with
   |.bl b=>a == b
   |.int j=>(if a then 1 else 0) == j
   |_=>d_
 | .int i,c=>match c with
   |.bl b=>i == (if b then 1 else 0)
   |.int j=>i == j
   |_=>d_
 | .str x,c=>match c with
   |.str y=>x == y
   |_=>d_
 | .tup xs,c=>match c with
   |.tup ys=>n4 xs ys
   |_=>d_
 | .lst xs,c=>match c with
   |.lst ys=>n4 xs ys
   |_=>d_
 |_,_=>d_
noncomputable def n4:List Dat->List Dat->Bool
 |[],[]=>c_
 |x::xs,y::ys=>og x y && n4 xs ys
 |_,_=>d_
end
mutual
noncomputable def iA:Nat->Dat->Bool
 |_,.dct _ _=>d_
 |_,.any=>d_
 |0,.tup _=>d_
 |0,.lst _=>d_
 |n+1,.tup xs=>eC n xs
 |n+1,.lst xs=>eC n xs
 |_,_=>c_
noncomputable def eC:Nat->List Dat->Bool
 |_,[]=>c_
 |n,x::xs=>iA n x && eC n xs
end
noncomputable def gJ:Dat->Option Bool
 |.non=>a_ d_
 |.bl b=>a_ b
 |.int i=>a_ (i != 0)
 |.str x=>if x.length<=aC then a_ ((x.length:Int) != 0)else b_
 |.tup xs=>a_ (!xs.isEmpty)
 |.lst xs=>a_ (!xs.isEmpty)
 |.dct ks _=>a_ (!ks.isEmpty)
 |.any=>b_
noncomputable instance (i j:Int):Decidable (HE i j):=by unfold HE;infer_instance
noncomputable instance (i j:Int):Decidable (Vr i j):=by unfold Vr;infer_instance
def Px(i j:Int):Prop:=0<=j/\j<=1000000/\i.natAbs<2 ^ 2000
noncomputable instance (i j:Int):Decidable (Px i j):=by unfold Px;infer_instance
noncomputable instance (i j:Int):Decidable (Vq i j):=by unfold Vq;infer_instance
noncomputable instance (x:bc) (j:Int):Decidable (B8 x j):=by unfold B8;infer_instance
abbrev g_:=Option (Dat×Bool)
noncomputable def zu(f:Int->Int->g_):Dat->Dat->g_
 |.int i,.int j=>f i j
 |_,_=>b_
def HB:Dat->Dat->g_
 | .int i,a=>match a with
   |.int j=>a_ (.int (i+j),d_)
   |_=>b_
 | .str x,a=>match a with
   |.str y=>if x.length+y.length<=aC then a_ (.str (x++y),d_)else b_
   |_=>b_
 | .lst xs,a=>match a with
   |.lst ys=>if xs.length+ys.length<=aC then a_ (.lst (xs++ys),kW (xs++ys))else b_
   |_=>b_
 | .tup xs,a=>match a with
   |.tup ys=>if xs.length+ys.length<=aC then a_ (.tup (xs++ys),d_)else b_
   |_=>b_
 |_,_=>b_
noncomputable def HA:Dat->Dat->g_
 | .int i,a=>match a with
   |.int j=>if HE i j then a_ (.int (i * j),d_)else b_
   |_=>b_
 | .str x,a=>match a with
   |.int j=>if B8 x j then a_ (.str (PySem.Txt.mul x j),d_)else b_
   |_=>b_
 |_,_=>b_
def fF:Vt->Dat->Dat->g_
 |.add,a,b=>HB a b
 |.sub,a,b=>zu (λi j=>a_ (.int (i - j),d_)) a b
 |.mul,a,b=>HA a b
 |.mn,a,b=>zu (λi j=>a_ (.int (if j<i then j else i),d_)) a b
 |.mx,a,b=>zu (λi j=>a_ (.int (if i<j then j else i),d_)) a b
 |.fdiv,a,b=>zu (λi j=>if Vr i j then a_ (.int (i / j),d_)else b_) a b
 |.mod,a,b=>zu (λi j=>if 0<j then a_ (.int (i % j),d_)else b_) a b
 |.shr,a,b=>zu (λi j=>if 0<=j then a_ (.int (i / 2 ^ j.toNat),d_)else b_) a b
 |.shl,a,b=>zu (λi j=>if Px i j then a_ (.int (i * 2 ^ j.toNat),d_)else b_) a b
 |.band,a,b=>zu (λi j=>a_ (.int (HY i j),d_)) a b
 |.bor,a,b=>zu (λi j=>a_ (.int (pB i j),d_)) a b
 |.pow,a,b=>zu (λi j=>if Vq i j then a_ (.int (i ^ j.toNat),d_)else b_) a b
noncomputable def rR:Dat->Option Key
 |.int i=>a_ (.inl i)
 |.str x=>a_ (.inr x)
 |_=>b_
instance ZZ (k:List NK) (ks:List (List NK)):Decidable (k∈ks):=@List.instDecidableMemOfLawfulBEq _ instBEqOfDecidableEq inferInstance k ks
def AK:List Dat->Option (List Key)
 |[]=>a_ []
 |d::ds=>(rR d).bind λk=>(AK ds).map λr=>k::r
def YZ:Dat->Option N2
 |.int i=>a_ (.inl (.inl i))
 |.str x=>a_ (.inl (.inr x))
 |.tup ds=>(AK ds).map .inr
 |_=>b_
def Qb:List Dat->Option (List N2)
 |[]=>a_ []
 |d::ds=>(YZ d).bind λk=>(Qb ds).map λr=>k::r
def YU:Dat->Option NK
 |.int i=>a_ (.inl (.inl i))
 |.str x=>a_ (.inl (.inr x))
 |.tup ds=>(Qb ds).map .inr
 |_=>b_
def Vz:List Dat->Option (List NK)
 |[]=>a_ []
 |d::ds=>(YU d).bind λk=>(Vz ds).map λr=>k::r
def S7:Dat->Option (List NK)
 |.tup ds=>Vz ds
 |_=>b_
def uR:List Dat->Option (List (List NK))
 |[]=>a_ []
 |d::ds=>(S7 d).bind λk=>(uR ds).map λr=>k::r
noncomputable def P7:List Key->Bool
 |[]=>c_
 |k::ks=>!(ks.any λj=>decide (j=k)) && P7 ks
noncomputable def fN(k:Key):List Key->List Dat->Option Dat
 |j::ks,v::vs=>if j=k then a_ v else fN k ks vs
 |_,_=>b_
noncomputable def uO(k:Key):List Key->Bool
 |[]=>c_
 |j::ks=>if j=k then !(ks.any λi=>decide (i=k))else uO k ks
noncomputable def putD(k:Key)(d:Dat):List Key->List Dat->List Key×List Dat
 |j::ks,v::vs=>if j=k then(j::ks,d::vs)else((j::(putD k d ks vs).1),(v::(putD k d ks vs).2))
 |_,_=>([k],[d])
noncomputable def VF(f:Int->Int->Bool):Dat->Dat->Option Bool
 |.int i,.int j=>a_ (f i j)
 |_,_=>b_
def cIn(a:Dat):Dat->Option Bool
 | .str y=>match a with
   |.str x=>a_ (!(tJ y x 0 y.length 1).isEmpty)
   |_=>b_
 |.lst ys=>if iA 20 a && eC 20 ys then a_ (ys.any λy=>og y a)else b_
 |.tup ys=>if iA 20 a && eC 20 ys then a_ (ys.any λy=>og y a)else b_
 |.dct ks vs=>(rR a).map λk=>(fN k ks vs).isSome
 |_=>b_
def Zx(a:Dat):Dat->Option Bool
 |.lst ys=>if iA 20 a && eC 20 ys then a_ (!(ys.any λy=>og y a))else b_
 |_=>b_
noncomputable def cIs(b:Bool)(a:Dat):Dat->Option Bool
 |.bl c=>match a with | .bl x=>a_ ((x == c) == b)|_=>b_
 |_=>b_
def jA:XX->Dat->Dat->Option Bool
 |.eq,a,b=>if iA 20 a && iA 20 b then a_ (og a b)else b_
 |.ne,a,b=>if iA 20 a && iA 20 b then a_ (!og a b)else b_
 |.lt,a,b=>VF (λi j=>decide (i<j)) a b
 |.le,a,b=>VF (λi j=>decide (i<=j)) a b
 |.gt,a,b=>VF (λi j=>decide (j<i)) a b
 |.ge,a,b=>VF (λi j=>decide (j<=i)) a b
 |.isin,a,b=>cIn a b
 |.nin,a,b=>Zx a b
 |.isn,a,b=>cIs c_ a b
 |.nisn,a,b=>cIs d_ a b
def zr:Dat->Dat->Option Dat
 | .lst xs,a=>match a with
   |.int i=>tF xs i
   |_=>b_
 | .tup xs,a=>match a with
   |.int i=>tF xs i
   |_=>b_
 | .str z,a=>match a with
   |.int i=>if z.length<=aC then(tF z.cps.toList i).map λc=>.str ⟨#[c]⟩else b_
   |_=>b_
 |.dct ks vs,k=>(rR k).bind λk=>fN k ks vs
 |_,_=>b_
noncomputable def oD(r:g_):Option (Option Int):=r.bind λx=>match x.1 with
 |.int i=>a_ (a_ i)
 |_=>b_
def cutD{α:Type}(xs:List α)(lo hi:Option Int):List α:=(xs.drop (HT.iH xs.length 0 lo)).take (HT.iH xs.length xs.length hi - HT.iH xs.length 0 lo)
def Gy:Dat->Option Int->Option Int->g_
 |.str x,lo,hi=>if x.length<=aC then a_ (.str (bN x lo hi),d_)else b_
 |.lst xs,lo,hi=>a_ (.lst (cutD xs lo hi),kW (cutD xs lo hi))
 |.tup xs,lo,hi=>a_ (.tup (cutD xs lo hi),d_)
 |_,_,_=>b_
noncomputable def Kv:Ty->Dat->Bool
 |.int,.int _=>c_
 |.int,.bl _=>c_
 |.bool,.bl _=>c_
 |.str,.str _=>c_
 |.tuple,.tup _=>c_
 |.list,.lst _=>c_
 |_,_=>d_
def W9(t:Ty):Dat->g_
 |.any=>b_
 |d=>a_ (.bl (Kv t d),d_)
def Oz(h:W9 t d=a_ z):d≠.any/\z=(.bl (Kv t d),d_):=by
 cases d<;>cases h<;>exact⟨nofun,rfl⟩
noncomputable def r8:List Dat->Option (List Bool)
 |[]=>a_ []
 |.bl b::ds=>(r8 ds).map λr=>b::r
 |_::_=>b_
noncomputable def uk:List Dat->Option (List bc)
 |[]=>a_ []
 |.str x::ds=>(uk ds).map λr=>x::r
 |_::_=>b_
noncomputable def E4:List Dat->Option (List Int)
 |[]=>a_ []
 |.int x::ds=>(E4 ds).map λr=>x::r
 |_::_=>b_
noncomputable def AR{α:Type}(lt:α->α->Bool)(x:α):List α->List α
 |[]=>[x]
 |y::ys=>if lt x y=c_ then x::y::ys else if lt y x=c_ then y::AR lt x ys else y::ys
def kJ{α:Type}(lt:α->α->Bool):List α->List α
 |[]=>[]
 |x::xs=>AR lt x (kJ lt xs)
noncomputable def Xa{α:Type}(lt:α->α->Bool)(x:α):List α->List α
 |[]=>[x]
 |y::ys=>if lt y x=c_ then y::Xa lt x ys else x::y::ys
def Io{α:Type}(lt:α->α->Bool):List α->List α
 |[]=>[]
 |x::xs=>Xa lt x (Io lt xs)
noncomputable def ltI(i j:Int):Bool:=decide (i<j)
noncomputable def Qe(x y:bc):Bool:=decide (x.cps.toList<y.cps.toList)
noncomputable def mm(x:bc):List bc:=x.cps.toList.map λc=>⟨#[c]⟩
noncomputable def OU:Nat->List Int->Dat
 |0,l=>.int (l.headD 0)
 |1,l=>.str ⟨(l.map ub).toArray⟩
 |_,l=>.tup (l.map .int)
def UJ:List Nat->List (List Int)->Dat
 |[],_=>.non
 |n::a,c=>if n=3 then .tup (sr OU a c)else OU n (c.headD [])
def Bm(B:List (List Nat))(c:List (List (List Int))):Dat:=.tup (sr UJ B c)
def Gz(kk:List (List NK)):List (List Nat):=(kk.headD []).map sN
def GZ(kk:List (List NK)):Prop:=(Qg (Gz kk)).isSome=c_/\(Gz kk).all Ap=c_/\(kk.all λk=>decide (k.map sN=Gz kk))=c_/\(kJ vU (kk.map codeN)).length<=300
noncomputable instance (kk:List (List NK)):Decidable (GZ kk):=inferInstanceAs (Decidable (_/\_))
def wN(kk:List (List NK)):g_:=
 if kk.length<=300/\GZ kk then a_ (.lst ((kJ vU (kk.map codeN)).map (Bm (Gz kk))),c_)else b_
def V8(kk:List (List NK)):g_:=
 if kk.length<64/\GZ kk/\kk.Nodup then a_ (.lst ((kJ vU (kk.map codeN)).map (Bm (Gz kk))),c_)else b_
def PV(ss:List bc):g_:=if ss.length<64 then a_ (.lst ((Io Qe ss).map .str),c_)else b_
def sortI(is:List Int):g_:=if is.length<64 then a_ (.lst ((Io ltI is).map .int),c_)else b_
noncomputable def Z1:Int->List Int->Int
 |i,[]=>i
 |i,j::r=>Z1 (if i<j then j else i) r
noncomputable def b1(f:Dat->g_):List Dat->g_
 |[d]=>f d
 |_=>b_
noncomputable def Ph:Dat->g_
 |.lst xs=>a_ (.int xs.length,d_)
 |.tup xs=>a_ (.int xs.length,d_)
 |.str x=>if x.length<=aC then a_ (.int x.length,d_)else b_
 |.dct ks _=>a_ (.int ks.length,d_)
 |_=>b_
def LF:Dat->g_
 |.lst xs=>a_ (.lst xs,kW xs)
 |.tup xs=>a_ (.lst xs,kW xs)
 |_=>b_
noncomputable def Pg:Dat->g_
 |.tup xs=>if xs.length<=1000000 then a_ (.tup xs.reverse,d_)else b_
 |_=>b_
noncomputable def U9:Dat->g_
 |.lst xs=>a_ (.tup xs,d_)
 |.tup xs=>a_ (.tup xs,d_)
 |_=>b_
noncomputable def bL(f:List Dat->g_):Dat->g_
 |.lst xs=>f xs
 |_=>b_
noncomputable def Ya(f:List Dat->g_)(g:bc->g_):Dat->g_
 |.lst xs=>f xs
 |.str x=>g x
 |_=>b_
noncomputable def Va:Dat->g_
 |.int i=>a_ (.int i,d_)
 |.bl b=>a_ (.int (if b then 1 else 0),d_)
 |.str x=>if x.length<=640 then(PySem.intText? x).map λi=>(.int i,d_)else b_
 |_=>b_
noncomputable def Pf:Dat->g_
 |.int i=>if i.natAbs.log2<1920 then a_ (.str (toString i),d_)else b_
 |_=>b_
def jB:XY->List Dat->g_
 |.len,l=>b1 Ph l
 |.list,l=>b1 LF l
 |.tuprev,l=>b1 Pg l
 |.tuple,l=>b1 U9 l
 |.all,l=>b1 (bL λxs=>(r8 xs).map λbs=>(.bl (bs.all id),d_)) l
 |.any,l=>b1 (bL λxs=>(r8 xs).map λbs=>(.bl (bs.any id),d_)) l
 |.isi t,l=>b1 (W9 t) l
 |.sset,l=>b1 (Ya (λds=>(uR ds).bind wN) λ_=>b_) l
 | .sorted,l=>b1 (Ya (λds=>match E4 ds,uk ds with
   |some is,_=>sortI is
   |none,a_ ss=>PV ss
   |none,b_=>(uR ds).bind V8) λx=>PV (mm x)) l
 |.int,l=>b1 Va l
 |.sum,l=>b1 (bL λds=>(E4 ds).map λis=>(.int is.sum,d_)) l
 | .max,l=>b1 (bL λds=>(E4 ds).bind λis=>match is with
   |[]=>b_
   |i::r=>a_ (.int (Z1 i r),d_)) l
 |.str,l=>b1 Pf l
 |.min,_=>b_
 |.abs,_=>b_
noncomputable def jX:Dat->Option (List Dat)
 |.lst xs=>a_ xs
 |.tup xs=>a_ xs
 |.str x=>a_ (x.cps.toList.map λc=>Dat.str ⟨#[c]⟩)
 |_=>b_
noncomputable def Wb:Dat->Option (List Dat)
 |.lst xs=>a_ xs
 |.tup xs=>a_ xs
 |_=>b_
noncomputable def Nv:List Dat->Option (List Dat)
 |[.int j]=>if j<=1000000/\-1000000<=j then a_ ((aR j.toNat).map λk:Nat=>Dat.int k)else b_
 |[.int i,.int j]=>if -1000000<=i/\i<=1000000/\-1000000<=j/\j<=1000000 then a_ ((aR (j - i).toNat).map λk:Nat=>Dat.int (i+k))else b_
 |[.int i,.int j,.int c]=>if c=-1/\-1000000<=i/\i<=1000000/\-1000000<=j/\j<=1000000 then a_ ((aR (i - j).toNat).map λk:Nat=>Dat.int (i - k))else b_
 |_=>b_
noncomputable def ou:List Dat->List Dat->List Dat
 |x::xs,y::ys=>.tup [x,y]::ou xs ys
 |_,_=>[]
noncomputable def rX:Nat->List Dat->List Dat
 |_,[]=>[]
 |k,x::xs=>.tup [.int k,x]::rX (k+1) xs
def oH(f:Dat->Option g_):List Dat->Option (List Dat×Bool)
 |[]=>a_ ([],c_)
 | d::ds=>(f d).bind λo=>(oH f ds).map λr=>match o with
   |some y=>(y.1::r.1,(y.2 || im y.1) && r.2)
   |none=>r
noncomputable def xZ:Nat->List Dat->fm->fm
 |_,[],ρ=>ρ
 |k,d::ds,ρ=>xZ (k+1) ds (ρ.set k (a_ d))
def FQ(nt:Nat)(one:Bool)(d:Dat)(ρ:fm):Option fm:=match one with
 |true=>a_ (ρ.set 0 (a_ d))
 | false=>match d with
   |.tup ds=>if ds.length=nt then a_ (xZ 0 ds ρ)else b_
   |_=>b_
noncomputable def i9(nt:Nat)(caps:List Nat)(ρ:fm):fm:=bD nt b_++caps.map λj=>(ρ[j]?).join
def findD(d:Dat):List Dat->Nat->Option Nat
 |[],_=>b_
 |x::xs,k=>if og x d=c_ then a_ k else findD d xs (k+1)
noncomputable def X7(f:bc->g_):Dat->List Dat->g_
 | .str x,a=>match a with
   |[]=>f x
   |_=>b_
 |_,_=>b_
noncomputable def Y4(f:bc->bc->g_):Dat->List Dat->g_
 | .str x,a=>match a with
   |[.str y]=>f x y
   |_=>b_
 |_,_=>b_
noncomputable def Z2(f:bc->List Dat->g_):Dat->List Dat->g_
 | .str x,a=>match a with
   |[.lst ds]=>f x ds
   |_=>b_
 |_,_=>b_
noncomputable def Y3:Dat->List Dat->g_
 |.str x,[.str y,.int i]=>a_ (.bl (gV x y i),d_)
 |_,_=>b_
def Y2:Dat->List Dat->g_
 | .tup ds,a=>match a with
   |[d]=>if iA 20 d && eC 20 ds then(findD d ds 0).map λk=>(.int k,d_)else b_
   |_=>b_
 |_,_=>b_
def Y5:Dat->List Dat->g_
 |.lst ds,[.str y]=>(uk ds).bind λxs=>(xs.findIdx? (·== y)).map λj=>(.int (j:Nat),d_)
 |_,_=>b_
def Tr:Dat->List Dat->g_
 |.dct ks vs,[k,d]=>(rR k).map λk=>((fN k ks vs).getD d,d_)
 |_,_=>b_
def iN:Yh->Dat->List Dat->g_
 |.join,a,l=>Z2 (λx ds=>(uk ds).bind λys=>if(ys.map (·.length)).sum+ys.length * x.length<=1000000 then a_ (.str (tf x ys),d_)else b_) a l
 |.split,a,l=>Y4 (λx y=>if 0<y.length/\x.length<=1000000 then a_ (.lst ((PySem.Txt.split x y).map Dat.str),c_)else b_) a l
 |.upper,a,l=>X7 (λx=>if x.length<=1000000 then a_ (.str (rf x),d_)else b_) a l
 |.lower,a,l=>X7 (λx=>if x.length<=1000000 then a_ (.str (PySem.Txt.lower x),d_)else b_) a l
 |.find,a,l=>Y4 (λx y=>a_ (.int (PySem.Txt.find x y),d_)) a l
 |.index,a,l=>Y5 a l
 |.count,a,l=>Y4 (λx y=>a_ (.int (PySem.Txt.count x y),d_)) a l
 |.startswith,a,l=>Y3 a l
 |.tindex,a,l=>Y2 a l
 |.isalpha,a,l=>X7 (λx=>a_ (.bl (PySem.Txt.isalpha x),d_)) a l
 |.get,a,l=>Tr a l
def insI{α:Type}(x:α)(i:Int)(xs:List α):List α:=xs.take (HT.iH xs.length 0 (a_ i))++x::xs.drop (HT.iH xs.length 0 (a_ i))
def Rx{α:Type}(x:α)(i:Int)(xs:List α):Option (List α):=(pH xs.length i).map λk=>xs.set k x
noncomputable def MD:Dat->List Dat->Option Dat
 |.lst ds,[d]=>if ds.length<aC then a_ (.lst (ds++[d]))else b_
 |_,_=>b_
noncomputable def Gk:Dat->List Dat->Option Dat
 | .lst ds,l=>match l with
   |[.lst es]=>if ds.length+es.length<=aC then a_ (.lst (ds++es))else b_
   |[.tup es]=>if ds.length+es.length<=aC then a_ (.lst (ds++es))else b_
   |_=>b_
 |_,_=>b_
def MC:Dat->List Dat->Option Dat
 | .lst ds,l=>match l with
   |[.int i,d]=>if ds.length<aC/\-1000000<=i/\i<=1000000 then a_ (.lst (insI d i ds))else b_
   |_=>b_
 |_,_=>b_
def MB:Dat->List Dat->Option Dat
 | .lst ds,l=>match l with
   |[d,.int i]=>if -1000000<=i/\i<=1000000 then(Rx d i ds).map .lst else b_
   |_=>b_
 | .dct ks vs,l=>match l with
   |[d,k]=>(rR k).bind λk=>if ks.length<aC/\uO k ks=c_ then a_ (.dct (putD k d ks vs).1 (putD k d ks vs).2)else b_
   |_=>b_
 |_,_=>b_
def jt:HS->Dat->List Dat->Option Dat
 |.app,a,l=>MD a l
 |.ext,a,l=>Gk a l
 |.ins,a,l=>MC a l
 |.seti,a,l=>MB a l
 |_,_,_=>b_
abbrev Fs:=Nat->List Dat->g_
structure Ex where
 fv:List Nat
 ev:Fs->fm->g_
noncomputable def ba(C:Fs)(e:Ex)(ρ:fm):g_:=e.ev C ρ
def mF(C:Fs):List Ex->fm->Option (List Dat)
 |[],_=>a_ []
 |e::es,ρ=>(ba C e ρ).bind λx=>(mF C es ρ).map λr=>x.1::r
def nZ(C:Fs):List Ex->fm->Option (List Dat×Bool)
 |[],_=>a_ ([],c_)
 |e::es,ρ=>(ba C e ρ).bind λx=>(nZ C es ρ).map λr=>(x.1::r.1,(x.2 || im x.1) && r.2)
def Bf(C:Fs):List Ex->fm->Option Bool
 |[],_=>a_ c_
 |e::es,ρ=>(ba C e ρ).bind λx=>(gJ x.1).bind λz=>if z=c_ then Bf C es ρ else a_ d_
noncomputable def B1(es:List Ex):List Nat:=es.flatMap (·.fv)
inductive Iw where
 |itv (a:Ex)|rng (es:List Ex)|zip (es:List Ex)|enu (a:Ex)|rev (a:Ex)
noncomputable def YG:Dat->Option (List Dat)
 |.tup ds=>a_ ds.reverse
 |_=>b_
def fvI:Iw->List Nat
 |.itv a=>a.fv
 |.rng _=>[]
 |.zip es=>B1 es
 |.enu a=>a.fv
 |.rev a=>a.fv
def zip2(a b:Dat):Option (List Dat):=match a with
 | .str x=>match b with
   |.tup ys=>a_ (ou ((mm x).map .str) ys)
   |_=>b_
 |_=>b_
def PM(ds:List Dat):Option (List Dat):=match ds with
 |[a,b]=>zip2 a b
 |_=>b_
def yH(C:Fs)(it:Iw)(ρ:fm):Option (List Dat):=match it with
 |.itv a=>(ba C a ρ).bind λx=>jX x.1
 |.rng es=>(mF C es ρ).bind Nv
 |.zip es=>(mF C es ρ).bind PM
 |.enu a=>(ba C a ρ).bind λx=>(Wb x.1).map λxs=>rX 0 xs
 |.rev a=>(ba C a ρ).bind λx=>YG x.1
def XF(C:Fs)(ρ:fm):Option Ex->Option (Option Int)
 |none=>a_ b_
 |some e=>oD (ba C e ρ)
noncomputable def YV:Dat->g_
 |.int i=>a_ (.int (-i),d_)
 |_=>b_
noncomputable def ZC(k:g_):Dat->g_
 |.bl b=>if b=c_ then k else a_ (.bl d_,d_)
 |_=>b_
noncomputable def orD(k:g_):Dat->g_
 |.bl b=>if b=c_ then a_ (.bl c_,d_)else k
 |_=>b_
def mT(C:Fs)(nt:Nat)(one:Bool)(ρ0:fm)(ifs:List Ex)(elt:Ex)(d:Dat):Option g_:=
 (FQ nt one d ρ0).bind λa=>(Bf C ifs a).bind λb=>if b=c_ then(ba C elt a).map a_ else a_ b_
namespace Ex
noncomputable def con(d:Dat):Ex:=⟨[],λ_ _=>a_ (d,d_)⟩
abbrev e_(i:Int):Ex:=con (.int i)
abbrev f_(x:bc):Ex:=con (.str x)
noncomputable def v(i:Nat):Ex:=⟨[i],λ_ ρ=>((ρ[i]?).join).map λd=>(d,d_)⟩
def bin(o:Vt)(a b:Ex):Ex:=⟨a.fv++b.fv,λC ρ=>(ba C a ρ).bind λx=>(ba C b ρ).bind λy=>fF o x.1 y.1⟩
def neg(a:Ex):Ex:=⟨[],λC ρ=>(ba C a ρ).bind λx=>YV x.1⟩
def cmp(o:XX)(a b:Ex):Ex:=⟨[],λC ρ=>(ba C a ρ).bind λx=>(ba C b ρ).bind λy=>(jA o x.1 y.1).map λr=>(.bl r,d_)⟩
def and(a b:Ex):Ex:=⟨a.fv++b.fv,λC ρ=>(ba C a ρ).bind λx=>ZC (ba C b ρ) x.1⟩
def or(a b:Ex):Ex:=⟨a.fv++b.fv,λC ρ=>(ba C a ρ).bind λx=>orD (ba C b ρ) x.1⟩
def not(a:Ex):Ex:=⟨[],λC ρ=>(ba C a ρ).bind λx=>(gJ x.1).map λb=>(.bl (!b),d_)⟩
def ite(c a b:Ex):Ex:=⟨c.fv++a.fv++b.fv,λC ρ=>(ba C c ρ).bind λx=>(gJ x.1).bind λz=>if z=c_ then ba C a ρ else ba C b ρ⟩
def tup(es:List Ex):Ex:=⟨B1 es,λC ρ=>(nZ C es ρ).bind λx=>if x.1.length<=1000000 then a_ (.tup x.1,x.2)else b_⟩
def lst(es:List Ex):Ex:=⟨B1 es,λC ρ=>(nZ C es ρ).bind λx=>if x.1.length<=1000000 then a_ (.lst x.1,x.2)else b_⟩
def ix(a b:Ex):Ex:=⟨a.fv++b.fv,λC ρ=>(ba C a ρ).bind λx=>(ba C b ρ).bind λy=>(zr x.1 y.1).map λd=>(d,d_)⟩
noncomputable def ZY(o:Option Ex):List Nat:=match o with
 |none=>[]
 |some e=>e.fv
def sl(a:Ex)(lo hi:Option Ex):Ex:=⟨a.fv++ZY lo++ZY hi,λC ρ=>(ba C a ρ).bind λx=>(XF C ρ lo).bind λl=>(XF C ρ hi).bind λh=>Gy x.1 l h⟩
def call(f:Nat)(es:List Ex):Ex:=⟨B1 es,λC ρ=>(mF C es ρ).bind λds=>C f ds⟩
def blt(b:XY)(es:List Ex):Ex:=⟨B1 es,λC ρ=>(mF C es ρ).bind λds=>jB b ds⟩
def eU(m:Yh)(o:Ex)(es:List Ex):Ex:=⟨o.fv++B1 es,λC ρ=>(ba C o ρ).bind λx=>(mF C es ρ).bind λds=>iN m x.1 ds⟩
noncomputable def px:Ex:=⟨[],λ_ _=>a_ (.dct [] [],c_)⟩
def Fy(ks:List Key)(es:List Ex):Ex:=⟨B1 es,λC ρ=>(mF C es ρ).bind λds=>if ks.length=ds.length/\P7 ks=c_/\ks.length<=15 then a_ (.dct ks ds,d_)else b_⟩
def comp(nt:Nat)(one:Bool)(caps:List Nat)(it:Iw)(ifs:List Ex)(elt:Ex):Ex:=⟨caps++fvI it,λC ρ=>(yH C it ρ).bind λitems=>if items.length<=1000000 then
 (oH (mT C nt one (i9 nt caps ρ) ifs elt) items).map λys=>(.lst ys.1,ys.2)else b_⟩
end Ex
abbrev c8:=List g_
set_option genInjectivity true in
inductive Out where
 |nx (ρ:c8)|rt (d:Dat) (fr:Bool)|bk (ρ:c8)|ct (ρ:c8)
noncomputable def xO(ρ:c8):fm:=ρ.map λo=>match o with
 |some (d,d_)=>a_ d
 |_=>b_
noncomputable def full(ρ:c8):fm:=ρ.map λo=>o.map (·.1)
noncomputable def rV(ρ:c8):c8:=ρ.map λo=>o.map λs=>(s.1,d_)
def Ci(ρ:c8):xO (rV ρ)=full ρ:=by
 unfold xO rV full;rw[eo];exact dq λo _=>by cases o<;>rfl
noncomputable def kK(is:List Nat)(ρ:c8):c8:=is.foldl (λρ i=>ρ.modify i λo=>o.map λs=>(s.1,d_)) ρ
def L6(C:Fs)(e:Ex)(ρ:c8):Option (Dat×Bool×c8):=(ba C e (full ρ)).bind λx=>if(im x.1 || x.2)=c_ then a_ (x.1,x.2,ρ)
 else(ba C e (xO (kK e.fv ρ))).map λy=>(y.1,y.2,kK e.fv ρ)
def Xn(C:Fs)(it:Iw)(ρ:c8):Option (List Dat×c8):=match it with
 |.itv a=>(L6 C a ρ).bind λx=>(jX x.1).map λds=>(ds,x.2.2)
 |.rng es=>(yH C (.rng es) (full ρ)).map λds=>(ds,ρ)
 |.zip es=>(yH C (.zip es) (xO (kK (B1 es) ρ))).map λds=>(ds,kK (B1 es) ρ)
 |.enu a=>(yH C (.enu a) (xO (kK a.fv ρ))).map λds=>(ds,kK a.fv ρ)
 |.rev a=>(yH C (.rev a) (xO (kK a.fv ρ))).map λds=>(ds,kK a.fv ρ)
noncomputable def oY:List Nat->List Dat->c8->c8
 |i::is,d::ds,ρ=>oY is ds (ρ.set i (a_ (d,d_)))
 |_,_,ρ=>ρ
def eR(one:Bool)(B:List Nat)(d:Dat)(ρ:c8):Option c8:=match one with
 | true=>match B with
   |[i]=>a_ (ρ.set i (a_ (d,d_)))
   |_=>b_
 | false=>match d with
   |.tup ds=>if ds.length=B.length then a_ (oY B ds ρ)else b_
   |_=>b_
noncomputable def ID(k:c8->Option Out):Out->Option Out
 |.nx ρ=>k ρ
 |.ct ρ=>k ρ
 |.bk ρ=>a_ (.nx ρ)
 |.rt d fr=>a_ (.rt d fr)
def zI(test:c8->Option Bool)(body:c8->Option Out):Nat->c8->Option Out
 |0,_=>b_
 |n+1,ρ=>(test ρ).bind λb=>if b=c_ then(body ρ).bind (ID (zI test body n))else a_ (.nx ρ)
noncomputable def nr:Nat:=1000000
def iO(B:Dat->c8->Option c8)(body:c8->Option Out):List Dat->c8->Option Out
 |[],ρ=>a_ (.nx ρ)
 |d::ds,ρ=>(B d ρ).bind λa=>(body a).bind (ID (iO B body ds))
structure Sx where
 ex:Fs->c8->Option Out
noncomputable def pv(C:Fs)(s:Sx)(ρ:c8):Option Out:=s.ex C ρ
noncomputable def YF(k:c8->Option Out):Out->Option Out
 |.nx ρ=>k ρ
 |o=>a_ o
def fh(C:Fs):List Sx->c8->Option Out
 |[],ρ=>a_ (.nx ρ)
 |s::ss,ρ=>(pv C s ρ).bind (YF (fh C ss))
def Yn(B:List Nat)(ρ:c8):Dat->Option Out
 |.tup ds=>if ds.length=B.length then a_ (.nx (oY B ds ρ))else b_
 |_=>b_
def WS(op:HS)(i:Nat)(ρ:c8)(ds:List Dat):g_->Option Out
 |some (d,c_)=>(jt op d ds).map λd'=>.nx (ρ.set i (a_ (d',c_)))
 |_=>b_
namespace Sx
def set(i:Nat)(e:Ex):Sx:={ ex:=λC ρ=>(L6 C e ρ).map λx=>.nx (x.2.2.set i (a_ (x.1,x.2.1 && !im x.1))) }
def VL(B:List Nat)(e:Ex):Sx:={ ex:=λC ρ=>(L6 C e ρ).bind λx=>Yn B x.2.2 x.1 }
def ret(e:Ex):Sx:={ ex:=λC ρ=>(ba C e (full ρ)).map λx=>.rt x.1 x.2 }
noncomputable def mo(i:Nat):Sx:={ ex:=λ_ ρ=>((ρ[i]?).join).map λx=>.rt x.1 x.2 }
noncomputable def MO:Sx:={ ex:=λ_ _=>b_ }
noncomputable def brk:Sx:={ ex:=λ_ ρ=>a_ (.bk ρ) }
def ifs(c:Ex)(a b:List Sx):Sx:={ ex:=λC ρ=>(ba C c (full ρ)).bind λx=>(gJ x.1).bind λz=>if z=c_ then fh C a ρ else fh C b ρ }
def loop(one:Bool)(B:List Nat)(it:Iw)(body:List Sx):Sx:={ ex:=λC ρ=>(Xn C it ρ).bind λx=>iO (eR one B) (fh C body) x.1 x.2 }
def X1(c:Ex)(body:List Sx):Sx:={ ex:=λC ρ=>zI (λρ=>(ba C c (full ρ)).bind λx=>gJ x.1) (fh C body) nr ρ }
def «mut» (op:HS)(i:Nat)(es:List Ex):Sx:={ ex:=λC ρ=>(nZ C es (full ρ)).bind λx=>if x.2=c_ then WS op i ρ x.1 (ρ[i]?).join else b_ }
end Sx
noncomputable def Zs:Out->g_
 |.nx _=>a_ (.non,d_)
 |.rt d fr=>a_ (d,fr)
 |_=>b_
def Uu(C:Fs)(B O:Nat)(body:List Sx)(ds:List Dat):g_:=
 if ds.length=B then(fh C body (ds.map (λd=>a_ (d,d_))++bD (O - B) b_)).bind Zs else b_
def gE(K:Fg)(C:Fs)(x:Ex):TE:=λσ H Q=>∃ρ d fr,ba C x ρ=a_ (d,fr)/\tE K ρ d fr σ H Q
def gA(K:Fg)(C:Fs)(xs:List Ex):TA:=λσ H Q=>∃ρ ds,mF C xs ρ=a_ ds/\tEs K ρ ds σ H Q
def gF(K:Fg)(C:Fs)(xs:List Ex):TA:=λσ H Q=>∃ρ ds al,nZ C xs ρ=a_ (ds,al)/\tFs K ρ ds al σ H Q
def gT(K:Fg)(C:Fs)(x:Ex):TT:=λσ H Q=>∃ρ d fr b,ba C x ρ=a_ (d,fr)/\gJ d=a_ b/\tT K ρ b σ H Q
abbrev SE(X:Cx)(C:Fs)(e:a9)(x:Ex):Prop:=PE X e (gE X.K C x)
abbrev SA(X:Cx)(C:Fs)(es:List a9)(xs:List Ex):Prop:=PA X es (gA X.K C xs)
abbrev SF(X:Cx)(C:Fs)(es:List a9)(xs:List Ex):Prop:=PA X es (gF X.K C xs)
abbrev ST(X:Cx)(C:Fs)(e:a9)(x:Ex):Prop:=PT X e (gT X.K C x)
def gB(K:Fg)(f:Dat->Dat->g_):R2:=λx y H Q=>∃da a d fr,f da a=a_ (d,fr)/\rD K da a d fr x y H Q
def gL(K:Fg)(f:List Dat->g_):List V->Hp->VK->Prop:=λxs H Q=>∃ds d fr,f ds=a_ (d,fr)/\rDs K ds d fr xs H Q
section
variable{X:Cx}{C:Fs}{e:a9}
def bu{K:Fg}:(d_=c_->gu K H H' d v):=λh=>nomatch h
def Ry(i:Nat)(O:X.N[i]?=a_ x)(Y:Qz X.env.scope x)(hd:(x == ("__debug__":bc))=d_)
  (B:(x == ("__classdict__":bc))=d_):SE X C (.Name x pos) (.v i):=
 PE.imp (my O Y hd B) λσ H Q b=>by
  obtain⟨ρ,d,fr,h,F,g,R,k⟩:=b;obtain⟨d',h1,h2⟩:=ee h;cases h2
  have a:ρ[i]?=a_ (a_ d):=by
   cases q:ρ[i]? with
   |none=>rw[q]at h1;cases h1
   |some z=>simp_all
  obtain⟨v,e1,r⟩:=R i d a;exact⟨v,e1,k v F H (Step.refl g) r bu⟩
def uv(h:PE X e (tC v))(hd:∀F,Rep X.K F d v):SE X C e (.con d):=
 PE.imp h λσ H Q a=>by
  obtain⟨ρ,d',fr,h,F,g,R,k⟩:=a;cases h;exact k v F H (Step.refl g) (hd _) bu
def RG{j}:SE X C (.Constant (.int i) j pos) (.con (.int i)):=uv Sl λ_=>rfl
def Wi{b:Bool}{j}:SE X C (.Constant (.bool b) j pos) (.con (.bl b)):=uv WD λ_=>rfl
def RB{j}:SE X C (.Constant .none j pos) (.con .non):=uv Sj λ_=>rfl
def RA{j}:SE X C (.Constant (.str x) j pos) (.con (.str x)):=uv Sh λ_=>rfl
def Nh(O:Gl X x)(Y:X.mg x=a_ u)(r:RelV v u)(B:∀F,Rep X.K F d v)(hd:(x == ("__debug__":bc))=d_):SE X C (.Name x pos) (.con d):=uv (NL O Y r hd) B
def BC{α β γ:Type}{o:Option α}{o':Option β}{f:α->β->Option γ}{z:γ}(h:(o.bind λx=>o'.bind λy=>f x y)=a_ z):∃x y,o=a_ x/\o'=a_ y/\f x y=a_ z:=by
 obtain⟨x,h1,h⟩:=ck h;obtain⟨y,h2,h⟩:=ck h;exact⟨x,y,h1,h2,h⟩
def xR(B:∀ρ d fr,ba C x ρ=a_ (d,fr)->∃p q,ba C xa ρ=a_ p/\ba C xb ρ=a_ q/\f p.1 q.1=a_ (d,fr)) :
  ∀σ H Q,gE X.K C x σ H Q->IJ (gB X.K f) (gE X.K C xa) (gE X.K C xb) σ H Q:=λσ H Q j=>by
 refine ac λ_ e=>?_;obtain⟨ρ,d,fr,h,F,g,R,k⟩:=j;obtain⟨⟨da,l⟩,⟨i,m⟩,h1,h2,h3⟩:=B ρ d fr h;refine e ?_;exact ⟨ρ,da,l,h1,F,g,R,λv F1 D a n _=>⟨ρ,i,m,h2,F1,a.good,R.mono a.ff,λw o H2 b r _=>⟨da,i,d,fr,h3,o,b.good,n.mono b.ff,r,λu s t c y A=>k u s t ((a.trans b).trans c) y λz=>(A z).back (F:=F) (a.hh.trans b.hh)⟩⟩⟩
def RK(ho:j9 X (binaryOp op) (gB X.K (fF o)))(ha:SE X C a xa)(hb:SE X C b xb):SE X C (.BinOp a op b pos) (.bin o xa xb):=
 PE.imp (P6 ho ha hb) (xR λρ d fr h=>BC h)
def qM(o:XX)(x y:Dat):g_:=(jA o x y).map λr=>(.bl r,d_)
def RI(ho:j9 X (compareOp op) (gB X.K (qM o)))(ha:SE X C a xa)(hb:SE X C b xb)(B:behindInMarks op b=d_):SE X C (.Compare a [op] [b] pos) (.cmp o xa xb):=
 PE.imp (NN ho ha hb B) (xR λρ d fr h=>BC h)
def Q6(ho:j9 X (compareOp op) (gB X.K (qM o)))(ha:SE X C a xa)(hb:SE X C b xb)(B:behindInMarks op b=d_):ST X C (.Compare a [op] [b] pos) (.cmp o xa xb):=
 PT.imp (NF ho ha hb B) λσ H Q c=>by
  refine ac λ_ e=>?_;obtain⟨ρ,d,fr,b,h,hb,F,g,R,k⟩:=c;refine e ?_;refine xR (x:=.cmp o xa xb) (f:=qM o) (λρ d fr h=>BC h) σ H _ ⟨ρ,d,fr,h,F,g,R,λv F1 i st r _=>?_⟩;refine ac λ_ e=>?_;obtain⟨p,q,_,_,h3⟩:=BC h;obtain⟨z,_,j⟩:=ee h3;cases j;cases hb;refine e ?_;exact⟨_,r,k F1 i st⟩
def Wh(B:Vi X (gB X.K λx y=>(zr x y).map λd=>(d,d_)))(ha:SE X C a xa)(hb:SE X C b xb)(hs:yZ b):SE X C (.Subscript a b pos) (.ix xa xb):=
 PE.imp (wU B ha hb hs) (xR λρ d fr h=>BC h)
def RC(ha:SE X C a xa):SE X C (.UnaryOp .USub a pos) (.neg xa):=
 PE.imp (WB QN ha) λσ H Q c=>by
  refine ac λ_ e=>?_;obtain⟨ρ,d,fr,h,F,g,R,k⟩:=c;obtain⟨⟨da,f⟩,h1,h⟩:=ck h;refine e ?_;refine⟨ρ,da,f,h1,F,g,R,λv F1 j b l _=>?_⟩
  cases da with
  |int i=>cases h;exact⟨i,l,k _ F1 j b rfl bu⟩
  |_=>cases h
set_option tactic.hygienic true in
def D3{K:Fg}{F H:Hp}{d:Dat}{v:V}{b:Bool}(g:Good F H)(r:Rep K F d v)(h:gJ d=a_ b):Vd K v H b:=by
 cases d with
 |non=>rw[r];cases h;exact rfl
 |bl c=>rw[r];cases h;exact rfl
 |int i=>rw[r];cases h;exact rfl
 |str x=>
   rw[r];simp only[gJ]at h;split at h
   .rename_i a;cases h;exact⟨a,rfl⟩
   .cases h
 |tup ds=>
   obtain⟨p,vs,rfl,t,r⟩:=r;cases h
   have e:(!ds.isEmpty)=!vs.isEmpty:=by
    have:=r.length
    cases ds<;>cases vs<;>first|rfl|cases this
   rw[e];exact .inr (.inl ⟨vs,(t.mono g.sub).sq,rfl⟩)
 |lst ds=>
   obtain⟨p,vs,rfl,t,r⟩:=r;cases h
   have e:(!ds.isEmpty)=!vs.isEmpty:=by
    have:=r.length
    cases ds<;>cases vs<;>first|rfl|cases this
   rw[e];exact .inl ⟨vs,g.sub.seq t,rfl⟩
 |any=>cases h
 |dct ks ds=>
   obtain⟨p,k_,rfl,t,kk,r⟩:=r;cases h
   have e:(!ks.isEmpty)=!k_.isEmpty:=by
    rw[<-kk];cases k_<;>rfl
   rw[e];exact .inr (.inr ⟨k_,g.sub _ _ t,rfl⟩)
def k7(h:SE X C e xa)(he:∀whole,isTrue e X.env whole=(do let v <-whole;standAt e.pos;holding [v] (truthy v)):=by intro _;rfl):ST X C e xa:=
 PT.imp (JB h he) λσ H Q ⟨ρ,d,fr,b,h,hb,F,g,R,k⟩=>⟨ρ,d,fr,h,F,g,R,λv F1 c a f _=>⟨b,D3 a.good f hb,k F1 c a⟩⟩
abbrev SW(X:Cx)(C:Fs)(e:a9)(x:Ex):Prop:=PW X e (gT X.K C x)
def MJ(ha:ST X C a xa):SW X C (.BoolOp .And [a] pos) xa:=NB ha
def QU(ha:ST X C a xa):SW X C (.BoolOp .Or [a] pos) xa:=R0 ha
def PW.imp(h:PW X e t)(f:∀σ H Q,t' σ H Q->t σ H Q):PW X e t':=λa h_ s σ H Q I q=>h a h_ s σ H Q I (f _ _ _ q)
def QW{rest:List a9}(ha:ST X C a xa)(hb:SW X C (.BoolOp .And (b::rest) pos) xb):SW X C (.BoolOp .And (a::b::rest) pos) (.and xa xb):=
 PW.imp (R3 ha hb) λσ H Q n=>by
  refine ac λ_ e=>?_;obtain⟨ρ,d,fr,z,h,j,F,g,R,k⟩:=n;obtain⟨⟨da,l⟩,h1,h⟩:=ck h
  refine e ?_;cases da with
  |bl c=>
    cases c with
    |true=>exact⟨ρ,_,l,c_,h1,rfl,F,g,R,λF1 m f=>by
      exact Dg ⟨ρ,d,fr,z,h,j,F1,f.good,R.mono f.ff,λo H2 i=>k o H2 (f.trans i)⟩⟩
    |false=>
      cases h;cases j
      exact⟨ρ,_,l,d_,h1,rfl,F,g,R,λF1 m f=>by
       exact Dh (k F1 m f)⟩
  |_=>cases h
def VX{rest:List a9}(ha:ST X C a xa)(hb:SW X C (.BoolOp .Or (b::rest) pos) xb):SW X C (.BoolOp .Or (a::b::rest) pos) (.or xa xb):=
 PW.imp (Wx ha hb) λσ H Q n=>by
  refine ac λ_ e=>?_;obtain⟨ρ,d,fr,z,h,j,F,g,R,k⟩:=n;obtain⟨⟨da,l⟩,h1,h⟩:=ck h
  refine e ?_;cases da with
  |bl c=>
    cases c with
    |false=>exact⟨ρ,_,l,d_,h1,rfl,F,g,R,λF1 m f=>by
      exact Dh ⟨ρ,d,fr,z,h,j,F1,f.good,R.mono f.ff,λo H2 i=>k o H2 (f.trans i)⟩⟩
    |true=>
      cases h;cases j
      exact⟨ρ,_,l,c_,h1,rfl,F,g,R,λF1 m f=>by
       exact Dg (k F1 m f)⟩
  |_=>cases h
def Q5(ha:ST X C a xa):ST X C (.UnaryOp .Not a pos) (.not xa):=
 PT.imp (R7 ha) λσ H Q b=>by
  refine ac λ_ e=>?_;obtain⟨ρ,d,fr,z,h,c,F,g,R,k⟩:=b;obtain⟨⟨da,f⟩,h1,h⟩:=ck h;obtain⟨i,hb,h⟩:=ee h;cases h;cases c;refine e ?_;exact⟨ρ,da,f,i,h1,hb,F,g,R,k⟩
def Ec{op}(ha:SE X C a xa):SE X C (.BoolOp op [a] pos) xa:=Si ha
def RL{rest:List a9}(ha:SE X C a xa)(hb:SE X C (.BoolOp .And (b::rest) pos) xb):SE X C (.BoolOp .And (a::b::rest) pos) (.and xa xb):=
 PE.imp (Sn ha hb) λσ H Q j=>by
  refine ac λ_ e=>?_;obtain⟨ρ,d,fr,h,F,g,R,k⟩:=j;obtain⟨⟨da,l⟩,h1,h⟩:=ck h
  refine e ?_;cases da with
  |bl c=>
    refine⟨ρ,_,l,h1,F,g,R,λv F1 m f n _=>⟨c,n,?_⟩⟩
    cases c with
    |true=>
      exact Dg ⟨ρ,d,fr,h,F1,f.good,R.mono f.ff,λv o H2 i p q=>k v o H2 (f.trans i) p λz=>(q z).back (F:=F) f.hh⟩
    |false=>
      cases h;exact Dh (k _ F1 m f rfl bu)
  |_=>cases h
def Wd{rest:List a9}(ha:SE X C a xa)(hb:SE X C (.BoolOp .Or (b::rest) pos) xb):SE X C (.BoolOp .Or (a::b::rest) pos) (.or xa xb):=
 PE.imp (WC ha hb) λσ H Q j=>by
  refine ac λ_ e=>?_;obtain⟨ρ,d,fr,h,F,g,R,k⟩:=j;obtain⟨⟨da,l⟩,h1,h⟩:=ck h
  refine e ?_;cases da with
  |bl c=>
    refine⟨ρ,_,l,h1,F,g,R,λv F1 m f n _=>⟨c,n,?_⟩⟩
    cases c with
    |false=>
      exact Dh ⟨ρ,d,fr,h,F1,f.good,R.mono f.ff,λv o H2 i p q=>k v o H2 (f.trans i) p λz=>(q z).back (F:=F) f.hh⟩
    |true=>
      cases h;exact Dg (k _ F1 m f rfl bu)
  |_=>cases h
def RE(hc:ST X C cnd xc)(ha:SE X C a xa)(hb:SE X C b xb):SE X C (.IfExp cnd a b pos) (.ite xc xa xb):=
 PE.imp (JN hc ha hb) λσ H Q m=>by
  refine ac λ_ e=>?_;obtain⟨ρ,d,fr,h,F,g,R,k⟩:=m;obtain⟨⟨da,n⟩,h1,h⟩:=ck h;obtain⟨z,o,h⟩:=ck h;refine e ?_;refine⟨ρ,da,n,z,h1,o,F,g,R,λF1 p c=>?_⟩
  cases z with
  |true=>
    exact Dg ⟨ρ,d,fr,h,F1,c.good,R.mono c.ff,λv i H2 f j l=>k v i H2 (c.trans f) j λz=>(l z).back (F:=F) c.hh⟩
  |false=>
    exact Dh ⟨ρ,d,fr,h,F1,c.good,R.mono c.ff,λv i H2 f j l=>k v i H2 (c.trans f) j λz=>(l z).back (F:=F) c.hh⟩
def pS:SA X C [] []:=PA.imp yh λσ H Q a=>by
 obtain⟨ρ,ds,h,F,g,R,k⟩:=a;cases h;exact k [] F H (Step.refl g) rfl
def kP(ha:SE X C e B)(O:SA X C es xs)(hs:aS (e::es) X.env=(d_,eval e X.env)::aS es X.env):SA X C (e::es) (B::xs):=
 PA.imp (o5 ha O hs) λσ H Q c=>by
  refine ac λ_ m=>?_;obtain⟨ρ,ds,h,F,g,R,k⟩:=c;obtain⟨⟨d,fr⟩,h1,h⟩:=ck h;obtain⟨r,h2,h⟩:=ee h;cases h;refine m ?_;exact⟨ρ,d,fr,h1,F,g,R,λv F1 l a f _=>⟨ρ,r,h2,F1,a.good,R.mono a.ff,λvs i H2 b j=>k _ i H2 (a.trans b) ⟨v,vs,rfl,f.mono b.ff,j⟩⟩⟩
def o7(h:n<=1000000):n<=aC:=by exact aa h cy
def Jc:SF X C [] []:=PA.imp yh λσ H Q b=>by
 obtain⟨ρ,ds,al,h,F,g,R,k⟩:=b;cases h;exact k [] F H (Step.refl g) rfl λ_=>⟨[],en,(λa z=>by cases z),rfl,rfl⟩
def Ea(ha:SE X C e B)(O:SF X C es xs)(hs:aS (e::es) X.env=(d_,eval e X.env)::aS es X.env):SF X C (e::es) (B::xs):=
 PA.imp (o5 ha O hs) λσ H Q i=>by
  refine ac λ_ q=>?_;obtain⟨ρ,ds,al,h,F,g,R,k⟩:=i;obtain⟨⟨d,fr⟩,h1,h⟩:=ck h;obtain⟨⟨r,j⟩,h2,h⟩:=ee h;cases h;refine q ?_;refine⟨ρ,d,fr,h1,F,g,R,λv F1 p a f l=>⟨ρ,r,j,h2,F1,a.good,R.mono a.ff,λvs m H2 b n o=>k _ m H2 (a.trans b) ⟨v,vs,rfl,f.mono b.ff,n⟩ λz=>?_⟩⟩;simp only[ag,kS]at z;refine fj.cons a.hh b.hh ?_ (o z.2)
  rcases z.1 with c|c
  .exact l c
  .exact .ko a.good c f
set_option tactic.hygienic true
def Rz{x1}(h:SF X C es xs):SE X C (.Tuple es x1 pos) (.tup xs):=
 PE.imp (Sf h) λσ H Q c=>by
  refine ac λ_ e=>?_;obtain⟨ρ,d,fr,h,F,g,R,k⟩:=c;obtain⟨⟨ds,al⟩,h1,h⟩:=ck h;refine e ?_;dsimp only at h;split at h
  .rename_i f;cases h;exact ⟨ρ,ds,_,h1,F,g,R,λvs F1 j a b i=>⟨by rw[b.length];exact o7 f,λp hp=>k _ _ _ (a.trans (Step.alloc a.good hp)) ⟨p,vs,rfl,.inl cC,b.mono (bO.upd (a.good.sub.free hp))⟩ λz=>.tup hp (i z)⟩⟩
  .cases h
def RD(h:SF X C es xs):SE X C (.List es pos) (.lst xs):=
 PE.imp (Sk h) λσ H Q c=>by
  refine ac λ_ e=>?_;obtain⟨ρ,d,fr,h,F,g,R,k⟩:=c;obtain⟨⟨ds,al⟩,h1,h⟩:=ck h;refine e ?_;dsimp only at h;split at h
  .rename_i f;cases h;refine⟨ρ,ds,_,h1,F,g,R,λvs F1 l a b i=>⟨by rw[b.length];exact o7 f,λp hp=>?_⟩⟩;exact k _ _ _ (a.trans (Step.alloc a.good hp)) ⟨p,vs,rfl,.inl (.inl cC),(b.mono (bO.upd (o:=.lst vs) (a.good.sub.free hp)))⟩ λz=>.lst a.hh hp (i z)
  .cases h
set_option tactic.hygienic false
def nQ(K:Fg)(n:Nat)(f:List Dat->g_):Sp:=λvs H Q _=>vs.length=n/\gL K f vs H Q
def qO(B:∀ρ d fr,ba C x ρ=a_ (d,fr)->∃ds,mF C xs ρ=a_ ds/\f ds=a_ (d,fr)) :
  ∀σ H Q,gE X.K C x σ H Q->Yz (gL X.K f) (gA X.K C xs) σ H Q:=λσ H Q c=>by
 refine ac λ_ e=>?_;obtain⟨ρ,d,fr,h,F,g,R,k⟩:=c;obtain⟨ds,h1,h2⟩:=B ρ d fr h;refine e ?_;refine⟨ρ,ds,h1,F,g,R,λvs F1 n a i=>⟨ds,d,fr,h2,F1,a.good,i,λv j H2 b l m=>k v j H2 (a.trans b) l λz=>(m z).back (F:=F) a.hh⟩⟩
theorem oQ:∀{xs:List Ex}{ρ:fm}{ds:List Dat},mF C xs ρ=a_ ds->ds.length=xs.length
 |[],ρ,ds,h=>by cases h;rfl
 |x::xs,ρ,ds,h=>by
   obtain⟨d,_,h⟩:=ck h;obtain⟨r,h2,h⟩:=ee h;cases h;rw[bG,bG,oQ h2]
def Nk(j n:Nat)(G:lE X.prog X.w X.K X.mg X.base zg k f fd ps (nQ X.K n (C j)))(Z:lz k X.A)(hg:Gl X x)(hm:X.mg x=a_ (.ref f))(hk:fB X.K (.ref f)=c_)(hb:Binds X.K fd ps [])
  (ha:SA X C (e::es) (B::xs))(hn:(B::xs).length=n)(O:(x == ("__debug__":bc))=d_)(he:aS (e::es) X.env=(d_,eval e X.env)::aS es X.env)(Y:(backTo pos (aS es X.env)).any (·.1)=d_) :
  SE X C (.Call (.Name x p) (e::es) [] pos) (.call j (B::xs)):=
 PE.imp (Ew G Z hg hm hk hb .nil JQ ha O he Y) λσ H Q h=>by
  refine ac λ_ i=>?_;obtain⟨ρ,ds,h1,F,g,R,k⟩:=(qO (x:=.call j _) (λρ d fr h=>ck h) σ H Q h);refine i ?_;refine⟨ρ,ds,h1,F,g,R,λvs F1 b a c=>?_⟩;show nQ _ n _ _ b Q E0;rw[aE];exact⟨by rw[c.length,oQ h1,hn],k vs F1 b a c⟩
def Eb{Y:String}(hc:jS X (.builtin Y) (gL X.K (jB bt)))(Z:Gl X x)(hm:X.mg x=b_)(hv:bootBuiltins x=a_ (.builtin Y))(ha:SA X C (e::es) xs)(hn:x≠"__name__")(B:(x == ("__debug__":bc))=d_)
  (he:aS (e::es) X.env=(d_,eval e X.env)::aS es X.env)(O:(backTo pos (aS es X.env)).any (·.1)=d_):SE X C (.Call (.Name x p) (e::es) [] pos) (.blt bt xs):=
 PE.imp (uK hc Z hm hv ha hn B he O) (qO λρ d fr h=>ck h)
def x4{T:String}(hc:jS X (.type T) (gL X.K (jB bt)))(Y:Gl X x)(Z:X.mg x=b_)(hv:bootBuiltins x=a_ (.type T))(ha:SA X C (e::es) xs)(hn:x≠"__name__")(B:(x == ("__debug__":bc))=d_)
  (he:aS (e::es) X.env=(d_,eval e X.env)::aS es X.env)(O:(backTo pos (aS es X.env)).any (·.1)=d_):SE X C (.Call (.Name x p) (e::es) [] pos) (.blt bt xs):=
 PE.imp (GW hc Y Z hv ha hn B he O) (qO λρ d fr h=>ck h)
end
section
variable{a b:a9}{xs:List Ex}{s:ak}
theorem kU:∀{n:Nat}{ds:List Dat}{j:Nat}{d:Dat},eC n ds=c_->ds[j]?=a_ d->iA n d=c_
 |_,[],_,_,_,e=>by simp at e
 |n,x::xs,0,d,h,e=>by
   simp only[eC,ag]at h;simp at e;subst e;exact h.1
 |n,x::xs,j+1,d,h,e=>by
   simp only[eC,ag]at h;exact kU h.2 (by simpa using e)
theorem pY:∀xs ys:List Dat,n4 xs ys=((aR (min xs.length ys.length)).all (λj=>og (xs.getD j .non) (ys.getD j .non)) && xs.length == ys.length)
 |[],[]=>by simp[n4]
 |[],y::ys=>by simp[n4]
 |x::xs,[]=>by simp[n4]
 |x::xs,y::ys=>by
   simp only[n4,bG,Nat.succ_min_succ,Nat.succ_eq_add_one];rw[(pY xs ys),List.range_succ_eq_map,dH];simp[Function.comp_def,wG]
def _root_.L2.Inv.lstR{a:aK}{vs:List V}(I:Inv X h_ σ H s)(g:Good F H)(h:mH X.K F a vs):∃its:List aj,cR vs its/\PlainL s.heap a its.toArray/\vs.length<=aC:=I.list (g.sub.seq h)
def _root_.L2.Inv.tupR{a:aK}{vs:List V}(I:Inv X h_ σ H s)(g:Good F H)(h:Tq X.K F a vs):∃its:List aj,cR vs its/\nj s.heap a its.toArray/\vs.length<=aC:=I.tuple (h.mono g.sub).sq
def _root_.L2.Inv.noLT{a:aK}{vs ws:List V}(I:Inv X h_ σ H s)(g:Good F H)(h:mH X.K F a vs)(h':Tq X.K F a ws):False:=by
 obtain⟨its,_,⟨o,n,e,c,_⟩,_⟩:=I.lstR g h;obtain⟨d,_,⟨o',f,i,_⟩,_⟩:=I.tupR g h'
 grind
mutual
noncomputable def uP:Dat->Bool
 |.dct _ _=>d_
 |.any=>d_
 |.tup xs=>mz xs
 |.lst xs=>mz xs
 |_=>c_
noncomputable def mz:List Dat->Bool
 |[]=>c_
 |x::xs=>uP x && mz xs
end
mutual
theorem oG:∀(n:Nat)(d:Dat),iA n d=c_->uP d=c_
 |n,.non,_=>rfl
 |n,.bl _,_=>rfl
 |n,.int _,_=>rfl
 |n,.str _,_=>rfl
 |0,.tup _,h=>by simp[iA]at h
 |0,.lst _,h=>by simp[iA]at h
 |n+1,.tup xs,h=>rK n xs (by simpa [iA]using h)
 |n+1,.lst xs,h=>rK n xs (by simpa [iA]using h)
 |n,.dct _ _,h=>by cases n<;>simp[iA]at h
 |n,.any,h=>by cases n<;>simp[iA]at h
theorem rK:∀(n:Nat)(ds:List Dat),eC n ds=c_->mz ds=c_
 |n,[],_=>rfl
 |n,d::ds,h=>by
   have h':iA n d=c_/\eC n ds=c_:=by cases n<;>simpa [eC]using h
   simp only[mz,oG n d h'.1,rK n ds h'.2,qh]
end
mutual
theorem x8(I:Inv X h_ σ H s)(g:Good F H):∀(da B:Dat){x:V},uP da=c_->uP B=c_->Rep X.K F da x->Rep X.K F B x->da=B
 |.non,B,x,na,nb,d,c=>by
   rw[d]at c
   cases B<;>first|(cases c;done)|(cases c;rfl)|(obtain⟨_,_,z,_⟩:=c;cases z)|exact nomatch nb
 |.bl b,B,x,na,nb,d,c=>by
   rw[d]at c
   cases B<;>first|(cases c;done)|(cases c;rfl)|(obtain⟨_,_,z,_⟩:=c;cases z)|exact nomatch nb
 |.int b,B,x,na,nb,d,c=>by
   rw[d]at c
   cases B<;>first|(cases c;done)|(cases c;rfl)|(obtain⟨_,_,z,_⟩:=c;cases z)|exact nomatch nb
 |.str b,B,x,na,nb,d,c=>by
   rw[d]at c
   cases B<;>first|(cases c;done)|(cases c;rfl)|(obtain⟨_,_,z,_⟩:=c;cases z)|exact nomatch nb
 |.dct _ _,_,_,na,_,_,_=>nomatch na
 |.any,_,_,na,_,_,_=>nomatch na
 |.tup ds,B,x,na,nb,i,c=>by
   obtain⟨p,vs,rfl,t,r⟩:=i;cases B with
   |tup es=>
     obtain⟨q,us,f,t',h⟩:=c;cases f;have ev :=I.rn (t.mono g.sub).sq (t'.mono g.sub).sq;subst ev;rw[uC I g ds es na nb r h]
   |lst es=>
     obtain⟨q,us,f,t',h⟩:=c;cases f;exact(I.noLT g t' t).elim
   |dct _ _=>exact nomatch nb
   |any=>exact nomatch nb
   |_=>cases c
 |.lst ds,B,x,na,nb,i,c=>by
   obtain⟨p,vs,rfl,t,r⟩:=i;cases B with
   |lst es=>
     obtain⟨q,us,f,t',h⟩:=c;cases f;have ev :=I.oJ (g.sub.seq t) (g.sub.seq t');subst ev;rw[uC I g ds es na nb r h]
   |tup es=>
     obtain⟨q,us,f,t',h⟩:=c;cases f;exact(I.noLT g t t').elim
   |dct _ _=>exact nomatch nb
   |any=>exact nomatch nb
   |_=>cases c
theorem uC(I:Inv X h_ σ H s)(g:Good F H):∀(ds es:List Dat){vs:List V},mz ds=c_->mz es=c_->cQ X.K F ds vs->cQ X.K F es vs->ds=es
 |[],es,vs,na,nb,h,h'=>by
   rw[show vs=[]from h]at h'
   cases es with
   |nil=>rfl
   |cons _ _=>obtain⟨_,_,z,_⟩:=h';cases z
 |d::ds,es,vs,na,nb,j,h'=>by
   obtain⟨v,r,e,h1,h2⟩:=j;subst e
   cases es with
   |nil=>exact nomatch (show v::r=[]from h')
   |cons f fs=>
     obtain⟨l,m,k,c,i⟩:=h';cases k;simp only[mz,ag]at na nb;rw[x8 I g d f na.1 nb.1 h1 c,uC I g ds fs na.2 nb.2 h2 i]
end
mutual
theorem Bg:∀d,uP d=c_->og d d=c_
 |.non,_=>rfl
 |.bl _,_=>by simp[og]
 |.int _,_=>by simp[og]
 |.str _,_=>by simp[og]
 |.tup ds,h=>rW ds h
 |.lst ds,h=>rW ds h
 |.dct _ _,h=>nomatch h
 |.any,h=>nomatch h
theorem rW:∀ds,mz ds=c_->n4 ds ds=c_
 |[],_=>rfl
 |d::ds,h=>by
   simp only[mz,ag]at h;simp only[n4,ag];exact⟨Bg d h.1,rW ds h.2⟩
end
def Jv(I:Inv X h_ σ H s)(g:Good F H)(da B:Dat)(na:uP da=c_)(nb:uP B=c_)(O:Rep X.K F da x)(Y:Rep X.K F B x):og da B=c_:=by
 rw[x8 I g da B na nb O Y];exact Bg _ nb
def DZ(r:cR vs its)(h:j<its.toArray.size):∃v,vs[j]?=a_ v/\RelV v its.toArray[j]:=by
 have hl:=r.length;have c:j<vs.length:=by simp_all
 obtain⟨u,e,d⟩:=r.get (af c);refine⟨_,af c,?_⟩
 have:its.toArray[j]=u:=by
  have h':j<its.length:=by simpa using h
  simp_all
 rwa[this]
def S5(h:iA n .any=c_):False:=by
 cases n<;>simp[iA]at h
def S4(h:iA n (.dct ks vs)=c_):False:=by
 cases n<;>simp[iA]at h
inductive Vw (s:ak):Dat->aj->Prop
 |non:Vw s .non .none
 |bl (b:Bool):Vw s (.bl b) (.bool b)
 |int (i:Int) (t:LP):Vw s (.int i) (.int i t)
 |str (x:bc) (t:LP):Vw s (.str x) (.str x t)
 |tup {ds:List Dat} {p:aK} {its:Array aj}:s.heap.IsTuple p its->Vw s (.tup ds) (.ref p)
 |lst {ds:List Dat} {p:aK} {its:Array aj}:s.heap.IsList p its->Vw s (.lst ds) (.ref p)
def vw(I:Inv X h_ σ H s)(g:Good F H)(sa:iA n da=c_)(B:Rep X.K F da x)(O:RelV x u):Vw s da u:=by
 cases da with
 |non=>cases B;rw[O];exact .non
 |bl b=>cases B;rw[O];exact .bl b
 |int i=>cases B;obtain⟨t,rfl⟩:=O;exact .int i t
 |str z=>cases B;obtain⟨t,rfl⟩:=O;exact .str z t
 |tup ds=>
   obtain⟨p,vs,rfl,t,r⟩:=B;obtain⟨its,c,pl,_⟩:=I.tupR g t;rw[O];exact .tup pl
 |lst ds=>
   obtain⟨p,vs,rfl,t,r⟩:=B;obtain⟨its,c,pl,_⟩:=I.lstR g t;rw[O];exact .lst pl.isList
 |dct _ _=>exact(S4 sa).elim
 |any=>exact(S5 sa).elim
noncomputable def isT:Dat->Bool
 |.tup _=>c_
 |_=>d_
noncomputable def OA:Dat->Bool
 |.lst _=>c_
 |_=>d_
def LI(a b:Dat):Bool:=match a with
 |.tup _=>isT b
 |.lst _=>OA b
 |_=>d_
def ZQ(A:cc)(s:ak)(u w:aj)(b:Bool):Prop:=Ga A s u w b/\F9 A s u w b/\zz A s u w (!b)
def K6{A:cc}(B:A.units<dM)(a:Vw s da u)(b:Vw s db w)(h:LI da db=d_):ZQ A s u w (og da db):=by
 cases a with
 |non=>
   cases b with
   |non=>exact⟨.same _,.none_none,.none_none⟩
   |bl _=>exact⟨.none_bool _,.none_bool _,.none_bool _⟩
   |int _ _=>exact⟨.none_int _ _,.none_int _ _,.none_int _ _⟩
   |str _ _=>exact⟨.none_str _ _,.none_str _ _,.none_str _ _⟩
   |tup q=>exact⟨.none_tuple q B,.none_tuple q B,.none_tuple q B⟩
   |lst q=>exact⟨.none_list q B,.none_list q B,.none_list q B⟩
 |bl _=>
   cases b with
   |non=>exact⟨.bool_none _,.bool_none _,.bool_none _⟩
   |bl _=>exact⟨.bool_bool _ _,.bool_bool _ _,.bool_bool _ _⟩
   |int _ _=>exact⟨.bool_int _ _ _,.bool_int _ _ _,.bool_int _ _ _⟩
   |str _ _=>exact⟨.bool_str _ _ _,.bool_str _ _ _,.bool_str _ _ _⟩
   |tup q=>exact⟨.bool_tuple _ q B,.bool_tuple _ q B,.bool_tuple _ q B⟩
   |lst q=>exact⟨.bool_list _ q B,.bool_list _ q B,.bool_list _ q B⟩
 |int _ _=>
   cases b with
   |non=>exact⟨.int_none _ _,.int_none _ _,.int_none _ _⟩
   |bl _=>exact⟨.int_bool _ _ _,.int_bool _ _ _,.int_bool _ _ _⟩
   |int _ _=>exact⟨.int_int _ _ _ _,.int_int _ _ _ _,.int_int _ _ _ _⟩
   |str _ _=>exact⟨.int_str _ _ _ _,.int_str _ _ _ _,.int_str _ _ _ _⟩
   |tup q=>exact⟨.int_tuple _ _ q B,.int_tuple _ _ q B,.int_tuple _ _ q B⟩
   |lst q=>exact⟨.int_list _ _ q B,.int_list _ _ q B,.int_list _ _ q B⟩
 |str _ _=>
   cases b with
   |non=>exact⟨.str_none _ _,.str_none _ _,.str_none _ _⟩
   |bl _=>exact⟨.str_bool _ _ _,.str_bool _ _ _,.str_bool _ _ _⟩
   |int _ _=>exact⟨.str_int _ _ _ _,.str_int _ _ _ _,.str_int _ _ _ _⟩
   |str _ _=>exact⟨.str_str _ _ _ _,.str_str _ _ _ _,.str_str _ _ _ _⟩
   |tup q=>exact⟨.str_tuple _ _ q B,.str_tuple _ _ q B,.str_tuple _ _ q B⟩
   |lst q=>exact⟨.str_list _ _ q B,.str_list _ _ q B,.str_list _ _ q B⟩
 |tup p=>
   cases b with
   |non=>exact⟨.tuple_none p B,.tuple_none p B,.tuple_none p B⟩
   |bl _=>exact⟨.tuple_bool _ p B,.tuple_bool _ p B,.tuple_bool _ p B⟩
   |int _ _=>exact⟨.tuple_int _ _ p B,.tuple_int _ _ p B,.tuple_int _ _ p B⟩
   |str _ _=>exact⟨.tuple_str _ _ p B,.tuple_str _ _ p B,.tuple_str _ _ p B⟩
   |tup q=>cases h
   |lst q=>exact⟨.tuple_list p q B,.tuple_list p q B,.tuple_list p q B⟩
 |lst p=>
   cases b with
   |non=>exact⟨.list_none p B,.list_none p B,.list_none p B⟩
   |bl _=>exact⟨.list_bool _ p B,.list_bool _ p B,.list_bool _ p B⟩
   |int _ _=>exact⟨.list_int _ _ p B,.list_int _ _ p B,.list_int _ _ p B⟩
   |str _ _=>exact⟨.list_str _ _ p B,.list_str _ _ p B,.list_str _ _ p B⟩
   |tup q=>exact⟨.list_tuple p q B,.list_tuple p q B,.list_tuple p q B⟩
   |lst q=>cases h
def vq(I:Inv X h_ σ H s)(g:Good F H):∀(n:Nat) (A:cc) (da B:Dat) {x y:V} {u w:aj},A.units+n<dM->iA n da=c_->iA n B=c_->Rep X.K F da x->Rep X.K F B y->RelV x u->RelV y w->
  ZQ A s u w (og da B):=by
 intro n
 induction n with
 |zero=>
   intro A da B x y u w E sa i k l C D;exact K6 E (vw I g sa k C) (vw I g i l D) (by cases da<;>first|rfl|(cases sa;done))
 |succ n S=>
   intro A da B x y u w E sa i k l C D;have c :=aq (aV _ _) E;by_cases hk:LI da B=d_
   .exact K6 c (vw I g sa k C) (vw I g i l D) hk
   have G:A.in1.units+n<dM:=by grind
   have items:∀{ds es:List Dat} {vs us:List V} {its f:List aj},eC n ds=c_->eC n es=c_->cQ X.K F ds vs->cQ X.K F es us->cR vs its->cR us f->
     (∀j(h1:j<its.toArray.size)(h2:j<f.toArray.size),Ga A.in1 s its.toArray[j] f.toArray[j] (og (ds.getD j .non) (es.getD j .non)))/\its.toArray.size=ds.length/\f.toArray.size=es.length:=by
    intro ds es vs us its f s1 s2 J L m o;refine⟨λj h1 h2=>?_,by rw[bh,<-m.length,J.length],by rw[bh,<-o.length,L.length]⟩;obtain⟨v,e1,T⟩:=DZ m h1;obtain⟨v',e2,U⟩:=DZ o h2;have M:j<ds.length:=by have:=J.length;have:=(aN.mp e1).1;omega
    have N:j<es.length:=by have:=L.length;have:=(aN.mp e2).1;omega
    obtain⟨z1,P,W⟩:=J.get (af M);obtain⟨z2,Q,Y⟩:=L.get (af N);rw[e1]at P;cases P;rw[e2]at Q;cases Q;have Z:ds.getD j .non=ds[j]:=by simp[List.getD,M]
    have g2:es.getD j .non=es[j]:=by simp[List.getD,N]
    rw[Z,g2];exact(S A.in1 _ _ G (kU s1 (af M)) (kU s2 (af N)) W Y T U).1
   have both:∀{p q:aK},x=.ref p->y=.ref q->F9 A s (.ref p) (.ref q) (og da B)->zz A s (.ref p) (.ref q) (!og da B)->ZQ A s u w (og da B):=by
    intro p q e1 e2 h h';subst e1 e2;obtain rfl:u=.ref p:=C;obtain rfl:w=.ref q:=D;refine⟨?_,h,h'⟩;by_cases z:p=q
    .subst z;rw[Jv I g da B (oG _ _ sa) (oG _ _ i) k l];exact .same _
    .exact .of_refs z h
   cases da with
   |tup ds=>
     cases B with
     |tup es=>
       obtain⟨p,vs,rfl,t,r⟩:=id k;obtain⟨its,m,pl,_⟩:=I.tupR g t;obtain⟨q,us,rfl,t',O⟩:=id l;obtain⟨f,o,d,_⟩:=I.tupR g t';obtain⟨hi,e1,e2⟩:=items sa i r O m o;have h1:=SeqAt.RcAt.tuples pl d c hi;have h2:=SeqAt.RcNeAt.tuples pl d c hi;rw[e1,e2,<-pY]at h1 h2;exact both rfl rfl h1 h2
     |_=>exact absurd rfl hk
   |lst ds=>
     cases B with
     |lst es=>
       obtain⟨p,vs,rfl,t,r⟩:=id k;obtain⟨its,m,pl,_⟩:=I.lstR g t;obtain⟨q,us,rfl,t',O⟩:=id l;obtain⟨f,o,d,_⟩:=I.lstR g t';obtain⟨hi,e1,e2⟩:=items sa i r O m o;have e:=pY ds es;by_cases hsz:its.toArray.size=f.toArray.size
       .have h1:=SeqAt.RcAt.lists pl.isList d.isList hsz c hi;have h2:=SeqAt.RcNeAt.lists pl.isList d.isList hsz c hi;have e3:(ds.length == es.length)=c_:=by simp_all
        rw[e3,gm,<-e1,<-e2,<-hsz,Nat.min_self]at e;rw[<-e]at h1 h2;exact both rfl rfl h1 h2
       .have R:(its.toArray.size != f.toArray.size)=c_:=by simpa using hsz
        have h1:=SeqAt.RcAt.lists_lengths pl.isList d.isList R c;have h2:=SeqAt.RcNeAt.lists_lengths pl.isList d.isList R c;have e3:(ds.length == es.length)=d_:=by grind
        rw[e3,Bool.and_false]at e;refine both rfl rfl ?_ ?_
        .show F9 _ _ _ _ (n4 ds es);rw[e];exact h1
        .show zz _ _ _ _ (!n4 ds es);rw[e];exact h2
     |_=>exact absurd rfl hk
   |_=>exact absurd rfl hk
end
section
variable{X:Cx}
def zT (h:a_ (a,b)=a_ (a',b')):a=a'/\b=b':=by simp_all
def JS:j9 X (binaryOp .Add) (λx y H Q=>∃a b ys,x=.ref a/\y=.ref b/\vJ X.K H a []/\vJ X.K H b ys/\Q (.ref b) H):=by
 intro h_ s σ H x y v u Q I i j h;refine ac λ_ w=>?_;obtain⟨a,b,ys,rfl,rfl,ha,hb,q⟩:=h;cases i;cases j;obtain⟨its,k,l,_⟩:=I.tuple ha;obtain⟨m,t,o,_⟩:=I.tuple hb;cases k;obtain⟨⟨cls,p,data,sl⟩,ho,hc,n,hd⟩:=id l;obtain⟨⟨g,d,data2,xV⟩,c,e,r,f⟩:=id o;subst hc hd e f;refine w ?_;exact vX ⟨_,ho,rfl⟩ ⟨_,c,rfl⟩ xH F6 ng mK (l8 _ _) (tuple_addW0 a b _ _ n r p d sl xV rfl) ⟨ho,c,.ref b,H,I,rfl,q⟩
set_option tactic.hygienic true
def NZ:j9 X (binaryOp .Add) (gB X.K (fF .add)):=by
 intro h_ s σ H x y v u Q I c f h;refine ac λ_ E=>?_;obtain⟨da,N,d,fr,h,F,g,j,m,k⟩:=h;refine E ?_;cases da<;>cases N<;>simp only[fF,HB,reduceCtorEq]at h
 .obtain⟨rfl,rfl⟩:=zT h;exact SN h_ s σ H _ _ v u Q I c f ⟨_,_,j,m,k _ F H (Step.refl g) rfl bu⟩
 .split at h
  .rename_i b;obtain⟨rfl,rfl⟩:=zT h;exact CP h_ s σ H _ _ v u Q I c f ⟨_,_,j,m,b,k _ F H (Step.refl g) rfl bu⟩
  .cases h
 .split at h
  .rename_i xs ys b;refine ac λ_ E=>?_;obtain⟨rfl,rfl⟩:=zT h;obtain⟨p,vs,rfl,t,r⟩:=j;obtain⟨q,us,rfl,t',a⟩:=m;refine E ?_;by_cases G:vs=[]
   .subst G;have e :=t9 r.length.symm;subst e;exact JS h_ s σ H _ _ v u Q I c f ⟨p,q,us,rfl,rfl,(t.mono g.sub).sq,(t'.mono g.sub).sq,k _ F H (Step.refl g) ⟨q,us,rfl,t',a⟩ bu⟩
   refine NW h_ s σ H _ _ v u Q I c f ⟨p,q,vs,us,rfl,rfl,(t.mono g.sub).sq,(t'.mono g.sub).sq,G,?_,?_,?_⟩
   .rwa[r.length,a.length]
   .intro z;subst z;have e :=t9 a.length.symm;refine k _ F H (Step.refl g) ⟨p,vs,rfl,t,?_⟩ bu
    simp_all
   .intro _ l hl;exact k _ _ _ (Step.alloc g hl) ⟨l,_,rfl,.inl cC,(r.append a).mono (bO.upd (g.sub.free hl))⟩ bu
  .cases h
 .split at h
  .rename_i xs ys b;refine ac λ_ E=>?_;obtain⟨rfl,rfl⟩:=zT h;obtain⟨p,vs,rfl,t,r⟩:=j;obtain⟨q,us,rfl,t',a⟩:=m;obtain⟨its,J,pl,_⟩:=I.lstR g t;obtain⟨w,L,A,_⟩:=I.lstR g t';obtain rfl:v=.ref p:=c;obtain rfl:u=.ref q:=f;obtain⟨⟨cls,O,data,sl⟩,ho,hc,n,hd⟩:=pl.isList;obtain⟨⟨M,B,data2,xV⟩,i,C,P,D⟩:=A.isList;subst hc hd C D;refine E ?_;refine vX ⟨_,ho,rfl⟩ ⟨_,i,rfl⟩ noFill_list_add seq_list_add PySem.F.slot_list_add PySem.F.entry_list_add (PySem.F.args_list_add_2 _ _) (list_addW p q _ _ n P O B sl xV (by rwa[bh,bh,<-J.length,<-L.length,r.length,a.length])) ⟨ho,i,?_⟩;have R:its.toArray++w.toArray=(its++w).toArray:=by simp
   rw[R];exact⟨.ref _,_,I.WX (J.append L) (by rwa[ah,r.length,a.length]),rfl,k _ _ _ (Step.alloc g I.fresh) ⟨_,_,rfl,.inl (.inl cC),((r.append a).mono (bO.upd (o:=.lst _) (g.sub.free I.fresh)))⟩ λz=>.lst (bO.refl _) I.fresh (.ko g z (r.append a))⟩
  .cases h
def JT{op:B7}{o:Vt}{O:Int->Int->Prop}{f:Int->Int->Int}(h:j9 X (binaryOp op) (rI O λi j=>.int (f i j)))
  (hb:∀da B d fr,fF o da B=a_ (d,fr)->∃i j,da=.int i/\B=.int j/\O i j/\d=.int (f i j)/\fr=d_):j9 X (binaryOp op) (gB X.K (fF o)):=
 j9.imp h λx y H Q a=>by
  refine ac λ_ e=>?_;obtain⟨da,B,d,fr,h,F,g,b,c,k⟩:=a;obtain⟨i,j,rfl,rfl,hc,rfl,rfl⟩:=hb da B d fr h;refine e ?_;exact⟨i,j,b,c,hc,k _ F H (Step.refl g) rfl bu⟩
def CQ{op:B7}{o:Vt}{f:Int->Int->Int}(h:j9 X (binaryOp op) (L1 λi j=>.int (f i j)))
  (hb:∀da B d fr,fF o da B=a_ (d,fr)->∃i j,da=.int i/\B=.int j/\d=.int (f i j)/\fr=d_):j9 X (binaryOp op) (gB X.K (fF o)):=
 j9.imp h λx y H Q a=>by
  refine ac λ_ e=>?_;obtain⟨da,B,d,fr,h,F,g,b,c,k⟩:=a;obtain⟨i,j,rfl,rfl,rfl,rfl⟩:=hb da B d fr h;refine e ?_;exact⟨i,j,b,c,k _ F H (Step.refl g) rfl bu⟩
def NP:j9 X (binaryOp .Sub) (gB X.K (fF .sub)):=CQ Sq λda a d fr h=>by
 cases da<;>cases a<;>simp only[fF,zu,reduceCtorEq]at h
 simp_all
def NY:j9 X (binaryOp .BitAnd) (gB X.K (fF .band)):=CQ SM λda a d fr h=>by
 cases da<;>cases a<;>simp only[fF,zu,reduceCtorEq]at h
 grind
def Su:j9 X (binaryOp .BitOr) (gB X.K (fF .bor)):=CQ WG λda a d fr h=>by
 cases da<;>cases a<;>simp only[fF,zu,HB,HA,reduceCtorEq]at h
 grind
def NT:j9 X (binaryOp .Mult) (gB X.K (fF .mul)):=by
 intro h_ s σ H x y v u Q I a b h;obtain⟨da,i,d,fr,h,F,g,e,f,k⟩:=h;cases da<;>cases i<;>simp only[fF,HA,reduceCtorEq]at h
 .split at h
  .rename_i c;cases h;exact Sy h_ s σ H _ _ v u Q I a b ⟨_,_,e,f,c,k _ F H (Step.refl g) rfl bu⟩
  .cases h
 .split at h
  .rename_i z j c;cases h;rw[e]at a;rw[f]at b;obtain⟨t,rfl⟩:=a;obtain⟨t',rfl⟩:=b;exact PySem.SB.mul c λl m=>⟨.str _,H,I.tok m,⟨l,rfl⟩,k _ F H (Step.refl g) rfl bu⟩
  .cases h
def NU:j9 X (binaryOp .Mod) (gB X.K (fF .mod)):=JT Sz λda a d fr h=>by
 cases da<;>cases a<;>simp only[fF,zu,reduceCtorEq]at h
 simp_all
def NQ:j9 X (binaryOp .RShift) (gB X.K (fF .shr)):=JT Sr λda a d fr h=>by
 cases da<;>cases a<;>simp only[fF,zu,reduceCtorEq]at h
 simp_all
def NR:j9 X (binaryOp .LShift) (gB X.K (fF .shl)):=JT (O:=Px) (X5 λ_ _ _ _ _ _ _ hc q=>lshift_int hc.1 (by have:=intBits_le hc.2.2;have:=hc.2.1;omega) q) λda a d fr h=>by
 cases da<;>cases a<;>simp only[fF,zu,HB,HA,reduceCtorEq]at h
 split at h
 .rename_i b;cases h;exact⟨_,_,rfl,rfl,b,rfl,rfl⟩
 .cases h
def jY(h:qM o da db=a_ (d,fr)):∃b,jA o da db=a_ b/\d=.bl b/\fr=d_:=by
 obtain⟨b,h1,h2⟩:=ee h
 grind
def Lk{op:CmpOp}{o:XX}{f:Int->Int->Bool}(h:j9 X (compareOp op) (L1 λi j=>.bl (f i j)))(hb:∀da B b,jA o da B=a_ b->∃i j,da=.int i/\B=.int j/\b=f i j):j9 X (compareOp op) (gB X.K (qM o)):=
 j9.imp h λx y H Q a=>by
  refine ac λ_ l=>?_;obtain⟨da,B,d,fr,h,F,g,c,e,k⟩:=a;obtain⟨b,hd,rfl,rfl⟩:=jY h;obtain⟨i,j,rfl,rfl,rfl⟩:=hb da B b hd;refine l ?_;exact⟨i,j,c,e,k _ F H (Step.refl g) rfl bu⟩
def SD:j9 X (compareOp .Lt) (gB X.K (qM .lt)):=Lk WH λda a b h=>by
 cases da<;>cases a<;>simp only[jA,VF,reduceCtorEq]at h
 simp_all
def SH:j9 X (compareOp .Gt) (gB X.K (qM .gt)):=Lk WI λda a b h=>by
 cases da<;>cases a<;>simp only[jA,VF,reduceCtorEq]at h
 simp_all
def SJ(B:X.A.units+20<dM):j9 X (compareOp .Eq) (gB X.K (qM .eq)):=λh_ s σ H x y v u Q I c e a=>by
 refine ac λ_ l=>?_;obtain⟨da,f,d,fr,h,F,g,i,j,k⟩:=a;obtain⟨b,hd,rfl,rfl⟩:=jY h;refine l ?_;simp only[jA]at hd;split at hd
 .rename_i hs;cases hd;simp only[ag]at hs;exact(vq I g 20 _ da f B hs.1 hs.2 i j c e).2.1 _ _ _ _ ⟨.bl _,H,I,rfl,k _ F H (Step.refl g) rfl bu⟩
 .cases hd
set_option tactic.hygienic false
end
structure Ow(K:Fg)(H₀ F H:Hp)(σ:St)(ρ:c8)(Ss:Nat->List aK):Prop where
 own:∀(i:Nat)d,ρ[i]?=a_ (a_ (d,c_))->∃v,σ[i]?=a_ (a_ v)/\jQ K H d v (Ss i)/\(Ss i).Nodup/\∀a∈Ss i,F a=b_/\H₀ a=b_
 sep:∀(i j:Nat)d d',i≠j->ρ[i]?=a_ (a_ (d,c_))->ρ[j]?=a_ (a_ (d',c_))->∀a∈Ss i,a∉Ss j
structure HZ where
 h:Hp
 z:Option V
instance:Coe HZ Hp:=⟨HZ.h⟩
structure Rl(K:Fg)(Fz:Hp)(H₀:HZ)(F H:Hp)(σ:St)(ρ:c8):Prop where
 step:Step Fz H₀.h F H
 len:σ.length=ρ.length
 val:∀(i:Nat)d,ρ[i]?=a_ (a_ (d,d_))->∃v,σ[i]?=a_ (a_ v)/\Rep K F d v
 keep:∀d v,ρ[0]?=a_ (a_ (d,c_))->H₀.z=a_ v->σ[0]?=a_ (a_ v)
 ow:∃Ss,Ow K H₀.h F H σ ρ Ss
section
variable{K:Fg}{F:Hp}{H₀:HZ}{σ:St}{ρ:c8}
def Mz{i:Nat}{d:Dat}(h:(xO ρ)[i]?=a_ (a_ d)):ρ[i]?=a_ (a_ (d,d_)):=by
 unfold xO at h;rw[aO]at h
 cases q:ρ[i]? with
 |none=>rw[q]at h;cases h
 |some o=>
   rw[q]at h;cases o with
   |none=>cases (bA h)
   |some z=>
     obtain⟨d',b⟩:=z
     cases b with
     |true=>cases (bA h)
     |false=>cases (bA h);rfl
def Rl.xO(R:Rl K Fz H₀ F H σ ρ):mW K F σ (xO ρ):=λi d e=>R.val i d (Mz e)
def Ow.moved(O:Ow K H₀.h F H σ ρ Ss)(st:Step F H F' H'):Ow K H₀.h F' H' σ ρ Ss where
 own:=λi d e=>by
  obtain⟨v,f,b,g,c⟩:=O.own i d e;refine⟨v,f,b.mono st.hh,g,λa m=>⟨?_,(c a m).2⟩⟩;obtain⟨o,ho,_⟩:=b.tD _ a m;exact st.un a o ho (c a m).1
 sep:=O.sep
def Rl.moved(R:Rl K Fz H₀ F H σ ρ)(st:Step F H F' H'):Rl K Fz H₀ F' H' σ ρ where
 step:=R.step.trans st
 len:=R.len
 val:=λi d e=>let ⟨v,q1,q2⟩:=R.val i d e;⟨v,q1,q2.mono st.ff⟩
 keep:=R.keep
 ow:=let ⟨Ss,O⟩:=R.ow;⟨Ss,O.moved st⟩
def yo(i j:Nat)(f:g_->g_):(ρ.modify i f)[j]?=if i=j then(ρ[j]?).map f else ρ[j]? :=by
 by_cases h:i=j
 .simp_all
 simp_all
def hV(q:(ρ.modify i λo=>o.map λs=>(s.1,d_))[j]?=a_ (a_ (d,b))):(i=j/\b=d_/\∃B,ρ[j]?=a_ (a_ (d,B)))\/(i≠j/\ρ[j]?=a_ (a_ (d,b))):=by
 rw[yo]at q;by_cases h:i=j
 .rw[if_pos h]at q;refine .inl ⟨h,?_⟩
  cases z:ρ[j]? with
  |none=>rw[z]at q;cases q
  |some o=>
    rw[z]at q
    cases o with
    |none=>cases q
    |some s=>grind
 .rw[if_neg h]at q;exact .inr ⟨h,q⟩
def Rl.A7(R:Rl K Fz H₀ F H σ ρ)(O:Ow K H₀.h F H σ ρ Ss)(ho:ρ[i]?=a_ (a_ (d,c_))):Rl K Fz H₀ (fz F H (Ss i)) H σ (ρ.modify i λo=>o.map λs=>(s.1,d_)):=by
 obtain⟨v,e1,e2,e3,B⟩:=O.own i d ho;refine⟨⟨tY R.step.good,R.step.ff.trans (oN R.step.good.sub),R.step.hh,λa o q n=>?_⟩,?_,λj d' q=>?_,λd' u q=>?_,Ss,λj d' q=>?_,λj k d1 d2 c x y=>?_⟩
 .rw[nH λm=>?_]
  .exact R.step.un a o q n
  simp_all
 .rw[HK];exact R.len
 .rcases hV q with⟨rfl,_,C,b⟩|⟨_,b⟩
  .rw[ho]at b;cases b;exact⟨v,e1,e2.kK R.step.good d λa m=>m⟩
  .obtain⟨w,e,f⟩:=R.val j d' b;exact⟨w,e,f.mono (oN R.step.good.sub)⟩
 .rcases hV q with⟨_,z,_⟩|⟨_,b⟩
  .cases z
  .exact R.keep _ u b
 .rcases hV q with⟨_,z,_⟩|⟨g,b⟩
  .cases z
  .obtain⟨w,e,f,A,t⟩:=O.own j d' b;refine⟨w,e,f,A,λa m=>⟨?_,(t a m).2⟩⟩;rw[nH (O.sep j i d' d (cj g) b ho a m)];exact(t a m).1
 .rcases hV x with⟨_,z,_⟩|⟨_,l⟩
  .cases z
  .rcases hV y with⟨_,z,_⟩|⟨_,p⟩
   .cases z
   .exact O.sep j k d1 d2 c l p
def Rl.OK(R:Rl K Fz H₀ F H σ ρ)(i:Nat):∃F',bO F F'/\Rl K Fz H₀ F' H σ (ρ.modify i λo=>o.map λs=>(s.1,d_)):=by
 obtain⟨Ss,O⟩:=R.ow;by_cases ho:∃d,ρ[i]?=a_ (a_ (d,c_))
 .obtain⟨d,ho⟩:=ho;exact⟨_,oN R.step.good.sub,R.A7 O ho⟩
 .refine⟨F,bO.refl _,⟨R.step,by rw[HK];exact R.len,λj d' q=>?_,λd' f q=>?_,Ss,λj d' q=>?_,λj k d1 d2 b g h=>?_⟩⟩
  .rcases hV q with⟨rfl,_,l,a⟩|⟨_,a⟩
   .cases l with
    |true=>exact absurd ⟨_,a⟩ ho
    |false=>exact R.val _ d' a
   .exact R.val j d' a
  .rcases hV q with⟨_,z,_⟩|⟨_,a⟩
   .cases z
   .exact R.keep _ f a
  .rcases hV q with⟨_,z,_⟩|⟨_,a⟩
   .cases z
   .exact O.own j d' a
  .rcases hV g with⟨_,z,_⟩|⟨_,c⟩
   .cases z
   .rcases hV h with⟨_,z,_⟩|⟨_,e⟩
    .cases z
    .exact O.sep j k d1 d2 b c e
def Rl.freeze(R:Rl K Fz H₀ F H σ ρ):∀is:List Nat,∃F',bO F F'/\Rl K Fz H₀ F' H σ (kK is ρ):=by
 intro is
 induction is generalizing F ρ with
 |nil=>exact⟨F,bO.refl _,R⟩
 |cons i is a=>
   obtain⟨F1,s1,b⟩:=R.OK i;obtain⟨c,s2,R2⟩:=a b;exact⟨c,s1.trans s2,R2⟩
theorem Fn:∀(is:List Nat)(ρ:c8)(j:Nat),(kK is ρ)[j]?=if j∈is then(ρ[j]?).map (λo=>o.map λs=>(s.1,d_))else ρ[j]?
 |[],ρ,j=>by simp[kK]
 |i::is,ρ,j=>by
   have e:kK (i::is) ρ=kK is (ρ.modify i λo=>o.map _):=rfl;rw[e,Fn is,yo];by_cases h:i=j
   .subst h;rw[if_pos rfl,if_pos (jv)];by_cases m:i∈is
    .rw[if_pos m]
     cases ρ[i]? with
     |none=>rfl
     |some o=>cases o<;>rfl
    .rw[if_neg m]
   grind
def Hl:kK (aR ρ.length) ρ=rV ρ:=by
 apply mM;intro j;rw[Fn];unfold rV
 simp_all
def Rl.iV(R:Rl K Fz H₀ F H σ ρ):∃F',bO F F'/\Rl K Fz H₀ F' H σ (rV ρ):=by
 obtain⟨F',s,a⟩:=R.freeze (aR _);rw[Hl]at a;exact⟨F',s,a⟩
def dt(q:(ρ.set i x)[j]?=a_ (a_ (d,b))):(i=j/\x=a_ (d,b))\/(i≠j/\ρ[j]?=a_ (a_ (d,b))):=by
 rw[sv]at q;by_cases h:i=j
 .simp_all
 .rw[if_neg h]at q;exact .inr ⟨h,q⟩
def PL(hl:i<σ.length):(σ.set i (a_ v))[i]?=a_ (a_ v):=eA hl
def wY(q:(ρ.set i x)[i]?=a_ y):i<ρ.length:=by
 rw[sv]at q
 simp_all
def Rl.xY(R:Rl K Fz H₀ F H σ ρ)(r:Rep K F d v):Rl K Fz H₀ F H (σ.set i (a_ v)) (ρ.set i (a_ (d,d_))):=by
 obtain⟨Ss,O⟩:=R.ow;refine⟨R.step,by simpa using R.len,λj d' q=>?_,λd' l q=>?_,Ss,λj d' q=>?_,λj k d1 d2 c m n=>?_⟩
 .rcases dt q with⟨rfl,e⟩|⟨a,b⟩
  .cases e;exact⟨v,PL (by rw[R.len];exact wY q),r⟩
  .obtain⟨w,o,f⟩:=R.val j d' b;exact⟨w,by simp_all,f⟩
 .rcases dt q with⟨_,e⟩|⟨a,b⟩
  .cases e
  .intro z;rw[bP a];exact R.keep _ l b z
 .rcases dt q with⟨rfl,e⟩|⟨a,b⟩
  .cases e
  .obtain⟨w,o,f⟩:=O.own j d' b;exact⟨w,by simp_all,f⟩
 .rcases dt m with⟨_,e⟩|⟨_,g⟩
  .cases e
  .rcases dt n with⟨_,e⟩|⟨_,h⟩
   .cases e
   .exact O.sep j k d1 d2 c g h
def Rl.Rv(R:Rl K Fz H₀ F H σ ρ)(O:Ow K H₀.h F H σ ρ Ss)(o:jQ K H d v S)(nd:S.Nodup)(Y:∀a∈S,F a=b_/\H₀.h a=b_)(h0:i≠0)
  (B:∀(j:Nat)d',i≠j->ρ[j]?=a_ (a_ (d',c_))->∀a∈Ss j,a∉S):Rl K Fz H₀ F H (σ.set i (a_ v)) (ρ.set i (a_ (d,c_))):=by
 refine⟨R.step,by simpa using R.len,λj d' q=>?_,λd' p q=>?_,λj=>if j=i then S else Ss j,λj d' q=>?_,λj k d1 d2 g r s=>?_⟩
 .rcases dt q with⟨rfl,e⟩|⟨b,c⟩
  .cases e
  .obtain⟨w,t,l⟩:=R.val j d' c;exact⟨w,by simp_all,l⟩
 .rcases dt q with⟨e,_⟩|⟨b,c⟩
  .exact absurd e h0
  .intro z;rw[bP b];exact R.keep _ p c z
 .rcases dt q with⟨rfl,e⟩|⟨b,c⟩
  .cases e;rw[if_pos rfl];exact⟨v,PL (by rw[R.len];exact wY q),o,nd,Y⟩
  .obtain⟨w,t,l⟩:=O.own j d' c;rw[if_neg (cj b)];exact⟨w,by simp_all,l⟩
 .intro a m
  rcases dt r with⟨rfl,e⟩|⟨h1,f⟩
  .grind
  .rw[if_neg (cj h1)]at m
   rcases dt s with⟨rfl,e⟩|⟨h2,n⟩
   .rw[if_pos rfl];exact B j d1 h1 f a m
   .rw[if_neg (cj h2)];exact O.sep j k d1 d2 g f n a m
def Rl.full{K:Fg}(R:Rl K Fz H₀ F H σ (rV ρ)):mW K F σ (M.full ρ):=by rw[<-Ci];exact R.xO
noncomputable def uz(F:Hp)(S:List aK):Hp:=λa=>if a∈S then b_ else F a
def sD(h:a∈S):uz F S a=b_:=if_pos h
def jr(h:a∉S):uz F S a=F a:=if_neg h
def Step.Yo(st:Step F H F' H')(g:Good F H)(B:∀a∈S,H a=b_)(o:jQ K H' d v S):Step F H (uz F' S) H':=by
 refine⟨⟨λa o' q=>?_,λa vs q=>?_⟩,λa o' q=>?_,st.hh,λa o' q n=>?_⟩
 .by_cases m:a∈S
  .rw[sD m]at q;cases q
  .rw[jr m]at q;exact st.good.sub a o' q
 .rw[jr λm=>?_]
  .exact st.good.tup a vs q
  .obtain⟨u,b,c⟩:=o.tD _ a m;rw[q]at b;cases b;exact c
 .rw[jr λm=>?_]
  .exact st.ff a o' q
  .rw[g.sub.free (B a m)]at q;cases q
 .by_cases m:a∈S
  .exact sD m
  .rw[jr m];exact st.un a o' q n
def Fq(R:Rl K Fz H₀ F H σ ρ)(h:L6 C e ρ=a_ (d,fr,ρ'))
  (k:∀v Fm F' H',bO F Fm->Rl K Fz H₀ Fm H σ ρ'->Step Fm H F' H'->Rep K F' d v->(fr=c_->gu K H H' d v)->Q v H'):∃B,ba C e B=a_ (d,fr)/\tE K B d fr σ H Q:=by
 obtain⟨⟨d1,s⟩,h2,h⟩:=ck h;dsimp only at h;by_cases c:(im d1 || s)=c_
 .rw[if_pos c]at h;have hh:d=d1/\fr=s/\ρ'=ρ:=by grind
  obtain⟨i,j,l⟩:=hh;subst i j l;obtain⟨x,sp,t⟩:=R.iV;refine⟨_,h2,x,t.step.good,t.full,λv F1 g st r f=>?_⟩;have b:=Step.shrink R.step.good sp st
  cases hi:im d with
  |true=>exact k v F _ g (bO.refl _) R b (r.shrink R.step.good st d hi) f
  |false=>
    rw[hi]at c;obtain⟨S,n,e1,o⟩:=f c;have p:Step F H (fz (shr F H F1) g S) g:=by
     refine⟨(tY (S:=S) b.good),b.ff.trans (oN b.good.sub),b.hh,λa u q nn=>?_⟩;rw[nH λm=>?_]
     .exact b.un a u q nn
     grind
    exact k v F _ g (bO.refl _) R p (o.kK b.good d λa m=>m) f
 .rw[if_neg c]at h;obtain⟨⟨d2,z⟩,h3,h⟩:=ee h;cases h;obtain⟨w,s2,R2⟩:=R.freeze _;exact⟨_,h3,w,R2.step.good,R2.xO,λv F' H' st r f=>k v w F' H' s2 R2 st r f⟩
def yG(R:Rl K Fz H₀ F H σ ρ)(h:L6 C e ρ=a_ (d,fr,ρ'))
  (k:∀v Fm F' H',bO F Fm->Rl K Fz H₀ Fm H σ ρ'->Step Fm H F' H'->Rep K F' d v->(fr=c_->gu K H H' d v)->Q v H'):gE K C e σ H Q:=
 let ⟨_,h1,h2⟩:=Fq R h k;⟨_,d,fr,h1,h2⟩
end
def vg(K:Fg)(Fz:Hp)(H₀:HZ)(F:Hp)(D:Ends):Out->Prop
 |.nx ρ'=>∀F' H' a,bO F F'->Rl K Fz H₀ F' H' a ρ'->D.nx a H'
 |.bk ρ'=>∀F' H' a,bO F F'->Rl K Fz H₀ F' H' a ρ'->D.bk a H'
 |.ct ρ'=>∀F' H' a,bO F F'->Rl K Fz H₀ F' H' a ρ'->D.ct a H'
 |.rt d fr=>∀v F' H',Step Fz H₀.h F' H'->Rep K F' d v->(fr=c_->gu K H₀.h H' d v)->D.rt v H'
def vg.mono{K:Fg}{F1:Hp}{D:Ends}(s:bO F F1)(h:vg K Fz H₀ F D o):vg K Fz H₀ F1 D o:=by
 cases o with
 |nx ρ'=>exact λF' H' a s' R=>h F' H' a (s.trans s') R
 |bk ρ'=>exact λF' H' a s' R=>h F' H' a (s.trans s') R
 |ct ρ'=>exact λF' H' a s' R=>h F' H' a (s.trans s') R
 |rt d fr=>exact h
def gS(K:Fg)(C:Fs)(x:Sx):TS:=λD σ H=>∃Fz H₀ F ρ out,pv C x ρ=a_ out/\Rl K Fz H₀ F H σ ρ/\vg K Fz H₀ F D out
def Zo(K:Fg)(C:Fs)(xs:List Sx):TS:=λD σ H=>∃Fz H₀ F ρ out,fh C xs ρ=a_ out/\Rl K Fz H₀ F H σ ρ/\vg K Fz H₀ F D out
abbrev SS(X:Cx)(C:Fs)(st:i4)(x:Sx):Prop:=PS X st (gS X.K C x)
abbrev yY(X:Cx)(C:Fs)(st:List i4)(xs:List Sx):Prop:=zf X st (Zo X.K C xs)
section
variable{X:Cx}{st:i4}{pos:v7}
def D8:yY X C [] []:=zf.imp NG λD σ H a=>by
 obtain⟨Fz,H₀,F,ρ,out,h,R,k⟩:=a;cases h;exact k F H σ (bO.refl _) R
def zR(h1:SS X C st x)(h2:yY X C sts xs):yY X C (st::sts) (x::xs):=zf.imp (uF h1 h2) λD σ H a=>by
 refine ac λ_ f=>?_;obtain⟨Fz,H₀,F,ρ,out,h,R,k⟩:=a;obtain⟨o,ho,h⟩:=ck h;refine f ?_;refine⟨Fz,_,F,ρ,o,ho,R,?_⟩
 cases o with
 |nx ρ1=>exact λF1 e b s1 c=>⟨Fz,_,F1,_,_,h,c,k.mono s1⟩
 |bk ρ1=>cases h;exact k
 |ct ρ1=>cases h;exact k
 |rt d fr=>cases h;exact k
def Q8{st:i4}:SS X C st .MO:=λh_ s σ H D I a=>by
 obtain⟨Fz,H₀,F,ρ,out,h,R,k⟩:=a;cases h
def Q9(he:SE X C e xe):SS X C (.Return (a_ e) pos) (.ret xe):=PS.imp (JD he) λD σ H b=>by
 refine ac λ_ g=>?_;obtain⟨Fz,H₀,F,ρ,out,h,R,k⟩:=b;obtain⟨⟨d,fr⟩,h1,h⟩:=ee h;cases h;obtain⟨c,sp,a⟩:=R.iV;refine g ?_;exact⟨_,d,fr,h1,c,a.step.good,a.full,λv F' H' st r f=>k v F' H' (a.step.trans st) r λz=>(f z).back (F:=F) R.step.hh⟩
def MT{i:Nat}{x:bc}{p:v7}(Y:X.N[i]?=a_ x)(Z:Qz X.env.scope x)(hd:(x == ("__debug__":bc))=d_)(B:(x == ("__classdict__":bc))=d_):SS X C (.Return (a_ (.Name x p)) pos) (.mo i):=
 PS.imp (JD (my Y Z hd B)) λD σ H e=>by
  obtain⟨Fz,H₀,F,ρ,out,h,R,k⟩:=e;obtain⟨⟨d,b⟩,h1,h⟩:=ee h;cases h
  have c:ρ[i]?=a_ (a_ (d,b)):=by
   cases q:ρ[i]? with
   |none=>rw[q]at h1;cases h1
   |some z=>simp_all
  cases b with
  |false=>
    obtain⟨v,e1,r⟩:=R.val i d c;exact⟨v,e1,k v F H R.step r bu⟩
  |true=>
    obtain⟨Ss,O⟩:=R.ow;obtain⟨v,e1,e2,e3,f⟩:=O.own i d c;have st:Step Fz H₀ (fz F H (Ss i)) H:=by
     refine⟨tY R.step.good,R.step.ff.trans (oN R.step.good.sub),R.step.hh,λa o q n=>?_⟩;rw[nH λm=>?_]
     .exact R.step.un a o q n
     simp_all
    exact⟨v,e1,k v _ H st (e2.kK R.step.good d λa m=>m) λ_=>⟨_,e3,λa m=>(f a m).2,e2⟩⟩
def V7(hc:ST X C cnd xc)(ha:yY X C sa ya)(hb:yY X C sb yb):SS X C (.If cnd sa sb pos) (.ifs xc ya yb):=PS.imp (Wy hc ha hb) λD σ H c=>by
 refine ac λ_ i=>?_;obtain⟨Fz,H₀,F,ρ,out,h,R,k⟩:=c;obtain⟨⟨d,fr⟩,h1,h⟩:=ck h;obtain⟨z,e,h⟩:=ck h;obtain⟨f,sp,b⟩:=R.iV;refine i ?_;refine⟨_,d,fr,z,h1,e,f,b.step.good,b.full,λF1 g st=>?_⟩;have a:=Step.shrink R.step.good sp st
 cases z with
 |true=>
   exact Dg ⟨Fz,_,_,ρ,_,h,R.moved a,k.mono a.ff⟩
 |false=>
   exact Dh ⟨Fz,_,_,ρ,_,h,R.moved a,k.mono a.ff⟩
def GA{D:Ends}(h0:i≠0)(R:Rl X.K Fz H₀ F H σ ρ)(h1:L6 C xe ρ=a_ (d,fr,ρ'))(k:vg X.K Fz H₀ F D (.nx (ρ'.set i (a_ (d,fr && !im d))))) :
  ∃B,ba C xe B=a_ (d,fr)/\tE X.K B d fr σ H (λv H'=>D.nx (σ.set i (a_ v)) H'):=by
 refine Fq R h1 λv Fm F' H' h c st r f=>?_;have k' :=k
 cases e:fr && !im d with
 |false=>
   rw[e]at k';exact k' F' H' _ (h.trans st.ff) ((c.moved st).xY r)
 |true=>
   rw[e]at k';simp only[ag]at e;obtain⟨S,nd,e1,o⟩:=f e.1;have b:=Step.Yo st c.step.good e1 o;obtain⟨n,l⟩:=c.ow;refine k' _ H' _ (h.trans b.ff) ((c.moved b).Rv (l.moved b) o nd (λa m=>⟨sD m,R.step.hh.free (e1 a m)⟩) h0 λj d2 _ q a m1 m2=>?_);obtain⟨s,p,g,_,_⟩:=l.own j d2 q;obtain⟨u,t,_⟩:=g.tD _ a m1
   simp_all
def Aa(h0:i≠0)(B:∀σ H Q,gE X.K C xe σ H Q->te σ H Q):∀D σ H,gS X.K C (.set i xe) D σ H->zM te (kr i) D σ H:=λD σ H b=>by
 refine ac λ_ c=>?_;obtain⟨Fz,H₀,F,ρ,out,h,R,k⟩:=b;obtain⟨⟨d,fr,ρ'⟩,h1,h⟩:=ee h;cases h;obtain⟨a,e1,e2⟩:=GA h0 R h1 k;refine c ?_;exact B _ _ _ ⟨a,d,fr,e1,e2⟩
def IS{i:Nat}{x:bc}(h0:i≠0)(B:X.N.Nodup)(hi:X.N[i]?=a_ x)(O:Loc X.env.scope x)(he:SE X C e xe)(hs:swapsWith e (a_ (.Name x pos')) pos.line X.env=pure d_)
  (hf:X.fn x=c_\/X.env.scope.names.lookup x=a_ .local):SS X C (.Assign [.Name x pos'] e pos) (.set i xe):=
 PS.imp (R8 B hi O he hs hf) (Aa h0 λ_ _ _ h=>h)
end
end M
namespace L2
open PySem PySem.Spec PyProof.Rows
noncomputable def eQ(X:Cx)(scope:mI)(cl:List (bc×aK))(N:List bc)(B:ak)(O:Hp)(C:aK)(ex:List aK):Cx:=
 { X with N:=N,s₀:=B,H₀:=O,env:=compEnvC scope cl C X.env,outer:=X.stack,stack:=X.stack,ex:=ex,fn:=λ_=>d_,pn:=[],xe:=λ_ _=>False }
def L7(X:Cx)(ifs:List a9)(t:TT):Prop:=
 ∀(h_:List (aK×lF))(s:ak)(σ:St)(H:Hp)(Q:Bool->Hp->Prop),Inv X h_ σ H s->t σ H Q->
  aG (aI X.prog X.w) X.A (forIn ifs c_ λc r=>if r=c_ then do let ok <-isTrue c X.env (eval c X.env);pure (i6 ok)else pure (i6 r)) (TP X h_ σ Q) X.xe s
def ND:L7 X [] (λ_ H Q=>Q c_ H):=λ_ _ _ H _ I h=>wpAny_tests_nil ⟨H,I,h⟩
def NC(h:PT X c t):L7 X [c] t:=λh_ s σ H Q I a=>wpAny_tests_one (h h_ s σ H Q I a)
noncomputable def iQ(nt:Nat)(caps:List Nat)(σ:St):St:=bD nt b_++caps.map λj=>(σ[j]?).join
def IK(wi:TI)(nt:Nat)(caps:List Nat)(g:TG)(B:TT)(te:TE):TE:=λσ H Q=>wi σ H λJ d=>∃W:Nat->Nat->List V->Hp->Prop,(∃m,W 0 m [] d)/\∀i m ys H,W i m ys H->
 (J.stop i H/\ys.length<=aC/\∀p,H p=b_->Q (.ref p) (upd H p (.lst ys)))\/
 (J.go i H/\ys.length<aC/\∀x H',J.yld i H x H'->g x (iQ nt caps σ) H' λσ2 H2=>B σ2 H2 λb c=>
  if b=c_ then te σ2 c λy H4=>∃a,a<m/\W (i+1) a (ys++[y]) H4 else ∃a,a<m/\W (i+1) a ys c)
structure jj(X:Cx)(scope:mI)(tn cn:List bc)(caps:List Nat):Prop where
 kind:scope.kind=.function
 nocell:∀y∈scope.names,y.2≠.cell
 locs:∀y∈scope.names,y.2=.local->scope.names.lookup y.1=a_ .local
 frees:∀y∈scope.names,y.2=.free->X.env.kindOf y.1=a_ .cell\/X.env.kindOf y.1=a_ .free
 nofree:∀x,scope.names.lookup x=a_ .free->(x,dY)∈scope.names
 caps:caps.map (λj=>X.N[j]?)=cn.map a_
 capk:∀x∈cn,X.env.kindOf x=a_ .cell\/X.env.kindOf x=a_ .free
 capn:∀x∈cn,scope.names.lookup x=a_ .free
theorem uD{env:LS}(x:bc):∀names:List (bc×kE),(names.map λ(n,k)=>if(k == dY && env.scope.kind == .function && env.kindOf n == a_ .cell)then(n,lO)else(n,k)).lookup x =
  (names.lookup x).map λk=>if(k == dY && env.scope.kind == .function && env.kindOf x == a_ .cell)then lO else k
 |[]=>rfl
 |(n,k)::r=>by
   by_cases a:x=n
   .subst a;simp only[aB,List.lookup_cons_self,df];split<;>simp
   .have hb:(x == n)=d_:=by simpa using a
    rw[fH,hb,<-uD x r,aB];dsimp only;split<;>rw[fH,hb]
def oB(x:bc):(relabel scope env).names.lookup x=(scope.names.lookup x).map λk=>if(k == dY && env.scope.kind == .function && env.kindOf x == a_ .cell)then lO else k:=uD x _
def x9{scope:mI}(hc:∀y∈scope.names,y.2≠lO)(h:(relabel scope env).names.lookup x=a_ .cell\/(relabel scope env).names.lookup x=a_ .free):scope.names.lookup x=a_ .free:=by
 rw[oB]at h
 cases q:scope.names.lookup x with
 |none=>rw[q]at h;simp at h
 |some k=>
   rw[q]at h;simp only[df,je]at h;by_cases hk:k=.free
   .rw[hk]
   .have hb:(k == dY)=d_:=by simpa using hk
    rw[hb]at h
    rcases h with h|h
    .subst h;exact absurd rfl (hc _ (gv q))
    .exact absurd h hk
def qr{scope:mI}(h:scope.names.lookup x=a_ .free):(relabel scope env).names.lookup x≠a_ .local:=by
 rw[oB,h];simp only[df,ne_eq,je];split<;>(intro z;cases z)
section
variable{X:Cx}{h_:List (aK×lF)}{σ:St}{H:Hp}
theorem pZ{env:LS}:∀(names:List (bc×kE)) (cs:List (bc×aK)),(∀y∈names,y.2=.free->∃c,env.cells.lookup y.1=a_ c)->(∀n c,cs.lookup n=a_ c->env.cells.lookup n=a_ c)->
  ∃cl:List (bc×aK),(forIn (m:=BO) names cs λx r=>if(x.2 == dY)=c_ then do let a <-cellOf env x.1;pure (i6 ((x.1,a)::r))else pure (i6 r))=pure cl/\(∀n c,cl.lookup n=a_ c->env.cells.lookup n=a_ c)/\
   (∀n c,cs.lookup n=a_ c->∃B,cl.lookup n=a_ B)/\∀n,(n,dY)∈names->∃c,cl.lookup n=a_ c
 |[],cs,_,h2=>⟨cs,rfl,h2,λn c e=>⟨c,e⟩,λn z=>nomatch z⟩
 |(n,k)::r,cs,h1,h2=>by
   by_cases hk:k=.free
   .refine ac λ_ o=>?_;subst hk;obtain⟨c,hc⟩:=h1 _ jv rfl
    have b:cellOf env n=pure c:=by
     unfold cellOf;rw[hc]
    obtain⟨cl,e,f,g,h⟩:=pZ r ((n,c)::cs) (λy i=>h1 y (ju _ i)) (λm d e=>by
     grind)
    refine o ?_;refine⟨cl,?_,f,λm d hd=>?_,λm j=>?_⟩
    .rw[vQ];simp only[beq_self_eq_true,if_true,b,pure_bind];exact e
    .by_cases l:m=n
     .simp_all
     .have:(m == n)=d_:=by simpa using l
      exact g m d (by rwa[fH,this])
    .rcases aw.mp j with z|z
     .simp_all
     .exact h m z
   .obtain⟨cl,e,f,g,h⟩:=pZ r cs (λy i=>h1 y (ju _ i)) h2;refine⟨cl,?_,f,g,λm j=>?_⟩
    .simp_all
    .rcases aw.mp j with z|z
     .grind
     .exact h m z
def vz(ok:X.Ok)(S:jj X scope tn cn caps):∃cl:List (bc×aK),closureFor scope X.env=pure cl/\(∀n c,cl.lookup n=a_ c->X.env.cells.lookup n=a_ c)/\∀n,(n,dY)∈scope.names->∃c,cl.lookup n=a_ c:=by
 obtain⟨cl,e,a,_,b⟩:=pZ scope.names [] (λy d hk=>ok.has y.1 (S.frees y d hk)) (λn c e=>by simp at e);refine⟨cl,?_,a,b⟩;unfold closureFor;rw[bind_pure];exact e
def Inv.IF{D:aK}(I:Inv X h_ σ H s)(B:p6 X h_ H D)(hs:X.s₀.heap.objs.size<=D)(new:ku X.prog X.w (upd H D o) s.heap D o):Inv X h_ σ (upd H D o) s:=by
 obtain⟨g,h,hf,_,hc,hp⟩:=B
 have f:∀b a,X.s₀.heap.get? b=a_ a->b≠D:=λb a e z=>by
  subst z;exact absurd (aW (hl9 e) hs) (bx _)
 refine⟨I.ok,I.os,I.bare,⟨I.base.keep,I.base.slot,λb a e n i=>?_,I.base.there,λb xs e=>?_,λb a u e=>?_⟩,I.loc,I.cell,?_,λx c e=>?_,λp d=>?_,λb u e=>?_,I.len⟩
 .rw[dR (f b a e)];exact I.base.free b a e n i
 .rw[dR (iM (I.base.tups b xs e) g)];exact I.base.tups b xs e
 .rw[dR (iM (I.base.frzs b a u e) g)];exact I.base.frzs b a u e
 .rw[dR (cj h)];exact I.free
 .rw[dR (hc x c e)];exact I.freeC x c e
 .obtain⟨j,k,l,m,r⟩:=I.pin p d;exact⟨j,by rwa[dR (hp p d)],l,m,r⟩
 .by_cases hb:b=D
  .subst hb;rw[cC]at e;cases e;exact new
  .rw[dR hb]at e;exact(I.hok b u e).nY λ_ q=>q
def oR{iter:a9}{ifs:List a9}(J:Nat->ak->Prop)
  (turn:∀n s,J n s->aG (aI prog w) A (pyNext it) (λr s₁=>match r with
   |none=>R (.ok .next) s₁
   |some v=>aG (aI prog w) A (letOwnedTupleGo target it v) (λ_ B=>aG (aI prog w) A (assign target env v) (λ_ Y=>
     aG (aI prog w) A (forIn ifs c_ λc r=>if r=c_ then do let ok <-isTrue c env (eval c env);pure (i6 ok)else pure (i6 r)) (λok O=>
      if ok=c_ then aG (aI prog w) A (eval elt env) (λx Z=>
       aG (aI prog w) A (call (.builtin "list.append") [acc,x]) (λ_ s₅=>∃m,m<n/\J m s₅) (λ_ _=>False) Z) (λ_ _=>False) O
      else ∃m,m<n/\J m O) (λ_ _=>False) Y) (λ_ _=>False) B) (λ_ _=>False) s₁) (λ_ _=>False) s)
  (n:Nat)(h:J n s) :
  codeAny (aI prog w) A (.compLoop (.ListComp elt [⟨target,iter,ifs,0⟩] scope pos) 0 it acc env) R s:=by
 refine codeAny_loop rfl J (λn s i=>?_) n h;refine wpAny_noted ?_;rw[compTurn_list];refine wb9 (FY (wb9 (dz (turn n s i) (λr s₁ a=>?_) λ_ _ h'=>h'.elim)))
 cases r with
 |none=>exact wu9 a
 |some v=>
   refine wb9 (dz a (λ_ B d=>?_) λ_ _ h'=>h'.elim);refine wb9 (dz d (λ_ Y e=>wb9 (dz e (λok O b=>?_) λ_ _ h'=>h'.elim)) λ_ _ h'=>h'.elim)
   cases ok with
   |false=>exact wu9 ⟨rfl,b⟩
   |true=>
     exact wb9 (wb9 (dz b (λx Z f=>wb9 (dz f (λ_ s₅ g=>wu9 (wu9 ⟨rfl,g⟩)) λ_ _ h'=>h'.elim)) λ_ _ h'=>h'.elim))
def pN(nt:Nat)(g:TG):Prop:=∀x σ H Q,g x σ H Q->g x σ H λσ2 H2=>Q σ2 H2/\σ2.length=σ.length/\∀i,nt<=i->σ2[i]?=σ[i]?
def uh(h:i<nt):pN nt (kr i):=λx σ H Q q=>by
 refine⟨q,by simp,λj a=>?_⟩;rw[bP (λz=>(aZ h (aa a (ae z.symm))))]
def vI(nt:Nat)(g:QC):Prop:=∀xs σ H Q,g xs σ H Q->g xs σ H λσ2 H2=>Q σ2 H2/\σ2.length=σ.length/\∀i,nt<=i->σ2[i]?=σ[i]?
def Gu:vI nt Hj:=λxs σ H Q ⟨e,q⟩=>⟨e,q,rfl,λ_ _=>rfl⟩
def Co(mono:∀x σ H Q Q',(∀σ2 H2,Q σ2 H2->Q' σ2 H2)->t x σ H Q->t x σ H Q')(B:∀x σ H Q Q',(∀σ2 H2,Q σ2 H2->Q' σ2 H2)->u x σ H Q->u x σ H Q')(ht:pN nt t)(O:vI nt u):vI nt (xj t u):=λxs σ H Q a=>by
 obtain⟨v,r,e,q⟩:=a;refine⟨v,r,e,?_⟩;exact mono _ _ _ _ _ (λσ2 H2 ⟨b,c,s2⟩=>B _ _ _ _ _ (λd h ⟨f,g,s3⟩=>⟨f,g.trans c,λi hi=>(s3 i hi).trans (s2 i hi)⟩) (O _ _ _ _ b)) (ht _ _ _ _ q)
def Gs{K:aP}(B:vI nt u):pN nt (KQ K n u):=λx σ H Q ⟨a,xs,e,h1,h2,q⟩=>⟨a,xs,e,h1,h2,B _ _ _ _ q⟩
def ve:∀x σ H Q Q',(∀σ2 H2,Q σ2 H2->Q' σ2 H2)->kr i x σ H Q->kr i x σ H Q':=λ_ _ _ _ _ h q=>h _ _ q
def Hi:∀x σ H Q Q',(∀σ2 H2,Q σ2 H2->Q' σ2 H2)->Hj x σ H Q->Hj x σ H Q':=λ_ _ _ _ _ h q=>⟨q.1,h _ _ q.2⟩
def Dt(B:∀x σ H Q Q',(∀σ2 H2,Q σ2 H2->Q' σ2 H2)->t x σ H Q->t x σ H Q')(O:∀x σ H Q Q',(∀σ2 H2,Q σ2 H2->Q' σ2 H2)->u x σ H Q->u x σ H Q') :
  ∀x σ H Q Q',(∀σ2 H2,Q σ2 H2->Q' σ2 H2)->xj t u x σ H Q->xj t u x σ H Q':=λ_ _ _ _ _ h ⟨v,r,e,q⟩=>⟨v,r,e,B _ _ _ _ _ (λ_ _ a=>O _ _ _ _ _ h a) q⟩
def BE(X:Cx)(h_:List (aK×lF))(σ:St)(Q:VK)(B:aj)(C:aK)(r:Result)(s':ak):Prop:=
 r=.ok .next/\∃D H',B=.ref D/\(∃m,s'.heap.Ns C m)/\Inv X h_ σ H' s'/\p6 X h_ H' C/\Q (.ref D) H'
def vx{iter:a9}{ifs:List a9}{cl:List (bc×aK)}
  (hcalm:X.calm=c_)(S:jj X scope tn cn caps)(O:∀n c,cl.lookup n=a_ c->X.env.cells.lookup n=a_ c)(hhas:∀n,(n,dY)∈scope.names->∃c,cl.lookup n=a_ c)
  (hg:∀(cl:List (bc×aK))(B:ak)(Z:Hp)(C:aK)(ex:List aK),PG (eQ X scope cl (tn++cn) B Z C ex) tg g)(touch:pN tn.length g)
  (ht:∀(cl:List (bc×aK))(B:ak)(Z:Hp)(C:aK)(ex:List aK),L7 (eQ X scope cl (tn++cn) B Z C ex) ifs tt)
  (he:∀(cl:List (bc×aK))(B:ak)(Z:Hp)(C:aK)(ex:List aK),PE (eQ X scope cl (tn++cn) B Z C ex) elt te)
  (hi:ZK X h_ σ tg (λJ H1=>∃W:Nat->Nat->List V->Hp->Prop,(∃m,W 0 m [] H1)/\∀i m ys H,W i m ys H->
   (J.stop i H/\ys.length<=aC/\∀p,H p=b_->Q (.ref p) (upd H p (.lst ys)))\/
   (J.go i H/\ys.length<aC/\∀x H',J.yld i H x H'->g x (iQ tn.length caps σ) H' λσ2 H2=>tt σ2 H2 λb H3=>
    if b=c_ then te σ2 H3 λy H4=>∃m',m'<m/\W (i+1) m' (ys++[y]) H4 else ∃m',m'<m/\W (i+1) m' ys H3)) itv B) :
  aG (aI X.prog X.w) X.A (newList []) (λacc s₃=>aG (aI X.prog X.w) X.A (newFunctionEnv scope X.env.globals cl [] X.env.qual b_ .none (a_ X.env)) (λcenv s₄=>
   codeAny (aI X.prog X.w) X.A (.compStart (.ListComp elt [⟨tg,iter,ifs,0⟩] scope pos) 0 itv acc { cenv with scope:=relabel scope X.env }) (BE X h_ σ Q acc cenv.locals) s₄) E s₃) E B:=by
 refine ac fun op_notN kq => ?_; obtain⟨it,fp,tnn,J,H2,e,f,T,st2,f2,W,⟨m0,w0⟩,turn⟩:=hi;subst e;refine kq ?_; refine dJ (wpAny_newFunctionEnv S.nocell (by intro y hy;simp at hy) (λh₁ L t=>?_) S.kind);generalize hH2:B.heap.push { cls:=.type "list",dict:=b_,data:=.seq ([]).toArray }=G2 at L t ⊢;have hC:G2.objs.size=B.heap.objs.size+1:=by rw[<-hH2,fK]
 have hDC:B.heap.objs.size≠G2.objs.size:=by rw[hC];exact bb (kG _)
 have old :=λb o e=>t.extBut b o (by rw[hC];exact bb (m6 (hl9 e))) (hp9 _ (hH2▸hp9 _ e));have hacc :=t.extBut _ _ hDC (hp9 _ (hH2▸aL _ rfl));generalize s:B.heap.objs.size=D at *;generalize hCd:G2.objs.size=C at *;have R:D<C:=by rw[hC];exact kG _
 have hDD :=s;have Qe:∀b o,B.heap.get? b=a_ o->b<D:=λb o e=>s▸hl9 e;have fresh:∀a,D<=a->H2 a=b_:=λa h=>f.hok.fresh (s▸h);have M:∀b∈fp,b<D:=λb hb=>by obtain⟨o,e,_⟩:=T.obj 0 _ st2 b hb;exact Qe b o e
 have frL:∀b∈HP X.stack,b<D:=λb hb=>by
  obtain⟨_,o,ho,_⟩:=f.stack.mem hb;exact Qe b o ho
 have clL:∀x c,cl.lookup x=a_ c->c<D:=λx c e=>by
  obtain⟨v,q⟩:=f.cell x c (O x c e);exact s▸q.lt
 let Y :=eQ X scope cl (tn++cn) B H2 C fp
 have okY:Y.Ok:=by
  refine⟨f.ok.mod,S.kind,f.ok.glob,f.ok.blt,?_,λx y c h1 h2=>f.ok.inj x y c (O x c h1) (O y c h2),λx hx=>?_,(λx c h=>nomatch h),f.ok.hd,f.ok.frames,.inl rfl,λb hb=>⟨?_,λx c e=>?_⟩,λb o e=>f.bs b o e,?_,λb o e hb=>?_,λb hb z=>?_,f.stack,f.D6⟩
  .exact aD (aq (ae hDD) R)
  .have hx' :=hx;exact hhas x (S.nofree x (x9 S.nocell hx'))
  .exact bb (cM (M b hb) R)
  .exact(f2 b hb).2.2.2.2.1 x c (O x c e)
  .exact aa f.ok.bsz f.sz
  .rcases(f2 b hb).2.2.2.1 with z|z
   .exact f.ok.noex b o e z
   .exact absurd (aW (aW (hl9 e) f.ok.bsz) z) (bx _)
  .have hb':=f2 b hb
   rcases aw.mp (f.uo b z)with q|q
   .exact hb'.2.1 q
   .exact hb'.2.2.1 q
 have invY:∀(s':ak) (m:bc->Option aj),s'.os=B.os->n9 s'.gens->(∀b o,B.heap.get? b=a_ o->s'.heap.get? b=a_ o)->s'.heap.Ns C m->(∀(i:Nat) (x:bc) (v:V),(tn++cn)[i]?=a_ x->(iQ tn.length caps σ)[i]?=a_ (a_ v)->Qz Y.env.scope x->∃u,RelV v u/\Look Y.env s'.heap m x u)->
   Inv Y (X.pn++h_) (iQ tn.length caps σ) H2 s':=λs' m ho hb hk hn hl=>by
  refine⟨okY,ho,hb,Un.kept hk,⟨m,hn,hl⟩,λx c e=>?_,fresh C (aD R),λx c e=>f.freeC x c (O x c e),λp hp=>?_,f.hok.kept hk,?_⟩
  .obtain⟨v,q⟩:=f.cell x c (O x c e);exact⟨v,q.keeps hk⟩
  .obtain⟨q1,q2,q3,q4,q5⟩:=f.pin p (by simpa [Y,eQ]using hp);refine⟨hk _ _ q1,q2,?_,λz=>?_,q5⟩
   .exact bb (cM (Qe _ _ q1) R)
   .rcases aw.mp (f.uo p.1 z)with w|w
    .exact q3 w
    .exact q4 w
  .show(iQ tn.length caps σ).length=(tn++cn).length;have e:=congrArg fD S.caps;simp only[aA]at e;simp[iQ,e]
 have loop:∀s₃:ak,s₃={ B with heap:=h₁,toks:=B.toks+([]:List (bc×aj)).length }->
   codeAny (aI X.prog X.w) X.A (.compLoop (.ListComp elt [⟨tg,iter,ifs,0⟩] scope pos) 0 (.ref it) (.ref D) (compEnvC scope cl C X.env)) (BE X h_ σ Q (.ref D) C) s₃:=by
  rintro s₃ rfl
  have I3:Inv Y (X.pn++h_) (iQ tn.length caps σ) H2 { B with heap:=h₁,toks:=B.toks+([]:List (bc×aj)).length }:=by
   refine invY _ _ rfl f.bare old L λi x v e1 e2 e3=>?_
   have hi:tn.length<=i:=by
    by_cases hi:tn.length<=i
    .exact hi
    .unfold iQ at e2;rw[aQ (by simpa using hi),cx]at e2;split at e2<;>cases e2
   unfold iQ at e2;rw[aJ (by simpa using hi),iE]at e2;rw[aJ hi]at e1;rw[aO]at e2
   cases hj:caps[i - tn.length]? with
   |none=>rw[hj]at e2;cases e2
   |some j=>
     rw[hj]at e2;have e2':(σ[j]?).join=a_ v:=bA e2
     have hσ:σ[j]?=a_ (a_ v):=by
      cases q:σ[j]? with
      |none=>rw[q]at e2';cases e2'
      | some z=>rw[q]at e2';cases z with
        |none=>cases e2'
        |some z=>exact congrArg a_ e2'
     have hN:X.N[j]?=a_ x:=by
      have e:=congrArg (λl=>l[i - tn.length]?) S.caps;simp only[aO,hj,e1,df]at e;exact bA e
     have hk:=S.capk x (aX e1);obtain⟨m,hn,hl⟩:=f.loc;obtain⟨u,ru,l⟩:=hl j x v hN hσ (hk.elim (λz=>.inr (.inl z)) λz=>.inr (.inr z));refine⟨u,ru,.inr ?_⟩
     rcases l with⟨k,_⟩|⟨k,c,ec,hcell⟩
     .rw[k]at hk;rcases hk with z|z<;>cases z
     .
      rcases e3 with z|z|z
      .
       exact absurd z (qr (S.capn x (aX e1)))
      .obtain⟨c',I⟩:=okY.has x (.inl z);have ecc :=bA ((O x c' I).symm.trans ec);rw[ecc]at I;exact⟨.inl z,c,I,hcell.keeps old⟩
      .obtain⟨c',I⟩:=okY.has x (.inr z);have ecc :=bA ((O x c' I).symm.trans ec);rw[ecc]at I;exact⟨.inr z,c,I,hcell.keeps old⟩
  have pinD:∀{F:St} {H':Hp} {s':ak} {its:List aj} {n:Nat},Inv Y (X.pn++h_) F H' s'->H' D=b_->s'.heap.get? D=a_ { cls:=.type "list",data:=.seq its.toArray n }->
    Inv Y ((X.pn++h_)++[(D,{ cls:=.type "list",data:=.seq its.toArray n })]) F H' s':=λ{F H' s' its n}I' hn hd=>by
   refine I'.qv λp hp=>?_
   rcases ax.mp hp with z|z
   .exact I'.pin p (ai _ z)
   .have e:=az.mp z;subst e;exact ⟨hd,hn,hDC,λz=>absurd (frL D z) (bx _),(λv z=>nomatch z)⟩
  have fpD:∀{H':Hp},H' D=b_->∀b,b=D->p6 Y (X.pn++h_) H' b:=λ{H'}hn b hb=>by
   subst hb;refine⟨hn,hDC,λz=>absurd (frL b z) (bx _),.inr (ae s),λx c e z=>?_,λp hp z=>?_⟩
   .have:=clL x c e;rw[z]at this;exact absurd this (bx _)
   .have:=Qe _ _ (f.pin p (by simpa [Y,eQ]using hp)).1;rw[z]at this;exact absurd this (bx _)
  have stat:∀{H':Hp}{pl:List (aK×lF)},(∀b∈fp,H' b=b_)->(∀p∈pl,p.1=D)->∀b∈fp,p6 Y ((X.pn++h_)++pl) H' b:=λ{H' pl}hn hpl b hb=>by
   obtain⟨g0,g1,g2,g3,g4,g5⟩:=f2 b hb;refine⟨hn b hb,?_,λz=>?_,.inl hb,λx c e=>g4 x c (O x c e),λp hp z=>?_⟩
   .exact bb (cM (M b hb) R)
   .rcases aw.mp (f.uo b z)with w|w
    .exact g1 w
    .exact g2 w
   .have G:p∈(X.pn++h_)++pl:=by simpa [Y,eQ]using hp
    rcases ax.mp G with w|w
    .exact g5 p w z
    .have h2:=M b hb;rw[<-z,(hpl p w)]at h2;exact absurd h2 (bx _)
  refine oR (λn s'=>∃(i:Nat) (ys:List V) (its:List aj) (k:Nat) (H':Hp),Inv Y (X.pn++h_) (iQ tn.length caps σ) H' s'/\H' D=b_/\s'.heap.get? D=a_ { cls:=.type "list",data:=.seq its.toArray k }/\cR ys its/\
   tnn i s'.heap/\(∀b∈fp,H' b=b_)/\W i n ys H') ?_ m0 ⟨0,[],[],0,H2,I3,fresh D (ao _),hacc,.nil,T.keep _ _ _ st2 λb hb o e=>old b o e,λb hb=>(f2 b hb).1,w0⟩
  rintro n s4 ⟨i,ys,its,k,H4,I4,hD4,ho4,rv4,st4,fr4,w4⟩;have I4':=pinD I4 hD4 ho4
  have pl1:∀p∈[((D,{ cls:=.type "list",data:=.seq its.toArray k }):aK×lF)],p.1=D:=λp hp=>by
   rw[az.mp hp]
  rcases turn i n ys H4 w4 with⟨stop,hz,qn⟩|⟨go,hz,step⟩
  .
   refine iR (T.done Y rfl rfl rfl hcalm i _ s4 _ H4 _ I4' (stat fr4 pl1) st4 stop) λr s5 ⟨hr,I5⟩=>?_;subst hr;have hd5:=(I5.pin (D,{ cls:=.type "list",data:=.seq its.toArray k }) (ai _ (ai _ (az.mpr rfl)))).1;have U :=I5.mN;have J5 :=f.Xv U.os U.base U.hok U.bare λb hb=>⟨(f2 b hb).2.2.2.1,(f2 b hb).2.1,(f2 b hb).2.2.2.2.1,(f2 b hb).2.2.2.2.2⟩
   have up:∀a,D<=a->H4 a=b_->p6 X h_ H4 a:=λa ha hn=>by
    refine⟨hn,?_,λz=>?_,.inr ?_,λx c e z=>?_,λp hp z=>?_⟩
    .have h1:=f.lt;intro z;rw[<-z,s]at h1;exact absurd (aW h1 ha) (bx _)
    .exact f.WM (by rw[s];exact ha) z
    .exact aa f.sz (by rw[s];exact ha)
    .obtain⟨v,q⟩:=f.cell x c e;have h1:=q.lt;rw[z,s]at h1;exact absurd (aW h1 ha) (bx _)
    .have h1:=Qe _ _ (f.pin p hp).1;rw[z]at h1;exact absurd (aW h1 ha) (bx _)
   have J6:Inv X h_ σ (upd H4 D (.lst ys)) s5:=J5.IF (up D (ao _) hD4) (by have h1:=f.sz;rw[s]at h1;exact h1) ⟨hz,its,k,rv4,hd5⟩;obtain⟨m5,hn5,_⟩:=U.loc;refine⟨rfl,D,upd H4 D (.lst ys),rfl,⟨m5,hn5⟩,J6,?_,qn D hD4⟩;obtain⟨u0,u1,u2,u3,u4,u5⟩:=up C (aD R) U.free;exact⟨by rw[dR (cj hDC)];exact u0,u1,u2,u3,u4,u5⟩
  .refine iR (T.item Y rfl rfl rfl hcalm i _ s4 _ H4 _ I4' (stat fr4 pl1) st4 go) λr s5 ⟨u,hr,h5⟩=>?_;subst hr;refine iR h5 λ_ s6 ⟨x,H6,I6,r6,y6,st6,fr6⟩=>?_;refine iR (hg cl B H2 C fp _ s6 _ H6 x u _ (I6.pinned (stat fr6 pl1) (T.obj _ _ st6)) r6 (touch _ _ _ _ (step x H6 y6))) λ_ s7 ⟨σ7,H7,I7,q7,l7,e7⟩=>?_
   have back:∀{H':Hp} {s':ak} {ys':List V} {P:List aj} {k':Nat} {n':Nat},Inv Y (X.pn++h_++mr fp s6.heap) σ7 H' s'->H' D=b_->s'.heap.get? D=a_ { cls:=.type "list",data:=.seq P.toArray k' }->cR ys' P->W (i+1) n' ys' H'->
     ∃(i:Nat) (ys:List V) (its:List aj) (k:Nat) (H':Hp),Inv Y _ (iQ _ _ σ) H' s'/\H' D=b_/\s'.heap.get? D=a_ { cls:=.type _,data:=.seq its.toArray k }/\cR ys its/\tnn i _/\(∀b∈fp,H' b=b_)/\W i n' ys H':=
    λ{H' s' ys' P k' n'}I' hd ho rv w=>by
     refine⟨_,_,P,k',H',(I'.mN).weak (by rw[l7]) (λj v hj=>?_),hd,ho,rv,T.keep _ _ _ st6 λb hb o e=>(I'.pin _ (ai _ (ai _ (nE hb e)))).1,λb hb=>?_,w⟩
     .have hj':tn.length<=j:=by
       by_cases hj':tn.length<=j
       .exact hj'
       .unfold iQ at hj;rw[aQ (by simpa using hj'),cx]at hj;split at hj<;>cases hj
      rw[e7 j hj'];exact hj
     .obtain⟨o,e,d⟩:=T.obj _ _ st6 b hb;exact(I'.pin _ (ai _ (ai _ (nE hb e)))).2.1
   have K:∀{F:St}{H':Hp}{s':ak},Inv Y (((X.pn++h_)++[(D,{ cls:=.type "list",data:=.seq its.toArray k })])++mr fp s6.heap) F H' s'->s'.heap.get? D=a_ { cls:=.type _,data:=.seq _ k }/\H' D=b_:=λI'=>by
    obtain⟨q1,q2,_⟩:=I'.pin (D,{ cls:=.type _,data:=.seq _ k }) (ai _ (au _ (ai _ (az.mpr rfl))));exact⟨q1,q2⟩
   have dropD:∀{F:St}{H':Hp}{s':ak},Inv Y (((X.pn++h_)++[(D,{ cls:=.type "list",data:=.seq its.toArray k })])++mr fp s6.heap) F H' s'->Inv Y (X.pn++h_++mr fp _) F H' s':=λI'=>
    I'.qv λp hp=>I'.pin p (ai _ (by
     rcases ax.mp hp with z|z
     .exact au _ (au _ z)
     .exact ai _ z))
   refine iR (ht cl B H2 C fp _ s7 _ H7 _ I7 q7) λb s8 ⟨H8,I8,q8⟩=>?_
   cases b with
   |false=>
     obtain⟨m',hm,w8⟩:=q8;exact⟨m',hm,back (dropD I8) (K I8).2 (K I8).1 rv4 w8⟩
   |true=>
     refine iR (he cl B H2 C fp _ s8 _ H8 _ I8 q8) λv s9 ⟨y,H9,I9,r9,m',hm,w9⟩=>?_;obtain⟨ho9,hD9⟩:=K I9;refine wpAny_list_append_plain (hsz:=aD (aq (ae rv4.length.symm) hz)) ⟨k,ho9⟩ λh' hl' hs'=>?_;obtain⟨k',hk'⟩:=hl';have I10:Inv Y (X.pn++h_++mr fp s6.heap) σ7 H9 { s9 with heap:=h' }:=by
      refine (dropD I9).turned (λb o hb e=>hs'.extBut b o hb e) hD9 hDC (.inr (ae s)) (fpD hD9 D rfl).2.2.2.2.1 λp hp=>?_;have G:p∈X.pn++h_++mr fp s6.heap:=by simpa [Y,eQ]using hp
      rcases ax.mp G with z|z
      .exact bb (Qe _ _ (f.pin p z).1)
      .exact bb (M _ (wW z).1)
     refine⟨m',hm,back (k':=k') I10 hD9 ?_ (rv4.append (.cons r9 .nil)) w9⟩;simpa using hk'
 exact codeAny_compStart_list (loop _ rfl) (T.self _ 0 _ _ _ (T.keep _ _ _ st2 λb hb o e=>old b o e) (loop _ rfl))
def NM{iter:a9}{ifs:List a9}
  (Y:X.calm=c_)(S:jj X scope tn cn caps)(hi:PI X tg iter wi)
  (hg:∀(cl:List (bc×aK))(B:ak)(O:Hp)(C:aK)(ex:List aK),PG (eQ X scope cl (tn++cn) B O C ex) tg g)(Z:pN tn.length g)
  (ht:∀(cl:List (bc×aK))(B:ak)(O:Hp)(C:aK)(ex:List aK),L7 (eQ X scope cl (tn++cn) B O C ex) ifs tt)
  (he:∀(cl:List (bc×aK))(B:ak)(O:Hp)(C:aK)(ex:List aK),PE (eQ X scope cl (tn++cn) B O C ex) elt te)
  (hs:∀x,foldedSetIterable iter X.env x=pure x):PE X (.ListComp elt [⟨tg,iter,ifs,0⟩] scope pos) (IK wi tn.length caps g tt te):=by
 intro h_ s σ H Q I h;obtain⟨cl,c,h1,h2⟩:=vz I.ok S;refine FZ rfl hs c S.kind S.locs (iR (hi h_ s σ H _ I h) λv s1 j=>iR j λitv s2 d=>?_);refine dz (vx Y S h1 h2 hg Z ht he d) (λk s3 l=>dz l (λi u n=>kC n λr w p=>?_) λ_ _ z=>z) λ_ _ z=>z;obtain⟨rfl,D,H',rfl,⟨m,t⟩,J,a,q⟩:=p;exact ⟨m,t,λh' f=>⟨.ref D,H',(J.turned (λb o hb e=>f.extBut b o hb e) a.1 a.2.1 a.2.2.2.1 a.2.2.2.2.1 a.2.2.2.2.2),rfl,q⟩⟩
def CI{iter:a9}{ifs:List a9}{Y:v7}(hN:X.N.Nodup)(hi':X.N[i]?=a_ x)(hx:Loc X.env.scope x)
  (Z:X.calm=c_)(S:jj X scope tn cn caps)(hi:PI X tg iter wi)
  (hg:∀(cl:List (bc×aK))(B:ak)(O:Hp)(C:aK)(ex:List aK),PG (eQ X scope cl (tn++cn) B O C ex) tg g)(touch:pN tn.length g)
  (ht:∀(cl:List (bc×aK))(B:ak)(O:Hp)(C:aK)(ex:List aK),L7 (eQ X scope cl (tn++cn) B O C ex) ifs tt)
  (he:∀(cl:List (bc×aK))(B:ak)(O:Hp)(C:aK)(ex:List aK),PE (eQ X scope cl (tn++cn) B O C ex) elt te)
  (hsw:swapsWith (.ListComp elt [⟨tg,iter,ifs,0⟩] scope pos) (a_ (.Name x pos')) Y.line X.env=pure c_)
  (hs:∀x,foldedSetIterable iter X.env x=pure x)(hf:X.fn x=c_\/X.env.scope.names.lookup x=a_ .local) :
  PS X (.Assign [.Name x pos'] (.ListComp elt [⟨tg,iter,ifs,0⟩] scope pos) Y) (zM (IK wi tn.length caps g tt te) (kr i)):=by
 intro h_ s σ H D I h;obtain⟨cl,j,h1,h2⟩:=vz I.ok S;rw[exec_Assign_Name_used _ _ _ _ hsw];refine wb9 (FY (wb9 ?_));refine wb9 (dz (FZ rfl hs j S.kind S.locs (iR (hi h_ s σ H _ I h) λv s1 w=>iR w λitv s2 k=>?_)) (λ_ s' y=>wu9 (wu9 y)) λ_ _ e=>e);refine dz (vx (Q:=λx A=>kr i x σ A _) Z S h1 h2 hg touch ht he k) (λE s3 F=>dz F (λa U G=>kC G λr K L=>?_) λ_ _ z=>z) λ_ _ z=>z;obtain⟨rfl,M,H',rfl,⟨m,P⟩,J,c,q⟩:=L;refine wpAny_assign_Name ?_;refine ac λ_ W=>?_;obtain⟨f,es,ep,l,d,n⟩:=id P
 refine W ?_;have R:Inv X (h_++[(a.locals,f)]) σ H' K:=J.qv λp hp=>by
  rcases ax.mp hp with z|z
  .exact J.pin p (ai _ z)
  .have e:p=(a.locals,f):=by simpa using z
   subst e;exact⟨l,c.1,c.2.1,c.2.2.1,λv z=>by rw[d]at z;cases z⟩
 refine um R hN hi' hx (v:=.ref M) rfl (λV u=>?_) hf;have T:=(u.pin (a.locals,f) (by simp)).1;exact ⟨m,⟨f,es,ep,T,d,n⟩,λh' t=>⟨_,H',((u.mN).turned (λb o hb e=>t.extBut b o hb e) c.1 c.2.1 c.2.2.2.1 c.2.2.2.2.1 c.2.2.2.2.2),q⟩⟩
end
end L2
namespace M
open PySem PySem.Spec PyProof.Rows L2
def lD(K:Fg)(F1:Hp)(J:It)(items:List Dat):Prop:=∀F H,Good F H->bO F1 F->
 (∀(i:Nat)d,items[i]?=a_ d->J.go i H/\∀x H',J.yld i H x H'->∃F',Step F H F' H'/\Rep K F' d x)/\∀i,items.length<=i->J.stop i H
noncomputable def vi(x:Iw)(F:Hp):Hp:=match x with
 |.rng _=>λ_=>b_
 |_=>F
def A5(h:bO F F'):bO (vi x F) F':=by
 unfold vi;split
 .intro a o e;cases e
 .exact h
def gI(K:Fg)(C:Fs)(x:Iw):TI:=λσ H R=>∃ρ items F,yH C x ρ=a_ items/\Good F H/\mW K F σ ρ/\∀J F1 a,Step F H F1 a->lD K (vi x F1) J items->R J a
abbrev SI(X:Cx)(C:Fs)(tg iter:a9)(x:Iw):Prop:=PI X tg iter (gI X.K C x)
noncomputable def XT(x:bc):It:=⟨λi _=>i<x.cps.size,λi H v H'=>H'=H/\∃c,x.cps[i]?=a_ c/\v=V.str ⟨#[c]⟩,λi _=>x.cps.size<=i⟩
def IC{K:aP}(x:bc)(t:LP)(it:aK):Turn P w K tg (XT x) [it] it (λi h=>h.IsStrIter it "str_ascii_iterator" x t i) where
 mem:=by simp
 obj:=λi h st b hb=>by
  have e:b=it:=by simpa using hb
  subst e;obtain⟨o,e,c,d⟩:=st;exact⟨o,e,λv z=>by rw[d]at z;cases z⟩
 keep:=λi h h' st k=>by
  obtain⟨o,e,c,d⟩:=st;exact⟨o,k it (by simp) o e,c,d⟩
 item:=by
  intro X g j l hc i h_ s σ H E I hf st a;subst g j l;obtain⟨m,n,A,p,q,r⟩:=hf it (by simp);have y:x.cps[i]?=a_ (x.cps[i]'a):=a8 a;refine wpAny_pyNext_ascii_item st y λh' f B=>?_;have C:Inv X h_ σ H { s with heap:=h',toks:=s.toks+1 }:=I.turned (λb o hb e=>(B.2 b hb).trans e) m n p q r;obtain⟨o,e,c,d⟩:=id f;exact⟨_,rfl,AV (s:={ s with heap:=h',toks:=s.toks+1 }) e c d cy ⟨.str ⟨#[x.cps[i]'a]⟩,H,C,⟨_,rfl⟩,⟨rfl,_,y,rfl⟩,f,λb hb=>(hf b hb).1⟩⟩
 done:=by
  intro X g j l hc i h_ s σ H E I hf st a;subst g j l;obtain⟨m,n,A,p,q,r⟩:=hf it (by simp);have u:x.cps.size<=i:=a;exact wpAny_pyNext_ascii_end (I.ok.hd hc) st (gZ u) λh' D=>⟨rfl,I.turned (t':=s.toks) (λb o hb e=>D b o hb e) m n p q r⟩
 self:=λ_ _ _ _ _ st h=>wpAny_pyIter_striter_ascii st h
def IA{K:aP}(x:bc)(t:LP)(it:aK):Turn P w K tg (XT x) [it] it (λi h=>h.IsStrIter it "str_iterator" x t i) where
 mem:=by simp
 obj:=λi h st b hb=>by
  have e:b=it:=by simpa using hb
  subst e;obtain⟨o,e,c,d⟩:=st;exact⟨o,e,λv z=>by rw[d]at z;cases z⟩
 keep:=λi h h' st k=>by
  obtain⟨o,e,c,d⟩:=st;exact⟨o,k it (by simp) o e,c,d⟩
 item:=by
  intro X g j l hc i h_ s σ H E I hf st a;subst g j l;obtain⟨m,n,A,p,q,r⟩:=hf it (by simp);have y:x.cps[i]?=a_ (x.cps[i]'a):=a8 a;refine wpAny_pyNext_wide_item st y λh' f B=>?_;have C:Inv X h_ σ H { s with heap:=h',toks:=s.toks+1 }:=I.turned (λb o hb e=>(B.2 b hb).trans e) m n p q r;obtain⟨o,e,c,d⟩:=id f;exact⟨_,rfl,AV (s:={ s with heap:=h',toks:=s.toks+1 }) e c d cy ⟨.str ⟨#[x.cps[i]'a]⟩,H,C,⟨_,rfl⟩,⟨rfl,_,y,rfl⟩,f,λb hb=>(hf b hb).1⟩⟩
 done:=by
  intro X g j l hc i h_ s σ H E I hf st a;subst g j l;obtain⟨m,n,A,p,q,r⟩:=hf it (by simp);have u:x.cps.size<=i:=a;exact wpAny_pyNext_wide_end (I.ok.hd hc) st (gZ u) λh' D=>⟨rfl,I.turned (t':=s.toks) (λb o hb e=>D b o hb e) m n p q r⟩
 self:=λ_ _ _ _ _ st h=>wpAny_pyIter_striter_wide st h
def Zk(tl:TE):TI:=λσ H R=>tl σ H λv a=>∃x,v=.str x/\R (XT x) a
def JI(hl:PE X l tl):PI X tg l (Zk tl):=by
 intro h_ s σ H R I h;refine iR (hl h_ s σ H _ I h) λv s1 ⟨y,c,a,d,f⟩=>?_;obtain⟨x,rfl,q⟩:=f;obtain⟨t,rfl⟩:=d
 have fin:∀b∈[s1.heap.objs.size],p6 X h_ c b:=λb hb=>by
  have e:b=s1.heap.objs.size:=by simpa using hb
  subst e;exact a.A9 (ao _) (a.hok.fresh (ao _))
 cases ha:x.cps.all (·< 128)with
 |true=>exact wpAny_pyIter_ascii ha ⟨_,_,_,_,c,rfl,a.kept λb o e=>hp9 _ e,IC x t _,⟨_,aL _ rfl,rfl,rfl⟩,fin,q⟩
 |false=>exact wpAny_pyIter_wide ha ⟨_,_,_,_,c,rfl,a.kept λb o e=>hp9 _ e,IA x t _,⟨_,aL _ rfl,rfl,rfl⟩,fin,q⟩
def AM{K:Fg}{F1:Hp}:lD K F1 (XT x) (x.cps.toList.map λc=>Dat.str ⟨#[c]⟩):=λF H g s=>by
 refine⟨λi d hd=>?_,λi hi=>(by simpa using hi:x.cps.size<=i)⟩;rw[aO]at hd;obtain⟨c,hc,rfl⟩:=ee hd;have a:x.cps[i]?=a_ c:=by simp_all
 refine⟨(cX.mp a).1,λv H' y=>?_⟩;obtain⟨rfl,b,e1,rfl⟩:=y;rw[a]at e1;cases e1;exact⟨F,Step.refl g,rfl⟩
section
variable{iter:a9}
def PI.imp(h:PI X tg iter w)(f:∀σ H R,w' σ H R->w σ H R):PI X tg iter w':=λh_ s σ H R I q=>h h_ s σ H R I (f _ _ _ q)
def PI.or(h:PI X tg iter w)(h':PI X tg iter w'):PI X tg iter (λσ H R=>w σ H R\/w' σ H R):=λh_ s σ H R I q=>by
 rcases q with q|q
 .exact h h_ s σ H R I q
 .exact h' h_ s σ H R I q
def rS{K:Fg}{F1:Hp}(h:mH K F1 a vs)(r:cQ K F1 ds vs):lD K F1 (ZN K a) ds:=λF H g s=>by
 have b:=g.sub.seq (s.seq h);refine⟨λi d hd=>?_,λi hi=>⟨vs,b,by rwa[r.length]⟩⟩;obtain⟨v,e1,e2⟩:=r.get hd;refine⟨⟨vs,v,b,e1⟩,λx H' y=>?_⟩;obtain⟨rfl,y⟩:=y;have:=y vs b;rw[e1]at this;cases this;exact⟨F,Step.refl g,e2.mono s⟩
def AL{K:Fg}{F1:Hp}(h:Tq K F1 a vs)(r:cQ K F1 ds vs):lD K F1 (ZM K a) ds:=λF H g s=>by
 have b:=((h.mono s).mono g.sub).sq;refine⟨λi d hd=>?_,λi hi=>⟨vs,b,by rwa[r.length]⟩⟩;obtain⟨v,e1,e2⟩:=r.get hd;refine⟨⟨vs,v,b,e1⟩,λx H' y=>?_⟩;obtain⟨rfl,y⟩:=y;have:=y vs b;rw[e1]at this;cases this;exact⟨F,Step.refl g,e2.mono s⟩
def Rr(h:SE X C e xe):SI X C tg e (.itv xe):=PI.imp (PI.or (PI.or (yg h) (JH h)) (JI h)) λσ H R i=>by
 refine ac λ_ j=>?_;obtain⟨ρ,items,F,hi,g,f,k⟩:=i;obtain⟨⟨d,fr⟩,h1,h2⟩:=ck hi
 refine j ?_;cases d with
 |lst ds=>
   cases h2;refine .inl (.inl ⟨ρ,_,fr,h1,F,g,f,λv F1 b st r _=>?_⟩);obtain⟨a,vs,rfl,c,r⟩:=r;exact⟨a,rfl,⟨vs,st.good.sub.seq c⟩,k _ F1 b st (rS c r)⟩
 |tup ds=>
   cases h2;refine .inl (.inr ⟨ρ,_,fr,h1,F,g,f,λv F1 b st r _=>?_⟩);obtain⟨a,vs,rfl,c,r⟩:=r;exact⟨a,rfl,⟨vs,(c.mono st.good.sub).sq⟩,k _ F1 b st (AL c r)⟩
 |str x=>
   cases h2;refine .inr ⟨ρ,_,fr,h1,F,g,f,λv F1 b st r _=>?_⟩;cases r;exact⟨x,rfl,k _ F1 b st AM⟩
 |_=>cases h2
def Kq{K:Fg}{F1:Hp}{lo:Int}:lD K F1 (Yj lo n) ((aR n).map λk:Nat=>Dat.int (lo+k)):=λF H g s=>by
 refine⟨λi d hd=>?_,λi hi=>(by simpa using hi:n<=i)⟩;rw[aO]at hd
 have hi:i<n:=by
  by_cases hi:i<n
  .exact hi
  simp_all
 rw[af (by simpa using hi)]at hd;simp only[HL,df,je]at hd;subst hd;refine⟨hi,λx H' y=>?_⟩;obtain⟨rfl,rfl⟩:=y;exact⟨F,Step.refl g,rfl⟩
set_option tactic.hygienic true in
def M7(B:Gl X "range")(O:X.mg "range"=b_)(ha:SA X C [a] [xa])(hs:aS [a] X.env=[(d_,eval a X.env)]):SI X C tg (.Call (.Name "range" p) [a] [] pos) (.rng [xa]):=
 PI.imp (GV B O ha hs) λσ H R c=>by
  obtain⟨ρ,items,F,hi,g,d,k⟩:=c;obtain⟨ds,h1,h2⟩:=ck hi;refine⟨ρ,ds,h1,F,g,d,λvs F1 e st r=>?_⟩;unfold Nv at h2;split at h2
  .rename_i j;split at h2
   .rename_i f;cases h2;obtain⟨v,w,rfl,h,b⟩:=r;cases h;cases b;refine⟨j,rfl,by omega,eP f.1 cy,k _ F1 e st ?_⟩;simpa using (Kq (K:=X.K) (F1:=vi (.rng _) F1) (lo:=0) (n:=j.toNat))
   .cases h2
  .cases (oQ h1)
  .cases (oQ h1)
  .cases h2
end
def G4(h:oH f (d::ds)=a_ ys):∃o r,f d=a_ o/\oH f ds=a_ r/\ys=(match o with|some y=>(y.1::r.1,(y.2 || im y.1) && r.2)|none=>r):=by
 obtain⟨o,h1,h⟩:=ck h;obtain⟨r,h2,h⟩:=ee h;exact⟨o,r,h1,h2,by cases o<;>exact h.symm⟩
def Ve(K:Fg)(nt:Nat)(one:Bool)(g:TG):Prop:=∀F H σ ρ d x a Q,Good F H->mW K F σ ρ->nt<=σ.length->σ.length=ρ.length->Rep K F d x->FQ nt one d ρ=a_ a->(∀b,mW K F b a->Q b H)->g x σ H Q
def Aj{K:Fg}{σ:St}{ρ:fm}(hl:σ.length=ρ.length)(R:mW K F σ ρ)(r:Rep K F d v):mW K F (σ.set i (a_ v)) (ρ.set i (a_ d)):=λj d' q=>by
 rw[sv]at q ⊢;by_cases a:i=j
 .simp_all
 .rw[if_neg a]at q ⊢;exact R j d' q
def MF{K:Fg}:Ve K nt c_ (kr 0):=λF H σ ρ d x ρ1 Q g R a hl r hb k=>by
 simp only[FQ,je]at hb;subst hb;exact k _ (Aj hl R r)
def Hs{K:Fg}(R:mW K F σ ρ):mW K F (iQ nt caps σ) (i9 nt caps ρ):=λi d q=>by
 unfold i9 at q;unfold iQ;by_cases hi:i<nt
 .rw[aQ (by simpa using hi),cx,if_pos hi]at q;cases q
 .rw[aJ (by simpa using hi),iE,aO]at q;rw[aJ (by simpa using hi),iE]
  cases b:caps[i - nt]? with
  |none=>rw[b]at q;cases q
  |some j=>
    rw[b]at q;have a:(ρ[j]?).join=a_ d:=bA q
    have c:ρ[j]?=a_ (a_ d):=by
     cases z:ρ[j]? with
     |none=>rw[z]at a;cases a
     |some o=>rw[z]at a;exact congrArg a_ a
    obtain⟨v,e1,e2⟩:=R j d c
    simp_all
def VE(K:Fg)(C:Fs)(xs:List Ex):TT:=λσ H Q=>∃ρ b,Bf C xs ρ=a_ b/\tT K ρ b σ H Q
section
variable{iter:a9}
def MN:L7 Y [] (VE Y.K C []):=λh_ s σ H Q I a=>by
 refine ac λ_ c=>?_;obtain⟨ρ,b,h,F,g,R,k⟩:=a;cases h;refine c ?_;exact ND h_ s σ H Q I (k F H (Step.refl g))
def MM(h:ST Y C c xe):L7 Y [c] (VE Y.K C [xe]):=λh_ s σ H Q I a=>by
 refine ac λ_ i=>?_;obtain⟨ρ,b,hb,F,g,R,k⟩:=a;refine i ?_;refine NC h h_ s σ H Q I ?_;simp only[Bf]at hb;obtain⟨⟨d,fr⟩,h1,hb⟩:=ck hb;obtain⟨z,e,hb⟩:=ck hb;refine⟨ρ,d,fr,z,h1,e,F,g,R,λF1 f st=>?_⟩
 grind
set_option tactic.hygienic true in
def xu{K:Fg}(O:Ve K nt one g)(Z:∀ρ items,yH C it ρ=a_ items->True) :
  ∀σ H Q,gE K C (.comp nt one caps it xs xe) σ H Q->IK (gI K C it) nt caps g (VE K C xs) (gE K C xe) σ H Q:=λσ H Q z3=>by
 refine ac λ_ S=>?_;obtain⟨ρ,d,fr,h,F,g0,R,k⟩:=z3;obtain⟨items,h1,h⟩:=ck h;refine S ?_;split at h
 .rename_i hz;refine ac λ_ S=>?_;obtain⟨⟨all,T⟩,h2,h⟩:=ee h;cases h;refine S ?_;refine⟨ρ,_,F,h1,g0,R,λJ F1 U j ok=>?_⟩;refine⟨λi m ys H'=>∃F' r u dr w,Step F1 U F' H'/\oH (mT C nt _ (i9 nt _ ρ) xs xe) (items.drop i)=a_ (dr,w)/\all=r++dr/\T=(u && w)/\cQ K F' r ys/\(u=c_->fj K U H' r ys)/\m=items.length - i/\i<=items.length/\r.length<=i,⟨_,F1,[],c_,_,T,Step.refl j.good,h2,rfl,rfl,rfl,λ_=>.nil,rfl,aT _,ao _⟩,?_⟩;rintro i m ys H' ⟨F',r,u,dr,w,st,D,ha,n,E,L,rfl,hi,y⟩;have V:ys.length<=1000000:=by rw[E.length];exact aa y (aa hi hz)
  obtain⟨M,WK⟩:=ok F' H' st.good (A5 st.ff);by_cases a:i<items.length
  .obtain⟨go,yl⟩:=M i _ (af a);refine .inr ⟨go,by exact aq V cy,λx H2 y2=>?_⟩;obtain⟨N,c,r2⟩:=yl x H2 y2;rw[eF a]at D;obtain⟨o,⟨G,I⟩,h3,W,h5⟩:=G4 D;obtain⟨s,h6,h3⟩:=ck h3;obtain⟨b,h7,h3⟩:=ck h3;refine O N H2 _ _ _ x s _ c.good ((Hs R).mono ((j.ff.trans st.ff).trans c.ff)) (by simp[iQ]) (by simp[iQ,i9]) r2 h6 λσ1 A=>?_;refine⟨s,b,h7,N,c.good,A,λX H3 f=>?_⟩
   cases b with
   |true=>
     refine ac λ_ S=>?_;obtain⟨⟨l,t⟩,h8,h3⟩:=ee h3;cases h3;refine S ?_;refine⟨s,l,t,h8,X,f.good,A.mono f.ff,λv F4 H4 q Y f4=>?_⟩;have zQ:=((st.trans c).trans f).trans q;have e5:dr=l::G/\w=((t || im l) && I):=by grind
     refine⟨_,j8 (ws a) (wt (aD a)),F4,_,_,G,I,zQ,W,by rw[ha,e5.1];simp,by rw[n,e5.2,wG],(E.mono ((c.ff.trans f.ff).trans q.ff)).append (.one Y),λz=>?_,rfl,a,by simp;omega⟩;simp only[ag,kS]at z;have B:=c.hh.trans f.hh;refine fj.snoc (st.hh.trans B) q.hh ((L z.1).mono B) ?_
     rcases z.2 with P|P
     .exact f4 P
     .exact .ko q.good P Y
   |false=>
     cases h3;have e5:dr=G/\w=I:=by simp_all
     exact⟨_,j8 (ws a) (wt (aD a)),X,r,u,G,I,(st.trans c).trans f,W,by rw[ha,e5.1],by rw[n,e5.2],E.mono (c.ff.trans f.ff),λz=>(L z).mono (c.hh.trans f.hh),rfl,a,c5 y⟩
  .have e :=aF hi (bS a);subst e;refine .inl ⟨WK _ (ao _),o7 V,λp hp=>?_⟩;rw[tL]at D;cases D;rw[aE]at ha;rw[gm]at n;subst ha n;exact k _ _ _ ((j.trans st).trans (Step.alloc st.good hp)) ⟨p,ys,rfl,.inl (.inl cC),(E.mono (bO.upd (o:=.lst ys) (st.good.sub.free hp)))⟩ λz=>.lst (j.hh.trans st.hh) hp ((L z).back (F:=F) j.hh)
 .cases h
end
def mS{K:Fg}(h:rR d=a_ k)(r:Rep K F d v):v=kV k:=by
 cases d with
 |int i=>cases h;exact r
 |str x=>cases h;exact r
 |_=>cases h
set_option tactic.hygienic true
theorem o6{K:Fg}:∀{ds:List Dat}{k_:List (Key×V)},fN k (k_.map (·.1)) ds=a_ d->cQ K F ds (k_.map (·.2))->∃v,nX k_ k=a_ v/\Rep K F d v
 |[],[],h,_=>by cases h
 |[],_::_,h,_=>by cases h
 |_::_,[],h,_=>by cases h
 |e::ds,p::k_,h,r=>by
   obtain⟨v,w,q,a,b⟩:=r;cases q;simp only[aB,fN]at h;split at h
   .rename_i z;cases h;exact⟨_,uf z,a⟩
   .rename_i z;obtain⟨v,c,f⟩:=o6 h b;exact⟨v,(qk z).trans c,f⟩
theorem rO{K:Fg}:∀{ds:List Dat}{k_:List (Key×V)},fN k (k_.map (·.1)) ds=b_->cQ K F ds (k_.map (·.2))->nX k_ k=b_
 |_,[],_,_=>rfl
 |[],p::k_,_,r=>by cases r
 |e::ds,p::k_,h,r=>by
   obtain⟨v,w,q,b,a⟩:=r;cases q;simp only[aB,fN]at h;split at h
   .cases h
   .rename_i z;exact(qk z).trans (rO h a)
set_option tactic.hygienic false
section
variable{X:Cx}{C:Fs}{e:a9}{σ:St}{F H:Hp}
def FR{K:Fg}(r:cQ K F ds vs)(h:tF ds i=a_ d):∃v,tF vs i=a_ v/\Rep K F d v:=by
 unfold tF at h ⊢;rw[r.length];obtain⟨j,h1,h2⟩:=ck h;obtain⟨v,e1,e2⟩:=r.get h2;exact⟨v,by rwa[h1],e2⟩
set_option tactic.hygienic true in
def Zg(O:X.A.units+1<dM):Vi X (gB X.K λx y=>(zr x y).map λd=>(d,d_)):=by
 intro value slice h_ s σ H x y v u Q I f j h hs;refine ac λ_ e=>?_;obtain⟨da,n,d,fr,h,F,g,l,m,k⟩:=h;obtain⟨d',h1,h2⟩:=ee h;obtain⟨rfl,rfl⟩:d'=d/\d_=fr:=by cases h2;exact⟨rfl,rfl⟩
 refine e ?_;by_cases b:∃ks ds,da=.dct ks ds
 .refine ac λ_ e=>?_;obtain⟨ks,ds,rfl⟩:=b;have o:(rR n).bind (λk=>fN k ks ds)=a_ d':=by cases n<;>exact h1
  obtain⟨kk,hk,hl⟩:=ck o;obtain⟨a,k_,rfl,q,rfl,B⟩:=l;obtain⟨w,e1,e2⟩:=o6 hl B;obtain rfl:=mS hk m;cases f;refine e ?_;have dg:sg H a (kV kk) (a_ w):=by rw[<-e1];exact sg.k (g.sub _ _ q)
  exact Mh (sU I dg) vM.lookup (xt I dg j λJ s' I' D=>⟨w,H,I',D,k _ F H (Step.refl g) e2 bu⟩) hs
 cases da<;>first|exact absurd ⟨_,_,rfl⟩ b|skip
 all_goals cases n<;>simp only[zr,reduceCtorEq]at h1
 .
  split at h1
  .rename_i z i E;obtain⟨c,h3,rfl⟩:=ee h1;exact T6 _ _ h_ s σ H x y v u Q I f j ⟨z,i,c,l,m,E,h3,k _ F H (Step.refl g) rfl bu⟩ hs
  .cases h1
 .rename_i ds i;obtain⟨p,vs,rfl,t,r⟩:=l;obtain⟨w,e1,e2⟩:=FR r h1;exact T5 _ _ h_ s σ H _ y v u Q I f j ⟨p,vs,i,w,rfl,m,(t.mono g.sub).sq,e1,k _ F H (Step.refl g) e2 bu⟩ hs
 .rename_i ds i;obtain⟨p,vs,rfl,t,r⟩:=l;obtain⟨w,e1,e2⟩:=FR r h1;exact qD _ _ h_ s σ H _ y v u Q I f j ⟨p,vs,i,w,rfl,m,g.sub.seq t,e1,k _ F H (Step.refl g) e2 bu⟩ hs
def gO(K:Fg)(C:Fs)(x:Option Ex):TO:=λσ H Q=>∃ρ o F,XF C ρ x=a_ o/\Good F H/\mW K F σ ρ/\∀F' H',Step F H F' H'->Q o H'
abbrev SO(X:Cx)(C:Fs)(e:Option a9)(x:Option Ex):Prop:=PO X e (gO X.K C x)
def PO.imp{e:Option a9}{t t':TO}(h:PO X e t)(f:∀σ H Q,t' σ H Q->t σ H Q):PO X e t':=λh_ s σ H Q I q=>h h_ s σ H Q I (f _ _ _ q)
def M0:SO X C b_ b_:=PO.imp NI λσ H Q a=>by
 obtain⟨ρ,o,F,ho,g,R,k⟩:=a;cases ho;exact k F H (Step.refl g)
def MZ(h:SE X C e xa):SO X C (a_ e) (a_ xa):=PO.imp (NH h) λσ H Q a=>by
 obtain⟨ρ,o,F,ho,g,R,k⟩:=a;obtain⟨⟨d,fr⟩,h1,h2⟩:=ck ho
 cases d with
 |int i=>
   cases h2;exact⟨ρ,_,fr,h1,F,g,R,λv F1 b st r _=>⟨i,r,k F1 b st⟩⟩
 |_=>cases h2
def gSl(K:Fg):V->Option Int->Option Int->Hp->VK->Prop:=λx lo hi H Q=>∃da d fr F,Gy da lo hi=a_ (d,fr)/\Good F H/\Rep K F da x/\∀v F' H',Step F H F' H'->Rep K F' d v->(fr=c_->gu K H H' d v)->Q v H'
def yM{K:Fg}(lo hi:Option Int)(r:cQ K F ds vs):cQ K F (cutD ds lo hi) (DE vs lo hi):=by
 unfold cutD DE;rw[<-r.length];exact(r.drop _).take _
def qI{s:ak}{sl:aK}{lo:Option Int}(ht:nj s.heap t items)(hs:s.heap.IsSliceOf sl vl vu .none)(pl:rh vl lo)(O:rh vu hi)
  (B:HT.iH items.size 0 lo=0/\HT.iH items.size items.size hi=items.size)
  (h:Q (.ref t) s):aG (aI prog w) A (getItem (.ref t) (.ref sl)) Q E s:=by
 obtain⟨os,b,c,f⟩:=id hs;unfold getItem
 try with_reducible refine dQ ?_
 first|refine wb9 _|skip
 refine wb9 (wpAny_sequenceKey ht.typeIs cy ?_)
 refine wb9 (cB ht.typeIs dm
  (bJ dm ht.typeIs entry_tuple_getitem ?_ (args_tuple_getitem _ _)))
 show aG _ _ (kg _ >>= _) _ _ s;refine wb9 (tupleItemsOf_ ht ?_);refine wb9 (kB ⟨os,b,c⟩ ?_);refine wb9 (HT.mP hs pl O ?_)
 have a:((((HT.iH items.size 0 lo):Int) == 0 && (1:Int) == 1 && (HT.iH items.size items.size hi - HT.iH items.size 0 lo) == items.size)=c_):=by
  rw[B.1,B.2];simp
 show aG _ _ (if(((HT.iH _ 0 lo):Int) == 0 && (1) == 1 && (HT.iH _ _ hi - HT.iH _ 0 lo) == items.size)=c_ then _ else _) _ _ s;rw[if_pos a];refine wb9 ?_;exact wb9 (kB ht.typeIs (wu9 (wb9 (iF (wu9 ⟨_,rfl,wu9 h⟩)))))
set_option tactic.hygienic true
def YE:Yf X (gSl X.K):=by
 intro h_ s σ H x v w y lo hi sl Q I c hs pl f h;obtain⟨da,d,fr,F,h,g,m,k⟩:=h
 cases da with
 |lst ds=>
   cases h;obtain⟨p,vs,rfl,t,r⟩:=m;refine M5 h_ s σ H _ v w y lo hi sl Q I c hs pl f ⟨p,vs,rfl,g.sub.seq t,λq b=>?_⟩;exact k _ _ _ (Step.alloc g b) ⟨q,_,rfl,.inl (.inl cC),((yM lo hi r).mono (bO.upd (o:=.lst _) (g.sub.free b)))⟩ λz=>.lst (bO.refl _) b (.ko g z (yM lo hi r))
 |str z=>
   simp only[Gy]at h;split at h
   .rename_i A;cases h;rw[m]at c;obtain⟨t,rfl⟩:=c;obtain⟨o,ho,hc,hd⟩:=hs;refine⟨_,_,PySem.F.slot_str_getitem.lookup,typeIs_str ..,?_⟩;have fin:∀t' k',EP X h_ σ Q (.str _ t') _:=λt' k'=>⟨.str _,H,I.tok k',⟨t',rfl⟩,k _ F H (Step.refl g) rfl bu⟩
    have a:=aa (zy z lo hi) A
    cases pl with
    |none=>
      cases f with
      |none=>exact j3 (l:=b_) (u:=b_) (st:=b_) ⟨o,ho,hc,hd⟩ rfl (p9 ⟨a,fin⟩)
      |int j n=>exact j3 (l:=b_) (u:=a_ (j,n)) (st:=b_) ⟨o,ho,hc,hd⟩ rfl (p9 ⟨a,fin⟩)
    |int i B=>
      cases f with
      |none=>exact j3 (l:=a_ (i,B)) (u:=b_) (st:=b_) ⟨o,ho,hc,hd⟩ rfl (p9 ⟨a,fin⟩)
      |int j n=>exact j3 (l:=a_ (i,B)) (u:=a_ (j,n)) (st:=b_) ⟨o,ho,hc,hd⟩ rfl (p9 ⟨a,fin⟩)
   .cases h
 |tup ds=>
   cases h;obtain⟨p,vs,rfl,t,r⟩:=m;by_cases D:HT.iH ds.length 0 lo=0/\HT.iH ds.length ds.length hi=ds.length
   .have e:cutD ds lo hi=ds:=by
     unfold cutD
     simp_all
    rw[e]at k;cases c;obtain⟨its,G,ht,A⟩:=I.tuple (t.mono g.sub).sq;have hlen:its.toArray.size=ds.length:=by rw[bh,<-G.length,r.length]
    exact⟨_,_,dm.lookup,ht.typeIs,qI ht hs pl f (by rwa[hlen]) ⟨.ref p,H,I,rfl,k _ F H (Step.refl g) ⟨p,vs,rfl,t,r⟩ bu⟩⟩
   .exact Ro h_ s σ H _ v w y lo hi sl Q I c hs pl f ⟨p,vs,rfl,(t.mono g.sub).sq,by rwa[r.length],λq b=>k _ _ _ (Step.alloc g b) ⟨q,_,rfl,.inl cC,(yM lo hi r).mono (bO.upd (g.sub.free b))⟩ bu⟩
 |_=>cases h
def Wc{lo:Option a9}(ha:SE X C a xa)(hl:SO X C lo xb)(hh:SO X C hi xc):SE X C (.Subscript a (.Slice lo hi b_ p2) pos) (.sl xa xb xc):=
 PE.imp (JM YE ha hl hh) λσ H Q j=>by
  refine ac λ_ e=>?_;obtain⟨ρ,d,fr,h,F,g,R,k⟩:=j;obtain⟨⟨da,m⟩,h1,h⟩:=ck h;obtain⟨l,h2,h⟩:=ck h;obtain⟨u,h3,h⟩:=ck h;refine e ?_;exact ⟨ρ,da,m,h1,F,g,R,λv F1 t b n _=>⟨ρ,l,F1,h2,b.good,R.mono b.ff,λo H2 c=>⟨ρ,u,o,h3,c.good,R.mono (b.ff.trans c.ff),λp x f=>⟨da,d,fr,p,h,f.good,n.mono (c.ff.trans f.ff),λw q H4 i r s=>k w q H4 (((b.trans c).trans f).trans i) r λz=>(s z).back (F:=F) ((b.hh.trans c.hh).trans f.hh)⟩⟩⟩⟩
def Sv(B:X.A.units+20<dM):j9 X (compareOp .NotEq) (gB X.K (qM .ne)):=λh_ s σ H x y v u Q I c f a=>by
 refine ac λ_ e=>?_;obtain⟨da,i,d,fr,h,F,g,j,l,k⟩:=a;obtain⟨b,hd,rfl,rfl⟩:=jY h;refine e ?_;simp only[jA]at hd;split at hd
 .rename_i hs;cases hd;simp only[ag]at hs;exact(vq I g 20 _ da i B hs.1 hs.2 j l c f).2.2 _ _ _ _ ⟨.bl _,H,I,rfl,k _ F H (Step.refl g) rfl bu⟩
 .cases hd
set_option tactic.hygienic false
def NV:j9 X (compareOp .Is) (gB X.K (qM .isn)):=λh_ s σ H x y v u Q I i j f=>by
 obtain⟨da,l,d,fr,h,F,g,m,n,k⟩:=f;obtain⟨b,hd,rfl,rfl⟩:=jY h
 cases l with
 |bl c=>
   cases da with
   |bl a=>
     cases hd;cases m;cases n;obtain rfl:v=.bool a:=i;obtain rfl:u=.bool c:=j;refine wpAny_is_plain rfl ⟨_,H,I,?_,k _ F H (Step.refl g) rfl bu⟩;cases a<;>cases c<;>rfl
   |_=>cases hd
 |_=>cases da<;>cases hd
def JR:j9 X (compareOp .IsNot) (gB X.K (qM .nisn)):=λh_ s σ H x y v u Q I i j f=>by
 obtain⟨da,l,d,fr,h,F,g,m,n,k⟩:=f;obtain⟨b,hd,rfl,rfl⟩:=jY h
 cases l with
 |bl c=>
   cases da with
   |bl a=>
     cases hd;cases m;cases n;obtain rfl:v=.bool a:=i;obtain rfl:u=.bool c:=j;refine wpAny_isNot_plain rfl ⟨_,H,I,?_,k _ F H (Step.refl g) rfl bu⟩;cases a<;>cases c<;>rfl
   |_=>cases hd
 |_=>cases da<;>cases hd
end
end M
namespace L2
open PySem PySem.Spec PyProof.Rows
def n5(tp:Bool)(h:cg)(it l:aK)(i:Nat):Prop:=match tp with
 |true=>h.IsTupleIter it l i
 |false=>h.IsListIter it l i
def nL(tp:Bool)(h:cg)(l:aK)(xs:Array aj):Prop:=match tp with
 |true=>h.IsTuple l xs
 |false=>h.IsList l xs
def n5.keep{h':cg}(y:n5 tp h it l i)(k:∀o,h.get? it=a_ o->h'.get? it=a_ o):n5 tp h' it l i:=by
 cases tp<;>exact(let ⟨o,e,r⟩:=y;⟨o,k o e,r⟩)
def nL.keep{h':cg}(y:nL tp h l xs)(k:∀o,h.get? l=a_ o->h'.get? l=a_ o):nL tp h' l xs:=by
 cases tp<;>exact(let ⟨o,e,r⟩:=y;⟨o,k o e,r⟩)
def n5.obj(y:n5 tp h it l i):∃o,h.get? it=a_ o/\o.cls=.type (if tp then "tuple_iterator" else "list_iterator")/\o.data=.fields #[.ref l,.int i 0]:=by
 cases tp<;>exact y
def nL.obj(y:nL tp h l xs):∃o,h.get? l=a_ o/\o.cls=.type (if tp then "tuple" else "list")/\∃n,o.data=.seq xs n:=by
 cases tp<;>exact y
section
open Builtin
variable{A:cc}{s:ak}
def JX(B:s.heap.IsTupleIter it q i)(O:s.heap.IsTuple q xs)(Y:xs[i]?=a_ v)
  (k:∀h',h'.IsTupleIter it q (i+1)->du it s.heap h'->Q v { s with heap:=h' }):aG (aI prog w) A (gY (.ref it)) Q E s:=by
 refine ac λ_ j=>?_;obtain⟨f,b,e,a⟩:=id B;obtain⟨g,c,_,h,d⟩:=O;refine j ?_;refine wb9 (cB B.typeIs fQ (bJ fQ B.typeIs qa ?_ (pP _)));show aG (aI _ w) _ (field _ 0 >>= _) _ _ s;refine wb9 (cA b a rfl ?_);refine wb9 (cA b a rfl ?_);refine wb9 (dB c d ?_);simp only[tj,Y];refine wb9 (wpAny_setField b a (by simp) (wu9 ⟨v,rfl,wu9 (k _ ⟨_,iD _ b (Obj.isFreed_of_fields (HW a _)),(Obj.cls_mapFields ..).trans e,?_⟩ (nM ..))⟩));rw[HW a];simp[rawInt]
def N6(O:A.handled=b_)(B:s.heap.IsTupleIter it q i)(Y:s.heap.IsTuple q xs)(Z:xs[i]?=b_)
  (k:∀h' e,DV it s.heap h'->(∃o,h'.get? e=a_ o/\o.cls=.type "StopIteration")->E (.ref e) { s with heap:=h' }):aG (aI prog w) A (gY (.ref it)) Q E s:=by
 refine ac λ_ l=>?_;obtain⟨f,a,g,b⟩:=id B;obtain⟨h,c,_,j,d⟩:=Y;refine l ?_;refine wb9 (cB B.typeIs fQ (bJ fQ B.typeIs qa ?_ (pP _)));show aG (aI _ w) _ (field _ 0 >>= _) _ _ s;refine wb9 (cA a b rfl ?_);refine wb9 (cA a b rfl ?_);refine wb9 (dB c d ?_);simp only[tj,Z];refine wb9 (iF (wb9 (wpAny_setField a b (by simp) ?_)));refine wb9 ?_;refine wb9 (dJ (wb9 (jZ (by first|rfl|(rfl)) (dJ ?_ (by size_fits)))) (by size_fits));refine wb9 (wpAny_handled ?_)
 first|rw[O]|rw[O]
 exact wb9 (wu9 (wpAny_throw (k _ _ (((nM ..).extBut.push _).push _) ⟨_,aL _ rfl,rfl⟩)))
def ED(B:n5 tp s.heap it q i)(O:nL tp s.heap q xs)(Y:xs[i]?=a_ v)
  (k:∀h',n5 tp h' it q (i+1)->du it s.heap h'->Q v { s with heap:=h' }):aG (aI prog w) A (gY (.ref it)) Q E s:=by
 cases tp
 .exact wpAny_nextOf_list_item B O Y k
 .exact JX B O Y k
def CS(B:A.handled=b_)(O:n5 tp s.heap it q i)(Y:nL tp s.heap q xs)(Z:xs[i]?=b_)
  (k:∀h' e,DV it s.heap h'->(∃o,h'.get? e=a_ o/\o.cls=.type "StopIteration")->E (.ref e) { s with heap:=h' }):aG (aI prog w) A (gY (.ref it)) Q E s:=by
 cases tp
 .exact wpAny_nextOf_list_end B O Y Z k
 .exact N6 B O Y Z k
end
noncomputable def Zi(tp:Bool):String:=if tp then "tuple_iterator" else "list_iterator"
def qE(tp:Bool)(l:aK):lF:={ cls:=.type (Zi tp),data:=.fields #[.ref l,.int 0 0] }
def E2{h:cg}(e:h.get? it=a_ (qE tp l)):n5 tp h it l 0:=by
 cases tp<;>exact⟨_,e,rfl,rfl⟩
section
variable{s:ak}
def oZ(B:nL tp s.heap l xs)(k:Q (.ref s.heap.objs.size) { s with heap:=s.heap.push (qE tp l) }):aG (aI prog w) A (B4 (.ref l)) Q E s:=by
 cases tp
 .exact n8 B k
 .exact wpAny_pyIter_tuple B k
end
section
end
section
variable{h':cg}
def Inv.tN{t':Nat}{ch:List aK}(I:Inv X h_ σ H s)(k:∀b o,b∉ch->s.heap.get? b=a_ o->h'.get? b=a_ o)(hf:∀b∈ch,p6 X h_ H b):Inv X h_ σ H { s with heap:=h',toks:=t' }:=by
 have a:∀b u,H b=a_ u->b∉ch:=λb u e z=>by rw[(hf b z).1]at e;cases e
 refine I.step (λb hb=>⟨(hf b hb).2.2.2.1,(hf b hb).2.1,(hf b hb).2.2.2.2.1,(hf b hb).2.2.2.2.2⟩) (λb o _ _ hc e _=>k b o hc e) (λb o _ _ hc e _=>⟨_,k b o hc e⟩) (λ_ _ _ _ n=>n)
  (λb o hc e=>⟨o,k b o hc e⟩) (λ_ _ e=>e) (λ_ _ _ e=>e) (λm c=>?_) (λb u e=>((I.hok b u e).nY λv=>k b v (a b u e))) I.bare
 .obtain⟨o,es,ep,ho,r⟩:=c;exact⟨o,es,ep,k _ o (λz=>(hf _ z).2.1 rfl) ho,r⟩
end
def vK(tp:Bool)(K:aP)(H:Hp)(a:aK)(xs:List V):Prop:=match tp with
 |true=>vJ K H a xs
 |false=>mH K H a xs
def vK.inj(I:Inv X h_ σ H s)(h:vK tp X.K H a xs)(h':vK tp X.K H a ys):xs=ys:=by
 cases tp
 .exact I.oJ h h'
 .exact I.rn h h'
def vK.at (I:Inv X h_ σ H s)(h:vK tp X.K H a xs):∃its:List aj,cR xs its/\nL tp s.heap a its.toArray:=by
 cases tp
 .obtain⟨its,b,p,_⟩:=I.list h;exact⟨_,b,p.isList⟩
 .obtain⟨its,b,p,_⟩:=I.tuple h;exact⟨_,b,p⟩
def qP(h:cg)(it:aK)(x:bc)(t:LP)(i:Nat):Prop:=h.IsStrIter it (strIterType x) x t i
def qP.keep{h':cg}(y:qP h it x t i)(k:∀o,h.get? it=a_ o->h'.get? it=a_ o):qP h' it x t i:=let ⟨o,e,r⟩:=y;⟨o,k o e,r⟩
section
open Builtin
variable{A:cc}{s:ak}
def D4(B:qP s.heap it x t i)(O:x.cps[i]?=a_ c)
  (k:∀h',qP h' it x t (i+1)->du it s.heap h'->Q (.str ⟨#[c]⟩ s.toks) { s with heap:=h',toks:=s.toks+1 }):aG (aI prog w) A (gY (.ref it)) Q E s:=by
 unfold qP strIterType at B k;cases ha:x.cps.all (·< 128)
 .simp only[ha,bT,if_false]at B k;exact wpAny_nextOf_wide_item B O k
 .simp only[ha,if_true]at B k;exact wpAny_nextOf_ascii_item B O k
def QT(O:A.handled=b_)(B:qP s.heap it x t i)(Y:x.cps[i]?=b_)
  (k:∀h' e,DV it s.heap h'->(∃o,h'.get? e=a_ o/\o.cls=.type "StopIteration")->E (.ref e) { s with heap:=h' }):aG (aI prog w) A (gY (.ref it)) Q E s:=by
 unfold qP strIterType at B;cases ha:x.cps.all (·< 128)
 .simp only[ha,bT,if_false]at B;exact wpAny_nextOf_wide_end O B Y k
 .simp only[ha,if_true]at B;exact wpAny_nextOf_ascii_end O B Y k
end
noncomputable def xW(x:bc)(t:LP):lF:={ cls:=.type (strIterType x),data:=.fields #[.str x t,.int 0 0] }
def M8{h:cg}(e:h.get? it=a_ (xW x t)):qP h it x t 0:=⟨_,e,rfl,rfl⟩
section
end
noncomputable def XT(x y:bc):It:=
 ⟨λi _=>∃c d,x.cps[i]?=a_ c/\y.cps[i]?=a_ d,
  λi H v H'=>∃T,H T=b_/\v=.ref T/\∃c d,x.cps[i]?=a_ c/\y.cps[i]?=a_ d/\H'=upd H T (.tup [.str ⟨#[c]⟩,.str ⟨#[d]⟩]),
  λi _=>x.cps[i]?=b_\/y.cps[i]?=b_⟩
def Lc{A:cc}(hh:A.handled=b_)(it l:aK)(B:l≠it)(items:Array aj) :
  Draws prog w A it [it,l] items.size (λi v=>items[i]?=a_ v) (λi h=>n5 tp h it l i/\nL tp h l items) where
 live:=λ_ _ st=>let ⟨o,ho,_⟩:=st.1.obj;⟨o,ho⟩
 frame:=λ_ _ _ st hk=>⟨st.1.keep λo e=>hk it (by simp) o e,st.2.keep λo e=>hk l (by simp) o e⟩
 item:=λi s Q E hi st c=>by
  refine ED st.1 st.2 (v:=items[i]) (by simp[hi]) λh' a b=>?_;exact c _ h' s.toks (by simp[hi]) ⟨a,st.2.keep λo e=>b.extBut _ o B e⟩ b
 done:=λs Q E st d=>CS hh st.1 st.2 (by simp) d
set_option tactic.hygienic true in
def UC(l:aK)(items:Array aj) :
  Meets (gC.«enumerate.__new__» ⟨[.type "enumerate",.ref l],[]⟩) (λ_ R s=>nL tp s.heap l items/\
   R (.ok (.ret (.ref (s.heap.push (qE tp l)).objs.size))) { s with heap:=(s.heap.push (qE tp l)).push { cls:=.type "enumerate",data:=.fields #[.none,.bool d_,.ref s.heap.objs.size,rawInt 0,.none,.none] } }):=
 .of_wp λprog w A R s h=>by
  obtain⟨hp,g,d,e,os⟩:=s;obtain⟨hl,h⟩:=h;have b:=sub_enumerate;wp_walk
  refine wpAny_stack_any λst=>wu9 ?_;split
  .rename_i c _ _ _ _ _;cases(c == kc _)
   .wp_walk using oZ hl
    exact⟨_,rfl,h⟩
   .wp_walk using oZ hl
    exact⟨_,rfl,h⟩
  .wp_walk using oZ hl
   exact⟨_,rfl,h⟩
section
variable{s:ak}
def OS(B:nL tp s.heap l items)
  (k:∀h',IsEnum h' (s.heap.objs.size+1) s.heap.objs.size 0 .none->n5 tp h' s.heap.objs.size l 0->(∀b o,s.heap.get? b=a_ o->h'.get? b=a_ o)->Q (.ref (s.heap.objs.size+1)) { s with heap:=h' }) :
  aG (aI prog w) A (call (.type "enumerate") [.ref l]) Q E s:=by
 refine vY PySem.F.called_enumerate (by decide) (PySem.F.typeCall_enumerate_1 _) (PySem.F.newCall_enumerate_1 _) (λobj=>kX _ _) PySem.F.entry_enumerate_new (UC l _) ⟨B,?_⟩;have a:((s.heap.push (qE tp l)).push { cls:=.type "enumerate",data:=.fields #[.none,.bool d_,.ref s.heap.objs.size,rawInt 0,.none,.none] }).get? (s.heap.push _).objs.size=a_ _:=aL _ rfl;rw[(fK ..)]at a;rw[(fK ..)];exact⟨⟨_,a,rfl⟩,k _ a (E2 (hp9 _ (aL _ rfl))) λb o x=>hp9 _ (hp9 _ x)⟩
end
noncomputable def ZO(tp:Bool)(K:aP)(a:aK):It:=
 ⟨λi H=>∃xs x,vK tp K H a xs/\xs[i]?=a_ x,
  λi H x H'=>∃T,H T=b_/\x=.ref T/\∃x1,(∀xs,vK tp K H a xs->xs[i]?=a_ x1)/\H'=upd H T (.tup [.int i,x1]),
  λi H=>∃xs,vK tp K H a xs/\xs.length<=i⟩
def Hm{A:cc}(hh:A.handled=b_)(it l:aK)(items:Array aj)(i:Nat)(hi:items.size<=i) :
  Draws prog w A it [it,l] i (λ_ _=>True) (λj h=>j=i/\n5 tp h it l i/\nL tp h l items) where
 live:=λ_ _ st=>let ⟨o,ho,_⟩:=st.2.1.obj;⟨o,ho⟩
 frame:=λ_ _ _ st hk=>⟨st.1,st.2.1.keep λo e=>hk it (by simp) o e,st.2.2.keep λo e=>hk l (by simp) o e⟩
 item:=λj s Q E a st c=>absurd st.1 (bb a)
 done:=λs Q E st b=>CS hh st.2.1 st.2.2 (by simp[hi]) b
def IB{K:aP}(a e it:aK)(O:e≠it)(Y:a≠e)(Z:a≠it) :
  Turn P w K (.Tuple elts k pos) (ZO tp K a) [e,it] e (λi h=>(∃B,IsEnum h e it i B)/\n5 tp h it a i) where
 mem:=by simp
 obj:=λi h st c hc=>by
  obtain⟨⟨B,he⟩,h1⟩:=st;obtain⟨W,e1,_,d1⟩:=h1.obj;simp only[aw,bq,or_false]at hc
  rcases hc with rfl|rfl
  .exact⟨_,he,λv z=>nomatch z⟩
  .exact⟨_,e1,λv z=>by rw[d1]at z;cases z⟩
 keep:=λi h h' st k=>by
  obtain⟨⟨B,he⟩,h1⟩:=st;exact⟨⟨B,k e (by simp) _ he⟩,h1.keep λo q=>k it (by simp) o q⟩
 item:=by
  intro X j l m hc i h_ s σ H E I hf st n;subst j l m;obtain⟨xs,x,ha,g⟩:=n;obtain⟨its,r,p⟩:=vK.at I ha;obtain⟨u,D,F⟩:=r.get g;obtain⟨⟨B,he⟩,h1⟩:=st
  have t:i<its.toArray.size:=by
   rw[bh];exact(aN.mp D).1
  refine wpAny_pyNext_enum_itemD (Lc (tp:=tp) (A:=X.A.in1) (I.ok.hd hc) it a Z its.toArray) he ⟨h1,p⟩ t O (by simp[O,cj Y]) λv h' d G J L M g4 hk=>?_
  have y:v=u:=by
   have:its.toArray[i]?=a_ u:=by simpa using D
   exact bA (G.symm.trans this)
  subst y;refine⟨_,rfl,wpAny_letOwnedTupleGo_enum J λh'' C b=>?_⟩;have N:∀c∈[e,it],p6 X h_ H c:=hf
  have kk:∀c o,c∉[e,it]->s.heap.get? c=a_ o->h''.get? c=a_ o:=λc o hc q=>by
   simp only[aw,bq,or_false,not_or]at hc;exact b.extBut c o hc.1 (hk c o hc.1 hc.2 q)
  have Q:Inv X h_ σ H { s with heap:=h'',toks:=d+1 }:=I.tN (t':=d+1) kk N;have R:s.heap.objs.size≠e:=i8 (hl9 he);have S:h''.get? s.heap.objs.size=a_ { cls:=.type "tuple",data:=.seq #[.int i d,v] }:=b.extBut _ _ R M;have f:H s.heap.objs.size=b_:=I.hok.fresh (ao _)
  have T:Inv X h_ σ (upd H s.heap.objs.size (.tup [.int i,x])) { s with heap:=h'',toks:=d+1 }:=by
   refine Q.IF (I.A9 (ao _) f) I.sz ⟨by rw[eK];show 2<=16777216;decide,[.int i d,v],.cons ⟨_,rfl⟩ (.cons F .nil),?_⟩;exact⟨_,S,rfl,_,rfl⟩
  refine⟨.ref s.heap.objs.size,_,T,rfl,⟨_,f,rfl,x,λU h1=>by rw[vK.inj I h1 ha];exact g,rfl⟩,⟨⟨_,by simpa using C⟩,L.1.keep λo q=>b.extBut _ o O.symm q⟩,λc hc=>?_⟩;rw[dR ?_]
  .exact(hf c hc).1
  .have:c<s.heap.objs.size:=by
    simp only[aw,bq,or_false]at hc
    rcases hc with rfl|rfl
    .exact hl9 he
    .obtain⟨_,q,_⟩:=h1.obj;exact hl9 q
   exact bb this
 done:=by
  intro X j l m hc i h_ s σ H E I hf st n;subst j l m;obtain⟨xs,ha,g⟩:=n;obtain⟨its,r,p⟩:=vK.at I ha;obtain⟨⟨B,he⟩,h1⟩:=st;have V:=r.length;refine wpAny_pyNext_enum_endD (Hm (tp:=tp) (A:=X.A.in1) (I.ok.hd hc) it a its.toArray i (by simp;exact aa (ae V.symm) g)) he ⟨rfl,h1,p⟩ λh' hk=>⟨rfl,I.tN (t':=s.toks) (ch:=[it]) (λc o hc q=>?_) λc hc=>hf c ?_⟩
  .exact hk c o (by simpa using hc) q
  .simp only[aw,bq,or_false]at hc ⊢;exact .inr hc
 self:=λ_ _ _ _ _ st h=>let ⟨⟨_,he⟩,_⟩:=st;wpAny_pyIter_enum he h
section
open Builtin
variable{A:cc}{s:ak}
structure ZG(z T U i j b:aK):Prop where
 Tz:T≠z
 Uz:U≠z
 iz:i≠z
 jz:j≠z
 TU:T≠U
 Ti:T≠i
 Tj:T≠j
 Ui:U≠i
 Uj:U≠j
 ij:i≠j
 bz:b≠z
 bU:b≠U
 bi:b≠i
 bj:b≠j
def JA{T U:aK}(P:ZG z T U i j b)(B:IsZip s.heap z T U .none)(gT:pO s.heap T (.ref i) (.ref j))(Y:pO s.heap U c d)
  (Z:qP s.heap i p tp m)(gj:n5 c_ s.heap j b n)(gb:nL c_ s.heap b ys)(gx:p.cps[m]?=a_ x)(gy:ys[n]?=a_ y)
  (k:∀h',IsZip h' z T U (rawInt s.heap.objs.size)->pO h' U (.str ⟨#[x]⟩ s.toks) y->qP h' i p tp (m+1)->n5 c_ h' j b (n+1)->pO h' s.heap.objs.size (.str ⟨#[x]⟩ s.toks) y->h'.objs.size=s.heap.objs.size+1->
   (∀e o,e≠z->e≠U->e≠i->e≠j->s.heap.get? e=a_ o->h'.get? e=a_ o)->Q (a_ (.ref s.heap.objs.size)) { s with heap:=h',toks:=s.toks+1 }):aG (aI prog w) A (pyNext (.ref z)) Q E s:=by
 refine wb9 (gH (cB ⟨_,B,rfl⟩ jJ (bJ jJ ⟨_,B,rfl⟩ xK ?_ (wB _))));refine (?_ : aG (aI _ w) _ (field _ 2 >>= _) ..);refine wb9 (cA B rfl (x:=.bool d_) rfl ?_);refine wb9 (cA B rfl rfl (wb9 (dB gT rfl ?_)));refine wb9 ?_;refine wb9 (cA B rfl rfl (wu9 ?_));refine wb9 (iF (wb9 (cA B rfl rfl (wb9 (bH B (by simp) λh1 C s1=>?_)))));refine wb9 ?_;simp only[tK,Mo,vQ,PD];refine wb9 (wb9 (tH ?_));refine wb9 (D4 (Z.keep λo e=>s1.extBut _ o P.iz e) gx λh2 D s2=>wu9 ?_);have f :=s2.extBut _ _ P.Ui (s1.extBut _ _ P.Uz Y);refine wb9 (dB f rfl (wb9 (qY f λh3 F s3=>wb9 (L9 (wu9 ?_)))));refine wb9 (wb9 (tH ?_));refine wb9 (ED (gj.keep λo e=>s3.extBut _ o P.Uj.symm (s2.extBut _ o P.ij.symm (s1.extBut _ o P.jz e))) (gb.keep λo e=>s3.extBut _ o P.bU (s2.extBut _ o P.bi (s1.extBut _ o P.bz e))) gy λS G g=>wu9 ?_);have h :=g.extBut _ _ P.Uj F;refine wb9 (dB h rfl (wb9 (qY h λh5 a l=>wb9 (L9 (wu9 (wu9 ?_))))));replace a:pO h5 U (.str ⟨_⟩ s.toks) y:=a;refine wb9 (dB a rfl (wb9 (B3 ?_)));have sz:h5.objs.size=s.heap.objs.size:=by rw[l.1,g.1,s3.1,s2.1,s1.1]
 have r :=l.extBut _ _ P.Uz.symm (g.extBut _ _ P.jz.symm (s3.extBut _ _ P.Uz.symm (s2.extBut _ _ P.iz.symm C)));refine wb9 ?_;refine wb9 (bH (hp9 _ r) (by simp) λV L M=>?_);refine bH L (by simp) λh8 u N=>wu9 ⟨_,rfl,?_⟩;have up:∀e o,e≠z->h5.get? e=a_ o->h8.get? e=a_ o:=λe o e1 q=>N.extBut _ _ e1 (M.extBut _ _ e1 (hp9 _ q));have O :=N.extBut _ _ (i8 (hl9 r)) (M.extBut _ _ (i8 (hl9 r)) (aL _ rfl));have v:h8.objs.size=h5.objs.size+1:=by rw[N.1,M.1,fK]
 rw[sz]at u O v;rw[sz];exact wu9 (k h8 u (up _ _ P.Uz a) ((D.keep λo e=>l.extBut _ o P.Ui.symm (g.extBut _ o P.ij (s3.extBut _ o P.Ui.symm e))).keep λo e=>up _ o P.iz e) ((G.keep λo e=>l.extBut _ o P.Uj.symm e).keep λo e=>up _ o P.jz e) O v λe o e1 e2 e3 H q=>up e o e1 ((λe o e1 e2 e3 H q=>l.extBut _ _ e2 (g.extBut _ _ H (s3.extBut _ _ e2 (s2.extBut _ _ e3 (s1.extBut _ _ e1 q))))) e o e1 e2 e3 H q))
def NA{T U:aK}(O:A.handled=b_)(P:ZG z T U i j b)(B:IsZip s.heap z T U .none)(gT:pO s.heap T (.ref i) (.ref j))(Z:pO s.heap U c d)
  (Y:qP s.heap i p tp m)(gj:n5 c_ s.heap j b n)(gb:nL c_ s.heap b ys)(ge:p.cps[m]?=b_\/ys[n]?=b_)
  (k:∀h',(∀e o,e≠z->e≠U->e≠i->e≠j->s.heap.get? e=a_ o->h'.get? e=a_ o)->∀tk,Q b_ { s with heap:=h',toks:=tk }):aG (aI prog w) A (pyNext (.ref z)) Q E s:=by
 refine wb9 (gH (cB ⟨_,B,rfl⟩ jJ (bJ jJ ⟨_,B,rfl⟩ xK ?_ (wB _))));refine (?_ : aG (aI _ w) _ (field _ 2 >>= _) ..);refine wb9 (cA B rfl (x:=.bool d_) rfl ?_);refine wb9 (cA B rfl rfl (wb9 (dB gT rfl ?_)));refine wb9 ?_;refine wb9 (cA B rfl rfl (wu9 ?_));refine wb9 (iF (wb9 (cA B rfl rfl (wb9 (bH B (by simp) λh1 g s1=>?_)))));refine wb9 ?_;simp only[tK,Mo,vQ,PD];refine wb9 (wb9 (tH ?_))
 cases y:p.cps[m]? with
 |none=>
   refine wb9 (QT O (Y.keep λo e=>s1.extBut _ o P.iz e) y λh2 e s2 he=>?_);obtain⟨l,a,f⟩:=he;have r :=s2 _ _ P.iz.symm g;exact bH r (by simp) λh3 _ s3=>wb9 (dv ⟨l,s3.extBut _ _ (λq=>by grind) a,f⟩ qZ (wu9 (k _ (λc o c1 _ u _ q=>s3.extBut _ _ c1 (s2 _ _ u (s1.extBut _ _ c1 q))) _)))
 |some x=>
   have F:ys[n]?=b_:=by
    grind
   refine wb9 (D4 (Y.keep λo e=>s1.extBut _ o P.iz e) y λh2 G s2=>wu9 ?_);have h :=s2.extBut _ _ P.Ui (s1.extBut _ _ P.Uz Z);refine wb9 (dB h rfl (wb9 (qY h λh3 H s3=>wb9 (L9 (wu9 ?_)))));refine wb9 (wb9 (tH ?_));refine wb9 (CS O (gj.keep λo e=>s3.extBut _ o P.Uj.symm (s2.extBut _ o P.ij.symm (s1.extBut _ o P.jz e))) (gb.keep λo e=>s3.extBut _ o P.bU (s2.extBut _ o P.bi (s1.extBut _ o P.bz e))) F λJ e C he=>?_);obtain⟨l,a,f⟩:=he;have v :=C _ _ P.jz.symm (s3.extBut _ _ P.Uz.symm (s2.extBut _ _ P.iz.symm g));exact bH v (by simp) λh5 _ D=>wb9 (dv ⟨l,D.extBut _ _ (λq=>by grind) a,f⟩ qZ (wu9 (k _ (λc o c1 c2 u I q=>D.extBut _ _ c1 (C _ _ I (s3.extBut _ _ c2 (s2.extBut _ _ u (s1.extBut _ _ c1 q))))) _)))
end
abbrev X0(h:cg)(x:bc)(t:LP)(b:aK):cg:=((h.push (xW x t)).push (qE c_ b)).push { cls:=.type "tuple",data:=.seq #[.ref h.objs.size,.ref (h.push (xW x t)).objs.size] }
abbrev XZ(h:cg)(x:bc)(t:LP)(b:aK):cg:=(X0 h x t b).push { cls:=.type "tuple",data:=.seq #[.none,.none] }
abbrev Vu(h:cg)(x:bc)(t:LP)(b:aK):cg:=(XZ h x t b).push { cls:=.type "zip",data:=.fields #[.none,.bool d_,.bool d_,.ref ((h.push (xW x t)).push (qE c_ b)).objs.size,.ref (X0 h x t b).objs.size] }
def QF(x:bc)(t:LP)(b:aK)(ys:Array aj):Meets (gC.«zip.__new__» ⟨[.type "zip",.str x t,.ref b],[]⟩) (λ_ R s=>nL c_ s.heap b ys/\R (.ok (.ret (.ref (XZ s.heap x t b).objs.size))) { s with heap:=Vu s.heap x t b }):=
 .of_wp λprog w A R s q=>by
  obtain⟨hp,g,d,a,os⟩:=s;obtain⟨c,q⟩:=q;have sz:=PySem.sub_zip;have e2:nL c_ (Shared.heap ⟨hp.push { cls:=.type (strIterType x),data:=.fields #[.str x t,.int 0 0] },g,d,a,os⟩) b ys:=nL.keep c λo e=>hp9 _ e
  wp_walk using PySem.wpAny_pyIter_strU (x:=x) (t:=t),oZ e2
  exact⟨_,rfl,q⟩
section
variable{s:ak}
def Mv
  (B:nL c_ s.heap b ys)(k:∀h',IsZip h' (s.heap.objs.size+4) (s.heap.objs.size+2) (s.heap.objs.size+3) .none->pO h' (s.heap.objs.size+2) (.ref s.heap.objs.size) (.ref (s.heap.objs.size+1))->pO h' (s.heap.objs.size+3) .none .none->
   qP h' s.heap.objs.size x t 0->n5 c_ h' (s.heap.objs.size+1) b 0->(∀c o,s.heap.get? c=a_ o->h'.get? c=a_ o)->Q (.ref (s.heap.objs.size+4)) { s with heap:=h' }):aG (aI prog w) A (call (.type "zip") [.str x t,.ref b]) Q E s:=by
 refine vY PySem.F.called_zip cy (PySem.F.typeCall_zip_2 _ _) (PySem.F.newCall_zip_2 _ _) (λj=>PySem.F.args_object_init_3 j _ _) PySem.F.entry_zip_new (QF x t b ys) ⟨B,?_⟩;have a:(s.heap.push (xW x t)).objs.size=s.heap.objs.size+1:=fK ..;have d:((s.heap.push (xW x t)).push (qE c_ b)).objs.size=s.heap.objs.size+2:=by rw[fK,a]
 have e:(X0 s.heap x t b).objs.size=s.heap.objs.size+3:=by rw[fK,d]
 have z4:(XZ s.heap x t b).objs.size=s.heap.objs.size+4:=by rw[fK,e]
 have f:(Vu s.heap x t b).get? (XZ _ x t b).objs.size=a_ _:=aL _ rfl;have g:(Vu s.heap x t b).get? (X0 _ x t b).objs.size=a_ _:=hp9 _ (aL _ rfl);have h:(Vu _ x t b).get? ((s.heap.push _).push _).objs.size=a_ _:=hp9 _ (hp9 _ (aL _ rfl));have i:(Vu _ x t b).get? (s.heap.push _).objs.size=a_ _:=hp9 _ (hp9 _ (hp9 _ (aL _ rfl)));rw[d,e,z4]at f;rw[a,d]at h;rw[e]at g;rw[a]at i;rw[z4];exact⟨⟨_,f,rfl⟩,k _ f h g (M8 (hp9 _ (hp9 _ (hp9 _ (hp9 _ (aL _ rfl)))))) (E2 i) λc o q=>hp9 _ (hp9 _ (hp9 _ (hp9 _ (hp9 _ q))))⟩
end
noncomputable def Itm(K:aP)(x:bc)(b:aK):It:=
 ⟨λi H=>∃c ys y,x.cps[i]?=a_ c/\vK c_ K H b ys/\ys[i]?=a_ y,
  λi H v H'=>∃T,H T=b_/\v=.ref T/\∃c y,x.cps[i]?=a_ c/\(∀ys,vK c_ K H b ys->ys[i]?=a_ y)/\H'=upd H T (.tup [.str ⟨#[c]⟩,y]),
  λi H=>∃ys,vK c_ K H b ys/\(x.cps[i]?=b_\/ys.length<=i)⟩
def Gp{K:aP}(x:bc)(t:LP)(b z TI TO B i2:aK)(D:ZG z TI TO B i2 b) :
  Turn P w K (.Tuple elts k pos) (Itm K x b) [z,TI,TO,B,i2] z (λi h=>IsZip h z TI TO .none/\pO h TI (.ref B) (.ref i2)/\(∃u v,pO h TO u v)/\qP h B x t i/\n5 c_ h i2 b i) where
 mem:=by simp
 obj:=λi h st c hc=>by
  obtain⟨g,d,⟨u,v,f⟩,⟨o1,e1,_,d1⟩,h2⟩:=st;obtain⟨o2,e2,_,d2⟩:=h2.obj;simp only[aw,bq,or_false]at hc
  rcases hc with rfl|rfl|rfl|rfl|rfl
  .exact⟨_,g,λv z=>nomatch z⟩
  .exact⟨_,d,λv z=>nomatch z⟩
  .exact⟨_,f,λv z=>nomatch z⟩
  .exact⟨_,e1,λv z=>by rw[d1]at z;cases z⟩
  .exact⟨_,e2,λv z=>by rw[d2]at z;cases z⟩
 keep:=λi h h' st k=>by
  obtain⟨g,d,⟨u,v,f⟩,h1,h2⟩:=st;exact⟨k z (by simp) _ g,k TI (by simp) _ d,⟨u,v,k TO (by simp) _ f⟩,h1.keep λo e=>k B (by simp) o e,h2.keep λo e=>k i2 (by simp) o e⟩
 item:=by
  intro X n p q hc i h_ s σ H E I hf st l;subst n p q;obtain⟨c1,ys,y,J,hb,L⟩:=l;obtain⟨M,j,r⟩:=vK.at I hb;obtain⟨A,C,F⟩:=j.get L;obtain⟨g,d,⟨N,O,f⟩,h1,h2⟩:=st;refine JA D g d f h1 h2 r J (y:=A) (by simpa using C) λh' Q R S T U g6 hk=>?_;refine⟨_,rfl,wpAny_letOwnedTupleGo_zip Q λh'' G a=>?_⟩
  have V:∀c∈[z,TO,B,i2],p6 X h_ H c:=λc hc=>hf c (by
   simp only[aw,bq,or_false]at hc ⊢
   rcases hc with rfl|rfl|rfl|rfl<;>simp)
  have kk:∀c o,c∉[z,TO,B,i2]->s.heap.get? c=a_ o->h''.get? c=a_ o:=λc o hc e=>by
   simp only[aw,bq,or_false,not_or]at hc;exact a.extBut c o hc.1 (hk c o hc.1 hc.2.1 hc.2.2.1 hc.2.2.2 e)
  have W:Inv X h_ σ H { s with heap:=h'',toks:=s.toks+1 }:=I.tN (t':=s.toks+1) kk V;have Y:s.heap.objs.size≠z:=i8 (hl9 g);have Z:h''.get? s.heap.objs.size=a_ { cls:=.type "tuple",data:=.seq #[.str ⟨#[c1]⟩ s.toks,A] }:=a.extBut _ _ Y U;have m:H s.heap.objs.size=b_:=I.hok.fresh (ao _)
  have I2:Inv X h_ σ (upd H s.heap.objs.size (.tup [.str ⟨#[c1]⟩,y])) { s with heap:=h'',toks:=s.toks+1 }:=by
   refine W.IF (I.A9 (ao _) m) I.sz ⟨by rw[eK];show 2<=16777216;decide,[.str ⟨#[c1]⟩ s.toks,A],.cons ⟨_,rfl⟩ (.cons F .nil),?_⟩;exact⟨_,Z,rfl,_,rfl⟩
  refine⟨.ref s.heap.objs.size,_,I2,rfl,⟨_,m,rfl,c1,y,J,λys' h1=>by rw[vK.inj I h1 hb];exact L,rfl⟩,⟨G,?_,⟨_,_,a.extBut _ _ D.Uz R⟩,S.keep λo e=>a.extBut _ o D.iz e,T.keep λo e=>a.extBut _ o D.jz e⟩,λc hc=>?_⟩
  .exact a.extBut _ _ D.Tz (hk _ _ D.Tz D.TU D.Ti D.Tj d)
  .rw[dR ?_]
   .exact(hf c hc).1
   .have:c<s.heap.objs.size:=by
     simp only[aw,bq,or_false]at hc
     rcases hc with rfl|rfl|rfl|rfl|rfl
     .exact hl9 g
     .exact hl9 d
     .exact hl9 f
     .obtain⟨_,e,_⟩:=h1;exact hl9 e
     .obtain⟨_,e,_⟩:=h2.obj;exact hl9 e
    exact bb this
 done:=by
  intro X n p q hc i h_ s σ H E I hf st l;subst n p q;obtain⟨g,d,⟨N,O,f⟩,h1,h2⟩:=st;obtain⟨ys,hb,l⟩:=l;obtain⟨M,j,r⟩:=vK.at I hb;refine NA (I.ok.hd hc) D g d f h1 h2 r (l.imp id λh=>by simpa [j.length]using h) λh' hk tk=>⟨rfl,I.tN (t':=tk) (ch:=[z,TO,B,i2]) (λc o hc e=>?_) λc hc=>hf c ?_⟩
  .simp only[aw,bq,or_false,not_or]at hc;exact hk c o hc.1 hc.2.1 hc.2.2.1 hc.2.2.2 e
  .simp only[aw,bq,or_false]at hc ⊢
   rcases hc with rfl|rfl|rfl|rfl<;>simp
 self:=λ_ _ _ _ _ st h=>wpAny_pyIter_zip st.1 h
end L2
namespace M
open PySem PySem.Spec PyProof.Rows L2
section
variable{X:Cx}{a b:a9}{pos:v7}{xs:List Ex}{σ:St}{F H:Hp}{iter:a9}
theorem zG:∀(xs ys:List Dat) (i:Nat),(ou xs ys)[i]?=match xs[i]?,ys[i]? with
  |some x,a_ y=>a_ (.tup [x,y])
  |_,_=>b_
 |[],_,_=>by simp[ou]
 |_::_,[],i=>by
   simp[ou]
 |x::xs,y::ys,0=>by simp[ou]
 |x::xs,y::ys,i+1=>by exact zG xs ys i
theorem zF:∀(xs ys:List Dat),(ou xs ys).length=min xs.length ys.length
 |[],_=>by simp[ou]
 |_::_,[]=>by simp[ou]
 |x::xs,y::ys=>by simp only[ou,bG,zF xs ys];simp
def VG(tp:Bool)(K:Fg)(F:Hp)(a:aK)(vs:List V):Prop:=match tp with
 |true=>Tq K F a vs
 |false=>mH K F a vs
def VG.up{tp:Bool}{K:Fg}{F F' H:Hp}{a:aK}{vs:List V}(h:VG tp K F a vs)(s:bO F F')(g:Good F' H):vK tp K H a vs:=by
 cases tp
 .exact g.sub.seq (s.seq h)
 .exact((Tq.mono s h).mono g.sub).sq
def Xd(K:Fg)(B:TA):TI:=λσ H R=>B σ H λvs c=>∃x b,vs=[.str x,.ref b]/\(∃ys,vK c_ K c b ys)/\R (L2.Itm K x b) c
def NJ(O:Gl X "zip")(Y:X.mg "zip"=b_)(ha:PA X [a,b] ta)(hs:aS [a,b] X.env=[(d_,eval a X.env),(d_,eval b X.env)])(B:aS [b] X.env=[(d_,eval b X.env)]) :
  PI X (.Tuple elts k tpos) (.Call (.Name "zip" p) [a,b] [] pos) (Xd X.K ta):=by
 intro h_ s σ H R I h;refine Call_ (mD I O Y (by decide +kernel:bootBuiltins _=a_ (.type "zip")) (de (iR (ha _ h_ s σ H _ I h) λus s1 ⟨vs,j,g,m,n⟩=>?_) (by rw[hs,B]) (by rw[B];rfl)));obtain⟨x,b,rfl,⟨ys,o⟩,q⟩:=n;cases m with
 |cons r i=>
   cases i with
   |cons u i=>
     cases i;obtain⟨t,rfl⟩:=r;cases u;obtain⟨D,v,d⟩:=vK.at g o;have E:@LT.lt _ _ b s1.heap.objs.size:=by obtain⟨_,e,_⟩:=d.obj;exact hl9 e
     refine Mv d λh' l w y z A kk=>?_;refine wpAny_pyIter_zip l ⟨_,_,_,_,j,rfl,(g.kept kk),
      Gp x t b _ _ _ _ _ ⟨?_,?_,?_,?_,?_,?_,?_,?_,?_,?_,?_,?_,?_,?_⟩,⟨l,w,⟨_,_,y⟩,z,A⟩,λc hc=>?_,q⟩
     all_goals try grind
     have f:s1.heap.objs.size<=c:=by
      simp only[aw,bq,or_false]at hc
      rcases hc with rfl|rfl|rfl|rfl|rfl<;>first|simp|exact ao _
     exact g.A9 f (g.hok.fresh f)
def signs_get(x:bc)(i:Nat):((mm x).map Dat.str)[i]?=(x.cps[i]?).map λc=>.str ⟨#[c]⟩:=by
 unfold mm;rw[aO,aO,iy];cases x.cps[i]?<;>rfl
def Hc{K:Fg}{F1:Hp}(x:bc){b:aK}{us:List V}{es:List Dat}(h':Tq K F1 b us)(B:cQ K F1 es us):lD K F1 (L2.Itm K x b) (ou ((mm x).map .str) es):=λF H g s=>by
 have c:vK c_ K H b us:=VG.up h' s g;refine⟨λi d hd=>?_,λi hi=>⟨us,c,?_⟩⟩
 .rw[zG,signs_get]at hd
  cases e1:x.cps[i]? with
  |none=>rw[e1]at hd;cases hd
  |some c1=>
    cases e2:es[i]? with
    |none=>simp_all
    |some d2=>
      rw[e1,e2]at hd;cases hd;obtain⟨e,f,k⟩:=B.get e2;refine⟨⟨c1,us,e,e1,c,f⟩,λv H' z=>?_⟩;obtain⟨T,h,rfl,d1,o,j,l,rfl⟩:=z;rw[e1]at j;cases j;have m:=bA (f.symm.trans (l us c));subst m;refine⟨_,Step.alloc g h,⟨T,_,rfl,.inl cC,?_⟩⟩;exact⟨_,_,rfl,rfl,e,[],rfl,k.mono (s.trans (bO.upd (g.sub.free h))),rfl⟩
 .rw[zF]at hi;simp only[mm,aA,bF]at hi;rw[B.length]
  grind
noncomputable def P2:Dat->Option (Bool×List Dat)
 |.lst xs=>a_ (d_,xs)
 |.tup xs=>a_ (c_,xs)
 |_=>b_
def GC{K:Fg}{F:Hp}{d:Dat}{tp:Bool}{xs:List Dat}{v:V}(h:P2 d=a_ (tp,xs))(r:Rep K F d v):∃p vs,v=.ref p/\VG tp K F p vs/\cQ K F xs vs:=by
 cases d with
 |lst ds=>cases h;exact r
 |tup ds=>cases h;exact r
 |_=>cases h
def QG(h:PM ds=a_ items):∃x ys,ds=[.str x,.tup ys]/\items=ou ((mm x).map .str) ys:=by
 obtain⟨a,b,rfl⟩:∃a b,ds=[a,b]:=by
  cases ds with
  |nil=>cases h
  |cons a r=>
    cases r with
    |nil=>cases h
    |cons b r=>
      cases r with
      |nil=>exact⟨a,b,rfl⟩
      |cons _ _=>cases h
 cases a with
 |str x=>
   cases b with
   |tup ys=>cases h;exact⟨_,_,rfl,rfl⟩
   |_=>cases h
 |_=>cases h
def Rq(O:Gl X "zip")(Y:X.mg "zip"=b_)(ha:SA X C [a,b] [xa,xb])(hs:aS [a,b] X.env=[(d_,eval a X.env),(d_,eval b X.env)])(B:aS [b] X.env=[(d_,eval b X.env)]) :
  SI X C (.Tuple elts k tp) (.Call (.Name "zip" p) [a,b] [] pos) (.zip [xa,xb]):=λh_ s σ H R I f=>by
 refine ac λ_ q=>?_;obtain⟨ρ,items,F,hi,g,h,kk⟩:=f;obtain⟨ds,h1,h2⟩:=ck hi;obtain⟨x,ys,rfl,rfl⟩:=QG h2;refine q ?_;refine NJ O Y ha hs B h_ s σ H R I ⟨ρ,_,h1,F,g,h,λvs F1 i st r=>?_⟩;refine ac λ_ q=>?_;obtain⟨v,w,rfl,j,n,o,rfl,l,e3⟩:=r;cases e3;cases j;obtain⟨m,c,rfl,e,d⟩:=l;refine q ?_;exact⟨x,m,rfl,⟨c,VG.up e (bO.refl _) st.good⟩,kk _ F1 i st (Hc x e d)⟩
def Zl(tp:Bool)(K:Fg)(B:TA):TI:=λσ H R=>B σ H λvs c=>∃a,vs=[.ref a]/\(∃xs,vK tp K c a xs)/\R (ZO tp K a) c
def Sa{tp:Bool}{elts:List a9}{k:Nat}{B:v7}{O:TA}{p:v7}(Y:Gl X "enumerate")(Z:X.mg "enumerate"=b_)(ha:PA X [a] O)(hs:aS [a] X.env=[(d_,eval a X.env)]) :
  PI X (.Tuple elts k B) (.Call (.Name "enumerate" p) [a] [] pos) (Zl tp X.K O):=by
 intro h_ s σ H R I h;refine Call_ (mD I Y Z (by decide +kernel:bootBuiltins _=a_ (.type "enumerate")) (de (iR (ha _ h_ s σ H _ I h) λus s1 ⟨vs,g,f,l,m⟩=>?_) (by rw[hs];rfl) (by rfl)));refine ac λ_ b=>?_;obtain⟨i,rfl,⟨xs,n⟩,q⟩:=m;obtain⟨u,rfl,o⟩:=vals1 l;cases o;obtain⟨its,v,pl⟩:=vK.at f n;refine b ?_;refine OS pl λh' j r kk=>?_;have w:@LT.lt _ _ i s1.heap.objs.size:=by obtain⟨_,e,_⟩:=pl.obj;exact hl9 e
 refine wpAny_pyIter_enum j ⟨_,_,_,_,g,rfl,(f.kept kk),IB i _ _ ?_ ?_ ?_,⟨⟨_,j⟩,r⟩,λc hc=>?_,q⟩
 all_goals try grind
 have d:s1.heap.objs.size<=c:=by
  grind
 exact f.A9 d (f.hok.fresh d)
theorem Bi:∀(xs:List Dat)(k i:Nat),(rX k xs)[i]?=(xs[i]?).map λx=>.tup [.int (k+i:Nat),x]
 |[],_,_=>by simp[rX]
 |x::xs,k,0=>by simp[rX]
 |x::xs,k,i+1=>by
   simp only[rX,eZ];rw[Bi xs _ i]
   congr 2
   funext y;rw[show k+1+i=k+(i+1)from(ie ..)]
theorem Bh:∀(xs:List Dat)(k:Nat),(rX k xs).length=xs.length
 |[],_=>rfl
 |x::xs,k=>by simp only[rX,bG,Bh xs _]
def Kr{tp:Bool}{K:Fg}{F1:Hp}{a:aK}{vs:List V}{ds:List Dat}(h:VG tp K F1 a vs)(r:cQ K F1 ds vs):lD K F1 (ZO tp K a) (rX 0 ds):=λF H g s=>by
 have e:=h.up s g;refine⟨λi d hd=>?_,λi hi=>⟨vs,e,?_⟩⟩
 .rw[Bi]at hd
  cases e1:ds[i]? with
  |none=>rw[e1]at hd;cases hd
  |some d1=>
    rw[e1]at hd;cases hd;obtain⟨c,f,k⟩:=r.get e1;refine⟨⟨vs,c,e,f⟩,λx H' y=>?_⟩;obtain⟨T,j,rfl,x1,l,rfl⟩:=y;have m:=bA (f.symm.trans (l vs e));subst m;refine⟨_,Step.alloc g j,⟨T,_,rfl,.inl cC,?_⟩⟩;exact⟨_,_,rfl,by rw[ic];exact rfl,c,[],rfl,k.mono (s.trans (bO.upd (g.sub.free j))),rfl⟩
 .rw[Bh]at hi;rwa[r.length]
def Nd{d:Dat}{xs:List Dat}(h:Wb d=a_ xs):∃tp,P2 d=a_ (tp,xs):=by
 cases d with
 |lst ds=>cases h;exact⟨_,rfl⟩
 |tup ds=>cases h;exact⟨_,rfl⟩
 |_=>cases h
def Rt(B:Gl X "enumerate")(O:X.mg "enumerate"=b_)(ha:SA X C [a] [xa])(hs:aS [a] X.env=[(d_,eval a X.env)]) :
  SI X C (.Tuple elts k tp) (.Call (.Name "enumerate" p) [a] [] pos) (.enu xa):=λh_ s σ H R I h=>by
 refine ac λ_ b=>?_;obtain⟨ρ,items,F,hi,g,i,kk⟩:=h;obtain⟨⟨d,fr⟩,h1,h2⟩:=ck hi;obtain⟨xs,h3,rfl⟩:=ee h2;obtain⟨l,m⟩:=Nd h3;refine b ?_;refine Sa (tp:=l) B O ha hs h_ s σ H R I ⟨ρ,[d],by simp only[mF,h1,bE,df],F,g,i,λvs F1 n st r=>?_⟩;obtain⟨v,w,rfl,o,e3⟩:=r;cases e3;obtain⟨q,c,rfl,f,e⟩:=GC m o;exact⟨q,rfl,⟨c,f.up (bO.refl _) st.good⟩,kk _ F1 n st (Kr f e)⟩
def vf{f:List Dat->g_}{K:Fg}{xs:List V}{H:Hp}{Q:VK}(hf:∀ds d fr,f ds=a_ (d,fr)->ds.length=1)(h:gL K f xs H Q) :
  ∃da d fr F v,f [da]=a_ (d,fr)/\xs=[v]/\Good F H/\Rep K F da v/\∀w F' H',Step F H F' H'->Rep K F' d w->(fr=c_->gu K H H' d w)->Q w H':=by
 refine ac λ_ a=>?_;obtain⟨ds,d,fr,h1,F,g,r,k⟩:=h
 refine a ?_;match ds,hf ds d fr h1 with
 |[da],_=>
   obtain⟨v,w,rfl,e,c⟩:=r;cases c;exact⟨da,d,fr,F,v,h1,rfl,g,e,k⟩
def Vb:∀{ds:List Dat}{r:Dat×Bool},b1 f ds=a_ r->ds.length=1
 |[_],_,_=>rfl
 |[],_,h=>by cases h
 |_::_::_,_,h=>by cases h
def oT{b:XY}:∀ds d fr,jB b ds=a_ (d,fr)->ds.length=1:=λds d fr h=>by
 cases b<;>first|exact Vb h|cases h
set_option tactic.hygienic true
def Hu:jS X (.builtin "len") (gL X.K (jB .len)):=λh_ s σ H xs us Q I r h=>by
 obtain⟨da,d,fr,F,v,h1,rfl,g,c,k⟩:=vf oT h
 cases da with
 |lst ds=>
   cases h1;obtain⟨p,vs,rfl,t,e⟩:=c;refine qN h_ s σ H _ us Q I r ⟨p,vs,rfl,.inl (g.sub.seq t),?_⟩;rw[e.length];exact k _ F H (Step.refl g) rfl bu
 |tup ds=>
   cases h1;obtain⟨p,vs,rfl,t,e⟩:=c;refine qN h_ s σ H _ us Q I r ⟨p,vs,rfl,.inr (t.mono g.sub).sq,?_⟩;rw[e.length];exact k _ F H (Step.refl g) rfl bu
 |str z=>
   simp only[jB,b1,Ph]at h1;split at h1
   .rename_i f;cases h1;cases c;exact yR h_ s σ H _ us Q I r ⟨z,rfl,f,k _ F H (Step.refl g) rfl bu⟩
   .cases h1
 |dct ks ds=>
   cases h1;obtain⟨p,k_,rfl,i,rfl,l⟩:=c;obtain⟨u,rfl,j⟩:=vals1 r;cases j;refine Xr I (.inl (g.sub _ _ i)) λt s' I'=>⟨.int _,H,I',⟨t,rfl⟩,?_⟩
   rw[((aA ..).symm)];exact k _ F H (Step.refl g) rfl bu
 |_=>cases h1
def Hw:jS X (.type "int") (gL X.K (jB .int)):=λh_ s σ H xs us Q I r h=>by
 obtain⟨da,d,fr,F,v,h1,rfl,g,c,k⟩:=vf oT h
 cases da with
 |int i=>
   cases h1;cases c;exact Hx h_ s σ H _ us Q I r (.inl ⟨i,rfl,k _ F H (Step.refl g) rfl bu⟩)
 |bl b=>
   cases h1;cases c;obtain⟨u,rfl,e⟩:=vals1 r;cases e;exact call_int_bool ⟨.int _,H,I.tok _,⟨_,rfl⟩,k _ F H (Step.refl g) rfl bu⟩
 |str x=>
   simp only[jB,b1,Ph,LF,Pg,U9,bL,Ya,Va,Pf]at h1;split at h1
   .rename_i hl;obtain⟨i,h2,h1⟩:=ee h1;cases h1;cases c;obtain⟨u,rfl,t,rfl⟩:=vals1 r;exact PySem.W.KIN.call_text h2 hl ⟨.int i,H,I.tok _,⟨_,rfl⟩,k _ F H (Step.refl g) rfl bu⟩
   .cases h1
 |_=>cases h1
def Ht:jS X (.type "str") (gL X.K (jB .str)):=λh_ s σ H xs us Q I r h=>by
 refine ac λ_ a=>?_;obtain⟨da,d,fr,F,v,h1,rfl,g,c,k⟩:=vf oT h
 refine a ?_;cases da with
 |int i=>
   simp only[jB,b1,Pf]at h1;split at h1
   .rename_i hl;cases h1;cases c;exact yQ h_ s σ H _ us Q I r ⟨i,rfl,hl,k _ F H (Step.refl g) rfl bu⟩
   .cases h1
 |_=>cases h1
def Bu:jS X (.type "tuple") (gL X.K (jB .tuple)):=λh_ s σ H xs us Q I r h=>by
 refine ac λ_ a=>?_;obtain⟨da,d,fr,F,v,h1,rfl,g,e,k⟩:=vf oT h
 refine a ?_;cases da with
 |lst ds=>
   cases h1;obtain⟨p,vs,rfl,t,c⟩:=e;exact pK h_ s σ H _ us Q I r ⟨p,vs,rfl,.inl ⟨g.sub.seq t,λl hl=>k _ _ _ (Step.alloc g hl) ⟨l,vs,rfl,.inl cC,c.mono (bO.upd (g.sub.free hl))⟩ bu⟩⟩
 |tup ds=>
   cases h1;obtain⟨p,vs,rfl,t,c⟩:=e;exact pK h_ s σ H _ us Q I r ⟨p,vs,rfl,.inr ⟨(t.mono g.sub).sq,k _ F H (Step.refl g) ⟨p,vs,rfl,t,c⟩ bu⟩⟩
 |_=>cases h1
theorem xw{K:Fg}:∀{ds:List Dat}{bs:List Bool}{vs:List V}{us:List aj},r8 ds=a_ bs->cQ K F ds vs->cR vs us->us=bs.map v5
 |[],bs,vs,us,h,r,w=>by
   cases h;rw[r]at w;cases w;rfl
 |d::ds,bs,vs,us,h,c,w=>by
   obtain⟨v,r,rfl,h1,h2⟩:=c;cases d with
   |bl b=>
     obtain⟨f,hb,h⟩:=ee h;cases h;cases h1
     cases w with
     |cons q w=>cases q;rw[xw hb h2 w];rfl
   |_=>cases h
def Ha{s:ak}{h':cg}(hk:∀b x,b∉[s.heap.objs.size]->(s.heap.push o).get? b=a_ x->h'.get? b=a_ x):∀b x,s.heap.get? b=a_ x->h'.get? b=a_ x:=
 λb x e=>hk b x (λc=>absurd (hl9 e) (by simp_all)) (hp9 _ e)
def CG(bs:List Bool):((aR bs.length).any λi=>(bs[i]?).getD d_)=bs.any id:=by
 rw[kT,gG,gG];constructor
 .rintro⟨i,hi,h⟩;have c:=bf.mp hi;rw[af c]at h;exact⟨_,br c,h⟩
 .rintro⟨b,hb,h⟩;obtain⟨i,hi,rfl⟩:=jb hb;exact⟨i,bf.mpr hi,by simp_all⟩
def Hy(B:X.calm=c_):jS X (.builtin "any") (gL X.K (jB .any)):=λh_ s σ H xs us Q I r h=>by
 refine ac λ_ a=>?_;obtain⟨da,d,fr,F,v,h1,rfl,g,l,k⟩:=vf oT h
 refine a ?_;cases da with
 |lst ds=>
   refine ac λ_ a=>?_;obtain⟨bs,hb,h1⟩:=ee h1;cases h1;obtain⟨p,vs,rfl,t,m⟩:=l;obtain⟨its,n,pl,_⟩:=I.lstR g t;obtain⟨u,rfl,o⟩:=vals1 r;cases o;refine a ?_;have f:=xw hb m n;refine call_any_walk (n8 pl.isList ?_)
   refine⟨_,_,_,_,_,_,λi=>(bs[i]?).getD d_,rfl,Walks.list (A:=X.A.in1) (I.ok.hd B) _ p (bb pl.lt) _,
    ⟨⟨_,aL _ rfl,rfl,rfl⟩,pl.isList.push _⟩,λi v s' Q' w q j=>?_,λh' x hk=>?_⟩
   .subst f;have c:(bs.map v5)[i]?=a_ v:=by simpa using q
    rw[aO]at c
    cases hi:bs[i]? with
    |none=>simp_all
    |some b=>
      rw[hi]at c;cases c;simp only[hi,sk]at j;exact gw j
   .have e1:its.toArray.size=bs.length:=by rw[f];simp
    rw[e1,CG];exact⟨.bl _,H,I.kept (Ha hk),rfl,k _ F H (Step.refl g) rfl bu⟩
 |_=>cases h1
def eD(o:Vt):List Dat->g_
 |[x,y]=>fF o x y
 |_=>b_
def KS{o:Vt}{K:Fg}{xs:List V}{H:Hp}{Q:VK}(h:gL K (eD o) xs H Q) :
  ∃da B d fr F v w,fF o da B=a_ (d,fr)/\xs=[v,w]/\Good F H/\Rep K F da v/\Rep K F B w/\∀w F' H',Step F H F' H'->Rep K F' d w->(fr=c_->gu K H H' d w)->Q w H':=by
 refine ac λ_ a=>?_;obtain⟨ds,d,fr,h1,F,g,r,k⟩:=h
 refine a ?_;match ds,h1 with
 |[da,B],h1=>
   refine ac λ_ a=>?_;obtain⟨v,w,rfl,f,i,j,rfl,c,e⟩:=r;cases e;refine a ?_;exact⟨da,B,d,fr,F,v,i,h1,rfl,g,f,c,k⟩
def DH(B:X.calm=c_):jS X (.builtin "max") (gL X.K (eD .mx)):=λh_ s σ H xs us Q I r h=>by
 refine ac λ_ a=>?_;obtain⟨da,e,d,fr,F,v,w,h1,rfl,g,f,l,k⟩:=KS h;refine a ?_;cases da<;>cases e<;>simp only[fF,zu,HB,HA,reduceCtorEq]at h1
 rename_i i j;refine ac λ_ a=>?_;cases h1;cases f;cases l;obtain⟨u,m,rfl,⟨t,rfl⟩,⟨t',rfl⟩⟩:=vals2 r;refine a ?_;refine max_two_ints (I.ok.hd B) λh' n hk=>⟨.int _,H,I.kept hk,?_,k _ F H (Step.refl g) rfl bu⟩
 by_cases c:i<j
 .rw[if_pos c,if_pos (c)];exact⟨_,rfl⟩
 .rw[if_neg c,if_neg (c)];exact⟨_,rfl⟩
def DG(B:X.calm=c_):jS X (.builtin "min") (gL X.K (eD .mn)):=λh_ s σ H xs us Q I r h=>by
 refine ac λ_ a=>?_;obtain⟨da,e,d,fr,F,v,w,h1,rfl,g,f,l,k⟩:=KS h;refine a ?_;cases da<;>cases e<;>simp only[fF,zu,HB,HA,reduceCtorEq]at h1
 rename_i i j;refine ac λ_ a=>?_;cases h1;cases f;cases l;obtain⟨u,m,rfl,⟨t,rfl⟩,⟨t',rfl⟩⟩:=vals2 r;refine a ?_;refine min_two_ints (I.ok.hd B) λh' n hk=>⟨.int _,H,I.kept hk,?_,k _ F H (Step.refl g) rfl bu⟩
 by_cases c:j<i
 .rw[if_pos c,if_pos c];exact⟨_,rfl⟩
 .rw[if_neg c,if_neg c];exact⟨_,rfl⟩
set_option tactic.hygienic false
def Jf{Y:String}(hc:jS X (.builtin Y) (gL X.K (eD o)))(Z:Gl X x)(hm:X.mg x=b_)(hv:bootBuiltins x=a_ (.builtin Y))(ha:SA X C [e,e2] [xa,xb])(hn:x≠"__name__")(B:(x == ("__debug__":bc))=d_)
  (he:aS [e,e2] X.env=(d_,eval e X.env)::aS [e2] X.env)(O:(backTo pos (aS [e2] X.env)).any (·.1)=d_):SE X C (.Call (.Name x p) [e,e2] [] pos) (.bin o xa xb):=
 PE.imp (uK hc Z hm hv ha hn B he O) (qO λρ d fr h=>by
  refine ac λ_ a=>?_;obtain⟨⟨da,f⟩,h1,h⟩:=ck h;obtain⟨⟨c,g⟩,h2,h⟩:=ck h
  refine a ?_;exact⟨[da,c],by simp only[mF,h1,h2,bE,df],h⟩)
end
section
variable{X:Cx}{pos:v7}{xs:List Ex}{F H:Hp}{iter:a9}
noncomputable def tyName:Ty->String
 |.int=>"int"
 |.bool=>"bool"
 |.str=>"str"
 |.tuple=>"tuple"
 |.list=>"list"
noncomputable def W2:Dat->String
 |.non=>"NoneType"
 |.bl _=>"bool"
 |.int _=>"int"
 |.str _=>"str"
 |.tup _=>"tuple"
 |.lst _=>"list"
 |.dct _ _=>"dict"
 |.any=>"dict"
def TN(K:Fg)(t:Ty)(d:Dat):PySem.W.kitOne K (.type (W2 d)) (.type (tyName t))=a_ (Kv t d):=by
 cases t<;>cases d<;>rfl
def YM(K:Fg)(t:Ty):List V->Hp->VK->Prop:=λxs H Q=>∃da F v,xs=[v,.ty (tyName t)]/\Good F H/\Rep K F da v/\da≠.any/\Q (.bl (Kv t da)) H
def Hv:jS X (.builtin "isinstance") (YM X.K t):=λh_ s σ H xs us Q I r h=>by
 obtain⟨da,F,v,rfl,g,a,na,q⟩:=h;obtain⟨u,w,rfl,b,d⟩:=vals2 r;obtain rfl:w=.type _:=d;have e:=TN X.K t da;have fin:∀f,EP X h_ σ Q (.bool _) _:=λf=>⟨.bl _,H,I.tok f,rfl,q⟩
 cases da with
 |non=>cases a;obtain rfl:u=.none:=b;exact gR PySem.W.kitx_none I.EX n6 e (λz=>nomatch z) fin
 |bl y=>cases a;obtain rfl:u=.bool y:=b;exact gR PySem.W.kitx_bool I.EX n6 e (λz=>nomatch z) fin
 |int y=>cases a;obtain⟨c,rfl⟩:=b;exact gR PySem.W.kitx_int I.EX n6 e (λz=>nomatch z) fin
 |str y=>cases a;obtain⟨c,rfl⟩:=b;exact gR PySem.W.kitx_str I.EX n6 e (λz=>nomatch z) fin
 |tup ds=>
   obtain⟨p,vs,rfl,c,_⟩:=a;obtain rfl:u=.ref p:=b;obtain⟨its,_,⟨o,h1,h2,_⟩,_⟩:=I.tupR g c;exact gR PySem.W.kitx_tuple I.EX ⟨o,h1,h2⟩ e (λz=>nomatch z) fin
 |lst ds=>
   obtain⟨p,vs,rfl,c,_⟩:=a;obtain rfl:u=.ref p:=b;obtain⟨its,_,⟨o,n,h1,h2,_⟩,_⟩:=I.lstR g c;exact gR PySem.W.kitx_list I.EX ⟨o,h1,h2⟩ e (λz=>nomatch z) fin
 |dct ks ds=>
   refine ac λ_ i=>?_;obtain⟨p,k_,rfl,c,_⟩:=a;obtain rfl:u=.ref p:=b;obtain⟨_,_,_,_,o,es,ep,h1,h2,_⟩:=I.hok p _ (g.sub _ _ c);refine i ?_;exact gR PySem.W.kitx_dict I.EX ⟨o,h1,h2.1⟩ e (λz=>nomatch z) fin
 |any=>exact(na rfl).elim
def RF(t:Ty)(hg:Gl X "isinstance")(hm:X.mg "isinstance"=b_)(B:Gl X x)(O:X.mg x=b_)(Y:bootBuiltins x=a_ (.type (tyName t)))(ha:SE X C a xa)(hn:x≠"__name__")(Z:(x == ("__debug__":bc))=d_)
  (he:aS [a,.Name x p2] X.env=(d_,eval a X.env)::aS [.Name x p2] X.env)(hpl:(backTo pos (aS [.Name x p2] X.env)).any (·.1)=d_) :
  SE X C (.Call (.Name "isinstance" p) [a,.Name x p2] [] pos) (.blt (.isi t) [xa]):=
 PE.imp (uK Hv hg hm (by decide +kernel) (o5 ha (o5 (NO B O Y (v:=.ty _) rfl hn Z) yh) he) (by decide) (by decide) he hpl) λσ H Q b=>by
  refine ac λ_ i=>?_;obtain⟨ρ,d,fr,h,F,g,R,k⟩:=b;obtain⟨ds,h1,h2⟩:=ck h;obtain⟨⟨da,c⟩,h3,h1⟩:=ck h1;cases h1;obtain⟨na,e⟩:=Oz (h2);cases e;refine i ?_;exact⟨ρ,da,c,h3,F,g,R,λv F1 f st r _=>⟨da,F1,v,rfl,st.good,r,na,k _ F1 f st rfl bu⟩⟩
end
end M
namespace L2
open PySem PySem.Spec PyProof.Rows
def zW:HV "reversed" "__init__" "object.__init__":=.of (owner:="object") (n:="__init__") (by kernel_rfl) (by decide +kernel) (by decide +kernel) (by decide +kernel) (.inl (by decide +kernel)) (by kernel_rfl)
def DF:TypeCalled "reversed" "reversed.__new__" "object.__init__":=⟨by decide +kernel,PySem.F.create_reversed,⟨_,_,PySem.F.mro_reversed⟩,PySem.F.made_reversed,by decide +kernel,PySem.F.sub_reversed_self,zW⟩
section
end
def sQ:entryFor table "reversed.__next__"=a_ gC.«reversed.__next__» :=entryFor_of_tree (by kernel_rfl)
def km:HV "reversed" "__next__" "reversed.__next__":=.of (owner:="reversed") (n:="__next__") (by kernel_rfl) (by decide +kernel) (by decide +kernel) (by decide +kernel) (.inl (by decide +kernel)) (by kernel_rfl)
def YQ:Manifest.owners.lookup (String.ofList ['d','e','s','r','e','v','e','r'].reverse)=a_ Manifest.sig_reversed:=by kernel_rfl
def sX(a:aj):argsOk "reversed.__next__" ⟨[a],[]⟩:=by
 kernel_rfl
def Bk:entryFor table "reversed.__iter__"=a_ gC.«dict_keyiterator.__iter__» :=B5 (id':="dict_keyiterator.__iter__") (by kernel_rfl) rfl (by decide +kernel) (by kernel_rfl)
def sG:HV "reversed" "__iter__" "reversed.__iter__":=.of (owner:="reversed") (n:="__iter__") (by kernel_rfl) (by decide +kernel) (by decide +kernel) (by decide +kernel) (.inl (by decide +kernel)) (by kernel_rfl)
def BG(a:aj):argsOk "reversed.__iter__" ⟨[a],[]⟩:=by
 kernel_rfl
def Bl:entryFor table "reversed.__length_hint__"=a_ gC.«reversed.__length_hint__» :=xI (by kernel_rfl)
def oA:HV "reversed" "__length_hint__" "reversed.__length_hint__":=.of (owner:="reversed") (n:="__length_hint__") (by kernel_rfl) (by decide +kernel) (by decide +kernel) (by decide +kernel) (by first|simp|exact .inr (by decide +kernel)) (by kernel_rfl)
def BH(a:aj):argsOk "reversed.__length_hint__" ⟨[a],[]⟩:=by
 kernel_rfl
def Pj(n:Int)(t:LP):asInt? (.int n t)=pure (a_ n):=rfl
def C8:typeLookup (.type "reversed") "__len__"=pure b_:=by kernel_rfl
section
end
def C7:typeLookup (.type "tuple") "__reversed__"=pure b_:=by kernel_rfl
def zN:isSubtype (.type "tuple") (.type "dict")=pure d_:=by kernel_rfl
noncomputable abbrev Js(p:aK)(i:Int):lF:={ cls:=.type "reversed",data:=.fields #[.ref p,rawInt i] }
def RY(p:aK)(its:Array aj)(B:¬(its.size:Int)>=2 ^ 63):Meets (gC.«reversed.__new__» ⟨[.type "reversed",.ref p],[]⟩) (λ_ R s=>nj s.heap p its/\∀O,R (.ok (.ret (.ref s.heap.objs.size))) { s with heap:=s.heap.push (Js p ((its.size:Int) - 1)),toks:=O }):=
 .of_wp λprog w A R s a=>by
  obtain⟨ht,q⟩:=a;refine wb9 (jZ (newClass_reversed _) ?_);refine wb9 (jZ (by first|rfl|kernel_rfl) ?_);refine wb9 (jZ (by first|rfl|kernel_rfl) ?_);refine wb9 (eJ ht.typeIs C7 ?_);refine wb9 ?_;refine wb9 (dv ht.typeIs zN ?_);refine wb9 (eJ ht.typeIs t7.lookup ?_);refine jZ (by first|rfl|kernel_rfl) ?_;refine wb9 (lP ht (mf.mp B) ?_);refine (?_ : aG (aI _ w) _ (newObj (.type _) (.fields [c7 p,rawInt _].toArray) >>= _) ..);exact wb9 (dJ (wu9 ⟨_,rfl,q _⟩) (by size_fits))
section
variable{s:ak}
def Nt(ht:nj s.heap p its)(O:¬(its.size:Int)>=2 ^ 63)(k:∀B,Q (.ref s.heap.objs.size) { s with heap:=s.heap.push (Js p ((its.size:Int) - 1)),toks:=B }):aG (aI prog w) A (call (.type "reversed") [.ref p]) Q E s:=by
 exact vY DF cy (PySem.F.typeCall_reversed_1 _) (PySem.F.newCall_reversed_1 _) (λa=>kX a _) PySem.F.entry_reversed_new (RY p _ O) (⟨ht,λB=>⟨⟨_,aL _ rfl,rfl⟩,k B⟩⟩)
end
section
variable{A:cc}{s:ak}{I p:aK}{its:Array aj}
def nR(y:s.heap.get? I=a_ (Js p i)):s.TypeIs (.ref I) "reversed":=⟨_,y,rfl⟩
def Nq(O:its.size<=aC)(B:j<its.size)(ht:nj s.heap p its)(y:s.heap.get? I=a_ (Js p j))(k:∀h' Y,h'.get? I=a_ (Js p ((j:Int) - 1))->du I s.heap h'->Q (a_ its[j]) { s with heap:=h',toks:=Y }) :
  aG (aI prog w) A (pyNext (.ref I)) Q E s:=by
 refine wb9 (gH (cB (nR y) km (bJ km (nR y) sQ ?_ (sX _))));refine (?_ : aG (aI _ w) _ (field _ 0 >>= _) _ _ s);refine wb9 (cA y rfl (x:=.ref p) rfl ?_);refine wb9 (cA y rfl rfl ?_);refine wb9 (eJ ht.typeIs t7.lookup ?_);refine wb9 (wpAny_mkInt ?_);have hs:seqIndex? (j) its.size=a_ j:=by
  unfold seqIndex?;have b:¬(j:Int)<0:=by simp
  simp[B,b]
 refine wb9 (gH (qS ht (by simp) (gf (lI.mpr (aa B O)) cy) hs (a8 B) ?_));refine wb9 (cA y rfl rfl ?_);exact wb9 (bH y (by simp) λh' g c=>wu9 ⟨_,rfl,wu9 (k h' _ g c)⟩)
def RZ(B:A.handled=b_)(y:s.heap.get? I=a_ (Js p (-1)))(k:∀h',(∀b o,b≠I->s.heap.get? b=a_ o->h'.get? b=a_ o)->Q b_ { s with heap:=h' }) :
  aG (aI prog w) A (pyNext (.ref I)) Q E s:=by
 refine wb9 (gH (cB (nR y) km (bJ km (nR y) sQ ?_ (sX _))));refine (?_ : aG (aI _ w) _ (field _ 0 >>= _) _ _ s);refine wb9 (cA y rfl (x:=.ref p) rfl ?_);refine wb9 (cA y rfl rfl ?_);refine wb9 (iF ?_);refine wb9 ?_;refine wb9 (bH y (by simp) λh1 a s1=>bH a (by simp) λh2 c s2=>?_);refine wb9 (tO B λh' e kp he=>?_);obtain⟨o,ho,hc⟩:=he;exact wb9 (dv ⟨o,ho,hc⟩ qZ (wu9 (k _ λb o n q=>kp _ _ (s2.extBut _ _ n (s1.extBut _ _ n q)))))
def IsTup.tW{h':cg}(ht:nj h p its)(k:∀o,h.get? p=a_ o->h'.get? p=a_ o):nj h' p its:=let ⟨o,a,b⟩:=ht;⟨o,k o a,b⟩
abbrev Wj(I p:aK)(its:Array aj)(i:Nat)(h:cg):Prop:=i<=its.size/\h.get? I=a_ (Js p ((its.size:Int) - 1 - ((i:Nat):Int)))/\nj h p its
def Jq(hh:A.handled=b_)(O:its.size<=aC)(B:p≠I):Walks prog w A I [I,p] [I] its.size (λi v=>its[its.size - 1 - i]?=a_ v) (Wj I p its) where
 sub:=λ_ hb=>by rw[az.mp hb];exact .head _
 frame:=λi h h' st k=>⟨st.1,k I (.head _) _ st.2.1,IsTup.tW st.2.2 λo e=>k p (.tail _ (.head _)) o e⟩
 item:=λi s Q E hi st k=>by
  have e:(its.size:Int) - 1 - (i:Int)=((its.size - 1 - i:Nat):Int):=by omega
  have y:=st.2.1;rw[e]at y;refine Nq O (j8 (oj (its.size - 1) i) (wS its.size 1 (ig hi))) st.2.2 y λh' c g a=>?_;have e2:((its.size - 1 - i:Nat):Int) - 1=(its.size:Int) - 1 - ((i+1:Nat):Int):=PH (HN (ot e.symm)) (HN (ot e));rw[e2]at g;exact k _ h' c (a8 (j8 (Nat.sub_le (its.size - 1) i) (ar its.size 1 (ig hi)))) ⟨hi,g,IsTup.tW st.2.2 λo q=>a.extBut _ _ B q⟩ λb o hb q=>a.extBut _ _ (λz=>hb (z▸az.mpr rfl)) q
 done:=λs Q E st k=>by
  have e:(its.size:Int) - 1 - ((its.size:Nat):Int)=-1:=PH (Z9) (Z9);have y:=st.2.1;rw[e]at y;exact RZ hh y λh' kp=>k h' s.toks λb o hb q=>kp b o (λz=>hb (z▸az.mpr rfl)) q
 self:=λi s Q E st k=>by
  refine vV (nR st.2.1) sG (bJ sG (nR st.2.1) Bk ?_ (BG _));show aG _ _ (ret (.ref I)) _ _ s;exact wu9 ⟨_,rfl,"reversed",_,nR st.2.1,km.lookup,k⟩
def Nr(ht:nj s.heap p its)(B:its.size<=aC)(y:s.heap.get? I=a_ (Js p ((its.size:Int) - 1)))(k:∀O,Q ((its.size:Int) != 0) { s with toks:=O }):aG (aI prog w) A (j4 (.ref I)) Q E s:=by
 have d:its.size<=1000000000:=by have:=B;exact aa this (by decide)
 refine wb9 (eJ (nR y) C8 ?_);refine wb9 (eJ (nR y) oA.lookup ?_);generalize c:("reversed.__length_hint__")=id0
 wp_delta
 subst c;refine wb9 (dv (b:=c_) (nR y) (by kernel_rfl) ?_);refine zv (λa=>absurd a (by decide)) (λ_=>?_);refine zv (λa=>absurd a (by decide +kernel)) (λ_=>?_);refine wb9 (iF ?_);refine wb9 (jZ (oA.bind _) ?_);refine wb9 (gH (bJ oA (nR y) Bl ?_ (BH _)));show aG (aI _ w) _ (field _ 0 >>= _) _ _ s;refine wb9 (cA y rfl rfl ?_);refine wb9 (lP ht (eP (eT.mpr d) (by decide)) ?_);refine (?_ : aG (aI _ w) _ (field _ 1 >>= _) _ _ _);refine wb9 (cA y rfl rfl ?_);refine (?_ : aG (aI _ w) _ (if(its.size:Int)<(its.size) - 1+1 then _ else _) ..);rw[if_neg (by simp),(Int.sub_add_cancel _ _)];refine wpAny_ret_mkInt ?_;dsimp only;rw[Pj,pure_bind];dsimp only
 have hf:qR (its.size)=c_:=by
  unfold qR;rw[ag];exact⟨decide_eq_true (by simp),decide_eq_true (Int.lt_of_le_of_lt (Int.ofNat_le.mpr d) (by decide))⟩
 have ht:fL (its.size:Int).toNat=d_:=decide_eq_false (by exact Nat.not_lt.mpr B);rw[hf,ht];exact wu9 (k _)
end
end L2
namespace M
open PySem PySem.Spec PyProof.Rows L2
section
def GN{its:List aj}(h:BP (λi v=>its.toArray[its.toArray.size - 1 - i]?=a_ v) acc its.toArray.size):acc=its.reverse.toArray:=by
 obtain⟨h1,h2⟩:=h;apply qi;intro j;by_cases a:j<acc.size
 .have:=h2 j _ (a8 a);rw[a8 a]
  grind
 simp_all
end
section
end
section
variable{X:Cx}{iter:a9}{ifs:List a9}
def Nj(Y:X.calm=c_)(S:jj X scope tn cn caps)(hi:SI X C tg iter it)(Z:pN tn.length g)(tgc:Ve X.K tn.length one g)
  (hg:∀(cl:List (bc×aK))(B:ak)(O:Hp)(Ca:aK)(ex:List aK),PG (eQ X scope cl (tn++cn) B O Ca ex) tg g)
  (ht:∀(cl:List (bc×aK))(B:ak)(O:Hp)(Ca:aK)(ex:List aK),L7 (eQ X scope cl (tn++cn) B O Ca ex) ifs (VE X.K C xs))
  (he:∀(cl:List (bc×aK))(B:ak)(O:Hp)(Ca:aK)(ex:List aK),SE (eQ X scope cl (tn++cn) B O Ca ex) C elt xe)
  (hs:∀x,foldedSetIterable iter X.env x=pure x):SE X C (.ListComp elt [⟨tg,iter,ifs,0⟩] scope pos) (.comp tn.length one caps it xs xe):=
 PE.imp (NM Y S hi hg Z ht he hs) (xu tgc λ_ _ _=>trivial)
def Cr{Y:v7}(h0:i≠0)(hN:X.N.Nodup)(hi':X.N[i]?=a_ x)(hx:Loc X.env.scope x)(Z:X.calm=c_)(S:jj X scope tn cn caps)(hi:SI X C tg iter it)(touch:pN tn.length g)(tgc:Ve X.K tn.length one g)
  (hg:∀(cl:List (bc×aK))(B:ak)(O:Hp)(Ca:aK)(ex:List aK),PG (eQ X scope cl (tn++cn) B O Ca ex) tg g)
  (ht:∀(cl:List (bc×aK))(B:ak)(O:Hp)(Ca:aK)(ex:List aK),L7 (eQ X scope cl (tn++cn) B O Ca ex) ifs (VE X.K C xs))
  (he:∀(cl:List (bc×aK))(B:ak)(O:Hp)(Ca:aK)(ex:List aK),SE (eQ X scope cl (tn++cn) B O Ca ex) C elt xe)
  (hsw:swapsWith (.ListComp elt [⟨tg,iter,ifs,0⟩] scope pos) (a_ (.Name x pos')) Y.line X.env=pure c_)
  (hs:∀x,foldedSetIterable iter X.env x=pure x)(hf:X.fn x=c_\/X.env.scope.names.lookup x=a_ .local) :
  SS X C (.Assign [.Name x pos'] (.ListComp elt [⟨tg,iter,ifs,0⟩] scope pos) Y) (.set i (.comp tn.length one caps it xs xe)):=
 PS.imp (CI hN hi' hx Z S hi hg touch ht he hsw hs hf) (Aa h0 (xu tgc λ_ _ _=>trivial))
end
def QA(K:Fg)(one:Bool)(B:List Nat)(g:TG):Prop:=∀Fz H₀ F H σ ρ d x a Q,Rl K Fz H₀ F H σ ρ->Rep K F d x->eR one B d ρ=a_ a->(∀b,Rl K Fz H₀ F H b a->Q b H)->g x σ H Q
def ME{K:Fg}:QA K c_ [i] (kr i):=λFz H₀ F H σ ρ d x ρ1 Q R r hb k=>by
 simp only[eR,je]at hb;subst hb;exact k _ (R.xY r)
def X8:List Nat->QC
 |[]=>Hj
 |i::is=>xj (kr i) (X8 is)
theorem KR{K:Fg}:∀(O:List Nat){σ:St}{ρ:c8},Rl K Fz H₀ F H σ ρ->∀ds:List Dat,ds.length=O.length->(∀B,Rl K Fz H₀ F H B (oY O ds ρ)->Q B H)->∀vs,cQ K F ds vs->X8 O vs σ H Q
 |[],σ,ρ,R,ds,a,k,vs,r=>by
   cases ds with
   |nil=>exact⟨r,k _ R⟩
   |cons _ _=>cases a
 |i::is,σ,ρ,R,ds,a,k,vs,r=>by
   cases ds with
   |nil=>cases a
   |cons d ds=>
     obtain⟨v,w,rfl,b,c⟩:=r;exact⟨v,w,rfl,KR is (R.xY b) ds (by simpa using a) k w c⟩
set_option tactic.hygienic true in
def IG{K:Fg}:QA K d_ ts (KQ K ts.length (X8 ts)):=λFz H₀ F H σ ρ d x ρ1 Q R r hb k=>by
 simp only[eR]at hb
 cases d with
 |tup ds=>
   dsimp only at hb;split at hb
   .rename_i b;cases hb;obtain⟨a,vs,rfl,t,r⟩:=r;exact ⟨a,vs,rfl,(t.mono R.step.good.sub).sq,by rwa[r.length],(KR ts R ds b k vs r)⟩
   .cases hb
 |_=>cases hb
section
variable{X:Cx}{iter:a9}{pos:v7}
def K5{K:Fg}(R:Rl K Fz H₀ F H σ ρ)(h:Xn C (.rng es) ρ=a_ (items,ρ'))
  (k:∀J F1 B,bO F F1->Rl K Fz H₀ F1 B σ ρ'->lD K (vi (.rng es) F1) J items->Q J B):gI K C (.rng es) σ H Q:=by
 obtain⟨ds,h1,h⟩:=ee h;cases h;obtain⟨c,sp,b⟩:=R.iV;refine⟨_,_,c,h1,b.step.good,b.full,λJ F1 B st ok=>?_⟩;have a:=Step.shrink R.step.good sp st;exact k J _ B a.ff (R.moved a) ok
def vp{K:Fg}(R:Rl K Fz H₀ F H σ ρ)(h:(yH C it (xO (kK is ρ))).map (λds=>(ds,kK is ρ))=a_ (items,ρ'))
  (k:∀J F1 B,bO F F1->Rl K Fz H₀ F1 B σ ρ'->lD K (vi it F1) J items->Q J B):gI K C it σ H Q:=by
 obtain⟨ds,h1,h⟩:=ee h;cases h;obtain⟨a,s2,R2⟩:=R.freeze is;exact⟨_,_,a,h1,R2.step.good,R2.xO,λJ F1 B st ok=>k J F1 B (s2.trans st.ff) (R2.moved st) ok⟩
def oI{K:Fg}{F1:Hp}{D:Ends}(Z:QA K one ts g)(s1:bO F F1)(R1:Rl K Fz H₀ F1 H1 σ ρ')(le:∀O,bO F1 O->bO F0 O)(ok:lD K F0 J items)
  (h:iO (eR one ts) (fh C xs) items ρ'=a_ out)(k:vg K Fz H₀ F D out):∃W:Nat->Nat->St->Hp->Prop,(∃m,W 0 m σ H1)/\∀i m σ H,W i m σ H->
   (J.stop i H/\D.nx σ H)\/(J.go i H/\∃N:St->Hp->Prop,(∀B H',N B H'->∃Y,Y<m/\W (i+1) Y B H')/\∀x H',J.yld i H x H'->g x σ H' λσ2 H2=>Zo K C xs { D with nx:=N,ct:=N,bk:=D.nx } σ2 H2):=by
 refine⟨λi m σ H=>∃F ρ,Rl K Fz _ F H σ ρ/\bO F1 F/\iO (eR _ ts) _ (items.drop i) ρ=a_ _/\m=items.length - i/\i<=items.length,⟨_,F1,_,R1,bO.refl _,h,rfl,aT _⟩,?_⟩;rintro i m σ2 H2 ⟨O,r,R2,s2,hl,rfl,s⟩;obtain⟨t,WK⟩:=ok O H2 R2.step.good (le O s2);by_cases a:i<items.length
 .obtain⟨go,A⟩:=t i _ (af a);refine .inr ⟨go,λB H'=>∃Y,Y<items.length - i/\∃F ρ,Rl K Fz _ F H' B ρ/\bO F1 F/\iO (eR _ ts) _ (items.drop _) ρ=a_ _/\Y=items.length - (i+1)/\i+1<=items.length,λB H' z=>z,λx w E=>?_⟩;obtain⟨y,j,G⟩:=A x w E;rw[eF a]at hl;obtain⟨l,u,hl⟩:=ck hl;obtain⟨o,ho,hl⟩:=ck hl;refine Z Fz _ y w _ r _ x l _ (R2.moved j) G u λI L=>?_;have b :=s2.trans j.ff;refine⟨Fz,_,y,l,o,ho,L,?_⟩
  cases o with
  |nx c=>exact λn v f p q=>⟨_,j8 (ws a) (wt (aD a)),n,c,q,b.trans p,hl,rfl,a⟩
  |ct c=>exact λn v f p q=>⟨_,j8 (ad a) (am (Nat.le_of_lt a)),n,c,q,b.trans p,hl,rfl,a⟩
  |bk c=>
    cases hl;exact λn v f p q=>k n v f ((s1.trans b).trans p) q
  |rt d fr=>
    cases hl;exact k
 .have e:=aF s (bS a);subst e;rw[tL]at hl;cases hl;exact .inl ⟨WK _ (ao _),k O H2 _ (s1.trans s2) R2⟩
def xS(hp:pk (aI X.prog X.w) X.A X.env X.xe)(hc:X.calm=c_)(hi:SI X C tg iter it)(B:∀a,it≠.itv a)(Y:PG X tg g)(O:QA X.K one ts g)(hb:yY X C body xs)
  (hs:∀x,foldedSetIterable iter X.env x=pure x):SS X C (.For tg iter body [] pos) (.loop one ts it xs):=
 PS.imp (CJ hp hc hi Y hb hs) λD σ H c=>by
  obtain⟨Fz,H₀,F,ρ,out,h,R,k⟩:=c;obtain⟨⟨items,ρ'⟩,h1,h⟩:=ck h;have fin:∀J F1 b,bO F F1->Rl _ Fz _ F1 b σ ρ'->lD _ (vi it F1) J items->_:=λJ F1 b s1 d ok=>oI O s1 d (λe s=>A5 s) ok h k
  cases it with
  |itv a=>exact absurd rfl (B a)
  |rng es=>exact K5 R h1 fin
  |zip es=>exact vp R h1 fin
  |enu a=>exact vp R h1 fin
  |rev a=>exact vp R h1 fin
def MV(hp:pk (aI X.prog X.w) X.A X.env X.xe)(hc:X.calm=c_)(he:SE X C iter xe)(O:PG X tg g)(B:QA X.K one ts g)(hb:yY X C body xs)
  (hs:∀x,foldedSetIterable iter X.env x=pure x):SS X C (.For tg iter body [] pos) (.loop one ts (.itv xe) xs):=
 PS.imp (CJ hp hc (PI.or (PI.or (yg he) (JH he)) (JI he)) O hb hs) λD σ H j=>by
  refine ac λ_ l=>?_;obtain⟨Fz,H₀,F,ρ,out,h,R,k⟩:=j;obtain⟨⟨items,ρ'⟩,h1,h⟩:=ck h;obtain⟨⟨d,fr,ρ1⟩,h2,h3⟩:=ck h1;obtain⟨ds,c,h5⟩:=ee h3;cases h5
  refine l ?_;cases d with
  |lst es=>
    cases c;refine .inl (.inl (yG R h2 λv Fm F' H' a b st r f=>?_));obtain⟨p,vs,rfl,t,e⟩:=r;exact⟨p,rfl,⟨vs,st.good.sub.seq t⟩,oI B (a.trans st.ff) (b.moved st) (λi s=>s) (rS t e) h k⟩
  |tup es=>
    cases c;refine .inl (.inr (yG R h2 λv Fm F' H' a b st r f=>?_));obtain⟨p,vs,rfl,t,e⟩:=r;exact⟨p,rfl,⟨vs,(t.mono st.good.sub).sq⟩,oI B (a.trans st.ff) (b.moved st) (λi s=>s) (AL t e) h k⟩
  |str x=>
    cases c;refine .inr (yG R h2 λv Fm F' H' a b st r f=>?_);cases r;exact⟨x,rfl,oI B (a.trans st.ff) (b.moved st) (λi s=>s) AM h k⟩
  |_=>cases c
def IQ(hp:pk (aI X.prog X.w) X.A X.env X.xe)(hc:ST X C cnd xc)(hb:yY X C body xs):SS X C (.While cnd body [] pos) (.X1 xc xs):=
 PS.imp (JC hp hc hb) λD σ H B=>by
  refine ac λ_ K=>?_;obtain⟨Fz,H₀,F,ρ,out,h,R,k⟩:=B;refine K ?_;have h:zI (λρ=>(ba C xc _).bind _) _ nr ρ=a_ _:=h;generalize nr=n at h;refine⟨λm σ H=>∃F1 ρ,Rl _ Fz _ F1 H σ ρ/\bO F F1/\zI (λρ=>(ba C xc (full ρ)).bind _) _ m ρ=a_ _,⟨n,F,ρ,R,bO.refl _,h⟩,?_⟩;rintro m p I ⟨F1,q,r,s1,a⟩
  cases m with
  |zero=>cases a
  |succ m=>
    obtain⟨b,s,a⟩:=ck a;obtain⟨⟨d,fr⟩,h1,E⟩:=ck s;obtain⟨G,sp,v⟩:=r.iV;refine⟨_,d,fr,b,h1,E,G,v.step.good,v.full,λJ H2 st=>?_⟩;have e:=Step.shrink r.step.good sp st;cases b with
    |false=>
      refine Dh ?_;cases a;exact k _ H2 p (s1.trans e.ff) (r.moved e)
    |true=>
      refine Dg ?_;obtain⟨o,ho,a⟩:=ck a;refine⟨λg H'=>∃y,y<m+1/\∃F1 ρ,Rl _ Fz _ F1 H' g ρ/\bO F F1/\zI (λρ=>(ba C xc _).bind λx=>gJ _) _ y ρ=a_ _,λg H' z=>z,?_⟩;refine⟨Fz,_,_,q,o,ho,(r.moved e),?_⟩;have t:=s1.trans e.ff
      cases o with
      |nx c=>exact λi u f j l=>⟨m,ao _,i,c,l,t.trans j,a⟩
      |ct c=>exact λi u f j l=>⟨m,ao _,i,c,l,t.trans j,a⟩
      |bk c=>
        cases a;exact λi u f j l=>k i u f (t.trans j) l
      |rt d fr=>
        cases a;exact k
set_option tactic.hygienic true in
def Q7(he:SE X C e xe)(B:QA X.K d_ ts tg')(O:PG X tgt tg')
  (hs:swapsWithSole [tgt] e pos.line X.env=pure d_)(Y:swappedStores [tgt] e X.env=pure b_)(h1:(assignEach [tgt] X.env).map (·.2)=[assign tgt X.env]):SS X C (.Assign [tgt] e pos) (.VL ts xe):=
 PS.imp (uG he O hs Y h1) λD σ H b=>by
  refine ac λ_ l=>?_;obtain⟨Fz,H₀,F,ρ,out,h,R,k⟩:=b;obtain⟨⟨d,fr,ρ'⟩,h1,h⟩:=ck h
  refine l ?_;cases d with
  |tup ds=>
    have h:(if ds.length=ts.length then a_ (Out.nx (oY ts ds ρ'))else b_)=a_ _:=h;split at h
    .rename_i c;cases h;refine yG R h1 λv Fm F' H' g i st r f=>?_;refine B Fz _ F' H' σ _ _ v (oY ts ds _) _ (i.moved st) r ?_ λa j=>k F' H' a (g.trans st.ff) j;simp only[eR];rw[if_pos c]
    .cases h
  |_=>cases h
end
section
variable{K:Fg}{base:cg}
set_option tactic.hygienic true in
def Ur{st:i4}(F:XU K x qual st f fd)(S:pf N ps (cD st))(O:ps.length<=N.length)
  (B:∀(cdv:aj)(A:cc)(outer:List LS)(s:ak)(H:Hp)(E:XK),lz k (A.deeper (envOfC qual (cD st) s.heap.objs.size f cdv))->
   yY (wo zg P w K mg base N qual (cD st) f cdv A outer s H E).P9 C (lU st) body):lE P w K mg base zg (k+1) f fd ps (nQ K ps.length (Uu C ps.length N.length body)):=by
 refine F.ok S (λvs H Q E h=>h.1) λcdv A outer s H vs Q E c h=>⟨_,B _ A _ s H E c,?_⟩
 refine ac λ_ u=>?_;obtain⟨hl,ds,d,fr,he,Fz,g,r,a⟩:=h;refine u ?_;unfold Uu at he;split at he
 .rename_i b;obtain⟨o,ho,he⟩:=ck he;refine⟨Fz,⟨H,b_⟩,Fz,_,o,ho,⟨Step.refl g,?_,λi d' q=>?_,λ_ _ _ z=>(nomatch z),λ_=>[],λi d' q=>?_,λi j d1 d2 e p t=>?_⟩,?_⟩
  .unfold L2.start;simp[hl,b]
  .have hi:i<ds.length:=by
    by_cases hi:i<ds.length
    .exact hi
    .rw[aJ (by simpa using hi),cx]at q;split at q<;>cases q
   rw[aQ (by simpa using hi),aO]at q;refine ac λ_ u=>?_;obtain⟨d2,e1,e2⟩:=ee q;cases e2;obtain⟨v,e3,l⟩:=r.get e1;refine u ?_;refine⟨v,?_,l⟩;unfold L2.start;rw[aQ (by simp;exact aa hi (aa (ae b) (ae hl.symm))),aO,e3];rfl
  .exfalso;by_cases hi:i<ds.length
   .rw[aQ (by simpa using hi)]at q
    simp_all
   .rw[aJ (by simpa using hi),cx]at q;split at q<;>cases q
  .simp
  .cases o with
   |nx ρ'=>
     cases he;exact λF' H' m s' R=>a _ F' H' R.step rfl bu
   |rt d' n=>
     cases he;exact a
   |bk _=>cases he
   |ct _=>cases he
 .cases he
end
theorem cP.take{K:Fg}:∀(n:Nat){ds:List Dat}{vs:List V}{S:List aK},cP K H ds vs S->∃B O,cP K H (ds.take n) (vs.take n) B/\cP K H (ds.drop n) (vs.drop n) O/\S=B++O
 |0,ds,vs,S,h=>⟨[],S,⟨rfl,rfl⟩,h,rfl⟩
 |n+1,[],vs,S,h=>by
   obtain⟨rfl,rfl⟩:=h;exact⟨[],[],⟨rfl,rfl⟩,⟨rfl,rfl⟩,rfl⟩
 |n+1,d::ds,vs,S,b=>by
   refine ac λ_ j=>?_;obtain⟨v,r,B,O,e,h1,h2,q⟩:=b;subst e q;obtain⟨a,c,f,g,i⟩:=cP.take n h2;refine j ?_;exact⟨_,c,⟨v,_,B,a,rfl,h1,f,rfl⟩,g,by simp_all⟩
theorem cP.setAt{K:Fg}{T:List aK}(h':jQ K H d' v' T):∀(n:Nat){ds:List Dat}{vs:List V}{S:List aK},n<ds.length->cP K H ds vs S->∃B O Y,cP K H (ds.set n d') (vs.set n v') (B++T++Y)/\S=B++O++Y
 |n,[],vs,S,a,h=>absurd a (by simp)
 |0,d::ds,vs,S,_,b=>by
   obtain⟨v,r,B,O,e,h1,h2,q⟩:=b;subst e q;exact⟨[],B,O,⟨v',r,T,O,rfl,h',h2,by simp⟩,by simp⟩
 |n+1,d::ds,vs,S,a,b=>by
   obtain⟨v,r,B,O,e,h1,h2,q⟩:=b;subst e q;obtain⟨c,g,f,i,j⟩:=cP.setAt h' n (by simpa using a) h2;refine⟨B++c,g,f,⟨v,_,B,_,rfl,h1,i,by simp⟩,by rw[j];simp⟩
section
variable{K:Fg}
def Rl.mut(R:Rl K Fz H₀ F H σ ρ)(O:Ow K H₀.h F H σ ρ Ss)(hi:ρ[i]?=a_ (a_ (d,c_)))(B:σ[i]?=a_ (a_ v))
  (hl:l∈Ss i)(Z:HD o')(o:jQ K (upd H l o') d' v S')(nd:S'.Nodup)(Y:∀a∈S',a∈Ss i\/(F a=b_/\H₀.h a=b_/\∀(j:Nat)d2,ρ[j]?=a_ (a_ (d2,c_))->a∉Ss j)) :
  Rl K Fz H₀ F (upd H l o') σ (ρ.set i (a_ (d',c_))):=by
 obtain⟨w,e1,e2,e3,p⟩:=O.own i d hi;obtain⟨ol,r,mul⟩:=e2.tD _ l hl;refine⟨⟨⟨λa u q=>?_,λa us q=>?_⟩,R.step.ff,λa u q=>?_,R.step.un⟩,by simpa using R.len,λj d2 q=>?_,λd2 s q=>?_,λj=>if j=i then S' else Ss j,λj d2 q=>?_,λj k d1 d2 n y t=>?_⟩
 .rw[dR (iM q ((p l hl).1))];exact R.step.good.sub a u q
 .by_cases ha:a=l
  .subst ha;rw[cC]at q;cases q;exact Z.elim
  .rw[dR ha]at q;exact R.step.good.tup a us q
 .rw[dR (iM q ((p l hl).2))];exact R.step.hh a u q
 .rcases dt q with⟨rfl,e⟩|⟨b,g⟩
  .cases e
  .exact R.val j d2 g
 .rcases dt q with⟨rfl,e⟩|⟨b,g⟩
  .exact R.keep _ s hi
  .exact R.keep _ s g
 .rcases dt q with⟨rfl,e⟩|⟨b,g⟩
  .cases e;rw[if_pos rfl];refine⟨v,B,o,nd,λa m=>?_⟩
   rcases Y a m with m|m
   .exact p a m
   .exact⟨m.1,m.2.1⟩
  .rw[if_neg (cj b)];obtain⟨w,A,C,D,E⟩:=O.own j d2 g;exact⟨w,A,C.upd (λvs z=>by rw[r]at z;cases z;exact mul) d2 (O.sep i j d d2 b hi g l hl),D,E⟩
 .intro a m
  rcases dt y with⟨rfl,e⟩|⟨h1,f⟩
  .rw[if_pos rfl]at m
   rcases dt t with⟨e2,_⟩|⟨h2,c⟩
   .exact absurd e2 n
   .rw[if_neg (cj h2)]
    rcases Y a m with m|m
    .exact O.sep _ k d d2 h2 hi c a m
    .exact m.2.2 k d2 c
  .rw[if_neg (cj h1)]at m
   rcases dt t with⟨rfl,e⟩|⟨h2,c⟩
   .rw[if_pos rfl];intro m2
    rcases Y a m2 with m2|m2
    .exact O.sep _ j d d1 h1 hi f a m2 m
    .exact m2.2.2 j d1 f m
   .rw[if_neg (cj h2)];exact O.sep j k d1 d2 n f c a m
def Step.VM(st:Step F H F' H')(g:Good F H)(B:∀a∈S,H a=b_)(o:cP K H' ds vs S):Step F H (uz F' S) H':=by
 refine⟨⟨λa o' q=>?_,λa vs q=>?_⟩,λa o' q=>?_,st.hh,λa o' q n=>?_⟩
 .by_cases m:a∈S
  .rw[sD m]at q;cases q
  .rw[jr m]at q;exact st.good.sub a o' q
 .rw[jr λm=>?_]
  .exact st.good.tup a vs q
  .obtain⟨u,b,c⟩:=o.tD _ a m;rw[q]at b;cases b;exact c
 .rw[jr λm=>?_]
  .exact st.ff a o' q
  .rw[g.sub.free (B a m)]at q;cases q
 .by_cases m:a∈S
  .exact sD m
  .rw[jr m];exact st.un a o' q n
def yI(R:Rl K Fz H₀ F H σ ρ)(h:nZ C es (M.full ρ)=a_ (ds,c_))
  (k:∀vs F' H' S,Step F H F' H'->cP K H' ds vs S->S.Nodup->(∀a∈S,H a=b_/\F' a=b_)->Q vs H'):gF K C es σ H Q:=by
 obtain⟨d,sp,c⟩:=R.iV;refine⟨_,ds,c_,h,d,c.step.good,c.full,λvs F1 e st r f=>?_⟩;obtain⟨S,n,e1,o⟩:=f rfl;exact k vs _ e S (Step.VM (Step.shrink R.step.good sp st) R.step.good e1 o) o n λa m=>⟨e1 a m,sD m⟩
end
noncomputable def TZ:V->Option Key
 |.int i=>a_ (.inl i)
 |.str x=>a_ (.inr x)
 |_=>b_
def Dd(h:TZ v=a_ k):v=kV k:=by
 cases v<;>first|(cases h;rfl)|cases h
def Ox(k:Key):TZ (kV k)=a_ k:=by cases k<;>rfl
noncomputable def rB(k:Key)(y:V):List (Key×V)->List (Key×V)
 |[]=>[(k,y)]
 |p::r=>if p.1=k then(p.1,y)::r else p::rB k y r
theorem Ej:∀(r:List (Key×V)),(r.any λB=>decide (B.1=k))=d_->r.map (λB=>if B.1=k then(B.1,y)else B)=r
 |[],_=>rfl
 |p::r,h=>by
   rw[m8,Bool.or_eq_false_iff]at h;rw[aB,if_neg (of_decide_eq_false h.1),Ej r h.2]
theorem Eo:∀(k_:List (Key×V)),uO k (k_.map (·.1))=c_->putK k_ k y=rB k y k_
 |[],_=>rfl
 |p::r,h=>by
   simp only[aB,uO]at h;by_cases e:p.1=k
   .rw[if_pos e]at h
    have h2:(r.any λa=>decide (a.1=k))=d_:=by
     simp only[jP]at h;rwa[List.any_map]at h
    unfold putK rB;rw[if_pos e,if_pos (by rw[m8,decide_eq_true e];rfl),aB,if_pos e,Ej r h2]
   .rw[if_neg e]at h;unfold rB;rw[if_neg e,<-(Eo (y:=y) r h)];unfold putK;rw[m8,decide_eq_false e,Bool.false_or];split
    .rw[aB,if_neg e]
    .rfl
theorem wQ:∀(k_:List (Key×V))(ds:List Dat),ds.length=k_.length->(rB k y k_).map (·.1)=(putD k d (k_.map (·.1)) ds).1
 |[],ds,h=>by
   cases ds with
   |nil=>rfl
   |cons _ _=>cases h
 |p::r,[],h=>by cases h
 |p::r,e::ds,h=>by
   have a:=wQ (k:=k) (y:=y) (d:=d) r ds (by simpa using h);simp only[rB,aB,putD];by_cases q:p.1=k
   .rw[if_pos q,if_pos q];rfl
   simp_all
theorem cP.put{K:Fg}{T:List aK}(o:jQ K H d y T)(B:T.Nodup):∀(k_:List (Key×V)) (ds:List Dat) (S:List aK),cP K H ds (k_.map (·.2)) S->S.Nodup->(∀a∈S,a∉T)->
  ∃S',cP K H (putD k d (k_.map (·.1)) ds).2 ((rB k y k_).map (·.2)) S'/\S'.Nodup/\∀a∈S',a∈S\/a∈T
 |[],[],S,os,f,c=>⟨T,.one o,B,λa m=>.inr m⟩
 |[],e::ds,S,os,f,c=>by
   obtain⟨v,r,i,g,q,_⟩:=os;cases q
 |p::r,[],S,os,f,c=>by
   cases os.1
 |p::r,e::ds,S,os,f,c=>by
   refine ac λ_ w=>?_;obtain⟨v,u,i,g,q,l,j,rfl⟩:=os;cases q;refine w ?_;have h:=cH.mp f;simp only[rB,aB,putD];by_cases q:p.1=k
   .rw[if_pos q,if_pos q];refine⟨_,⟨y,r.map _,T,g,rfl,o,j,rfl⟩,cH.mpr ⟨B,h.2.1,λa m b m2 z=>c b (ai _ m2) (z▸m)⟩,λa m=>?_⟩
    grind
   .rw[if_neg q,if_neg q];obtain⟨S',n,s,t⟩:=cP.put o B r ds g j h.2.1 λa m=>c a (ai _ m);refine⟨_,⟨_,(rB k y r).map _,i,S',rfl,l,n,rfl⟩,cH.mpr ⟨h.1,s,λa m b m2 z=>?_⟩,λa m=>?_⟩
    .subst z
     rcases t a m2 with z|z
     .exact h.2.2 a m a z rfl
     .exact c a (au _ m) z
    grind
noncomputable def SX:HO->List V->Option HO
 |.lst xs,[y]=>if xs.length<aC then a_ (.lst (xs++[y]))else b_
 |_,_=>b_
def WL:HO->List V->Option HO
 | .lst xs,l=>match l with
   |[.int i,y]=>if xs.length<aC/\-1000000<=i/\i<=1000000 then a_ (.lst (insI y i xs))else b_
   |_=>b_
 |_,_=>b_
def G0:HO->List V->Option HO
 | .lst xs,l=>match l with
   |[y,.int i]=>if -1000000<=i/\i<=1000000 then(Rx y i xs).map .lst else b_
   |_=>b_
 | .dK k_,l=>match l with
   |[y,v]=>(TZ v).bind λk=>if k_.length<aC then a_ (.dK (putK k_ k y))else b_
   |_=>b_
 |_,_=>b_
def yi:HS->HO->List V->Option HO
 |.app,a,l=>SX a l
 |.ins,a,l=>WL a l
 |.seti,a,l=>G0 a l
 |_,_,_=>b_
def iU{T:List aK}(nd:(S++T).Nodup):S.Nodup/\T.Nodup/\∀a∈S,a∉T:=by
 obtain⟨h1,h2,h3⟩:=cH.mp nd;exact⟨h1,h2,λa m n=>h3 a m a n rfl⟩
def g8{S T:List aK}(h1:S.Nodup)(h2:T.Nodup)(h3:∀a∈S,a∉T):(S++T).Nodup:=cH.mpr ⟨h1,h2,λa m b n z=>h3 a m (z▸n)⟩
def BL(K:Fg)(H:Hp)(op:HS)(d':Dat)(v:V)(vs:List V)(S T:List aK):Prop:=
 ∃l b ob' S',v=.ref l/\l∈S/\H l=a_ b/\yi op b vs=a_ ob'/\HD ob'/\jQ K (upd H l ob') d' v S'/\S'.Nodup/\∀a∈S',a∈S\/a∈T
section
variable{K:Fg}{T:List aK}
def Ob{d1:Dat}(hl:H l=a_ (.lst xs))(os:cP K H es xs S')(nd:(l::S').Nodup)(O:jQ K H d1 y T)(nt:T.Nodup)(B:∀a∈l::S',a∉T)(Y:es.length<aC):BL K H .app (.lst (es++[d1])) (.ref l) [y] (l::S') T:=by
 have f:=aU.mp nd;have d :=B l jv;refine⟨l,_,.lst _,_,rfl,jv,hl,by simp only[yi,SX];rw[if_pos (by rwa[os.length])],trivial,⟨l,_,_,rfl,cC,(os.upd (λvs z=>by rw[hl]at z;cases z) _ f.1).append (.one (O.upd (λvs z=>by rw[hl]at z;cases z) _ d)),rfl⟩,?_,λb m=>?_⟩
 .refine aU.mpr ⟨λm=>?_,g8 f.2 nt λb m=>B b (ju _ m)⟩
  rcases ax.mp m with m|m
  .exact f.1 m
  .exact d m
 .rcases aw.mp m with rfl|m
  .exact .inl jv
  .rcases ax.mp m with m|m
   .exact .inl (ju _ m)
   .exact .inr m
def Oa{d1:Dat}(hl:H l=a_ (.lst xs))(os:cP K H es xs S')(nd:(l::S').Nodup)(O:jQ K H d1 y T)(nt:T.Nodup)(B:∀a∈l::S',a∉T)(Y:es.length<aC/\-1000000<=i/\i<=1000000):BL K H .ins (.lst (insI d1 i es)) (.ref l) [.int i,y] (l::S') T:=by
 have f:=aU.mp nd;have c:∀vs,H l≠a_ (.tup vs):=λvs z=>by rw[hl]at z;cases z
 have g :=B l jv;have d:=os.length;obtain⟨j,k,p,q,rfl⟩:=os.take (HT.iH es.length 0 (a_ i));have h:HT.iH xs.length 0 (a_ i)=HT.iH es.length 0 (a_ i):=by rw[d]
 have e:=iU f.2;refine⟨l,_,.lst (insI y i xs),l::(j++(T++k)),rfl,jv,hl,by simp only[yi,WL];simp_all,trivial,⟨l,_,_,rfl,cC,?_,rfl⟩,?_,λb m=>?_⟩
 .have n:=(p.upd c _ (λm=>f.1 (au _ m))).append ((cP.one (O.upd c _ g)).append (q.upd (o:=.lst (insI y i xs)) c _ (λm=>f.1 (ai _ m))));have e2:insI y i xs=xs.take (HT.iH es.length 0 (a_ i))++([y]++xs.drop (HT.iH es.length 0 (a_ i))):=by unfold insI;rw[h];rfl
  generalize u:L2.upd H l (.lst _)=H2 at n ⊢;rwa[e2]
 .refine aU.mpr ⟨λm=>?_,g8 e.1 (g8 nt e.2.1 λb m m2=>B b (ju _ (ai _ m2)) m) λb m m2=>?_⟩
  .grind
  grind
 grind
def Ua(h:pH n i=a_ k):k<n:=(yy h).2.1
def N9{d1:Dat}(hl:H l=a_ (.lst xs))(os:cP K H es xs S')(nd:(l::S').Nodup)(O:jQ K H d1 y T)(nt:T.Nodup)(B:∀a∈l::S',a∉T)(Y:-1000000<=i/\i<=1000000)(h2:pH es.length i=a_ k):BL K H .seti (.lst (es.set k d1)) (.ref l) [y,.int i] (l::S') T:=by
 have n :=B l jv;obtain⟨f,r,g,o,rfl⟩:=os.setAt O k (Ua h2);have h:=iU (aU.mp nd).2;have d:l∉f++T++g:=λm=>by
  grind
 refine⟨l,_,.lst _,_,rfl,jv,hl,?_,trivial,⟨l,_,_,rfl,cC,o.upd (λvs z=>by rw[hl]at z;cases z) _ d,rfl⟩,?_,λb m=>?_⟩
 .simp only[yi,G0];rw[if_pos Y];unfold Rx;rw[os.length,h2];rfl
 .refine aU.mpr ⟨d,g8 (g8 (iU h.1).1 nt λb m=>B b (ju _ (au _ (au _ m)))) h.2.1 λb m m2=>?_⟩
  grind
 grind
end
def J8{K:Fg}{T:List aK}{d1:Dat}(hl:H l=a_ (.dK k_))(os:cP K H ds (k_.map (·.2)) S')(nd:(l::S').Nodup)(Y:jQ K H d1 y T)(nt:T.Nodup)(B:∀a∈l::S',a∉T)(O:(k_.map (·.1)).length<aC/\uO k (k_.map (·.1))=c_) :
  BL K H .seti (.dct (putD k d1 (k_.map (·.1)) ds).1 (putD k d1 (k_.map (·.1)) ds).2) (.ref l) [y,kV k] (l::S') T:=by
 have h:=aU.mp nd;obtain⟨g,i,j,n⟩:=cP.put Y nt k_ ds S' os h.2 λa m=>B a (ju _ m)
 have d:l∉g:=λm=>by
  rcases n l m with z|z
  .exact h.1 z
  .exact (B l jv) z
 refine⟨l,_,.dK _,_,rfl,jv,hl,?_,trivial,⟨l,_,g,rfl,cC,wQ k_ ds (by simpa using os.length.symm),i.upd (λvs z=>by rw[hl]at z;cases z) _ d,rfl⟩,aU.mpr ⟨d,j⟩,λb m=>?_⟩
 .simp only[yi,G0,Ox,bE];rw[if_pos (by simpa using O.1),Eo k_ O.2]
 grind
set_option tactic.hygienic true in
def yk{K:Fg}{T:List aK}(h1:op≠.ext)(h2:op≠.dput)(h:jt op d ds=a_ d')(o:jQ K H d v S)(nd:S.Nodup)(a:cP K H ds vs T)(nt:T.Nodup)(B:∀a∈S,a∉T):BL K H op d' v vs S T:=by
 have hd:(∃es,d=.lst es)\/(op=.seti/\∃ks ws,d=.dct ks ws):=by
  cases d with
  |lst es=>exact .inl ⟨es,rfl⟩
  |dct ks ws=>cases op<;>first|exact absurd rfl h1|exact absurd rfl h2|exact .inr ⟨rfl,ks,ws,rfl⟩|cases h
  |any=>cases op<;>first|exact absurd rfl h1|exact absurd rfl h2|cases h
  |_=>cases op<;>cases h
 rcases hd with hd|⟨rfl,ks,ws,rfl⟩
 rotate_left
 .obtain⟨l,k_,S',rfl,hl,rfl,os,rfl⟩:=o
  cases ds with
  |nil=>cases h
  |cons d1 ds=>
    cases ds with
    |nil=>cases h
    |cons d0 ds=>
      cases ds with
      |cons _ _=>cases h
      |nil=>
        obtain⟨k,hk,h⟩:=ck h;split at h
        .rename_i b;refine ac λ_ E=>?_;cases h;obtain⟨y,r,s,t,e,c,m,q⟩:=a;obtain⟨u,A,w,n,p,j,f,g⟩:=m;obtain⟨rfl,rfl⟩:=f
         have C:u=kV k/\w=[]:=by
          cases d0 with
          |int i=>cases hk;exact j
          |str x=>cases hk;exact j
          |_=>cases hk
         obtain⟨rfl,rfl⟩:=C;refine E ?_;rw[aE]at g;subst e p g;rw[aE]at q;subst q;exact J8 hl os nd c nt B b
        .cases h
 obtain⟨es,rfl⟩:=hd;obtain⟨l,xs,S',rfl,hl,os,rfl⟩:=o
 cases op with
 |ext=>exact absurd rfl h1
 |dput=>exact absurd rfl h2
 |app=>
   cases ds with
   |nil=>cases h
   |cons d1 ds=>
     cases ds with
     |cons _ _=>cases h
     |nil=>
       obtain⟨y,r,s,t,e,c,f,q⟩:=a;obtain⟨rfl,rfl⟩:=f;rw[aE]at q;subst e q;simp only[jt,MD,Gk,MC,MB]at h;split at h
       .rename_i b;cases h;exact Ob hl os nd c nt B b
       .cases h
 |ins=>
   cases ds with
   |nil=>cases h
   |cons d0 ds=>
     cases ds with
     |nil=>cases d0<;>cases h
     |cons d1 ds=>
       cases ds with
       |cons _ _=>cases d0<;>cases h
       |nil=>
         cases d0 with
         |int i=>
           obtain⟨u,A,w,n,p,j,m,g⟩:=a;obtain⟨y,r,s,t,e,c,f,q⟩:=m;obtain⟨rfl,rfl⟩:=f;obtain⟨rfl,rfl⟩:=j;rw[aE]at q;subst e p q;subst g;simp only[jt,MD,Gk,MC,MB]at h;split at h
           .rename_i b;cases h;exact Oa hl os nd c nt B b
           .cases h
         |_=>cases h
 |pop=>cases h
 |clr=>cases h
 |seti=>
   cases ds with
   |nil=>cases h
   |cons d1 ds=>
     cases ds with
     |nil=>cases h
     |cons d0 ds=>
       cases ds with
       |cons _ _=>cases d0<;>cases h
       |nil=>
         cases d0 with
         |int i=>
           obtain⟨y,r,s,t,e,c,m,q⟩:=a;obtain⟨u,A,w,n,p,j,f,g⟩:=m;obtain⟨rfl,rfl⟩:=f;obtain⟨rfl,rfl⟩:=j;rw[aE]at g;subst e p g;rw[aE]at q;subst q;simp only[jt,MD,Gk,MC,MB]at h;split at h
           .rename_i b;obtain⟨es',z,h⟩:=ee h;cases h;obtain⟨k,D,z⟩:=ee z;subst z;exact N9 hl os nd c nt B b D
           .cases h
         |_=>cases h
section
variable{X:Cx}{K:Fg}
def Ul(h:gF K C [xa,xb] σ H Q):gE K C xa σ H λx B=>gE K C xb σ B λy H2=>Q [x,y] H2:=by
 refine ac λ_ o=>?_;obtain⟨ρ,ds,al,h,F,g,R,k⟩:=h;obtain⟨⟨d,fr⟩,h1,h⟩:=ck h;obtain⟨⟨r,n⟩,h2,h⟩:=ee h;cases h;obtain⟨⟨d2,c⟩,h3,i⟩:=ck h2;cases i;refine o ?_;refine⟨ρ,d,fr,h1,F,g,R,λv F1 B a e j=>⟨ρ,d2,c,h3,F1,a.good,R.mono a.ff,λw l H2 b f m=>k _ l H2 (a.trans b) ⟨v,_,rfl,e.mono b.ff,w,[],rfl,f,rfl⟩ λz=>?_⟩⟩;simp only[gm,kS,ag]at z;refine fj.cons a.hh b.hh ?_ (fj.cons b.hh (bO.refl _) ?_ .nil)
 .rcases z.1 with z|z
  .exact j z
  .exact .ko a.good z e
 .rcases z.2 with z|z
  .exact m z
  .exact .ko b.good z f
def lT(h:gE K C x σ H Q)(f:∀v B,bO H B->Q v B->Q' v B):gE K C x σ H Q':=by
 obtain⟨ρ,d,fr,h,F,g,R,k⟩:=h;exact⟨ρ,d,fr,h,F,g,R,λv F' H' st r fr=>f v H' st.hh (k v F' H' st r fr)⟩
def Aw(h:pv C (.mut op i es) ρ=a_ out) :
  ∃ds d d',nZ C es (full ρ)=a_ (ds,c_)/\ρ[i]?=a_ (a_ (d,c_))/\jt op d ds=a_ d'/\out=.nx (ρ.set i (a_ (d',c_))):=by
 obtain⟨⟨ds,al⟩,h3,h⟩:=ck h;by_cases a:al=c_
 .subst a
  cases q:ρ[i]? with
  |none=>rw[q]at h;cases h
  |some z=>
    rw[q]at h
    match z,h with
    |some (d,c_),h=>
      obtain⟨d',b,h5⟩:=ee h;exact⟨ds,d,d',h3,rfl,b,h5.symm⟩
 simp_all
def Av(h1:op≠.ext)(h2:op≠.dput){D:Ends}(h:gS K C (.mut op i es) D σ H) :
  ∃l B,σ[i]?=a_ (a_ (.ref l))/\H l=a_ B/\(op≠.seti->∃xs,B=.lst xs)/\gF K C es σ H λvs Z=>∃Y ob',Z l=a_ Y/\yi op Y vs=a_ ob'/\D.nx σ (upd Z l ob'):=by
 refine ac λ_ x=>?_;obtain⟨Fz,H₀,F,ρ,out,h,R,k⟩:=h;obtain⟨ds,d,d',h3,hi,b,rfl⟩:=Aw h;obtain⟨Ss,O⟩:=R.ow;obtain⟨v,e1,e2,e3,J⟩:=O.own i d hi
 have c:∃l B,v=.ref l/\H l=a_ B/\(op≠.seti->∃xs,B=.lst xs):=by
  cases d with
  |lst es=>
    obtain⟨l,xs,S',rfl,hl,os,L⟩:=id e2;exact⟨l,_,rfl,hl,λ_=>⟨xs,rfl⟩⟩
  |dct ks ws=>
    obtain⟨l,k_,S',rfl,hl,_⟩:=id e2;refine⟨l,_,rfl,hl,λe=>?_⟩
    cases op<;>first|exact absurd rfl h1|exact absurd rfl h2|exact absurd rfl e|cases b
  |any=>cases op<;>first|exact absurd rfl h1|exact absurd rfl h2|cases b
  |_=>cases op<;>cases b
 obtain⟨l,B,rfl,hl,f⟩:=c;refine x ?_;refine⟨l,B,e1,hl,f,yI R h3 λvs F' H' T st ow t s=>?_⟩;have z:∀a∈Ss i,a∉T:=λa m m2=>by
  obtain⟨u,A,_⟩:=e2.tD _ a m
  simp_all
 refine ac λ_ x=>?_;obtain⟨M,Y,ob',N,ev,g,n,o,E,G,p,r⟩:=yk h1 h2 b (e2.mono st.hh) e3 ow t z;cases ev;refine x ?_;refine⟨Y,_,n,o,k F' _ σ st.ff ((R.moved st).mut (O.moved st) hi e1 g E G p λa m=>?_)⟩
 rcases r a m with m|m
 .exact .inl m
 .refine .inr ⟨(s a m).2,R.step.hh.free (s a m).1,λj d2 q m2=>?_⟩;obtain⟨w,_,I,_⟩:=O.own j d2 q;obtain⟨u,A,_⟩:=I.tD _ a m2
  simp_all
def MU{st:i4}(h1:op≠.ext)(h2:op≠.dput)(h3:op≠.seti)(O:∀l B ob' vs H Q,H l=a_ B->yi op B vs=a_ ob'->(∀u,Q u (upd H l ob'))->r (.ref l) vs H Q)
  (Y:PS X st (zL (QS X.K "list" r (tm i) (gF X.K C es)))):SS X C st (.mut op i es):=PS.imp Y λD σ H h=>by
 obtain⟨l,b,e1,hl,a,g⟩:=Av h1 h2 h;obtain⟨xs,rfl⟩:=a h3;refine⟨_,e1,.inl ⟨rfl,xs,mH.of hl⟩,?_⟩;refine ac λ_ d=>?_;obtain⟨ρ,ds,al,h,F,c,R,k⟩:=g;refine d ?_;exact⟨ρ,ds,al,h,F,c,R,λvs F' H' st r f=>let ⟨B,_,q1,q2,q3⟩:=k vs F' H' st r f;O l B _ vs H' _ q1 q2 λ_=>q3⟩
def El:V->V->V->Hp->(Hp->Prop)->Prop:=λo i v H Q=>∃p k_ k,o=.ref p/\i=kV k/\H p=a_ (.dK k_)/\k_.length<aC/\Q (upd H p (.dK (putK k_ k v)))
def xX(B:X.A.units+1<dM):Vf X (λo i v H Q=>Ak o i v H Q\/El o i v H Q):=λh_ s σ H o i v d e u Q I a b c h=>by
 rcases h with h|⟨p,k_,k,rfl,rfl,hp,f,q⟩
 .exact set_list h_ s σ H o i v d e u Q I a b c h
 .cases a;exact Ho I (Pw.k hp f) b c λs' I'=>⟨_,I',q⟩
set_option tactic.hygienic true in
def MS{st:i4}(B:PS X st (zM (gE X.K C xe) (OI (tm i) (gE X.K C xi) (λo i v H Q=>Ak o i v H Q\/El o i v H Q)))):SS X C st (.mut .seti i [xe,xi]):=PS.imp B λD σ H h=>by
 obtain⟨l,d,e1,hl,_,g⟩:=Av (by simp) (by simp) h;refine lT (Ul g) λx u s1 f=>⟨_,e1,lT f λy H2 s2 m=>?_⟩
 obtain⟨n,ob',b,a,c⟩:=m
 cases n with
 |lst ys=>
   cases y with
   |int k=>
     simp only[yi,G0]at a;split at a
     .obtain⟨w,p,q⟩:=ee a;cases q;obtain⟨j,r,rfl⟩:=ee p;exact .inl ⟨l,ys,k,j,rfl,rfl,b,r,c⟩
     .cases a
   |_=>cases a
 |dK k_=>
   obtain⟨k,hk,a⟩:=ck a;split at a
   .rename_i t;cases a;exact .inr ⟨l,k_,k,rfl,Dd hk,b,t,c⟩
   .cases a
 |_=>cases a
end
section
set_option tactic.hygienic true in
def Dn:∀l B ob' vs H(Q:VK),H l=a_ B->yi .app B vs=a_ ob'->(∀u,Q u (upd H l ob'))->Em (.ref l) vs H Q:=λl B ob' vs H Q h1 h2 h3=>by
 cases B with
 |lst xs=>
   cases vs with
   |nil=>cases h2
   |cons y vs=>
     cases vs with
     |cons _ _=>cases h2
     |nil=>
       simp only[yi,SX]at h2;split at h2
       .rename_i a;cases h2;exact⟨l,xs,y,rfl,rfl,h1,a,h3 _⟩
       .cases h2
 |_=>cases h2
end
def Bd{items B:Array aj}(O:items.size+B.size<=aC):¬(!items.isEmpty && fL (items.size+B.size))=c_:=by
 rw[JY O];simp
def K1(l:aK)(items:Array aj)(n:Nat)(b:aK)(B:Array aj)(Y:Nat)(O:Option aK)(xV:Array (Option aj))(Z:¬(!items.isEmpty && fL (items.size+B.size))=c_)(hs1:items.size<=aC)(hs2:items.size+B.size<=aC+1) :
  Meets (gC.«list.extend» ⟨[.ref l,.ref b],[]⟩) (λ_ R s=>s.heap.get? l=a_ { cls:=.type "list",dict:=b_,data:=.seq items n,slots:=#[] }/\s.heap.get? b=a_ { cls:=.type "tuple",dict:=O,data:=.seq B Y,slots:=xV }/\R (.ok (.ret fJ)) { s with heap:=s.heap.update l (eN λx=>x++B),toks:=s.toks }):=
 .of_wp λprog w A R s h=>by
  obtain⟨hp,g,d,a,os⟩:=s;obtain⟨hl,hb,h⟩:=h
  wp_walk using(p7 hl rfl ),p8 hl,p8 hb
  exact⟨_,rfl,h⟩
def K4(l:aK)(items:Array aj)(n:Nat)(b:aK)(B:Array aj)(Y:Nat)(O:Option aK)(xV:Array (Option aj))(Z:¬(!items.isEmpty && fL (items.size+B.size))=c_)(hs1:items.size<=aC)(hs2:items.size+B.size<=aC+1) :
  Meets (gC.«list.extend» ⟨[.ref l,.ref b],[]⟩) (λ_ R s=>s.heap.get? l=a_ { cls:=.type "list",dict:=b_,data:=.seq items n,slots:=#[] }/\s.heap.get? b=a_ { cls:=.type "list",dict:=O,data:=.seq B Y,slots:=xV }/\R (.ok (.ret fJ)) { s with heap:=s.heap.update l (eN λx=>x++B),toks:=s.toks }):=
 .of_wp λprog w A R s h=>by
  obtain⟨hp,g,d,a,os⟩:=s;obtain⟨hl,hb,h⟩:=h
  wp_walk using(p7 hl rfl ),p8 hl,p8 hb
  exact⟨_,rfl,h⟩
section
variable{K:Fg}
def Wu(K:Fg):V->List V->Hp->VK->Prop:=λx vs H Q=>∃l b xs a,x=.ref l/\vs=[.ref b]/\H l=a_ (.lst xs)/\(mH K H b a\/vJ K H b a)/\xs.length+a.length<=aC/\Q .non (upd H l (.lst (xs++a)))
def Tf:MtM X "list.extend" (Wu X.K):=by
 intro h_ s σ H x vs v us Q I t w h;obtain⟨l,b,xs,m,rfl,rfl,o,f,y,q⟩:=h;cases t;obtain⟨u,rfl,A⟩:=w.one;cases A;obtain⟨z,its,n,r,hl,e⟩:=I.Oq o
 have fin:∀(a:List aj)(p:Nat),cR m a->EP X h_ σ Q _ { s with heap:=s.heap.update l (eN λx=>x++a.toArray),toks:=p }:=λa p c=>
  ⟨.non,_,I.WW o e (by simp) (r.append c) (by simp_all),rfl,q⟩
 have d:∀{a:List aj},cR m a->its.toArray.size+a.toArray.size<=aC:=λc=>by rwa[bh,bh,<-r.length,<-c.length]
 rcases f with f|f
 .refine ac λ_ B=>?_;obtain⟨a,c,⟨j,k,e2,hc,hd,hs⟩,_⟩:=I.list f;obtain⟨g,i,data2,xV⟩:=j;subst hc hd hs;refine B ?_;exact PySem.call_meets l5 ⟨_,e,rfl⟩ LR (HX _ _) (K4 l _ n b _ k _ xV (Bd (d c)) (by simp_all) (c5 (d c))) ⟨e,e2,fin a _ c⟩
 .refine ac λ_ B=>?_;obtain⟨a,c,⟨j,e2,hc,k,hd⟩,_⟩:=I.tuple f;obtain⟨g,i,data2,xV⟩:=j;subst hc hd;refine B ?_;exact PySem.call_meets l5 ⟨_,e,rfl⟩ LR (HX _ _) (K1 l _ n b _ k i xV (Bd (d c)) (by exact aa (ae hl.symm) z) (c5 (d c))) ⟨e,e2,fin a _ c⟩
def QE(K:Fg)(H:Hp)(d':Dat)(v:V)(vs:List V)(S T:List aK):Prop:=
 ∃l xs b c S',v=.ref l/\l∈S/\H l=a_ (.lst xs)/\vs=[.ref b]/\(mH K H b c\/vJ K H b c)/\xs.length+c.length<=aC/\jQ K (upd H l (.lst (xs++c))) d' v S'/\S'.Nodup/\∀a∈S',a∈S\/a∈T
def K3{T:List aK}(hl:H l=a_ (.lst xs))(os:cP K H es xs S')(nd:(l::S').Nodup)(hb:mH K H b zs\/vJ K H b zs)(of:cP K H fs zs T')(B:∀a∈T',a∈T)(nt:T'.Nodup)(O:∀a∈l::S',a∉T)(Y:es.length+fs.length<=aC) :
  QE K H (.lst (es++fs)) (.ref l) [.ref b] (l::S') T:=by
 have e:=aU.mp nd;have d :=λm=>O l jv (B l m);refine⟨l,xs,b,zs,_,rfl,jv,hl,rfl,hb,by rwa[os.length,of.length],⟨l,_,_,rfl,cC,(os.upd (λvs z=>by rw[hl]at z;cases z) _ e.1).append (of.upd (λvs z=>by rw[hl]at z;cases z) _ d),rfl⟩,?_,λa m=>?_⟩
 .refine aU.mpr ⟨λm=>?_,g8 e.2 nt λa m m2=>O a (ju _ m) (B a m2)⟩
  grind
 grind
set_option tactic.hygienic true in
def OO{T:List aK}(h:jt .ext d ds=a_ d')(o:jQ K H d v S)(nd:S.Nodup)(a:cP K H ds vs T)(nt:T.Nodup)(B:∀a∈S,a∉T):QE K H d' v vs S T:=by
 cases d with
 |lst es=>
   obtain⟨l,xs,S',rfl,hl,os,rfl⟩:=o
   cases ds with
   |nil=>cases h
   |cons d1 ds=>
     cases ds with
     |cons _ _=>cases d1<;>cases h
     |nil=>
       obtain⟨y,r,j,k,e,f,g,q⟩:=a;obtain⟨rfl,rfl⟩:=g;rw[aE]at q;subst e q
       cases d1 with
       |lst fs=>
         simp only[jt,Gk]at h;split at h
         .rename_i c;cases h;obtain⟨b,i,n,rfl,hb,of,rfl⟩:=f;exact K3 hl os nd (.inl (.inl (.inl hb))) of (λa m=>ju _ m) (aU.mp nt).2 B c
         .cases h
       |tup fs=>
         simp only[jt,Gk]at h;split at h
         .rename_i c;cases h;obtain⟨b,i,rfl,hb,of⟩:=f;exact K3 hl os nd (.inr hb.sq) of (λa m=>m) nt B c
         .cases h
       |_=>cases h
 |_=>cases h
def K2{D:Ends}(h:gS K C (.mut .ext i es) D σ H) :
  ∃l B,σ[i]?=a_ (a_ (.ref l))/\H l=a_ (.lst B)/\gF K C es σ H λvs Z=>∃xs b Y,Z l=a_ (.lst xs)/\vs=[.ref b]/\(mH K Z b Y\/vJ K Z b Y)/\xs.length+Y.length<=aC/\D.nx σ (upd Z l (.lst (xs++Y))):=by
 obtain⟨Fz,H₀,F,ρ,out,h,R,k⟩:=h;obtain⟨ds,d,d',h3,hi,p,rfl⟩:=Aw h;obtain⟨Ss,O⟩:=R.ow;obtain⟨v,e1,e2,e3,J⟩:=O.own i d hi
 have c:∃l B,v=.ref l/\H l=a_ (.lst B):=by
  cases d with
  |lst es=>
    obtain⟨l,xs,S',rfl,hl,os,L⟩:=id e2;exact⟨l,xs,rfl,hl⟩
  |_=>cases p
 obtain⟨l,B,rfl,hl⟩:=c;refine⟨l,B,e1,hl,yI R h3 λvs F' H' T st ow s r=>?_⟩;have y:∀a∈Ss i,a∉T:=λa m m2=>by
  obtain⟨u,z,_⟩:=e2.tD _ a m
  simp_all
 refine ac λ_ t=>?_;obtain⟨M,xs,b,Y,N,ev,e,f,g,A,E,G,n,o⟩:=OO p (e2.mono st.hh) e3 ow s y;cases ev;refine t ?_;refine⟨xs,b,Y,f,g,A,E,k F' _ σ st.ff ((R.moved st).mut (O.moved st) hi e1 e trivial G n λa m=>?_)⟩
 rcases o a m with m|m
 .exact .inl m
 .refine .inr ⟨(r a m).2,R.step.hh.free (r a m).1,λj d2 q m2=>?_⟩;obtain⟨w,_,I,_⟩:=O.own j d2 q;obtain⟨u,z,_⟩:=I.tD _ a m2
  simp_all
def Rh{st:i4}(B:PS X st (zL (QS X.K "list" (Wu X.K) (tm i) (gF X.K C es)))):SS X C st (.mut .ext i es):=PS.imp B λD σ H h=>by
 obtain⟨l,a,e1,hl,g⟩:=K2 h;refine⟨_,e1,.inl ⟨rfl,a,mH.of hl⟩,?_⟩;refine ac λ_ d=>?_;obtain⟨ρ,ds,al,h,F,c,R,k⟩:=g;refine d ?_;exact⟨ρ,ds,al,h,F,c,R,λvs F' H' st r f=>let ⟨xs,b,zs,q1,q2,q3,q4,q5⟩:=k vs F' H' st r f;⟨l,b,xs,zs,rfl,q2,q1,q3,q4,q5⟩⟩
end
section
variable{X:Cx}{K:Fg}
theorem wZ:∀{ds:List Dat}{q:List Key}{vs:List V},AK ds=a_ q->cQ K F ds vs->vs=q.map kV
 |[],_,_,h,r=>by cases h;exact r
 |d::ds,_,_,h,a=>by
   obtain⟨v,w,e,h1,h2⟩:=a;obtain⟨k,hk,h⟩:=ck h;obtain⟨q,b,h⟩:=ee h;cases h;subst e;rw[aB,<-wZ b h2]
   congr 1
   cases d with
   |int i=>cases hk;exact h1
   |str x=>cases hk;exact h1
   |_=>cases hk
theorem EJ:∀{ds:List Dat}{q:List N2}{vs:List V},Qb ds=a_ q->cQ K F ds vs->XS K F q vs
 |[],_,_,h,r=>by cases h;exact r
 |d::ds,_,_,h,f=>by
   obtain⟨v,w,e,h1,h2⟩:=f;obtain⟨k,hk,h⟩:=ck h;obtain⟨q,g,h⟩:=ee h;cases h;subst e;have b:=EJ g h2
   cases d with
   |int i=>cases hk;cases h1;exact⟨w,rfl,b⟩
   |str x=>cases hk;cases h1;exact⟨w,rfl,b⟩
   |tup es=>
     obtain⟨j,c,hk⟩:=ee hk;cases hk;obtain⟨a,vs,rfl,t,r⟩:=h1;rw[wZ c r]at t;exact⟨a,w,rfl,t,b⟩
   |_=>cases hk
theorem EE:∀{ds:List Dat}{q:List NK}{vs:List V},Vz ds=a_ q->cQ K F ds vs->XR K F q vs
 |[],_,_,h,r=>by cases h;exact r
 |d::ds,_,_,h,f=>by
   obtain⟨v,w,e,h1,h2⟩:=f;obtain⟨k,hk,h⟩:=ck h;obtain⟨q,g,h⟩:=ee h;cases h;subst e;have b:=EE g h2
   cases d with
   |int i=>cases hk;cases h1;exact⟨w,rfl,b⟩
   |str x=>cases hk;cases h1;exact⟨w,rfl,b⟩
   |tup es=>
     obtain⟨j,c,hk⟩:=ee hk;cases hk;obtain⟨a,vs,rfl,t,r⟩:=h1;exact⟨a,w,vs,rfl,t,EJ c r,b⟩
   |_=>cases hk
def N7(h:S7 da=a_ k)(r:Rep K F da v):∃a,v=.ref a/\ZL K F k a:=by
 cases da with
 |tup ds=>
   obtain⟨a,vs,rfl,t,r⟩:=r;exact⟨a,rfl,vs,t,EE h r⟩
 |_=>cases h
theorem EY:∀{q:List Key}{us:List aj},cR (q.map kV) us->∀h:cg,qW (G9 X.prog X.w) h q us
 |[],_,w,_=>by cases w;exact .nil
 |k::q,_,w,h=>by
   cases w with
   |cons a b=>exact .cons (u7 a) (EY b h)
theorem rG(I:Inv X h_ σ H s)(g:Good F H):∀{k:List N2}{vs:List V}{us:List aj},XS X.K F k vs->cR vs us->qW (i2 X.prog X.w) s.heap k us
 |[],_,_,h,w=>by rw[h]at w;cases w;exact .nil
 |.inl k::ks,_,_,h,w=>by
   obtain⟨r,rfl,h⟩:=h;cases w with
   |cons q w=>exact .cons (u7 q) (rG I g h w)
 |.inr q::ks,_,_,h,w=>by
   obtain⟨b,r,rfl,t,h⟩:=h;cases w with
   |cons a w=>
     refine .cons ?_ (rG I g h w);cases(a);obtain⟨its,c,⟨o,h1,h2,n,h3⟩,_⟩:=I.tupR g t;exact⟨b,rfl,o,_,n,h1,h2,h3,by simpa using EY c _⟩
theorem rE(I:Inv X h_ σ H s)(g:Good F H):∀{k:List NK}{vs:List V}{us:List aj},XR X.K F k vs->cR vs us->Vh X.prog X.w s.heap k us
 |[],_,_,h,w=>by rw[h]at w;cases w;exact .nil
 |.inl k::ks,_,_,h,w=>by
   obtain⟨r,rfl,h⟩:=h;cases w with
   |cons q w=>exact .cons (u7 q) (rE I g h w)
 |.inr q::ks,_,_,h,w=>by
   obtain⟨b,r,us,rfl,t,a,h⟩:=h;cases w with
   |cons c w=>
     refine .cons ?_ (rE I g h w);cases(c);obtain⟨its,d,⟨o,h1,h2,n,h3⟩,_⟩:=I.tupR g t;exact⟨b,rfl,o,_,n,h1,h2,h3,by simpa using rG I g a d⟩
def J2(I:Inv X h_ σ H s)(g:Good F H)(h:ZL X.K F k a):(WQ X.prog X.w).is s.heap k a:=by
 refine ac λ_ c=>?_;obtain⟨vs,t,r⟩:=h;obtain⟨its,b,⟨o,h1,h2,n,h3⟩,_⟩:=I.tupR g t;refine c ?_;exact⟨o,_,n,h1,h2,h3,by simpa using rE I g r b⟩
end
section
variable{X:Cx}
noncomputable def HQ(da:Dat)(ds:List Dat)(its:List aj)(w:aj):Bool:=@decide (∃(i:Nat) (d:Dat),its[i]?=a_ w/\ds[i]?=a_ d/\og d da=c_) (mj _)
def DC(I:Inv X h_ σ H s)(g:Good F H){da:Dat}{ds:List Dat}{vs:List V}{its:List aj}(ss:eC 20 ds=c_)(r:cQ X.K F ds vs)(w:cR vs its){i:Nat}{d:Dat}{u:aj}(h1:its[i]?=a_ u)(h2:ds[i]?=a_ d):HQ da ds its u=og d da:=by
 have one:∀(j:Nat)d',its[j]?=a_ u->ds[j]?=a_ d'->d'=d:=λj d' c b=>by
  obtain⟨v,e1,e2⟩:=r.get h2;obtain⟨n,e,f⟩:=r.get b;obtain⟨o,k,m⟩:=w.get e1;obtain⟨p,a,h⟩:=w.get e;rw[h1]at k;cases k;rw[c]at a;cases a;have:=m.inj h;subst this;exact(x8 I g d d' (oG 20 _ (kU ss h2)) (oG 20 _ (kU ss b)) e2 f).symm
 by_cases hd:og d da=c_
 .rw[hd];exact@decide_eq_true _ (mj _) ⟨i,d,h1,h2,hd⟩
 .have:og d da=d_:=by simpa using hd
  rw[this];refine@decide_eq_false _ (mj _) λ⟨j,d',c,b,l⟩=>?_;rw[one j d' c b]at l;exact hd l
def yW(I:Inv X h_ σ H s)(g:Good F H)(ss:eC 20 ds=c_)(r:cQ X.K F ds vs)(w:cR vs its):its.any (HQ da ds its)=ds.any λy=>og y da:=by
 have hl:its.length=ds.length:=by rw[<-w.length,r.length]
 rw[kT,gG,gG];constructor
 .rintro⟨u,hu,h⟩;obtain⟨i,hi,e⟩:=jb hu;have a:=aa hi (ae hl);refine⟨_,br a,?_⟩;rwa[<-DC I g ss r w (by rw[af hi,e]) (af a)]
 .rintro⟨d,hd,h⟩;obtain⟨i,hi,e⟩:=jb hd;have a:=aa hi (ae hl.symm);refine⟨_,br a,?_⟩;rwa[DC I g ss r w (af a) (by rw[af hi,e])]
def DB(I:Inv X h_ σ H s)(g:Good F H)(A:cc)(B:A.units+20<dM)(sa:iA 20 da=c_)(ss:eC 20 ds=c_)(O:Rep X.K F da x)(Y:RelV x u)(r:cQ X.K F ds vs)(w:cR vs its) :
  ∀y∈its,Ga A s y u (HQ da ds its y):=λy c=>by
 obtain⟨i,hi,e⟩:=jb c;have a:i<ds.length:=aa hi (ae (by rw[<-w.length,r.length]));have h1:its[i]?=a_ y:=by simp_all
 have h2:=af a;rw[DC I g ss r w h1 h2];obtain⟨v,e1,e2⟩:=r.get h2;obtain⟨f,b,d⟩:=w.get e1;rw[h1]at b;cases b;exact(vq I g 20 A _ da B (kU ss h2) sa e2 O d Y).1
set_option tactic.hygienic true
def SG(O:X.A.units+21<dM):j9 X (compareOp .In) (gB X.K (qM .isin)):=λh_ s σ H x y v u Q I e f l=>by
 refine ac λ_ c=>?_;obtain⟨da,o,d,fr,h,F,g,i,j,k⟩:=l;obtain⟨b,hd,rfl,rfl⟩:=jY h;refine c ?_;cases o with
 |str z=>
   cases da with
   |str C=>
     cases hd;exact GY h_ s σ H x y v u Q I e f ⟨_,_,i,j,k _ F H (Step.refl g) rfl bu⟩
   |_=>cases hd
 |lst ds=>
   have a:(if iA 20 da && eC 20 ds then a_ (ds.any λy=>og y da)else b_)=a_ b:=by cases da<;>exact hd
   split at a
   .rename_i hs;rw[ag]at hs;cases a;obtain⟨p,vs,rfl,t,r⟩:=j;obtain rfl:u=.ref p:=f;obtain⟨its,w,pl,_⟩:=I.lstR g t;refine SeqAt.in_listAt (HQ da ds _) pl.isList (λy m=>DB I g _ (by omega) hs.1 hs.2 i e r w y (by simpa using m)) ⟨.bl _,H,I,rfl,?_⟩;rw[show its.toArray.any (HQ da ds _)=its.any (HQ da ds its) by simp,yW I g hs.2 r w];exact k _ F H (Step.refl g) rfl bu
   .cases a
 |tup ds=>
   have a:(if iA 20 da && eC 20 ds then a_ (ds.any λy=>og y da)else b_)=a_ b:=by cases da<;>exact hd
   split at a
   .rename_i hs;rw[ag]at hs;cases a;obtain⟨p,vs,rfl,t,r⟩:=j;obtain rfl:u=.ref p:=f;obtain⟨its,w,pl,_⟩:=I.tupR g t;refine SeqAt.in_tupleAt (HQ da ds _) pl (λy m=>DB I g _ (by omega) hs.1 hs.2 i e r w y (by simpa using m)) ⟨.bl _,H,I,rfl,?_⟩;rw[show its.toArray.any (HQ da ds _)=its.any (HQ da ds its) by simp,yW I g hs.2 r w];exact k _ F H (Step.refl g) rfl bu
   .cases a
 |dct ks ds=>
   have a:(rR da).map (λk=>(fN k ks ds).isSome)=a_ b:=by cases da<;>exact hd
   refine ac λ_ c=>?_;obtain⟨kk,hk,a⟩:=ee a;subst a;obtain⟨p,k_,rfl,B,rfl,n⟩:=j;obtain rfl:=mS hk i;obtain rfl:u=.ref p:=f
   refine c ?_;have e1:(fN kk (k_.map (·.1)) ds).isSome=(nX k_ kk).isSome:=by
    cases q:fN kk (k_.map _) ds with
    |none=>rw[rO q n];rfl
    |some d=>obtain⟨w,e2,_⟩:=o6 q n;rw[e2];rfl
   refine Zt I (sg.k (g.sub _ _ B)) e λs' I'=>⟨.bl _,H,I',rfl,?_⟩
   rw[<-e1];exact k _ F H (Step.refl g) rfl bu
 |_=>cases da<;>cases hd
def NS(B:X.A.units+21<dM):j9 X (compareOp .NotIn) (gB X.K (qM .nin)):=λh_ s σ H x y v u Q I f i c=>by
 refine ac λ_ e=>?_;obtain⟨da,j,d,fr,h,F,g,l,m,k⟩:=c;obtain⟨b,hd,rfl,rfl⟩:=jY h;refine e ?_;cases j with
 |lst ds=>
   have a:(if iA 20 da && eC 20 ds then a_ (!(ds.any λy=>og y da))else b_)=a_ b:=by cases da<;>exact hd
   split at a
   .rename_i hs;rw[ag]at hs;cases a;obtain⟨p,vs,rfl,t,r⟩:=m;obtain rfl:u=.ref p:=i;obtain⟨its,w,pl,_⟩:=I.lstR g t;refine SeqAt.notIn_listAt (HQ da ds _) pl.isList (λy n=>DB I g _ (by omega) hs.1 hs.2 l f r w y (by simpa using n)) ⟨.bl _,H,I,rfl,?_⟩;rw[show its.toArray.any (HQ da ds _)=its.any (HQ da ds its) by simp,yW I g hs.2 r w];exact k _ F H (Step.refl g) rfl bu
   .cases a
 |_=>cases da<;>cases hd
set_option tactic.hygienic false
end
def gM(K:Fg)(f:Dat->List Dat->g_):V->List V->Hp->VK->Prop:=λx xs H Q=>∃da ds d fr F,f da ds=a_ (d,fr)/\Good F H/\Rep K F da x/\cQ K F ds xs/\∀v F' H',Step F H F' H'->Rep K F' d v->(fr=c_->gu K H H' d v)->Q v H'
section
variable{X:Cx}
def wX(hs:∀da ds r,iN m da ds=a_ r->∃z,da=.str z):∀σ H Q,gE X.K C (.eU m xo xs) σ H Q->QS X.K "str" (gM X.K (iN m)) (gE X.K C xo) (gA X.K C xs) σ H Q:=λσ H Q f=>by
 refine ac λ_ x=>?_;obtain⟨ρ,d,fr,h,F,g,R,k⟩:=f;obtain⟨⟨da,i⟩,h1,h⟩:=ck h;obtain⟨ds,h2,h3⟩:=ck h;obtain⟨z,j⟩:=hs da ds _ h3;refine x ?_;refine⟨ρ,da,i,h1,F,g,R,λv F1 u a c _=>⟨?_,ρ,ds,h2,F1,a.good,R.mono a.ff,λvs l H2 b n=>⟨da,ds,d,fr,l,h3,b.good,c.mono b.ff,n,λw o p e s t=>k w o p ((a.trans b).trans e) s λq=>(t q).back (F:=F) (a.hh.trans b.hh)⟩⟩⟩;rw[j]at c;rw[c];exact rfl
def CZ(hs:∀da ds r,iN m da ds=a_ r->∃z,da=.str z):∀σ H Q,gE X.K C (.eU m xo []) σ H Q->VV X.K "str" (gM X.K (iN m)) (gE X.K C xo) σ H Q:=λσ H Q e=>by
 refine ac λ_ s=>?_;obtain⟨ρ,d,fr,h,F,g,R,k⟩:=e;obtain⟨⟨da,f⟩,h1,h⟩:=ck h;obtain⟨ds,h2,h3⟩:=ck h;cases h2;obtain⟨z,i⟩:=hs da [] _ h3;refine s ?_;refine⟨ρ,da,f,h1,F,g,R,λv F1 p a b _=>⟨?_,da,[],d,fr,F1,h3,a.good,b,rfl,λw j l c n o=>k w j l (a.trans c) n λq=>(o q).back (F:=F) a.hh⟩⟩;rw[i]at b;rw[b];exact rfl
def Ir(r:cQ X.K F [] vs)(w:cR vs us):us=[]:=by
 rw[r]at w;cases w;rfl
section
def oM(h:iN .startswith da ds=a_ r):∃x y i,da=.str x/\ds=[.str y,.int i]/\r=(.bl (gV x y i),d_):=by
 have h:Y3 da ds=a_ r:=h;unfold Y3 at h;split at h
 .cases h;exact⟨_,_,_,rfl,rfl,rfl⟩
 .cases h
def xd(h:iN .upper da ds=a_ r):∃x,da=.str x/\ds=[]/\iN .upper (.str x) []=a_ r:=by
 cases da with
 |str x=>
   cases ds with
   |nil=>exact⟨x,rfl,rfl,h⟩
   |cons d1 ds=>cases ds<;>cases d1<;>cases h
 |_=>cases ds<;>first|cases h|simp
set_option tactic.hygienic true
def AO(h:iN .join da ds=a_ r):∃x es,da=.str x/\ds=[.lst es]/\iN .join (.str x) [.lst es]=a_ r:=by
 cases da with
 |str x=>
   cases ds with
   |nil=>cases h
   |cons d1 ds=>
     cases ds with
     |nil=>
       cases d1 with
       |lst y=>exact⟨x,y,rfl,rfl,h⟩
       |_=>cases h
     |cons _ _=>cases d1<;>cases h
 |_=>cases ds<;>first|cases h|(rename_i d1 ds;cases ds<;>cases d1<;>cases h)
def MA(r:cQ X.K F [.str y,.int i] vs)(w:cR vs us):∃t u,us=[.str y t,.int i u]:=by
 obtain⟨v,q,rfl,a,d,e,rfl,b,c⟩:=r;rw[c,a,b]at w;obtain⟨f,g,rfl,⟨t,rfl⟩,⟨h,rfl⟩⟩:=vals2 w;exact⟨_,_,rfl⟩
def we:Pp X "str.startswith" (gM X.K (iN .startswith)):=λh_ s σ H x xs v us Q I b c a=>by
 refine ac λ_ l=>?_;obtain⟨da,ds,d,fr,F,h,g,e,f,k⟩:=a;obtain⟨x',y,i,rfl,rfl,h⟩:=oM h;cases h;refine l ?_;rw[e]at b;obtain⟨t,rfl⟩:=b;obtain⟨u,j,rfl⟩:=MA f c;exact SC.startswith3 ⟨.bl _,H,I,rfl,k _ F H (Step.refl g) rfl bu⟩
def Kb:Pp X "str.upper" (gM X.K (iN .upper)):=λh_ s σ H x xs v us Q I b c a=>by
 refine ac λ_ j=>?_;obtain⟨da,ds,d,fr,F,h,g,e,f,k⟩:=a;obtain⟨x',rfl,rfl,h⟩:=xd h;refine j ?_;simp only[iN,X7]at h;split at h
 .rename_i i;cases h;rw[e]at b;obtain⟨t,rfl⟩:=b;obtain rfl:=Ir f c;exact SCL.upper (aa i cy) λ_=>⟨.str _,H,I.tok _,⟨_,rfl⟩,k _ F H (Step.refl g) rfl bu⟩
 .cases h
theorem zO:∀{es:List Dat}{ys:List bc}{vs:List V}{us:List aj},uk es=a_ ys->cQ X.K F es vs->cR vs us->StrsAre us ys
 |[],ys,vs,us,h,r,w=>by
   cases h;rw[r]at w;cases w;exact .nil
 |d::es,ys,vs,us,h,r,w=>by
   cases d with
   |str x=>
     obtain⟨g,h1,h⟩:=ee h;cases h;obtain⟨v,q,rfl,a,b⟩:=r;rw[a]at w
     cases w with
     |cons c f=>
       obtain⟨t,rfl⟩:=c;exact .cons x t (zO h1 b f)
   |_=>cases h
def Od:Pp X "str.join" (gM X.K (iN .join)):=λh_ s σ H x xs v us Q I b c a=>by
 refine ac λ_ y=>?_;obtain⟨da,ds,d,fr,F,h,g,f,i,k⟩:=a;obtain⟨x',es,rfl,rfl,h⟩:=AO h;obtain⟨ys,h1,h⟩:=ck h;refine y ?_;split at h
 .rename_i j;cases h;rw[f]at b;obtain⟨t,rfl⟩:=b;obtain⟨w,q,e,⟨p,vs,e1,l,m⟩,n⟩:=i;rw[n]at e;subst e e1;obtain⟨u,rfl,o⟩:=vals1 c;obtain rfl:u=.ref p:=o;obtain⟨its,r,pl,_⟩:=I.lstR g l;exact join_list pl.isList (by simpa using zO h1 m r) (aa j cy) λt' k'=>⟨.str _,H,I.tok _,⟨_,rfl⟩,k _ F H (Step.refl g) rfl bu⟩
 .cases h
set_option tactic.hygienic false
end
end
section
variable{X:Cx}{es:List a9}
def gu.px{K:Fg}(hp:H p=b_):gu K H (L2.upd H p (.dK [])) (.dct [] []) (.ref p):=
 ⟨_,by simp,λa m=>by simp_all,p,[],[],rfl,cC,rfl,⟨rfl,rfl⟩,rfl⟩
def Ni:SE X C (.Dict [] [] pos) .px:=PE.imp JO λσ H Q a p hp=>by
 refine ac λ_ b=>?_;obtain⟨ρ,d,fr,h,F,g,R,k⟩:=a;cases h;refine b ?_;exact k _ _ _ (Step.alloc g hp) ⟨p,[],rfl,cC,rfl,rfl⟩ λ_=>.px hp
noncomputable def baseOk:a9->Bool
 |.Call (.Name _ _) [] [] _=>d_
 |_=>c_
def pe(h:baseOk o=c_):attributeBase o m env w=w:=by
 cases o with
 |Call f a k p=>
   cases f with
   |Name x q=>
     cases a with
     |nil=>
       cases k with
       |nil=>cases h
       |cons _ _=>rfl
     |cons _ _=>rfl
   |_=>rfl
 |_=>rfl
def CY(hs:∀da ds r,iN m da ds=a_ r->∃ks ws,da=.dct ks ws):∀σ H Q,gE X.K C (.eU m xo xs) σ H Q->QS X.K "dict" (gM X.K (iN m)) (gE X.K C xo) (gA X.K C xs) σ H Q:=λσ H Q i=>by
 refine ac λ_ z=>?_;obtain⟨ρ,d,fr,h,F,g,R,k⟩:=i;obtain⟨⟨da,j⟩,h1,h⟩:=ck h;obtain⟨ds,h2,h3⟩:=ck h;obtain⟨ks,ws,l⟩:=hs da ds _ h3;refine z ?_;refine⟨ρ,da,j,h1,F,g,R,λv F1 y b e _=>⟨?_,ρ,ds,h2,F1,b.good,R.mono b.ff,λvs n H2 c o=>⟨da,ds,d,fr,n,h3,c.good,e.mono c.ff,o,λw p s f t u=>k w p s ((b.trans c).trans f) t λq=>(u q).back (F:=F) (b.hh.trans c.hh)⟩⟩⟩;rw[l]at e;obtain⟨a,k_,rfl,x,_⟩:=e;exact .inr (.inr ⟨rfl,k_,b.good.sub _ _ x⟩)
def E3(h:iN .get da ds=a_ r):∃ks ws B O k,da=.dct ks ws/\ds=[B,O]/\rR B=a_ k/\r=((fN k ks ws).getD O,d_):=by
 have h:Tr da ds=a_ r:=h;unfold Tr at h;split at h
 .obtain⟨k,hk,rfl⟩:=ee h;exact⟨_,_,_,_,k,rfl,rfl,hk,rfl⟩
 .cases h
def Te(B:X.A.units+1<dM):Pp X "dict.get" (gM X.K (iN .get)):=λh_ s σ H x xs v us Q I j l a=>by
 refine ac λ_ e=>?_;obtain⟨da,ds,d,fr,F,h,g,m,n,k⟩:=a;obtain⟨ks,ws,C,D,kk,rfl,rfl,hk,o⟩:=E3 h;obtain⟨p,k_,rfl,r,rfl,f⟩:=m;obtain⟨E,G,rfl,t,J,L,i,w,y⟩:=n;refine e ?_;rw[y]at i;subst i;obtain rfl:=mS hk t;obtain⟨u,M,rfl,z,b⟩:=vals2 l;cases j;refine UK I (sg.k (g.sub _ _ r)) z b λN s' I' c=>⟨_,H,I',c,?_⟩
 cases o
 cases q:fN kk (k_.map _) ws with
 |none=>
   rw[q]at k;rw[rO q f];exact k _ F H (Step.refl g) w bu
 |some d1=>
   rw[q]at k;obtain⟨O,e1,e2⟩:=o6 q f;rw[e1];exact k _ F H (Step.refl g) e2 bu
def Wf{B:String}{ap cp:v7}(slot:HV "str" name B)(ty:typeOf (.builtin B)=pure (.type "method_descriptor"))(O:Pp X B (gM X.K (iN m)))(hs:∀da ds r,iN m da ds=a_ r->∃z,da=.str z)
  (ho:SE X C o xo)(ha:SA X C [e] [xa])(hb:baseOk o=c_)(hl:(ap.endLine == cp.line)=c_)(h1:aS [e] X.env=(d_,eval e X.env)::aS [] X.env):SE X C (.Call (.Attribute o name ap) [e] [] cp) (.eU m xo [xa]):=
 PE.imp (uL ni slot ty O ho ha (pe hb) (by rw[h1];rfl) hl h1 rfl) (wX hs)
def We{B:String}{ap cp:v7}(slot:HV "str" name B)(ty:typeOf (.builtin B)=pure (.type "method_descriptor"))(O:Pp X B (gM X.K (iN m)))(hs:∀da ds r,iN m da ds=a_ r->∃z,da=.str z)
  (ho:SE X C o xo)(ha:SA X C [e,e2] [xa,xb])(hb:baseOk o=c_)(hl:(ap.endLine == cp.line)=c_)(h1:aS [e,e2] X.env=(d_,eval e X.env)::aS [e2] X.env)(h2:aS [e2] X.env=[(d_,eval e2 X.env)]):SE X C (.Call (.Attribute o name ap) [e,e2] [] cp) (.eU m xo [xa,xb]):=
 PE.imp (uL ni slot ty O ho ha (pe hb) (by rw[h1,h2];rfl) hl h1 (by rw[h2];rfl)) (wX hs)
def Wg{B:String}{ap cp:v7}(slot:HV "str" name B)(ty:typeOf (.builtin B)=pure (.type "method_descriptor"))(O:Pp X B (gM X.K (iN m)))(hs:∀da ds r,iN m da ds=a_ r->∃z,da=.str z)
  (ho:SE X C o xo)(hb:baseOk o=c_)(hl:(ap.endLine == cp.line)=c_):SE X C (.Call (.Attribute o name ap) [] [] cp) (.eU m xo []):=
 PE.imp (Sm ni slot ty O ho (pe hb) hl) (CZ hs)
def RH{ap cp:v7}(B:X.A.units+1<dM)(ho:SE X C o xo)(ha:SA X C [e,e2] [xa,xb])(hb:baseOk o=c_)(hl:(ap.endLine == cp.line)=c_)(h1:aS [e,e2] X.env=(d_,eval e X.env)::aS [e2] X.env)(h2:aS [e2] X.env=[(d_,eval e2 X.env)]):SE X C (.Call (.Attribute o "get" ap) [e,e2] [] cp) (.eU .get xo [xa,xb]):=
 PE.imp (uL PySem.F.plainAttrs_dict zj PySem.F.type_dict_get (Te B) ho ha (pe hb) (by rw[h1,h2];rfl) hl h1 (by rw[h2];rfl)) (CY λda ds r h=>let ⟨ks,ws,_,_,_,q,_⟩:=E3 h;⟨ks,ws,q⟩)
noncomputable def UX(m:bc)(k:Nat):Option Yh:=
 if m="join"/\k=1 then a_ .join else if m="startswith"/\k=2 then a_ .startswith else if m="get"/\k=2 then a_ .get else if m="upper"/\k=0 then a_ .upper else b_
set_option tactic.hygienic true in
def O8{Y:Yh}{ap cp:v7}(Z:X.A.units+21<dM)(h:UX m es.length=a_ Y)(ho:SE X C o xo)(ha:SA X C es xs)(hlen:xs.length=es.length)(O:∀e,es=[e]->aS [e] X.env=(d_,eval e X.env)::aS [] X.env)(B:∀e e2,es=[e,e2]->aS [e,e2] X.env=(d_,eval e X.env)::aS [e2] X.env/\aS [e2] X.env=[(d_,eval e2 X.env)])(hb:baseOk o=c_)(hl:(ap.endLine == cp.line)=c_) :
  SE X C (.Call (.Attribute o m ap) es [] cp) (.eU Y xo xs):=by
 have one:es.length=1->∃e a,es=[e]/\xs=[a]:=λq=>by
  match es,xs,hlen,q with
  |[e],[a],_,_=>exact⟨e,a,rfl,rfl⟩
 have nil:es.length=0->es=[]/\xs=[]:=λq=>by
  grind
 unfold UX at h;split at h
 .rename_i q;refine ac λ_ c=>?_;cases h;obtain⟨rfl,q⟩:=q;obtain⟨e,a,rfl,rfl⟩:=one q;refine c ?_;exact Wf PySem.F.slot_str_join PySem.F.type_str_join Od (λ_ _ _ h=>let ⟨x,_,q,_⟩:=AO h;⟨x,q⟩) ho ha hb hl (O e rfl)
 split at h
 .rename_i q;cases h;obtain⟨rfl,q⟩:=q
  obtain⟨e,e2,a,b,rfl,rfl⟩:∃e e2 a b,es=[e,e2]/\xs=[a,b]:=by
   match es,xs,hlen,q with
   |[e,e2],[a,b],_,_=>exact⟨e,e2,a,b,rfl,rfl⟩
  exact We PySem.F.slot_str_startswith PySem.F.type_str_startswith we (λ_ _ _ h=>let ⟨x,_,_,q,_⟩:=oM h;⟨x,q⟩) ho ha hb hl (B e e2 rfl).1 (B e e2 rfl).2
 split at h
 .rename_i q;cases h;obtain⟨rfl,q⟩:=q
  obtain⟨e,e2,a,b,rfl,rfl⟩:∃e e2 a b,es=[e,e2]/\xs=[a,b]:=by
   match es,xs,hlen,q with
   |[e,e2],[a,b],_,_=>exact⟨e,e2,a,b,rfl,rfl⟩
  exact RH (aq (Gc Z) (by decide)) ho ha hb hl (B e e2 rfl).1 (B e e2 rfl).2
 split at h
 .rename_i q;cases h;obtain⟨rfl,q⟩:=q;obtain⟨rfl,rfl⟩:=nil q;exact Wg PySem.F.slot_str_upper PySem.F.type_str_upper Kb (λ_ _ _ h=>let ⟨x,q,_⟩:=xd h;⟨x,q⟩) ho hb hl
 .cases h
end
structure LO{α:Type}(lt:α->α->Bool):Prop where
 irr:∀x,lt x x=d_
 tr:∀x y z,lt x y=c_->lt y z=c_->lt x z=c_
 tot:∀x y,lt x y=d_->lt y x=d_->x=y
def LO.XG (o:LO lt)(h:lt x y=c_):lt y x=d_:=by
 cases q:lt y x with
 |false=>rfl
 |true=>have:=o.tr _ _ _ h q;rw[o.irr]at this;cases this
section
variable{α:Type}
set_option tactic.hygienic true
theorem uV(o:LO lt):∀{l:List α},z∈AR lt x l↔z=x\/z∈l
 |[]=>by simp[AR]
 |y::ys=>by
   unfold AR;split
   .rw[aw]
   .rename_i h1;split
    .rw[aw,uV o,aw];constructor
     .grind
     grind
    .rename_i h2;have:=o.tot x y (by simpa using h1) (by simpa using h2)
     simp_all
theorem jV(o:LO lt):∀{l:List α},z∈kJ lt l↔z∈l
 |[]=>LY
 |x::l=>by rw[kJ,uV o,jV o,aw]
theorem En(o:LO lt):∀{l:List α},l.Pairwise (λa b=>lt a b=c_)->(AR lt x l).Pairwise (λa b=>lt a b=c_)
 |[],_=>by simp[AR]
 |y::ys,h=>by
   obtain⟨h1,h2⟩:=eM.mp h;unfold AR;split
   .rename_i q;refine eM.mpr ⟨λz c=>?_,h⟩
    rcases aw.mp c with rfl|c
    .exact q
    .exact o.tr _ _ _ q (h1 z c)
   .split
    .rename_i q;refine eM.mpr ⟨λz c=>?_,En o h2⟩
     rcases(uV o).mp c with rfl|c
     .exact q
     .exact h1 z c
    .exact h
set_option tactic.hygienic false
theorem mR(o:LO lt):∀(l:List α),(kJ lt l).Pairwise (λa b=>lt a b=c_)
 |[]=>.nil
 |x::l=>En o (mR o l)
def qy(o:LO lt){l:List α}(h:l.Pairwise (λa b=>lt a b=c_)):l.Nodup:=h.imp λq e=>by subst e;rw[o.irr]at q;cases q
end
section
def MX{h':cg}{out:List aj}(I:Inv X h_ σ H s)(ex:∀b o,s.heap.get? b=a_ o->h'.get? b=a_ o)(hl:s.heap.objs.size<=l)(g:h'.get? l=a_ (seqObj "list" out.toArray e))(w:cR vs out)(B:vs.length<=aC) :
  Inv X h_ σ (upd H l (.lst vs)) { s with heap:=h',drawn:=d,toks:=tk }:=by
 have a:Inv X h_ σ (upd H l (.lst vs)) { s with heap:=h',toks:=tk }:=I.laid ex hl ⟨B,_,e,w,g⟩;exact⟨a.ok,a.os,a.bare,a.base,a.loc,a.cell,a.free,a.freeC,a.pin,a.hok,a.len⟩
end
def AG:LO vU:=⟨nF.ir,nF.tr,λx y h h'=>by
 by_cases e:x=y
 .exact e
 .have:=nF.co _ _ e h;simp_all⟩
theorem AJ:∀{ds:List Dat}{q:List Key},AK ds=a_ q->q.all sK=c_->(q.map iK).map Dat.int=ds
 |[],_,h,_=>by cases h;rfl
 |d::ds,_,h,a=>by
   obtain⟨k,hk,h⟩:=ck h;obtain⟨q,b,h⟩:=ee h;cases h;simp only[dH,ag]at a;rw[aB,aB,AJ b a.2]
   cases d with
   |int i=>cases hk;rfl
   |str x=>cases hk;cases a.1
   |_=>cases hk
def OV(h:YZ d=a_ x)(h3:s2 x<3):OU (s2 x) (c2 x)=d:=by
 cases d with
 |int i=>cases h;rfl
 |str y=>
   cases h;show Dat.str ⟨((y.cps.toList.map eO).map ub).toArray⟩=_;rw[eo,show(ub ∘ eO)=id from rfl,List.map_id]
 |tup es=>
   obtain⟨q,a,h⟩:=ee h;cases h;simp only[s2]at h3 ⊢;by_cases c:q.all sK=c_
   .rw[if_pos c];show Dat.tup ((q.map iK).map _)=_;rw[AJ a c]
   simp_all
 |_=>cases h
theorem Bn:∀{ds:List Dat}{k:List N2},Qb ds=a_ k->(∀n∈k.map s2,n<3)->sr OU (k.map s2) (k.map c2)=ds
 |[],_,h,_=>by cases h;rfl
 |d::ds,_,h,h3=>by
   obtain⟨x,a,h⟩:=ck h;obtain⟨q,b,h⟩:=ee h;cases h;rw[aB,aB,BS,OV a (h3 _ jv),Bn b λy c=>h3 y (ju _ c)]
theorem EH:∀{ds:List Dat}{q:List N2},Qb ds=a_ q->q.all sI=c_->(q.map VD).map Dat.int=ds
 |[],_,h,_=>by cases h;rfl
 |d::ds,_,h,a=>by
   obtain⟨k,hk,h⟩:=ck h;obtain⟨q,b,h⟩:=ee h;cases h;simp only[dH,ag]at a;rw[aB,aB,EH b a.2]
   cases d with
   |int i=>cases hk;rfl
   |str x=>cases hk;cases a.1
   |tup es=>
     obtain⟨e,c,hk⟩:=ee hk;cases hk;cases a.1
   |_=>cases hk
def OT(h:YU d=a_ x)(h3:Ap (sN x)=c_):UJ (sN x) (cN x)=d:=by
 cases d with
 |int i=>cases h;rfl
 |str y=>
   cases h;show Dat.str ⟨((y.cps.toList.map eO).map ub).toArray⟩=_;rw[eo,show(ub ∘ eO)=id from rfl,List.map_id]
 |tup es=>
   obtain⟨q,a,h⟩:=ee h;cases h;simp only[sN,cN]at h3 ⊢;by_cases c:q.all sI=c_
   .rw[if_pos c,if_pos c];show Dat.tup ((q.map VD).map _)=_;rw[EH a c]
   .rw[if_neg c]at h3;rw[if_neg c,if_neg c];show Dat.tup _=_;rw[Bn a (JU h3)]
 |_=>cases h
theorem FA:∀{ds:List Dat}{k:List NK},Vz ds=a_ k->(∀x∈k,Ap (sN x)=c_)->sr UJ (k.map sN) (k.map cN)=ds
 |[],_,h,_=>by cases h;rfl
 |d::ds,_,h,h3=>by
   obtain⟨x,a,h⟩:=ck h;obtain⟨q,b,h⟩:=ee h;cases h;rw[aB,aB,BS,OT a (h3 x jv),FA b λy c=>h3 y (ju _ c)]
def FC(h:S7 d=a_ k)(h3:∀x∈k,Ap (sN x)=c_):Bm (k.map sN) (codeN k)=d:=by
 cases d with
 |tup ds=>show Dat.tup _=_;rw[FA h h3]
 |_=>cases h
theorem uQ:∀{ds:List Dat}{kk:List (List NK)},uR ds=a_ kk->kk.length=ds.length/\∀i,i<ds.length->S7 (ds.getD i .non)=a_ (kk.getD i [])
 |[],_,h=>by cases h;exact⟨rfl,λi hi=>by cases hi⟩
 |d::ds,_,h=>by
   obtain⟨x,b,h⟩:=ck h;obtain⟨q,c,h⟩:=ee h;cases h;refine⟨by simp[(uQ c).1],λi hi=>?_⟩
   cases i with
   |zero=>exact b
   |succ i=>simpa using (uQ c).2 i (by simpa using hi)
theorem EV:∀{ds:List Dat}{q:List Key},AK ds=a_ q->kW ds=c_
 |[],_,_=>rfl
 |d::ds,_,h=>by
   obtain⟨k,hk,h⟩:=ck h;obtain⟨q,a,_⟩:=ee h;cases d<;>first|(cases hk;done)|simp[kW,im,(EV a)]
theorem J7:∀{ds:List Dat}{q:List N2},Qb ds=a_ q->kW ds=c_
 |[],_,_=>rfl
 |d::ds,_,h=>by
   obtain⟨k,hk,h⟩:=ck h;obtain⟨q,b,_⟩:=ee h;cases d with
   |tup es=>
     obtain⟨c,a,_⟩:=ee hk;simp[kW,im,(J7 b),EV a]
   |int _=>simp[kW,im,(J7 b)]
   |str _=>simp[kW,im,(J7 b)]
   |_=>cases hk
theorem J4:∀{ds:List Dat}{q:List NK},Vz ds=a_ q->kW ds=c_
 |[],_,_=>rfl
 |d::ds,_,h=>by
   obtain⟨k,hk,h⟩:=ck h;obtain⟨q,b,_⟩:=ee h;cases d with
   |tup es=>
     obtain⟨c,a,_⟩:=ee hk;simp[kW,im,(J4 b),J7 a]
   |int _=>simp[kW,im,(J4 b)]
   |str _=>simp[kW,im,(J4 b)]
   |_=>cases hk
def S6(h:S7 d=a_ q):im d=c_:=by
 cases d with
 |tup es=>simp[im,J4 h]
 |_=>cases h
theorem Ag{K:Fg}(r:cQ K F ds vs):∀{js:List Nat},(∀j∈js,j<ds.length)->cQ K F (js.map λj=>ds.getD j .non) (js.map λj=>vs.getD j .non)
 |[],_=>rfl
 |j::js,h=>by
   have a:=h j jv;obtain⟨v,e,q⟩:=r.get (af a);refine⟨vs.getD j _,_,rfl,?_,Ag r λi hi=>h i (ju _ hi)⟩
   simp_all
def Ac{kk:List (List NK)}(hsh:∀j,j<kk.length->(kk.getD j []).map sN=Gz kk)(h3:∀x∈Gz kk,Ap x=c_)(sl:Sel (λi=>kk.getD i []) kk.length js) :
  (js.map λj=>codeN (kk.getD j [])).Perm (kJ vU (kk.map codeN)):=by
 have d:∀j,j<kk.length->∀k∈kk.getD j [],Ap _=c_:=λj c k hk=>h3 _ (by rw[<-hsh j c];exact cU hk)
 have g:(js.map λj=>codeN (kk.getD j [])).Nodup:=by
  exact fT.mpr (kN (λ{a b}f mb h e=>h (code_inj ((hsh _ (sl.lt a f)).trans (hsh _ (sl.lt b mb)).symm) (d _ (sl.lt a f)) e)) (fT.mp sl.nd))
 rw[iX g (qy AG (mR AG _))];intro z;rw[jV AG,bQ,bQ];constructor
 .rintro⟨j,c,rfl⟩;have:=sl.lt j c;exact⟨_,by simp_all,rfl⟩
 .rintro⟨k,hk,rfl⟩;obtain⟨i,hi,rfl⟩:=dA.mp hk;obtain⟨j,c,e⟩:=bQ.mp (sl.all i hi);refine⟨j,c,?_⟩
  simp_all
noncomputable def adr:V->aK
 |.ref a=>a
 |_=>0
theorem zJ{B:Nat->aK}:∀(js:List Nat),cR (js.map λj=>V.ref (B j)) (js.map λj=>c7 (B j))
 |[]=>.nil
 |j::js=>.cons rfl (zJ js)
section
def Zh{h:cg}(hl:h.IsList l items):QD prog w h (.ref l) items.size (λi v=>items[i]?=a_ v):=by
 intro d f s1 Q1 sz ex k;have a :=hl.at λo e=>ex l o e;have lt:l<h.objs.size:=by obtain⟨o,e,_⟩:=hl;exact hl9 e
 refine n8 a (k _ _ _ (λg c=>Walks.list c _ l (bb (cM lt sz)) _) (λb hb=>?_) ⟨⟨_,aL _ rfl,rfl,rfl⟩,a.push _⟩)
 rcases aw.mp hb with z|z
 .exact .inl z
 .exact .inr (by simp_all)
end
section
variable{X:Cx}{vs:List V}{kk:List (List NK)}
abbrev Yc(vs:List V)(j:Nat):aK:=adr (vs.getD j .non)
noncomputable abbrev W3(kk:List (List NK))(j:Nat):List NK:=kk.getD j []
def k9(r:cQ X.K F ds vs)(hk:uR ds=a_ kk){j:Nat}(B:j<kk.length):vs.getD j .non=.ref (Yc vs j)/\ZL X.K F (W3 kk j) (Yc vs j):=by
 have b:j<ds.length:=aa B (ae (uQ hk).1);obtain⟨v,e,q⟩:=r.get (af b);have d:=(uQ hk).2 j b;rw[show ds.getD j _=ds[j] by simp[b]]at d;obtain⟨a,rfl,g⟩:=N7 d q;unfold Yc;rw[show vs.getD j _=.ref a by simp[e]];exact⟨rfl,g⟩
theorem E7(hk:uR ds=a_ kk):∀js:List Nat,(∀j∈js,j<kk.length)->kW (js.map λj=>ds.getD j Dat.non)=c_
 |[],_=>rfl
 |j::js,h=>by
   obtain⟨b,a⟩:=uQ hk;simp only[aB,kW,ag];exact⟨S6 (a j (aa (h j jv) (ae b))),E7 hk js λi hi=>h i (ju _ hi)⟩
def zY(o:GZ kk)(B:j<kk.length):(W3 kk j).map sN=Gz kk:=by
 simpa using (bB.mp o.2.2.1 _ (by simp_all))
def MW(room:X.A.units+8<dM)(I:Inv X h_ σ H s)(g:Good F H)(r:cQ X.K F ds vs)(hk:uR ds=a_ kk)(o:GZ kk)(hl:kk.length<=300)
  (hc:Vp X.prog X.w X.A s v (λus=>∃js,us=js.map (λj=>c7 (Yc vs j))/\Sel (W3 kk) kk.length js))
  (k:∀w F' H',Step F H F' H'->Rep X.K F' (.lst ((kJ vU (kk.map codeN)).map (Bm (Gz kk)))) w->(c_=c_->gu X.K H H' (.lst ((kJ vU (kk.map codeN)).map (Bm (Gz kk)))) w)->Q w H') :
  aG (aI X.prog X.w) X.A (call (.builtin "sorted") [v]) (EP X h_ σ Q) X.xe s:=by
 obtain⟨y,l⟩:=uQ hk;obtain⟨b,hb⟩:=mJ.mp o.1;have h3 :=λx D=>bB.mp o.2.1 x D;have m:∀j,j<kk.length->∀k∈W3 kk j,Ap _=c_:=λj c k hk=>h3 _ (by rw[<-zY o c];exact cU hk)
 have E:∀js,Sel _ _ js->js.length=(kJ vU (kk.map _)).length:=λjs sl=>by
  have:=(Ac (λj c=>zY o c) h3 sl).length_eq
  rwa [aA]at this
 refine sorted_N (by exact ig room) (λj c=>J2 I g (k9 r hk c).2) (λj c=>zY o c) h3 hb
  (λG J Q' e k'=>hc G J Q' e λn h1 d1 p x1 L z=>k' n h1 d1 p x1 L (by obtain⟨js,M,B⟩:=z;exact⟨js,M,B,by rw[E js B];exact o.2.2.2⟩)) λN d3 O t js e3 u i P sl pw=>?_
 have d :=I.hok.fresh i;refine⟨.ref t,_,MX I u i P (zJ js) (by rw[aA];exact aa sl.len (aa hl cy)),rfl,?_⟩
 have S:(kJ vU (kk.map codeN)).map (Bm (Gz kk))=js.map λj=>ds.getD j .non:=by
  rw[((List.Perm.eq_of_pairwise (λa b _ _ h h'=>AG.tot _ _ h' h) (pw.imp λq=>AG.XG q) ((mR AG _).imp λq=>AG.XG q) (Ac (λj c=>zY o c) h3 sl)).symm),eo];refine dq λj c=>?_;have f:=sl.lt j c;rw[<-zY o f];exact FC (l j (aa f (ae y))) (m j f)
 have C:=Ag r λj c=>(aa (sl.lt j c) (ae y))
 rw[(dq λj c=>(k9 r hk (sl.lt j c)).1.symm)];rw[S]at k;exact k _ _ _ (Step.alloc g d) ⟨t,_,rfl,.inl (.inl cC),C.mono (bO.upd (g.sub.free d))⟩ λ_=>.lst (bO.refl _) d (.ko g (E7 hk js sl.lt) C)
set_option tactic.hygienic true in
def IP(hh:X.A.handled=b_)(room:X.A.units+8<dM)(I:Inv X h_ σ H s)(g:Good F H)(t:mH X.K F l vs)(r:cQ X.K F ds vs)
  (hk:uR ds=a_ kk)(h2:wN kk=a_ (d,fr))(k:∀w F' H',Step F H F' H'->Rep X.K F' d w->(fr=c_->gu X.K H H' d w)->Q w H')
  (fin:∀S s2,aG (aI X.prog X.w) X.A (call (.builtin "sorted") [.ref S]) (EP X h_ σ Q) X.xe s2->Q1 (.ref S) s2):aG (aI X.prog X.w) X.A (call (.type "set") [.ref l]) Q1 E s:=by
 unfold wN at h2;split at h2
 .rename_i hb;cases h2;obtain⟨its,p,pl,N⟩:=I.lstR g t;obtain⟨a,C⟩:=uQ hk;have c:=r.length;have il:its.length=kk.length:=by exact aF (qV (ae p.length.symm) (ae c) (ae a.symm)) (qV (ae a) (ae c.symm) (ae p.length))
  have h:∀s2:ak,(∀b o,s.heap.get? b=a_ o->s2.heap.get? b=a_ o)->s2.TypeIs (.ref l) _:=λs2 ex=>by
   obtain⟨o,e1,e2,_⟩:=pl.isList;exact⟨o,ex _ _ e1,e2⟩
  have hsz:its.toArray.size=kk.length:=by simp_all
  have f:=Zh (prog:=X.prog) (w:=X.w) pl.isList;rw[hsz]at f;refine GB hh h PySem.F.sub_list_set PySem.F.sub_list_frozenset cy f (λi v x=>?_) (λj D=>J2 I g (k9 r hk D).2) hb.1 (by exact aD (aD (aD room))) λh' O y ex=>fin _ _ (MW room (I.kept ex) g r hk hb.2 hb.1 (λJ L Q' e k'=>Hq hh y hb.1 J L Q' e λm h1 d1 n x1 M z=>k' m h1 d1 n x1 M z) k)
  .have hi:i<kk.length:=by
    have:i<its.toArray.size:=by rcases cX.mp x with⟨q,_⟩;exact q
    simp_all
   obtain⟨u,G,B⟩:=p.get (af ((aa hi (aa (ae a) (ae c.symm)))));have e1:its[i]?=a_ v:=by simpa using x
   rw[G]at e1;cases e1;have:=(k9 r hk hi).1;rw[show vs.getD i _=vs[i]'(aa hi (aa (ae a) (ae c.symm))) by simp[show i<vs.length from(aa hi (aa (ae a) (ae c.symm)))]]at this;rwa[this]at B
 .cases h2
end
section
end
section
variable{X:Cx}
def Nf(Z:X.A.units+21<dM)(B:X.calm=c_)(hg:Gl X "sorted")(hm:X.mg "sorted"=b_)(O:Gl X "set")(Y:X.mg "set"=b_)(ha:SE X C a xa)
  (hs:aS [a] X.env=[(d_,eval a X.env)]) :
  SE X C (.Call (.Name "sorted" p) [.Call (.Name "set" p2) [a] [] pos2] [] pos) (.blt .sset [xa]):=by
 intro h_ s σ H Q I h;refine ac λ_ c=>?_;obtain⟨ρ,d,fr,h,F,g,R,k⟩:=h;obtain⟨ds,h1,h2⟩:=ck h;obtain⟨⟨da,J⟩,h3,h1⟩:=ck h1;cases h1;refine c ?_;refine eW (mD I hg hm (by decide +kernel:bootBuiltins _=a_ (.builtin "sorted")) (pC ?_ rfl rfl));show aG _ _ (spliced ((d_,eval (.Call (.Name _ p2) _ [] _) _)::backTo _ [])) _ _ s;refine qg ?_;refine eW (mD I O Y (by decide +kernel:bootBuiltins _=a_ (.type "set")) (de ?_ (by rw[hs];rfl) rfl));refine iR ((kP ha pS (by rw[hs];rfl)) _ h_ s σ H (λvs j=>∃F1,Step F H F1 j/\cQ _ F1 [da] vs) I ⟨ρ,_,(by simp_all),F,g,R,λvs F1 j b m=>⟨F1,b,m⟩⟩) λus s1 ⟨vs,j,o,x,F1,b,m⟩=>?_;refine ac λ_ c=>?_;obtain⟨v,w,rfl,n,e⟩:=m;cases e;obtain⟨u,rfl,y⟩:=vals1 x
 refine c ?_;cases da with
 |lst ds=>
   refine ac λ_ c=>?_;obtain⟨l,vs,rfl,t,D⟩:=n;cases y;obtain⟨kk,E,G⟩:=ck h2;refine c ?_;exact IP (I.ok.hd B) (ig Z) o b.good t D E G (λw F' H' st r f=>k w F' H' (b.trans st) r λz=>gu.back (F:=F1) b.hh (f z)) λS s2 q=>rk q
 |_=>simp only[jB,b1,Ph,LF,Pg,U9,bL,Ya,Va,Pf]at h2;cases h2
end
noncomputable def posK(k:Key):List Key->Option Nat
 |[]=>b_
 |j::ks=>if j=k then a_ 0 else(posK k ks).map (·+ 1)
def Tc(op:HS)(B:Dat)(ds:List Dat):Dat->Option Dat
 |.dct ks ws=>(rR B).bind λk=>(posK k ks).bind λj=>(ws[j]?).bind λe=>(jt op e ds).map λa=>.dct ks (ws.set j a)
 |_=>b_
def WT(op:HS)(i:Nat)(ρ:c8)(B:Dat)(ds:List Dat):g_->Option Out
 |some (d,c_)=>(Tc op B ds d).map λd'=>.nx (ρ.set i (a_ (d',c_)))
 |_=>b_
def Sx.VA(op:HS)(i:Nat)(ke:Ex)(es:List Ex):Sx:={ ex:=λC ρ=>(ba C ke (full ρ)).bind λy=>(nZ C es (full ρ)).bind λx=>if x.2=c_ then WT op i ρ y.1 x.1 (ρ[i]?).join else b_ }
theorem Ep:∀{k_:List (Key×V)}{j:Nat}{v:V},posK k (k_.map (·.1))=a_ j->(k_.map (·.2))[j]?=a_ v->nX k_ k=a_ v
 |[],_,_,h,_=>by cases h
 |p::r,j,v,h,e=>by
   simp only[aB,posK]at h;by_cases q:p.1=k
   .rw[if_pos q]at h;cases h;cases e;simp[nX,q]
   .rw[if_neg q]at h;obtain⟨j',h1,rfl⟩:=ee h;have:=Ep h1 e;unfold nX at this ⊢;rwa[List.find?_cons_of_neg (by simpa using q)]
section
variable{X:Cx}{K:Fg}
def Ws:R2:=λx y H Q=>∃a k_ k w,x=.ref a/\y=kV k/\H a=a_ (.dK k_)/\nX k_ k=a_ w/\Q w H
def T7(B:X.A.units+1<dM):Vi X Ws:=by
 intro value slice h_ s σ H x y v u Q I b c h hs;refine ac λ_ i=>?_;obtain⟨a,k_,k,w,rfl,rfl,d,e,q⟩:=h;cases b;refine i ?_;have dg:sg H a (kV k) (a_ w):=by rw[<-e];exact sg.k d
 exact Mh (sU I dg) vM.lookup (xt I dg c λg s' I' f=>⟨w,H,I',f,q⟩) hs
def cP.at (o:cP K H ds vs S)(hk:ds[k]?=a_ e) :
  ∃v B O Y,vs[k]?=a_ v/\jQ K H e v O/\S=B++(O++Y)/\cP K H (ds.take k) (vs.take k) B/\cP K H (ds.drop (k+1)) (vs.drop (k+1)) Y/\vs=vs.take k++v::vs.drop (k+1):=by
 obtain⟨B,i,d,c,rfl⟩:=o.take k;have a :=(aN.mp hk).1
 have hd:ds.drop k=e::ds.drop (k+1):=by
  rw[eF a]
  simp_all
 rw[hd]at c;refine ac λ_ h=>?_;obtain⟨v,r,O,Y,e1,f,g,rfl⟩:=c;refine h ?_;have b:k<vs.length:=by rwa[o.length]
 rw[(eF b)]at e1;refine ac λ_ h=>?_;obtain⟨rfl,rfl⟩:=gQ e1;refine h ?_;exact⟨_,B,O,Y,af b,f,rfl,d,g,by simp⟩
structure Chg(K:Fg)(H:Hp)(op:HS)(p l:aK)(d':Dat)(ws:List V)(S T:List aK)(ob':HO)(S':List aK):Prop where
 own:jQ K (upd H l ob') d' (.ref p) S'
 nd:S'.Nodup
 sub:∀a∈S',a∈S\/a∈T
def Oc{ws:List Dat}{T:List aK}(h1:op≠.ext)(h2:op≠.dput)(h0:op≠.seti)(B:bO H H')(Z:ws[j]?=a_ e)(O:jt op e ds=a_ e')(o:jQ K H (.dct ks ws) v S)(nd:S.Nodup)
  (a:cP K H' ds us T)(nt:T.Nodup)(dj:∀a∈S,a∉T):∃p k_ l xs Y ob' S',v=.ref p/\H p=a_ (.dK k_)/\k_.map (·.1)=ks/\(k_.map (·.2))[j]?=a_ (.ref l)/\H l=a_ (.lst xs)/\l∈S/\H' l=a_ Y/\yi op Y us=a_ ob'/\HD ob'/\Chg K H' op p l (.dct ks (ws.set j e')) us S T ob' S':=by
 refine ac λ_ q=>?_;obtain⟨p,k_,P,rfl,hp,rfl,os,rfl⟩:=o;obtain⟨D,i,A,k,E,C,rfl,G,I,J⟩:=os.at Z;have n:∃l xs,D=.ref l/\H l=a_ (.lst xs):=by
  cases e with
  |lst ls=>obtain⟨l,xs,S',rfl,hl,_⟩:=id C;exact⟨l,xs,rfl,hl⟩
  |dct ks ws=>cases op<;>first|exact absurd rfl h1|exact absurd rfl h2|exact absurd rfl h0|cases O
  |any=>cases op<;>first|exact absurd rfl h1|exact absurd rfl h2|cases O
  |_=>cases op<;>cases O
 obtain⟨l,xs,rfl,hl⟩:=n;have c:=aU.mp nd;have r:=iU c.2;have s:=iU r.2.1
 have d:∀a,a∈i\/a∈A\/a∈k->a∈p::(i++(A++k)):=λa m=>ju _ (by
  rcases m with m|m|m
  .exact au _ m
  .exact ai _ (au _ m)
  .exact ai _ (ai _ m))
 obtain⟨Q,Y,ob',S',ev,b,f,g,L,M,t,u⟩:=yk h1 h2 O (C.mono B) s.1 a nt λa m=>dj a (d a (.inr (.inl m)));cases ev
 refine q ?_;have h:∀us,H' l≠a_ (.tup us):=λus z=>by rw[f]at z;cases z;cases op<;>first|exact absurd rfl h1|exact absurd rfl h2|cases g
 have y:p≠l:=λz=>c.1 (z▸ai _ (au _ b));refine⟨p,k_,l,xs,Y,_,p::(i++(S'++k)),rfl,hp,rfl,E,hl,d l (.inr (.inl b)),f,g,L,⟨p,k_,_,rfl,(dR y).trans (B _ _ hp),rfl,?_,rfl⟩,?_,λa m=>?_⟩
 .have N:ws.set j e'=ws.take j++([e']++ws.drop (j+1)):=by
   rw[jD,if_pos (aN.mp Z).1];rfl
  rw[N];exact J.symm▸(((G.mono B).upd h _ (λm=>r.2.2 l m (au _ b))).append ((cP.one M).append ((I.mono B).upd h _ (λm=>s.2.2 l b m))))
 .refine aU.mpr ⟨λm=>?_,g8 r.1 (g8 t s.2.1 λa m m3=>?_) λa m m2=>?_⟩
  .rcases ax.mp m with m|m
   .exact c.1 (au _ m)
   .rcases ax.mp m with m|m
    .rcases u p m with z|z
     .exact c.1 (ai _ (au _ z))
     .exact dj p jv z
    .exact c.1 (ai _ (ai _ m))
  .grind
  grind
 grind
def Ka(h:pv C (.VA op i ke es) ρ=a_ out) :
  ∃B Y k ds ks ws j e O,ba C ke (full ρ)=a_ (B,Y)/\rR B=a_ k/\nZ C es (full ρ)=a_ (ds,c_)/\ρ[i]?=a_ (a_ (.dct ks ws,c_))/\posK k ks=a_ j/\ws[j]?=a_ e/\jt op e ds=a_ O/\out=.nx (ρ.set i (a_ (.dct ks (ws.set j O),c_))):=by
 refine ac λ_ m=>?_;obtain⟨⟨B,Y⟩,hk,h⟩:=ck h;obtain⟨⟨ds,al⟩,h3,h⟩:=ck h;refine m ?_;by_cases b:al=c_
 .subst b
  cases q:ρ[i]? with
  |none=>rw[q]at h;cases h
  |some z=>
    rw[q]at h
    match z,h with
    |some (d,c_),h=>
      obtain⟨d',a,h5⟩:=ee h
      cases d with
      |dct ks ws=>
        refine ac λ_ m=>?_;obtain⟨k,c,a⟩:=ck a;obtain⟨j,f,a⟩:=ck a;obtain⟨e,g,a⟩:=ck a;obtain⟨O,l,rfl⟩:=ee a;refine m ?_;exact⟨B,Y,k,ds,ks,ws,j,e,O,hk,c,h3,rfl,f,g,l,h5.symm⟩
      |_=>cases a
 .rw[if_neg b]at h;cases h
def J9(h1:op≠.ext)(h2:op≠.dput)(h0:op≠.seti){D:Ends}(h:gS K C (.VA op i ke es) D σ H) :
  ∃p,σ[i]?=a_ (a_ (.ref p))/\gE K C ke σ H λZ B=>∃k_ k l xs,Z=kV k/\B p=a_ (.dK k_)/\nX k_ k=a_ (.ref l)/\B l=a_ (.lst xs)/\gF K C es σ B λws H2=>∃Y ob',H2 l=a_ Y/\yi op Y ws=a_ ob'/\D.nx σ (upd H2 l ob'):=by
 refine ac λ_ X=>?_;obtain⟨Fz,H₀,F,ρ,out,h,R,I⟩:=h;obtain⟨J,L,k,ds,ks,ws,j,e,e',M,g,N,hi,P,t,c,rfl⟩:=Ka h;obtain⟨Ss,O⟩:=R.ow;obtain⟨v,e1,e2,e3,e4⟩:=O.own i _ hi;obtain⟨p,k_,S0,rfl,hp,n,os,eS⟩:=id e2;obtain⟨Q,sp,x⟩:=R.iV;refine X ?_;refine⟨p,e1,_,J,L,M,Q,x.step.good,x.full,λZ F1 B o S _=>?_⟩;obtain rfl:=mS g S;have b:=Step.shrink R.step.good sp o;have r:=R.moved b;have y:=O.moved b;obtain⟨U,S1,S2,S3,z,V,f3,f4,f5,f6⟩:=os.at t
 have s:∃l xs,U=.ref l/\H l=a_ (.lst xs):=by
  cases e with
  |lst ls=>obtain⟨l,xs,S',rfl,hl,_⟩:=id V;exact⟨l,xs,rfl,hl⟩
  |dct ks ws=>cases op<;>first|exact absurd rfl h1|exact absurd rfl h2|exact absurd rfl h0|cases c
  |any=>cases op<;>first|exact absurd rfl h1|exact absurd rfl h2|cases c
  |_=>cases op<;>cases c
 obtain⟨l,xs,rfl,hl⟩:=s;refine⟨k_,k,l,xs,rfl,b.hh _ _ hp,Ep (by rwa[n]) z,b.hh _ _ hl,yI r N λus F' H' T st ow W d=>?_⟩;have dj:∀a∈Ss i,a∉T:=λa m m2=>by
  obtain⟨u,f,_⟩:=e2.tD _ a m;have:=b.hh _ _ f;rw[(d a m2).1]at this;cases this
 refine ac λ_ X=>?_;obtain⟨p',A,l',xs',Y,ob',S',q1,E,q3,G,q5,q6,q7,q8,q9,ch⟩:=Oc h1 h2 h0 (b.hh.trans st.hh) t c e2 e3 ow W dj;cases q1;refine X ?_;rw[hp]at E;cases E;rw[z]at G;refine ac λ_ X=>?_;cases G;refine X ?_;refine⟨Y,_,q7,q8,I F' _ σ (b.ff.trans st.ff) ((r.moved st).mut (y.moved st) hi e1 q6 q9 ch.own ch.nd λa m=>?_)⟩
 rcases ch.sub a m with m|m
 .exact .inl m
 .refine .inr ⟨(d a m).2,(r.step.hh.free (d a m).1),λj d2 q m2=>?_⟩
  .obtain⟨w,_,g,_⟩:=y.own j d2 q;obtain⟨u,f,_⟩:=g.tD _ a m2;rw[(d a m).1]at f;cases f
def Ra{st:i4}(h1:op≠.ext)(h2:op≠.dput)(h3:op≠.seti)(O:∀l B ob' vs H Q,H l=a_ B->yi op B vs=a_ ob'->(∀u,Q u (upd H l ob'))->r (.ref l) vs H Q)
  (Y:PS X st (zL (QS X.K "list" r (IJ Ws (tm i) (gE X.K C ke)) (gF X.K C es)))):SS X C st (.VA op i ke es):=PS.imp Y λD σ H h=>by
 obtain⟨p,e1,g⟩:=J9 h1 h2 h3 h;refine⟨_,e1,lT g λm n s1 d=>?_⟩;refine ac λ_ o=>?_;obtain⟨k_,k,l,xs,rfl,a,b,c,e⟩:=d;refine o ?_;refine⟨p,k_,k,_,rfl,rfl,a,b,.inl ⟨rfl,xs,mH.of c⟩,?_⟩;refine ac λ_ o=>?_;obtain⟨ρ,ds,al,h,F,j,R,k⟩:=e;refine o ?_;exact⟨ρ,ds,al,h,F,j,R,λvs F' H' st r f=>let ⟨B,_,a,b,c⟩:=k vs F' H' st r f;O l B _ vs H' _ a b λ_=>c⟩
end
def Ta(op:HS)(ds:List Dat):Dat->Dat->Option Dat
 |.lst ws,.int k=>(pH ws.length k).bind λj=>(ws[j]?).bind λe=>(jt op e ds).map λa=>.lst (ws.set j a)
 |_,_=>b_
def Td(op:HS)(i:Nat)(ρ:c8)(B:Dat)(ds:List Dat):g_->Option Out
 |some (d,c_)=>(Ta op ds d B).map λd'=>.nx (ρ.set i (a_ (d',c_)))
 |_=>b_
def Sx.Oe(i:Nat)(ke xi xe:Ex):Sx:={ ex:=λC ρ=>(ba C xe (full ρ)).bind λx=>if im x.1=c_ then(ba C ke (full ρ)).bind λy=>(ba C xi (full ρ)).bind λz=>Td .seti i ρ y.1 [x.1,z.1] (ρ[i]?).join else b_ }
def Sx.Of(i:Nat)(ke xe:Ex):Sx:={ ex:=λC ρ=>(ba C ke (full ρ)).bind λy=>(ba C xe (full ρ)).bind λx=>if im x.1=c_ then Td .app i ρ y.1 [x.1] (ρ[i]?).join else b_ }
section
variable{K:Fg}
def EK(h:Td op i ρ kd ds (ρ[i]?).join=a_ out) :
  ∃ws k j e B,kd=.int k/\ρ[i]?=a_ (a_ (.lst ws,c_))/\pH ws.length k=a_ j/\ws[j]?=a_ e/\jt op e ds=a_ B/\out=.nx (ρ.set i (a_ (.lst (ws.set j B),c_))):=by
 cases q:ρ[i]? with
 |none=>rw[q]at h;cases h
 |some z=>
   rw[q]at h
   match z,h with
   |some (d,c_),h=>
     obtain⟨d',a,h5⟩:=ee h
     cases d with
     |lst ws=>
       cases kd with
       |int k=>
         refine ac λ_ g=>?_;obtain⟨j,b,a⟩:=ck a;obtain⟨e,c,a⟩:=ck a;obtain⟨B,f,rfl⟩:=ee a;refine g ?_;exact⟨ws,k,j,e,B,rfl,rfl,b,c,f,h5.symm⟩
       |_=>cases a
     |_=>cases a
def yn{ws:List Dat}(h1:op≠.ext)(h2:op≠.dput)(B:bO H H')(Y:ws[j]?=a_ e)(Z:jt op e ds=a_ e')(o:jQ K H (.lst ws) v S)(nd:S.Nodup)(a:cP K H' ds us []) :
  ∃p vs l O ob' S',v=.ref p/\H p=a_ (.lst vs)/\vs.length=ws.length/\vs[j]?=a_ (.ref l)/\l∈S/\H' l=a_ O/\yi op O us=a_ ob'/\HD ob'/\jQ K (upd H' l ob') (.lst (ws.set j e')) (.ref p) S'/\S'.Nodup/\∀a∈S',a∈S:=by
 refine ac λ_ q=>?_;obtain⟨p,vs,N,rfl,hp,os,rfl⟩:=o;obtain⟨P,g,y,h,A,D,rfl,F,G,I⟩:=os.at Y;have k:=aU.mp nd;have n:=iU k.2;have i:=iU n.2.1;obtain⟨l,O,ob',S',rfl,b,c,d,J,L,r,s⟩:=yk h1 h2 Z (D.mono B) i.1 a en λa _ m=>by cases m
 refine q ?_;have t :=λa m=>(s a m).elim id λz=>by cases z
 have f:∀us,H' l≠a_ (.tup us):=λus z=>by rw[c]at z;cases z;cases op<;>first|exact absurd rfl h1|exact absurd rfl h2|cases d
 have x:p≠l:=λz=>k.1 (z▸ai _ (au _ b))
 have sub:∀a∈g++(S'++h),a∈g++(y++h):=λa m=>by
  rcases ax.mp m with m|m
  .exact au _ m
  grind
 refine⟨p,vs,l,O,_,p::(g++(S'++h)),rfl,hp,os.length,A,ju _ (ai _ (au _ b)),c,d,J,⟨p,vs,_,rfl,(dR x).trans (B _ _ hp),?_,rfl⟩,?_,λa m=>?_⟩
 .have M:ws.set j e'=ws.take j++([e']++ws.drop (j+1)):=by
   rw[jD,if_pos (aN.mp Y).1];rfl
  rw[M];exact I.symm▸(((F.mono B).upd f _ (λm=>n.2.2 l m (au _ b))).append ((cP.one L).append ((G.mono B).upd f _ (λm=>i.2.2 l b m))))
 .exact aU.mpr ⟨λm=>k.1 (sub p m),g8 n.1 (g8 r i.2.1 λa m m3=>i.2.2 a (t a m) m3) λa m m2=>by
   grind⟩
 grind
def Rl.ask(R:Rl K Fz H₀ F H σ ρ)(h:ba C x (M.full ρ)=a_ (d,fr))
  (k:∀v F1 B,Step F H F1 B->(im d=c_->∀H2,bO B H2->jQ K H2 d v [])->(∀k,rR d=a_ k->v=kV k)->(∀i,d=.int i->v=.int i)->Q v B):gE K C x σ H Q:=by
 obtain⟨g,sp,f⟩:=R.iV;refine⟨_,d,fr,h,g,f.step.good,f.full,λv F1 B b c _=>k v _ B (Step.shrink R.step.good sp b) (λm H2 s2=>jQ.ko (λa o e=>s2 a o (b.good.sub a o e)) d m c) (λk q=>mS q c) λi q=>?_⟩;rwa[q]at c
set_option tactic.hygienic true
def Kc{D:Ends}(h:gS K C (.Oe i ke xi xe) D σ H) :
  gE K C xe σ H λv H1=>∃p,σ[i]?=a_ (a_ (.ref p))/\gE K C ke σ H1 λkv H2=>∃xs k l,kv=.int k/\H2 p=a_ (.lst xs)/\tF xs k=a_ (.ref l)/\gE K C xi σ H2 λY B=>∃Z ob',B l=a_ Z/\yi .seti Z [v,Y]=a_ ob'/\D.nx σ (upd B l ob'):=by
 refine ac λ_ P=>?_;obtain⟨Fz,H₀,F,ρ,out,h,R,J⟩:=h;obtain⟨⟨d,fd⟩,h1,h⟩:=ck h;refine P ?_;split at h
 .rename_i hd;refine ac λ_ P=>?_;obtain⟨⟨X,fk⟩,h2,h⟩:=ck h;obtain⟨⟨o,fz⟩,h3,h⟩:=ck h;obtain⟨ws,k,j,e,e',rfl,hi,L,y,g,rfl⟩:=EK h;refine P ?_;refine R.ask h1 λv F1 H1 c ow _ _=>?_;have z:=R.moved c;refine ac λ_ P=>?_;obtain⟨Ss,O⟩:=R.ow;obtain⟨v0,e1,e2,e3,e4⟩:=O.own i _ hi;obtain⟨p,xs,S0,rfl,hp,os,eS⟩:=id e2;refine P ?_;refine⟨p,e1,z.ask h2 λkv F2 H2 b _ _ hk=>?_⟩;have R2:=z.moved b;refine ac λ_ P=>?_;obtain⟨M,S1,S2,S3,A,E,f3,f4,f5,f6⟩:=os.at y
  have r:im o=c_:=by
   cases e with
   |lst ls=>
     cases o with
     |int n=>rfl
     |_=>cases g
   |dct ks ws=>
     obtain⟨kz,q,_⟩:=ck (g)
     cases o with
     |int n=>rfl
     |str n=>rfl
     |_=>cases q
   |_=>cases g
  have s:∃l,M=.ref l:=by
   cases e with
   |lst ls=>obtain⟨l,xs,S',rfl,hl,_⟩:=id E;exact⟨l,rfl⟩
   |dct ks ws=>obtain⟨l,xs,S',rfl,hl,_⟩:=id E;exact⟨l,rfl⟩
   |_=>cases g
  obtain⟨l,rfl⟩:=s;refine P ?_;refine⟨xs,k,l,hk k rfl,b.hh _ _ (c.hh _ _ hp),by unfold tF;rwa[os.length,L],R2.ask h3 λY N B f t hz hn=>?_⟩;refine ac λ_ P=>?_;obtain⟨p',Q,l',Z,ob',S',S,G,q3,I,T,U,V,W,u,w,x⟩:=yn (by simp) (by simp) ((c.hh.trans b.hh).trans f.hh) y g e2 e3 ⟨v,_,[],[],rfl,ow hd B (b.hh.trans f.hh),⟨Y,[],[],[],rfl,t r B (λ_ _ e=>e),⟨rfl,rfl⟩,rfl⟩,rfl⟩;cases S;refine P ?_;rw[hp]at G;cases G;rw[A]at I;refine ac λ_ P=>?_;cases I;refine P ?_;exact⟨Z,_,U,V,J N _ σ ((c.ff.trans b.ff).trans f.ff) ((R2.moved f).mut (((O.moved c).moved b).moved f) hi e1 T W u w λa m=>.inl (x a m))⟩
 .cases h
def Kd{D:Ends}(h:gS K C (.Of i ke xe) D σ H) :
  ∃p,σ[i]?=a_ (a_ (.ref p))/\gE K C ke σ H λZ B=>∃xs k l ys,Z=.int k/\mH K B p xs/\tF xs k=a_ (.ref l)/\B l=a_ (.lst ys)/\gE K C xe σ B λv H2=>∃Y ob',H2 l=a_ Y/\yi .app Y [v]=a_ ob'/\D.nx σ (upd H2 l ob'):=by
 refine ac fun Pq kq => ?_; obtain⟨Fz,H₀,F,ρ,out,h,R,x⟩:=h;obtain⟨⟨P,Q⟩,h1,h⟩:=ck h;obtain⟨⟨d,fd⟩,h2,h⟩:=ck h;refine kq ?_; split at h
 .rename_i hd;refine ac fun Pq kq => ?_; obtain⟨ws,k,j,e,S,rfl,hi,y,q,r,rfl⟩:=EK h;obtain⟨Ss,O⟩:=R.ow;obtain⟨T,e1,e2,e3,U⟩:=O.own i _ hi;obtain⟨p,xs,V,rfl,hp,os,W⟩:=id e2;refine kq ?_; refine⟨p,e1,R.ask h1 λZ F1 B b _ _ hk=>?_⟩;have s:=R.moved b;refine ac fun Pq kq => ?_; obtain⟨z,X,S2,S3,t,A,f3,f4,f5,f6⟩:=os.at q
  have f:∃l ys,z=.ref l/\H l=a_ (.lst ys):=by
   cases e with
   |lst ls=>obtain⟨l,ys,S',rfl,hl,_⟩:=id A;exact⟨l,ys,rfl,hl⟩
   |_=>cases r
  obtain⟨l,ys,rfl,hl⟩:=f;refine kq ?_; refine⟨xs,k,l,ys,hk k rfl,mH.of (b.hh _ _ hp),by unfold tF;rwa[os.length,y],b.hh _ _ hl,s.ask h2 λv E H2 c ow _ _=>?_⟩;refine ac fun Pq kq => ?_; obtain⟨p',G,l',Y,ob',S',I,u,q3,w,J,L,M,N,g,n,o⟩:=yn (by simp) (by simp) (b.hh.trans c.hh) q r e2 e3 ⟨v,[],[],[],rfl,ow hd H2 (λ_ _ e=>e),⟨rfl,rfl⟩,rfl⟩;cases I;refine kq ?_; rw[hp]at u;cases u;rw[t]at w;refine ac fun Pq kq => ?_; cases w;refine kq ?_; exact⟨Y,_,L,M,x E _ σ (b.ff.trans c.ff) ((s.moved c).mut ((O.moved b).moved c) hi e1 J N g n λa m=>.inl (o a m))⟩
 .cases h
def Rb{st:i4}(B:PS X st (zM (gE X.K C xe) (OI (IJ (GS X.K) (tm i) (gE X.K C ke)) (gE X.K C xi) (λo i v H Q=>Ak o i v H Q\/El o i v H Q)))):SS X C st (.Oe i ke xi xe):=PS.imp B λD σ H h=>by
 refine lT (Kc h) λv s s1 ⟨p,e1,g⟩=>⟨_,e1,lT g λt H2 s2 ⟨xs,k,l,e2,hp,ha,d⟩=>⟨p,xs,k,_,rfl,e2,mH.of hp,ha,lT d λy u s3 ⟨e,_,b,a,c⟩=>?_⟩⟩
 cases e with
 |lst ys=>
   cases y with
   |int n=>
     simp only[yi,G0]at a;split at a
     .obtain⟨w,f,m⟩:=ee a;cases m;obtain⟨j,q,rfl⟩:=ee f;exact .inl ⟨l,ys,n,j,rfl,rfl,b,q,c⟩
     .cases a
   |_=>cases a
 |dK k_=>
   obtain⟨n,hk,a⟩:=ck a;split at a
   .rename_i r;cases a;exact .inr ⟨l,k_,n,rfl,Dd hk,b,r,c⟩
   .cases a
 |_=>cases a
set_option tactic.hygienic false
def Rc{st:i4}(Y:∀l B ob' vs H Q,H l=a_ B->yi .app B vs=a_ ob'->(∀u,Q u (upd H l ob'))->r (.ref l) vs H Q)
  (Z:PS X st (zL (QS X.K "list" r (IJ (GS X.K) (tm i) (gE X.K C ke)) (λσ H Q=>gE X.K C xe σ H λv O=>Q [v] O)))):SS X C st (.Of i ke xe):=PS.imp Z λD σ H h=>by
 obtain⟨p,e1,g⟩:=Kd h;refine⟨_,e1,lT g λe O s1 ⟨xs,k,l,ys,e2,hp,ha,hl,a⟩=>⟨p,xs,k,_,rfl,e2,hp,ha,.inl ⟨rfl,ys,mH.of hl⟩,lT a λv H2 s2 ⟨B,_,b,c,d⟩=>Y l B _ _ H2 _ b c λ_=>d⟩⟩
end
section
variable{K:Fg}
def Tq.uz(nt:∀a∈S,∀vs,H a≠a_ (.tup vs))(t:Tq K H a vs):Tq K (uz H S) a vs:=by
 rcases t with t|t
 .exact .inl (by rwa[jr λm=>nt a m vs t])
 .exact .inr t
mutual
theorem jQ.uz(nt:∀a∈S,∀vs,H a≠a_ (.tup vs)):∀(d:Dat){v:V}{T:List aK},jQ K H d v T->(∀a∈T,a∉S)->jQ K (M.uz H S) d v T
 |.non,_,_,h,_=>h
 |.bl _,_,_,h,_=>h
 |.int _,_,_,h,_=>h
 |.str _,_,_,h,_=>h
 |.tup ds,_,_,⟨a,vs,e,t,r⟩,n=>⟨a,vs,e,t.uz nt,cP.uz nt ds r n⟩
 |.lst ds,_,_,c,n=>by
   obtain⟨a,vs,S',e,t,r,rfl⟩:=c;exact⟨a,vs,S',e,(jr (n a jv)).trans t,cP.uz nt ds r (λb m=>n b (ju _ m)),rfl⟩
 |.dct _ ds,_,_,c,n=>by
   obtain⟨a,k_,S',e,t,k,r,rfl⟩:=c;exact⟨a,k_,S',e,(jr (n a jv)).trans t,k,cP.uz nt ds r (λb m=>n b (ju _ m)),rfl⟩
 |.any,_,_,h,_=>h
theorem cP.uz(nt:∀a∈S,∀vs,H a≠a_ (.tup vs)):∀(ds:List Dat){vs:List V}{T:List aK},cP K H ds vs T->(∀a∈T,a∉S)->cP K (M.uz H S) ds vs T
 |[],_,_,h,_=>h
 |d::ds,_,_,b,n=>by
   obtain⟨v,r,c,f,e,h1,h2,q⟩:=b;subst q;exact⟨v,r,c,f,e,jQ.uz nt d h1 (λa m=>n a (au _ m)),cP.uz nt ds h2 (λa m=>n a (ai _ m)),rfl⟩
end
def VJ:bO (M.uz H S) H:=λa o e=>by
 by_cases m:a∈S
 .rw[sD m]at e;cases e
 .rwa [jr m]at e
def jQ.nt(o:jQ K H d v S):∀a∈S,∀vs,H a≠a_ (.tup vs):=λa m vs z=>by
 obtain⟨u,b,c⟩:=o.tD _ a m;rw[z]at b;cases b;exact c
end
def Vv(K:Fg)(n:Nat)(f:List Dat->g_):Sp:=λvs H Q _=>vs.length=n/\∃d ds e fr v us S F,vs=v::us/\f (d::ds)=a_ (e,fr)/\jQ K H d v S/\S.Nodup/\Good F H/\(∀a∈S,F a=b_)/\cQ K F ds us/\
 ∀F' H' S',Step F (uz H S) F' H'->jQ K H' e v S'->S'.Nodup->(∀a∈S',F' a=b_/\uz H S a=b_)->Q .non H'
noncomputable def AF:Nat:=2000
noncomputable def UB:Out->g_
 | .nx ρ=>match(ρ[0]?).join with
   |some (d,c_)=>a_ (d,c_)
   |_=>b_
 |_=>b_
def X9(C:Fs)(B O:Nat)(body:List Sx):List Dat->g_
 |d::ds=>if ds.length+1=B then(fh C body (a_ (d,c_)::(ds.map (λd=>a_ (d,d_))++bD (O - B) b_))).bind UB else b_
 |[]=>b_
def Ft{ds:List Dat}{m j:Nat}{d:Dat}{b:Bool}(q:(ds.map (λd=>a_ (d,d_))++bD m b_:c8)[j]?=a_ (a_ (d,b))):b=d_/\ds[j]?=a_ d:=by
 by_cases hi:j<ds.length
 .rw[aQ (by simpa using hi),aO]at q
  simp_all
 .rw[aJ (by simpa using hi),cx]at q;split at q<;>cases q
section
variable{K:Fg}{base:cg}
set_option tactic.hygienic true in
def Uq{st:i4}(F:XU K x qual st f fd)(S:pf N ps (cD st))(Y:ps.length<=N.length)
  (B:∀(cdv:aj)(A:cc)(outer:List LS)(s:ak)(H:Hp)(E:XK),lz k (A.deeper (envOfC qual (cD st) s.heap.objs.size f cdv))->
   yY (wo zg P w K mg base N qual (cD st) f cdv A outer s H E).P9 C (lU st) body):lE P w K mg base zg (k+1) f fd ps (Vv K ps.length (X9 C ps.length N.length body)):=by
 refine F.ok S (λvs H Q E h=>h.1) λcdv A outer s H vs Q E p h=>⟨_,B _ A _ s H E p,?_⟩
 refine ac λ_ V=>?_;obtain⟨hl,d,ds,e,fr,v,us,c,Fz,rfl,he,o,nd,g,t,r,u⟩:=h;refine V ?_;have he:(if ds.length+1=ps.length then _ else b_)=a_ _:=he;split at he
 .rename_i L;obtain⟨out,ho,he⟩:=ck he;have y:L2.start N (v::us)=a_ v::(us.map a_++bD _ b_):=rfl;refine⟨Fz,⟨uz H c,a_ v⟩,Fz,_,_,ho,⟨⟨g,bO.refl _,VJ,λ_ _ _ n=>n⟩,?_,λi d' q=>?_,λd' D q z=>?_,λi=>if i=0 then c else [],λi d' q=>?_,λi j d1 d2 G M T=>?_⟩,?_⟩
  .grind
  .cases i with
   |zero=>cases q
   |succ i=>
     obtain⟨w,e1,e2⟩:=r.get (Ft q).2;refine⟨w,?_,e2⟩;show(us.map a_++_)[i]?=_;rw[aQ (by simpa using ((aN.mp e1).1)),aO,e1];rfl
  .cases z;rfl
  .cases i with
   |zero=>cases q;exact⟨v,rfl,o,nd,λa m=>⟨t a m,sD m⟩⟩
   |succ i=>cases(Ft q).1
  .grind
  .cases out with
   |nx ρ'=>
     have h0:∃l,ρ'[0]?=a_ (a_ (l,c_))/\e=l:=by
      unfold UB at he;dsimp only at he
      cases q:ρ'[0]? with
      |none=>rw[q]at he;cases he
      |some z=>
        rw[q]at he
        match z,he with
        |some (d',c_),he=>grind
     obtain⟨_,h0,rfl⟩:=h0;intro F' H' I s' R;obtain⟨Ss,O⟩:=R.ow;obtain⟨D,e1,o',b,J⟩:=O.own 0 _ h0;have e2:=R.keep _ v h0 rfl;rw[e1]at e2;cases e2;exact u F' H' _ R.step o' b J
   |rt _ _=>cases he
   |bk _=>cases he
   |ct _=>cases he
 .cases he
end
section
variable{K:Fg}
def Rl.Zb(R:Rl K Fz H₀ F H σ ρ)(O:Ow K H₀.h F H σ ρ Ss)(hi:ρ[i]?=a_ (a_ (d,c_)))(B:σ[i]?=a_ (a_ v))
  (st:Step F (uz H (Ss i)) F' H')(o:jQ K H' e v S')(nd:S'.Nodup)(Y:∀a∈S',F' a=b_/\uz H (Ss i) a=b_):Rl K Fz H₀ F' H' σ (ρ.set i (a_ (e,c_))):=by
 obtain⟨w,e1,e2,e3,G⟩:=O.own i d hi
 have up:∀a u,H₀.h a=a_ u->uz H (Ss i) a=a_ u:=λa u q=>by
  rw[jr λm=>by simp_all];exact R.step.hh a u q
 have b:∀j d2,i≠j->ρ[j]?=a_ (a_ _)->∀a∈Ss j,∃u,uz H _ a=a_ u/\F a=b_:=λj d2 t q a m=>by
  refine ac λ_ I=>?_;obtain⟨_,_,l,_,x⟩:=O.own j d2 q;obtain⟨u,p,_⟩:=l.tD _ a m;refine I ?_;exact⟨u,by rwa[jr (O.sep j i d2 d (cj t) q hi a m)],(x a m).1⟩
 refine⟨⟨st.good,R.step.ff.trans st.ff,λa u q=>st.hh a u (up a u q),λa u q n=>st.un a u (up a u q) (R.step.un a u q n)⟩,by simpa using R.len,λj d2 q=>?_,λd2 A q=>?_,λj=>if j=i then S' else Ss j,λj d2 q=>?_,λj k d1 d2 r D C a m=>?_⟩
 .rcases dt q with⟨rfl,z⟩|⟨_,c⟩
  .cases z
  .obtain⟨w,y,l⟩:=R.val j d2 c;exact⟨w,y,l.mono st.ff⟩
 .rcases dt q with⟨rfl,_⟩|⟨_,c⟩
  .exact R.keep _ A hi
  .exact R.keep _ A c
 .rcases dt q with⟨rfl,z⟩|⟨f,c⟩
  .cases z;rw[if_pos rfl];refine⟨v,B,o,nd,λa m=>⟨(Y a m).1,?_⟩⟩
   cases q:H₀.h a with
   |none=>rfl
   |some u=>have:=up a u q;simp_all
  .rw[if_neg (cj f)];obtain⟨w,y,l,E,x⟩:=O.own j d2 c;refine⟨w,y,(l.uz e2.nt d2 λa m=>O.sep j i d2 d (cj f) c hi a m).mono st.hh,E,λa m=>⟨?_,(x a m).2⟩⟩;obtain⟨u,p,hf⟩:=b j d2 f c a m;exact st.un a u p hf
 .rcases dt D with⟨rfl,_⟩|⟨h1,s⟩
  .rcases dt C with⟨z,_⟩|⟨h2,g⟩
   .exact absurd z r
   .rw[if_neg (cj h2)];intro m2;obtain⟨u,p,_⟩:=b k d2 h2 g a m2
    simp_all
  .rw[if_neg (cj h1)]at m
   rcases dt C with⟨rfl,_⟩|⟨h2,g⟩
   .intro m2;obtain⟨u,p,_⟩:=b j d1 h1 s a m
    simp_all
   .rw[if_neg (cj h2)];exact O.sep j k d1 d2 r s g a m
def Rl.Nc(R:Rl K Fz H₀ F H σ ρ):Rl K Fz H₀ F H (σ.set t z) (ρ.set t b_):=by
 obtain⟨Ss,O⟩:=R.ow
 have ne:∀{j d b},(ρ.set t b_)[j]?=a_ (a_ (d,b))->t≠j/\ρ[j]?=a_ (a_ _):=λq=>by
  rcases dt q with⟨_,e⟩|z
  .cases e
  .exact z
 refine⟨R.step,by simpa using R.len,λj d' q=>?_,λd' c q h=>?_,Ss,λj d' q=>?_,λj k d1 d2 a f g=>O.sep j k d1 d2 a (ne f).2 (ne g).2⟩
 .rw[bP (ne q).1];exact R.val j d' (ne q).2
 .rw[bP (ne q).1];exact R.keep d' c (ne q).2 h
 .rw[bP (ne q).1];exact O.own j d' (ne q).2
end
noncomputable def Za(C:Fs)(j i:Nat)(ρ:c8)(ds:List Dat):g_->Option Out
 |some (d,c_)=>(C j (d::ds)).map λx=>.nx (ρ.set i (a_ (x.1,c_)))
 |_=>b_
def Sx.VB(j i:Nat)(es:List Ex):Sx:={ ex:=λC ρ=>(mF C es (xO (kK (B1 es) ρ))).bind λds=>Za C j i (kK (B1 es) ρ) ds ((kK (B1 es) ρ)[i]?).join }
section
variable{X:Cx}{K:Fg}
def Rf(G:lE X.prog X.w X.K X.mg X.base zg k f fd ps (Vv X.K n (C j)))(Z:lz k X.A)(hg:Gl X x)(hm:X.mg x=a_ (.ref f))(hk:fB X.K (.ref f)=c_)(hb:Binds X.K fd ps [])
  (hv:PE X e (tm i))(ha:SA X C es xs)(hn:xs.length+1=n)(B:(x == ("__debug__":bc))=d_)(he:aS (e::es) X.env=(d_,eval e X.env)::aS es X.env)(Y:(backTo cp (aS es X.env)).any (·.1)=d_) :
  SS X C (.Expr (.Call (.Name x p) (e::es) [] cp) pos) (.VB j i xs):=
 PS.imp (qt (Ew G Z hg hm hk hb .nil JQ (o5 hv ha he) B he Y) rfl) λD σ H l=>by
  refine ac λ_ M=>?_;obtain⟨Fz,H₀,F,ρ,out,h,R,r⟩:=l;obtain⟨ds,h1,h⟩:=ck h
  obtain⟨d,y,hi,s,rfl⟩:∃d y,(kK (B1 xs) ρ)[i]?=a_ (a_ _)/\C j _=a_ y/\out=.nx ((kK _ ρ).set i (a_ _)):=by
   cases q:(kK _ ρ)[i]? with
   |none=>rw[q]at h;cases h
   |some z=>
     rw[q]at h
     match z,h with
     |some (d,c_),h=>
       obtain⟨y,h2,h3⟩:=ee h;exact⟨d,y,rfl,h2,h3.symm⟩
  obtain⟨t,s2,R2⟩:=R.freeze _;obtain⟨Ss,O⟩:=R2.ow;obtain⟨v,e1,e2,e3,J⟩:=O.own i d hi;refine M ?_;refine⟨v,e1,_,ds,h1,t,R2.step.good,R2.xO,λvs F1 u b c=>?_⟩;have g:=O.moved b;obtain⟨_,_,L,_,E⟩:=g.own i d hi;show Vv _ n _ _ u _ _;rw[aE];exact ⟨by rw[bG,c.length,oQ h1,hn],d,ds,_,_,v,vs,_,F1,rfl,s,e2.mono b.hh,e3,b.good,λa m=>(E a m).1,c,λF' H' S' st o nd I=>r F' H' σ ((s2.trans b.ff).trans st.ff) ((R2.moved b).Zb g hi e1 st o nd I)⟩
end
def XI(C:Fs)(t i:Nat)(ρ:c8)(xi xe:Ex)(B:Dat):g_->Option Out
 | some (.lst ws,c_)=>match B with
   |.int k=>(pH ws.length k).bind λj=>(ws[j]?).bind λe=>(ba C xe ((full ρ).set t (a_ e))).bind λx=>if im x.1=c_ then(ba C xi ((full ρ).set t (a_ e))).bind λz=>
     (jt .seti e [x.1,z.1]).map λa=>.nx ((ρ.set i (a_ (.lst (ws.set j a),c_))).set t b_)else b_
   |_=>b_
 |_=>b_
def Sx.Yd(t i:Nat)(ke xi xe:Ex):Sx:={ ex:=λC ρ=>if t<ρ.length then(ba C ke (full ρ)).bind λy=>XI C t i ρ xi xe y.1 (ρ[i]?).join else b_ }
section
variable{K:Fg}
set_option tactic.hygienic true
def Pk(h:XI C t i ρ xi xe kd (ρ[i]?).join=a_ out) :
  ∃ws k j e x O z fz B,kd=.int k/\ρ[i]?=a_ (a_ (.lst ws,c_))/\pH ws.length k=a_ j/\ws[j]?=a_ e/\ba C xe ((full ρ).set t (a_ e))=a_ (x,O)/\im x=c_/\ba C xi ((full ρ).set t (a_ e))=a_ (z,fz)/\jt .seti e [x,z]=a_ B/\out=.nx ((ρ.set i (a_ (.lst (ws.set j B),c_))).set t b_):=by
 cases q:ρ[i]? with
 |none=>rw[q]at h;cases h
 |some z=>
   rw[q]at h
   match z,h with
   |some (.lst ws,c_),h=>
     cases kd with
     |int k=>
       refine ac λ_ l=>?_;obtain⟨j,a,h⟩:=ck h;obtain⟨e,b,h⟩:=ck h;obtain⟨⟨x,O⟩,c,h⟩:=ck h;refine l ?_;split at h
       .rename_i d;obtain⟨⟨z,fz⟩,f,h⟩:=ck h;obtain⟨B,g,h⟩:=ee h;exact⟨ws,k,j,e,x,O,z,fz,B,rfl,rfl,a,b,c,d,f,g,h.symm⟩
       .cases h
     |_=>cases h
def Rl.XH{Fz F H:Hp}{H₀:HZ}{σ:St}{ρ:c8}{i t j:Nat}{ws:List Dat}{e:Dat}{x:Ex}{d:Dat}{fr:Bool}{Q:VK}{p l:aK}{xs:List V}(R:Rl K Fz H₀ F H σ ρ)(hi:ρ[i]?=a_ (a_ (.lst ws,c_)))(Z:ws[j]?=a_ e)(Y:σ[i]?=a_ (a_ (.ref p)))(hp:H p=a_ (.lst xs))(hl:xs[j]?=a_ (.ref l))
  (h:ba C x ((M.full ρ).set t (a_ e))=a_ (d,fr))
  (k:∀v F1 B,Step F H F1 B->(im d=c_->∀H2,bO B H2->jQ K H2 d v [])->(∀k,rR d=a_ k->v=kV k)->(∀i,d=.int i->v=.int i)->Q v B):gE K C x (σ.set t (a_ (.ref l))) H Q:=by
 obtain⟨Ss,O⟩:=R.ow;obtain⟨I,e1,e2,e3,J⟩:=O.own i _ hi;rw[Y]at e1;refine ac λ_ A=>?_;cases e1;obtain⟨L,vs,N,ep,b,os,w⟩:=id e2;cases ep;refine A ?_;rw[hp]at b;refine ac λ_ A=>?_;cases b;obtain⟨P,S,T,U,g,y,z,_⟩:=os.at Z;refine A ?_;rw[hl]at g;cases g;have D:Rep K (fz F H (Ss i)) e _:=y.kK R.step.good e λa m=>by
  rw[w,z];exact ju _ (ai _ (au _ m))
 obtain⟨E,sp,n⟩:=((R.A7 O hi).xY D).iV
 have G:M.full ((ρ.modify i λo=>o.map λs=>(s.1,d_)).set t (a_ (e,d_)))=(M.full ρ).set t (a_ e):=by
  unfold M.full;rw[List.map_set]
  congr 1
  apply mM;intro m;rw[aO,aO,yo];by_cases r:i=m
  .rw[if_pos r]
   cases ρ[m]? with
   |none=>rfl
   |some o=>cases o<;>rfl
  .rw[if_neg r]
 have u:=n.full;rw[G]at u;refine⟨_,d,fr,h,E,n.step.good,u,λv F1 B c f _=>k v _ B (Step.shrink R.step.good ((oN R.step.good.sub).trans sp) c) (λm H2 s2=>jQ.ko (λa o e=>s2 a o (c.good.sub a o e)) d m f) (λk q=>mS q f) λi q=>?_⟩;rwa[q]at f
def MQ(h1:PS X B (zM (IJ (GS X.K) (tm i) (gE X.K C ke)) (kr t)))
  (h2:PS X st2 (zM (gE X.K C xe) (OI (tm t) (gE X.K C xi) (λo i v H Q=>Ak o i v H Q\/El o i v H Q))))(h3:yY X C sts xs):yY X C (B::st2::sts) (.Yd t i ke xi xe::xs):=
 zf.imp (uF h1 (uF h2 h3)) λD σ H S=>by
  refine ac fun Pq kq => ?_; obtain⟨Fz,H₀,F,ρ,out,h,R,T⟩:=S;obtain⟨o,ho,h⟩:=ck h;refine kq ?_; have ho:(if t<ρ.length then _ else b_)=a_ o:=ho;split at ho
  .rename_i r;refine ac fun Pq kq => ?_; obtain⟨⟨kd,fk⟩,g0,ho⟩:=ck ho;obtain⟨ws,k,j,e,x,fx,z,U,e',V,hi,W,d,Y,Z,g4,c,rfl⟩:=Pk ho;obtain⟨Ss,O⟩:=R.ow;obtain⟨v0,e1,e2,e3,e4⟩:=O.own i _ hi;obtain⟨p,vs,S0,rfl,hp,os,eS⟩:=id e2;obtain⟨vk,S1,S2,S3,f,L,f3,f4,f5,f6⟩:=os.at d
   have s:im z=c_:=by
    cases e with
    |lst ls=>
      cases z with
      |int n=>rfl
      |_=>cases c
    |dct ks ws=>
      obtain⟨kz,q,_⟩:=ck (c)
      cases z with
      |int n=>rfl
      |str n=>rfl
      |_=>cases q
    |_=>cases c
   have u:∃l,vk=.ref l:=by
    cases e with
    |lst ls=>obtain⟨l,xs,S',rfl,hl,_⟩:=id L;exact⟨l,rfl⟩
    |dct ks ws=>obtain⟨l,xs,S',rfl,hl,_⟩:=id L;exact⟨l,rfl⟩
    |_=>cases c
   obtain⟨l,rfl⟩:=u;refine kq ?_; refine⟨_,e1,R.ask g0 λkv F1 H1 s1 _ _ hk=>⟨p,vs,k,_,rfl,hk k V,mH.of (s1.hh _ _ hp),by unfold tF;rwa[os.length,W],?_⟩⟩;have M:=R.moved s1;refine M.XH hi d e1 (s1.hh _ _ hp) f Y λv F2 H2 s2 ow _ _=>?_;have R2:=M.moved s2;refine⟨_,eA (by rwa[R.len]),R2.XH hi d e1 (s2.hh _ _ (s1.hh _ _ hp)) f g4 λw F3 y s3 A _ _=>?_⟩;have sm:=(s1.hh.trans s2.hh).trans s3.hh;refine ac fun Pq kq => ?_; obtain⟨p',vs',l',ob,ob',S',q1,N,q3,g,E,P,b,q9,G,I,J⟩:=yn (by simp) (by simp) sm d c e2 e3 ⟨v,_,[],[],rfl,ow Z y (s3.hh),⟨w,[],[],[],rfl,A s y (λ_ _ e=>e),⟨rfl,rfl⟩,rfl⟩,rfl⟩;cases q1;refine kq ?_; rw[hp]at N;cases N;rw[f]at g;cases g;have fin:Zo _ C xs D (σ.set t (a_ (.ref l))) (upd y l _):=⟨Fz,_,F3,_,_,h,((R2.moved s3).mut (((O.moved s1).moved s2).moved s3) hi e1 E q9 G I λa m=>.inl (J a m)).Nc,T.mono ((s1.ff.trans s2.ff).trans s3.ff)⟩
   cases ob with
   |lst ys=>
     cases w with
     |int n=>
       simp only[yi,G0]at b;split at b
       .obtain⟨zs,g,q5⟩:=ee b;cases q5;obtain⟨j,E,rfl⟩:=ee g;exact .inl ⟨l,ys,n,j,rfl,rfl,P,E,fin⟩
       .cases b
     |_=>cases b
   |dK k_=>
     obtain⟨n,hk,b⟩:=ck b;split at b
     .rename_i hz;cases b;exact .inr ⟨l,k_,n,rfl,Dd hk,P,hz,fin⟩
     .cases b
   |_=>cases b
  .cases ho
set_option tactic.hygienic false
end
def Xk(C:Fs)(one:Bool)(B:List Nat)(body:List Sx)(i:Nat)(ρ:c8)(O:Dat):g_->Option Out
 | some (.lst ws,c_)=>match O with
   | .int k=>(pH ws.length k).bind λj=>match ws[j]? with
     |some (.lst es)=>iO (eR one B) (fh C body) es (ρ.set i (a_ (.lst (ws.set j .any),c_)))
     |_=>b_
   |_=>b_
 |_=>b_
def Sx.Us(one:Bool)(B:List Nat)(i:Nat)(ke:Ex)(body:List Sx):Sx:={ ex:=λC ρ=>(ba C ke (full ρ)).bind λy=>Xk C one B body i ρ y.1 (ρ[i]?).join }
def OM(h:Xk C one ts body i ρ kd (ρ[i]?).join=a_ out) :
  ∃ws k j es,kd=.int k/\ρ[i]?=a_ (a_ (.lst ws,c_))/\pH ws.length k=a_ j/\ws[j]?=a_ (.lst es)/\iO (eR one ts) (fh C body) es (ρ.set i (a_ (.lst (ws.set j .any),c_)))=a_ out:=by
 cases q:ρ[i]? with
 |none=>rw[q]at h;cases h
 |some z=>
   rw[q]at h
   match z,h with
   |some (.lst ws,c_),h=>
     cases kd with
     |int k=>
       obtain⟨j,b,h⟩:=ck h
       cases a:ws[j]? with
       |none=>rw[a]at h;cases h
       |some e=>
         rw[a]at h
         cases e with
         |lst es=>exact⟨ws,k,j,es,rfl,rfl,b,a,h⟩
         |_=>cases h
     |_=>cases h
section
variable{K:Fg}
def Rl.part{ws:List Dat}(R:Rl K Fz H₀ F H σ ρ)(hi:ρ[i]?=a_ (a_ (.lst ws,c_)))(Y:ws[j]?=a_ e)(B:σ[i]?=a_ (a_ (.ref p))) :
  ∃v vs F',H p=a_ (.lst vs)/\vs.length=ws.length/\vs[j]?=a_ v/\bO F F'/\Rep K F' e v/\Rl K Fz H₀ F' H σ (ρ.set i (a_ (.lst (ws.set j .any),c_))):=by
 refine ac fun Pq kq => ?_; obtain⟨Ss,O⟩:=R.ow;obtain⟨X,e1,e2,e3,E⟩:=O.own i _ hi;refine kq ?_; rw[B]at e1;refine ac fun Pq kq => ?_; cases e1;obtain⟨Z,vs,S0,ep,hp,os,t⟩:=id e2;cases ep;obtain⟨v,u,r,x,N,P,rfl,Q,S,T⟩:=os.at Y;refine kq ?_; have G:∀a∈r,a∈Ss i:=λa m=>by rw[t];grind
 rw[t]at e3;have y:=aU.mp e3;have s:=iU y.2;have I:=iU s.2.1
 have b:∀a∈p::(u++x),a∈Ss i/\a∉r:=λa m=>by
  rw[t]
  rcases aw.mp m with rfl|m
  .exact⟨jv,λz=>y.1 (ai _ (au _ z))⟩
  .rcases ax.mp m with m|m
   .exact⟨ju _ (au _ m),λz=>s.2.2 a m (au _ z)⟩
   .exact⟨ju _ (ai _ (ai _ m)),λz=>I.2.2 a z m⟩
 have A:bO F (fz F H r):=oN R.step.good.sub;refine⟨v,vs,_,hp,os.length,N,A,P.kK R.step.good _ λa m=>m,⟨tY R.step.good,R.step.ff.trans A,R.step.hh,λa o q n=>?_⟩,by simpa using R.len,λj' d' q=>?_,λd' J q=>?_,λj'=>if j'=i then p::(u++x)else Ss j',λj' d' q=>?_,λj' k d1 d2 c U L a m=>?_⟩
 .rw[nH λm=>?_]
  .exact R.step.un a o q n
  .rw[(E a (G a m)).2]at q;cases q
 .rcases dt q with⟨rfl,z⟩|⟨_,g⟩
  .cases z
  .obtain⟨w,C,D⟩:=R.val j' d' g;exact⟨w,C,D.mono A⟩
 .rcases dt q with⟨rfl,z⟩|⟨_,g⟩
  .exact R.keep _ J hi
  .exact R.keep _ J g
 .rcases dt q with⟨rfl,z⟩|⟨h,g⟩
  .cases z;rw[if_pos rfl];refine⟨_,B,⟨p,vs,_,rfl,hp,?_,rfl⟩,aU.mpr ⟨λz=>y.1 ?_,g8 s.1 I.2.1 λa m z=>s.2.2 a m (ai _ z)⟩,λa m=>?_⟩
   .have V:ws.set j .any=ws.take j++([.any]++ws.drop (j+1)):=by
     rw[jD,if_pos (aN.mp Y).1];rfl
    rw[V];exact T.symm▸Q.append ((cP.one (d:=.any) rfl).append S)
   .grind
   .rw[nH (b a m).2];exact E a (b a m).1
  .rw[if_neg (cj h)];obtain⟨w,C,D,W,M⟩:=O.own j' d' g;refine⟨w,C,D,W,λa m=>⟨?_,(M a m).2⟩⟩;rw[nH λz=>O.sep j' i d' _ (cj h) g hi a m (G a z)];exact(M a m).1
 .rcases dt U with⟨rfl,_⟩|⟨h1,l⟩
  .rw[if_pos rfl]at m
   rcases dt L with⟨z,_⟩|⟨h2,f⟩
   .exact absurd z c
   .rw[if_neg (cj h2)];exact O.sep _ k _ d2 c hi f a (b a m).1
  .rw[if_neg (cj h1)]at m
   rcases dt L with⟨rfl,_⟩|⟨h2,f⟩
   .rw[if_pos rfl];exact λz=>O.sep j' _ d1 _ c l hi a m (b a z).1
   .rw[if_neg (cj h2)];exact O.sep j' k d1 d2 c l f a m
end
section
variable{X:Cx}
def Rg{iter:a9}(hp:pk (aI X.prog X.w) X.A X.env X.xe)(hc:X.calm=c_)(he:PE X iter (IJ (GS X.K) (tm i) (gE X.K C ke)))(Y:PG X tg g)(B:QA X.K one ts g)(hb:yY X C body xs)
  (hs:∀x,foldedSetIterable iter X.env x=pure x):SS X C (.For tg iter body [] pos) (.Us one ts i ke xs):=
 PS.imp (CJ hp hc (yg he) Y hb hs) λD σ H c=>by
  refine ac λ_ N=>?_;obtain⟨Fz,H₀,F,ρ,out,h,R,k⟩:=c;obtain⟨⟨G,I⟩,h1,h⟩:=ck h;obtain⟨ws,n,j,es,d,hi,e,f,h⟩:=OM h;obtain⟨Ss,O⟩:=R.ow;obtain⟨J,e1,e2,_⟩:=O.own i _ hi;obtain⟨p,vs,_,rfl,m,os,_⟩:=id e2;refine N ?_;refine⟨_,e1,R.ask h1 λL F1 M a _ _ hk=>?_⟩;refine ac λ_ N=>?_;obtain⟨v,us,o,q,r,u,y,z,b⟩:=(R.moved a).part hi f e1;obtain⟨l,ys,rfl,t,E⟩:=id z;refine N ?_;refine⟨p,us,n,_,rfl,hk n d,mH.of q,by unfold tF;rwa[r,e],l,rfl,⟨ys,b.step.good.sub.seq t⟩,oI B (a.ff.trans y) b (λo s=>s) (rS t E) h k⟩
end
end M
namespace L2
open PySem PySem.Spec PyProof.Rows
section
variable{A:cc}{s:ak}
def CF(O:p≠I)(ht:nj s.heap p its)(hh:A.handled=b_)(Y:its.size<=aC)(y:s.heap.get? I=a_ (Js p ((its.size:Int) - 1)))
  (k:∀(h':cg)Z B,s.heap.objs.size<h'.objs.size->(∀b o,b≠I->s.heap.get? b=a_ o->h'.get? b=a_ o)->BP (λi v=>its[its.size - 1 - i]?=a_ v) B its.size->Q B.toList { s with heap:=h',toks:=Z }):aG (aI prog w) A (collect (.ref I)) Q E s:=by
 have W:=Jq (prog:=prog) (w:=w) (A:=A.in1) hh Y O;have st:∀h0:cg,(∀b o,s.heap.get? b=a_ o->h0.get? b=a_ o)->Wj I p _ 0 h0:=λh0 ex=>⟨aT _,by simpa using ex _ _ y,IsTup.tW ht λo e=>ex _ _ e⟩
 refine vy  (D:=λd R=>d=s.drawn/\R=λi v=>its[its.size - 1 - i]?=a_ v) (nR y) cy cy Y (λh0 ex lt c=>W.self 0 _ _ _ (st h0 ex) (c h0 _ I _ _ _ W (st h0 ex) (λz=>?_) (λb o n _=>n) (λ_ _ e=>e) ⟨rfl,rfl⟩))
  (λh1 d ex c=>Nr (st h1 ex).2.2 Y (ex _ _ y) (c _)) λh1 d Z B R ⟨e1,e2⟩ sz kp a=>?_
 .obtain⟨o,e,_⟩:=ht
  rcases aw.mp z with z|z
  .exact absurd (hl9 y) (z▸bx _)
  .exact absurd (hl9 e) (az.mp z▸bx _)
 .subst e1 e2;exact k h1 Z B sz kp a
end
def x6(I p:aK)(its:Array aj)(O:p≠I)(Z:its.size<=aC):Meets (gC.«tuple.__new__» ⟨[.type "tuple",.ref I],[]⟩) (λA R s=>A.handled=b_/\nj s.heap p its/\s.heap.get? I=a_ (Js p ((its.size:Int) - 1))/\
  ∀(h':cg)Y B,s.heap.objs.size<h'.objs.size->(∀b o,b≠I->s.heap.get? b=a_ o->h'.get? b=a_ o)->BP (λi v=>its[its.size - 1 - i]?=a_ v) B its.size->R (.ok (.ret (.ref h'.objs.size))) { s with heap:=h'.push { cls:=.type "tuple",data:=.seq B },toks:=Y }):=
 .of_wp λprog w A R s f=>by
  obtain⟨hh,ht,y,k⟩:=f;have e:=sub_tuple_self;have c:=init_tuple_lookup;have g:=madeHere_tuple;have d:A.in1.handled=b_:=hh
  wp_walk using kB hT,CF O ht d Z y
  intro h' Y B hl kp a;show aG _ _ (Builtin.Tuple.tupleExact _ >>= λv=>ret v) ..;exact wb9 (dJ (wu9 ⟨_,rfl,k h' Y B hl kp a⟩) (by show B.size<=aC;rwa[a.1]))
section
variable{A:cc}{s:ak}
def Jr(O:p≠I)(ht:nj s.heap p its)(hh:A.handled=b_)(Z:its.size<=aC)(y:s.heap.get? I=a_ (Js p ((its.size:Int) - 1)))
  (k:∀(h':cg)Y B,s.heap.objs.size<h'.objs.size->(∀b o,b≠I->s.heap.get? b=a_ o->h'.get? b=a_ o)->BP (λi v=>its[its.size - 1 - i]?=a_ v) B its.size->Q (.ref h'.objs.size) { s with heap:=h'.push { cls:=.type "tuple",data:=.seq B },toks:=Y }) :
  aG (aI prog w) A (call (.type "tuple") [.ref I]) Q E s:=by
 exact vY PySem.F.called_tuple (by decide) (PySem.F.typeCall_tuple_1 _) (PySem.F.newCall_tuple_1 _) (λc=>kX c _) PySem.F.entry_tuple_new (x6 I p _ O Z) (⟨hh,ht,y,λh' Y B hl kp a=>⟨⟨_,aL _ rfl,rfl⟩,k h' Y B hl kp a⟩⟩)
end
end L2
namespace M
open PySem PySem.Spec PyProof.Rows L2
section
variable{X:Cx}
set_option tactic.hygienic true in
def GD(B:X.calm=c_)(Z:Gl X "tuple")(hm:X.mg "tuple"=b_)(O:Gl X "reversed")(Y:X.mg "reversed"=b_)(ha:SE X C a xa)
  (hs:aS [a] X.env=[(d_,eval a X.env)])(hs2:aS [.Call (.Name "reversed" p2) [a] [] pos2] X.env=[(d_,eval (.Call (.Name "reversed" p2) [a] [] pos2) X.env)]) :
  SE X C (.Call (.Name "tuple" p) [.Call (.Name "reversed" p2) [a] [] pos2] [] pos) (.blt .tuprev [xa]):=by
 intro h_ s σ H Q I h;refine ac λ_ i=>?_;obtain⟨ρ,d,fr,h,F,g,R,k⟩:=h;obtain⟨ds,h1,h2⟩:=ck h;obtain⟨⟨da,T⟩,h3,h1⟩:=ck h1;cases h1;refine i ?_;refine eW (mD I Z hm (by decide +kernel:bootBuiltins _=a_ (.type "tuple")) (de ?_ (by rfl) rfl));refine qg ?_;refine eW (mD I O Y (by decide +kernel:bootBuiltins _=a_ (.type "reversed")) (de ?_ (by rw[hs];rfl) rfl));refine iR ((kP ha pS (by rw[hs];rfl)) _ h_ s σ H (λvs m=>∃F1,Step F H F1 m/\cQ _ F1 [da] vs) I ⟨ρ,_,(by grind),F,g,R,λvs F1 m c r=>⟨F1,c,r⟩⟩) λus s1 ⟨vs,m,x,J,F1,c,r⟩=>?_
 cases da with
 |tup ds=>
   refine ac λ_ i=>?_;obtain⟨v,w,rfl,⟨L,vs,rfl,t,E⟩,e⟩:=r;cases e;obtain⟨u,rfl,M⟩:=vals1 J;cases M;refine i ?_;simp only[jB,b1,Pg]at h2;split at h2
   .rename_i U;refine ac λ_ i=>?_;obtain⟨rfl,rfl⟩:=zT h2;obtain⟨its,G,ht,V⟩:=x.tupR c.good t;refine i ?_;have hlen:=G.length;have N:=E.length;refine Nt ht (by grind) λW=>?_;refine rk ?_;refine Jr (bb (by obtain⟨o,e,_⟩:=ht;exact hl9 e)) (IsTup.tW ht λo e=>hp9 _ e) (I.ok.hd B) (by simp_all) (aL _ rfl) λh' A D hl kp f=>?_;have j:s1.heap.objs.size<=h'.objs.size:=by rw[fK]at hl;exact aD (aD hl)
    have P:Inv X h_ σ (upd m _ (.tup _)) { s1 with heap:=h'.push { cls:=.type _,data:=.seq D },toks:=A }:=
     x.laid (λb o e=>hp9 _ ((λb o e=>kp b o (bb (hl9 e)) (hp9 _ e)) b o e)) j ⟨by rw[Gf];omega,_,G.reverse,⟨_,aL _ rfl,rfl,0,by rw[<-(GN f)]⟩⟩
    have l :=x.hok.fresh j;exact⟨.ref _,_,P,rfl,k _ _ _ (c.trans (Step.alloc c.good l)) ⟨_,_,rfl,.inl cC,(E.reverse.mono (bO.upd (o:=.tup _) (c.good.sub.free l)))⟩ bu⟩
   .cases h2
 |_=>cases h2
end
noncomputable def UU:Dat×Bool->Dat×Bool->g_
 |(.lst xs,c_),(.lst ys,c_)=>if xs.length+ys.length<=aC then a_ (.lst (xs++ys),c_)else b_
 |_,_=>b_
def Ex.cat(a b:Ex):Ex:=⟨a.fv++b.fv,λC ρ=>(ba C a ρ).bind λx=>(ba C b ρ).bind λy=>UU x y⟩
def OZ(h:UU x y=a_ r):∃xs ys,x=(.lst xs,c_)/\y=(.lst ys,c_)/\xs.length+ys.length<=aC/\r=(.lst (xs++ys),c_):=by
 unfold UU at h;split at h
 .simp_all
 .cases h
def Ww(K:Fg):R2:=λx y H Q=>∃xs ys F a b,Good F H/\Rep K F (.lst xs) x/\Rep K F (.lst ys) y/\jQ K H (.lst xs) x a/\jQ K H (.lst ys) y b/\xs.length+ys.length<=aC/\
 ∀p F' H',H p=b_->Step F H F' H'->Rep K F' (.lst (xs++ys)) (.ref p)->jQ K H' (.lst (xs++ys)) (.ref p) (p::(a.tail++b.tail))->Q (.ref p) H'
section
def NX:j9 X (binaryOp .Add) (Ww X.K):=by
 intro h_ s σ H x y v u Q I j m h;refine ac λ_ A=>?_;obtain⟨xs,ys,F,o,w,g,⟨l,vs,rfl,t,r⟩,⟨q,us,rfl,t',f⟩,⟨l',a,c,e1,hl,os,rfl⟩,⟨z,b,d,e2,i,e,rfl⟩,n,k⟩:=h;cases e1;cases e2;obtain rfl:=I.oJ (mH.of hl) (g.sub.seq t);obtain rfl:=I.oJ (mH.of i) (g.sub.seq t');refine A ?_;exact SK h_ s σ H _ _ v u Q I j m ⟨l,q,a,b,rfl,rfl,hl,i,by rwa[r.length,f.length],λp hp=>k p _ _ hp (Step.alloc g hp) ⟨p,_,rfl,.inl (.inl cC),(r.append f).mono (bO.upd (g.sub.free hp))⟩ ⟨p,_,_,rfl,cC,(os.append e).mono (bO.upd hp),rfl⟩⟩
def RJ(ha:SE X C a xa)(hb:SE X C b xb):SE X C (.BinOp a .Add b pos) (.cat xa xb):=
 PE.imp (P6 NX ha hb) λσ H Q r=>by
  refine ac λ_ O=>?_;obtain⟨ρ,d,fr,h,F,g,R,k⟩:=r;obtain⟨L,h1,h⟩:=ck h;obtain⟨M,h2,h⟩:=ck h;obtain⟨xs,ys,rfl,rfl,s,e⟩:=OZ h;obtain⟨rfl,rfl⟩:=Prod.mk.inj e;refine O ?_;refine⟨ρ,_,_,h1,F,g,R,λv F1 N f t x=>⟨ρ,_,_,h2,F1,f.good,R.mono f.ff,λw y H2 c A B=>?_⟩⟩;obtain⟨j,D,e1,l⟩:=x rfl;obtain⟨n,E,e2,q⟩:=B rfl
  have d1:∀a∈j,H2 a≠b_:=λa m z=>by
   obtain⟨u,i,_⟩:=l.tD _ a m;have:=c.hh _ _ i;rw[z]at this;cases this
  have Zu:∀a∈j,a∉n:=λa m m2=>by
   obtain⟨u,i,_⟩:=l.tD _ a m;rw[e2 a m2]at i;cases i
  have d2:∀a∈n,H2 a≠b_:=λa m z=>by
   obtain⟨u,i,_⟩:=q.tD _ a m;rw[z]at i;cases i
  refine⟨xs,ys,y,j,n,c.good,t.mono c.ff,A,l.mono c.hh,q,s,λp G I hp o J K=>k _ G I ((f.trans c).trans o) J λ_=>⟨_,?_,?_,K⟩⟩
  .refine aU.mpr ⟨λm=>?_,g8 ((Ii _).nodup D) ((Ii _).nodup E) λa m m2=>Zu a (fU m) (fU m2)⟩
   rcases ax.mp m with m|m
   .exact d1 p (fU m) hp
   .exact d2 p (fU m) hp
  .intro a m
   rcases aw.mp m with rfl|m
   .exact(f.hh.trans c.hh).free hp
   .rcases ax.mp m with m|m
    .exact e1 a (fU m)
    .exact f.hh.free (e2 a (fU m))
end
section
variable{X:Cx}
def Jg(j n:Nat)(G:lE X.prog X.w X.K X.mg X.base zg k f fd ps (nQ X.K n (C j)))(O:lz k X.A)(Y:Gl X x)(Z:X.mg x=a_ (.ref f))(hk:fB X.K (.ref f)=c_)(hb:Binds X.K fd ps [])
  (hn:n=0)(B:(x == ("__debug__":bc))=d_):SE X C (.Call (.Name x p) [] [] pos) (.call j []):=
 PE.imp (JP G O Y Z hk hb .nil JQ B) λσ H Q h=>by
  refine ac λ_ a=>?_;obtain⟨ρ,ds,h1,F,g,R,k⟩:=(qO (xs:=[]) (x:=.call j []) (λρ d fr h=>ck h) σ H Q h);cases h1;refine a ?_;exact⟨by rw[hn];rfl,k [] F H (Step.refl g) rfl⟩
end
structure Sg where
 fns:List (bc×Nat)
 con:List (bc×Dat)
structure Sc where
 N:List bc
 nm:List (bc×kE)
 top:Bool
noncomputable def lr:List bc:=["len","range","zip","all","any","isinstance","list","tuple","reversed","int","bool","str","sorted","set","min","max","enumerate","sum","dict","abs"]
noncomputable def oK(x:bc):List bc->Option Nat
 |[]=>b_
 |y::r=>if y=x then a_ 0 else(oK x r).map (·+ 1)
set_option tactic.hygienic true
theorem e9:∀{N:List bc}{i:Nat},oK x N=a_ i->N[i]?=a_ x
 |[],_,h=>by cases h
 |y::r,i,h=>by
   have h:(if y=x then a_ 0 else(oK x r).map _)=a_ i:=h;split at h
   .cases h;rename_i e;subst e;rfl
   .obtain⟨j,h1,rfl⟩:=ee h;exact(eZ ..).trans (e9 h1)
noncomputable def Du(x:bc):Nat->List (bc×Nat)->Option (Nat×Nat)
 |_,[]=>b_
 |k,y::r=>if y.1=x then a_ (k,y.2)else Du x (k+1) r
theorem vj:∀{L:List (bc×Nat)}{k j n:Nat},Du x k L=a_ (j,n)->∃i,j=k+i/\L[i]?=a_ (x,n)
 |[],_,_,_,h=>by cases h
 |y::r,k,j,n,h=>by
   have h:(if y.1=x then a_ (k,y.2)else Du x _ r)=a_ _:=h;split at h
   .cases h;rename_i e;subst e;exact⟨0,rfl,rfl⟩
   .obtain⟨i,e1,e2⟩:=vj h;exact⟨_,aF (ig (ae e1)) (ig (ae e1.symm)),(eZ ..).trans e2⟩
set_option tactic.hygienic false
noncomputable def iJ(x:bc):Bool:=!(x == ("__debug__":bc)) && !(x == ("__classdict__":bc)) && !(x == ("__name__":bc))
noncomputable def Yl:Option kE->Bool
 |some .local=>c_
 |some .cell=>c_
 |some .free=>c_
 |_=>d_
noncomputable def Y9:Option kE->Bool
 |some .local=>c_
 |some .cell=>c_
 |_=>d_
def rm(S:Sc)(x:bc):Bool:=Yl (S.nm.lookup x)
def wg(S:Sc)(x:bc):Bool:=Y9 (S.nm.lookup x)
noncomputable def KO(S:Sc)(x:bc):Bool:=S.nm.lookup x == a_ .globalImplicit
noncomputable def eh:a9->Bool
 |.Starred _ _=>d_
 |_=>c_
noncomputable def rH:a9->Bool
 |.Set _ _ _=>d_
 |_=>c_
noncomputable def qx:a9->Bool
 |.IfExp _ _ _ _=>d_
 |_=>c_
noncomputable def U1:B7->Option Vt
 |.Add=>a_ .add
 |.Sub=>a_ .sub
 |.Mult=>a_ .mul
 |.Mod=>a_ .mod
 |.RShift=>a_ .shr
 |.LShift=>a_ .shl
 |.BitAnd=>a_ .band
 |.BitOr=>a_ .bor
 |_=>b_
noncomputable def XC:CmpOp->Option XX
 |.Eq=>a_ .eq
 |.NotEq=>a_ .ne
 |.Lt=>a_ .lt
 |.Gt=>a_ .gt
 |.Is=>a_ .isn
 |.IsNot=>a_ .nisn
 |.In=>a_ .isin
 |.NotIn=>a_ .nin
 |_=>b_
noncomputable def Zw(x:bc):Option Ty:=
 if x="int" then a_ .int else if x="bool" then a_ .bool else if x="str" then a_ .str else if x="tuple" then a_ .tuple else if x="list" then a_ .list else b_
noncomputable def U0(x:bc):Option XY:=
 if x="len" then a_ .len else if x="tuple" then a_ .tuple else if x="any" then a_ .any else if x="int" then a_ .int else if x="str" then a_ .str else b_
noncomputable def Ai(S:Sc)(sc:mI):List (bc×kE):=sc.names.map λp=>if(p.2 == dY && S.nm.lookup p.1 == a_ .cell)then(p.1,lO)else p
noncomputable def jf:a9->Option bc
 |.Name x _=>a_ x
 |_=>b_
def fP(h:jf e=a_ x):∃p,e=.Name x p:=by
 cases e with
 |Name y p=>cases h;exact⟨p,rfl⟩
 |_=>cases h
def namesOf:List a9->Option (List bc)
 |[]=>a_ []
 |e::r=>(jf e).bind λt=>(namesOf r).map λa=>t::a
def oW:a9->Option (Bool×List bc)
 |.Name t _=>a_ (c_,[t])
 |.Tuple es _ _=>(namesOf es).map λa=>(d_,a)
 |_=>b_
noncomputable def freeOf(sc:mI):List bc:=sc.names.filterMap λp=>if p.2=.free then a_ p.1 else b_
def sW(N:List bc):List bc->Option (List Nat)
 |[]=>a_ []
 |x::r=>(oK x N).bind λi=>(sW N r).map λis=>i::is
noncomputable def Lj(S:Sc)(sc:mI)(tn cn:List bc):Bool:=
 decide (sc.kind=.function) && sc.names.all (λy=>!decide (y.2=.cell)) && sc.names.all (λy=>!decide (y.2=.local) || decide (sc.names.lookup y.1=a_ .local))
  && sc.names.all (λy=>!decide (y.2=.free) || decide (S.nm.lookup y.1=a_ .cell) || decide (S.nm.lookup y.1=a_ .free))
  && cn.all (λx=>(decide (S.nm.lookup x=a_ .cell) || decide (S.nm.lookup x=a_ .free)) && decide (sc.names.lookup x=a_ .free))
  && decide (tn++cn).Nodup && tn.all λx=>decide (sc.names.lookup x=a_ .local)
def inner(S:Sc)(sc:mI)(tn cn:List bc):Sc:=⟨tn++cn,Ai S sc,d_⟩
noncomputable def Bb(f:Ex->Ex->Ex):List Ex->Option Ex
 |[]=>b_
 | x::r=>match r with
   |[]=>a_ x
   |_::_=>(Bb f r).map (f x)
def tu(f:a9->Option Ex):List a9->Option (List Ex)
 |[]=>a_ []
 |e::r=>if eh e=c_ then(f e).bind λx=>(tu f r).map λxs=>x::xs else b_
noncomputable def lR{α:Type}:List α->Option α
 |[]=>b_
 |a::r=>if r.isEmpty=c_ then a_ a else b_
def iL (h:lR l=a_ a):l=[a]:=by
 match l,h with
 |[b],h=>cases h;rfl
def EA{α:Type}:List α->Option (α×α)
 |[]=>b_
 |a::r=>(lR r).map λb=>(a,b)
def uN (h:EA l=a_ p):l=[p.1,p.2]:=by
 cases l with
 |nil=>cases h
 |cons a r=>
   obtain⟨b,h1,rfl⟩:=ee h;rw[iL h1]
structure Ca where
 fn:a9
 args:List a9
 kws:List Keyword
 pos:v7
noncomputable def O4:a9->Option Ca
 |.Call fn args kws p=>a_ ⟨fn,args,kws,p⟩
 |_=>b_
def yU(h:O4 e=a_ c):e=.Call c.fn c.args c.kws c.pos:=by
 cases e with
 |Call fn args kws p=>cases h;rfl
 |_=>cases h
def yT(e:a9):Option (bc×List a9):=(O4 e).bind λc=>if c.kws.isEmpty=c_ then(jf c.fn).map λx=>(x,c.args)else b_
set_option tactic.hygienic true in
def rZ(h:yT e=a_ (x,args)):∃p q,e=.Call (.Name x p) args [] q:=by
 obtain⟨⟨fn,as,kws,q⟩,h0,h1⟩:=ck h;obtain rfl:=yU h0;split at h1
 .rename_i hk;obtain⟨y,h2,h3⟩:=ee h1;cases h3;obtain⟨p,a⟩:=fP h2
  grind
 .cases h1
noncomputable def isTup:a9->Bool
 |.Tuple _ _ _=>c_
 |_=>d_
def AN(h:isTup e=c_):∃es k p,e=.Tuple es k p:=by
 cases e with
 |Tuple es k p=>exact⟨es,k,p,rfl⟩
 |_=>cases h
def XA(S:Sc)(f:a9->Option Ex)(tg:a9)(x:bc)(args:List a9):Option Iw:=
 if KO S x=c_ then(tu f args).bind λxs=>
  if x="range" then(lR xs).map λa=>.rng [a]
  else if(decide (x="zip") && isTup tg)=c_ then(EA xs).map λp=>.zip [p.1,p.2]
  else if(decide (x="enumerate") && isTup tg)=c_ then(lR xs).map .enu else b_
 else b_
noncomputable def Uc(x:bc):Bool:=decide (x="range") || decide (x="zip") || decide (x="enumerate")
def Ks(e:a9):Option (bc×List a9):=(yT e).bind λc=>if Uc c.1=c_ then a_ c else b_
def cI(S:Sc)(f:a9->Option Ex)(tg iter:a9):Option Iw:=match Ks iter with
 |some c=>XA S f tg c.1 c.2
 |none=>(f iter).map .itv
def Zz(f:a9->Option Ex):List a9->Option (List Ex)
 |[]=>a_ []
 |c::r=>if(r.isEmpty && qx c)=c_ then(f c).map λx=>[x]else b_
noncomputable def Lr(f:a9->Option Ex):Option a9->Option (Option Ex)
 |none=>a_ b_
 |some e=>(f e).map a_
noncomputable def UY:Const->Option Dat
 |.int i=>a_ (.int i)
 |.bool b=>a_ (.bl b)
 |.none=>a_ .non
 |.str x=>a_ (.str x)
 |_=>b_
def Qt(G:Sg)(S:Sc)(x:bc):Option Ex:=if iJ x=c_ then(if rm S x=c_ then(oK x S.N).map .v else if KO S x=c_ then(G.con.lookup x).map .con else b_)else b_
def cUn(f:a9->Option Ex)(a:a9):UnaryOp->Option Ex
 |.USub=>(f a).map .neg
 |.Not=>if qx a=c_ then(f a).map .not else b_
 |_=>b_
def UZ(f:a9->Option Ex)(es:List a9):BoolOp->Option Ex
 |.And=>(tu f es).bind (Bb .and)
 |.Or=>(tu f es).bind (Bb .or)
def Qx(f:a9->Option Ex)(a:a9)(B:List CmpOp)(bs:List a9):Option Ex:=(f a).bind λc=>match lR B with
 |some op=>(lR bs).bind λb=>if rH b=c_ then(XC op).bind λo=>(f b).map λd=>.cmp o c d else b_
 |none=>b_
def Lx(f:a9->Option Ex)(ks:List (Option a9))(vs:List a9):Option Ex:=
 if(ks.isEmpty && vs.isEmpty)=c_ then a_ .px
 else b_
noncomputable def jc:a9->Option (Option a9×Option a9×Option a9)
 |.Slice lo hi st _=>a_ (lo,hi,st)
 |_=>b_
def Xw(f:a9->Option Ex)(a b:a9):Option Ex:=(f a).bind λc=>match jc b with
 |some t=>if t.2.2.isNone=c_ then(Lr f t.1).bind λd=>(Lr f t.2.1).map λe=>.sl c d e else b_
 |none=>(f b).map λg=>.ix c g
def Qu(G:Sg)(S:Sc)(f:a9->Option Ex)(o:a9)(m:bc)(ap:v7)(args:List a9)(cp:v7):Option Ex:=
 if(ap.endLine == cp.line)=c_ then(tu f args).bind λxs=>if baseOk o=c_ then(f o).bind λa=>(UX m args.length).map λb=>.eU b a xs else b_
 else b_
def Zy(S:Sc)(f:a9->Option Ex)(args:List a9):Option Ex:=(EA args).bind λp=>(jf p.2).bind λt=>
 if(KO S "isinstance" && KO S t && eh p.1)=c_ then(Zw t).bind λty=>(f p.1).map λa=>.blt (.isi ty) [a]else b_
def Lp(S:Sc)(f:a9->Option Ex)(x y:bc)(b:XY)(args:List a9):Option Ex:=(lR args).bind λe=>(yT e).bind λc=>if c.1=y then(lR c.2).bind λa=>
 if(KO S x && KO S y && eh a)=c_ then(f a).map λd=>.blt b [d]else b_ else b_
def XB(G:Sg)(S:Sc)(x:bc)(xs:List Ex):Option Ex:=
 if(iJ x && KO S x)=c_ then match Du x 0 G.fns with
  |some a=>if xs.length=a.2 then a_ (.call a.1 xs)else b_
  | none=>match lR xs with
    |some c=>(U0 x).map λb=>.blt b [c]
    |none=>(EA xs).bind λp=>if x="max" then a_ (.bin .mx p.1 p.2)else if x="min" then a_ (.bin .mn p.1 p.2)else b_
 else b_
def DI(G:Sg)(S:Sc)(f:a9->Option Ex)(x:bc)(args:List a9):Option Ex:=
 if x="isinstance" then Zy S f args else match(if x="tuple" then Lp S f "tuple" "reversed" .tuprev args else if x="sorted" then Lp S f "sorted" "set" .sset args else b_)with
  |some z=>a_ z
  |none=>(tu f args).bind (XB G S x)
noncomputable def vH:a9->Option (a9×bc×v7)
 |.Attribute o m ap=>a_ (o,m,ap)
 |_=>b_
def se(h:vH e=a_ t):e=.Attribute t.1 t.2.1 t.2.2:=by
 cases e with
 |Attribute o m ap=>cases h;rfl
 |_=>cases h
def FL(G:Sg)(S:Sc)(f:a9->Option Ex)(fn:a9)(args:List a9)(cp:v7):Option Ex:=match vH fn with
 |some t=>Qu G S f t.1 t.2.1 t.2.2 args cp
 |none=>(jf fn).bind λx=>DI G S f x args
structure Gn where
 tg:a9
 it:a9
 ifs:List a9
def Ql(B:List Comprehension):Option Gn:=(lR B).bind λg=>if g.is_async=0 then a_ ⟨g.target,g.iter,g.ifs⟩else b_
def Qw(S:Sc)(f:Sc->a9->Option Ex)(elt:a9)(g:Gn)(sc:mI):Option Ex:=(oW g.tg).bind λt=>(sW S.N (freeOf sc)).bind λcaps=>
 if(Lj S sc t.2 (freeOf sc) && rH g.it)=c_ then
  (cI S (f S) g.tg g.it).bind λit=>(Zz (f (inner S sc t.2 (freeOf sc))) g.ifs).bind λxs=>(f (inner S sc t.2 (freeOf sc)) elt).map λxe=>.comp t.2.length t.1 caps it xs xe
 else b_
noncomputable def Kw:a9->Bool
 |.List _ _=>c_
 |.ListComp _ _ _ _=>c_
 |_=>d_
noncomputable def Kx:B7->Bool
 |.Add=>c_
 |_=>d_
def He(h:Kx op=c_):op=.Add:=by cases op<;>first|rfl|cases h
def O2(op:B7)(a b:a9):Bool:=Kx op && Kw a && Kw b
noncomputable def Di:a9->Bool
 | .Constant c _ _=>match c with
   |.int _=>c_
   |_=>d_
 |_=>d_
def cE(G:Sg):Nat->Sc->a9->Option Ex
 |0,_,_=>b_
 | n+1,S,e=>match e with
   |.Constant c _ _=>(UY c).map .con
   |.Name x _=>Qt G S x
   |.BinOp a op b _=>if O2 op a b=c_ then(cE G n S a).bind λd=>(cE G n S b).map λf=>.cat d f else(U1 op).bind λo=>(cE G n S a).bind λd=>(cE G n S b).map λf=>.bin o d f
   |.UnaryOp op a _=>cUn (cE G n S) a op
   |.BoolOp op es _=>if es.all qx=c_ then UZ (cE G n S) es op else b_
   |.Compare a h bs _=>Qx (cE G n S) a h bs
   |.IfExp c a b _=>if qx c=c_ then(cE G n S c).bind λi=>(cE G n S a).bind λd=>(cE G n S b).map λf=>.ite i d f else b_
   |.Tuple es _ _=>(tu (cE G n S) es).map .tup
   |.List es _=>(tu (cE G n S) es).map .lst
   |.Dict ks vs _=>Lx (cE G n S) ks vs
   |.Subscript a b _=>Xw (cE G n S) a b
   |.Call fn args kws cp=>if kws.isEmpty=c_ then FL G S (cE G n S) fn args cp else b_
   |.ListComp elt j sc _=>(Ql j).bind λg=>Qw S (cE G n) elt g sc
   |_=>b_
def CV(K:Fg)(d:Dat)(v:V):Prop:=(∀F,Rep K F d v)/\∀a,v=.ref a->∃o,K.lookup a=a_ o/\o.cls=.type "tuple"/\o.dict=b_
structure pz(G:Sg)(C:Fs)(S:Sc)(X:Cx):Prop where
 N:X.N=S.N
 nm:X.env.scope.names=S.nm
 kind:X.env.scope.kind=.function
 calm:X.calm=c_
 un:X.A.units+21<dM
 xe:X.xe=λ_ _=>False
 fn:S.top=c_->∀x,X.fn x=c_
 fns:∀(j:Nat)x n,G.fns[j]?=a_ (x,n)->∃k f fd ps,(lE X.prog X.w X.K X.mg X.base zg k f fd ps (nQ X.K n (C j))/\lE X.prog X.w X.K X.mg X.base zg k f fd ps (Vv X.K n (C (j+AF))))/\lz k X.A/\X.mg x=a_ (.ref f)/\fB X.K (.ref f)=c_/\Binds X.K fd ps []
 blt:∀x∈lr,X.mg x=b_
 con:∀x d,G.con.lookup x=a_ d->∃v u,X.mg x=a_ u/\RelV v u/\CV X.K d v
inductive Args (P:a9->Ex->Prop):List a9->List Ex->Prop
 |nil:Args P [] []
 |cons {e:a9} {es:List a9} {x:Ex} {xs:List Ex}:eh e=c_->P e x->Args P es xs->Args P (e::es) (x::xs)
def bW (h:(if b=c_ then x else b_)=a_ y):b=c_/\x=a_ y:=by
 simp_all
section
variable{G:Sg}{C:Fs}{S:Sc}{X:Cx}{e:a9}{x:bc}
def j6(T:pz G C S X)(h:rm S x=c_):Qz X.env.scope x:=by
 unfold rm at h;unfold Qz;rw[T.nm]
 cases q:S.nm.lookup x with
 |none=>rw[q]at h;cases h
 |some k=>rw[q]at h;cases k<;>first|(simp;done)|cases h
def tU(T:pz G C S X)(h:wg S x=c_):L2.Loc X.env.scope x:=by
 unfold wg at h;unfold L2.Loc;rw[T.nm]
 cases q:S.nm.lookup x with
 |none=>rw[q]at h;cases h
 |some k=>rw[q]at h;cases k<;>first|(simp;done)|cases h
def kH(T:pz G C S X)(h:KO S x=c_):Gl X x:=by
 unfold Gl rj;rw[T.nm];exact beq_iff_eq.mp h
def fu(h:iJ x=c_):(x == ("__debug__":bc))=d_/\(x == ("__classdict__":bc))=d_/\x≠"__name__":=by
 unfold iJ at h
 simp_all
def cT(h:eh e=c_):aS (e::es) env=(d_,eval e env)::aS es env:=by
 cases e<;>first|rfl|cases h
theorem oz:∀{es:List a9},es.all eh=c_->(backTo pos (aS es env)).any (·.1)=d_
 |[],_=>rfl
 |e::es,h=>by
   rw[dH,ag]at h;rw[cT h.1];have q:=oz (pos:=pos) (env:=env) h.2;unfold backTo at q ⊢;rw[aB,m8,q];rfl
theorem j7(hf:∀e x,f e=a_ x->P e x):∀{es:List a9}{xs:List Ex},tu f es=a_ xs->Args P es xs
 |[],_,h=>by cases h;exact .nil
 |e::r,_,h=>by
   obtain⟨hs,h⟩:=bW h;obtain⟨x,h1,h⟩:=ck h;obtain⟨xs,h2,rfl⟩:=ee h;exact .cons hs (hf _ _ h1) (j7 hf h2)
theorem Args.sa:∀{es:List a9}{xs:List Ex},Args (SE X C) es xs->SA X C es xs
 |_,_,.nil=>pS
 |_,_,.cons hs h r=>kP h r.sa (cT hs)
theorem Args.sf:∀{es:List a9}{xs:List Ex},Args (SE X C) es xs->SF X C es xs
 |_,_,.nil=>Jc
 |_,_,.cons hs h r=>Ea h r.sf (cT hs)
theorem Args.star:∀{es:List a9}{xs:List Ex},Args P es xs->es.all eh=c_
 |_,_,.nil=>rfl
 |_,_,.cons hs _ r=>by rw[dH,hs,r.star];rfl
theorem Args.len:∀{es:List a9}{xs:List Ex},Args P es xs->xs.length=es.length
 |_,_,.nil=>rfl
 |_,_,.cons _ _ r=>congrArg _ r.len
def Args.one(h:Args P es [z]):∃a,es=[a]/\eh a=c_/\P a z:=by
 cases h with
 |cons s p r=>cases r;exact⟨_,rfl,s,p⟩
def Args.two(h:Args P es [z,w]):∃a b,es=[a,b]/\eh a=c_/\eh b=c_/\P a z/\P b w:=by
 cases h with
 |cons s p r=>
   obtain⟨b,rfl,s',c⟩:=r.one;exact⟨_,b,rfl,s,s',p,c⟩
def Jh(s:eh a=c_)(s':eh b=c_)(ha:SE X C a z)(hb:SE X C b w):SA X C [a,b] [z,w]:=kP ha (kP hb pS (cT s')) (cT s)
def IM(s:eh a=c_)(s':eh b=c_):aS [a,b] env=[(d_,eval a env),(d_,eval b env)]:=(cT s).trans (congrArg _ (cT s'))
def Pc(h:U1 op=a_ o):j9 X (binaryOp op) (gB X.K (fF o)):=by
 cases op<;>first|(cases h;first|exact NZ|exact NP|exact NT|exact NU|exact NQ|exact NR|exact NY|exact Su)|cases h
def FK(B:X.A.units+21<dM)(h:XC op=a_ o):j9 X (compareOp op) (gB X.K (qM o)):=by
 cases op<;>first|(cases h;first|exact SJ (aD B)|exact Sv (aD B)|exact SD|exact SH|exact op_geD|exact NV|exact JR|exact SG B|exact NS B)|cases h
def J0(h:rH b=c_):behindInMarks op b=d_:=by
 cases b<;>first|rfl|cases h
def Ng(ha:SE X C a xa):SE X C (.UnaryOp .Not a pos) (.not xa):=by
 rintro h_ s σ H Q I ⟨ρ,d,fr,h,F,g,R,k⟩;refine ac λ_ e=>?_;obtain⟨⟨da,i⟩,h1,h⟩:=ck h;obtain⟨b,hb,h⟩:=ee h;cases h;refine e ?_;refine UnaryOp_ (iR (ha h_ s σ H (λv f=>∃F1,Step F H F1 f/\Rep _ F1 da v) I ⟨ρ,da,i,h1,F,g,R,λv F1 f st r _=>⟨F1,st,r⟩⟩) λv s1 ⟨x,f,j,l,F1,st,r⟩=>?_);refine not_of (iR (IE h_ s1 σ f x v (λc H2=>c=b/\H2=f) j l ⟨b,D3 st.good r hb,rfl,rfl⟩) ?_);rintro c s2 ⟨H2,m,rfl,rfl⟩;exact⟨.bl _,H2,m,rfl,k _ F1 H2 st rfl bu⟩
def Vs(X:Cx)(C:Fs)(e:a9)(x:Ex):Prop:=SE X C e x/\(qx e=c_->ST X C e x)
theorem xn:∀{es:List a9}{xs:List Ex}{x:Ex},Args (Vs X C) es xs->es.all qx=c_->Bb .and xs=a_ x->SE X C (.BoolOp .And es pos) x/\SW X C (.BoolOp .And es pos) x
 |_,_,_,.nil,_,h=>by cases h
 |_,_,_,.cons _ p .nil,n,h=>by
   rw[dH,ag]at n;cases h;exact⟨Ec p.1,MJ (p.2 n.1)⟩
 |_,_,_,.cons _ p (.cons s q r),n,h=>by
   rw[dH,ag]at n;obtain⟨z,h1,rfl⟩:=ee h;obtain⟨a,i2⟩:=xn (.cons s q r) n.2 h1;exact⟨RL p.1 a,QW (p.2 n.1) i2⟩
theorem Ba:∀{es:List a9}{xs:List Ex}{x:Ex},Args (Vs X C) es xs->es.all qx=c_->Bb .or xs=a_ x->SE X C (.BoolOp .Or es pos) x/\SW X C (.BoolOp .Or es pos) x
 |_,_,_,.nil,_,h=>by cases h
 |_,_,_,.cons _ p .nil,n,h=>by
   rw[dH,ag]at n;cases h;exact⟨Ec p.1,QU (p.2 n.1)⟩
 |_,_,_,.cons _ p (.cons s q r),n,h=>by
   rw[dH,ag]at n;obtain⟨z,h1,rfl⟩:=ee h;obtain⟨a,i2⟩:=Ba (.cons s q r) n.2 h1;exact⟨Wd p.1 a,VX (p.2 n.1) i2⟩
set_option tactic.hygienic true
def Nl(T:pz G C S X)(hb:U0 x=a_ bt)(hp:iJ x=c_)(B:KO S x=c_)(hs:eh e=c_)(he:SE X C e xa):SE X C (.Call (.Name x p) [e] [] pos) (.blt bt [xa]):=by
 have h1:aS _ X.env=(d_,eval e _)::aS [] _:=cT hs;have ha :=kP he pS h1;obtain⟨d1,d2,d3⟩:=fu hp;have a:=kH T B;unfold U0 at hb;split at hb
 .rename_i q;refine ac λ_ b=>?_;subst q;cases hb;refine b ?_;exact Eb Hu a (T.blt _ (by decide +kernel)) PySem.boot_len ha d3 d1 h1 rfl
 split at hb
 .rename_i q;refine ac λ_ b=>?_;subst q;cases hb;refine b ?_;exact x4 Bu a (T.blt _ (by decide +kernel)) (by decide +kernel) ha d3 d1 h1 rfl
 split at hb
 .rename_i q;subst q;cases hb;exact Eb (Hy T.calm) a (T.blt _ (by decide +kernel)) (by decide +kernel) ha d3 d1 h1 rfl
 split at hb
 .rename_i q;subst q;cases hb;exact x4 Hw a (T.blt _ (by decide +kernel)) (by decide +kernel) ha d3 d1 h1 rfl
 split at hb
 .rename_i q;subst q;cases hb;exact x4 Ht a (T.blt _ (by decide +kernel)) (by decide +kernel) ha d3 d1 h1 rfl
 .cases hb
def Pa(T:pz G C S X)(ha:Args (SE X C) es xs)(h:XB G S x xs=a_ z):SE X C (.Call (.Name x p) es [] pos) z:=by
 obtain⟨hp,h⟩:=bW h;rw[ag]at hp;obtain⟨d1,d2,d3⟩:=fu hp.1
 cases g:Du x 0 _ with
 |some u=>
   obtain⟨j,n⟩:=u;rw[g]at h;have h:(if xs.length=n then a_ (Ex.call j xs)else b_)=a_ z:=h;split at h
   .rename_i l;cases h;obtain⟨i,e1,e2⟩:=vj g;obtain⟨k,f,fd,ps,F,m,o,hk,hb⟩:=T.fns i x n e2;rw[ic]at e1;subst e1
    cases ha with
    |nil=>exact Jg j n F.1 m (kH T hp.2) o hk hb l.symm d1
    |cons hs he r=>exact Nk j n F.1 m (kH T hp.2) o hk hb (kP he r.sa (cT hs)) l d1 (cT hs) (oz r.star)
   .cases h
 |none=>
   rw[g]at h
   cases ho:lR xs with
   |some s=>
     obtain rfl:=iL ho;obtain⟨b,h1,rfl⟩:=ee h;obtain⟨e,rfl,hs,he⟩:=ha.one;exact Nl T h1 hp.1 hp.2 hs he
   |none=>
     rw[ho]at h;obtain⟨⟨s,v⟩,h1,c⟩:=ck h;clear h;obtain rfl:xs=[s,v]:=uN h1;obtain⟨a,b,rfl,hs,d,he,hb⟩:=ha.two
     .have t:=Jh hs d he hb;split at c
      .rename_i q;subst q;cases c;exact Jf (DH T.calm) (kH T hp.2) (T.blt _ (by decide +kernel)) (by decide +kernel) t d3 d1 (cT hs) (oz (by simp[d]))
      split at c
      .rename_i q;subst q;cases c;exact Jf (DG T.calm) (kH T hp.2) (T.blt _ (by decide +kernel)) (by decide +kernel) t d3 d1 (cT hs) (oz (by simp[d]))
      .cases c
def UW(h:Zw t=a_ ty):bootBuiltins t=a_ (.type (tyName ty))/\t∈lr/\(t == ("__debug__":bc))=d_/\t≠"__name__":=by
 unfold Zw at h
 repeat' (split at h;(rename_i q;subst q;cases h;exact⟨by decide +kernel,by decide +kernel,by decide +kernel,by decide +kernel⟩))
 cases h
def Qv{iter:a9}(T:pz G C S X)(hf:∀e x,f e=a_ x->SE X C e x)(h:cI S f tg iter=a_ it):SI X C tg iter it/\∀a,it=.itv a->SE X C iter a:=by
 unfold cI at h
 cases hi:Ks iter with
 |none=>
   rw[hi]at h;obtain⟨x,h1,rfl⟩:=ee h;exact⟨Rr (hf _ _ h1),λa z=>by cases z;exact hf _ _ h1⟩
 |some c=>
   rw[hi]at h;obtain⟨x,args⟩:=c;obtain⟨m,h1,h2⟩:=ck hi;obtain⟨_,h2⟩:=bW h2;obtain rfl:m=(x,args):=bA h2;obtain⟨p,q,rfl⟩:=rZ h1;obtain⟨n,h3⟩:=bW h;clear h h1 h2 hi;obtain⟨xs,l,d⟩:=ck h3;have ha:=j7 hf l;clear h3 l;have j:=kH T n;split at d
   .rename_i e;subst e;obtain⟨o,i,rfl⟩:=ee d;obtain rfl:=iL i;obtain⟨a,rfl,hs,he⟩:=ha.one;exact⟨M7 j (T.blt _ (by decide +kernel)) (kP he pS (cT hs)) (cT hs),λa z=>nomatch z⟩
   split at d
   .rename_i e;simp only[ag,decide_eq_true_eq]at e;refine ac λ_ s=>?_;obtain⟨rfl,ht⟩:=e;obtain⟨p,i,rfl⟩:=ee d;obtain rfl:=uN i;obtain⟨r,k,tp,rfl⟩:=AN ht;obtain⟨a,b,rfl,hs,g,he,hb⟩:=ha.two;refine s ?_;exact⟨Rq j (T.blt _ (by decide +kernel)) (Jh hs g he hb) (IM hs g) (cT g),λa z=>nomatch z⟩
   split at d
   case isFalse=>cases d
   .rename_i e;simp only[ag,decide_eq_true_eq]at e;obtain⟨rfl,ht⟩:=e;obtain⟨r,k,tp,rfl⟩:=AN ht;obtain⟨o,i,rfl⟩:=ee d;obtain rfl:=iL i;obtain⟨a,rfl,hs,he⟩:=ha.one;exact⟨Rt j (T.blt _ (by decide +kernel)) (kP he pS (cT hs)) (cT hs),λa z=>nomatch z⟩
set_option tactic.hygienic false
def ji(h:rH e=c_):∀v,foldedSetIterable e X.env v=pure v:=λv=>by
 cases e<;>first|rfl|cases h
theorem Bt:∀{cn:List bc}{is:List Nat},sW N cn=a_ is->is.map (λj=>N[j]?)=cn.map a_
 |[],_,h=>by cases h;rfl
 |x::r,_,h=>by
   obtain⟨i,h1,h⟩:=ck h;obtain⟨is,h2,rfl⟩:=ee h;rw[aB,aB,e9 h1,Bt h2]
theorem lookup_mem:∀{L:List (bc×kE)},L.lookup x=a_ k->(x,k)∈L
 |[],h=>by cases h
 |(y,j)::r,h=>by
   rw[fH]at h;split at h
   .simp_all
   .exact ju _ (lookup_mem h)
structure FX(S:Sc)(sc:mI)(tn cn:List bc):Prop where
 kind:sc.kind=.function
 nocell:∀y∈sc.names,y.2≠.cell
 locs:∀y∈sc.names,y.2=.local->sc.names.lookup y.1=a_ .local
 frees:∀y∈sc.names,y.2=.free->S.nm.lookup y.1=a_ .cell\/S.nm.lookup y.1=a_ .free
 capk:∀x∈cn,(S.nm.lookup x=a_ .cell\/S.nm.lookup x=a_ .free)/\sc.names.lookup x=a_ .free
 nd:(tn++cn).Nodup
 tl:∀x∈tn,sc.names.lookup x=a_ .local
def Li(h:Lj S sc tn cn=c_):FX S sc tn cn:=by
 unfold Lj at h;simp only[ag,bB,decide_eq_true_eq,kS,jP,decide_eq_false_iff_not]at h;obtain⟨⟨⟨⟨⟨⟨h1,h2⟩,h3⟩,b⟩,h5⟩,c⟩,d⟩:=h;refine⟨h1,h2,λy a e=>?_,λy a e=>?_,h5,c,d⟩
 .rcases h3 y a with z|z
  .exact absurd e z
  .exact z
 .rcases b y a with(z|z)|z
  .exact absurd e z
  .exact .inl z
  .exact .inr z
def yO(T:pz G C S X)(h:FX S sc tn cn)(hc:sW S.N cn=a_ caps):jj X sc tn cn caps where
 kind:=h.kind
 nocell:=h.nocell
 locs:=h.locs
 frees:=λy b e=>by unfold rj;rw[T.nm];exact h.frees y b e
 nofree:=λx e=>lookup_mem e
 caps:=by rw[T.N];exact Bt hc
 capk:=λx a=>by unfold rj;rw[T.nm];exact(h.capk x a).1
 capn:=λx a=>(h.capk x a).2
def rq(T:pz G C S X)(h:FX S sc tn cn)(cl:List (bc×aK))(B:ak)(O:Hp)(Ca:aK)(ex:List aK):pz G C (inner S sc tn cn) (eQ X sc cl (tn++cn) B O Ca ex) where
 N:=rfl
 nm:=by
  show(relabel sc X.env).names=Ai S sc;unfold relabel Ai rj;rw[T.nm,T.kind];refine dq λp _=>?_;obtain⟨n,k⟩:=p;dsimp only;rw[show(zA == zA)=c_ from rfl,gm]
 kind:=h.kind
 calm:=T.calm
 un:=T.un
 xe:=rfl
 fn:=λz=>nomatch z
 fns:=T.fns
 blt:=T.blt
 con:=T.con
end
section
variable{G:Sg}{C:Fs}{S:Sc}{X:Cx}{e:a9}{x:bc}{f:a9->Option Ex}
def JK(T:pz G C S Y)(B:S.N.Nodup)(hi:S.N[i]?=a_ t)(hl:S.nm.lookup t=a_ .local):PG Y (.Name t p) (kr i):=by
 refine Eu (by rwa[T.N]) (by rwa[T.N]) ?_ (.inr (by rwa[T.nm]));unfold L2.Loc;rw[T.nm];exact .inl hl
def qz{sc:mI}(h:sc.names.lookup x=a_ .local):(Ai S sc).lookup x=a_ .local:=by
 unfold Ai;generalize sc.names=L at h
 induction L with
 |nil=>cases h
 |cons p r a=>
   obtain⟨y,k⟩:=p;rw[fH]at h;rw[aB];by_cases hc:(k == dY && S.nm.lookup y == a_ .cell)=c_
   .dsimp only;rw[if_pos hc,fH];split at h
    .simp_all
    .exact a h
   .rw[if_neg hc,fH];split at h
    .exact h
    .exact a h
theorem nD:∀{es:List a9}{tn:List bc},namesOf es=a_ tn->(assignEach es env).length=es.length/\(assignEach es env).findIdx? (·.1)=b_/\tn.length=es.length
 |[],tn,h=>by cases h;exact⟨rfl,rfl,rfl⟩
 |e::es,tn,h=>by
   obtain⟨t,h0,h⟩:=ck h;obtain⟨a,h1,rfl⟩:=ee h;obtain⟨p,rfl⟩:=fP h0;obtain⟨b,c,d⟩:=nD (env:=env) h1;have e1:assignEach (.Name t p::es) env=(d_,assign _ _)::assignEach es _:=rfl;rw[e1];refine⟨by simp[b],?_,by simp[d]⟩;rw[List.findIdx?_cons];simp[c]
def gK:Nat->Nat->QC
 |_,0=>Hj
 |k,n+1=>xj (kr k) (gK (k+1) n)
theorem Fj:∀n k x σ H Q Q',(∀σ2 H2,Q σ2 H2->Q' σ2 H2)->gK k n x σ H Q->gK k n x σ H Q'
 |0,_=>Hi
 |n+1,k=>Dt ve (Fj n _)
theorem A4:∀n k,k+n<=nt->vI nt (gK k n)
 |0,_,_=>Gu
 |n+1,k,h=>Co ve (Fj n _) (uh (aq (aV _ _) h)) (A4 n _ (ig h))
theorem KU{K:Fg}:∀(ds:List Dat)(vs:List V)(k:Nat)(σ:St)(ρ:fm)(Q:St->Hp->Prop),cQ K F ds vs->mW K F σ ρ->σ.length=ρ.length->(∀B,mW K F B (xZ k ds ρ)->Q B H)->gK k ds.length vs σ H Q
 |[],vs,k,σ,ρ,Q,r,R,hl,q=>⟨r,q σ R⟩
 |d::ds,vs,k,σ,ρ,Q,r,R,hl,q=>by
   obtain⟨v,w,rfl,a,b⟩:=r;exact⟨v,w,rfl,KU ds w _ _ _ Q b (Aj hl R a) (by simpa using hl) q⟩
set_option tactic.hygienic true
def IH{K:Fg}:Ve K n d_ (KQ K n (gK 0 n)):=λF H σ ρ d x ρ1 Q g R c hl r hb k=>by
 cases d with
 |tup ds=>
   have hb:(if ds.length=n then a_ (xZ 0 ds ρ)else b_)=a_ _:=hb;split at hb
   .rename_i b;cases hb;obtain⟨a,vs,rfl,t,r⟩:=r;subst b;exact⟨a,vs,rfl,(t.mono g.sub).sq,r.length,KU ds vs 0 σ ρ Q r R hl k⟩
   .cases hb
 |_=>cases hb
theorem Am(T:pz G C S Y)(nd:S.N.Nodup):∀{es:List a9}{tn:List bc}(k:Nat),namesOf es=a_ tn->(∀i t,tn[i]?=a_ t->S.N[k+i]?=a_ t)->(∀t∈tn,S.nm.lookup t=a_ .local)->VH Y es (gK k es.length)
 |[],_,_,_,_,_=>Et
 |e::es,tn,k,h,hi,hl=>by
   obtain⟨t,h0,h⟩:=ck h;obtain⟨a,h1,rfl⟩:=ee h;obtain⟨p,rfl⟩:=fP h0;refine An (JK T nd (hi 0 t rfl) (hl t jv)) (Am T nd _ h1 (λi t' e=>?_) λt' m=>hl t' (ju _ m));rw[show k+1+i=k+(i+1)from(ie ..)]
   simp_all
def VO(T:pz G C S X)(ht:oW tg=a_ (one,tn))(h:FX S sc tn (freeOf sc)) :
  ∃g,pN tn.length g/\Ve X.K tn.length one g/\∀(cl:List (bc×aK))(B:ak)(O:Hp)(Ca:aK)(ex:List aK),PG (eQ X sc cl (tn++freeOf sc) B O Ca ex) tg g:=by
 cases tg with
 |Name t p=>
   cases ht;exact ⟨_,uh (by simp),MF,λcl B O Ca ex=>JK (rq T h cl B O Ca ex) h.nd rfl (qz (h.tl t (by simp)))⟩
 |Tuple es k pos=>
   obtain⟨b,h1,h2⟩:=ee ht;cases h2;refine⟨KQ _ _ (gK 0 _),Gs (A4 _ 0 (f7 (ao _) (aT _))),IH,λcl B O Ca ex=>?_⟩;have a:=rq T h cl B O Ca ex;have n:=nD (env:=(eQ X sc cl (tn++freeOf sc) B O Ca ex).env) h1;have q:=Am a h.nd 0 h1 (λi t e=>by rw[ic];exact(aQ (aN.mp e).1).trans e) λt m=>qz (h.tl t m);rw[<-n.2.2]at q;exact JJ a.calm q (n.1.trans n.2.2.symm) n.2.1
 |_=>cases ht
def Ih(G:Sg)(C:Fs)(f:Sc->a9->Option Ex):Prop:=∀S e x,f S e=a_ x->∀X,pz G C S X->Vs X C e x
def Bw(T:pz G C S X)(h:Qt G S x=a_ z):SE X C (.Name x p) z:=by
 obtain⟨hp,h⟩:=bW h;obtain⟨d1,d2,d3⟩:=fu hp;split at h
 .rename_i a;obtain⟨i,h1,rfl⟩:=ee h;exact Ry i (by rw[T.N];exact e9 h1) (j6 T a) d1 d2
 .obtain⟨d,h1,rfl⟩:=ee (bW h).2;obtain⟨v,u,c,r,hd⟩:=T.con x d h1;exact Nh (kH T (bW h).1) c r hd.1 d1
def Ly{bs:List a9}(T:pz G C S X)(hf:∀e x,f e=a_ x->SE X C e x)(h:Qx f a ops bs=a_ z):SE X C (.Compare a ops bs pos) z/\ST X C (.Compare a ops bs pos) z:=by
 obtain⟨k,h1,d⟩:=ck h;clear h
 cases ho:lR ops with
 |some op=>
   obtain rfl:=iL ho;obtain⟨b,h2,g⟩:=ck d;obtain rfl:=iL h2;obtain⟨hs,i⟩:=bW g;obtain⟨o,c,j⟩:=ck i;obtain⟨l,h3,rfl⟩:=ee j;exact⟨RI (FK T.un c) (hf _ _ h1) (hf _ _ h3) (J0 hs),Q6 (FK T.un c) (hf _ _ h1) (hf _ _ h3) (J0 hs)⟩
 |none=>
   simp_all
def Bx(hf:∀e x,f e=a_ x->SE X C e x)(h:Lx f ks vs=a_ z):SE X C (.Dict ks vs pos) z:=by
 unfold Lx at h;split at h
 .rename_i q;simp only[ag,i5]at q;obtain⟨rfl,rfl⟩:=q;cases h;exact Ni
 .cases h
def Bv(hf:∀e x,f e=a_ x->SE X C e x)(h:Lr f o=a_ z):SO X C o z:=by
 cases o with
 |none=>cases h;exact M0
 |some e=>
   obtain⟨y,h1,rfl⟩:=ee h;exact MZ (hf _ _ h1)
def Ct{lo st:Option a9}(h:jc b=a_ (lo,hi,st)):∃p,b=.Slice lo hi st p:=by
 cases b with
 |Slice a c d p=>cases h;exact⟨p,rfl⟩
 |_=>cases h
def jU(h:jc b=b_):yZ b:=by
 cases b<;>first|(intro o i;rfl)|cases h
def FJ(T:pz G C S X)(hf:∀e x,f e=a_ x->SE X C e x)(h:Xw f a b=a_ z):SE X C (.Subscript a b pos) z:=by
 obtain⟨i,h1,h⟩:=ck h
 cases hs:jc b with
 |some t=>
   rw[hs]at h;obtain⟨lo,hi,st⟩:=t;obtain⟨j,h2,g⟩:=ck (bW h).2;obtain⟨k,h3,rfl⟩:=ee g;obtain⟨p,rfl⟩:=Ct hs
   cases st with
   |none=>exact Wc (hf _ _ h1) (Bv hf h2) (Bv hf h3)
   |some _=>cases (bW h).1
 |none=>
   rw[hs]at h;refine ac λ_ c=>?_;obtain⟨l,h2,rfl⟩:=ee h;refine c ?_;exact Wh (Zg (aq (Gc T.un) cy)) (hf _ _ h1) (hf _ _ h2) (jU hs)
def Lu(T:pz G C S X)(hf:∀e x,f e=a_ x->SE X C e x)(h:Qu G S f o m ap es cp=a_ z):SE X C (.Call (.Attribute o m ap) es [] cp) z:=by
 obtain⟨a,h⟩:=bW h;obtain⟨xs,h1,h⟩:=ck h;have ha:=j7 hf h1;obtain⟨hb,h⟩:=bW h;obtain⟨b,h0,h⟩:=ck h;obtain⟨c,h2,rfl⟩:=ee h;exact O8 (by have:=T.un;omega) h2 (hf _ _ h0) ha.sa ha.len (λe z=>by subst z;exact cT (by simpa using ha.star)) (λe e2 z=>by subst z;have q:=bB.mp ha.star;exact⟨cT (q e (by simp)),cT (q e2 (by simp))⟩) hb a
def FI(T:pz G C S X)(hf:∀e x,f e=a_ x->SE X C e x)(h:Lp S f x y bt es=a_ z)
  (hl:∀a B(p q O pos:v7),eh a=c_->Gl X x->Gl X y->SE X C a B->SE X C (.Call (.Name x p) [.Call (.Name y q) [a] [] O] [] pos) (.blt bt [B])):SE X C (.Call (.Name x p) es [] pos) z:=by
 obtain⟨e,h1,c⟩:=ck h;obtain⟨⟨d,as⟩,h2,b⟩:=ck c;obtain⟨q,O,rfl⟩:=rZ h2;obtain rfl:=iL h1;split at b
 .rename_i g;obtain rfl:d=y:=g;obtain⟨a,h3,i⟩:=ck b;obtain rfl:as=[a]:=iL h3;obtain⟨hc,j⟩:=bW i;simp only[ag]at hc;obtain⟨B,k,rfl⟩:=ee j;exact hl a B _ _ _ _ hc.2 (kH T hc.1.1) (kH T hc.1.2) (hf _ _ k)
 .cases b
def Hz(T:pz G C S X)(hf:∀e x,f e=a_ x->SE X C e x)(h:DI G S f x es=a_ z):SE X C (.Call (.Name x p) es [] pos) z:=by
 unfold DI at h;split at h
 .rename_i b;subst b;obtain⟨⟨a,t'⟩,h1,c⟩:=ck h;obtain rfl:es=[a,t']:=uN h1;obtain⟨t,h2,d⟩:=ck c;obtain⟨j,h5⟩:=fP h2;obtain rfl:t'=.Name t j:=h5;obtain⟨hc,k⟩:=bW d;simp only[ag]at hc;obtain⟨ty,h3,l⟩:=ck k;obtain⟨i,m,rfl⟩:=ee l;obtain⟨b1,b2,b3,b4⟩:=UW h3;exact RF ty (kH T hc.1.1) (T.blt _ (by decide +kernel)) (kH T hc.1.2) (T.blt _ b2) b1 (hf _ _ m) b4 b3 (cT hc.2) (oz (by rfl))
 .generalize g:(if x="tuple" then Lp S f _ _ _ es else if x="sorted" then Lp S f _ _ _ es else b_)=w at h
  cases w with
  |some w=>
    cases h;split at g
    .rename_i b;subst b;exact FI T hf g λa i _ _ _ _ hs c d ha=>GD T.calm c (T.blt _ (by decide +kernel)) d (T.blt _ (by decide +kernel)) ha (by rw[cT hs];rfl) rfl
    .split at g
     .rename_i b;subst b;exact FI T hf g λa i _ _ _ _ hs c d ha=>Nf T.un T.calm c (T.blt _ (by decide +kernel)) d (T.blt _ (by decide +kernel)) ha (by rw[cT hs];rfl)
     .cases g
  |none=>
    obtain⟨xs,h1,h⟩:=ck h;exact Pa T (j7 hf h1) h
def BA(T:pz G C S X)(hf:∀e x,f e=a_ x->SE X C e x)(h:FL G S f fn es pos=a_ z):SE X C (.Call fn es [] pos) z:=by
 unfold FL at h
 cases a:vH fn with
 |some t=>
   obtain rfl:=se a;exact Lu T hf h
 |none=>
   rw[a]at h;obtain⟨x,h1,h⟩:=ck h;obtain⟨p,rfl⟩:=fP h1;exact Hz T hf h
def AZ(h:Ql gs=a_ g):gs=[⟨g.tg,g.it,g.ifs,0⟩]:=by
 obtain⟨c,h1,a⟩:=ck h;obtain rfl:=iL h1;split at a
 .rename_i b;cases a;cases c;cases b;rfl
 .cases a
set_option tactic.hygienic false
def Bz(Z:Ih G C F)(T:pz G C S X)(h:Qw S F elt g sc=a_ z) :
  ∃tn caps one it xs xe Y,z=.comp tn caps one it xs xe/\∃tl:List bc,tl.length=tn/\jj X sc tl (freeOf sc) one/\SI X C g.tg g.it it/\pN tl.length Y/\Ve X.K tl.length caps Y/\
   (∀(cl:List (bc×aK))(B:ak)(O:Hp)(Ca:aK)(ex:List aK),PG (eQ X sc cl (tl++freeOf sc) B O Ca ex) g.tg Y/\L7 (eQ X sc cl (tl++freeOf sc) B O Ca ex) g.ifs (VE X.K C xs)/\SE (eQ X sc cl (tl++freeOf sc) B O Ca ex) C elt xe)/\rH g.it=c_:=by
 obtain⟨⟨one,tn⟩,h0,h⟩:=ck h;obtain⟨caps,h1,h⟩:=ck h;obtain⟨hc,h⟩:=bW h;simp only[ag]at hc;obtain⟨it,h2,h⟩:=ck h;obtain⟨xs,h3,h⟩:=ck h;obtain⟨xe,k,rfl⟩:=ee h;have d:=Li hc.1;obtain⟨Y,a,i,l⟩:=VO T h0 d;refine⟨_,_,_,it,xs,xe,Y,rfl,tn,rfl,yO T d h1,(Qv T (λe x q=>(Z _ _ _ q X T).1) h2).1,a,i,λcl B O Ca ex=>?_,hc.2⟩;have j:=rq T d cl B O Ca ex;refine⟨l cl B O Ca ex,?_,(Z _ _ _ k _ j).1⟩;generalize g.ifs=ifs at h3
 cases ifs with
 |nil=>cases h3;exact MN
 |cons c r=>
   obtain⟨b,h5⟩:=bW h3;simp only[ag,i5]at b;obtain⟨rfl,b⟩:=b;obtain⟨y,m,rfl⟩:=ee h5;exact MM ((Z _ _ _ m _ j).2 b)
theorem vC:∀n,Ih G C (cE G n)
 |0=>λ_ _ _ h=>by cases h
 |n+1=>λS e z h X T=>by
   have s:=λe x h=>vC n S e x h X T;have hf:=λe x h=>(s e x h).1
   cases e with
   |Constant c k p=>
     obtain⟨d,h1,rfl⟩:=ee h
     have q:SE X C (.Constant c k p) (.con d):=by
      cases c<;>first|(cases h1;first|exact RG|exact Wi|exact RB|exact RA)|cases h1
     exact⟨q,λ_=>k7 q⟩
   |Name x p=>exact⟨Bw T h,λ_=>k7 (Bw T h)⟩
   |BinOp a op b p=>
     have h:(if O2 op a b=c_ then(cE G n S a).bind λl=>(cE G n S b).map _ else(U1 op).bind λo=>(cE G n S a).bind λl=>(cE G n S b).map _)=a_ z:=h;by_cases hc:O2 op a b=c_
     .rw[if_pos hc]at h;obtain⟨l,h1,h⟩:=ck h;obtain⟨m,h2,rfl⟩:=ee h;simp only[O2,ag]at hc;obtain rfl:=He hc.1.1;have q:=RJ (pos:=p) (hf _ _ h1) (hf _ _ h2);exact⟨q,λ_=>k7 q⟩
     rw[if_neg hc]at h;obtain⟨o,h0,h⟩:=ck h;obtain⟨l,h1,h⟩:=ck h;obtain⟨m,h2,rfl⟩:=ee h;have q:=RK (pos:=p) (Pc h0) (hf _ _ h1) (hf _ _ h2);exact⟨q,λ_=>k7 q⟩
   |UnaryOp op a p=>
     cases op with
     |USub=>
       obtain⟨l,h1,rfl⟩:=ee h;have q:=RC (pos:=p) (hf _ _ h1);exact⟨q,λ_=>k7 q⟩
     |Not=>
       obtain⟨l,h1,rfl⟩:=ee (bW h).2;exact⟨Ng (hf _ _ h1),λ_=>Q5 ((s _ _ h1).2 (bW h).1)⟩
     |_=>cases h
   |BoolOp op es p=>
     obtain⟨r,h⟩:=bW h
     cases op with
     |And=>
       obtain⟨xs,h1,h⟩:=ck h;have q:=xn (pos:=p) (j7 s h1) r h;exact⟨q.1,λ_=>q.2.pt⟩
     |Or=>
       obtain⟨xs,h1,h⟩:=ck h;have q:=Ba (pos:=p) (j7 s h1) r h;exact⟨q.1,λ_=>q.2.pt⟩
   |Compare a u bs p=>
     have q:=Ly (pos:=p) T hf h;exact⟨q.1,λ_=>q.2⟩
   |IfExp c a b p=>
     obtain⟨r,h⟩:=bW h;obtain⟨D,h1,h⟩:=ck h;obtain⟨l,h2,h⟩:=ck h;obtain⟨m,h3,rfl⟩:=ee h;exact⟨RE ((s _ _ h1).2 r) (hf _ _ h2) (hf _ _ h3),λz=>by cases z⟩
   |Tuple es k p=>
     obtain⟨xs,h1,rfl⟩:=ee h;have q:=Rz (x1:=k) (pos:=p) (j7 hf h1).sf;exact⟨q,λ_=>k7 q⟩
   |List es p=>
     obtain⟨xs,h1,rfl⟩:=ee h;have q:=RD (pos:=p) (j7 hf h1).sf;exact⟨q,λ_=>k7 q⟩
   |Dict ks vs p=>exact⟨Bx hf h,λ_=>k7 (Bx hf h)⟩
   |Subscript a b p=>exact⟨FJ T hf h,λ_=>k7 (FJ T hf h)⟩
   |Call fn args kws cp=>
     by_cases hk:kws.isEmpty=c_
     .cases kws with
      |nil=>exact⟨BA T hf h,λ_=>k7 (BA T hf h)⟩
      |cons _ _=>cases hk
     .have h:(if kws.isEmpty=c_ then FL G S _ fn _ cp else b_)=a_ z:=h
      grind
   |ListComp elt E sc p=>
     refine ac λ_ f=>?_;obtain⟨g,h1,h⟩:=ck h;obtain rfl:=AZ h1;obtain⟨_,_,_,it,xs,xe,F,rfl,tl,rfl,v,w,y,A,t,B⟩:=Bz (vC n) T h;refine f ?_;have q:=Nj (pos:=p) T.calm v w y A (λcl i j Ca ex=>(t cl i j Ca ex).1) (λcl i j Ca ex=>(t cl i j Ca ex).2.1) (λcl i j Ca ex=>(t cl i j Ca ex).2.2) (ji B);exact⟨q,λ_=>k7 q⟩
   |_=>cases h
end
noncomputable def nA:a9->Bool
 |.ListComp _ _ _ _=>d_
 |.SetComp _ _ _ _=>d_
 |.DictComp _ _ _ _ _=>d_
 |_=>c_
noncomputable def IL(S:Sc)(sc:mI)(cp:v7)(t:bc)(p:v7):Bool:=S.nm.lookup t == a_ .local && p.line == cp.line && !(sc.names.any λ(n,k)=>n == t && (k == .local || k == .cell))
noncomputable def Xy(m:bc)(k:Nat):Option HS:=
 if m="append"/\k=1 then a_ .app else if m="extend"/\k=1 then a_ .ext else b_
def Ju(S:Sc)(e:a9):Option Nat:=(jf e).bind λx=>if(iJ x && rm S x)=c_ then oK x S.N else b_
def Xx(G:Sg)(S:Sc)(f:a9->Option Ex):Option a9->Option Sx
 |none=>b_
 | some e=>match Ju S e with
   |some i=>a_ (.mo i)
   |none=>(f e).map .ret
def sE:a9->Option (bc×a9)
 |.Subscript a ix _=>(jf a).map λx=>(x,ix)
 |_=>b_
def QX:a9->Option (bc×a9×a9)
 |.Subscript a k _=>(sE a).map λz=>(z.1,z.2,k)
 |_=>b_
def U2(S:Sc)(f:a9->Option Ex)(t e:a9):Option Sx:=match jf t with
 |some x=>if wg S x=c_ then(oK x S.N).bind λi=>if i≠0 then(f e).map λxe=>.set i xe else b_ else b_
 | none=>match sE t with
   |some (x,ix)=>if(rm S x && iJ x && (jc ix).isNone && nA e)=c_ then(oK x S.N).bind λi=>(f e).bind λxe=>(f ix).map λxi=>.mut .seti i [xe,xi]else b_
   | none=>match QX t with
    |some (x,ix,k)=>if(rm S x && iJ x && (jc ix).isNone && (jc k).isNone && nA e)=c_ then(oK x S.N).bind λi=>(f e).bind λxe=>(f ix).bind λxi=>(f k).map λa=>.Oe i xi a xe else b_
    |none=>(oW t).bind λtn=>if(tn.2.all (wg S) && !isTup e && !tn.1)=c_ then(sW S.N tn.2).bind λb=>(f e).map λxe=>.VL b xe else b_
structure Mc where
 x:bc
 m:bc
 ap:v7
 args:List a9
 cp:v7
def Tp(e:a9):Option Mc:=(O4 e).bind λc=>(vH c.fn).bind λt=>(jf t.1).bind λx=>if c.kws.isEmpty=c_ then a_ ⟨x,t.2.1,t.2.2,c.args,c.pos⟩else b_
noncomputable def YR:List a9->Option a9
 |[a]=>a_ a
 |_=>b_
structure Mk where
 x:bc
 ix:a9
 ap:v7
 a:a9
 cp:v7
def Tg(e:a9):Option Mk:=(O4 e).bind λc=>(vH c.fn).bind λt=>(sE t.1).bind λz=>(YR c.args).bind λa=>if(c.kws.isEmpty && t.2.1 == "append")=c_ then a_ ⟨z.1,z.2,t.2.2,a,c.pos⟩else b_
def Xz(G:Sg)(S:Sc)(f:a9->Option Ex)(e:a9):Option Sx:=(yT e).bind λc=>match c.2 with
 |a::es=>(jf a).bind λy=>if(iJ c.1 && KO S c.1 && rm S y && iJ y && es.all eh)=c_ then(Du c.1 0 G.fns).bind λb=>(oK y S.N).bind λi=>(tu f es).bind λxs=>if xs.length+1=b.2 then a_ (.VB (b.1+AF) i xs)else b_ else b_
 |[]=>b_
def cExp(G:Sg)(S:Sc)(f:a9->Option Ex)(e:a9):Option Sx:=match Tp e with
 |some c=>if(rm S c.x && iJ c.x && (c.ap.endLine == c.cp.line))=c_ then(oK c.x S.N).bind λi=>(tu f c.args).bind λxs=>(Xy c.m xs.length).map λop=>.mut op i xs else b_
 | none=>match Tg e with
   |some c=>if(rm S c.x && iJ c.x && (jc c.ix).isNone && (c.ap.endLine == c.cp.line) && eh c.a)=c_ then(oK c.x S.N).bind λi=>(f c.ix).bind λxi=>(f c.a).map λb=>if(Di c.ix || (jf c.ix).isSome)=c_ then .Of i xi b else .VA .app i xi [b]else b_
   |none=>Xz G S f e
def LG:i4->Option (a9×a9×v7)
 |.Assign a e p=>(lR a).map λt=>(t,e,p)
 |_=>b_
def O7(S:Sc)(f:a9->Option Ex)(s t:i4):Option Sx:=(LG s).bind λa=>(LG t).bind λb=>(jf a.1).bind λy=>(sE a.2.1).bind λz=>(sE b.1).bind λu=>
 if(decide (u.1=y) && wg S y && rm S y && iJ y && rm S z.1 && iJ z.1 && (jc z.2).isNone && (jc u.2).isNone && nA b.2.1)=c_ then(oK y S.N).bind λt=>(oK z.1 S.N).bind λi=>(f z.2).bind λke=>(f u.2).bind λxi=>(f b.2.1).map λxe=>.Yd t i ke xi xe else b_
def oF(f:i4->Option Sx)(g:i4->i4->Option Sx):List i4->List Sx
 |[]=>[]
 |[s]=>[(f s).getD .MO]
 | s::t::r=>match g s t with
   |some y=>y::oF f g r
   |none=>(f s).getD .MO::oF f g (t::r)
def C9(S:Sc)(f:a9->Option Ex)(it:a9):Option (Nat×Ex):=(sE it).bind λz=>if(rm S z.1 && iJ z.1 && (jc z.2).isNone && !Di z.2)=c_ then(oK z.1 S.N).bind λi=>(f z.2).map λke=>(i,ke)else b_
def cS(G:Sg)(S:Sc):Nat->i4->Option Sx
 |0,_=>b_
 | n+1,st=>match st with
   |.Return v _=>Xx G S (cE G n S) v
   |.Assign f e _=>(lR f).bind λt=>U2 S (cE G n S) t e
   |.Expr e _=>cExp G S (cE G n S) e
   |.If c a b _=>if qx c=c_ then(cE G n S c).map λg=>.ifs g (oF (cS G S n) (O7 S (cE G n S)) a) (oF (cS G S n) (O7 S (cE G n S)) b)else b_
   |.For tg iter body d _=>if d.isEmpty=c_ then(oW tg).bind λt=>if(t.2.all (wg S) && rH iter)=c_ then(sW S.N t.2).bind λf=>match C9 S (cE G n S) iter with|some z=>a_ (.Us t.1 f z.1 z.2 (oF (cS G S n) (O7 S (cE G n S)) body))|none=>(cI S (cE G n S) tg iter).map λit=>.loop t.1 f it (oF (cS G S n) (O7 S (cE G n S)) body)else b_ else b_
   |.While c body d _=>if(d.isEmpty && qx c)=c_ then(cE G n S c).map λg=>.X1 g (oF (cS G S n) (O7 S (cE G n S)) body)else b_
   |_=>b_
section
variable{G:Sg}{X:Cx}
def Fi{f:i4->Option Sx}(hf:∀s y,f s=a_ y->SS X C s y)(s:i4):SS X C s ((f s).getD .MO):=by
 cases q:f s with
 |none=>exact Q8
 |some y=>exact hf _ _ q
theorem g7{f:i4->Option Sx}{g:i4->i4->Option Sx}(hf:∀s y,f s=a_ y->SS X C s y)(B:∀s t y,g s t=a_ y->∀ss xs,yY X C ss xs->yY X C (s::t::ss) (y::xs)):∀(ss:List i4),yY X C ss (oF f g ss)
 |[]=>D8
 |[s]=>zR (Fi hf s) D8
 |s::t::r=>by
   unfold oF
   cases q:g s t with
   |some y=>exact B s t y q _ _ (g7 hf B r)
   |none=>exact zR (Fi hf s) (g7 hf B _)
def CU(h:nA e=c_):swapsWith e t line X.env=pure d_:=by
 cases e<;>first|rfl|cases h
def CL(T:pz G C S X)(ht:S.top=c_)(B:S.N.Nodup)(hi:S.N[i]?=a_ t)(hl:wg S t=c_):PG X (.Name t p) (kr i):=
 Eu (by rwa[T.N]) (by rwa[T.N]) (tU T hl) (.inl (T.fn ht t))
theorem Au(T:pz G C S X)(B:S.top=c_)(Y:S.N.Nodup):∀{es:List a9}{tn:List bc}{O:List Nat},namesOf es=a_ tn->tn.all (wg S)=c_->sW S.N tn=a_ O->VH X es (X8 O)/\O.length=es.length
 |[],tn,O,h,_,hc=>by
   cases h;cases hc;exact⟨Et,rfl⟩
 |e::es,tn,O,h,hl,hc=>by
   obtain⟨t,h0,h⟩:=ck h;obtain⟨a,h1,rfl⟩:=ee h;obtain⟨p,rfl⟩:=fP h0;obtain⟨i,h2,hc⟩:=ck hc;obtain⟨is,h3,rfl⟩:=ee hc;rw[dH,ag]at hl;obtain⟨b,c⟩:=Au T B Y h1 hl.2 h3;exact⟨An (CL T B Y (e9 h2) hl.1) b,congrArg _ c⟩
def II(T:pz G C S X)(B:S.top=c_)(O:S.N.Nodup)(ht:oW tg=a_ (one,tn))(hl:tn.all (wg S)=c_)(hc:sW S.N tn=a_ ts) :
  ∃g,QA X.K one ts g/\PG X tg g:=by
 cases tg with
 |Name t p=>
   cases ht;obtain⟨i,h1,hc⟩:=ck hc;cases hc;exact⟨_,ME,CL T B O (e9 h1) (by simpa using hl)⟩
 |Tuple es k p=>
   obtain⟨a,h1,h⟩:=ee ht;cases h;obtain⟨b,c⟩:=Au T B O h1 hl hc;exact⟨_,IG,JJ T.calm b ((nD h1).1.trans c.symm) (nD h1).2.1⟩
 |_=>cases ht
def O6(T:pz G C S X)(hf:∀e x,f e=a_ x->SE X C e x)(h:Xx G S f v=a_ y):SS X C (.Return v pos) y:=by
 cases v with
 |none=>cases h
 |some e=>
   have h:(match Ju S e with|some i=>a_ _|none=>(f e).map _)=a_ y:=h
   cases a:Ju S e with
   |some i=>
     rw[a]at h;cases h;obtain⟨x,h1,h2⟩:=ck a;obtain⟨p,rfl⟩:=fP h1;obtain⟨hc,h2⟩:=bW h2;rw[ag]at hc;exact MT (by rw[T.N];exact e9 h2) (j6 T hc.2) (fu hc.1).1 (fu hc.1).2.1
   |none=>
     rw[a]at h;obtain⟨xe,h1,rfl⟩:=ee h;exact Q9 (hf _ _ h1)
def rp{ix:a9}(h:nA e=c_):swapsWithSole [.Subscript a ix sp] e line env=pure d_/\swappedStores [.Subscript a ix sp] e env=pure b_:=by
 cases e<;>first|exact⟨rfl,rfl⟩|cases h
def Gr(h:isTup e=d_):swapsWithSole [.Tuple es k tp] e line env=pure d_/\swappedStores [.Tuple es k tp] e env=pure b_:=by
 cases e<;>first|exact⟨rfl,rfl⟩|cases h
def mO{ix:a9}(h:sE t=a_ (x,ix)):∃p sp,t=.Subscript (.Name x p) ix sp:=by
 cases t with
 |Subscript a b sp=>
   obtain⟨x',h1,h2⟩:=ee h;cases h2;obtain⟨p,rfl⟩:=fP h1;exact⟨p,sp,rfl⟩
 |_=>cases h
def MK{ix:a9}(h:QX t=a_ (x,ix,k)):∃p sp B,t=.Subscript (.Subscript (.Name x p) ix sp) k B:=by
 cases t with
 |Subscript a b q=>
   obtain⟨⟨y,z⟩,h1,h2⟩:=ee h;cases h2;obtain⟨p,sp,rfl⟩:=mO h1;exact⟨p,sp,q,rfl⟩
 |_=>cases h
def VP(h:oW t=a_ (d_,tn)):∃es k tp,t=.Tuple es k tp:=by
 cases t with
 |Tuple es k tp=>exact⟨es,k,tp,rfl⟩
 |_=>cases h
def T9{ix:a9}(h:jc ix=b_):∀v,assign (.Subscript o ix p) env v=(do
   let ov <-holding [v] (eval o env);let iv <-holding [v,ov] (eval ix env)
   standAt p
   holding [v,ov,iv] (setItem ov iv v)
   release [v,ov,iv] []):=λv=>by
 cases ix<;>first|rfl|cases h
def UQ(hc:¬nA e=c_)(h:cE G n S e=a_ z):∃elt B sc cp,e=.ListComp elt B sc cp:=by
 cases n with
 |zero=>cases h
 |succ n=>
   cases e with
   |ListComp elt B sc cp=>exact⟨_,_,_,_,rfl⟩
   |SetComp _ _ _ _=>cases h
   |DictComp _ _ _ _ _=>cases h
   |_=>exact absurd rfl hc
def O5(h0:i≠0)(T:pz G C S X)(top:S.top=c_)(nd:S.N.Nodup)(hl:wg S x=c_)(h1:oK x S.N=a_ i)(h2:cE G n S e=a_ xe):SS X C (.Assign [.Name x p] e pos) (.set i xe):=by
 have d:X.N.Nodup:=by rwa[T.N]
 have hi:X.N[i]?=a_ x:=by rw[T.N];exact e9 h1
 have q:=(vC n S e xe h2 X T).1;by_cases hc:nA e=c_
 .exact IS h0 d hi (tU T hl) q (CU hc) (.inl (T.fn top x))
 .obtain⟨elt,h,sc,cp,rfl⟩:=UQ hc h2
  have c:swapsWith (.ListComp elt h sc cp) (a_ (.Name x p)) pos.line X.env=pure (IL S sc cp x p):=by
   unfold swapsWith IL;have hb:X.env.blockKind=.function:=by unfold Env.blockKind;rw[T.kind];rfl
   simp only[pure_bind,hb,rj,T.nm];rfl
  cases hb:IL S sc cp x p with
  |false=>
    rw[hb]at c;exact IS h0 d hi (tU T hl) q c (.inl (T.fn top x))
  |true=>
    rw[hb]at c
    cases n with
    |zero=>cases h2
    |succ n=>
      refine ac λ_ t=>?_;obtain⟨g,h3,j⟩:=ck h2;obtain rfl:=AZ h3;obtain⟨_,_,_,it,xs,xe,s,rfl,tl,rfl,k,l,m,o,f,r⟩:=Bz (vC n) T j;refine t ?_;exact Cr h0 d hi (tU T hl) T.calm k l m o (λcl a b Ca ex=>(f cl a b Ca ex).1) (λcl a b Ca ex=>(f cl a b Ca ex).2.1) (λcl a b Ca ex=>(f cl a b Ca ex).2.2) c (ji r) (.inl (T.fn top x))
set_option tactic.hygienic true
def Pd(T:pz G C S X)(top:S.top=c_)(nd:S.N.Nodup)(h:U2 S (cE G n S) t e=a_ y):SS X C (.Assign [t] e pos) y:=by
 have hf:=λe x(h)=>(vC n S e x h X T).1;unfold U2 at h
 cases ht:jf t with
 |some x=>
   obtain⟨p,rfl⟩:=fP ht;obtain⟨hl,d⟩:=bW h;obtain⟨i,h1,b⟩:=ck d;split at b
   .rename_i h0;obtain⟨xe,h2,rfl⟩:=ee b;exact O5 h0 T top nd hl h1 h2
   .cases b
 |none=>
   rw[ht]at h
   cases hs:sE t with
   |some z=>
     obtain⟨x,ix⟩:=z;obtain⟨p,sp,rfl⟩:=mO hs;obtain⟨hc,d⟩:=bW h;simp only[ag,c6]at hc;refine ac λ_ m=>?_;obtain⟨⟨⟨q,hp⟩,f⟩,j⟩:=hc;obtain⟨i,h1,b⟩:=ck d;obtain⟨xe,h2,l⟩:=ck b;obtain⟨xi,h3,rfl⟩:=ee l;obtain⟨d1,d2,d3⟩:=fu hp;refine m ?_;have c:=rp (line:=pos.line) (env:=X.env) (a:=.Name x p) (ix:=ix) (sp:=sp) j;exact MS (uG (hf _ _ h2) (CM (my (pos:=p) (by rw[T.N];exact e9 h1) (j6 T q) d1 d2) (hf _ _ h3) (xX (ig T.un)) (T9 f)) c.1 c.2 rfl)
   |none=>
    rw[hs]at h
    cases o:QX t with
    |some z=>
     obtain⟨x,ix,k⟩:=z;obtain⟨p,sp,r,rfl⟩:=MK o;obtain⟨hc,d⟩:=bW h;simp only[ag,c6]at hc;obtain⟨⟨⟨⟨q,hp⟩,f⟩,s⟩,j⟩:=hc;obtain⟨i,h1,b⟩:=ck d;obtain⟨xe,h2,l⟩:=ck b;obtain⟨xi,h3,u⟩:=ck l;obtain⟨B,v,rfl⟩:=ee u;have c:=rp (line:=pos.line) (env:=X.env) (a:=.Subscript (.Name x p) ix sp) (ix:=k) (sp:=r) j;exact Rb (uG (hf _ _ h2) (CM (wU qD (my (by rw[T.N];exact e9 h1) (j6 T q) (fu hp).1 (fu hp).2.1) (hf _ _ h3) (jU f)) (hf _ _ v) (xX (by have:=T.un;exact ig this)) (T9 s)) c.1 c.2 rfl)
    |none=>
     rw[o]at h;obtain⟨⟨one,tn⟩,h0,d⟩:=ck h;obtain⟨hl,b⟩:=bW d;simp only[ag,jP]at hl;refine ac λ_ m=>?_;obtain⟨D,h1,l⟩:=ck b;obtain⟨xe,h3,rfl⟩:=ee l;obtain⟨g,w,A⟩:=II T top nd h0 hl.1.1 h1;obtain rfl:one=d_:=hl.2;obtain⟨es,k,tp,rfl⟩:=VP h0;refine m ?_;have c:=Gr (line:=pos.line) (env:=X.env) (es:=es) (k:=k) (tp:=tp) hl.1.2;exact Q7 (hf _ _ h3) w A c.1 c.2 rfl
def Oj(h:Tp e=a_ c):∃p,e=.Call (.Attribute (.Name c.x p) c.m c.ap) c.args [] c.cp:=by
 refine ac λ_ d=>?_;obtain⟨⟨fn,as,kws,cp⟩,h0,g0⟩:=ck h;obtain⟨⟨o,m,ap⟩,h1,a⟩:=ck g0;obtain⟨x,h2,b⟩:=ck a;cases (bW b).2;obtain⟨p,f⟩:=fP h2;obtain rfl:o=.Name x p:=f;obtain rfl:kws=[]:=i5.mp (bW b).1;obtain rfl:fn=.Attribute _ m ap:=se h1;refine d ?_;exact⟨p,yU h0⟩
def Og(h:Tg e=a_ c):∃p sp,e=.Call (.Attribute (.Subscript (.Name c.x p) c.ix sp) "append" c.ap) [c.a] [] c.cp:=by
 obtain⟨⟨fn,args,kws,cp⟩,h0,g⟩:=ck h;obtain⟨⟨o,m,ap⟩,h1,g⟩:=ck g;obtain⟨⟨x,ix⟩,h2,g⟩:=ck g;obtain⟨a,h3,g⟩:=ck g;obtain⟨hk,g⟩:=bW g;cases g;simp only[ag,beq_iff_eq]at hk;obtain⟨p,sp,d⟩:=mO h2;obtain rfl:o=.Subscript _ ix sp:=d;obtain rfl:kws=[]:=i5.mp hk.1;obtain rfl:m="append":=hk.2;obtain rfl:fn=.Attribute (.Subscript _ ix sp) "append" ap:=se h1
 match args,h3 with
 |[f],h3=>cases h3;exact⟨p,sp,yU h0⟩
def BF(h:LG s=a_ z):s=.Assign [z.1] z.2.1 z.2.2:=by
 cases s with
 |Assign a e p=>
   obtain⟨t,h1,rfl⟩:=ee h;rw[iL h1]
 |_=>cases h
def Lq(T:pz G C S X)(top:S.top=c_)(nd:S.N.Nodup)(hf:∀e x,f e=a_ x->SE X C e x)(h:O7 S f s t=a_ y)(h3:yY X C ss xs):yY X C (s::t::ss) (y::xs):=by
 refine ac λ_ K=>?_;obtain⟨⟨D,e1,E⟩,n,h⟩:=ck h;obtain⟨⟨F,e2,o⟩,p,h⟩:=ck h;obtain⟨v,q,h⟩:=ck h;obtain⟨⟨x,ix⟩,r,h⟩:=ck h;obtain⟨⟨b,k⟩,u,h⟩:=ck h;obtain⟨hc,h⟩:=bW h;refine K ?_;simp only[ag,c6,decide_eq_true_eq]at hc;refine ac λ_ K=>?_;obtain⟨⟨⟨⟨⟨⟨⟨⟨ev,hl⟩,w⟩,hp⟩,c⟩,d⟩,g⟩,j⟩,l⟩:=hc;obtain⟨z,b1,h⟩:=ck h;obtain⟨i,b2,h⟩:=ck h;obtain⟨ke,b3,h⟩:=ck h;obtain⟨xi,b4,h⟩:=ck h;obtain⟨xe,b5,rfl⟩:=ee h;obtain rfl:b=v:=ev;obtain⟨H,rfl⟩:=fP q;obtain⟨I,J,rfl⟩:=mO r;obtain⟨A,B,rfl⟩:=mO u;refine K ?_;rw[BF n,BF p];have m:=rp (line:=o.line) (env:=X.env) (a:=.Name b A) (ix:=k) (sp:=B) l
 exact MQ (uG (wU qD (my (by rw[T.N];exact e9 b2) (j6 T c) (fu d).1 (fu d).2.1) (hf _ _ b3) (jU g)) (CL T top nd (e9 b1) hl) rfl rfl rfl)
  (uG (hf _ _ b5) (CM (my (by rw[T.N];exact e9 b1) (j6 T w) (fu hp).1 (fu hp).2.1) (hf _ _ b4) (xX (by have:=T.un;omega)) (T9 j)) m.1 m.2 rfl) h3
def O9(T:pz G C S X)(hf:∀e x,f e=a_ x->SE X C e x)(h:Xz G S f e=a_ y):SS X C (.Expr e pos) y:=by
 obtain⟨⟨g,as⟩,l,h⟩:=ck h;obtain⟨p,q,rfl⟩:=rZ l
 cases as with
 |nil=>cases h
 |cons a es=>
   have h:(jf a).bind (λy=>if(iJ g && KO S g && rm S y && iJ y && es.all eh)=c_ then(Du g 0 _).bind λd=>(oK y _).bind λi=>(tu f es).bind λxs=>if xs.length+1=d.2 then a_ (Sx.VB _ i xs)else b_ else b_)=a_ y:=h;obtain⟨v,o,h⟩:=ck h;obtain⟨hc,h⟩:=bW h;simp only[ag]at hc;obtain⟨⟨⟨⟨r,b⟩,s⟩,hp⟩,c⟩:=hc;obtain⟨⟨j,n⟩,t,h⟩:=ck h;obtain⟨i,u,h⟩:=ck h;obtain⟨xs,w,h⟩:=ck h;split at h
   .rename_i z;refine ac λ_ H=>?_;cases h;obtain⟨E,rfl⟩:=fP o;obtain⟨m,e1,e2⟩:=vj t;obtain⟨k,f',fd,ps,F,A,B,hk,hb⟩:=T.fns m g n e2;refine H ?_;rw[ic]at e1;subst e1;exact Rf F.2 A (kH T b) B hk hb (my (by rw[T.N];exact e9 u) (j6 T s) (fu hp).1 (fu hp).2.1) (j7 hf w).sa z (fu r).1 (cT rfl) (oz c)
   .cases h
def G6(T:pz G C S X)(hf:∀e x,f e=a_ x->SE X C e x)(h:C9 S f e=a_ z):PE X e (IJ (GS X.K) (tm z.1) (gE X.K C z.2)):=by
 obtain⟨⟨x,ix⟩,h1,h⟩:=ck h;obtain⟨p,sp,rfl⟩:=mO h1;obtain⟨hc,h⟩:=bW h;simp only[ag,c6]at hc;refine ac λ_ c=>?_;obtain⟨⟨⟨b,hp⟩,a⟩,_⟩:=hc;obtain⟨i,h2,h⟩:=ck h;obtain⟨ke,h3,rfl⟩:=ee h;refine c ?_;exact wU qD (my (by rw[T.N];exact e9 h2) (j6 T b) (fu hp).1 (fu hp).2.1) (hf _ _ h3) (jU a)
def Pb(T:pz G C S X)(hf:∀e x,f e=a_ x->SE X C e x)(h:cExp G S f e=a_ y):SS X C (.Expr e pos) y:=by
 unfold cExp at h
 cases j:Tp e with
 |none=>
   rw[j]at h
   cases hk:Tg e with
   |none=>
     rw[hk]at h;exact O9 T hf h
   |some c=>
     rw[hk]at h;obtain⟨p,sp,rfl⟩:=Og hk;obtain⟨x,ix,ap,a,cp⟩:=c;obtain⟨hc,l⟩:=bW h;simp only[ag,c6]at hc;refine ac λ_ u=>?_;obtain⟨⟨⟨⟨q,hp⟩,k⟩,g⟩,r⟩:=hc;obtain⟨i,h1,n⟩:=ck l;obtain⟨xi,h2,o⟩:=ck n;obtain⟨s,h3,rfl⟩:=ee o;refine u ?_;have d:=my (pos:=p) (by rw[T.N];exact e9 h1) (j6 T q) (fu hp).1 (fu hp).2.1;have b:aS _ X.env=(d_,eval a _)::aS [] _:=cT r;by_cases t:(Di ix || (jf ix).isSome)=c_
     .rw[if_pos t];exact Rc Dn (qt (uL jh i7 lZ rM (wU qD d (hf _ _ h2) (jU k)) (o5 (hf _ _ h3) yh b) rfl (by rw[b];rfl) g b rfl) rfl)
     rw[if_neg t];exact Ra (by simp) (by simp) (by simp) Dn (qt (uL jh i7 lZ rM (wU (T7 (by have:=T.un;omega)) d (hf _ _ h2) (jU k)) (Ea (hf _ _ h3) Jc b) rfl (by rw[b];rfl) g b rfl) rfl)
 |some c=>
   rw[j]at h;obtain⟨p,rfl⟩:=Oj j;obtain⟨x,m,ap,args,cp⟩:=c;obtain⟨hc,l⟩:=bW h;simp only[ag]at hc;obtain⟨⟨q,hp⟩,g⟩:=hc;obtain⟨i,h1,n⟩:=ck l;obtain⟨xs,h2,o⟩:=ck n;obtain⟨op,h3,rfl⟩:=ee o;have ha:=j7 hf h2;have d:=my (pos:=p) (by rw[T.N];exact e9 h1) (j6 T q) (fu hp).1 (fu hp).2.1;clear h l n o j h2;unfold Xy at h3;split at h3
   .rename_i j;obtain⟨rfl,hk⟩:=j;cases h3;obtain⟨s,rfl⟩:=BV.mp hk;obtain⟨e,rfl,hs,he⟩:=ha.one;exact MU (by simp) (by simp) (by simp) Dn (qt (uL jh i7 lZ rM d ha.sf rfl (by rw[(cT hs)];rfl) g (cT hs) rfl) rfl)
   split at h3
   .rename_i j;obtain⟨rfl,hk⟩:=j;cases h3;obtain⟨s,rfl⟩:=BV.mp hk;obtain⟨e,rfl,hs,he⟩:=ha.one;exact Rh (qt (uL jh l5 PySem.F.type_list_extend Tf d ha.sf rfl (by rw[(cT hs)];rfl) g (cT hs) rfl) rfl)
   .cases h3
set_option tactic.hygienic false
theorem Qs(T:pz G C S X)(top:S.top=c_)(nd:S.N.Nodup):∀(n:Nat)(st:i4)(y:Sx),cS G S n st=a_ y->SS X C st y
 |0,_,_,h=>by cases h
 |n+1,st,y,h=>by
   have m:=λe x(h)=>vC n S e x h X T;have hf:=λe x h=>(m e x h).1;have hs:=Qs T top nd n;have i:=λs t y(h:O7 S _ s t=a_ y)ss xs=>Lq (ss:=ss) (xs:=xs) T top nd hf h
   cases st with
   |Return v p=>exact O6 T hf h
   |Assign r e p=>
     obtain⟨t,h1,j⟩:=ck h;obtain rfl:=iL h1;exact Pd T top nd j
   |Expr e p=>exact Pb T hf h
   |If c a b p=>
     obtain⟨B,h1,rfl⟩:=ee (bW h).2;exact V7 ((m _ _ h1).2 (bW h).1) (g7 hs i _) (g7 hs i _)
   |For tg iter body o p=>
     obtain⟨he,j⟩:=bW h;obtain rfl:=i5.mp he;obtain⟨⟨one,tn⟩,h0,D⟩:=ck j;obtain⟨hc,E⟩:=bW D;rw[ag]at hc;obtain⟨r,h1,k⟩:=ck E;obtain⟨g,d,f⟩:=II T top nd h0 hc.1 h1;have hp:pk (aI X.prog X.w) X.A X.env X.xe:=by rw[T.xe];exact DU
     cases q:C9 S _ _ with
     |some z=>
       rw[q]at k;cases k;exact Rg hp T.calm (G6 T hf q) f d (g7 hs i _) (ji hc.2)
     |none=>
     rw[q]at k;obtain⟨it,h2,rfl⟩:=ee k;obtain⟨l,F⟩:=Qv T hf h2
     cases it with
     |itv a=>exact MV hp T.calm (F a rfl) f d (g7 hs i _) (ji hc.2)
     |rng es=>exact xS hp T.calm l (λa z=>nomatch z) f d (g7 hs i _) (ji hc.2)
     |zip es=>exact xS hp T.calm l (λa z=>nomatch z) f d (g7 hs i _) (ji hc.2)
     |enu a=>exact xS hp T.calm l (λa z=>nomatch z) f d (g7 hs i _) (ji hc.2)
     |rev a=>exact xS hp T.calm l (λa z=>nomatch z) f d (g7 hs i _) (ji hc.2)
   |While c body o p=>
     obtain⟨hc,j⟩:=bW h;rw[ag]at hc;obtain rfl:=i5.mp hc.1;obtain⟨B,h1,rfl⟩:=ee j;exact IQ (by rw[T.xe];exact DU) ((m _ _ h1).2 hc.2) (g7 hs i _)
   |_=>cases h
end
structure Df where
 st:i4
 p:Nat
 n:Nat
 body:List Sx
noncomputable def Df.name(d:Df):bc:=match d.st with
 |.FunctionDef x _ _ _ _ _ _ _ _ _=>x
 |_=>""
def Df.ps(d:Df):List bc:=(yK d.st).args.map λa=>a.arg
def Df.N(d:Df):List bc:=d.ps++((cD d.st).names.filterMap λp=>if(p.2 == .local || p.2 == .cell) && !(d.ps.contains p.1)then a_ p.1 else b_)
def Cn(D:List Df):Nat->Fs
 |0=>λ_ _=>b_
 | n+1=>λj ds=>match D[j]? with
   |some d=>Uu (Cn D n) d.p d.n d.body ds
   | none=>if AF<=j then match D[j - AF]? with
     |some d=>X9 (Cn D n) d.p d.n d.body ds
     |none=>b_
     else b_
def M9(D:List Df)(con:List (bc×Dat)):Sg:=⟨D.map λd=>(d.name,d.p),con⟩
structure Vo(G:Sg)(d:Df):Prop where
 sc:pf d.N d.ps (cD d.st)
 pn:d.ps.length=d.p
 nn:d.N.length=d.n
 cmp:oF (cS G ⟨d.N,(cD d.st).names,c_⟩ 40) (O7 ⟨d.N,(cD d.st).names,c_⟩ (cE G 40 ⟨d.N,(cD d.st).names,c_⟩)) (lU d.st)=d.body
section
variable{K:Fg}{mg:bc->Option aj}{base:cg}
structure At(K:Fg)(mg:bc->Option aj)(d:Df)(f:aK)(fd:jG):Prop where
 fn:XU K d.name d.name d.st f fd
 mgf:mg d.name=a_ (.ref f)
 bd:∀us:List aj,us.length=d.ps.length->bindArgs fd ⟨us,[]⟩=pure (d.ps.zip us)
def Wn(K:Fg)(d:Df):Option (aK×aj×Option aK×jG×Array (Option aj)):=match nc K mainGlobals d.name with
 | some (a_ (.ref f))=>match K.lookup f with
   |some ⟨oc,od,.func fd,l⟩=>a_ (f,oc,od,fd,l)
   |_=>b_
 |_=>b_
def fnK(d:Df)(kV doc pm:aj)(an:Option aK)(cdv ct:aj):jG:=qf d.name d.name (yK d.st) (lU d.st) (cD d.st) .none kV doc pm an cdv ct
def ZW(K:Fg)(d:Df):Bool:=match Wn K d with
 |some x=>t6 K x.2.2.2.1.code d.name && fB K (.ref x.1)
 |none=>d_
def ZV(K:Fg)(d:Df):Option jG:=(Wn K d).map λx=>x.2.2.2.1
def ZU(K:Fg)(d:Df):Option jG:=(Wn K d).map λx=>fnK d x.2.2.2.1.kwdefaults x.2.2.2.1.doc x.2.2.2.1.pyModule x.2.2.2.1.annotations x.2.2.2.1.code x.2.2.2.1.closureTuple
set_option tactic.hygienic true in
def Vc{D:List Df}(X:K.In h)(G:h.Ns mainGlobals mg)(h1:D.map (ZV K)=D.map (ZU K))(h2:D.all (ZW K)=c_)(h3:∀(kV doc pm:aj) (an:Option aK) (cdv ct:aj) (u:Nat->aj),D.map (λd=>bindArgs (fnK d kV doc pm an cdv ct) ⟨(aR d.ps.length).map u,[]⟩)=D.map λd=>pure (d.ps.zip ((aR d.ps.length).map u))) :
  ∀d∈D,∃f fd,At K mg d f fd:=λd hd=>by
 have e1:=su.mp h1 d hd;have e2:=bB.mp h2 d hd;unfold ZW at e2;unfold ZV ZU at e1
 cases e:Wn K d with
 |none=>rw[e]at e2;cases e2
 |some x=>
   obtain⟨f,oc,od,fd,l⟩:=x;rw[e]at e1 e2;have e1 :=bA e1;unfold Wn at e;split at e
   .rename_i f' a;split at e
    .rename_i b;refine ac λ_ c=>?_;cases e;refine c ?_;refine⟨f,fd,⟨⟨_,_,_,_,_,_,_,_,_,e1,b,(iZ.mp e2).1⟩,(iZ.mp e2).2⟩,LN X G a,λus g=>?_⟩;have:=su.mp (h3 fd.kwdefaults fd.doc fd.pyModule fd.annotations fd.code fd.closureTuple λi=>us.getD i .none) d hd
     have q:(aR d.ps.length).map (λi=>us.getD i .none)=us:=by
      refine kA (by rw[aA,a6,g]) λi h1 h2=>?_;rw[LX,HL,List.getD_eq_getElem?_getD,af h2];rfl
     rw[q]at this;exact(congrArg (λz=>bindArgs z _) e1).trans this
    .cases e
   .cases e
structure Here(K:Fg)(mg:bc->Option aj)(D:List Df)(con:List (bc×Dat)):Prop where
 ok:∀d∈D,Vo (M9 D con) d
 fn:∀d∈D,∃f fd,At K mg d f fd
 ln:D.length<=AF
 blt:∀x∈lr,mg x=b_
 con:∀x d,con.lookup x=a_ d->∃v u,mg x=a_ u/\RelV v u/\CV K d v
theorem LH{D:List Df}{con:List (bc×Dat)}(T:Here K mg D con):∀(n j:Nat)(d:Df)(f:aK)(fd:jG),D[j]?=a_ d->At K mg d f fd->lE P w K mg base zg n f fd d.ps (nQ K d.ps.length (Cn D n j))/\lE P w K mg base zg n f fd d.ps (Vv K d.ps.length (Cn D n (j+AF)))
 |0,j,d,f,fd,k,_=>by
   have p:∀vs H Q E,¬nQ K d.ps.length (Cn D 0 j) vs H Q E:=λvs H Q E h=>by
    obtain⟨_,ds,z,fr,h,_⟩:=h;cases h
   have b:∀vs H Q E,¬Vv K d.ps.length (Cn D 0 (j+AF)) vs H Q E:=λvs H Q E h=>by
    obtain⟨_,d,ds,e,fr,v,us,S,F,_,h,_⟩:=h;cases h
   exact⟨⟨λvs H Q E h=>absurd h (p vs H Q E),λA outer s H args us vs Q E _ _ _ _ h=>absurd h (p vs H Q E)⟩,⟨λvs H Q E h=>absurd h (b vs H Q E),λA outer s H args us vs Q E _ _ _ _ h=>absurd h (b vs H Q E)⟩⟩
 |n+1,j,d,f,fd,k,at_=>by
   have ok:=T.ok d (aX k)
   have e:Cn D (n+1) j=Uu (Cn D n) d.ps.length d.N.length d.body:=by
    funext ds;simp only[Cn,k,ok.pn,ok.nn]
   have r:Cn D (n+1) (j+AF)=X9 (Cn D n) d.ps.length d.N.length d.body:=by
    funext ds;simp only[Cn,(kj (aa T.ln (iw _ _))),if_pos (iw AF j),Nat.add_sub_cancel,k,ok.pn,ok.nn]
   rw[e,r];have c:d.ps.length<=d.N.length:=by have:=congrArg fD ok.sc.pre;grind
   have hb:∀(cdv:aj)(A:cc)(outer:List LS)(s:ak)(H:Hp)(E:XK),lz n (A.deeper (envOfC _ (cD _) _ f _))->yY (wo zg P w K mg _ _ _ (cD _) f _ A _ s H E).P9 _ (lU _) _:=λcdv A outer s H E q=>by
    have S:pz (M9 D con) (Cn D n) ⟨d.N,(cD d.st).names,c_⟩ (wo zg P w K mg base d.N d.name (cD d.st) f cdv A outer s H E).P9:=by
     refine⟨rfl,rfl,ok.sc.kind,rfl,?_,rfl,λ_ _=>rfl,λi x m hi=>?_,T.blt,T.con⟩
     .show(A.deeper _).units+21<dM;exact ig q.units
     .have o:∃d',D[i]?=a_ d'/\x=d'.name/\m=d'.ps.length:=by
       unfold M9 at hi;rw[aO]at hi;obtain⟨d',e1,e2⟩:=ee hi;cases e2;exact⟨d',e1,rfl,(T.ok d' (aX e1)).pn.symm⟩
      obtain⟨d',e1,rfl,rfl⟩:=o;obtain⟨f',g,a⟩:=T.fn d' (aX e1);exact⟨n,f',g,_,LH T n i d' f' g e1 a,q,a.mgf,a.fn.kp,.all a.bd⟩
    exact ok.cmp▸g7 (Qs S rfl ok.sc.nd 40) (λs t y h ss xs=>Lq S rfl ok.sc.nd (λe x h=>(vC 40 _ e x h _ S).1) h) _
   exact⟨Ur at_.fn ok.sc c hb,Uq at_.fn ok.sc c hb⟩
def IV(K:Fg):Sp:=λvs H Q _=>∃(a:aK) (ns:List Int),vs=[.ref a]/\mH K H a (ns.map V.int)/\ns.length<=63/\∀H',Q (.bl c_) H'
def GP(ns:List Int):cQ K F (ns.map Dat.int) (ns.map V.int):=by
 induction ns with
 |nil=>exact rfl
 |cons n r a=>exact⟨_,_,rfl,rfl,a⟩
def TM{D:List Df}{con:List (bc×Dat)}(T:Here K mg D con)(B:D[j]?=a_ d)(at_:At K mg d f fd)(hp:d.ps.length=1)
  (O:∀ns:List Int,ns.length<=63->∃fr,Cn D n j [.lst (ns.map Dat.int)]=a_ (.bl c_,fr)):lE P w K mg base zg n f fd d.ps (IV K):=
 lE.imp (LH T n j d f fd B at_).1 λvs H Q E z4=>by
  obtain⟨a,ns,rfl,b,hl,q⟩:=z4;obtain⟨fr,h⟩:=O ns hl;refine⟨by rw[hp];rfl,_,_,fr,h,H,⟨bO.refl _,λ_ _ z=>z⟩,⟨_,_,rfl,⟨a,_,rfl,b,GP ns⟩,rfl⟩,λv F' H' _ r _=>?_⟩;rw[r];exact q H'
def TL{D:List Df}{con:List (bc×Dat)}{l:ja}(T:Here K mg D con)(Y:D[j]?=a_ d)(B:d.ps=[x])(O:mg d.name=a_ (.ref fa))
  (Z:∀ns:List Int,ns.length<=63->∃fr,Cn D n j [.lst (ns.map Dat.int)]=a_ (.bl c_,fr)) :
  ∃fd:jG,(∀(s:ak)(u:aj),BQ s fd ⟨[u],[]⟩ [(x,u)])/\∀base:cg,K.In base->base.Ns mainGlobals mg->lE l.prog w K mg base zg n fa fd [x] (IV K):=by
 refine ac λ_ a=>?_;obtain⟨f,fd,at_⟩:=T.fn d (aX Y);have e:=O.symm.trans at_.mgf
 cases e;refine a ?_;refine⟨fd,λs u=>?_,λbase _ _=>?_⟩
 .have:=at_.bd [u] (by rw[B];rfl)
  rw[B]at this;exact .of_eq this
 .have:=TM (P:=l.prog) (w:=w) (base:=base) T Y at_ (by rw[B];rfl) Z
  simp_all
def walk{l:ja}{d:DefRec}{K:Params->Fg}(Y:l.most=a_ 63)(hk:lz n callerA)(B:d.params.defaults=[])
  (Z:∀(w:dh)(h:cg),YP w h->(K w.params).In h)
  (F:∀(w:dh)(mg:bc->Option aj)(O:aK)(h:cg),(K w.params).In h->h.Ns mainGlobals mg->mg d.name=a_ (.ref O)->
   ∃fd:jG,(∀(s:ak)(u:aj),BQ s fd ⟨[u],[]⟩ [(x,u)])/\∀base:cg,(K w.params).In base->base.Ns mainGlobals mg->lE l.prog w (K w.params) mg base zg n O fd [x] (IV (K w.params))) :
  vZ q loose XP YP l.row.toRowW d [] (λf vs=>F8 f vs):=
 L2.My Y cy B hk Z F (λ_ _ a ns hl _ b=>⟨a,ns,rfl,b,hl,λ_=>rfl⟩) λ_ _ _ _ _ z=>z
end
def Pe{K:Fg}(X:K.In h)(G:h.Ns mainGlobals mg)(z:lr.map (λx=>nc K mainGlobals x)=bD 20 (a_ b_)):∀x∈lr,mg x=b_:=λx a=>by
 have q:nc K mainGlobals x∈lr.map (λx=>nc K _ x):=bQ.mpr ⟨x,a,rfl⟩;rw[z]at q;exact PySem.W.mg_none_of X G (List.eq_of_mem_replicate q)
def dfL(G:Sg)(d:Df):ScopeKind×Bool×Bool×Bool×Nat×Nat×List Sx:=((cD d.st).kind,(cD d.st).isCoroutine,(cD d.st).isGenerator,decide (d.N.Nodup/\(∀x∈d.ps,(cD d.st).names.lookup x=a_ .local\/(cD d.st).names.lookup x=a_ .cell)/\∀y∈(cD d.st).names,y.2≠.free),d.ps.length,d.N.length,oF (cS G ⟨d.N,(cD d.st).names,c_⟩ 40) (O7 ⟨d.N,(cD d.st).names,c_⟩ (cE G 40 ⟨d.N,(cD d.st).names,c_⟩)) (lU d.st))
def SU{G:Sg}{D:List Df}(h:D.map (dfL G)=D.map λd=>(.function,d_,d_,c_,d.p,d.n,d.body)):∀d∈D,Vo G d:=λd hd=>by
 have e:=su.mp h d hd;unfold dfL at e;simp only[v9]at e;obtain⟨e1,e2,e3,f,e5,g,i⟩:=e;obtain⟨a,b,c⟩:=of_decide_eq_true f;exact⟨⟨e1,e2,e3,a,List.take_left' rfl,b,c⟩,e5,g,i⟩
end M
namespace K33
open PySem L2 M
noncomputable def top(i:Nat):i4:=PySem.Challenge.pw_dots_k33_is_written.main.body.getD i (.Pass ⟨0,0,0,0⟩)
def b0:List Sx:=[.ret (.cmp .isin (.v 0) (.con (.tup [.str (ab "out"),.str (ab "done"),.str (ab "num")])))]
def b1:List Sx:=[.ret (.comp 1 c_ [] (.itv (.tup [.f_ "out",.f_ "done",.f_ "num"])) [] (.tup [.v 0,.f_ " ",.tup [.e_ 0],.f_ "out"]))]
def b2:List Sx:=[.ifs (.cmp .eq (.v 1) (.tup [])) [.ret (.lst [])] [],.set 2 (.lst [.tup [.f_ "num",.f_ "",.ix (.v 0) (.e_ 3),.f_ "let"]]),.loop d_ [3,4] (.zip [.f_ "0123456789",.v 1]) [.mut .app 2 [.tup [.f_ "out",.v 3,.bin .add (.ix (.v 0) (.e_ 2)) (.tup [.v 4]),.f_ "num"]],.mut .app 2 [.tup [.f_ "done",.v 3,.bin .add (.ix (.v 0) (.e_ 2)) (.tup [.v 4]),.f_ "num"]],.mut .app 2 [.tup [.f_ "num",.v 3,.tup [.v 4],.f_ "num"]]],.mo 2]
def b3:List Sx:=[.set 1 (.lst []),.loop d_ [2,3,4] (.itv (.v 0)) [.loop d_ [5,6,7] (.itv (.con (.tup [.tup [.str (ab "w"),.str (ab "out"),.str (ab "done")],.tup [.str (ab "w"),.str (ab "let"),.str (ab "done")],.tup [.str (ab "b"),.str (ab "out"),.str (ab "in")],.tup [.str (ab "b"),.str (ab "let"),.str (ab "in")],.tup [.str (ab "m"),.str (ab "in"),.str (ab "in")],.tup [.str (ab "e"),.str (ab "in"),.str (ab "done")]]))) [.ifs (.cmp .isin (.v 5) (.v 4)) [.mut .app 1 [.tup [.v 6,.v 2,.v 3,.v 7]]] []]],.mo 1]
def b4:List Sx:=[.ret (.comp 4 d_ [1] (.itv (.v 0)) [] (.tup [.v 0,.bin .add (.eU .upper (.ix (.v 1) (.e_ 0)) []) (.sl (.v 1) (a_ (.e_ 1)) b_),.bin .add (.v 4) (.v 2),.v 3]))]
def b5:List Sx:=[.set 2 (.lst []),.loop d_ [3,4,5] (.itv (.v 0)) [.loop d_ [6,7,8] (.itv (.con (.tup [.tup [.str (ab "w"),.str (ab "out"),.str (ab "done")],.tup [.str (ab "w"),.str (ab "let"),.str (ab "done")],.tup [.str (ab "b"),.str (ab "out"),.str (ab "all")],.tup [.str (ab "b"),.str (ab "let"),.str (ab "all")],.tup [.str (ab "m"),.str (ab "all"),.str (ab "all")],.tup [.str (ab "e"),.str (ab "all"),.str (ab "done")]]))) [.ifs (.and (.cmp .isin (.v 6) (.v 5)) (.or (.cmp .ne (.v 6) (.f_ "w")) (.cmp .gt (.blt .len [.v 3]) (.e_ 1)))) [.set 9 (.ite (.cmp .eq (.v 7) (.f_ "all")) (.tup []) (.v 1)),.mut .app 2 [.tup [.v 7,.eU .upper (.v 3) [],.bin .add (.v 9) (.v 4),.v 8]]] []]],.mo 2]
def b6:List Sx:=[.set 1 (.ix (.v 0) (.e_ 0)),.set 2 (.ix (.v 0) (.e_ 1)),.set 3 (.call 3 [.v 1]),.ifs (.cmp .ne (.ix (.v 2) (.e_ 0)) (.tup [])) [.set 3 (.bin .add (.v 3) (.call 4 [.v 3,.ix (.v 2) (.e_ 0)]))] [],.ifs (.cmp .ne (.ix (.v 2) (.e_ 1)) (.tup [])) [.set 3 (.bin .add (.v 3) (.call 5 [.v 1,.ix (.v 2) (.e_ 1)]))] [],.ifs (.cmp .eq (.ix (.v 0) (.e_ 2)) (.tup [])) [.set 3 (.comp 1 c_ [] (.itv (.v 3)) [.cmp .ne (.ix (.v 0) (.e_ 0)) (.f_ "let")] (.v 0))] [],.ret (.blt .sset [.bin .add (.bin .add (.v 3) (.call 1 [])) (.call 2 [.v 2,.ix (.v 0) (.e_ 2)])])]
def b7:List Sx:=[.set 1 .px,.loop c_ [2] (.itv (.con (.tup [.str (ab "out"),.str (ab "in"),.str (ab "done"),.str (ab "num"),.str (ab "let"),.str (ab "all")]))) [.mut .seti 1 [.lst [],.v 2]],.loop c_ [3] (.itv (.call 6 [.v 0])) [.VA .app 1 (.ix (.v 3) (.e_ 0)) [.v 3]],.mo 1]
def b8:List Sx:=[.ret (.comp 1 c_ [2,1] (.itv (.v 0)) [.eU .startswith (.v 2) [.ix (.v 0) (.e_ 1),.v 1]] (.v 0))]
def b9:List Sx:=[.set 1 .px,.loop d_ [2,3] (.enu (.v 0)) [.mut .seti 1 [.bin .bor (.eU .get (.v 1) [.v 3,.e_ 0]) (.bin .shl (.e_ 1) (.v 2)),.v 3]],.mo 1]
def b10:List Sx:=[.set 2 (.eU .get (.v 1) [.ix (.v 0) (.e_ 0),.e_ 0]),.loop d_ [3,4] (.enu (.v 0)) [.set 2 (.bin .band (.v 2) (.bin .shr (.eU .get (.v 1) [.v 4,.e_ 0]) (.v 3)))],.mo 2]
def Yb:List Sx:=[.set 4 (.bin .band (.ix (.ix (.v 0) (.v 1)) (.ix (.v 2) (.e_ 0))) (.call 10 [.ix (.v 2) (.e_ 2),.v 3])),.Yd 5 0 (.bin .add (.v 1) (.blt .len [.ix (.v 2) (.e_ 1)])) (.ix (.v 2) (.e_ 3)) (.bin .bor (.eU .get (.v 5) [.ix (.v 2) (.e_ 3),.e_ 0]) (.bin .shl (.v 4) (.blt .len [.ix (.v 2) (.e_ 2)])))]
def b12:List Sx:=[.set 3 (.call 7 [.v 0]),.set 4 (.call 9 [.v 2]),.set 5 (.cat (.comp 1 c_ [] (.itv (.v 1)) [] .px) (.lst [.px])),.Oe 5 (.e_ 0) (.f_ "out") (.e_ 1),.loop c_ [6] (.rng [.bin .add (.blt .len [.v 1]) (.e_ 1)]) [.loop c_ [7] (.itv (.con (.tup [.str (ab "out"),.str (ab "in"),.str (ab "done"),.str (ab "num"),.str (ab "let"),.str (ab "all")]))) [.ifs (.cmp .ne (.eU .get (.ix (.v 5) (.v 6)) [.v 7,.e_ 0]) (.e_ 0)) [.loop c_ [8] (.itv (.call 8 [.ix (.v 3) (.v 7),.v 1,.v 6])) [.VB (11+AF) 5 [.v 6,.v 8,.v 4]]] []]],.set 9 (.comp 1 c_ [5,1] (.itv (.con (.tup [.str (ab "out"),.str (ab "in"),.str (ab "done"),.str (ab "num"),.str (ab "let"),.str (ab "all")]))) [.call 0 [.v 0]] (.eU .get (.ix (.v 1) (.blt .len [.v 2])) [.v 0,.e_ 0])),.ret (.blt .any [.comp 1 c_ [2] (.itv (.v 9)) [] (.cmp .eq (.bin .band (.bin .shr (.v 0) (.blt .len [.v 1])) (.e_ 1)) (.e_ 1))])]
def b13:List Sx:=[.ifs (.cmp .lt (.v 1) (.blt .len [.v 0])) [.ret (.ix (.v 0) (.v 1))] [],.ret (.e_ 0)]
def b14:List Sx:=[.set 4 (.bin .mod (.bin .add (.bin .add (.bin .mul (.call 13 [.v 0,.v 1]) (.e_ 48271)) (.bin .mul (.bin .mul (.e_ 7919) (.v 1)) (.v 1))) (.e_ 11)) (.v 2)),.ret (.bin .mod (.bin .mod (.bin .mul (.v 4) (.e_ 7919)) (.e_ 999983)) (.v 3))]
def b15:List Sx:=[.set 3 (.bin .add (.e_ 1) (.call 14 [.v 0,.v 1,.e_ 10007,.e_ 2])),.ifs (.cmp .eq (.call 14 [.v 0,.v 1,.e_ 10009,.e_ 8]) (.e_ 0)) [.set 3 (.bin .add (.e_ 1) (.call 14 [.v 0,.v 1,.e_ 10037,.e_ 4]))] [],.ret (.blt .tuple [.comp 1 c_ [2,1,0] (.rng [.v 3]) [] (.bin .add (.e_ 1) (.call 14 [.v 3,.v 2,.bin .add (.e_ 10039) (.bin .mul (.e_ 22) (.v 0)),.v 1]))])]
def b16:List Sx:=[.set 1 (.bin .add (.e_ 1) (.call 14 [.v 0,.e_ 0,.e_ 15013,.e_ 3])),.ifs (.cmp .eq (.call 14 [.v 0,.e_ 0,.e_ 15017,.e_ 6]) (.e_ 0)) [.set 1 (.bin .add (.e_ 1) (.call 14 [.v 0,.e_ 0,.e_ 15031,.e_ 6]))] [],.set 2 (.call 14 [.v 0,.e_ 1,.e_ 15053,.e_ 26]),.set 3 (.ix (.lst [.e_ 1,.e_ 3,.e_ 5,.e_ 7,.e_ 9,.e_ 11,.e_ 15]) (.call 14 [.v 0,.e_ 1,.e_ 15061,.e_ 7])),.ret (.comp 1 c_ [2,3] (.rng [.v 1]) [] (.ix (.f_ "abcdefghijklmnopqrstuvwxyz") (.bin .mod (.bin .add (.v 1) (.bin .mul (.v 0) (.v 2))) (.e_ 26))))]
def b17:List Sx:=[.set 4 (.bin .add (.e_ 1) (.call 14 [.v 0,.bin .add (.e_ 10) (.v 1),.e_ 20021,.e_ 3])),.ifs (.cmp .eq (.call 14 [.v 0,.bin .add (.e_ 10) (.v 1),.e_ 20023,.e_ 8]) (.e_ 0)) [.set 4 (.bin .add (.e_ 1) (.call 14 [.v 0,.bin .add (.e_ 10) (.v 1),.e_ 20029,.e_ 6]))] [],.set 5 (.eU .join (.f_ "") [.comp 1 c_ [1,2,0] (.rng [.v 4]) [] (.ix (.v 2) (.call 14 [.v 3,.bin .add (.e_ 10) (.v 1),.bin .add (.e_ 20047) (.bin .mul (.e_ 22) (.v 0)),.blt .len [.v 2]]))]),.set 6 (.bin .add (.e_ 1) (.call 14 [.v 0,.bin .add (.e_ 10) (.v 1),.e_ 25013,.e_ 15])),.set 7 (.eU .join (.f_ "") [.comp 1 c_ [6] (.rng [.e_ 4]) [.cmp .eq (.bin .band (.bin .shr (.v 1) (.v 0)) (.e_ 1)) (.e_ 1)] (.ix (.f_ "wbme") (.v 0))]),.ret (.tup [.v 5,.call 15 [.v 0,.bin .add (.e_ 20) (.v 1),.v 3],.v 7])]
def b18:List Sx:=[.set 2 (.call 16 [.v 0]),.set 4 (.comp 1 c_ [1,2,0] (.rng [.blt .len [.v 2]]) [] (.tup [.ix (.v 2) (.v 0),.call 15 [.v 3,.bin .add (.e_ 4) (.v 0),.v 1],.f_ "wbme"])),.loop c_ [3] (.rng [.call 14 [.v 0,.e_ 2,.e_ 20011,.e_ 6]]) [.set 5 (.call 17 [.v 0,.v 3,.v 2,.v 1]),.ifs (.cmp .nin (.sl (.v 5) b_ (a_ (.e_ 2))) (.comp 1 c_ [] (.itv (.v 4)) [] (.sl (.v 0) b_ (a_ (.e_ 2))))) [.set 6 (.call 14 [.v 0,.bin .add (.e_ 10) (.v 3),.e_ 25031,.bin .add (.blt .len [.v 4]) (.e_ 1)]),.set 4 (.bin .add (.bin .add (.sl (.v 4) b_ (a_ (.v 6))) (.lst [.v 5])) (.sl (.v 4) (a_ (.v 6)) b_))] []],.ret (.blt .tuple [.v 4])]
def b19:List Sx:=[.ret (.sl (.call 15 [.v 0,.v 1,.v 2]) b_ (a_ (.e_ 2)))]
def b20:List Sx:=[.set 1 (.ix (.lst [.e_ 3,.e_ 6,.e_ 63]) (.call 14 [.v 0,.e_ 2,.e_ 30011,.e_ 3])),.set 2 (.lst [.tup [],.tup [],.tup [],.tup []]),.ifs (.cmp .eq (.call 14 [.v 0,.e_ 3,.e_ 30013,.e_ 3]) (.e_ 0)) [.mut .seti 2 [.call 19 [.v 0,.e_ 25,.v 1],.e_ 0],.ifs (.cmp .eq (.call 14 [.v 0,.e_ 3,.e_ 30029,.e_ 2]) (.e_ 0)) [.mut .seti 2 [.call 19 [.v 0,.e_ 26,.v 1],.e_ 1]] []] [],.set 3 (.lst []),.ifs (.cmp .eq (.call 14 [.v 0,.e_ 3,.e_ 30047,.e_ 3]) (.e_ 0)) [.set 4 (.bin .add (.e_ 1) (.call 14 [.v 0,.e_ 3,.e_ 30059,.e_ 3])),.ifs (.cmp .eq (.call 14 [.v 0,.e_ 3,.e_ 30071,.e_ 6]) (.e_ 0)) [.set 4 (.bin .add (.e_ 1) (.call 14 [.v 0,.e_ 3,.e_ 30089,.e_ 10]))] [],.set 3 (.comp 1 c_ [1,0] (.rng [.v 4]) [] (.bin .add (.e_ 1) (.call 14 [.v 2,.e_ 27,.bin .add (.e_ 30091) (.bin .mul (.e_ 22) (.v 0)),.v 1]))),.mut .seti 2 [.call 19 [.v 0,.e_ 28,.v 1],.e_ 2],.mut .seti 2 [.call 19 [.v 0,.e_ 29,.v 1],.e_ 3]] [],.ret (.tup [.call 18 [.v 0,.v 1],.blt .tuple [.v 2],.blt .tuple [.v 3]])]
def b21:List Sx:=[.VL [2,3,4] (.v 1),.set 5 (.ix (.ix (.v 0) (.e_ 1)) (.e_ 0)),.set 6 (.ix (.ix (.v 0) (.e_ 1)) (.e_ 1)),.set 7 (.sl (.lst [.f_ "out",.f_ "let"]) b_ (a_ (.bin .add (.e_ 1) (.blt .int [.cmp .gt (.blt .len [.ix (.v 0) (.e_ 2)]) (.e_ 0)])))),.set 8 (.lst []),.loop c_ [9] (.itv (.bin .add (.v 7) (.lst [.f_ "in"]))) [.loop d_ [10,11] (.itv (.lst [.tup [.f_ "w",.f_ "done"],.tup [.f_ "b",.f_ "in"],.tup [.f_ "m",.f_ "in"],.tup [.f_ "e",.f_ "done"]])) [.ifs (.and (.cmp .isin (.v 10) (.v 4)) (.cmp .eq (.cmp .isin (.v 10) (.f_ "wb")) (.cmp .ne (.v 9) (.f_ "in")))) [.mut .app 8 [.tup [.v 9,.v 2,.v 3,.v 11]],.ifs (.cmp .gt (.blt .len [.v 5]) (.e_ 0)) [.mut .app 8 [.tup [.v 9,.bin .add (.eU .upper (.sl (.v 2) b_ (a_ (.e_ 1))) []) (.sl (.v 2) (a_ (.e_ 1)) b_),.bin .add (.v 5) (.v 3),.v 11]]] []] []]],.ifs (.cmp .eq (.blt .len [.v 6]) (.e_ 0)) [.mo 8] [],.loop c_ [9] (.itv (.v 7)) [.ifs (.and (.cmp .isin (.f_ "w") (.v 4)) (.cmp .gt (.blt .len [.v 2]) (.e_ 1))) [.mut .app 8 [.tup [.v 9,.eU .upper (.v 2) [],.bin .add (.v 6) (.v 3),.f_ "done"]]] [],.ifs (.cmp .isin (.f_ "b") (.v 4)) [.mut .app 8 [.tup [.v 9,.eU .upper (.v 2) [],.bin .add (.v 6) (.v 3),.f_ "all"]]] []],.loop d_ [10,11] (.itv (.lst [.tup [.f_ "m",.f_ "all"],.tup [.f_ "e",.f_ "done"]])) [.ifs (.cmp .isin (.v 10) (.v 4)) [.mut .app 8 [.tup [.f_ "all",.eU .upper (.v 2) [],.v 3,.v 11]]] []],.mo 8]
def b22:List Sx:=[.set 1 (.ix (.v 0) (.e_ 1)),.set 2 (.lst [.tup [.f_ "out",.f_ " ",.tup [.e_ 0],.f_ "out"],.tup [.f_ "done",.f_ " ",.tup [.e_ 0],.f_ "out"],.tup [.f_ "num",.f_ " ",.tup [.e_ 0],.f_ "out"]]),.loop c_ [3] (.rng [.blt .len [.ix (.v 0) (.e_ 2)]]) [.set 4 (.tup [.ix (.ix (.v 0) (.e_ 2)) (.v 3)]),.mut .app 2 [.tup [.f_ "out",.blt .str [.v 3],.bin .add (.ix (.v 1) (.e_ 2)) (.v 4),.f_ "num"]],.mut .app 2 [.tup [.f_ "done",.blt .str [.v 3],.bin .add (.ix (.v 1) (.e_ 2)) (.v 4),.f_ "num"]],.mut .app 2 [.tup [.f_ "num",.blt .str [.v 3],.v 4,.f_ "num"]]],.ifs (.cmp .gt (.blt .len [.ix (.v 0) (.e_ 2)]) (.e_ 0)) [.mut .app 2 [.tup [.f_ "num",.f_ "",.ix (.v 1) (.e_ 3),.f_ "let"]]] [],.loop c_ [5] (.itv (.ix (.v 0) (.e_ 0))) [.mut .ext 2 [.call 21 [.v 0,.v 5]]],.mo 2]
def b23:List Sx:=[.set 1 (.cat (.lst [.f_ " "]) (.comp 1 c_ [] (.rng [.blt .len [.ix (.v 0) (.e_ 2)]]) [] (.blt .str [.v 0]))),.loop c_ [2] (.itv (.ix (.v 0) (.e_ 0))) [.ifs (.and (.cmp .eq (.blt .len [.ix (.v 2) (.e_ 0)]) (.e_ 1)) (.cmp .nin (.ix (.v 2) (.e_ 0)) (.v 1))) [.mut .app 1 [.ix (.v 2) (.e_ 0)],.ifs (.cmp .gt (.blt .len [.ix (.ix (.v 0) (.e_ 1)) (.e_ 0)]) (.e_ 0)) [.mut .app 1 [.eU .upper (.ix (.v 2) (.e_ 0)) []]] []] []],.mo 1]
def b24:List Sx:=[.set 3 (.call 23 [.v 1]),.set 3 (.bin .add (.v 3) (.sl (.v 3) (a_ (.e_ 1)) b_)),.ret (.eU .join (.f_ "") [.comp 1 c_ [0,3] (.rng [.v 2]) [] (.ix (.v 2) (.call 14 [.v 1,.bin .add (.e_ 31) (.v 0),.e_ 35023,.blt .len [.v 2]]))])]
def b25:List Sx:=[.set 2 (.comp 1 c_ [] (.rng [.bin .add (.blt .len [.v 1]) (.e_ 1)]) [] .px),.loop c_ [3] (.itv (.lst [.f_ "out",.f_ "done",.f_ "num"])) [.Oe 2 (.blt .len [.v 1]) (.v 3) (.e_ 0)],.loop c_ [4] (.rng [.bin .add (.blt .len [.v 1]) (.e_ 1)]) [.set 5 (.bin .sub (.blt .len [.v 1]) (.v 4)),.loop c_ [6] (.itv (.bin .add (.v 0) (.v 0))) [.set 7 (.bin .add (.v 5) (.blt .len [.ix (.v 6) (.e_ 1)])),.ifs (.and (.cmp .eq (.sl (.v 1) (a_ (.v 5)) (a_ (.v 7))) (.ix (.v 6) (.e_ 1))) (.cmp .isin (.ix (.v 6) (.e_ 3)) (.ix (.v 2) (.v 7)))) [.set 8 (.bin .add (.blt .len [.ix (.v 6) (.e_ 2)]) (.ix (.ix (.v 2) (.v 7)) (.ix (.v 6) (.e_ 3)))),.Oe 2 (.v 5) (.ix (.v 6) (.e_ 0)) (.bin .mn (.v 8) (.eU .get (.ix (.v 2) (.v 5)) [.ix (.v 6) (.e_ 0),.v 8]))] []]],.mo 2]
def b26:List Sx:=[.set 4 (.call 25 [.v 2,.v 3]),.set 5 (.e_ 0),.set 6 (.f_ "out"),.set 7 (.lst []),.X1 (.cmp .lt (.v 5) (.blt .len [.v 3])) [.set 8 (.lst []),.loop c_ [9] (.itv (.v 2)) [.set 10 (.bin .add (.v 5) (.blt .len [.ix (.v 9) (.e_ 1)])),.ifs (.and (.cmp .eq (.ix (.v 9) (.e_ 0)) (.v 6)) (.and (.cmp .eq (.sl (.v 3) (a_ (.v 5)) (a_ (.v 10))) (.ix (.v 9) (.e_ 1))) (.cmp .isin (.ix (.v 9) (.e_ 3)) (.ix (.v 4) (.v 10))))) [.mut .app 8 [.v 9]] []],.set 9 (.ix (.v 8) (.call 14 [.v 0,.bin .add (.v 1) (.blt .len [.v 7]),.e_ 70001,.blt .len [.v 8]])),.mut .app 7 [.v 9],.set 5 (.bin .add (.v 5) (.blt .len [.ix (.v 9) (.e_ 1)])),.set 6 (.ix (.v 9) (.e_ 3))],.mo 7]
def b27:List Sx:=[.set 1 (.tup []),.loop c_ [2] (.itv (.v 0)) [.set 1 (.bin .add (.v 1) (.ix (.v 2) (.e_ 2)))],.mo 1]
def b28:List Sx:=[.set 3 (.comp 1 c_ [] (.rng [.bin .add (.blt .len [.v 2]) (.e_ 1)]) [] (.lst [])),.Of 3 (.e_ 0) (.tup [.e_ 0,.f_ "out"]),.loop c_ [4] (.rng [.blt .len [.v 2]]) [.Us d_ [5,6] 3 (.v 4) [.loop c_ [7] (.itv (.v 0)) [.set 8 (.bin .add (.v 4) (.blt .len [.ix (.v 7) (.e_ 2)])),.set 9 (.tup [.bin .add (.v 5) (.blt .len [.ix (.v 7) (.e_ 1)]),.ix (.v 7) (.e_ 3)]),.set 10 (.and (.cmp .eq (.ix (.v 7) (.e_ 0)) (.v 6)) (.cmp .eq (.sl (.v 2) (a_ (.v 4)) (a_ (.v 8))) (.ix (.v 7) (.e_ 2)))),.ifs (.and (.v 10) (.and (.cmp .eq (.sl (.v 1) (a_ (.v 5)) (a_ (.ix (.v 9) (.e_ 0)))) (.ix (.v 7) (.e_ 1))) (.cmp .nin (.v 9) (.ix (.v 3) (.v 8))))) [.Of 3 (.v 8) (.v 9)] []]]],.Us d_ [5,6] 3 (.blt .len [.v 2]) [.ifs (.and (.cmp .eq (.v 5) (.blt .len [.v 1])) (.cmp .isin (.v 6) (.lst [.f_ "out",.f_ "done",.f_ "num"]))) [.ret (.con (.bl c_))] []],.ret (.con (.bl d_))]
def b29:List Sx:=[.set 2 (.call 14 [.v 0,.e_ 30,.e_ 40009,.e_ 10]),.set 3 (.call 14 [.v 0,.e_ 46,.e_ 40013,.bin .add (.blt .len [.v 1]) (.e_ 1)]),.set 4 (.call 14 [.v 0,.e_ 47,.e_ 40031,.e_ 64]),.ifs (.cmp .eq (.v 2) (.e_ 0)) [.ret (.bin .add (.bin .add (.sl (.v 1) b_ (a_ (.v 3))) (.tup [.v 4])) (.sl (.v 1) (a_ (.bin .add (.v 3) (.e_ 1))) b_))] [],.ifs (.cmp .eq (.v 2) (.e_ 1)) [.ret (.bin .add (.sl (.v 1) b_ (a_ (.v 3))) (.sl (.v 1) (a_ (.bin .add (.v 3) (.e_ 1))) b_))] [],.ifs (.cmp .eq (.v 2) (.e_ 2)) [.ret (.bin .add (.bin .add (.sl (.v 1) b_ (a_ (.v 3))) (.tup [.v 4])) (.sl (.v 1) (a_ (.v 3)) b_))] [],.ifs (.cmp .eq (.v 2) (.e_ 3)) [.ret (.bin .add (.bin .add (.sl (.v 1) b_ (a_ (.v 3))) (.sl (.v 1) (a_ (.v 3)) (a_ (.bin .add (.v 3) (.e_ 1))))) (.sl (.v 1) (a_ (.v 3)) b_))] [],.ifs (.cmp .eq (.v 2) (.e_ 4)) [.set 5 (.blt .tuprev [.sl (.v 1) (a_ (.v 3)) (a_ (.bin .add (.v 3) (.e_ 2)))]),.ret (.bin .add (.bin .add (.sl (.v 1) b_ (a_ (.v 3))) (.v 5)) (.sl (.v 1) (a_ (.bin .add (.v 3) (.e_ 2))) b_))] [],.ifs (.cmp .eq (.v 2) (.e_ 5)) [.ret (.sl (.v 1) b_ (a_ (.v 3)))] [],.ifs (.and (.cmp .eq (.v 2) (.e_ 6)) (.cmp .lt (.v 3) (.blt .len [.v 1]))) [.set 4 (.bin .mod (.bin .add (.ix (.v 1) (.v 3)) (.e_ 1)) (.e_ 64)),.ret (.bin .add (.bin .add (.sl (.v 1) b_ (a_ (.v 3))) (.tup [.v 4])) (.sl (.v 1) (a_ (.bin .add (.v 3) (.e_ 1))) b_))] [],.mo 1]
def b30:List Sx:=[.set 3 (.call 14 [.v 0,.e_ 48,.e_ 40009,.e_ 8]),.set 4 (.call 14 [.v 0,.e_ 48,.e_ 40013,.bin .add (.blt .len [.v 2]) (.e_ 1)]),.set 5 (.call 23 [.v 1]),.set 6 (.ix (.v 5) (.call 14 [.v 0,.e_ 48,.e_ 40031,.blt .len [.v 5]])),.ifs (.cmp .eq (.v 3) (.e_ 0)) [.ret (.bin .add (.bin .add (.sl (.v 2) b_ (a_ (.v 4))) (.v 6)) (.sl (.v 2) (a_ (.bin .add (.v 4) (.e_ 1))) b_))] [],.ifs (.cmp .eq (.v 3) (.e_ 1)) [.ret (.bin .add (.sl (.v 2) b_ (a_ (.v 4))) (.sl (.v 2) (a_ (.bin .add (.v 4) (.e_ 1))) b_))] [],.ifs (.cmp .eq (.v 3) (.e_ 2)) [.ret (.bin .add (.bin .add (.sl (.v 2) b_ (a_ (.v 4))) (.sl (.v 2) (a_ (.v 4)) (a_ (.bin .add (.v 4) (.e_ 1))))) (.sl (.v 2) (a_ (.v 4)) b_))] [],.mo 2]
def b31:List Sx:=[.set 1 (.call 20 [.v 0]),.set 2 (.call 22 [.v 1]),.set 3 (.call 24 [.v 0,.v 1,.call 14 [.v 0,.e_ 2,.e_ 35027,.e_ 12]]),.set 4 (.call 27 [.call 26 [.v 0,.e_ 31,.v 2,.v 3]]),.ifs (.cmp .nisn (.call 12 [.v 1,.v 3,.v 4]) (.con (.bl c_))) [.ret (.con (.bl d_))] [],.set 5 (.call 29 [.v 0,.v 4]),.set 6 (.call 30 [.v 0,.v 1,.v 3]),.loop c_ [7] (.itv (.lst [.v 3,.v 6])) [.loop c_ [8] (.itv (.lst [.v 5,.v 4])) [.set 9 (.call 12 [.v 1,.v 7,.v 8]),.ifs (.or (.not (.blt (.isi .bool) [.v 9])) (.cmp .ne (.v 9) (.call 28 [.v 2,.v 7,.v 8]))) [.ret (.con (.bl d_))] []]],.ret (.cmp .isn (.call 12 [.v 1,.v 3,.v 4]) (.con (.bl c_)))]
def d0:Df:=⟨top 6,1,1,b0⟩
def d1:Df:=⟨top 7,0,0,b1⟩
def d2:Df:=⟨top 8,2,5,b2⟩
def d3:Df:=⟨top 9,1,8,b3⟩
def d4:Df:=⟨top 10,2,2,b4⟩
def d5:Df:=⟨top 11,2,10,b5⟩
def d6:Df:=⟨top 12,1,4,b6⟩
def d7:Df:=⟨top 13,1,4,b7⟩
def d8:Df:=⟨top 15,3,3,b8⟩
def d9:Df:=⟨top 16,1,4,b9⟩
def d10:Df:=⟨top 17,2,5,b10⟩
def d11:Df:=⟨top 18,4,6,Yb⟩
def Zu:Df:=⟨top 19,3,10,b12⟩
def d13:Df:=⟨top 21,2,2,b13⟩
def d14:Df:=⟨top 22,4,5,b14⟩
def d15:Df:=⟨top 23,3,4,b15⟩
def d16:Df:=⟨top 24,1,4,b16⟩
def d17:Df:=⟨top 25,4,8,b17⟩
def d18:Df:=⟨top 26,2,7,b18⟩
def d19:Df:=⟨top 27,3,3,b19⟩
def d20:Df:=⟨top 28,1,5,b20⟩
def d21:Df:=⟨top 29,2,12,b21⟩
def d22:Df:=⟨top 30,1,6,b22⟩
def d23:Df:=⟨top 31,1,3,b23⟩
def d24:Df:=⟨top 32,3,4,b24⟩
def d25:Df:=⟨top 33,2,9,b25⟩
def d26:Df:=⟨top 34,4,11,b26⟩
def d27:Df:=⟨top 35,1,3,b27⟩
def d28:Df:=⟨top 36,3,11,b28⟩
def d29:Df:=⟨top 37,2,6,b29⟩
def d30:Df:=⟨top 38,3,7,b30⟩
def d31:Df:=⟨top 39,1,10,b31⟩
def D:List Df:=[d0,d1,d2,d3,d4,d5,d6,d7,d8,d9,d10,d11,Zu,d13,d14,d15,d16,d17,d18,d19,d20,d21,d22,d23,d24,d25,d26,d27,d28,d29,d30,d31]
noncomputable def con:List (bc×Dat):=[(ab "FIGURES",(.str (ab "0123456789"))),(ab "STATES",(.tup [(.str (ab "out")),(.str (ab "in")),(.str (ab "done")),(.str (ab "num")),(.str (ab "let")),(.str (ab "all"))])),(ab "END_STATES",(.tup [(.str (ab "out")),(.str (ab "done")),(.str (ab "num"))])),(ab "WAYS",(.tup [(.tup [(.str (ab "w")),(.str (ab "out")),(.str (ab "done"))]),(.tup [(.str (ab "w")),(.str (ab "let")),(.str (ab "done"))]),(.tup [(.str (ab "b")),(.str (ab "out")),(.str (ab "in"))]),(.tup [(.str (ab "b")),(.str (ab "let")),(.str (ab "in"))]),(.tup [(.str (ab "m")),(.str (ab "in")),(.str (ab "in"))]),(.tup [(.str (ab "e")),(.str (ab "in")),(.str (ab "done"))])])),(ab "ALL_GREAT_WAYS",(.tup [(.tup [(.str (ab "w")),(.str (ab "out")),(.str (ab "done"))]),(.tup [(.str (ab "w")),(.str (ab "let")),(.str (ab "done"))]),(.tup [(.str (ab "b")),(.str (ab "out")),(.str (ab "all"))]),(.tup [(.str (ab "b")),(.str (ab "let")),(.str (ab "all"))]),(.tup [(.str (ab "m")),(.str (ab "all")),(.str (ab "all"))]),(.tup [(.str (ab "e")),(.str (ab "all")),(.str (ab "done"))])]))]
def G:Sg:=M9 D con
def WK:∀d∈D,Vo G d:=SU (by kernel_rfl)
end K33
namespace M
open PySem L2
section
@[simp] def nK:fF .add (.int i) (.int j)=a_ (.int (i+j),d_):=rfl
@[simp] def DL:fF .sub (.int i) (.int j)=a_ (.int (i - j),d_):=rfl
def lu(h:0<j):fF .mod (.int i) (.int j)=a_ (.int (i % j),d_):=if_pos h
@[simp] def p3:jB .len [.lst xs]=a_ (.int xs.length,d_):=rfl
@[simp] def DK:jB .len [.tup xs]=a_ (.int xs.length,d_):=rfl
@[simp] def qF(ns:List Int):kW (ns.map Dat.int)=c_:=by
 induction ns with
 |nil=>rfl
 |cons n r a=>show(c_ && kW (r.map Dat.int))=c_;rw[a];rfl
end
section
def fE{ds:List Dat}(h:ds.length=np)(B:fh C body (ds.map (λd=>a_ (d,d_))++bD (nl - np) b_)=a_ (.rt d fr)):Uu C np nl body ds=a_ (d,fr):=by
 unfold Uu;rw[if_pos h,B];rfl
def qp(h:pv C s ρ=a_ (.nx ρ1)):fh C (s::ss) ρ=fh C ss ρ1:=by show(pv C s ρ).bind _=_;rw[h];rfl
def D7(h:pv C s ρ=a_ (.rt d fr)):fh C (s::ss) ρ=a_ (.rt d fr):=by show(pv C s ρ).bind _=_;rw[h];rfl
def SQ(h:pv C s ρ=a_ (.nx ρ1)):fh C [s] ρ=a_ (.nx ρ1):=by show(pv C s ρ).bind _=_;rw[h];rfl
def KA(h:ba C e (full ρ)=a_ (d,fr))(ht:gJ d=a_ c_):pv C (.ifs e a b) ρ=fh C a ρ:=by show(ba C e _).bind _=_;rw[h];show(gJ d).bind _=_;rw[ht];rfl
def KC(h:ba C e (full ρ)=a_ (d,fr))(ht:gJ d=a_ d_):pv C (.ifs e a b) ρ=fh C b ρ:=by show(ba C e _).bind _=_;simp_all
end
section
def vF(h1:-18446744073709551616<i)(h2:i<18446744073709551616):fF .mul (.int i) (.int j)=a_ (.int (i * j),d_):=if_pos (.inl ⟨h1,h2⟩)
def p4(h1:-18446744073709551616<j)(h2:j<18446744073709551616):fF .mul (.int i) (.int j)=a_ (.int (i * j),d_):=if_pos (.inr ⟨h1,h2⟩)
def yE{C:Fs}{i:Nat}{e:Ex}{ρ:c8}:pv C (.set i e) ρ=(ba C e (full ρ)).bind λx=>if(im x.1 || x.2)=c_ then a_ (.nx (ρ.set i (a_ (x.1,x.2 && !im x.1))))else(ba C e (xO (kK e.fv ρ))).map λy=>.nx ((kK e.fv ρ).set i (a_ (y.1,y.2 && !im y.1))):=by
 show(L6 C e ρ).map _=_;unfold L6
 cases ba C e (full ρ)with
 |none=>rfl
 |some x=>
   show j5 _ (if(im _ || x.2)=c_ then _ else _)=if(im _ || x.2)=c_ then _ else _
   cases im _ || x.2 with
   |true=>rfl
   |false=>exact Option.map_map ..
section
end
def rL{ds:List Dat}(h:ds.length<1000000):jt .app (.lst ds) [d]=a_ (.lst (ds++[d])):=if_pos (by exact aa h cy)
def vm:pv C (.loop one ts (.rng es) body) ρ=(yH C (.rng es) (full ρ)).bind λds=>iO (eR one ts) (fh C body) ds ρ:=by
 show((yH C _ _).map _).bind _=_;cases yH C _ _<;>rfl
def xp:pv C (.loop one ts (.itv e) body) ρ=(ba C e (full ρ)).bind λx=>if(im x.1 || x.2)=c_ then(jX x.1).bind λds=>iO (eR one ts) (fh C body) ds ρ
  else(ba C e (xO (kK e.fv ρ))).bind λy=>(jX y.1).bind λds=>iO (eR one ts) (fh C body) ds (kK e.fv ρ):=by
 show((L6 C e ρ).bind λx=>(jX _).map _).bind _=_;unfold L6
 cases ba C e (full ρ)with
 |none=>rfl
 |some x=>
   refine (?_ : bo (bo (if(im _ || x.2)=c_ then _ else _) _) _=if(im _ || x.2)=c_ then _ else _)
   cases im _ || x.2 with
   |true=>refine (?_ : ((jX x.1).map _).bind _=(jX _).bind _);cases jX _<;>rfl
   |false=>
     cases ba C e (xO (kK _ ρ))with
     |none=>rfl
     |some y=>refine (?_ : ((jX y.1).map _).bind _=(jX _).bind _);cases jX _<;>rfl
section
def UA:jA .eq (.str x) (.str y)=a_ (x == y):=rfl
def YX:jA .ne (.str x) (.str y)=a_ (!(x == y)):=rfl
def Xo(h1:eC 19 ds=c_)(h2:eC 19 ys=c_):jA .eq (.tup ds) (.tup ys)=a_ (n4 ds ys):=by simp only[jA,iA,h1,h2,qh,if_true,og]
def YW(h1:eC 19 ds=c_)(h2:eC 19 ys=c_):jA .ne (.tup ds) (.tup ys)=a_ (!n4 ds ys):=by simp only[jA,iA,h1,h2,qh,if_true,og]
end
def gn(h:ba C a ρ=a_ (.bl x,f)):ba C (.and a b) ρ=if x=c_ then ba C b ρ else a_ (.bl d_,d_):=by
 show(ba C a ρ).bind _=_;rw[h];rfl
def DA(h:ba C a ρ=a_ (.bl x,f)):ba C (.or a b) ρ=if x=c_ then a_ (.bl c_,d_)else ba C b ρ:=by
 show(ba C a ρ).bind _=_;rw[h];rfl
def OR(h:ba C c ρ=a_ (d,f))(ht:gJ d=a_ x):ba C (.ite c a b) ρ=if x=c_ then ba C a ρ else ba C b ρ:=by
 show(ba C c ρ).bind _=_;simp_all
end
section
def Zp:ba C (.con d) ρ=a_ (d,d_):=rfl
def oO:ba C (.v i) ρ=((ρ[i]?).join).map λd=>(d,d_):=rfl
def oP:ba C (.bin o a b) ρ=(ba C a ρ).bind λx=>(ba C b ρ).bind λy=>fF o x.1 y.1:=rfl
def Dz:ba C (.cmp o a b) ρ=(ba C a ρ).bind λx=>(ba C b ρ).bind λy=>(jA o x.1 y.1).map λr=>(.bl r,d_):=rfl
def Uv:ba C (.not a) ρ=(ba C a ρ).bind λx=>(gJ x.1).map λb=>(.bl (!b),d_):=rfl
def vn:ba C (.tup es) ρ=(nZ C es ρ).bind λx=>if x.1.length<=1000000 then a_ (.tup x.1,x.2)else b_:=rfl
def Uw:ba C (.lst es) ρ=(nZ C es ρ).bind λx=>if x.1.length<=1000000 then a_ (.lst x.1,x.2)else b_:=rfl
def Fo:ba C (.ix a b) ρ=(ba C a ρ).bind λx=>(ba C b ρ).bind λy=>(zr x.1 y.1).map λd=>(d,d_):=rfl
def vo:ba C (.sl a b c) ρ=(ba C a ρ).bind λx=>(XF C ρ b).bind λl=>(XF C ρ c).bind λh=>Gy x.1 l h:=rfl
def iW:ba C (.call f es) ρ=(mF C es ρ).bind λds=>C f ds:=rfl
def Ux:ba C (.blt f es) ρ=(mF C es ρ).bind λds=>jB f ds:=rfl
def bX:mF C (e::es) ρ=(ba C e ρ).bind λx=>(mF C es ρ).map λr=>x.1::r:=rfl
def fi:nZ C (e::es) ρ=(ba C e ρ).bind λx=>(nZ C es ρ).map λr=>(x.1::r.1,(x.2 || im x.1) && r.2):=rfl
def yF:ba C (.eU m o es) ρ=(ba C o ρ).bind λx=>(mF C es ρ).bind λds=>iN m x.1 ds:=rfl
def OQ:yH C (.itv a) ρ=(ba C a ρ).bind λx=>jX x.1:=rfl
def OP:yH C (.rng es) ρ=(mF C es ρ).bind Nv:=rfl
def lV{ifs:List Ex}(hi:yH C it ρ=a_ items)(hl:items.length<=1000000)(B:oH (mT C nt one (i9 nt caps ρ) ifs elt) items=a_ (ys,fr)) :
  ba C (.comp nt one caps it ifs elt) ρ=a_ (.lst ys,fr):=by
 show(yH C it ρ).bind _=_
 simp_all
def xv:mT C 1 c_ ρ0 [] elt d=(ba C elt (ρ0.set 0 (a_ d))).map a_:=rfl
def Bp{ρ0:fm}(h:ba C i (ρ0.set 0 (a_ d))=a_ (x,f))(ht:gJ x=a_ t):mT C 1 c_ ρ0 [i] elt d=if t=c_ then(ba C elt (ρ0.set 0 (a_ d))).map a_ else a_ b_:=by
 unfold mT;simp only[FQ,bE,Bf,h,ht];cases t<;>rfl
theorem vE{α:Type}{g:α->Bool}:∀xs:List α,r8 (xs.map λx=>Dat.bl (g x))=a_ (xs.map g)
 |[]=>rfl
 |x::xs=>by simp only[aB,r8,vE xs,df]
end
mutual
noncomputable def same:Dat->Dat->Bool
 | .non,c=>match c with
   |.non=>c_
   |_=>d_
 | .bl a,c=>match c with
   |.bl b=>a == b
   |_=>d_
 | .int i,c=>match c with
   |.int j=>i == j
   |_=>d_
 | .str x,c=>match c with
   |.str y=>x == y
   |_=>d_
 | .tup xs,c=>match c with
   |.tup ys=>ux xs ys
   |_=>d_
 | .lst xs,c=>match c with
   |.lst ys=>ux xs ys
   |_=>d_
 |_,_=>d_
noncomputable def ux:List Dat->List Dat->Bool
 |[],[]=>c_
 |x::xs,y::ys=>same x y && ux xs ys
 |_,_=>d_
end
mutual
theorem Ee:∀(x y:Dat),same x y=c_->x=y
 |.non,y,h=>by cases y<;>first|rfl|(simp[same]at h)
 |.bl a,y,h=>by cases y<;>first|(simp[same]at h;rw[h])|(simp[same]at h)
 |.int a,y,h=>by cases y<;>first|(simp[same]at h;rw[h])|(simp[same]at h)
 |.str a,y,h=>by cases y<;>first|(simp[same]at h;rw[h])|(simp[same]at h)
 |.tup a,y,h=>by cases y<;>first|(rw[uw _ _ h])|(simp[same]at h)
 |.lst a,y,h=>by cases y<;>first|(rw[uw _ _ h])|(simp[same]at h)
theorem uw:∀(x y:List Dat),ux x y=c_->x=y
 |[],y,h=>by cases y<;>first|rfl|(simp[ux]at h)
 |x::xs,y,h=>by
   cases y with
   |nil=>simp[ux]at h
   |cons y ys=>
     simp[ux]at h;rw[Ee _ _ h.1,uw _ _ h.2]
end
def sH:g_->g_->Bool
 |some (d,b),a_ (e,c)=>same d e && b == c
 |none,b_=>c_
 |_,_=>d_
def qq(h:sH x y=c_):x=y:=by
 cases x with
 |none=>cases y<;>first|rfl|(simp[sH]at h)
 |some x=>
   cases y with
   |none=>simp[sH]at h
   |some y=>
     obtain⟨d,b⟩:=x;simp[sH]at h;rw[Ee _ _ h.1,h.2]
def Ae{n dflt:Nat}{i:Int}(h0:0<=i)(h1:i<=n):HT.iH n dflt (a_ i)=i.toNat:=by
 obtain⟨k,rfl⟩:=jF h0;exact dO (eT.mp h1)
def FD{α:Type}{xs:List α}{i:Int}(h0:0<=i)(h1:i<=xs.length):cutD xs (a_ i) b_=xs.drop i.toNat:=by
 unfold cutD;rw[Ae h0 h1,HT.Af];rw[cG (by simp)]
def FE{α:Type}{xs:List α}{i:Int}(h0:0<=i)(h1:i<=xs.length):cutD xs b_ (a_ i)=xs.take i.toNat:=by
 unfold cutD;rw[Ae h0 h1];rfl
def nJ{xs ys:List Dat}(h:xs.length+ys.length<=1000000):fF .add (.lst xs) (.lst ys)=a_ (.lst (xs++ys),kW (xs++ys)):=if_pos (o7 h)
noncomputable abbrev T(l:List Nat):bc:=⟨l.toArray⟩
def FW(a b:List Nat):T a++T b=T (a++b):=by
 show Str.mk _=_;simp[T]
def XM(h:T a=T b):a=b:=by
 simp_all
def QB(a b:List Nat):(T a == T b)=decide (a=b):=by
 by_cases h:a=b
 .subst h;simp
 simp_all
def nV(a:List Nat):(T a).length=a.length:=by show(a.toArray).size=_;simp
def pV:jA .isin (.str (T [c])) (.str (T l))=a_ (decide (c∈l)):=by
 show a_ _=_;rw[PySem.StrLaws.found_one _ c]
def M6:mm (T l)=l.map λc=>T [c]:=by
 unfold mm;simp[T]
def len_T{l:List Nat}(h:l.length<=1000000):jB .len [.str (T l)]=a_ (.int l.length,d_):=by
 show(if(T l).length<=aC then a_ (Dat.int _,d_)else b_)=_;rw[nV,if_pos (by exact aa h cy)]
def XJ{a b:List Nat}(h:a.length+b.length<=1000000):fF .add (.str (T a)) (.str (T b))=a_ (.str (T (a++b)),d_):=by
 show(if(T a).length+(T b).length<=aC then a_ (Dat.str _,d_)else b_)=_;rw[if_pos (by exact aa h cy),FW]
def T8{l:List Nat}(hl:l.length<=1000000)(h:i<l.length):zr (.str (T l)) (.int (i:Nat))=a_ (.str (T [l[i]])):=by
 show(if(T l).length<=aC then(tF _ _).map λc=>Dat.str ⟨_⟩else b_)=_;rw[if_pos (by exact aa hl cy)];rw[show tF _ _=a_ l[i]from jd (by simp[h])];rfl
theorem D5:∀ws:List (List Nat),uk (ws.map λl=>Dat.str (T l))=a_ (ws.map T)
 |[]=>rfl
 |x::r=>by simp only[aB,uk,D5 r,df]
def T4:∀ws:List (List Nat),tf (T []) (ws.map T)=T ws.flatten:=by
 intro ws;rw[show tf _ _=Str.join _ (ws.map T)from StrLaws.glued_eq_join _ _]
 induction ws with
 |nil=>rfl
 |cons x r a=>
   cases r with
   |nil=>show T x=_;simp
   |cons y r=>
     show(T x++T []++Str.join _ _)=_;rw[a,FW,FW];simp
def Oh{ws:List (List Nat)}(h:(ws.map (·.length)).sum<=1000000):iN .join (.str (T [])) [.lst (ws.map λl=>Dat.str (T l))]=a_ (.str (T ws.flatten),d_):=by
 simp only[iN,Z2,D5,bE];rw[if_pos,T4];rw[nV,eo];have e:(wC ((λx:bc=>x.length) ∘ T) ws)=ws.map _:=dq λl _=>nV l;rw[e];simpa using h
def ne_T(a b:List Nat):jA .ne (.str (T a)) (.str (T b))=a_ (!decide (a=b)):=by
 show a_ (!(T a == T b))=_;rw[QB]
def Zq(a b:List Nat):jA .eq (.str (T a)) (.str (T b))=a_ (decide (a=b)):=by
 show a_ (T a == T b)=_;rw[QB]
theorem xq:∀(a b:List Int),n4 (a.map Dat.int) (b.map Dat.int)=decide (a=b)
 |[],[]=>rfl
 |[],b::bs=>by simp[n4]
 |a::as,[]=>by simp[n4]
 |a::as,b::bs=>by
   simp only[aB,n4,og,xq as bs];by_cases h:a=b
   .subst h;simp
   .simp[h]
theorem rz(k:Nat):∀a:List Int,eC k (a.map Dat.int)=c_
 |[]=>by simp[eC]
 |a::as=>by simp[eC,iA,rz k as]
def PX{lo:Option Int}:Gy (.tup xs) lo hi=a_ (.tup (cutD xs lo hi),d_):=rfl
def vG{xs ys:List Dat}(h:xs.length+ys.length<=1000000):fF .add (.tup xs) (.tup ys)=a_ (.tup (xs++ys),d_):=if_pos (o7 h)
def G1{ds es:List Dat}(h:ds.length+es.length<=1000000):jt .ext (.lst ds) [.lst es]=a_ (.lst (ds++es)):=if_pos (o7 h)
end M
namespace M
open PySem L2
noncomputable def uY:List Nat:=[97,98,99,100,101,102,103,104,105,106,107,108,109,110,111,112,113,114,115,116,117,118,119,120,121,122]
noncomputable def L8:List Nat:=[119,98,109,101]
def WBT:ab "wbme"=T L8:=by decide +kernel
abbrev Fm:=List Nat×List Int×List Nat
abbrev iP(t:Fm):Dat:=.tup [.str (T t.1),.tup (t.2.1.map Dat.int),.str (T t.2.2)]
def Nu(h:m<=1000000):Nv [.int (m:Nat)]=a_ ((aR m).map λk:Nat=>Dat.int k):=by
 show(if _ then _ else b_)=_;rw[if_pos (by omega)];simp
def Xl(xs:List Nat):(xs.map λc=>[c]).flatten=xs:=by
 induction xs with
 |nil=>rfl
 |cons a r b=>simp_all
def YB(xs:List Nat):((xs.map λc=>[c]).map (·.length)).sum=xs.length:=by
 induction xs with
 |nil=>rfl
 |cons a r b=>rw[aB,aB,List.sum_cons,b];exact Nat.add_comm _ _
def Vx(k:Nat):List Nat:=(aR 4).filterMap λi=>if k / 2 ^ i % 2=1 then L8[i]? else b_
def E8(f:Fm):im (iP f)=c_:=by
 show(c_ && (kW (f.2.1.map _) && (c_ && c_)))=c_;rw[qF];rfl
theorem mE:∀fs:List Fm,kW (fs.map iP)=c_
 |[]=>rfl
 |f::fs=>by show(im _ && kW _)=c_;rw[E8,mE fs];rfl
def xV(a b c:Dat):Gy (.tup [a,b,c]) b_ (a_ 2)=a_ (.tup [a,b],d_):=rfl
def zX(f:Fm):iA 20 (.tup [.str (T f.1),.tup (f.2.1.map Dat.int)])=c_:=by
 show(c_ && (eC 18 (f.2.1.map _) && c_))=c_;rw[rz];rfl
noncomputable abbrev tI(l:List Int):Dat:=.tup (l.map Dat.int)
end M
namespace K33
open PySem L2 M
structure KN(f:Fm):Prop where
 ne:f.1≠[]
 low:∀c∈f.1,c∈uY
 ll:f.1.length<=6
 c1:0<f.2.1.length
 cl:f.2.1.length<=4
 pp:∃k,1<=k/\k<16/\f.2.2=Vx k
noncomputable abbrev Xf(i:Int):N2:=.inl (.inl i)
theorem uS:∀cs:List Int,Qb (cs.map Dat.int)=a_ (cs.map Xf)
 |[]=>rfl
 |c::r=>by simp only[aB,Qb,YZ,uS r,bE,df]
def OE{a b:List Int}(e:a.map Xf=b.map Xf):a=b:=(HJ (λx y z=>si (si z))).mp e
end K33
namespace K33E
open PySem L2 M K33
abbrev sT(l:List Nat):Dat:=.str (T l)
def GO(h:ba C a (full ρ)=a_ (d,fl)):fh C [.ret a] ρ=a_ (.rt d fl):=by
 show bo (j5 _ (ba C a _)) _=_;rw[h];rfl
def dP(h:ba C a (full ρ)=a_ (d,fl))(hi:im d=c_):pv C (.set i a) ρ=a_ (.nx (ρ.set i (a_ (d,d_)))):=by
 rw[yE]
 grind
def Jd(h:ba C a (full ρ)=a_ (.lst ds,c_)):pv C (.set i a) ρ=a_ (.nx (ρ.set i (a_ (.lst ds,c_)))):=by
 rw[yE,h];rfl
def Ev(C:Fs)(e:Ex)(ρ:fm)(P:Dat->Prop):Prop:=∃d f,ba C e ρ=a_ (d,f)/\im d=c_/\P d
def Ei(C:Fs)(e:Ex)(ρ:fm)(P:Nat->Prop):Prop:=∃q f,ba C e ρ=a_ (.int (q:Nat),f)/\P q
def Go(C:Fs)(ss:List Sx)(ρ:c8)(Q:Out->Prop):Prop:=∃o,fh C ss ρ=a_ o/\Q o
def Dw(C:Fs)(N:Dat):Prop:=∀k p m:Int,0<=k/\k<=1000->0<p->0<m->∃q:Nat,C 14 [N,.int k,.int p,.int m]=a_ (.int (q:Nat),d_)/\(q:Int)<m
section
def ik(hd:Dw C N)(h0:ba C a ρ=a_ (N,f))(h1:ba C k ρ=a_ (.int i,g))(h2:ba C p ρ=a_ (.int j,h))(h3:ba C m ρ=a_ (.int l,w))(hk:0<=i/\i<=1000)(hp:0<j)(B:0<l)(H:∀q:Nat,(q:Int)<l->P q):Ei C (.call 14 [a,k,p,m]) ρ P:=by
 obtain⟨q,r,b⟩:=hd i j l hk hp B;exact⟨q,d_,by rwa[iW,bX,h0,bX,h1,bX,h2,bX,h3],H q b⟩
def UD(c:Nat)(h:Ei C e ρ P)(hp:∀q,P q->P' (c+q)):Ei C (.bin .add (.con (.int (c:Nat))) e) ρ P':=by
 obtain⟨q,f,r,b⟩:=h;refine⟨_,d_,?_,hp q b⟩;rw[oP,r];show a_ (Dat.int _,d_)=_;simp
def DD(h:Ei C e ρ P)(hp:∀q,P q->P' (1+q)):Ei C (.bin .add (.e_ 1) e) ρ P':=UD 1 h hp
def sS{b:Nat}(hd:Dw C N)(h0:ba C a ρ=a_ (N,f))(h1:ba C k ρ=a_ (.int i,g))(h2:ba C p ρ=a_ (.int j,h))(h3:ba C m ρ=a_ (.int l,w))(hk:0<=i/\i<=1000)(hp:0<j)(B:0<l)(hb:l<=b):Ei C (.bin .add (.e_ 1) (.call 14 [a,k,p,m])) ρ λv=>1<=v/\v<=b:=
 DD (ik hd h0 h1 h2 h3 hk hp B λ_ h=>h) λq h=>by omega
def Fu{is:List Nat}(B:ba C x ρ=a_ (.lst (is.map λi:Nat=>Dat.int i),f))(h:Ei C e ρ (·< is.length))(hp:∀q∈is,P q):Ei C (.ix x e) ρ P:=by
 obtain⟨q,g,r,a⟩:=h;refine⟨_,d_,?_,hp _ (br a)⟩;rw[Fo,B,r];show((tF _ _).map _)=_;rw[jd (by rw[aO,af a];rfl)];rfl
def vt(h:Ei C e ρ P)(j:Int):∃t f,ba C (.cmp .eq e (.con (.int j))) ρ=a_ (.bl t,f):=by
 obtain⟨q,f,r,_⟩:=h;exact⟨_,d_,by rw[Dz,r];rfl⟩
def gh(h1:ba C a ρ=a_ (x',f))(h2:ba C e ρ=a_ (y,g))(h:jA o x' y=a_ r):ba C (.cmp o a e) ρ=a_ (.bl r,d_):=by rw[Dz,h2];simp_all
def eD(h1:ba C a ρ=a_ (x',f))(h2:ba C e ρ=a_ (y,g))(h:fF o x' y=r):ba C (.bin o a e) ρ=r:=by rwa[oP,h1,h2]
def gP(h1:ba C a ρ=a_ (x',f))(h:jB o [x']=r):ba C (.blt o [a]) ρ=r:=by rwa[Ux,bX,h1]
def Th(h1:ba C a ρ=a_ (x',f))(h:iN o x' []=r):ba C (.eU o a []) ρ=r:=by rwa[yF,h1]
def zt(h1:ba C a ρ=a_ (x',f))(h2:ba C e ρ=a_ (y,g))(h:zr x' y=a_ d):ba C (.ix a e) ρ=a_ (d,d_):=by rw[Fo,h1,h2];show(zr x' y).map _=_;rw[h];rfl
def Jb(h1:ba C a ρ=a_ (x',f))(h2:ba C e ρ=a_ (.int i,g))(h:Gy x' b_ (a_ i)=r):ba C (.sl a b_ (a_ e)) ρ=r:=by rw[vo,h1];show bo (oD _) _=_;rwa[h2]
def Ja(h1:ba C a ρ=a_ (x',f))(h2:ba C e ρ=a_ (.int i,g))(h:Gy x' (a_ i) b_=r):ba C (.sl a (a_ e) b_) ρ=r:=by rw[vo,h1];show bo (oD _) _=_;rwa[h2]
def vB(h1:ba C a ρ=a_ (x',f)):ba C (.call q [a]) ρ=C q [x']:=by rw[iW,bX,h1];rfl
def Lo(h1:ba C a ρ=a_ (x',f))(h2:ba C e ρ=a_ (y,g)):ba C (.call q [a,e]) ρ=C q [x',y]:=by rw[iW,bX,h1,bX,h2];rfl
def vA(h1:ba C a ρ=a_ (x',f))(h2:ba C e ρ=a_ (y,g))(h3:ba C x ρ=a_ (z,h)):ba C (.call q [a,e,x]) ρ=C q [x',y,z]:=by rw[iW,bX,h1,bX,h2,bX,h3];rfl
def pW(h:Ei C e ρ P):Ev C e ρ (λd=>∃q:Nat,d=.int (q:Nat)/\P q):=by
 obtain⟨q,f,r,b⟩:=h;exact⟨_,f,r,rfl,q,rfl,b⟩
def Dx(h:ba C a ρ=a_ (.int i,f))(h':ba C e ρ=a_ (.int j,g))(hi:0<=i/\i<=1000):ba C (.bin .mul a e) ρ=a_ (.int (i * j),d_):=by
 rw[oP,h,h'];exact vF (HN hi.1) (eP hi.2 cy)
def lp(h:ba C a ρ=a_ (.int i,f))(h':ba C e ρ=a_ (.int j,g)):ba C (.bin .add a e) ρ=a_ (.int (i+j),d_):=by
 rw[oP,h,h'];rfl
def pI{m:Nat}(h:ba C e ρ=a_ (.int (m:Nat),f))(B:m<=1000):yH C (.rng [e]) ρ=a_ ((aR m).map λk:Nat=>Dat.int k):=by
 rw[OP,bX,h];exact Nu (aa B cy)
def Dy{ls:List Nat}{P:Nat->Prop}(B:ba C x ρ=a_ (.lst (ls.map λc=>sT [c]),f))(h:Ei C e ρ (·< ls.length))(hl:∀c∈ls,P c):∃c b,ba C (.ix x e) ρ=a_ (sT [c],b)/\P c:=by
 obtain⟨q,g,r,a⟩:=h;refine⟨_,d_,?_,hl _ (br a)⟩;rw[Fo,B,r];show((tF _ _).map _)=_;rw[jd (by rw[aO,af a];rfl)];rfl
def o8{α β:Type}{caps:List Nat}{it:Iw}{elt:Ex}{xs:List α}{e:α->Dat}(g:β->Dat)(P:α->β->Prop)(hi:yH C it ρ=a_ (xs.map e))(hl:xs.length<=1000)(B:∀y,im (g y)=c_)(h:∀x∈xs,∃y b,ba C elt ((i9 1 caps ρ).set 0 (a_ (e x)))=a_ (g y,b)/\P x y):∃ys:List β,ba C (.comp 1 c_ caps it [] elt) ρ=a_ (.lst (ys.map g),c_)/\ys.length=xs.length/\(∀y∈ys,∃x∈xs,P x y)/\∀x∈xs,∃y∈ys,P x y:=by
 suffices ∃ys:List β,oH (mT C 1 c_ (i9 1 _ ρ) [] _) _=a_ _/\ys.length=xs.length/\(∀y∈ys,∃x∈xs,P x y)/\∀x∈xs,∃y∈ys,P x y by
  obtain⟨ys,a,b⟩:=this;exact⟨ys,lV hi (by rw[aA];exact aa hl cy) a,b⟩
 clear hi hl
 induction xs with
 |nil=>exact⟨[],rfl,rfl,(λ_ h=>nomatch h),(λ_ h=>nomatch h)⟩
 |cons x xs d=>
   refine ac λ_ i=>?_;obtain⟨y,b,hb,hp⟩:=h x jv;obtain⟨ys,h1,h2,h3,f⟩:=d λz c=>h z (ju _ c);refine i ?_;refine⟨y::ys,?_,by simp_all,λz c=>?_,λz c=>?_⟩
   .rw[aB,oH,xv,hb,h1];simp[B y]
   .rcases aw.mp c with rfl|c
    .exact⟨x,jv,hp⟩
    simp_all
   .rcases aw.mp c with rfl|c
    .exact⟨y,jv,hp⟩
    simp_all
end
section
variable{C:Fs}{ρ:c8}{e:Ex}{ss:List Sx}{Q:Out->Prop}{P:Dat->Prop}{i:Nat}
def bZ(h:pv C s ρ=a_ (.nx ρ1))(k:Go C ss ρ1 Q):Go C (s::ss) ρ Q:=by
 obtain⟨o,a,b⟩:=k;exact⟨o,by rwa[qp h],b⟩
def nG(h:Ev C e (full ρ) P)(k:∀d,P d->Go C ss (ρ.set i (a_ (d,d_))) Q):Go C (.set i e::ss) ρ Q:=by
 obtain⟨d,f,h1,h2,h3⟩:=h;exact bZ (dP h1 h2) (k d h3)
def eX(h:ba C e (full ρ)=a_ (.lst ds,c_))(k:Go C ss (ρ.set i (a_ (.lst ds,c_))) Q):Go C (.set i e::ss) ρ Q:=bZ (Jd h) k
def jx(h:ba C e (full ρ)=a_ (d,f))(q:Q (.rt d f)):Go C [.ret e] ρ Q:=⟨_,GO h,q⟩
def bw(q:Q (.nx ρ)):Go C [] ρ Q:=⟨_,rfl,q⟩
def ym(hi:(ρ[i]?).join=a_ (d,c_))(he:nZ C es (full ρ)=a_ (ds,c_))(B:jt op d ds=a_ d'):pv C (.mut op i es) ρ=a_ (.nx (ρ.set i (a_ (d',c_)))):=by
 show((nZ C es _).bind λx=>if x.2=c_ then WS op i ρ _ _ else b_)=_;rw[he,hi];show(jt op d ds).map _=_;rw[B];rfl
def vd(h:Ev C e (full ρ) P)(hi:(ρ[i]?).join=a_ (.lst ds,c_))(hl:ds.length<1000000)(k:∀d,P d->Go C ss (ρ.set i (a_ (.lst (ds++[d]),c_))) Q):Go C (.mut .app i [e]::ss) ρ Q:=by
 obtain⟨d,f,h1,h2,h3⟩:=h;exact bZ (ym hi (by rw[fi,h1];show a_ _=_;simp_all) (rL hl)) (k d h3)
def EU(hb:bnd d ρ=a_ ρ1)(h:body ρ1=a_ (.nx ρ2)):iO bnd body (d::ds) ρ=iO bnd body ds ρ2:=by
 simp only[iO,hb,bE,h];rfl
theorem uZ{α:Type}{Y:Dat->c8->Option c8}{body:List Sx}{V:α->Dat}{I:List α->c8->Prop}:∀(xs ys:List α)(ρ:c8),(∀(us:List α)x(vs:List α)ρ,ys++xs=us++x::vs->I us ρ->∃O,Y (V x) ρ=a_ O/\Go C body O λo=>∃B,o=.nx B/\I (us++[x]) B)->I ys ρ->∃ρ',iO Y (fh C body) (xs.map V) ρ=a_ (.nx ρ')/\I (ys++xs) ρ'
 |[],ys,ρ,_,h=>⟨ρ,rfl,by simp_all⟩
 |x::xs,ys,ρ,hs,h=>by
   refine ac λ_ b=>?_;obtain⟨O,h1,_,h2,B,rfl,h3⟩:=hs ys x xs ρ rfl h;obtain⟨ρ',a,h5⟩:=uZ xs _ B (λus z vs ρ q=>hs us z vs ρ (by simp_all)) h3;refine b ?_;rw[aB,EU h1 h2]
   simp_all
def g9{α:Type}{one:Bool}{Y:List Nat}{it:Iw}{body:List Sx}{V:α->Dat}{xs:List α}{ρ0:c8}{I:List α->c8->Prop}(Z:pv C (.loop one Y it body) ρ=iO (eR one Y) (fh C body) (xs.map V) ρ0)(hI:I [] ρ0)(hs:∀(us:List α)x(vs:List α)ρ,xs=us++x::vs->I us ρ->∃B,eR one Y (V x) ρ=a_ B/\Go C body B λo=>∃O,o=.nx O/\I (us++[x]) O)(K:∀ρ',I xs ρ'->Go C ss ρ' Q):Go C (.loop one Y it body::ss) ρ Q:=by
 obtain⟨ρ',h1,h2⟩:=uZ xs [] ρ0 hs hI;exact bZ (by rw[Z];exact h1) (K ρ' h2)
def jw(he:ba C e (full ρ)=a_ (d,f))(hd:jX d=a_ ds)(hf:(im d || f)=c_):pv C (.loop one ts (.itv e) body) ρ=iO (eR one ts) (fh C body) ds ρ:=by
 rw[xp,he,bE,if_pos hf,hd];rfl
def Ds{O:List Nat}{body:List Sx}{I:List Nat->c8->Prop}{P:Nat->Prop}(he:Ei C e (full ρ) P)(Y:∀m,P m->m<=1000)(Z:I [] ρ)(hs:∀m,P m->∀(us:List Nat)x(vs:List Nat)ρ,aR m=us++x::vs->I us ρ->∃ρ1,eR c_ O (.int (x:Nat)) ρ=a_ ρ1/\Go C body ρ1 λo=>∃B,o=.nx B/\I (us++[x]) B)(K:∀m,P m->∀ρ',I (aR m) ρ'->Go C ss ρ' Q):Go C (.loop c_ O (.rng [e]) body::ss) ρ Q:=by
 obtain⟨m,f,he,a⟩:=he;exact g9 (by rw[vm,pI he (Y m a)];rfl) Z (hs m a) (K m a)
def AX{J:c8->Prop}{A:List Sx}(h:∃t f,ba C e (full ρ)=a_ (.bl t,f))(B:Go C A ρ λo=>∃ρ',o=.nx ρ'/\J ρ')(O:J ρ)(k:∀ρ',J ρ'->Go C ss ρ' Q):Go C (.ifs e A []::ss) ρ Q:=by
 obtain⟨t,f,h⟩:=h;cases t
 .exact bZ (by rw[KC h rfl];rfl) (k ρ O)
 .obtain⟨_,h1,ρ',rfl,h2⟩:=B;exact bZ (by rwa[KA h rfl]) (k _ h2)
def yB{e1 e2 e3:Ex}{P:Nat->Prop}(h1:Ei C e1 (full ρ) P)(h2:∀v:Nat,∃t f,ba C e2 (full (ρ.set i (a_ (.int (v:Nat),d_))))=a_ (.bl t,f))(h3:∀v:Nat,Ei C e3 (full (ρ.set i (a_ (.int (v:Nat),d_)))) P)(K:∀v:Nat,P v->Go C ss (ρ.set i (a_ (.int (v:Nat),d_))) Q):Go C (.set i e1::.ifs e2 [.set i e3] []::ss) ρ Q:=by
 refine nG (pW h1) λd hd=>?_;obtain⟨v,rfl,b⟩:=hd;refine AX (J:=λρ'=>∃v:Nat,P v/\ρ'=ρ.set i (a_ (.int (v),d_))) (h2 v) (nG (pW (h3 v)) λd hd=>?_) ⟨v,b,rfl⟩ λρ' h=>?_
 .obtain⟨w,rfl,a⟩:=hd;exact bw ⟨_,rfl,w,a,List.set_set _⟩
 .obtain⟨w,a,rfl⟩:=h;exact K w a
def jg{A B:List Sx}{b:Bool}{f:Bool}{J:c8->Prop}(h:ba C e (full ρ)=a_ (.bl b,f))(O:b=c_->Go C A ρ λo=>∃ρ',o=.nx ρ'/\J ρ')(Y:b=d_->Go C B ρ λo=>∃ρ',o=.nx ρ'/\J ρ')(k:∀ρ',J ρ'->Go C ss ρ' Q):Go C (.ifs e A B::ss) ρ Q:=by
 cases b
 .obtain⟨_,h1,ρ',rfl,h2⟩:=Y rfl;exact bZ (by rwa[KC h rfl]) (k _ h2)
 .obtain⟨_,h1,ρ',rfl,h2⟩:=O rfl;exact bZ (by rwa[KA h rfl]) (k _ h2)
end
def xg(h:ba C e (full ρ)=a_ (.bl c_,f))(O:fh C A ρ=a_ (.rt d g))(q:Q (.rt d g)):Go C (.ifs e A B::ss) ρ Q:=⟨_,by rw[D7 (by rwa[KA h rfl])],q⟩
def lS(h:ba C e (full ρ)=a_ (.bl d_,f))(k:Go C ss ρ Q):Go C (.ifs e A []::ss) ρ Q:=bZ (by rw[KC h rfl];rfl) k
def sP{ds:List Dat}(B:ds.length=np)(h:Go (Cn D n) body (ds.map (λd=>a_ (d,d_))++bD (nl - np) b_) λo=>o=.rt d b):Uu (Cn D n) np nl body ds=a_ (d,b):=by
 obtain⟨_,h1,rfl⟩:=h;exact fE B h1
def Jp{ns:List Int}:∃c:Int,Cn D (n+1) 13 [.lst (ns.map Dat.int),.int (k:Nat)]=a_ (.int c,d_):=by
 have hl:jB .len [.lst (ns.map Dat.int)]=a_ (.int (ns.length),d_):=by simp
 by_cases h:k<ns.length
 .refine⟨ns[k],sP rfl (xg (gh rfl (gP rfl hl) (congrArg a_ (decide_eq_true ((lI.mpr h))))) (GO (zt rfl rfl (jd (by simp_all)))) rfl)⟩
 .exact⟨0,sP rfl (lS (gh rfl (gP rfl hl) (congrArg a_ (decide_eq_false ((λz=>(ud z (eT.mpr (bS h)))))))) (jx rfl rfl))⟩
def Hn(hc:C 13 [N,.int k]=a_ (.int c,d_))(B:0<=k)(O:k<=1000)(hp:0<p)(Y:0<m):Go C b14 [a_ (N,d_),a_ (.int k,d_),a_ (.int p,d_),a_ (.int m,d_),b_] λo=>o=.rt (.int ((c * 48271+7919 * k * k+11) % p * 7919 % 999983 % m)) d_:=by
 exact bZ (dP (eD (eD (eD (eD hc rfl (p4 cy cy)) (eD (eD rfl rfl (vF cy cy)) rfl (p4 (HN B) (eP O cy))) rfl) rfl rfl) rfl (lu hp)) rfl) (jx (eD (eD (eD rfl rfl (p4 cy cy)) rfl (lu cy)) rfl (lu Y)) rfl)
def dw{ns:List Int}:Dw (Cn D (n+2)) (.lst (ns.map Dat.int)):=λk p m hk hp a=>by
 obtain⟨j,b⟩:=jF hk.1;obtain⟨c,hc⟩:=Jp;rw[<-b]at hc;have h:=Hn hc hk.1 hk.2 hp a;generalize e:(c * 48271+7919 * k * k+11) % p * 7919 % 999983=y at h;have e2:y % m<m:=Int.emod_lt_of_pos _ a;obtain⟨q,d⟩:=jF (PJ _ (Int.ne_of_gt a));rw[d]at e2 h;exact⟨q,sP rfl h,e2⟩
def FG{C:Fs}{ρ:fm}{α:Type}{caps:List Nat}{it:Iw}{c:Ex}{xs:List α}{e:α->Dat}(p:α->Bool)(hi:yH C it ρ=a_ (xs.map e))(hl:xs.length<=1000)(B:∀x,im (e x)=c_)(h:∀x∈xs,∃f,ba C c ((i9 1 caps ρ).set 0 (a_ (e x)))=a_ (.bl (p x),f))(O:∀d:Dat,ba C (.v 0) ((i9 1 caps ρ).set 0 (a_ d))=a_ (d,d_):=by intro;rfl):ba C (.comp 1 c_ caps it [c] (.v 0)) ρ=a_ (.lst ((xs.filter p).map e),c_):=by
 refine lV hi (by rw[aA];exact aa hl cy) ?_;clear hi hl
 induction xs with
 |nil=>rfl
 |cons x xs a=>
   obtain⟨f,hf⟩:=h x jv;rw[aB,oH,Bp hf rfl,a λy b=>h y (ju _ b),O];cases q:p x<;>simp[q,B]
def OX{C:Fs}{ρ:fm}{α:Type}{caps:List Nat}{it:Iw}{elt:Ex}{xs:List α}{e g:α->Dat}(hi:yH C it ρ=a_ (xs.map e))(hl:xs.length<=1000)(B:∀x∈xs,im (g x)=c_)(h:∀x∈xs,∃f,ba C elt ((i9 1 caps ρ).set 0 (a_ (e x)))=a_ (g x,f)):ba C (.comp 1 c_ caps it [] elt) ρ=a_ (.lst (xs.map g),c_):=by
 refine lV hi (by grind) ?_;clear hi hl
 induction xs with
 |nil=>rfl
 |cons x xs b=>
   obtain⟨f,hf⟩:=h x jv;rw[aB,oH,xv,hf,b (λy a=>B y (ju _ a)) λy a=>h y (ju _ a)];simp[B x jv]
abbrev Ed:=bc×List Nat×List Int×bc
abbrev dc(e:Ed):Dat:=.tup [.str e.1,.str (T e.2.1),.tup (e.2.2.1.map Dat.int),.str e.2.2.2]
abbrev La(e:Ed):List NK:=[.inl (.inr e.1),.inl (.inr (T e.2.1)),.inr (e.2.2.1.map Xf),.inl (.inr e.2.2.2)]
def Qa(e:Ed):S7 (dc e)=a_ (La e):=by
 simp only[S7,Vz,YU,uS,df,bE]
theorem J3:∀es:List Ed,uR (es.map dc)=a_ (es.map La)
 |[]=>rfl
 |e::es=>by
   rw[aB,uR,Qa,J3 es];rfl
theorem allI:∀l:List Int,(l.map Xf).all sI=c_
 |[]=>rfl
 |a::r=>by rw[aB,dH,allI r];rfl
noncomputable abbrev X3:List (List Nat):=[[1],[1],[2],[1]]
def wO(e:Ed):(La e).map sN=X3:=by
 simp only[aB,List.map_nil,sN,allI,if_true]
abbrev HR(e:Ed):List (List (List Int)):=codeN (La e)
def IT(es:List Ed):List Dat:=(kJ vU (es.map HR)).map (Bm X3)
def P8(e:Ed):∀x∈La e,Ap (sN x)=c_:=λx a=>by
 have:sN x∈(La e).map sN:=cU a;rw[wO]at this;exact bB.mp cy _ this
def UI(e:Ed):Bm X3 (HR e)=dc e:=by
 have:=FC (Qa e) (P8 e);rwa[wO]at this
def Ln(h:HR a=HR b):a=b:=by
 have h1 :=code_inj ((wO a).trans (wO b).symm) (P8 a) h;simp only[La,fM,Sum.inl.injEq,Sum.inr.injEq,and_true]at h1;obtain⟨h1,h2,h3,c⟩:=h1;exact DW h1 (DW (XM h2) (DW (OE h3) c))
def CW{α:Type}[BEq α][LawfulBEq α]{l l':List α}(B:l.Nodup)(h:∀x∈l,x∈l'):l.length<=l'.length:=by
 induction l generalizing l' with
 |nil=>exact aT _
 |cons a r c=>
   have ha:=h a jv;have:=c (aU.mp B).2 λx b=>(List.mem_erase_of_ne (λe:x=a=>(aU.mp B).1 (e▸b))).mpr (h x (ju _ b))
   grind
def Ri(es:List Ed):∃E:List Ed,IT es=E.map dc/\E.Nodup/\(∀e,e∈E↔e∈es)/\E.length<=es.length:=by
 have a:∀l:List (List (List (List _))),(∀c∈l,∃e:Ed,c=HR e)->l.Nodup->∃E:List Ed,l=E.map HR/\E.Nodup:=λl=>by
  induction l with
  |nil=>intro _ _;exact⟨[],rfl,en⟩
  |cons c r d=>
    intro h b;obtain⟨e,rfl⟩:=h c jv;obtain⟨E,h1,h2⟩:=d (λc hc=>h c (ju _ hc)) (aU.mp b).2;refine⟨_,by rw[h1];rfl,aU.mpr ⟨λm=>(aU.mp b).1 ?_,h2⟩⟩;rw[h1];exact cU m
 obtain⟨E,h1,h2⟩:=a (kJ vU _) (λc hc=>by
  obtain⟨e,_,rfl⟩:=bQ.mp ((jV AG).mp hc)
  exact⟨e,rfl⟩) (qy AG (mR AG _))
 refine⟨E,?_,h2,λe=>?_,?_⟩
 .unfold IT;rw[h1,eo];exact dq λe _=>UI e
 .have:=jV AG (z:=HR e) (l:=es.map HR);rw[h1]at this;constructor
  .intro h;obtain⟨f,he,q⟩:=bQ.mp (this.mp (cU h));rwa[<-Ln q]
  .intro h;obtain⟨f,he,q⟩:=bQ.mp (this.mpr (cU h));rwa[<-Ln q]
 .have:=CW (qy AG (mR AG (es.map HR))) λx g=>(jV AG).mp g;rwa[h1,aA,aA]at this
def QL(es:List Ed):(kJ vU (es.map HR)).length<=es.length:=by
 have:=CW (qy AG (mR AG (es.map HR))) λx a=>(jV AG).mp a
 simp_all
def MR{es:List Ed}(hl:es.length<=300)(B:es≠[]):jB .sset [.lst (es.map dc)]=a_ (.lst (IT es),c_):=by
 cases es with
 |nil=>exact absurd rfl B
 |cons e r=>
   have hs:Gz ((e::r).map La)=X3:=wO e
   have h3:(((e::r).map La).all λk=>decide (k.map sN=Gz ((e::r).map La)))=c_:=by
    rw[bB];intro k hk;obtain⟨q,_,rfl⟩:=bQ.mp hk;rw[hs];exact decide_eq_true (wO q)
   show(uR _).bind wN=_;rw[J3];show wN _=_;unfold wN GZ;rw[if_pos ⟨by rw[aA];omega,by rfl,by rw[hs];rfl,h3,by rw[eo];exact aa (QL _) hl⟩,hs,eo];rfl
structure Tb where
 fs:List Fm
 m0:List Int
 m1:List Int
 m2:List Int
 m3:List Int
 fg:List Int
structure HM(t:Tb):Prop where
 ho:∀f∈t.fs,KN f
 hl:t.fs.length<=12
 h0:t.m0.length<=2
 h1:t.m1.length<=2
 h2:t.m2.length<=2
 h3:t.m3.length<=2
 hf:t.fg.length<=10
abbrev L3(t:Tb):Dat:=.tup [tI t.m0,tI t.m1,tI t.m2,tI t.m3]
abbrev tb(t:Tb):Dat:=.tup [.tup (t.fs.map iP),L3 t,tI t.fg]
def J1(m:List Int):jA .ne (tI m) (.tup [])=a_ (!m.isEmpty):=by
 cases m with
 |nil=>rfl
 |cons a r=>
   rw[YW (rz 19 _) rfl];rfl
def K8(m:List Int):jA .eq (tI m) (.tup [])=a_ m.isEmpty:=by
 cases m with
 |nil=>rfl
 |cons a r=>
   rw[Xo (rz 19 (a::r)) rfl];rfl
def jW(m:List Int):jB .len [tI m]=a_ (.int (m.length:Nat),d_):=by rw[DK,aA]
def lK(m:List Int):im (tI m)=c_:=qF m
def p5(a b:List Int)(h:a.length+b.length<=1000):fF .add (tI a) (tI b)=a_ (tI (a++b),d_):=by
 rw[vG (by rw[aA,aA];exact aa h cy),<-cF]
noncomputable abbrev jH:bc:=ab "out"
noncomputable abbrev jR:bc:=ab "let"
def Kz(a b c:bc)(m:List Int):im (.tup [.str a,.str b,tI m,.str c])=c_:=by
 simp[im,kW,(qF m)]
def upB:(uY.all λc=>decide (td c=[c - 32]))=c_:=by kernel_rfl
def up1(h:c∈uY):td c=[c - 32]:=of_decide_eq_true (bB.mp upB c h)
def JF(u:List Nat)(f:Nat->List Nat):(zx (T u) λ_ c=>f c)=(u.flatMap f).toArray:=by
 apply Array.ext';simp only[zx];rw[Array.toList_flatten,Array.toList_mapIdx]
 have e:∀(u:List _),(u.mapIdx λ_ c=>(f c).toArray)=u.map λc=>(f c).toArray:=λu=>by
  apply kA<;>simp
 rw[e,eo]
 congr 1
def xP(h:∀c∈u,c∈uY)(hl:u.length<=1000):iN .upper (.str (T u)) []=a_ (.str (T (u.map (·- 32))),d_):=by
 show(if(T u).length<=1000000 then a_ (Dat.str (rf _),d_)else b_)=_;rw[nV,if_pos (aa hl cy)]
 have:rf (T u)=T (u.map (·- 32)):=by
  show(⟨zx _ _⟩:bc)=_;rw[JF];show T _=T _
  congr 1
  clear hl
  induction u with
  |nil=>rfl
  |cons a r b=>
    rw[Ij,up1 (h a jv),b λc m=>h c (ju _ m)];rfl
 rw[this]
def KJ(l:List Nat):List Nat:=(T [l.headD 0 - 32]++bN (T l) (a_ 1) b_).cps.toList
def AU(ho:KN f):∃(c0:Nat) (B:bc),zr (.str (T f.1)) (.int 0)=a_ (.str (T [c0]))/\iN .upper (.str (T [c0])) []=a_ (.str (T [c0 - 32]),d_)/\Gy (.str (T f.1)) (a_ 1) b_=a_ (.str B,d_)/\fF .add (.str (T [c0 - 32])) (.str B)=a_ (.str (T (KJ f.1)),d_):=by
 obtain⟨c0,d,hc⟩:∃c r,f.1=c::r:=by
  cases q:f.1 with
  |nil=>exact absurd q ho.ne
  |cons c r=>exact⟨c,r,rfl⟩
 have b :=ho.low c0 (by simp_all);refine⟨c0,bN (T _) _ b_,?_,xP (λc hc=>by simp_all) (by simp),if_pos (by exact aa ho.ll cy),?_⟩
 .rw[hc];exact T8 (by rw[<-hc];exact aa ho.ll cy) (by simp)
 .have e3:(T _).length=f.1.length:=nV _;have e1:(T [c0 - 32]).length=1:=nV _;have hh:f.1.headD 0=c0:=by rw[hc];rfl
  show(if(T [c0 - 32]).length+(bN (T f.1) (a_ 1) b_).length<=aC then a_ (Dat.str (T [c0 - 32]++bN (T f.1) (a_ 1) b_),d_)else b_)=_;rw[if_pos (by rw[e1,eK];exact qV (zy (T f.1) _ b_) (ae e3) ho.ll)];unfold KJ;rw[hh]
noncomputable abbrev uT(l:List Nat):List Nat:=l.map (·- 32)
noncomputable abbrev sZ:bc:=ab "all"
noncomputable abbrev ip:bc:=ab "done"
theorem Dk:∀es:List Ed,kW (es.map dc)=c_
 |[]=>rfl
 |e::es=>by rw[aB,kW,Kz,Dk es];rfl
def Iy(ho:KN f):iN .upper (.str (T f.1)) []=a_ (.str (T (uT f.1)),d_):=xP ho.low (aa ho.ll cy)
noncomputable abbrev kM:bc:=ab "num"
noncomputable abbrev FIG:bc:=ab "0123456789"
noncomputable def K0:List Nat:=[48,49,50,51,52,53,54,55,56,57]
def abw:FIG=T K0:=by decide +kernel
noncomputable def FP:List Ed:=[("out",[32],[0],"out"),("done",[32],[0],"out"),("num",[32],[0],"out")]
def NIL:ab ""=T []:=by decide +kernel
noncomputable abbrev oU:bc:=ab "in"
def PW:ab "w"=T [119]:=by decide +kernel
def PB:ab "b"=T [98]:=by decide +kernel
def PE:ab "e"=T [101]:=by decide +kernel
def va(e:Ed):im (dc e)=c_:=Kz ..
def UE(es:List Ed)(e:Ed):es.map dc++[dc e]=(es++[e]).map dc:=by simp
theorem fW{α β:Type}{g:α->List β}{m:Nat}:∀{l:List α},(∀x∈l,(g x).length<=m)->(l.flatMap g).length<=m * l.length
 |[],_=>by simp
 |a::r,h=>by
   rw[Ij,ah,bG,Nat.mul_add];have:=h a jv;have:=fW λx b=>h x (ju _ b);omega
def ite_le{α:Type}{x y:List α}(h1:x.length<=n)(h2:y.length<=n):(if b=c_ then x else y).length<=n:=by
 split
 .exact h1
 .exact h2
def uI{α:Type}{l us vs:List α}{x:α}(h:l=us++x::vs):us.length<l.length:=by
 rw[h,ah];exact aY (aV _ _)
section
variable{es:List Ed}
def kL(h1:ba C a ρ=a_ (.str e.1,f1))(h2:ba C b ρ=a_ (sT e.2.1,f2))(h3:ba C c ρ=a_ (tI e.2.2.1,f3))(B:ba C d ρ=a_ (.str e.2.2.2,f4)):Ev C (.tup [a,b,c,d]) ρ (·= dc e):=
 ⟨_,_,by rw[vn,fi,h1,fi,h2,fi,h3,fi,B];rfl,va e,rfl⟩
def Y8(h:Ev C x ρ (·= d)):ba C (.lst [x]) ρ=a_ (.lst [d],c_):=by
 obtain⟨_,b,ev,hi,rfl⟩:=h;rw[Uw,fi,ev];show a_ _=_;rw[hi,sx];rfl
def nU(h:Ev C x (full ρ) (·= dc e))(hi:(ρ[i]?).join=a_ (.lst (es.map dc),c_))(hl:es.length<1000)(k:Go C ss (ρ.set i (a_ (.lst ((es++[e]).map dc),c_))) Q):Go C (.mut .app i [x]::ss) ρ Q:=
 vd h hi (by rw[aA];exact aa hl cy) λd hd=>by rwa[hd,UE]
def OH(h:ba C c (full ρ)=a_ (.bl b,f'))(B:Ev C x (full ρ) (·= dc e))(hi:(ρ[i]?).join=a_ (.lst (es.map dc),c_))(O:ρ.set i (a_ (.lst (es.map dc),c_))=ρ)(hl:es.length<1000)(k:Go C ss (ρ.set i (a_ (.lst ((es++if b=c_ then [e]else []).map dc),c_))) Q):Go C (.ifs c [.mut .app i [x]] []::ss) ρ Q:=by
 refine jg (J:=λρ'=>ρ'=ρ.set i (a_ (.lst _,c_))) h (λq=>?_) (λq=>bw ⟨_,rfl,?_⟩) λρ' e=>by rwa[e]
 .rw[if_pos q];exact nU B hi hl (bw ⟨_,rfl,rfl⟩)
 simp_all
def ZD(h:ba C a ρ=a_ (.bl x,f))(h':ba C b ρ=a_ (.bl y,g)):∃g,ba C (.and a b) ρ=a_ (.bl (x && y),g):=by
 cases x
 .exact⟨d_,gn h⟩
 .exact⟨g,by rwa[gn h]⟩
def or2(h:ba C a ρ=a_ (.bl x,f))(h':ba C b ρ=a_ (.bl y,g)):∃g,ba C (.or a b) ρ=a_ (.bl (x || y),g):=by
 cases x
 .exact⟨g,by rwa[DA h]⟩
 .exact⟨d_,DA h⟩
end
noncomputable def W6:List (Nat×bc×bc):=[(119,"out","done"),(119,"let","done"),(98,"out","in"),(98,"let","in"),(109,"in","in"),(101,"in","done")]
noncomputable def A6:List (Nat×bc×bc):=[(119,"out","done"),(119,"let","done"),(98,"out","all"),(98,"let","all"),(109,"all","all"),(101,"all","done")]
abbrev ZR(w:Nat×bc×bc):Dat:=.tup [sT [w.1],.str w.2.1,.str w.2.2]
noncomputable abbrev Hk(f:Fm)(w:Nat×bc×bc):List Ed:=if decide (w.1∈f.2.2)=c_ then [(w.2.1,f.1,f.2.1,w.2.2)]else []
abbrev E6(f:Fm):List Ed:=W6.flatMap (Hk f)
def Dm{α:Type}{b:Bool}{e:α}:(if b=c_ then [e]else []).length<=1:=ite_le (ao 1) (aT 1)
def Lb(f:Fm):(E6 f).length<=6:=fW λ_ _=>Dm
def Ky{fs:List Fm}:(im (.tup (fs.map iP)) || d_)=c_:=by
 show(kW _ || d_)=c_;rw[mE];rfl
def GH{fs:List Fm}(hl:fs.length<=12):Cn D (n+1) 3 [.tup (fs.map iP)]=a_ (.lst ((fs.flatMap E6).map dc),c_):=by
 refine sP rfl ?_;refine eX rfl (g9 (I:=λus ρ=>∃d e z4 a b c,ρ=[a_ (.tup _,d_),a_ (.lst ((us.flatMap E6).map dc),c_),d,e,z4,a,b,c]) (jw rfl rfl Ky) ⟨_,_,_,_,_,_,rfl⟩ ?_ λρ ⟨_,_,_,_,_,_,h⟩=>by rw[h];exact⟨_,rfl,rfl⟩);rintro us f vs _ i ⟨_,_,_,a,b,c,rfl⟩;have h1:=fW (l:=us) λf _=>Lb f;have h0:=uI i;refine⟨_,rfl,g9 (V:=ZR) (xs:=W6) (I:=λws ρ=>∃a b c,ρ=[a_ (.tup (fs.map iP),d_),a_ (.lst ((us.flatMap E6++ws.flatMap (Hk f)).map dc),c_),a_ (sT f.1,d_),a_ (tI f.2.1,d_),a_ (sT f.2.2,d_),a,b,c]) (jw rfl rfl rfl) ⟨a,b,c,by rw[gD,aE];rfl⟩ ?_ λρ ⟨_,_,_,h⟩=>by rw[h];exact bw ⟨_,rfl,_,_,_,_,_,_,by rw[cV,cL]⟩⟩;rintro ws w vs _ j ⟨_,_,_,rfl⟩;have h2:=fW (g:=Hk f) (l:=ws) λ_ _=>Dm;have h3:ws.length<6:=uI j;exact⟨_,rfl,OH (gh rfl rfl pV) (kL rfl rfl rfl rfl) rfl rfl (by grind) (bw ⟨_,rfl,_,_,_,by rw[cV,cL,<-aH];rfl⟩)⟩
def GL:Cn D (n+1) 1 []=a_ (.lst (FP.map dc),c_):=by
 exact qq (by kernel_rfl)
abbrev L5(m:List Int)(e:Ed):Ed:=(e.1,KJ e.2.1,m++e.2.2.1,e.2.2.2)
abbrev GX:Ex:=.tup [.v 0,.bin .add (.eU .upper (.ix (.v 1) (.e_ 0)) []) (.sl (.v 1) (a_ (.e_ 1)) b_),.bin .add (.v 4) (.v 2),.v 3]
theorem xf{m:List Int}(O:m.length<=2)(B:Dat):∀es:List Ed,(∀e∈es,∃f,KN f/\e.2.1=f.1/\e.2.2.1=f.2.1)->oH (mT C 4 d_ (i9 4 [1] [a_ B,a_ (tI m)]) [] GX) (es.map dc)=a_ ((es.map (L5 m)).map dc,c_)
 |[],_=>rfl
 |e::es,h=>by
   refine ac λ_ o=>?_;obtain⟨f,hf,e1,e2⟩:=h e jv;obtain⟨l,n,i,j,k,g⟩:=AU hf;obtain⟨d,b,ev,hi,rfl⟩:=kL (ρ:=[a_ _,a_ (sT e.2.1),a_ (tI _),a_ (.str e.2.2.2),a_ (tI m)]) (e:=L5 m e) (a:=.v 0) (b:=.bin _ (.eU _ (.ix (.v 1) (.e_ 0)) []) (.sl (.v 1) (a_ (.e_ 1)) b_)) (c:=.bin .add (.v 4) (.v 2)) (d:=.v 3) rfl (eD (Th (zt rfl rfl (by rwa[e1])) j) (Ja rfl rfl (by rwa[e1])) (by rwa[<-e1]at g)) (p5 m _ (by rw[e2];exact aa (cO O hf.cl) cy)) rfl
   refine o ?_;have hc:mT C 4 d_ (i9 4 [1] [a_ B,a_ (tI m)]) [] GX (dc e)=a_ (a_ (dc (L5 m e),b)):=by
    show(ba C GX [a_ (.str _),a_ (sT _),a_ (tI _),a_ (.str _),a_ _]).map a_=_;rw[ev];rfl
   rw[aB];unfold oH;rw[xf O B es λe he=>h e (ju _ he)]
   simp_all
def GI{n:Nat}{m:List Int}(B:m.length<=2){es:List Ed}(h:∀e∈es,∃f,KN f/\e.2.1=f.1/\e.2.2.1=f.2.1)(hl:es.length<=1000):Cn D (n+1) 4 [.lst (es.map dc),tI m]=a_ (.lst ((es.map (L5 m)).map dc),c_):=
 fE rfl (GO (lV rfl (by rw[aA];exact aa hl cy) (xf B _ es h)))
noncomputable abbrev bg(f:Fm)(w:Nat×bc×bc):Bool:=decide (w.1∈f.2.2) && (!decide ([w.1]=[119]) || decide (1<(f.1.length:Int)))
def qJ(m:List Int)(f:Fm)(w:Nat×bc×bc):List Ed:=if bg f w=c_ then [(w.2.1,uT f.1,(if(w.2.1 == sZ)=c_ then []else m)++f.2.1,w.2.2)]else []
abbrev H6(m:List Int)(f:Fm):List Ed:=A6.flatMap (qJ m f)
def lj:(qJ m f w).length<=1:=Dm
def Dr(m:List Int)(f:Fm):(H6 m f).length<=6:=fW λ_ _=>lj
def x5{n:Nat}{m:List Int}(B:m.length<=2){fs:List Fm}(ho:∀f∈fs,KN f)(hl:fs.length<=12):Cn D (n+1) 5 [.tup (fs.map iP),tI m]=a_ (.lst ((fs.flatMap (H6 m)).map dc),c_):=by
 refine sP rfl ?_;generalize Cn D n=C;refine eX rfl (g9 (I:=λus ρ=>∃s z4 t d i j c,ρ=[a_ (.tup _,d_),a_ _,a_ (.lst ((us.flatMap (H6 m)).map dc),c_),s,z4,t,d,i,j,c]) (jw rfl rfl Ky) ⟨_,_,_,_,_,_,_,rfl⟩ ?_ λρ ⟨_,_,_,_,_,_,_,h⟩=>by rw[h];exact⟨_,rfl,rfl⟩);rintro us f vs _ p ⟨_,_,_,d,i,j,c,rfl⟩;have h1:=fW (l:=us) λf _=>Dr m f;have hf:=ho f (by rw[p];simp);refine⟨_,rfl,g9 (V:=ZR) (xs:=A6) (I:=λws ρ=>∃d i j c,ρ=[a_ (.tup (fs.map iP),d_),a_ (tI m,d_),a_ (.lst ((us.flatMap (H6 m)++ws.flatMap (qJ m f)).map dc),c_),a_ (sT f.1,d_),a_ (tI f.2.1,d_),a_ (sT f.2.2,d_),d,i,j,c]) (jw rfl rfl rfl) ⟨d,i,j,c,by rw[gD,aE];rfl⟩ ?_ λρ ⟨_,_,_,_,h⟩=>by rw[h];exact bw ⟨_,rfl,_,_,_,_,_,_,_,by rw[cV,cL]⟩⟩;rintro ws w vs _ u ⟨_,_,_,c,rfl⟩;have h2:=fW (g:=qJ m f) (l:=ws) λ_ _=>lj;have h3:ws.length<6:=uI u;refine⟨_,rfl,?_⟩;rw[cV,cL,<-aH];have r:(us.flatMap (H6 m)++ws.flatMap (qJ m f)).length<1000:=by grind
 generalize us.flatMap _++ws.flatMap _=es at r ⊢;obtain⟨A,x⟩:=or2 (ρ:=full [a_ (.tup _,d_),a_ _,a_ (.lst _,c_),a_ (sT _,d_),a_ (tI _,d_),a_ (sT _,d_),a_ (sT _,d_),a_ (.str _,d_),a_ (.str _,d_),c]) (a:=.cmp _ (.v 6) (.con (sT [119]))) (b:=.cmp .gt (.blt _ [.v 3]) (.e_ 1)) (gh rfl rfl (ne_T _ _)) (gh (gP rfl (len_T (aa hf.ll cy))) rfl rfl);obtain⟨E,y⟩:=ZD (gh (a:=.v 6) (e:=.v 5) rfl rfl pV) x;refine jg (J:=λρ=>∃c,ρ=[a_ (.tup _,d_),a_ _,a_ (.lst _,c_),a_ (sT _,d_),a_ (tI _,d_),a_ (sT _,d_),a_ (sT [w.1],d_),a_ (.str w.2.1,d_),a_ (.str w.2.2,d_),c]) y (λq=>?_) (λq=>bw ⟨_,rfl,c,by unfold qJ;rw[if_neg (by rw[show bg f w=d_ from q];decide),aE];rfl⟩) λρ ⟨c,h⟩=>bw ⟨_,rfl,_,_,_,c,h⟩
 have z:ba C (.ite (.cmp .eq (.v 7) (.con (.str sZ))) (.tup []) (.v 1)) (full [a_ (.tup (fs.map iP),d_),a_ (tI m,d_),a_ (.lst (es.map dc),c_),a_ (sT f.1,d_),a_ (tI f.2.1,d_),a_ (sT f.2.2,d_),a_ (sT [w.1],d_),a_ (.str w.2.1,d_),a_ (.str w.2.2,d_),c])=a_ (tI (if(w.2.1 == sZ)=c_ then []else m),w.2.1 == sZ):=by
  rw[OR (gh rfl rfl UA) rfl];cases w.2.1 == sZ<;>rfl
 refine bZ (dP z (lK _)) (nU (e:=(w.2.1,uT _,(if(w.2.1 == sZ)=c_ then []else m)++f.2.1,w.2.2)) (kL rfl (Th rfl (Iy hf)) (p5 _ _ (aa (cO (ite_le (aT _) B) hf.cl) cy)) rfl) rfl r (bw ⟨_,rfl,_,by unfold qJ;rw[if_pos (q)];rfl⟩))
abbrev pF(t:Tb)(p:Nat×Int):List Ed:=[(jH,[p.1],t.m2++[p.2],kM),(ip,[p.1],t.m2++[p.2],kM),(kM,[p.1],[p.2],kM)]
abbrev wj(t:Tb):List (Nat×Int):=K0.zip t.fg
abbrev fgD(p:Nat×Int):Dat:=.tup [sT [p.1],.int p.2]
theorem DY:∀(l:List Nat)(g:List Int),ou ((l.map λc=>T [c]).map Dat.str) (g.map Dat.int)=(l.zip g).map fgD
 |[],_=>by simp[ou]
 |_::_,[]=>by simp[ou]
 |c::l,x::g=>by
   simp only[aB,ou,HH,(DY l g)]
abbrev rF(t:Tb):List Ed:=if t.fg.isEmpty=c_ then []else(kM,[],t.m3,jR)::(wj t).flatMap (pF t)
def Bc(t:Tb):(wj t).length<=10:=by
 rw[vO];exact jl _ _
def ZA : es++[a]++[b]++[c]=es++[a,b,c]:=by simp
def Np{t:Tb}(h2:t.m2.length<=2):Cn D (n+1) 2 [L3 t,tI t.fg]=a_ (.lst ((rF t).map dc),c_):=by
 refine sP (body:=b2) rfl ?_;generalize Cn D n=C;have hc:ba C (.cmp .eq (.v 1) (.tup [])) (full [a_ (L3 t,d_),a_ (tI t.fg,d_),b_,b_,b_])=a_ (.bl t.fg.isEmpty,d_):=gh rfl rfl (K8 t.fg);unfold K33.b2 rF;revert hc;cases t.fg.isEmpty
 .intro hc;refine lS hc (eX (ds:=[(kM,[],t.m3,jR)].map dc) (by exact Y8 (kL rfl rfl rfl rfl)) (g9 (V:=fgD) (xs:=wj t) (ρ0:=[a_ (L3 t,d_),a_ (tI t.fg,d_),a_ (.lst ([(kM,[],t.m3,jR)].map dc),c_),b_,b_]) (I:=λus ρ=>∃c z4,ρ=[a_ (L3 t,d_),a_ (tI t.fg,d_),a_ (.lst (((kM,[],t.m3,jR)::us.flatMap (pF t)).map dc),c_),c,z4]) ?_ ⟨_,_,rfl⟩ ?_ λρ ⟨_,_,h⟩=>by rw[h];exact⟨_,rfl,rfl⟩))
  .show bo (j5 (λds=>(ds,[a_ (L3 t,d_),a_ (tI t.fg,d_),a_ (.lst ([(kM,[],t.m3,jR)].map dc),c_),b_,b_])) (a_ (ou ((mm FIG).map Dat.str) (t.fg.map Dat.int)))) (λx:List Dat×c8=>iO (eR d_ [3,4]) (fh C _) x.1 x.2)=_;rw[M6,DY];rfl
  .rintro us p vs _ d ⟨_,_,rfl⟩;have h0:=uI d;have h1:=Bc t;have h3:=fW (g:=pF t) (l:=us) λ_ _=>ao 3;refine⟨_,rfl,?_⟩;rw[cV,<-nP];have a:((kM,[],t.m3,jR)::us.flatMap (pF t)).length<900:=by grind
   generalize (kM,[],t.m3,jR)::us.flatMap (pF t)=es at a ⊢;have b:=p5 t.m2 [p.2] (by show _+1<=_;exact aq h2 (by decide));exact nU (e:=(jH,[p.1],t.m2++[p.2],kM)) (kL rfl rfl b rfl) rfl (aa a (by decide)) (nU (e:=(ip,[p.1],t.m2++[p.2],kM)) (kL rfl rfl b rfl) rfl (by simp;exact aq a (by decide)) (nU (kL rfl rfl rfl rfl) rfl (by simp;exact aY (aq a (by decide))) (bw ⟨_,rfl,_,_,by rw[ZA];rfl⟩)))
 .intro hc;exact xg hc rfl rfl
abbrev As(e:Ed):Bool:=!(e.1 == jR)
def yX(A B:List Ed)(h:A.length+B.length<=1000):fF .add (.lst (A.map dc)) (.lst (B.map dc))=a_ (.lst ((A++B).map dc),c_):=by
 rw[nJ (by rw[aA,aA];exact aa h cy),<-cF,Dk]
abbrev s0(t:Tb):List Ed:=t.fs.flatMap E6
abbrev s1(t:Tb):List Ed:=if t.m0.isEmpty=c_ then s0 t else s0 t++(s0 t).map (L5 t.m0)
abbrev CB(t:Tb):List Ed:=if t.m1.isEmpty=c_ then s1 t else s1 t++t.fs.flatMap (H6 t.m1)
abbrev s3(t:Tb):List Ed:=if t.fg.isEmpty=c_ then(CB t).filter As else CB t
abbrev got(t:Tb):List Ed:=s3 t++FP++rF t
def CD{t:Tb}(hl:t.fs.length<=12):(s0 t).length<=72:=by
 exact j8 (fW λf _=>Lb f) (Nat.mul_le_mul_left 6 hl)
def Jj{t:Tb}(hl:t.fs.length<=12):(s1 t).length<=144:=by
 have h:=CD hl;exact ite_le (aa h cy) (by rw[ah,aA];exact aa (cO h h) cy)
def CC{t:Tb}(hl:t.fs.length<=12):(CB t).length<=216:=by
 have h:=Jj hl;exact ite_le (aa h cy) (by exact qV h (fW (l:=t.fs) λf _=>Dr t.m1 f) (Nat.mul_le_mul_left 6 hl))
def Ji{t:Tb}(hl:t.fs.length<=12):(s3 t).length<=216:=ite_le (aa (fO _ _) (CC hl)) (CC hl)
def Jz(t:Tb):(rF t).length<=31:=by
 have h:=Bc t;have h':=fW (g:=pF t) (l:=wj t) λ_ _=>ao 3;exact ite_le (aT _) (by grind)
abbrev e5(t:Tb)(es:List Ed):c8:=[a_ (tb t,d_),a_ (.tup (t.fs.map iP),d_),a_ (L3 t,d_),a_ (.lst (es.map dc),c_)]
def Dl(t:Tb):im (L3 t)=c_:=by
 simp only[im,kW,gm,ag];exact⟨lK _,lK _,lK _,lK _⟩
def Qk{B:List Ed}(h:ba C c (full (e5 t A))=a_ (.bl (!b),f))(O:ba C y (full (e5 t A))=a_ (.lst (B.map dc),c_))(k:Go C ss (e5 t (if b=c_ then A else B)) Q):Go C (.ifs c [.set 3 y] []::ss) (e5 t A) Q:=by
 refine jg (J:=λρ=>ρ=e5 t _) h (λq=>eX O (bw ⟨_,rfl,?_⟩)) (λq=>bw ⟨_,rfl,?_⟩) λρ h=>by rwa[h]
 .rw[if_neg (by simpa using q)];rfl
 .rw[if_pos (by simpa using q)]
def GJ(ht:HM t)(B:(got t).length<=300):Cn D (n+2) 6 [tb t]=a_ (.lst (IT (got t)),c_):=by
 have d:=GI (n:=n) ht.h0 (λe he=>by
  obtain⟨f,hf,h⟩:=dU.mp he;obtain⟨w,_,h⟩:=dU.mp h;unfold Hk at h;split at h
  .rw[az.mp h];exact⟨f,ht.ho f hf,rfl,rfl⟩
  .cases h) (aa (CD ht.hl) cy)
 have a:=CD ht.hl;have p:=Jj ht.hl;have b:=Ji ht.hl;have r:=fW (l:=t.fs) λf _=>Dr t.m1 f;have m:=ht.hl;refine sP rfl ?_;refine bZ (dP rfl (mE _)) (bZ (dP rfl (Dl t)) (eX (GH (n:=n) ht.hl) ?_));refine Qk (gh rfl rfl (J1 _)) (eD rfl d (yX _ _ (by rw[aA];exact aa (cO a a) cy))) ?_;refine Qk (A:=s1 t) (gh rfl rfl (J1 _)) (eD rfl (x5 (n:=n) ht.h1 ht.ho ht.hl) (yX _ _ (qV p r (Nat.mul_le_mul_left 6 m)))) ?_;refine jg (J:=λρ=>ρ=e5 t (s3 t)) (gh rfl rfl (K8 _)) (λq=>eX (FG As rfl (aa (CC ht.hl) cy) va λe _=>⟨d_,gh rfl rfl YX⟩) (bw ⟨_,rfl,?_⟩)) (λq=>bw ⟨_,rfl,?_⟩) ?_
 .show _=e5 t (if t.fg.isEmpty=c_ then(CB t).filter As else CB t);rw[if_pos q];rfl
 .show _=e5 t (if t.fg.isEmpty=c_ then(CB t).filter As else CB t);rw[if_neg (show¬t.fg.isEmpty=c_ by rw[q];decide)]
 .rintro _ rfl;exact jx (gP (eD (eD rfl (GL (n:=n)) (yX _ _ (by exact Nat.add_le_add_right (aa b cy) _))) (Np (n:=n) ht.h2) (yX _ _ (by rw[ah];show _+3+_<=_;exact j8 b (Jz t)))) (MR B (by intro e;simp[FP]at e))) rfl
theorem Be:∀{a b:List Sx}{ρ ρ':c8},fh C a ρ=a_ (.nx ρ')->fh C (a++b) ρ=fh C b ρ'
 |[],_,ρ,ρ',h=>by cases h;rfl
 |s::a,b,ρ,ρ',h=>by
   obtain⟨o,h1,h2⟩:=ck h
   match o,h1,h2 with
   |.nx _,h1,h2=>
     rw[nP,qp h1];exact Be h2
noncomputable abbrev jC:List bc:=["out","in","done","num","let","all"]
theorem Er{g g':bc->Dat}{s:bc}:∀{l:List bc},l.Nodup->s∈l->(∀s'∈l,s'≠s->g' s'=g s')->∃j,posK (.inr s) (l.map bI)=a_ j/\(l.map g)[j]?=a_ (g s)/\(l.map g).set j (g' s)=l.map g'
 |a::r,b,hs,h=>by
   obtain⟨h1,h2⟩:=aU.mp b;by_cases q:a=s
   .subst q;refine⟨0,if_pos rfl,rfl,?_⟩;have :=dq λs' m=>(h s' (ju _ m) λe=>h1 (e▸m)).symm
    grind
   .obtain⟨j,e1,e2,e3⟩:=Er h2 ((aw.mp hs).resolve_left λe=>q e.symm) λs' m=>h s' (ju _ m);refine⟨j+1,?_,e2,?_⟩
    .show(if(bI a)=.inr s then a_ 0 else(posK _ _).map _)=_
     simp_all
    simp_all
noncomputable abbrev U4(E:List Ed)(s:bc):List Ed:=E.filter λe=>e.1 == s
abbrev Qm(E:List Ed)(s:bc):Dat:=.lst ((U4 E s).map dc)
abbrev rY(E:List Ed):Dat:=.dct (jC.map bI) (jC.map (Qm E))
def V5:jC.Nodup:=by decide +kernel
def R6{E:List Ed}(hl:E.length<1000)(hs:e.1∈jC):Tc .app (.str e.1) [dc e] (rY E)=a_ (rY (E++[e])):=by
 obtain⟨j,e1,e2,e3⟩:=Er (g':=Qm (E++[e])) V5 hs λs' _ q=>by
  unfold Qm U4;rw[qU,zE (by simpa using λh=>q h.symm),Ms,aE]
 have hb:(U4 E e.1).length<=E.length:=fO _ _
 have a:jt .app (Qm E e.1) [dc e]=a_ (Qm (E++[e]) e.1):=by
  unfold Qm U4;rw[rL (by rw[aA];exact aq hb (aa hl cy)),qU,zD (by simp),cF];rfl
 show((posK (.inr e.1) (jC.map bI)).bind λj=>((jC.map (Qm E))[j]?).bind λd=>(jt .app d [dc e]).map λd'=>Dat.dct (jC.map bI) ((jC.map (Qm E)).set j d'))=_;rw[e1,bE,e2,bE,a,df,e3]
abbrev Fv(d:Dat)(E:List Ed)(z:g_):c8:=[a_ (d,d_),a_ (rY E,c_),a_ (.str "all",d_),z]
def Ko:List Sx:=[.VA .app 1 (.ix (.v 3) (.e_ 0)) [.v 3]]
def U6{E:List Ed}(hl:E.length<1000)(hs:e.1∈jC):fh C Ko (Fv d E (a_ (dc e,d_)))=a_ (.nx (Fv d (E++[e]) (a_ (dc e,d_)))):=by
 refine SQ ?_;show((ba C (.ix (.v 3) (.e_ 0)) (full (Fv d E (a_ (dc e,d_))))).bind λy=>(nZ C [.v 3] (full (Fv d E (a_ _)))).bind λx=>if x.2=c_ then WT _ 1 (Fv d E (a_ _)) y.1 x.1 (a_ _)else b_)=_;have a:ba C (.ix (.v 3) (.e_ 0)) (full (Fv d E (a_ (dc e,d_))))=a_ (.str _,d_):=rfl
 have b:nZ C [.v 3] (full (Fv d E (a_ (dc e,d_))))=a_ ([dc e],c_):=by
  show a_ _=_;rw[(va e)];rfl
 rw[a,b,bE];show(Tc _ (.str _) _ _).map _=_;rw[(R6 hl hs)];rfl
theorem Kl:∀(es E:List Ed)(z:g_),E.length+es.length<1000->(∀e∈es,e.1∈jC)->∃B,iO (eR c_ [3]) (fh C Ko) (es.map dc) (Fv d E z)=a_ (.nx (Fv d (E++es) B))
 |[],E,z,_,_=>⟨z,by rw[aE];rfl⟩
 |e::es,E,z,hl,hs=>by
   rw[bG]at hl;obtain⟨B,a⟩:=Kl es (E++[e]) (a_ _) (by rw[ah,List.length_singleton];exact ig hl) λx b=>hs x (ju _ b);refine⟨B,?_⟩;rw[aH]at a;show((fh C Ko (Fv d E (a_ _))).bind _)=_;rwa[U6 (aq (aV _ _) hl) (hs e jv)]
def YD:fh C [.set 1 .px,.loop c_ [2] (.itv (.con (.tup [(.str (ab "out")),(.str (ab "in")),(.str (ab "done")),(.str (ab "num")),(.str (ab "let")),(.str (ab "all"))]))) [(.mut .seti 1 [(.lst []),(.v 2)])]] [a_ (d,d_),b_,b_,b_]=a_ (.nx (Fv d [] b_)):=by kernel_rfl
def RU{E:List Ed}(B:Cn D (n+2) 6 [tb t]=a_ (.lst (E.map dc),c_))(hl:E.length<=300)(hs:∀e∈E,e.1∈jC):Cn D (n+3) 7 [tb t]=a_ (rY E,c_):=by
 refine fE rfl ?_;refine (?_ : fh (Cn D (n+2)) ([.set 1 .px,.loop c_ [2] (.itv (.con (.tup [(.str (ab "out")),(.str (ab "in")),(.str (ab "done")),(.str (ab "num")),(.str (ab "let")),(.str (ab "all"))]))) [(.mut .seti 1 [(.lst []),(.v 2)])]]++[.loop c_ [3] (.itv (.call 6 [.v 0])) Ko,.mo 1]) [a_ (tb t,d_),b_,b_,b_]=_);rw[Be YD];obtain⟨a,b⟩:=Kl E [] b_ (by exact aq (lH hl _) cy) hs
 have h1:pv (Cn D (n+2)) (.loop c_ [3] (.itv (.call 6 [.v 0])) Ko) (Fv (tb t) [] b_)=a_ (.nx (Fv (tb t) E a)):=by
  rw[xp];have:ba (Cn D (n+2)) (.call 6 [.v 0]) (full (Fv (tb t) [] b_))=a_ (.lst (E.map dc),c_):=B;rw[this];exact b
 rw[qp h1];rfl
noncomputable abbrev pre(x:List Nat)(p:Nat)(e:Ed):Bool:=decide (e.2.1 <+: x.drop p)
def VY{x:List Nat}(hp:p<=x.length):gV (T x) (T y) (p:Int)=decide (y <+: x.drop p):=by
 have e1:PySem.fromIndex (T x).length (p)=p:=by
  rfl
 unfold gV;rw[e1];have a:(T x).length=x.length:=bh;have b:(T y).length=y.length:=bh;unfold Builtin.Str.subAt;rw[b]
 have e2:((T x).cps.extract p (p+y.length) == (T y).cps)=decide ((x.drop p).take y.length=y):=by
  rw[show(T x).cps.extract p _=((x.drop p).take y.length).toArray by simp]
  grind
 rw[e2];by_cases h:y <+: x.drop p
 .have h1:=h.length_le;rw[dW]at h1;rw[decide_eq_true h,decide_eq_true (eY.mp h).symm,decide_eq_true (qV (ws hp) h1 (ae a.symm))];rfl
 grind
def RX{es:List Ed}{x:List Nat}(hp:p<=x.length)(hl:es.length<=1000):Cn D (n+1) 8 [.lst (es.map dc),.str (T x),.int (p:Nat)]=a_ (.lst ((es.filter (pre x p)).map dc),c_):=
 fE rfl (GO (FG _ rfl hl va λe _=>⟨d_,by
  refine (?_ : a_ (Dat.bl (gV _ (T _) _),d_)=_)
  rw[VY hp]⟩))
abbrev Row:=bc->Option Nat
noncomputable def vD:Option Nat->Dat
 |none=>.non
 |some k=>.int (k:Nat)
abbrev dD(l:List bc)(g:Row):Dat:=.dct (l.map bI) (l.map λs=>vD (g s))
theorem Kn{g:Row}{s:bc}:∀{l:List bc},s∈l->fN (.inr s) (l.map bI) (l.map λs=>vD (g s))=a_ (vD (g s))
 |a::r,h=>by
   show(if(bI a)=.inr s then a_ (vD _)else fN _ _ (r.map λs=>vD _))=_;by_cases q:a=s
   .simp_all
   .rw[if_neg λe=>q (oi e)];exact Kn ((aw.mp h).resolve_left λe=>q e.symm)
noncomputable abbrev oh:List bc:=["out","done","num"]
structure gE(E:List Ed):Prop where
 b:∀e∈E,e.1∈jC
 o:∀e∈E,e.2.2.2∈jC
 t:∀e∈E,e.2.1.length<=1000
 n:∀e∈E,e.2.1=[]->e.1="num"/\e.2.2.2="let"
 l:E.length<=300
def To(n:Nat):(jC.all λs=>sH (Cn D (n+1) 0 [.str s]) (a_ (.bl (decide (s∈oh)),d_)))=c_:=by kernel_rfl
def RP(hs:s∈jC):Cn D (n+1) 0 [.str s]=a_ (.bl (decide (s∈oh)),d_):=qq (bB.mp (To n) s hs)
theorem Km:∀{l:List bc},s∈l->fN (.inr s) (l.map bI) (l.map g)=a_ (g s)
 |a::r,h=>by
   show(if(bI a)=.inr s then a_ (g a)else fN ..)=_;by_cases q:a=s
   .simp_all
   .rw[if_neg λe=>q (oi e)];exact Km ((aw.mp h).resolve_left λe=>q e.symm)
def ZJ:Ex:=.con (.tup [(.str (ab "out")),(.str (ab "in")),(.str (ab "done")),(.str (ab "num")),(.str (ab "let")),(.str (ab "all"))])
noncomputable abbrev dn(m:Nat):List Dat:=(aR (m+1)).map λk:Nat=>Dat.int ((m:Int) - k)
theorem yq:∀ds:List Dat,oH (mT C 1 c_ ρ0 [] .px) ds=a_ (bD ds.length (.dct [] []),c_)
 |[]=>rfl
 |d::ds=>by
   show bo (a_ (a_ _)) _=_;rw[yq ds];rfl
def cq(b:Nat)(cs:List Int):Prop:=0<cs.length/\cs.length<=b/\∀c∈cs,1<=c/\c<=63
def Cw(C:Fs)(N:Dat):Prop:=∀k a:Int,0<=k/\k<=100->0<a/\a<=63->∃cs b,C 15 [N,.int k,.int a]=a_ (tI cs,b)/\cq 4 cs
def Br(hd:Dw C N)(hi:ba C it ρ=a_ (.int (m:Nat),f))(B:m<=10)(hk:0<=k/\k<=1000)(hp:0<p)(hf:0<few/\few<=63)
  (h1:∀d,ba C e1 ((i9 1 caps ρ).set 0 (a_ d))=a_ (N,d_))(h2:∀d,ba C e2 ((i9 1 caps ρ).set 0 (a_ d))=a_ (.int k,d_))(h3:∀d,ba C e3 ((i9 1 caps ρ).set 0 (a_ d))=a_ (.int few,d_)) :
  ∃cs:List Int,ba C (.comp 1 c_ caps (.rng [it]) [] (.bin .add (.e_ 1) (.call 14 [e1,e2,.bin .add (.con (.int p)) (.bin .mul (.e_ 22) (.v 0)),e3]))) ρ=a_ (.lst (cs.map Dat.int),c_)/\cs.length=m/\∀c∈cs,1<=c/\c<=63:=by
 obtain⟨cs,a,l,h,_⟩:=o8 (elt:=.bin _ _ (.call 14 [e1,e2,.bin _ (.con (.int p)) (.bin _ (.e_ 22) (.v 0)),e3])) (λc:Nat=>.int _) (λ_ c:Nat=>(1:Int)<=c/\(c:Int)<=63) (pI hi (aa B cy)) (by grind) (λ_=>rfl) λj b=>
  DD (ik hd (h1 _) (h2 _) (lp rfl (Dx rfl (j:=(j)) (g:=d_) (by rw[oO];simp[i9]) cy)) (h3 _) hk (by omega) hf.1 λ_ h=>h) λq h=>by omega
 rw[a6]at l;refine⟨cs.map _,by rwa[eo],by rw[aA,l],λc hc=>?_⟩;obtain⟨d,hd,rfl⟩:=bQ.mp hc;obtain⟨_,_,q⟩:=h d hd;exact q
def cw{ns:List Int}:Cw (Cn D (n+3)) (.lst (ns.map Dat.int)):=λk c hk hf=>by
 have hd:Dw (Cn D (n+2)) (.lst (ns.map _)):=dw
 suffices h:Go (Cn D _) _ [a_ (.lst (ns.map _),d_),a_ _,a_ _,b_] λo=>∃cs b,o=.rt (tI cs) b/\cq 4 cs by
  obtain⟨_,h1,cs,b,rfl,h2⟩:=h;exact⟨cs,b,fE rfl h1,h2⟩
 generalize Dat.lst (ns.map _)=N at hd ⊢;have a:0<=k/\k<=1000:=⟨hk.1,(gf hk.2 (by decide))⟩
 refine yB (P:=λv=>1<=v/\v<=4) (sS hd rfl rfl rfl rfl a (by decide) (by decide) (by decide)) (λv=>vt (ik hd rfl rfl rfl rfl a (by decide) (by decide) λ_ _=>trivial) 0) (λv=>sS hd rfl rfl rfl rfl a (by decide) (by decide) (by decide)) λm d=>?_;obtain⟨h1,h2⟩:=d
 .obtain⟨cs,e,l,h3⟩:=Br (ρ:=full [a_ (N,d_),a_ (.int k,d_),a_ (.int c,d_),a_ (.int _,d_)]) (p:=10039) (caps:=[2,1,0]) (it:=.v 3) (e1:=.v 3) (e2:=.v 2) (e3:=.v 1) hd rfl (aa h2 (by decide)) a (by decide) hf (λ_=>rfl) (λ_=>rfl) (λ_=>rfl);exact jx (gP e rfl) ⟨cs,_,rfl,aa h1 (ae l.symm),aa (ae l) h2,h3⟩
section
def Uy{z:Int}{f:Bool}(h:ba C e ρ=a_ (.int z,f)):∃c b,ba C (.ix (.f_ "abcdefghijklmnopqrstuvwxyz") (.bin .mod e (.e_ 26))) ρ=a_ (sT [c],b)/\c∈uY:=by
 have h1:0<=z % 26:=PJ _ cy;obtain⟨q,a⟩:=jF h1;have hl:q<uY.length:=by show q<26;omega
 refine⟨_,d_,?_,br hl⟩;rw[Fo,oP,h];show((fF .mod (.int z) (.int 26)).bind λy=>(zr (.str (T uY)) _).map λd=>(d,d_))=_;rw[lu cy,a];show((zr (.str _) (.int _)).map _)=_;rw[T8 cy hl];rfl
def Qp{elt:Ex}{caps:List Nat}{P:Nat->Prop}{r:Nat->Prop}(h:Ei C e ρ r)(B:∀m,r m->m<=1000)(hs:∀m,r m->∀i,i<m->∃c b,ba C elt ((i9 1 caps ρ).set 0 (a_ (.int ((i:Nat):Int))))=a_ (sT [c],b)/\P c):Ev C (.eU .join (.f_ "") [.comp 1 c_ caps (.rng [e]) [] elt]) ρ λd=>∃W:List Nat,d=sT W/\r W.length/\∀c∈W,P c:=by
 refine ac λ_ k=>?_;obtain⟨m,f,q,g⟩:=h;have a:=B m g;obtain⟨W,e,l,n,_⟩:=o8 (λc=>sT _) _ (pI q a) (by simp_all) (λ_=>rfl) λi hi=>hs m g i (bf.mp hi);refine k ?_;rw[a6]at l;have j:=Oh (by rw[YB];exact aa (ae l) (aa a cy));rw[Xl,eo]at j;exact⟨_,d_,by rwa[yF,bX,e],rfl,W,rfl,by rwa[l],λc hc=>by obtain⟨_,_,q⟩:=n c hc;exact q⟩
end
def lq(ls:List Nat):Prop:=0<ls.length/\ls.length<=6/\∀c∈ls,c∈uY
abbrev L4(ls:List Nat):Dat:=.lst (ls.map λc=>sT [c])
def Lw(C:Fs)(N:Dat):Prop:=∃ls,C 16 [N]=a_ (L4 ls,c_)/\lq ls
def lw{ns:List Int}:Lw (Cn D (n+3)) (.lst (ns.map Dat.int)):=by
 have hd:Dw (Cn D (n+2)) (.lst (ns.map _)):=dw
 suffices h:Go (Cn D _) _ [a_ (.lst (ns.map _),d_),b_,b_,b_] λo=>∃ls,o=.rt (L4 ls) c_/\lq ls by
  obtain⟨_,h1,ls,rfl,h2⟩:=h;exact⟨ls,fE rfl h1,h2⟩
 generalize Dat.lst (ns.map _)=N at hd ⊢;refine yB (P:=λv=>1<=v/\v<=6) (sS hd rfl rfl rfl rfl (by decide) (by decide) (by decide) (by decide)) (λv=>vt (ik hd rfl rfl rfl rfl (by decide) (by decide) (by decide) λ_ _=>trivial) 0) (λv=>sS hd rfl rfl rfl rfl (by decide) (by decide) (by decide) (by decide)) λm a=>?_;obtain⟨h1,h2⟩:=a;refine nG (pW (ik hd rfl rfl rfl rfl (by decide) (by decide) (by decide) λq h=>trivial)) ?_;rintro _ ⟨b,rfl,-⟩;refine nG (pW (Fu (is:=[1,3,5,7,9,11,15]) rfl (ik hd rfl rfl rfl rfl (by decide) (by decide) (by decide) λq h=>by show q<7;omega) λ_ _=>trivial)) ?_;rintro _ ⟨st,rfl,-⟩;obtain⟨ls,e,l,hl,_⟩:=o8 (ρ:=full [a_ _,a_ (.int _,d_),a_ (.int _,d_),a_ (.int _,d_)]) (caps:=[2,3]) (it:=.rng [.v 1]) (elt:=.ix (.f_ _) (.bin _ (.bin _ (.v 1) (.bin _ (.v 0) (.v 2))) _)) (λc=>sT _) _ (pI rfl (aa h2 (by decide))) (by rw[a6];exact Nat.le_trans h2 (by decide)) (λ_=>rfl) λi hi=>Uy (lp rfl (Dx rfl rfl (by grind)));rw[a6]at l;exact jx e ⟨ls,rfl,aa h1 (ae l.symm),aa (ae l) h2,λc hc=>by obtain⟨_,_,q⟩:=hl c hc;exact q⟩
def lo(ls:List Nat)(f:Fm):Prop:=KN f/\(∀c∈f.1,c∈ls)/\∀c∈f.2.1,1<=c/\c<=63
def Fw(C:Fs)(N:Dat):Prop:=∀(k a:Int)(ls:List Nat),0<=k/\k<=10->0<a/\a<=63->lq ls->∃f b,C 17 [N,.int k,L4 ls,.int a]=a_ (iP f,b)/\lo ls f
def ZX:Ex:=.eU .join (.f_ "") [.comp 1 c_ [6] (.rng [.e_ 4]) [.cmp .eq (.bin .band (.bin .shr (.v 1) (.v 0)) (.e_ 1)) (.e_ 1)] (.ix (.f_ "wbme") (.v 0))]
def plB(C:Fs):((aR 16).all λk=>sH (ba C ZX [b_,b_,b_,b_,b_,b_,a_ (.int (k:Nat))]) (a_ (.str (T (Vx k)),d_)))=c_:=by kernel_rfl
def Xm{C:Fs}{a b c d e f g:Option Dat}{k:Nat}(h:k<16):ba C ZX [a,b,c,d,e,f,a_ (.int (k:Nat)),g]=a_ (sT (Vx k),d_):=qq (bB.mp (plB C) k (bf.mpr h))
def fw{ns:List Int}:Fw (Cn D (n+4)) (.lst (ns.map Dat.int)):=λk a ls hk hf hl=>by
 have hd:Dw (Cn D (n+3)) (.lst (ns.map _)):=dw;have hc:Cw (Cn D (n+3)) (.lst (ns.map _)):=cw
 suffices h:Go (Cn D _) _ [a_ (.lst (ns.map _),d_),a_ _,a_ _,a_ _,b_,b_,b_,b_] λo=>∃f b,o=.rt (iP f) b/\lo ls f by
  refine ac λ_ u=>?_;obtain⟨_,h1,f,b,rfl,h2⟩:=h;refine u ?_;exact⟨f,b,fE rfl h1,h2⟩
 generalize Dat.lst (ns.map _)=N at hd hc ⊢;generalize Cn D _=C at hd hc ⊢;refine yB (P:=λv=>1<=v/\v<=6) (sS hd rfl (lp rfl rfl) rfl rfl (⟨(HN hk.1),(HN hk.2)⟩) (by decide) (by decide) (by decide)) (λv=>vt (ik hd rfl (lp rfl rfl) rfl rfl (⟨(HN hk.1),(HN hk.2)⟩) (by decide) (by decide) λ_ _=>trivial) 0) (λv=>sS hd rfl (lp rfl rfl) rfl rfl (by omega) (by decide) (by decide) (by decide)) λm t=>?_;have j:jB .len [L4 ls]=a_ (.int (ls.length),d_):=by simp
 refine nG (Qp (r:=λm=>1<=m/\m<=6) ⟨m,_,rfl,t⟩ (λm h=>(aa h.2 (by decide))) λm t i hi=>Dy rfl (ik hd rfl (lp rfl rfl) (lp rfl (Dx rfl rfl (by decide))) (by exact j) (⟨(HN hk.1),(HN hk.2)⟩) (by omega) (kY.mpr hl.1) λq h=>by omega) λc hc=>hc) ?_;rintro _ ⟨W,rfl,w,d⟩;refine nG (pW (P:=λm=>1<=m/\m<16) (DD (ik hd rfl (lp rfl rfl) rfl rfl (⟨(HN hk.1),(HN hk.2)⟩) (by decide) (by decide) λq h=>by omega) λq h=>by omega)) ?_;rintro _ ⟨l,rfl,p,g⟩;refine bZ (dP (Xm g) rfl) ?_;refine ac λ_ u=>?_;obtain⟨cs,b,x,c1,c2,y⟩:=hc (20+k) a (⟨(HN hk.1),(HN hk.2)⟩) hf
 refine u ?_;have s:∀ρ':fm,ρ'[0]?=a_ (a_ N)->ρ'[1]?=a_ (a_ (.int k))->ρ'[3]?=a_ (a_ _)->ba C (.call 15 [.v 0,.bin .add (.e_ 20) _,.v 3]) _=a_ _:=λρ' h0 h1 h3=>by
  rwa[iW,bX,oO,h0,bX,oP,oO,h1,bX,oO,h3]
 refine jx (f:=c_) ?_ ⟨(W,cs,Vx l),_,rfl,⟨λe=>?_,λc hc=>hl.2.2 c (d c hc),w.2,c1,c2,l,p,g,rfl⟩,d,y⟩
 .rw[vn,fi,fi,s _ rfl rfl rfl];show a_ (iP (W,cs,Vx l),((b || im _) && c_))=_;rw[lK,sx];rfl
 simp_all
section
def S9{fs:List Fm}(B:ba C x (full ρ)=a_ (.lst (fs.map iP),g))(hl:fs.length<=1000)(O:ba C y (full ρ)=a_ (iP f,g')):∃t f',ba C (.cmp .nin (.sl y b_ (a_ (.e_ 2))) (.comp 1 c_ [] (.itv x) [] (.sl (.v 0) b_ (a_ (.e_ 2))))) (full ρ)=a_ (.bl t,f'):=by
 obtain⟨a,e,_,_⟩:=o8 (elt:=.sl (.v 0) b_ (a_ (.e_ 2))) (λf:Fm=>.tup [sT _,tI _]) (λ_ _=>True) (by rw[OQ,B];rfl) hl (λf=>by
  show(c_ && (kW (f.2.1.map _) && c_))=c_
  rw[qF];rfl) λf _=>⟨f,d_,rfl,trivial⟩
 have hs:∀fs:List Fm,eC 20 (fs.map λf=>Dat.tup [sT f.1,tI f.2.1])=c_:=λfs=>by
  induction fs with
  |nil=>rfl
  |cons g r b=>show(iA 20 _ && eC 20 _)=c_;rw[zX,b];rfl
 obtain⟨t,c⟩:∃t,jA .nin (.tup [sT f.1,tI f.2.1]) (.lst (a.map λf=>.tup [sT f.1,tI f.2.1]))=a_ t:=⟨_,if_pos (by rw[zX,hs];rfl)⟩
 refine⟨t,d_,?_⟩;rw[Dz,e,vo,O];show((jA _ (.tup [sT _,tI _]) _).map _)=_;rw[c];rfl
def yA(h:Ev C x (full ρ) P)(O:ba C y (full ρ)=a_ (.int k,g))(hi:(ρ[i]?).join=a_ (.lst ds,c_))(K:∀d,P d->∃B,jt .seti (.lst ds) [d,.int k]=a_ (.lst B)/\Go C ss (ρ.set i (a_ (.lst B,c_))) Q):Go C (.mut .seti i [x,y]::ss) ρ Q:=by
 refine ac λ_ c=>?_;obtain⟨d,f,h1,h2,h3⟩:=h;obtain⟨B,a,b⟩:=K d h3;refine c ?_;exact bZ (ym hi (by rw[fi,h1,fi,O];show a_ ([d,.int k],(f || im d) && ((g || c_) && c_))=_;simp_all) a) b
end
structure fq(ls:List Nat)(fs:List Fm):Prop where
 o:∀f∈fs,lo ls f
 w:∀c∈ls,∃cs,([c],cs,L8)∈fs
def iB:List Sx:=[(.set 5 (.call 17 [(.v 0),(.v 3),(.v 2),(.v 1)])),(.ifs (.cmp .nin (.sl (.v 5) b_ (a_ (.e_ 2))) (.comp 1 c_ [] (.itv (.v 4)) [] (.sl (.v 0) b_ (a_ (.e_ 2))))) [(.set 6 (.call 14 [(.v 0),(.bin .add (.e_ 10) (.v 3)),(.e_ 25031),(.bin .add (.blt .len [(.v 4)]) (.e_ 1))])),(.set 4 (.bin .add (.bin .add (.sl (.v 4) b_ (a_ (.v 6))) (.lst [(.v 5)])) (.sl (.v 4) (a_ (.v 6)) b_)))] [])]
abbrev XW(N:Dat)(B:Int)(ls:List Nat)(fs:List Fm)(O Y Z:g_):c8:=[a_ (N,d_),a_ (.int B,d_),a_ (L4 ls,c_),O,a_ (.lst (fs.map iP),c_),Y,Z]
def ZP(N:Dat)(B:Int)(ls:List Nat)(us:List Nat)(ρ:c8):Prop:=∃(fs:List Fm) (a b c:g_),ρ=XW N B ls fs a b c/\fs.length<=ls.length+us.length/\fq ls fs
def V9{fs:List Fm}(h:q<=fs.length):Gy (.lst (fs.map iP)) b_ (a_ (q:Int))=a_ (.lst ((fs.take q).map iP),c_):=by
 show a_ (Dat.lst (cutD _ b_ (a_ _)),kW (cutD _ b_ (a_ _)))=_;rw[FE (dE _) (by simp_all),show((q:Int)).toNat=q by rfl,<-zm,mE]
def Wa{fs:List Fm}(h:q<=fs.length):Gy (.lst (fs.map iP)) (a_ (q:Int)) b_=a_ (.lst ((fs.drop q).map iP),c_):=by
 show a_ (Dat.lst (cutD _ (a_ _) b_),kW (cutD _ (a_ _) b_))=_;rw[FD (dE _) (by rw[aA];exact eT.mpr h),show((q:Int)).toNat=q by rfl,<-List.map_drop,mE]
def LK{A B:List Fm}(h:A.length+B.length<=1000):fF .add (.lst (A.map iP)) (.lst (B.map iP))=a_ (.lst ((A++B).map iP),c_):=by
 rw[nJ (by rw[aA,aA];exact aa h cy),<-cF,mE]
def Q3(hd:Dw C N)(Y:Fw C N)(hf:0<few/\few<=63)(hl:lq ls){us:List Nat}(Z:us.length<=5)(hx:x<=5)(h:ZP N few ls us ρ):∃ρ1,eR c_ [3] (.int (x:Nat)) ρ=a_ ρ1/\Go C iB ρ1 λo=>∃O,o=.nx O/\ZP N few ls (us++[x]) O:=by
 obtain⟨fs,s,t,u,rfl,h1,h2⟩:=h;refine⟨_,rfl,?_⟩;obtain⟨f,b,l,m⟩:=Y _ _ ls (⟨(dE _),(gf (eT.mpr hx) cy)⟩) hf hl;have n:=hl.2.1;refine bZ (dP l (E8 f)) ?_;refine AX (S9 rfl (qV h1 n Z) rfl) ?_ ⟨fs,_,_,_,rfl,by rw[ah];exact c5 h1,h2⟩ λρ' h=>bw ⟨_,rfl,h⟩;have d:jB .len [.lst (fs.map iP)]=a_ (.int (fs.length),d_):=by simp
 refine nG (pW (P:=(·<=fs.length)) (ik hd rfl (lp rfl rfl) rfl (lp (by exact d) rfl) (by omega) cy (by simp) λq h=>by omega)) ?_;rintro _ ⟨q,rfl,k⟩;have e:(fs.take q).length=q:=by simp_all
 refine eX ?_ (bw ⟨_,rfl,fs.take q++[f]++fs.drop q,_,_,_,rfl,?_,?_,?_⟩)
 .have e1:ba C (.sl (.v 4) b_ (a_ (.v 6))) (full (XW N few ls fs (a_ (.int (x),d_)) (a_ (iP f,d_)) (a_ (.int _,d_))))=a_ (.lst _,c_):=V9 k;have e2:ba C (.sl (.v 4) (a_ (.v 6)) b_) (full (XW N few ls fs (a_ (.int (x),d_)) (a_ (iP f,d_)) (a_ (.int _,d_))))=a_ (.lst _,c_):=Wa k;have e3:ba C (.lst [.v 5]) (full (XW N few ls fs (a_ (.int (x),d_)) (a_ (iP f,d_)) (a_ (.int (q),d_))))=a_ (.lst ([f].map iP),im (iP f) && c_):=rfl;show ba C _ (full (XW N _ ls fs (a_ (.int _,d_)) (a_ _) (a_ (.int _,d_))))=_;rw[oP,oP,e1,e2,e3,bE,bE];rw[(LK (A:=fs.take q) (B:=[f]) (by simp;exact Tw (Nat.min_le_right q fs.length) h1 n Z))];exact (LK (A:=fs.take q++[f]) (B:=fs.drop q) (by simp;exact a4 (Nat.min_le_left q _) (ad k) h1 n Z))
 .rw[ah,ah,e,dW];grind
 .intro g a
  rcases ax.mp a with a|a
  .rcases ax.mp a with a|a
   .exact h2.o g (cJ a)
   simp_all
  .exact h2.o g (eV a)
 .intro c hc;obtain⟨cs,j⟩:=h2.w c hc;refine⟨cs,?_⟩;rw[<-be q fs]at j
  grind
def Ow(C:Fs)(N:Dat):Prop:=∀a:Int,0<a/\a<=63->∃(ls:List Nat) (fs:List Fm) (b:Bool),C 18 [N,.int a]=a_ (.tup (fs.map iP),b)/\fs.length<=11/\lq ls/\fq ls fs
def uE(h:aR m=us++x::vs):us.length<m/\x<m:=by
 have h1:=congrArg fD h;rw[a6,ah]at h1;exact⟨aq (aV _ _) (ae h1.symm),bf.mp (by rw[h];simp)⟩
def So:L8=Vx 15:=cy
def ow{ns:List Int}:Ow (Cn D (n+5)) (.lst (ns.map Dat.int)):=λa hf=>by
 have hd:Dw (Cn D (n+4)) (.lst (ns.map _)):=dw;have hc:Cw (Cn D (n+4)) (.lst (ns.map _)):=cw;have d:Fw (Cn D (n+4)) (.lst (ns.map _)):=fw;obtain⟨ls,el,hl⟩:Lw (Cn D (n+4)) (.lst (ns.map _)):=lw
 suffices h:Go (Cn D _) _ [a_ (.lst (ns.map _),d_),a_ _,b_,b_,b_,b_,b_] λo=>∃(fs:List Fm) (b:Bool),o=.rt (.tup (fs.map iP)) b/\fs.length<=11/\fq ls fs by
  refine ac λ_ y=>?_;obtain⟨_,h1,fs,b,rfl,h2,h3⟩:=h;refine y ?_;exact⟨ls,fs,b,fE rfl h1,h2,hl,h3⟩
 generalize Dat.lst (ns.map _)=N at hd hc d el ⊢;generalize Cn D _=C at hd hc d el ⊢;have s:=hl.2.1;have g:jB .len [L4 ls]=a_ (.int (ls.length),d_):=by simp
 refine eX el ?_
 obtain⟨fs,e,l,h1,h2⟩:=o8 (ρ:=full [a_ (N,d_),a_ (.int a,d_),a_ (L4 ls,c_),b_,b_,b_,b_]) (caps:=[1,2,0]) (it:=.rng [.blt .len [.v 2]]) (elt:=.tup [.ix (.v 2) (.v 0),.call 15 [.v 3,.bin .add (.e_ 4) (.v 0),.v 1],.f_ "wbme"]) iP (λ(k)(f)=>lo ls f/\∀h:k<ls.length,f.1=[ls[k]]/\f.2.2=L8) (pI (by exact g) (aa s (by decide))) (by rw[a6];exact Nat.le_trans s (by decide)) (λf=>E8 f) λi hi=>by
  have hi:=bf.mp hi;refine ac λ_ y=>?_;obtain⟨cs,b,t,c1,c2,u⟩:=hc (4+(i)) a (by omega) hf
  refine y ?_;have j:zr (L4 ls) (.int (i))=a_ (sT [ls[i]]):=by
   show tF _ _=_;rw[jd (by rw[aO,af hi];rfl)]
  refine⟨([ls[i]],cs,L8),c_,?_,⟨⟨by simp,λc h=>?_,by simp,c1,c2,15,by decide,by decide,So⟩,λc h=>?_,u⟩,λ_=>⟨rfl,rfl⟩⟩
  .show bo (bo (j5 _ (zr (L4 ls) (.int _))) _) _=_;rw[j];show bo (j5 _ (bo (C 15 [N,.int _,.int a]) _)) _=_;rw[t];show a_ (iP ([ls[i]],cs,L8),((b || im _) && c_))=_;rw[lK,sx];rfl
  .rw[az.mp h];exact hl.2.2 _ (br hi)
  simp_all
 rw[a6]at l;refine eX e ?_;refine Ds (I:=ZP N a ls) (ik hd rfl rfl rfl rfl (by decide) (by decide) (by decide) λq h=>by omega) (λm h=>by omega) ⟨fs,_,_,_,rfl,ae l,⟨λf hf=>?_,λc hc=>?_⟩⟩ (λm w us x vs ρ r p=>Q3 hd d hf hl (by have:=uE r;omega) (by have:=uE r;omega) p) λm w ρ p=>?_
 .obtain⟨_,_,q,_⟩:=h1 f hf;exact q
 .obtain⟨i,hi,rfl⟩:=jb hc;obtain⟨f,hf,_,q⟩:=h2 i (bf.mpr hi);exact⟨_,by rwa[<-(q hi).1,<-(q hi).2]⟩
 .obtain⟨fs,B,E,F,rfl,j,A⟩:=p;rw[a6]at j;exact jx (by rfl) ⟨fs,_,rfl,by omega,A⟩
def Mw(C:Fs)(N:Dat):Prop:=∀k a:Int,0<=k/\k<=100->0<a/\a<=63->∃cs b,C 19 [N,.int k,.int a]=a_ (tI cs,b)/\cq 2 cs
def mw{ns:List Int}:Mw (Cn D (n+4)) (.lst (ns.map Dat.int)):=λk a hk hf=>by
 obtain⟨cs,b,e,c1,c2,f⟩:=cw k a hk hf;refine⟨cs.take 2,d_,fE rfl ?_,by rw[fI];omega,by rw[fI];exact jl _ _,λc h=>f c (cJ h)⟩;generalize Dat.lst (ns.map _)=N at e ⊢;generalize Cn D _=C at e ⊢;refine GO ?_;show bo (C 15 [N,.int k,.int a]) _=_;rw[e];show a_ (Dat.tup (cutD (cs.map _) b_ _),d_)=_
 have:cutD (cs.map Dat.int) b_ (a_ 2)=(cs.take 2).map Dat.int:=by
  by_cases h:2<=cs.length
  .rw[FE (by simp) (by grind)];simp
  .match cs,c1 with
   |[c],_=>rfl
   |c::d::r,_=>simp at h
 rw[this]
def mq(b:Nat)(m:List Int):Prop:=m.length<=b/\∀c∈m,1<=c/\c<=63
def rN(b:Nat):mq b []:=⟨aT _,λ_ h=>nomatch h⟩
def cq.m{b:Nat}{m:List Int}(h:cq b m):mq b m/\m≠[]:=⟨⟨h.2.1,h.2.2⟩,λe=>by rw[e]at h;exact absurd h.1 cy⟩
structure wT(t:Tb):Prop where
 ok:HM t
 own:∀f∈t.fs,∀c∈f.1,∃cs,([c],cs,L8)∈t.fs
 cf:∀f∈t.fs,∀c∈f.2.1,1<=c/\c<=63
 cm:∀m∈[t.m0,t.m1,t.m2,t.m3,t.fg],∀c∈m,1<=c/\c<=63
 m1:t.m1≠[]->t.m0≠[]
 m3:t.fg≠[]->t.m3≠[]
def t4(B:Mw C N)(h0:ρ[0]?=a_ (a_ (N,d_)))(h1:ρ[1]?=a_ (a_ (.int few,d_)))(hk:0<=k/\k<=100)(hf:0<few/\few<=63):Ev C (.call 19 [.v 0,.con (.int k),.v 1]) (full ρ) λd=>∃cs,d=tI cs/\cq 2 cs:=by
 obtain⟨cs,b,e,h⟩:=B k _ hk hf;refine⟨_,b,?_,lK cs,cs,rfl,h⟩;have a:ba C (.v 0) (full ρ)=a_ (N,d_):=by rw[oO,full,aO,h0];rfl
 have c:ba C (.v 1) (full ρ)=a_ (.int few,d_):=by rw[oO,full,aO,h1];rfl
 rwa[iW,bX,a,bX,bX,c]
abbrev X6(m0 m1 m2 m3:List Int):Dat:=.lst [tI m0,tI m1,tI m2,tI m3]
def GG{ns:List Int}:∃t b,Cn D (n+6) 20 [.lst (ns.map Dat.int)]=a_ (tb t,b)/\wT t:=by
 have hd:Dw (Cn D (n+5)) (.lst (ns.map _)):=dw;have i:Mw (Cn D (n+5)) (.lst (ns.map _)):=mw;have ho:Ow (Cn D (n+5)) (.lst (ns.map _)):=ow
 suffices h:Go (Cn D _) _ [a_ (.lst (ns.map _),d_),b_,b_,b_,b_] λo=>∃t b,o=.rt (tb t) b/\wT t by
  refine ac λ_ B=>?_;obtain⟨_,h1,t,b,rfl,h2⟩:=h;refine B ?_;exact⟨t,b,fE rfl h1,h2⟩
 generalize Dat.lst (ns.map _)=N at hd i ho ⊢;generalize Cn D _=C at hd i ho ⊢;refine nG (pW (P:=λq=>0<q/\q<=63) (Fu (is:=[3,6,63]) rfl (ik hd rfl rfl rfl rfl cy cy cy λq h=>by show q<3;omega) cy)) ?_;rintro _ ⟨a,rfl,hf⟩;have hf:(0:Int)<(a)/\(a:Int)<=63:=⟨(kY.mpr hf.1),(eT.mpr hf.2)⟩
 refine eX rfl ?_;refine AX (J:=λρ=>∃m0 m1,ρ=[a_ _,a_ (.int _,d_),a_ (X6 m0 m1 [] [],c_),b_,b_]/\mq 2 m0/\mq 2 m1/\(m1≠[]->m0≠[])) (vt (ik hd rfl rfl rfl rfl cy cy cy λq h=>trivial) 0) ?_ ⟨[],[],rfl,rN 2,rN 2,λh=>absurd rfl h⟩ ?_
 .refine yA (t4 i rfl rfl cy hf) rfl rfl λd g=>?_;obtain⟨m0,rfl,h0⟩:=g;refine⟨_,rfl,AX (J:=λρ=>∃m1,ρ=[a_ _,a_ (.int _,d_),a_ (X6 m0 m1 [] [],c_),b_,b_]/\mq 2 m1) (vt (ik hd rfl rfl rfl rfl cy cy cy λq h=>trivial) 0) ?_ ⟨[],rfl,rN 2⟩ ?_⟩
  .refine yA (t4 i rfl rfl cy hf) rfl rfl λd g=>?_;obtain⟨m1,rfl,h1⟩:=g;exact⟨_,rfl,bw ⟨_,rfl,m1,rfl,h1.m.1⟩⟩
  .rintro _ ⟨m1,rfl,h1⟩;exact bw ⟨_,rfl,m0,m1,rfl,h0.m.1,h1,λ_=>h0.m.2⟩
 rintro _ ⟨m0,m1,rfl,h0,h1,s⟩;refine eX rfl ?_;refine AX (J:=λρ=>∃m2 m3 fg z4,ρ=[a_ _,a_ (.int _,d_),a_ (X6 m0 m1 m2 m3,c_),a_ (.lst (fg.map Dat.int),c_),z4]/\mq 2 m2/\mq 2 m3/\mq 10 fg/\(fg≠[]->m3≠[])) (vt (ik hd rfl rfl rfl rfl cy cy cy λq h=>trivial) 0) ?_ ⟨[],[],[],b_,rfl,rN 2,rN 2,rN 10,λh=>absurd rfl h⟩ ?_
 .refine yB (P:=λv=>1<=v/\v<=10) (sS hd rfl rfl rfl rfl cy cy cy cy) (λv=>vt (ik hd rfl rfl rfl rfl cy cy cy λ_ _=>trivial) 0) (λv=>sS hd rfl rfl rfl rfl cy cy cy cy) λm u=>?_;have k:=u.2;refine ac λ_ B=>?_;obtain⟨fg,e,l,h3⟩:=Br (ρ:=full [a_ (N,d_),a_ (.int _,d_),a_ _,a_ _,a_ (.int _,d_)]) (p:=30091) (caps:=[1,0]) (it:=.v 4) (e1:=.v 2) (e2:=.e_ 27) (e3:=.v 1) hd rfl k cy cy hf (λ_=>rfl) (λ_=>rfl) (λ_=>rfl);refine B ?_;refine eX e ?_;refine yA (t4 i rfl rfl cy hf) rfl rfl λd g=>?_;obtain⟨m2,rfl,h2⟩:=g;refine⟨[tI m0,tI m1,tI m2,tI []],rfl,yA (t4 i rfl rfl cy hf) rfl rfl λd g=>?_⟩;obtain⟨m3,rfl,r⟩:=g;exact⟨_,rfl,bw ⟨_,rfl,m2,m3,fg,_,rfl,h2.m.1,r.m.1,⟨aa (ae l) k,h3⟩,λ_=>r.m.2⟩⟩
 rintro _ ⟨m2,m3,fg,z4,rfl,h2,h3,x,y⟩;obtain⟨ls,fs,b,e,hl,z,j⟩:=ho a hf;refine jx (d:=tb ⟨fs,m0,m1,m2,m3,fg⟩) (f:=c_) ?_ ⟨_,_,rfl,⟨λf hf=>(j.o f hf).1,by exact c5 hl,h0.1,h1.1,h2.1,h3.1,x.1⟩,λf hf c hc=>j.w c ((j.o f hf).2.1 c hc),λf hf=>(j.o f hf).2.2,?_,s,y⟩
 .show bo (bo (C 18 [N,.int _]) _) _=_;rw[e];have A:im (Dat.tup _)=c_:=mE fs
  have i2:im (Dat.tup [tI m0,tI m1,tI m2,tI m3])=c_:=by
   simp only[im,kW,gm,ag];exact⟨lK _,lK _,lK _,lK _⟩
  have i3:=lK fg;refine (?_ : a_ (tb ⟨fs,m0,m1,m2,m3,fg⟩,(b || im (Dat.tup _)) && ((_ || im (Dat.tup _)) && ((_ || im _) && c_)))=_)
  simp_all
 .intro m i c hc;simp only[aw,bq,or_false]at i
  rcases i with rfl|rfl|rfl|rfl|rfl
  .exact h0.2 c hc
  .exact h1.2 c hc
  .exact h2.2 c hc
  .exact h3.2 c hc
  .exact x.2 c hc
noncomputable def ltN(a b:Nat):Bool:=decide (a<b)
def loN:M.LO ltN:=⟨λx=>by simp[ltN],λx y z h h'=>by simp[ltN]at *;exact cM h h',λx y h h'=>by simp[ltN]at *;exact aF h' h⟩
abbrev c1(l:List Nat):List Dat:=l.map λc=>sT [c]
noncomputable def lets(fs:List Fm):List Nat:=(fs.map (·.1)).flatten
def U(fs:List Fm):List Nat:=kJ ltN (lets fs)
def Ke:c∈U fs↔∃f∈fs,c∈f.1:=by
 rw[U,jV loN];unfold lets;simp
noncomputable def Zn(t:Tb)(u:List Nat):List Nat:=if t.m0.isEmpty=c_ then []else u.map (·- 32)
def raw(t:Tb):List Nat:=[32]++K0.take t.fg.length++Zn t (U t.fs)++U t.fs
def YC:((aR 10).all λk=>sH (jB .str [.int (k:Nat)]) (a_ (.str (T [48+k]),d_)) && decide (K0[k]?=a_ (48+k)))=c_:=by kernel_rfl
def wJ(h:k<10):jB .str [.int (k:Nat)]=a_ (.str (T [48+k]),d_)/\K0[k]?=a_ (48+k):=by
 have:=bB.mp YC k (bf.mpr h);rw[ag]at this;exact⟨qq this.1,of_decide_eq_true this.2⟩
def WO:jA .nin (sT [c]) (.lst (c1 l))=a_ (!decide (c∈l)):=by
 have hs:∀l:List _,eC 20 (c1 l)=c_:=λl=>by
  induction l with
  |nil=>rfl
  |cons a r b=>show(c_ && eC 20 (c1 r))=c_;rw[b];rfl
 show(if(c_ && eC 20 _)=c_ then a_ (!(c1 l).any λy=>og y (sT _))else b_)=_;rw[hs,qh,if_pos rfl]
 congr 2
 induction l with
 |nil=>rfl
 |cons a r b=>
   show((T _ == T _) || (c1 r).any λy=>og y (sT _))=_;rw[b]
   grind
def tV(h:ba C a ρ=a_ (tI m,f)):ba C (.cmp .gt (.blt .len [a]) (.e_ 0)) ρ=a_ (.bl (!m.isEmpty),d_):=gh (gP h (jW m)) rfl (by
 show a_ (decide (0<((m.length):Int)))=_
 cases m with
 |nil=>rfl
 |cons a r=>simp)
def Wq{t:Tb}(hf:f∈t.fs)(hc:c∈f.1):c∈raw t:=ai _ (Ke.mpr ⟨f,hf,hc⟩)
def Wo{t:Tb}(hf:f∈t.fs)(hc:c∈f.1)(B:t.m0.isEmpty=d_):c - 32∈raw t:=by
 refine au _ (ai _ ?_);unfold Zn;rw[B];exact bQ.mpr ⟨c,Ke.mpr ⟨f,hf,hc⟩,rfl⟩
def Wp{t:Tb}(hk:k<t.fg.length)(h:k<10):48+k∈raw t:=by
 refine au _ (au _ (ai _ ?_));have:=(wJ h).2;exact oV.mpr ⟨k,by simp_all⟩
def Wr(t:Tb):32∈raw t:=au _ (au _ (au _ jv))
def sq(t:Tb)(b:Nat)(ss:List Nat):Prop:=ss≠[]/\ss.length<=b/\∀c∈ss,c∈raw t
abbrev Vm(t:Tb)(ss:List Nat)(z:g_):c8:=[a_ (tb t,d_),a_ (.lst (c1 ss),c_),z]
def Yk(t:Tb)(us:List Fm)(ρ:c8):Prop:=∃ss z,ρ=Vm t ss z/\sq t (11+2 * us.length) ss
def Zd:List Sx:=[(.ifs (.and (.cmp .eq (.blt .len [(.ix (.v 2) (.e_ 0))]) (.e_ 1)) (.cmp .nin (.ix (.v 2) (.e_ 0)) (.v 1))) [(.mut .app 1 [(.ix (.v 2) (.e_ 0))]),(.ifs (.cmp .gt (.blt .len [(.ix (.ix (.v 0) (.e_ 1)) (.e_ 0))]) (.e_ 0)) [(.mut .app 1 [(.eU .upper (.ix (.v 2) (.e_ 0)) [])])] [])] [])]
def IU(h:sq t b ss)(hc:c∈raw t):sq t (b+1) (ss++[c]):=⟨by simp,by rw[ah];exact aY h.2.1,λd hd=>by
 rcases ax.mp hd with q|q
 .exact h.2.2 d q
 simp_all⟩
def LA(B:List Nat)(c:Nat):c1 B++[sT [c]]=c1 (B++[c]):=by show _=wC _ _;rw[cF];rfl
def Q0(ht:HM t){us:List Fm}(hf:f∈t.fs)(O:us.length<=100)(h:Yk t us ρ):∃ρ1,eR c_ [2] (iP f) ρ=a_ ρ1/\Go C Zd ρ1 λo=>∃B,o=.nx B/\Yk t (us++[f]) B:=by
 obtain⟨a,z,rfl,hs⟩:=h;refine⟨_,rfl,?_⟩;have g:=ht.ho f hf;have hlen:=hs.2.1;have fin:∀ss',sq t (11+2 * us.length+2) ss'->∃B,Out.nx (Vm t _ (a_ (iP f,d_)))=.nx B/\Yk t (us++[f]) B:=λss' h=>⟨_,rfl,_,_,rfl,h.1,by rw[ah];have:=h.2.1;omega,h.2.2⟩
 have l:ba C (.cmp .eq (.blt _ [.ix (.v 2) (.e_ 0)]) (.e_ 1)) (full (Vm t a (a_ (iP f,d_))))=a_ (.bl (decide (f.1.length=1)),d_):=gh (gP rfl (len_T (aa g.ll cy))) rfl (by
  show a_ (decide _)=_
  rw[decide_eq_decide.mpr (show((f.1.length):Int)=1↔f.1.length=1 by omega)])
 by_cases h1:f.1.length=1
 .obtain⟨c,hc⟩:∃c,f.1=[c]:=by
   match q:f.1,h1 with
   |[c],_=>exact⟨c,rfl⟩
  have e:c∈f.1:=by simp_all
  have j:ba C (.and (.cmp .eq (.blt .len [.ix (.v 2) (.e_ 0)]) (.e_ 1)) (.cmp .nin (.ix (.v 2) (.e_ 0)) (.v 1))) (full (Vm t a (a_ (iP f,d_))))=a_ (.bl (!decide (c∈a)),d_):=by
   rw[gn l,decide_eq_true h1];exact (gh rfl rfl (by rw[hc,WO]))
  refine jg j (λ_=>?_) (λ_=>bw (fin a ⟨hs.1,Cc hlen,hs.2.2⟩)) λρ' h=>bw ⟨_,rfl,h⟩;refine vd (P:=(·= sT _)) ⟨sT _,d_,rfl,rfl,by rw[hc]⟩ rfl (by rw[aA];exact qV hlen O O) λd hd=>?_;rw[hd,LA];have b:=IU hs (Wq hf e);refine jg (tV rfl) (λq=>?_) (λ_=>bw (fin _ ⟨b.1,c5 b.2.1,b.2.2⟩)) λρ' h=>bw ⟨_,rfl,h⟩;refine vd (P:=(·= sT [c - 32])) ⟨sT _,d_,?_,rfl,rfl⟩ rfl (by rw[aA,ah];show _+1<_;exact qV hlen O O) λd hd=>?_
  .show iN .upper (sT _) []=_;rw[hc];exact (xP (λd hd=>by rw[az.mp hd];exact g.low c e) (by simp))
  .rw[hd,LA];exact bw (fin _ (IU b (Wo hf e (by simpa using q))))
 .have j:ba C (.and (.cmp .eq (.blt .len [.ix (.v 2) (.e_ 0)]) (.e_ 1)) (.cmp .nin (.ix (.v 2) (.e_ 0)) (.v 1))) (full (Vm t a (a_ (iP f,d_))))=a_ (.bl d_,d_):=by
   rw[gn l,decide_eq_false h1];rfl
  exact jg j (λq=>absurd q cy) (λ_=>bw (fin a ⟨hs.1,Cc hlen,hs.2.2⟩)) λρ' h=>bw ⟨_,rfl,h⟩
def uB(ht:HM t):∃ss,Cn D (n+1) 23 [tb t]=a_ (.lst (c1 ss),c_)/\sq t 40 ss:=by
 suffices h:Go _ _ [a_ _,b_,b_] λo=>∃ss,o=.rt (.lst (c1 ss)) c_/\sq t 40 ss by
  obtain⟨_,h1,ss,rfl,h2⟩:=h;exact⟨ss,fE rfl h1,h2⟩
 generalize Cn D n=C;have a:=ht.hf
 obtain⟨fs,e,l,h1,_⟩:=o8 (ρ:=full [a_ (tb t,d_),b_,b_]) (it:=.rng [.blt .len [.ix (.v 0) (.e_ 2)]]) (elt:=.blt .str [.v 0]) (λc=>sT [c]) _ (pI (jW _) (aa a cy)) (by grind) (λ_=>rfl) λk hk=>by
  have hk:=bf.mp hk;exact⟨_,d_,(wJ (aa hk a)).1,Wp hk (aa hk a)⟩
 rw[a6]at l;refine eX (ds:=c1 (32::fs)) ?_ ?_
 .show bo (ba C (.comp 1 c_ [] (.rng [.blt _ [.ix _ _]]) [] (.blt _ _)) (full [a_ _,b_,b_])) _=_;rw[e];show(if 1+(fs.map λc=>sT _).length<=aC then _ else b_)=_;rw[if_pos (by rw[aA,eK];exact j8 (ae l) a)];rfl
 .refine g9 (I:=Yk t) (jw rfl rfl (by show(kW _ || d_)=c_;rw[mE];rfl)) ⟨_,_,rfl,by simp,by simp;simp_all,λc hc=>?_⟩ (λus f vs ρ q h=>Q0 ht (by rw[q];simp) (by have:=ht.hl;grind) h) λρ' h=>?_
  .rcases aw.mp hc with rfl|hc
   .exact Wr t
   simp_all
  .obtain⟨ss,z,rfl,hs⟩:=h;exact⟨_,rfl,ss,rfl,hs.1,by have:=hs.2.1;have:=ht.hl;omega,hs.2.2⟩
def Jl{ns:List Int}(ht:HM t)(B:m<=100):∃x b,Cn D (n+3) 24 [.lst (ns.map Dat.int),tb t,.int (m:Nat)]=a_ (sT x,b)/\x.length=m/\∀c∈x,c∈raw t:=by
 have hd:Dw (Cn D (n+2)) (.lst (ns.map _)):=dw;refine ac λ_ w=>?_;obtain⟨ss,r,h0,hl,hs⟩:=uB (n:=n+1) ht
 refine w ?_;suffices h:Go (Cn D _) _ [a_ (.lst (ns.map _),d_),a_ _,a_ (.int _,d_),b_] λo=>∃x b,o=.rt (sT x) b/\x.length=m/\∀c∈x,c∈raw t by
  obtain⟨_,h1,x,b,rfl,h2⟩:=h;exact⟨x,b,fE rfl h1,h2⟩
 generalize Dat.lst (ns.map _)=N at hd ⊢;have g :=bY.mpr h0;refine eX r ?_
 have hi:∀l:List _,kW (c1 l)=c_:=λl=>by
  induction l with
  |nil=>rfl
  |cons a r p=>show(c_ && kW _)=c_;rw[p];rfl
 refine eX (ds:=c1 (ss++ss.drop 1)) ?_ ?_
 .have e1:Gy (.lst (c1 ss)) (a_ 1) b_=a_ (.lst (c1 (ss.drop 1)),c_):=by
   show a_ (Dat.lst (cutD _ _ b_),kW (cutD _ _ b_))=_;rw[FD (by simp) (by rw[aA];exact eT.mpr g)];show a_ (Dat.lst ((c1 ss).drop 1),kW ((c1 ss).drop 1))=_;rw[List.map_drop.symm,hi]
  refine eD rfl (Ja rfl rfl e1) ?_;rw[nJ (by grind),cF.symm,hi]
 .have h2:∀c∈ss++ss.drop 1,c∈raw t:=λc hc=>by
   grind
  have h3:0<(ss++ss.drop 1).length:=by rw[ah];exact Mm _ g
  generalize ss++ss.drop 1=s2 at h2 h3 ⊢;have j:jB .len [.lst (c1 s2)]=a_ (.int (s2.length),d_):=by simp
  refine ac λ_ w=>?_;obtain⟨d,f,e,_,W,rfl,s,k⟩:=Qp (ρ:=full [a_ (N,d_),a_ _,a_ (.int _,d_),a_ (.lst (c1 s2),c_)]) (e:=.v 2) (caps:=[0,3]) (elt:=.ix (.v 2) (.call 14 [.v 1,.bin _ (.e_ 31) (.v 0),.e_ 35023,.blt .len [.v 2]])) (r:=(·= m)) ⟨m,_,rfl,rfl⟩ (λm h=>(aa (ae h) (aa B cy))) λu h i hi=>Dy rfl (ik hd rfl (lp rfl rfl) rfl (by exact j) (by omega) cy (kY.mpr h3) λq h=>by omega) h2;refine w ?_;exact jx e ⟨W,f,rfl,s,k⟩
end K33E
namespace M
open PySem L2
open Builtin Builtin.Str
def KD{p q n:Nat}:strSliceIndices (a_ (p:Int)) (a_ (q:Int)) 1 n=strSliceIndices (a_ (p:Int)) (a_ ((min q n:Nat):Int)) 1 n:=by
 have h2:¬((q:Int)<0):=by simp
 have h3:¬(((min q n:Nat):Int)<0):=by simp
 have e:max (0:Int) (min (q) (n))=max 0 (min ((min q n:Nat):Int) (n)):=by omega
 simp only[strSliceIndices,h2,h3,if_false,e,show((1:Int) > 0)=True by simp,if_true]
set_option tactic.hygienic true in
def oX{x:List Nat}(h1:p<=q)(h2:q<=x.length)(h:strSliceIndices l u 1 x.length=strSliceIndices (a_ (p:Int)) (a_ (q:Int)) 1 x.length):bN (T x) l u=T ((x.drop p).take (q - p)):=by
 have e:=PySem.StrLaws.sliced_plain (T x) h1 (by exact h2);rw[nV]at e;unfold bN;rw[nV,h,e,PySem.StrLaws.strSliceIndices_plain h1 h2];split
 .rename_i z;simp at z;have hp:p=0:=aF (qV (ws h1) h2 (ae z.symm)) (G5);subst hp;rw[z,PF,LU]
 .rfl
def zV{x:List Nat}(hp:p<=x.length)(B:p<=q):bN (T x) (a_ (p:Int)) (a_ (q:Int))=T ((x.drop p).take (q - p)):=by
 rw[oX (by omega) (kF _ _) KD]
 congr 1
 by_cases h:q<=x.length
 .rw[(dO h)]
 .rw[cG (by rw[dW];exact qV (ad hp) (a1 q x.length (ig (Nat.lt_of_not_le h))) (ay (Min.min q _) p)),cG (by rw[dW];exact Nat.sub_le_sub_right (aD (bR h)) _)]
def M3:bN (T (c::r)) b_ (a_ 1)=T [c]:=by
 rw[oX (p:=0) (q:=1) (by simp) (by simp)]
 .rfl
 .rfl
end M
namespace K33E
open PySem L2 M K33
def gX(t:Tb)(f:Fm)(w:Nat×bc×bc):List Ed:=Hk f w++(if t.m0.isEmpty=c_ then []else(Hk f w).map (L5 t.m0))
abbrev W4:List (Nat×bc):=[(119,ip),(98,oU),(109,oU),(101,ip)]
def hit(b:bc)(w:Nat×bc):Bool:=decide (w.1∈[119,98]) == !(b == oU)
def hX(t:Tb)(f:Fm)(b:bc)(w:Nat×bc):List Ed:=if hit b w=c_ then gX t f (w.1,b,w.2)else []
abbrev ZS(w:Nat×bc):Dat:=.tup [sT [w.1],.str w.2]
abbrev B2(t:Tb)(f:Fm)(B:g_)(es:List Ed)(Z O Y:g_):c8:=[a_ (tb t,d_),a_ (iP f,d_),a_ (sT f.1,d_),a_ (tI f.2.1,d_),a_ (sT f.2.2,d_),a_ (tI t.m0,d_),a_ (tI t.m1,d_),B,a_ (.lst (es.map dc),c_),Z,O,Y]
set_option tactic.hygienic true in
def Uh(ho:KN f)(h:ba C a ρ=a_ (sT f.1,g)):ba C (.bin .add (.eU .upper (.sl a b_ (a_ (.e_ 1))) []) (.sl a (a_ (.e_ 1)) b_)) ρ=a_ (sT (KJ f.1),d_):=by
 refine ac λ_ j=>?_;obtain⟨b,e,_,h2,h3,d⟩:=AU ho
 refine j ?_;have h1:Gy (sT f.1) b_ (a_ 1)=a_ (sT [b],d_):=by
  show(if(T _).length<=aC then a_ (Dat.str (bN (T _) b_ _),d_)else b_)=_;rw[if_pos (by rw[nV];exact aa ho.ll (by decide))]
  obtain⟨c,r,hc⟩:∃c r,f.1=c::r:=by
   cases q:f.1 with
   |nil=>exact absurd q ho.ne
   |cons c r=>exact⟨c,r,rfl⟩
  rename_i q;rw[hc]at q ⊢;rw[M3];have:=T8 (l:=c::r) (i:=0) (by rw[<-hc];exact aa ho.ll (by decide)) (by simp)
  simp_all
 exact eD (Th (Jb h rfl h1) h2) (Ja h rfl h3) d
def Xc:List Sx:=[(.ifs (.and (.cmp .isin (.v 10) (.v 4)) (.cmp .eq (.cmp .isin (.v 10) (.f_ "wb")) (.cmp .ne (.v 9) (.f_ "in")))) [(.mut .app 8 [(.tup [(.v 9),(.v 2),(.v 3),(.v 11)])]),(.ifs (.cmp .gt (.blt .len [(.v 5)]) (.e_ 0)) [(.mut .app 8 [(.tup [(.v 9),(.bin .add (.eU .upper (.sl (.v 2) b_ (a_ (.e_ 1))) []) (.sl (.v 2) (a_ (.e_ 1)) b_)),(.bin .add (.v 5) (.v 3)),(.v 11)])])] [])] [])]
def W5:List Sx:=[(.ifs (.and (.cmp .isin (.f_ "w") (.v 4)) (.cmp .gt (.blt .len [(.v 2)]) (.e_ 1))) [(.mut .app 8 [(.tup [(.v 9),(.eU .upper (.v 2) []),(.bin .add (.v 6) (.v 3)),(.f_ "done")])])] []),(.ifs (.cmp .isin (.f_ "b") (.v 4)) [(.mut .app 8 [(.tup [(.v 9),(.eU .upper (.v 2) []),(.bin .add (.v 6) (.v 3)),(.f_ "all")])])] [])]
def Zf:List Sx:=[(.ifs (.cmp .isin (.v 10) (.v 4)) [(.mut .app 8 [(.tup [(.f_ "all"),(.eU .upper (.v 2) []),(.v 3),(.v 11)])])] [])]
def Qj(q:(decide (w.1∈f.2.2) && hit b w)=d_):hX t f b w=[]:=by
 unfold hX gX Hk;by_cases h:hit b w=c_
 .simp_all
 .rw[if_neg h]
def Qi(q:(decide (w.1∈f.2.2) && hit b w)=c_):hX t f b w=[(b,f.1,f.2.1,w.2)]++(if t.m0.isEmpty=c_ then []else [(b,KJ f.1,t.m0++f.2.1,w.2)]):=by
 rw[ag]at q;unfold hX gX Hk;rw[if_pos q.2,if_pos q.1];rfl
def Dq(t:Tb)(f:Fm)(b:bc)(w:Nat×bc):(hX t f b w).length<=2:=by
 cases q:(decide (w.1∈f.2.2) && hit b w)with
 |false=>rw[Qj q];exact aT _
 |true=>
   rw[Qi q];cases t.m0.isEmpty
   .exact ao 2
   .exact vN 1
section
variable{t:Tb}{f:Fm}(ht:HM t)(ho:KN f)
include ht ho
def U5{es:List Ed}(hl:es.length<900):Go C Xc (B2 t f B es (a_ (.str b,d_)) (a_ (sT [w.1],d_)) (a_ (.str w.2,d_))) λo=>∃O,o=.nx O/\O=B2 t f B (es++hX t f b w) (a_ (.str b,d_)) (a_ (sT [w.1],d_)) (a_ (.str w.2,d_)):=by
 have i:ba C (.cmp .eq (.cmp .isin (.v 10) (.f_ "wb")) (.cmp .ne (.v 9) (.f_ "in"))) (full (B2 t f B es (a_ (.str b,d_)) (a_ (sT [w.1],d_)) (a_ (.str w.2,d_))))=a_ (.bl (hit b w),d_):=by
  exact gh (gh rfl rfl pV) (gh rfl rfl rfl) rfl
 have j:ba C (.and (.cmp .isin (.v 10) (.v 4)) (.cmp .eq (.cmp .isin (.v 10) (.f_ "wb")) (.cmp .ne (.v 9) (.f_ "in")))) (full (B2 t f B es (a_ (.str b,d_)) (a_ (sT [w.1],d_)) (a_ (.str w.2,d_))))=a_ (.bl (decide (w.1∈f.2.2) && hit b w),d_):=by
  rw[gn (gh rfl rfl pV),i];cases decide (w.1∈f.2.2)<;>rfl
 refine jg j (λq=>?_) (λq=>bw ⟨_,rfl,by rw[Qj q,aE]⟩) λρ' h=>bw ⟨_,rfl,h⟩;rw[Qi q,<-aH];refine nU (e:=(b,f.1,f.2.1,w.2)) (kL rfl rfl rfl rfl) rfl (aa hl cy) ?_;refine (?_ : Go C _ (B2 t f B _ (a_ _) (a_ (sT _,d_)) (a_ (.str _,d_))) _);refine jg (tV rfl) (λc=>?_) (λc=>bw ⟨_,rfl,?_⟩) λρ' h=>bw ⟨_,rfl,h⟩
 .refine nU (e:=(b,KJ _,t.m0++f.2.1,w.2)) (kL rfl (Uh ho rfl) (p5 _ _ (by have:=ht.h0;have:=ho.cl;omega)) rfl) rfl (by rw[ah];exact aq hl cy) (bw ⟨_,rfl,?_⟩);have d:t.m0.isEmpty=d_:=by simpa using c
  rw[d];rfl
 .have d:t.m0.isEmpty=c_:=by simpa using c
  rw[d,if_pos rfl,aE]
end
abbrev bs(t:Tb):List bc:=if t.fg.isEmpty=c_ then [jH]else [jH,jR]
abbrev A2(t:Tb)(f:Fm)(b:bc):List Ed:=qJ t.m1 f (119,b,ip)++qJ t.m1 f (98,b,sZ)
abbrev V2:List (Nat×bc):=[(109,sZ),(101,ip)]
abbrev A3(t:Tb)(f:Fm)(w:Nat×bc):List Ed:=qJ t.m1 f (w.1,sZ,w.2)
abbrev F1(t:Tb)(f:Fm):List Ed:=(bs t++[oU]).flatMap λb=>W4.flatMap (hX t f b)
abbrev qB(t:Tb)(f:Fm):List Ed:=F1 t f++(if t.m1.isEmpty=c_ then []else(bs t).flatMap (A2 t f)++V2.flatMap (A3 t f))
def DJ(t:Tb):(bs t).length<=2:=by
 show(if t.fg.isEmpty=c_ then [jH]else [jH,jR]).length<=2;split<;>decide
def LM(t:Tb)(f:Fm):(F1 t f).length<=24:=by
 have h:=fW (l:=bs t++[oU]) λb _=>fW (l:=W4) λw _=>Dq t f b w;have h2:=DJ t;rw[ah]at h;have h:(F1 t f).length<=8 * ((bs t).length+1):=h;omega
def KW{es:List Ed}(h:ba C c (full ρ)=a_ (.bl (bg f w),f'))(B:Ev C x (full ρ) (·= dc (w.2.1,uT f.1,(if(w.2.1 == sZ)=c_ then []else m)++f.2.1,w.2.2)))(hi:(ρ[i]?).join=a_ (.lst (es.map dc),c_))(O:ρ.set i (a_ (.lst (es.map dc),c_))=ρ)(hl:es.length<1000)(k:Go C ss (ρ.set i (a_ (.lst ((es++qJ m f w).map dc),c_))) Q):Go C (.ifs c [.mut .app i [x]] []::ss) ρ Q:=by
 refine jg (J:=λρ'=>ρ'=ρ.set i (a_ (.lst _,c_))) h (λq=>?_) (λq=>bw ⟨_,rfl,?_⟩) λρ' e=>by rwa[e]
 .unfold qJ;rw[if_pos q];exact nU B hi hl (bw ⟨_,rfl,rfl⟩)
 .unfold qJ;rw[if_neg (by rw[q];decide),aE,O]
def RT(ht:HM t)(ho:KN f):Cn D (n+1) 21 [tb t,iP f]=a_ (.lst ((qB t f).map dc),c_):=by
 suffices h:Go (Cn D n) b21 [a_ (tb t,d_),a_ (iP f,d_),b_,b_,b_,b_,b_,b_,b_,b_,b_,b_] λo=>o=.rt (.lst ((qB t f).map dc)) c_ by
  obtain⟨_,h1,rfl⟩:=h;exact fE rfl h1
 generalize Cn D n=C;have E:=LM t f;have hb:=DJ t;have s:=Iy ho;show Go C (.VL [2,3,4] (.v 1)::.set 5 (.ix (.ix (.v 0) (.e_ 1)) (.e_ 0))::.set 6 (.ix (.ix (.v 0) (.e_ 1)) (.e_ 1))::.set 7 (.sl (.lst [.con (.str jH),.con (.str jR)]) b_ (a_ (.bin .add (.e_ 1) (.blt .int [.cmp .gt (.blt .len [.ix (.v 0) (.e_ 2)]) (.e_ 0)]))))::.set 8 (.lst [])::.loop c_ [9] (.itv (.bin .add (.v 7) (.lst [.con (.str oU)]))) [.loop d_ [10,11] (.itv (.lst [.tup [.f_ "w",.con (.str ip)],.tup [.f_ "b",.con (.str oU)],.tup [.f_ "m",.con (.str oU)],.tup [.f_ "e",.con (.str ip)]])) Xc]::.ifs (.cmp .eq (.blt .len [.v 6]) (.e_ 0)) [.mo 8] []::.loop c_ [9] (.itv (.v 7)) W5::.loop d_ [10,11] (.itv (.lst [.tup [.f_ "m",.con (.str sZ)],.tup [.f_ "e",.con (.str ip)]])) Zf::.mo 8::[]) _ _
 have L:pv C (.VL [2,3,4] (.v 1)) [a_ (tb t,d_),a_ (iP f,d_),b_,b_,b_,b_,b_,b_,b_,b_,b_,b_]=a_ (.nx [a_ (tb t,d_),a_ (iP f,d_),a_ (sT f.1,d_),a_ (tI f.2.1,d_),a_ (sT f.2.2,d_),b_,b_,b_,b_,b_,b_,b_]):=by
  show bo (if(im (iP f) || d_)=c_ then _ else _) _=_;rw[E8];rfl
 refine bZ L (bZ (dP rfl (lK _)) (bZ (dP rfl (lK _)) ?_))
 have M:ba C (.sl (.lst [.con (.str jH),.con (.str jR)]) b_ (a_ (.bin .add (.e_ 1) (.blt .int [.cmp .gt (.blt .len [.ix (.v 0) (.e_ 2)]) (.e_ 0)])))) (full [a_ (tb t,d_),a_ (iP f,d_),a_ (sT f.1,d_),a_ (tI f.2.1,d_),a_ (sT f.2.2,d_),a_ (tI t.m0,d_),a_ (tI t.m1,d_),b_,b_,b_,b_,b_])=a_ (.lst ((bs t).map Dat.str),c_):=by
  have x:=tV (C:=C) (ρ:=full [a_ (tb t,d_),a_ (iP f,d_),a_ (sT f.1,d_),a_ (tI f.2.1,d_),a_ (sT f.2.2,d_),a_ (tI t.m0,d_),a_ (tI t.m1,d_),b_,b_,b_,b_,b_]) (a:=.ix (.v 0) (.e_ 2)) rfl;unfold bs;revert x;cases t.fg.isEmpty
  .intro x;exact Jb rfl (eD rfl (gP x rfl) rfl) rfl
  .intro x;exact Jb rfl (eD rfl (gP x rfl) rfl) rfl
 refine eX M (eX rfl ?_);refine g9 (I:=λus ρ=>∃k c i,ρ=B2 t f (a_ (.lst ((bs t).map _),c_)) (us.flatMap λb=>W4.flatMap (hX t f b)) k c i) (jw (d:=.lst ((bs t++[oU]).map Dat.str)) ?_ rfl rfl) ⟨b_,b_,b_,rfl⟩ ?_ ?_
 .unfold bs;cases t.fg.isEmpty<;>rfl
 .rintro us b vs _ A ⟨k,c,i,rfl⟩
  have u:us.length<=3:=by
   have:=congrArg fD A;exact j8 (ae this.symm) hb
  have j:=fW (m:=8) (l:=us) λb _=>fW (l:=W4) λw _=>Dq t f b w;refine⟨_,rfl,?_⟩;rw[cV];generalize (us.flatMap λb=>W4.flatMap _)=pre at j ⊢;refine g9 (I:=λws ρ=>∃c i,ρ=B2 t f (a_ (.lst ((bs t).map _),c_)) (pre++ws.flatMap (hX t f b)) (a_ _) c i) (jw (d:=.lst (W4.map ZS)) rfl rfl rfl) ⟨c,i,by rw[gD,aE];rfl⟩ ?_ ?_
  .rintro ws w vs _ B ⟨c,i,rfl⟩
   have y:ws.length<=4:=by
    have:=congrArg fD B;simp only[ah,bG,vP]at this;exact aa (aV _ _) (ae this.symm)
   have h2:=fW (l:=ws) λw _=>Dq t f b w;refine⟨_,rfl,?_⟩;obtain⟨o,e1,N,rfl,rfl⟩:=U5 (es:=pre++ws.flatMap (hX t f b)) ht ho (by rw[ah];exact Tw j h2 (Nat.mul_le_mul_left 8 u) (Nat.mul_le_mul_left 2 y));exact⟨_,e1,_,rfl,_,_,by rw[cV,aH,cL]⟩
  .rintro _ ⟨c,i,rfl⟩;exact bw ⟨_,rfl,_,_,_,by rw[cL]⟩
 rintro _ ⟨k,c,i,rfl⟩
 have hc:ba C (.cmp .eq (.blt _ [.v 6]) (.e_ 0)) (full (B2 t f (a_ (.lst ((bs t).map Dat.str),c_)) (F1 t f) k c i))=a_ (.bl t.m1.isEmpty,d_):=gh (gP rfl (jW _)) rfl (by
  cases t.m1 with
  |nil=>rfl
  |cons a r=>rfl)
 refine (?_ : Go C _ (B2 t f (a_ (.lst ((bs t).map _),c_)) (F1 t f) k c i) λo=>o=.rt (.lst ((F1 t f++(if t.m1.isEmpty=c_ then []else(bs t).flatMap (A2 t f)++V2.flatMap (A3 t f))).map dc)) c_);generalize F1 t f=G at E hc ⊢
 cases q:t.m1.isEmpty with
 |true=>
   rw[q]at hc;refine xg hc rfl ?_;rw[if_pos rfl,aE]
 |false=>
   rw[q]at hc;refine lS hc ?_;rw[if_neg cy];refine g9 (ρ0:=B2 t f (a_ (.lst ((bs t).map _),d_)) G k c i) (I:=λus ρ=>∃k c i,ρ=B2 t f (a_ (.lst ((bs t).map _),d_)) (G++us.flatMap (A2 t f)) k c i) (by rfl) ⟨k,c,i,by rw[gD,aE]⟩ ?_ ?_
   .rintro us b vs _ A ⟨k,c,i,rfl⟩
    have z:(b == sZ)=d_:=by
     have:b∈bs t:=by rw[A];simp
     unfold bs at this;revert this;cases t.fg.isEmpty
     .intro h
      rcases aw.mp h with rfl|h
      .decide
      .rw[az.mp h];decide
     .intro h;rw[az.mp h];decide
    have u:us.length<=2:=by
     have:=congrArg fD A;exact j8 (ae this.symm) hb
    have j:=fW (g:=A2 t f) (m:=2) (l:=us) λb _=>by
     rw[ah];exact aa (cO (lj (m:=t.m1) (f:=f) (w:=(119,b,ip))) (lj (m:=t.m1) (f:=f) (w:=(98,b,sZ)))) cy
    refine⟨_,rfl,?_⟩;rw[cV,cL];have hl:(G++us.flatMap (A2 t f)).length<=100:=by exact Tw E j u u
    rw[show G++(us.flatMap _++A2 t f b)=(G++us.flatMap (A2 t f))++qJ t.m1 f (119,b,ip)++qJ t.m1 f (98,b,sZ) by simp[A2]];generalize G++us.flatMap _=H at hl ⊢;have p:=p5 t.m1 f.2.1 (by have:=ht.h1;have:=ho.cl;omega);unfold W5;rw[PW,PB];refine KW (f':=d_) ?_ (kL rfl s (by rw[z];exact p) rfl) rfl rfl (aq hl cy) (KW (f':=d_) ?_ (kL rfl s (by rw[z];exact p) rfl) rfl rfl (by rw[ah];exact j8 hl (lj (m:=t.m1) (f:=f) (w:=(119,b,ip)))) (bw ⟨_,rfl,_,_,_,rfl⟩))
    .show ba C _ (full (B2 t f (a_ (.lst ((bs t).map _),d_)) H (a_ _) c i))=_;rw[gn (gh rfl rfl pV),(gh (gP rfl (len_T (aa ho.ll cy))) rfl rfl)];unfold bg;cases decide ((119,b,ip).1∈f.2.2)<;>rfl
    .refine gh rfl rfl ?_;rw[pV];show _=a_ (decide _ && c_);rw[gm]
   rintro _ ⟨k,c,i,rfl⟩
   have j:=fW (g:=A2 t f) (m:=2) (l:=bs t) λb _=>by
    rw[ah];exact aa (cO (lj (m:=t.m1) (f:=f) (w:=(119,b,ip))) (lj (m:=t.m1) (f:=f) (w:=(98,b,sZ)))) cy
   have hl:(G++(bs t).flatMap (A2 t f)).length<=100:=by exact Tw E j hb hb
   rw[<-aH];generalize G++(bs t).flatMap _=H at hl ⊢;refine g9 (I:=λws ρ=>∃c i,ρ=B2 t f (a_ (.lst ((bs t).map _),d_)) (H++ws.flatMap (A3 t f)) k c i) (jw (d:=.lst (V2.map ZS)) rfl rfl rfl) ⟨c,i,by rw[gD,aE]⟩ ?_ ?_
   .rintro ws w vs _ B ⟨c,i,rfl⟩
    have J:w=(109,sZ)\/w=(101,ip):=by
     have:w∈V2:=by rw[B];simp
     simpa using this
    have y:ws.length<=2:=by
     have:=congrArg fD B;simp only[ah,bG,vP]at this;exact aa (aV _ _) (ae this.symm)
    have K:(H++ws.flatMap (A3 t f)).length<1000:=by exact qV hl (fW (g:=A3 t f) (l:=ws) λw _=>lj) y
    refine⟨_,rfl,?_⟩;rw[cV,cL,<-aH];refine KW (f':=d_) ?_ (kL rfl s rfl rfl) rfl rfl K (bw ⟨_,rfl,_,_,rfl⟩);refine gh rfl rfl ?_;rw[pV]
    rcases J with rfl|rfl<;>exact congrArg a_ (gm _).symm
   .rintro _ ⟨c,i,rfl⟩;exact⟨_,rfl,rfl⟩
abbrev dg(t:Tb)(k:Nat):List Ed:=pF t (48+k,t.fg.getD k 0)
abbrev LE(t:Tb):List Ed:=FP++(aR t.fg.length).flatMap (dg t)++(if t.fg.isEmpty=c_ then []else [(kM,[],t.m3,jR)])++t.fs.flatMap (qB t)
abbrev Vn(t:Tb)(es:List Ed)(B z4 O:g_):c8:=[a_ (tb t,d_),a_ (L3 t,d_),a_ (.lst (es.map dc),c_),B,z4,O]
def W1:List Sx:=[(.set 4 (.tup [(.ix (.ix (.v 0) (.e_ 2)) (.v 3))])),(.mut .app 2 [(.tup [(.f_ "out"),(.blt .str [(.v 3)]),(.bin .add (.ix (.v 1) (.e_ 2)) (.v 4)),(.f_ "num")])]),(.mut .app 2 [(.tup [(.f_ "done"),(.blt .str [(.v 3)]),(.bin .add (.ix (.v 1) (.e_ 2)) (.v 4)),(.f_ "num")])]),(.mut .app 2 [(.tup [(.f_ "num"),(.blt .str [(.v 3)]),(.v 4),(.f_ "num")])])]
def u6(t:Tb)(f:Fm):(qB t f).length<=30:=by
 have h3:=fW (g:=A2 t f) (m:=2) (l:=bs t) λb _=>by
  rw[ah];exact aa (cO (lj (m:=t.m1) (f:=f) (w:=(119,b,ip))) (lj (m:=t.m1) (f:=f) (w:=(98,b,sZ)))) cy
 have e:V2.length=2:=rfl;have h5:(if t.m1.isEmpty=c_ then []else(bs t).flatMap (A2 t f)++V2.flatMap _).length<=6:=ite_le (aT _) (by exact Tw h3 (fW (g:=A3 t f) (l:=V2) λw _=>lj) (Nat.mul_le_mul_left 2 (DJ t)) (Nat.le_of_eq e));rw[ah];exact aa (cO (LM t f) h5) cy
def Q2(ht:HM t){es:List Ed}(hk:k<t.fg.length)(hl:es.length<900):∃ρ1,eR c_ [3] (.int (k:Nat)) (Vn t es Y Z O)=a_ ρ1/\Go C W1 ρ1 λo=>∃B,o=.nx B/\∃Y Z O,B=Vn t (es++dg t k) Y Z O:=by
 refine⟨_,rfl,?_⟩;obtain⟨c,hc⟩:∃c,c=t.fg.getD k 0:=⟨_,rfl⟩
 have g:zr (tI t.fg) (.int (k))=a_ (.int c):=by
  show tF _ _=_;rw[jd (by rw[aO,af hk];rfl),hc];simp[hk]
 have e1:∀{ρ:c8},(ρ[0]?).join=a_ _->(ρ[3]?).join=a_ _->ba C (.ix (.ix _ (.e_ 2)) _) _=a_ _:=λ{ρ}a b=>by
  have i:ba C (.v 0) (full ρ)=a_ (tb t,d_):=by
   cases h:ρ[0]? with
   |none=>rw[h]at a;cases a
   |some o=>rw[h]at a;rw[oO,full,aO,h];rw[show o=a_ (tb t,d_)from a];rfl
  have j:ba C (.v 3) (full ρ)=a_ (.int (k),d_):=by
   cases h:ρ[3]? with
   |none=>rw[h]at b;cases b
   |some o=>rw[h]at b;rw[oO,full,aO,h];rw[show o=a_ (.int _,d_)from b];rfl
  exact zt (zt i rfl rfl) j g
 have st:=(wJ (aa hk ht.hf)).1;have f:=p5 _ [c] (by exact aq ht.h2 cy);unfold W1 dg;rw[<-hc];refine nG (P:=(·= tI [c])) ⟨tI _,_,by rw[vn,fi,e1 rfl rfl];rfl,rfl,rfl⟩ λd hd=>?_;rw[hd];refine nU (e:=(jH,[48+k],t.m2++[c],kM)) (kL rfl st f rfl) rfl (aa hl cy) ?_;refine nU (e:=(ip,[48+k],t.m2++[c],kM)) (kL rfl st f rfl) rfl (by rw[ah];exact aq hl cy) ?_;refine nU (e:=(kM,[48+k],[c],kM)) (kL rfl st rfl rfl) rfl (by rw[ah,ah];exact aY (aq hl cy)) (bw ⟨_,rfl,a_ (.int (k),d_),a_ (tI [c],d_),O,?_⟩);rw[aH,aH];rfl
def RQ(ht:HM t):Cn D (n+2) 22 [tb t]=a_ (.lst ((LE t).map dc),c_):=by
 have u:∀f∈t.fs,Cn D (n+1) 21 _=a_ (.lst _,c_):=λf hf=>RT ht (ht.ho f hf)
 suffices h:Go (Cn D _) _ [a_ _,b_,b_,b_,b_,b_] λo=>o=.rt (.lst ((LE t).map dc)) c_ by
  obtain⟨_,h1,rfl⟩:=h;exact fE rfl h1
 generalize Cn D _=C at u ⊢;have hf:=ht.hf;refine bZ (dP rfl (Dl t)) (eX rfl ?_);refine Ds (I:=λus ρ=>∃c z4 b,ρ=Vn t (FP++us.flatMap (dg t)) c z4 b) (P:=(·= t.fg.length)) ⟨_,d_,jW _,rfl⟩ (λm h=>(aa (ae h) (aa hf cy))) ⟨b_,b_,b_,rfl⟩ ?_ ?_
 .rintro m rfl us k vs _ j ⟨c,z4,b,rfl⟩;have w:=uE j;have a:=fW (g:=dg t) (l:=us) λk _=>ao 3;refine ac λ_ i=>?_;obtain⟨p,x,o,y,z,rfl,A,B,E,rfl⟩:=Q2 ht (es:=FP++us.flatMap (dg t)) w.2 (by rw[ah];show 3+_<_;exact qV a (Nat.mul_le_mul_left 3 w.1) (Nat.mul_le_mul_left 3 hf));refine i ?_;refine⟨p,x,_,y,_,rfl,A,B,E,?_⟩;rw[cV,<-aH,cL]
 rintro m rfl _ ⟨c,z4,b,rfl⟩;have a:=fW (g:=dg t) (l:=aR t.fg.length) λk _=>ao 3;rw[a6]at a;have d:(FP++(aR t.fg.length).flatMap (dg t)).length<=40:=by rw[ah];show 3+_<=_;exact Tw a hf hf hf
 refine (?_ : Go C _ _ λo=>o=.rt (.lst ((FP++(aR t.fg.length).flatMap (dg t)++(if t.fg.isEmpty=c_ then []else [(kM,[],t.m3,jR)])++t.fs.flatMap (qB t)).map dc)) c_);generalize FP++(aR _).flatMap _=H at d ⊢;refine jg (J:=λρ=>ρ=Vn t (H++if t.fg.isEmpty=c_ then []else [(kM,[],t.m3,jR)]) c z4 b) (tV rfl) (λq=>?_) (λq=>bw ⟨_,rfl,?_⟩) ?_
 .refine nU (e:=(kM,[],t.m3,jR)) (kL rfl rfl rfl rfl) rfl (aq d cy) (bw ⟨_,rfl,?_⟩);have r:t.fg.isEmpty=d_:=by simpa using q
  rw[r];rfl
 .have r:t.fg.isEmpty=c_:=by simpa using q
  rw[r,if_pos rfl,aE]
 .rintro _ rfl
  have s:(H++if t.fg.isEmpty=c_ then []else [(kM,[],t.m3,jR)]).length<=41:=by
   rw[ah];exact aa (cO d (ite_le (aT _) (ao _))) cy
  generalize (H++if t.fg.isEmpty=c_ then []else [(kM,[],t.m3,jR)])=H2 at s ⊢;refine g9 (I:=λus ρ=>∃b,ρ=Vn t (H2++us.flatMap (qB t)) c z4 b) (jw rfl rfl (by show(kW _ || d_)=c_;rw[mE];rfl)) ⟨b,by rw[gD,aE]⟩ ?_ ?_
  .rintro us f vs _ j ⟨b,rfl⟩;have a:=fW (l:=us) λf _=>u6 t f
   have F:us.length<=12:=by
    exact j8 (ae (congrArg fD j).symm) ht.hl
   have ht.hl:=u6 t f;refine⟨_,rfl,bZ (ym (ds:=[.lst ((qB t f).map dc)]) rfl ?_ (G1 (by rw[aA,aA,ah];omega))) (bw ⟨_,rfl,a_ (iP f,d_),?_⟩)⟩
   .have e:ba C (.call 21 [.v 0,.v 5]) (full (Vn t (H2++us.flatMap (qB t)) c z4 (a_ (iP f,d_))))=a_ (.lst _,c_):=u f (by rw[j];simp);show nZ C [.call 21 _] (full (Vn t (H2++us.flatMap _) c z4 (a_ _)))=_;rw[fi,e];rfl
   .rw[<-cF,cV,cL,<-aH H2];rfl
  .rintro _ ⟨b,rfl⟩;exact⟨_,rfl,rfl⟩
def Vy(t:Tb)(w:Nat×bc×bc):Prop:=t.fg.isEmpty=c_->w.2.1≠jR
variable{t:Tb}
def PU(h:e∈Hk f w):e.1=w.2.1:=by
 simp_all
def PQ(h:e∈gX t f w):e.1=w.2.1:=by
 rcases ax.mp h with h|h
 .exact PU h
 .split at h
  .cases h
  .obtain⟨b,a,rfl⟩:=bQ.mp h;exact PU (e:=b) a
def PR(h:e∈qJ m f w):e.1=w.2.1:=by
 unfold qJ at h;split at h
 .rw[az.mp h]
 .cases h
def pU:e∈s0 t↔∃f∈t.fs,∃w∈W6,e∈Hk f w:=by
 simp
def C4:e∈s1 t↔∃f∈t.fs,∃w∈W6,e∈gX t f w:=by
 show e∈(if t.m0.isEmpty=c_ then s0 t else s0 t++(s0 t).map (L5 _))↔_;unfold gX;cases t.m0.isEmpty
 .constructor
  .intro h
   rcases ax.mp h with h|h
   .obtain⟨f,hf,w,b,he⟩:=pU.mp h;exact⟨f,hf,w,b,au _ he⟩
   .obtain⟨c,a,rfl⟩:=bQ.mp h;obtain⟨f,hf,w,b,he⟩:=pU.mp a;exact⟨f,hf,w,b,ai _ (cU he)⟩
  .rintro⟨f,hf,w,b,he⟩
   rcases ax.mp he with he|he
   .exact au _ (pU.mpr ⟨f,hf,w,b,he⟩)
   .obtain⟨c,a,rfl⟩:=bQ.mp he;exact ai _ (cU (pU.mpr ⟨f,hf,w,b,a⟩))
 .refine (?_ : e∈s0 t↔∃f∈t.fs,∃w∈W6,e∈Hk f w++[])
  simp only[aE];exact pU
def Oi:e∈CB t↔∃f∈t.fs,(∃w∈W6,e∈gX t f w)\/(t.m1.isEmpty=d_/\∃w∈A6,e∈qJ t.m1 f w):=by
 show e∈(if t.m1.isEmpty=c_ then s1 t else s1 t++t.fs.flatMap (H6 _))↔_;cases t.m1.isEmpty
 .constructor
  .intro h
   rcases ax.mp h with h|h
   .obtain⟨f,hf,h⟩:=C4.mp h;exact⟨f,hf,.inl h⟩
   .obtain⟨f,hf,h⟩:=dU.mp h;exact⟨f,hf,.inr ⟨rfl,dU.mp h⟩⟩
  .rintro⟨f,hf,h|⟨_,h⟩⟩
   .exact au _ (C4.mpr ⟨f,hf,h⟩)
   .exact ai _ (dU.mpr ⟨f,hf,dU.mpr h⟩)
 .refine (?_ : e∈s1 t↔_);rw[C4];constructor
  .rintro⟨f,hf,h⟩;exact⟨f,hf,.inl h⟩
  .rintro⟨f,hf,h|⟨h,_⟩⟩
   .exact⟨f,hf,h⟩
   .cases h
def yp:e∈s3 t↔e∈CB t/\(t.fg.isEmpty=c_->e.1≠jR):=by
 show e∈(if t.fg.isEmpty=c_ then(CB t).filter As else CB t)↔_;cases t.fg.isEmpty
 .simp
 simp
def E9(h:hit b w=c_):hX t f b w=gX t f (w.1,b,w.2):=if_pos h
def Fb(h:hit b w=d_):hX t f b w=[]:=if_neg (by rw[h];decide)
def W_o:W4.flatMap (hX t f jH)=gX t f (119,jH,ip)++gX t f (98,jH,oU):=by
 show hX t f jH _++(hX t f jH _++(hX t f jH _++(hX t f jH _++[])))=_;rw[E9 (by decide +kernel),E9 (by decide +kernel),Fb (by decide +kernel),Fb (by decide +kernel)];simp
def W_l:W4.flatMap (hX t f jR)=gX t f (119,jR,ip)++gX t f (98,jR,oU):=by
 show hX t f jR _++(hX t f jR _++(hX t f jR _++(hX t f jR _++[])))=_;rw[E9 (by decide +kernel),E9 (by decide +kernel),Fb (by decide +kernel),Fb (by decide +kernel)];simp
def W_i:W4.flatMap (hX t f oU)=gX t f (109,oU,oU)++gX t f (101,oU,ip):=by
 show hX t f oU _++(hX t f oU _++(hX t f oU _++(hX t f oU _++[])))=_;rw[aE];rfl
def ol:¬jH=jR:=cy
def il:¬oU=jR:=cy
def al:¬sZ=jR:=cy
def EN:e∈qB t f↔(∃w∈W6,Vy t w/\e∈gX t f w)\/(t.m1.isEmpty=d_/\∃w∈A6,Vy t w/\e∈qJ t.m1 f w):=by
 have h1:e∈F1 t f↔∃w∈W6,Vy t w/\e∈gX t f w:=by
  unfold Vy;show e∈((if t.fg.isEmpty=c_ then [jH]else [jH,jR])++[oU]).flatMap (λb=>W4.flatMap _)↔_;cases t.fg.isEmpty
  .show e∈W4.flatMap _++(W4.flatMap _++(W4.flatMap _++[]))↔_;rw[W_o,W_l,W_i];simp only[W6,ax,aw,bq,or_false,exists_eq_or_imp,exists_eq_left,bT,false_implies,true_and];constructor
   .rintro((h|h)|(h|h)|(h|h))
    .exact .inl h
    .exact .inr (.inr (.inl h))
    .exact .inr (.inl h)
    .exact .inr (.inr (.inr (.inl h)))
    .exact .inr (.inr (.inr (.inr (.inl h))))
    .exact .inr (.inr (.inr (.inr (.inr h))))
   .rintro(h|h|h|h|h|h)
    .exact .inl (.inl h)
    .exact .inr (.inl (.inl h))
    .exact .inl (.inr h)
    .exact .inr (.inl (.inr h))
    .exact .inr (.inr (.inl h))
    .exact .inr (.inr (.inr h))
  .show e∈W4.flatMap _++(W4.flatMap _++[])↔_;rw[W_o,W_i];simp only[W6,ax,aw,bq,or_false,exists_eq_or_imp,exists_eq_left,true_implies];constructor
   .rintro((h|h)|(h|h))
    .exact .inl ⟨ol,h⟩
    .exact .inr (.inr (.inl ⟨ol,h⟩))
    .exact .inr (.inr (.inr (.inr (.inl ⟨il,h⟩))))
    .exact .inr (.inr (.inr (.inr (.inr ⟨il,h⟩))))
   .rintro(⟨_,h⟩|⟨q,h⟩|⟨_,h⟩|⟨q,h⟩|⟨_,h⟩|⟨_,h⟩)
    .exact .inl (.inl h)
    .exact absurd rfl q
    .exact .inl (.inr h)
    .exact absurd rfl q
    .exact .inr (.inl h)
    .exact .inr (.inr h)
 have h2:e∈(bs t).flatMap (A2 t f)++V2.flatMap (A3 t f)↔∃w∈A6,Vy t w/\e∈qJ t.m1 f w:=by
  unfold Vy;show e∈(if t.fg.isEmpty=c_ then [jH]else [jH,jR]).flatMap _++V2.flatMap _↔_;cases t.fg.isEmpty
  .show e∈(A2 t f jH++(A2 t f jR++[]))++(qJ _ f (109,sZ,sZ)++(qJ _ f (101,sZ,ip)++[]))↔_;simp only[A6,A2,ax,aw,bq,or_false,exists_eq_or_imp,exists_eq_left,bT,false_implies,true_and];constructor
   .rintro(((h|h)|(h|h))|(h|h))
    .exact .inl h
    .exact .inr (.inr (.inl h))
    .exact .inr (.inl h)
    .exact .inr (.inr (.inr (.inl h)))
    .exact .inr (.inr (.inr (.inr (.inl h))))
    .exact .inr (.inr (.inr (.inr (.inr h))))
   .rintro(h|h|h|h|h|h)
    .exact .inl (.inl (.inl h))
    .exact .inl (.inr (.inl h))
    .exact .inl (.inl (.inr h))
    .exact .inl (.inr (.inr h))
    .exact .inr (.inl h)
    .exact .inr (.inr h)
  .show e∈(A2 t f jH++[])++(qJ _ f (109,sZ,sZ)++(qJ _ f (101,sZ,ip)++[]))↔_;simp only[A6,A2,ax,aw,bq,or_false,exists_eq_or_imp,exists_eq_left,true_implies];constructor
   .rintro((h|h)|(h|h))
    .exact .inl ⟨ol,h⟩
    .exact .inr (.inr (.inl ⟨ol,h⟩))
    .exact .inr (.inr (.inr (.inr (.inl ⟨al,h⟩))))
    .exact .inr (.inr (.inr (.inr (.inr ⟨al,h⟩))))
   .rintro(⟨_,h⟩|⟨q,h⟩|⟨_,h⟩|⟨q,h⟩|⟨_,h⟩|⟨_,h⟩)
    .exact .inl (.inl h)
    .exact absurd rfl q
    .exact .inl (.inr h)
    .exact absurd rfl q
    .exact .inr (.inl h)
    .exact .inr (.inr h)
 rw[ax,h1];cases t.m1.isEmpty
 .exact or_congr LY (h2.trans ⟨λh=>⟨rfl,h⟩,λh=>h.2⟩)
 .exact or_congr LY ⟨(λh=>nomatch h),(λh=>nomatch h.1)⟩
def G3:e∈s3 t↔e∈t.fs.flatMap (qB t):=by
 rw[yp,Oi,dU];constructor
 .rintro⟨⟨f,hf,h⟩,q⟩;refine⟨f,hf,EN.mpr ?_⟩
  rcases h with⟨w,a,h⟩|⟨b,w,a,h⟩
  .exact .inl ⟨w,a,λz=>PQ h▸q z,h⟩
  .exact .inr ⟨b,w,a,λz=>PR h▸q z,h⟩
 .rintro⟨f,hf,h⟩
  rcases EN.mp h with⟨w,a,q,h⟩|⟨b,w,a,q,h⟩
  .exact⟨⟨f,hf,.inl ⟨w,a,h⟩⟩,λz=>by rw[PQ h];exact q z⟩
  .exact⟨⟨f,hf,.inr ⟨b,w,a,h⟩⟩,λz=>by rw[PR h];exact q z⟩
def ON(hf:t.fg.length<=10):wj t=(aR t.fg.length).map λk=>(48+k,t.fg.getD k 0):=by
 refine kA (by rw[aA,a6];rw[vO];exact Nat.min_eq_right hf) λi h1 h2=>?_;rw[aA,a6]at h2;rw[List.getElem_zip,((aN.mp (wJ (aa h2 hf)).2).2)];simp[h2]
def Tn(hf:t.fg.length<=10):e∈LE t↔e∈got t:=by
 have hd:(wj t).flatMap (pF t)=(aR t.fg.length).flatMap (dg t):=by rw[ON hf,List.flatMap_map]
 show e∈FP++(aR _).flatMap _++(if t.fg.isEmpty=c_ then []else [(kM,[],t.m3,jR)])++t.fs.flatMap _↔e∈s3 t++FP++(if t.fg.isEmpty=c_ then []else(kM,[],t.m3,jR)::(wj t).flatMap _)
 rw[hd];simp only[ax,<-G3];cases q:t.fg.isEmpty
 .simp only[bT,if_false,aw,bq,or_false];constructor
  .rintro(((h|h)|h)|h)
   .exact .inl (.inr h)
   .exact .inr (.inr h)
   .exact .inr (.inl h)
   .exact .inl (.inl h)
  .rintro((h|h)|h|h)
   .exact .inr h
   .exact .inl (.inl (.inl h))
   .exact .inl (.inr h)
   .exact .inl (.inl (.inr h))
 .have z:t.fg.length=0:=by simp_all
  rw[z];simp only[if_true,bq,or_false,List.range_zero,gD];exact or_comm
end K33E
namespace K33E
open PySem L2 M K33
def vb:KJ (c::r)=(c - 32)::r:=by
 have h:bN (T (c::r)) (a_ 1) b_=T r:=by
  refine(oX (p:=1) (by simp) (ao _) ?_).trans (by simp);have e:max (0:Int) (min ((c::r).length) ((c::r).length))=((c::r).length):=by omega
  simp only[Builtin.Str.strSliceIndices,show((1) > 0)=True by simp,if_true];rw[if_neg (show¬(((c::r).length):Int)<0 from(λz=>(ud z (dE _)))),e];rfl
 unfold KJ;rw[h,FW];rfl
variable{t:Tb}{e:Ed}
def Y1:e∈s1 t↔∃B∈s0 t,e=B\/(t.m0.isEmpty=d_/\e=L5 t.m0 B):=by
 show e∈(if t.m0.isEmpty=c_ then s0 t else s0 t++(s0 t).map (L5 _))↔_;cases t.m0.isEmpty
 .refine (?_ : e∈s0 t++(s0 t).map (L5 _)↔_);rw[ax,bQ];constructor
  .rintro(h|⟨B,h,rfl⟩)
   .exact⟨e,h,.inl rfl⟩
   .exact⟨B,h,.inr ⟨rfl,rfl⟩⟩
  .rintro⟨B,h,rfl|⟨_,rfl⟩⟩
   .exact .inl h
   .exact .inr ⟨B,h,rfl⟩
 .constructor
  .intro h;exact⟨e,h,.inl rfl⟩
  .rintro⟨B,h,rfl|⟨q,_⟩⟩
   .exact h
   .cases q
def Y0:e∈CB t↔e∈s1 t\/(t.m1.isEmpty=d_/\∃f∈t.fs,∃w∈A6,e∈qJ t.m1 f w):=by
 show e∈(if t.m1.isEmpty=c_ then s1 t else s1 t++t.fs.flatMap (H6 _))↔_;cases t.m1.isEmpty
 .simp
 simp
def W6B:(W6.all λw=>decide (w.2.1∈jC) && decide (w.2.2∈jC))=c_:=by decide +kernel
def A6B:(A6.all λw=>decide (w.2.1∈jC) && decide (w.2.2∈jC))=c_:=by decide +kernel
structure zq(e:Ed):Prop where
 b:e.1∈jC
 o:e.2.2.2∈jC
 t:e.2.1.length<=6
 n:e.2.1=[]->e.1=kM/\e.2.2.2=jR
 c:e.2.2.1≠[]
 z:(∀c∈e.2.2.1,c≠0)\/(e.1∈oh/\e.2.2.2=jH)
 k:e.2.2.1.length<=6
def wV(h1:e.1∈jC)(h2:e.2.2.2∈jC)(h3:e.2.1.length<=6)(B:e.2.1≠[])(h5:e.2.2.1≠[])(O:∀c∈e.2.2.1,c≠0)(Y:e.2.2.1.length<=6):zq e:=⟨h1,h2,h3,λh=>absurd h B,h5,.inl O,Y⟩
set_option tactic.hygienic true in
def Uk(w:wT t):∀e∈got t,zq e:=λe he=>by
 have ht:=w.ok;have d:∀m∈[t.m0,t.m1,t.m2,t.m3,t.fg],∀c∈m,c≠0:=λm u c hc=>by have:=w.cm m u c hc;exact λz=>(Mt this.1 (eP (ot z) cy))
 have app:∀{a b:List Int},(∀c∈a,c≠0)->(∀c∈b,c≠0)->∀c∈a++b,c≠0:=λha hb c hc=>(ax.mp hc).elim (ha c) (hb c)
 rcases ax.mp he with he|he
 .rcases ax.mp he with he|he
  .have j:∀f∈t.fs,KN f/\(∀c∈f.2.1,c≠0)/\f.2.1≠[]/\∃c r,f.1=c::r:=λf hf=>by
    have go:=ht.ho f hf;refine⟨go,λc hc=>by have:=w.cf f hf c hc;exact λz=>(Mt this.1 (eP (ot z) (by decide))),bY.mp go.c1,?_⟩
    cases q:f.1 with
    |nil=>exact absurd q go.ne
    |cons c r=>exact⟨c,r,rfl⟩
   rcases Y0.mp (yp.mp he).1 with h|⟨_,f,hf,k,n,h⟩
   .obtain⟨v,h0,h⟩:=Y1.mp h;obtain⟨f,hf,k,n,h0⟩:=pU.mp h0;obtain⟨go,l,i,c,r,hc⟩:=j f hf;have g:=bB.mp W6B k n;rw[ag,decide_eq_true_eq,decide_eq_true_eq]at g
    have o:v=(k.2.1,f.1,f.2.1,k.2.2):=by
     unfold Hk at h0;split at h0
     .exact az.mp h0
     .cases h0
    subst o;have ll:=go.ll
    rcases h with rfl|⟨_,rfl⟩
    .exact wV g.1 g.2 ll go.ne i l (by exact aa go.cl cy)
    .refine wV g.1 g.2 ?_ ?_ ?_ ?_ ?_
     .show(KJ f.1).length<=6;rw[hc,vb];rw[hc]at ll;exact ll
     .show KJ f.1≠[];rw[hc,vb];simp
     .exact λh=>i (BX.mp h).2
     .exact app (d t.m0 (by simp)) l
     .show(t.m0++f.2.1).length<=6;rw[ah];have:=ht.h0;have:=go.cl;omega
   .obtain⟨go,l,i,c,r,hc⟩:=j f hf;have g:=bB.mp A6B k n;rw[ag,decide_eq_true_eq,decide_eq_true_eq]at g;unfold qJ at h;split at h
    .rw[az.mp h];refine wV g.1 g.2 ?_ ?_ ?_ ?_ ?_
     .rw[aA];exact go.ll
     .rw[hc];simp
     .exact λh=>i (BX.mp h).2
     .refine app (λc hc=>?_) l;split at hc
      .cases hc
      .exact d t.m1 (by simp) c hc
     .have h2:=go.cl;rw[ah];split
      .exact aa (lH h2 _) cy
      .exact aa (cO ht.h1 h2) cy
    .cases h
  .have g:(FP.all λe=>decide (e.1∈jC) && (decide (e.2.2.2∈jC) && (decide (e.2.1.length<=6) && (decide (e.2.1≠[]) && (decide (e.2.2.1≠[]) && (decide (e.1∈oh) && (decide (e.2.2.2=jH) && decide (e.2.2.1.length<=6))))))))=c_:=by decide +kernel
   have:=bB.mp g e he;simp only[ag,decide_eq_true_eq]at this;obtain⟨h1,h2,h3,x,h5,y,A,h8⟩:=this;exact⟨h1,h2,h3,λh=>absurd h x,h5,.inr ⟨y,A⟩,h8⟩
 .have he:e∈(if t.fg.isEmpty=c_ then []else(kM,[],t.m3,jR)::(wj t).flatMap _):=he;split at he
  .cases he
  .rename_i q
   rcases aw.mp he with rfl|he
   .exact⟨by show kM∈jC;decide,by show jR∈jC;decide,aT _,λ_=>⟨rfl,rfl⟩,w.m3 (λz=>q (by rw[z];rfl)),.inl (d _ (by simp)),by exact aa ht.h3 cy⟩
   .obtain⟨p,hp,h⟩:=dU.mp he;have s:=d _ (by simp) _ (iu hp).2;have h1:∀c∈[p.2],c≠0:=λc hc=>by rw[az.mp hc];exact s
    simp only[pF,aw,bq,or_false]at h
    rcases h with rfl|rfl|rfl
    .exact wV (by show jH∈jC;decide) (by show kM∈jC;decide) (by simp) (by simp) (by simp) (app (d _ (by simp)) h1) (by rw[ah];exact aq ht.h2 cy)
    .exact wV (by show ip∈jC;decide) (by show kM∈jC;decide) (by simp) (by simp) (by simp) (app (d _ (by simp)) h1) (by rw[ah];exact aq ht.h2 (by decide))
    .exact wV (by show kM∈jC;decide) (by show kM∈jC;decide) (by simp) (by simp) (by simp) h1 (by show 1<=6;decide)
def Ff(ht:HM t):(got t).length<=300:=by
 rw[ah,ah];show _+3+_<=_;exact j8 (Ji ht.hl) (Jz t)
def K9(w:wT t):∃E:List Ed,IT (got t)=E.map dc/\gE E/\(∀e,e∈E↔e∈got t)/\∀e∈E,zq e:=by
 obtain⟨E,h1,_,h3,a⟩:=Ri _;have ok:=λe he=>Uk w e ((h3 e).mp he);exact⟨E,h1,⟨λe he=>(ok e he).b,λe he=>(ok e he).o,λe he=>aa (ok e he).t cy,λe he=>(ok e he).n,aa a (Ff w.ok)⟩,h3,ok⟩
def OA(t:Tb)(d:Nat):Prop:=∃c∈U t.fs,d=c\/(t.m0.isEmpty=d_/\d=c - 32)
def TJ(w:wT t)(hd:OA t d)(B:v∈W6)(hl:t.fg.isEmpty=c_->v.2.1≠jR):∃cs,(v.2.1,[d],cs,v.2.2)∈got t:=by
 obtain⟨c,hc,h⟩:=hd;obtain⟨f,hf,a⟩:=Ke.mp hc;obtain⟨cs,b⟩:=w.own f hf c a;have g:(W6.all λv=>decide (v.1∈L8))=c_:=cy;have h0:(v.2.1,[c],cs,v.2.2)∈s0 t:=pU.mpr ⟨_,b,v,B,by
  unfold Hk;rw[if_pos (decide_eq_true (show v.1∈L8 from (of_decide_eq_true (bB.mp g v B))))]
  exact az.mpr rfl⟩
 rcases h with rfl|⟨i,rfl⟩
 .exact⟨cs,au _ (au _ (yp.mpr ⟨Y0.mpr (.inl (Y1.mpr ⟨_,h0,.inl rfl⟩)),hl⟩))⟩
 .refine⟨t.m0++cs,au _ (au _ (yp.mpr ⟨Y0.mpr (.inl (Y1.mpr ⟨_,h0,.inr ⟨i,?_⟩⟩)),hl⟩))⟩;show _=(v.2.1,KJ [c],t.m0++cs,v.2.2)
  rw[vb]
def UH(hf:t.fg.length<=10)(hk:k<t.fg.length)(hs:s∈oh):∃cs,(s,[48+k],cs,kM)∈got t:=by
 have c:(48+k,t.fg[k])∈wj t:=by
  refine oV.mpr ⟨k,?_⟩;rw[List.getElem?_zip_eq_some];exact⟨((wJ (aa hk hf)).2),af hk⟩
 have b:t.fg.isEmpty=d_:=by
  grind
 have a:∀e∈pF t _,e∈got t:=λe he=>by
  refine ai _ ?_;show e∈(if t.fg.isEmpty=c_ then []else(kM,[],t.m3,jR)::(wj t).flatMap _);rw[b];exact ju _ (dU.mpr ⟨_,c,he⟩)
 simp only[oh,aw,bq,or_false]at hs
 rcases hs with rfl|rfl|rfl
 .exact⟨_,a _ jv⟩
 .exact⟨_,a _ (ju _ jv)⟩
 .exact⟨_,a _ (ju _ (ju _ jv))⟩
def XE(hs:s∈oh):(s,[32],[0],jH)∈got t:=by
 refine au _ (ai _ ?_);have a:(oh.all λs=>decide ((s,[32],[0],jH)∈FP))=c_:=by decide +kernel
 exact of_decide_eq_true (bB.mp a s hs)
def WN(h:t.fg.isEmpty=d_):(kM,[],t.m3,jR)∈got t:=by
 refine ai _ ?_
 grind
variable{E:List Ed}{x:List Nat}
inductive fin (E:List Ed) (x:List Nat):Nat->bc->Prop
 |z {s:bc}:s∈oh->fin E x x.length s
 |s {p:Nat} {e:Ed}:p<=x.length->e∈E->pre x p e=c_->fin E x (p+e.2.1.length) e.2.2.2->fin E x p e.1
def tZ(h:fin E x p s):(p=x.length/\s∈oh)\/∃e∈E,e.1=s/\pre x p e=c_/\fin E x (p+e.2.1.length) e.2.2.2:=by
 cases h with
 |z h=>exact .inl ⟨rfl,h⟩
 |s a b c d=>exact .inr ⟨_,b,rfl,c,d⟩
set_option tactic.hygienic true in
def GQ(w:wT t)(h:d∈raw t)(B:¬OA t d):d=32\/∃k,k<t.fg.length/\d=48+k:=by
 rcases ax.mp h with h|h
 .rcases ax.mp h with h|h
  .rcases ax.mp h with h|h
   .exact .inl (az.mp h)
   .obtain⟨k,hk⟩:=oV.mp h
    have a:k<t.fg.length:=by
     rw[c9]at hk
     simp_all
    rw[c9,if_pos a,(wJ (aa a w.ok.hf)).2]at hk;exact .inr ⟨k,a,(bA hk).symm⟩
  .exfalso;unfold Zn at h;split at h
   .cases h
   .rename_i q;obtain⟨c,hc,rfl⟩:=bQ.mp h;exact B ⟨c,hc,.inr ⟨by simpa using q,rfl⟩⟩
 .exact absurd ⟨d,h,.inl rfl⟩ B
structure cl(t:Tb)(E:List Ed)(x:List Nat)(p:Nat):Prop where
 o:fin E x p jH
 i:(∃d,x[p]?=a_ d/\OA t d)->fin E x p oU
 d:(¬ ∃d,x[p]?=a_ d/\OA t d)->fin E x p ip
 n:t.fg.isEmpty=d_->fin E x p kM
theorem FV(w:wT t)(B:∀e,e∈E↔e∈got t)(O:∀c∈x,c∈raw t):∀(m p:Nat),p+m=x.length->cl t E x p
 |0,p,h=>by
   subst (by omega);refine⟨.z cy,?_,λ_=>.z cy,λ_=>.z cy⟩;rintro⟨d,hd,_⟩;rw[kj (ao _)]at hd;cases hd
 |m+1,p,h=>by
   have hp :=aq (aV _ _) (ae h);have j:=FV w B O m (p+1) (aF (ig (ae h)) (ig (ae h.symm)));have f:[x[p]] <+: x.drop p:=by
    rw[eF hp];exact⟨x.drop _,rfl⟩
   have go:∀{s o:bc}{cs:List _},(s,[x[p]],cs,o)∈got t->fin E x (p+1) o->fin E x p s:=λ{s o cs}he hf=>.s (aD hp) ((B _).mpr he) (decide_eq_true f) hf;by_cases g:OA t x[p]
   .have b:∀{v:Nat×bc×bc},v∈W6->(t.fg.isEmpty=c_->v.2.1≠jR)->fin E x _ _->fin E x p _:=λ{v} y hl hf=>by
     obtain⟨cs,he⟩:=TJ w g y hl;exact go he hf
    have num:fin E x p jR->t.fg.isEmpty=d_->fin E x p kM:=λhl hf=>.s (aD hp) ((B _).mpr (WN hf)) (decide_eq_true Mp) hl;by_cases u:∃d,x[p+1]?=a_ d/\OA t d
    .have hi:=j.i u;refine⟨b (v:=(98,jH,oU)) cy (λ_=>by decide) hi,λ_=>b (v:=(109,oU,oU)) cy (λ_=>by decide) hi,λq=>absurd ⟨_,(af hp),g⟩ q,λq=>num (b (v:=(98,jR,oU)) cy (λz=>by rw[q]at z;cases z) hi) q⟩
    .have hi:=j.d u;refine⟨b (v:=(119,jH,ip)) cy (λ_=>by decide) hi,λ_=>b (v:=(101,oU,ip)) cy (λ_=>by decide) hi,λq=>absurd ⟨_,(af hp),g⟩ q,λq=>num (b (v:=(119,jR,ip)) cy (λz=>by rw[q]at z;cases z) hi) q⟩
   .have hi:¬ ∃d,x[p]?=a_ d/\OA t d:=by
     rintro⟨d,h1,h2⟩;rw[(af hp)]at h1;exact g (bA h1▸h2)
    rcases GQ w (O _ (br hp)) g with e|⟨k,hk,e⟩
    .have hb:∀{s:bc},s∈oh->fin E x p s:=λ{s}hs=>go (by rw[e];exact XE hs) j.o;exact⟨hb cy,λz=>absurd z hi,λ_=>hb cy,λ_=>hb cy⟩
    .have l:t.fg.isEmpty=d_:=by
      cases h:t.fg with
      |nil=>rw[h]at hk;cases hk
      |cons a r=>rfl
     have hb:∀{s:bc},s∈oh->fin E x p s:=λ{s}hs=>by
      obtain⟨cs,he⟩:=UH w.ok.hf hk hs;exact go (by rwa[e]) (j.n l)
     exact⟨hb cy,λz=>absurd z hi,λ_=>hb cy,λ_=>hb cy⟩
end K33E
namespace K33E
open PySem L2 M K33
variable{s:bc}
noncomputable abbrev kQ(S:List Ed):List Int:=S.flatMap λe=>e.2.2.1
def Ch:bc->List Ed->bc->Prop
 |s,[],o=>s=o
 |s,e::S,o=>e.1=s/\Ch e.2.2.2 S o
theorem Lm:∀{S:List Ed}{a b:bc}{e:Ed},Ch a S b->e.1=b->Ch a (S++[e]) e.2.2.2
 |[],_,_,_,h,q=>⟨q.trans h.symm,rfl⟩
 |_::S,_,_,_,h,q=>⟨h.1,Lm h.2 q⟩
noncomputable abbrev xQ(S:List Ed):List Nat:=S.flatMap λe=>e.2.1
def Je(h:ba C a (full ρ)=a_ (d,c_))(hi:im d=d_):pv C (.set i a) ρ=a_ (.nx (ρ.set i (a_ (d,c_)))):=by
 rw[yE,h];show(if(im d || c_)=c_ then a_ (Out.nx (ρ.set i (a_ _)))else _)=_;rw[hi];rfl
def QJ:pv C (.X1 c b) ρ=zI (λρ=>(ba C c (full ρ)).bind λx=>gJ x.1) (fh C b) nr ρ:=rfl
def OJ(h:n<=1000):2 * n+1<nr:=by
 unfold nr;exact j8 h h
end K33E
namespace K33E
open PySem L2 M K33
variable{F:List Ed}{x:List Nat}{p:Nat}{s:bc}
structure Rw(ks:List bc)(g:Row):Prop where
 nd:ks.Nodup
 mem:∀s,s∈ks↔∃k,g s=a_ k
 st:∀s∈ks,s∈jC
noncomputable abbrev QM(g:Row)(s:bc)(v:Nat):Row:=λr=>if r=s then a_ v else g r
theorem AE:∀{l:List bc},s∉l->fN (.inr s) (l.map bI) (l.map g)=b_
 |[],_=>rfl
 |a::r,h=>by
   have q:¬(bI a:Key)=.inr s:=λe=>h (oi e▸jv);show(if(bI a)=.inr s then _ else fN ..)=b_;rw[if_neg q,AE λm=>h (ju _ m)]
def C6(h:Rw ks g):fN (.inr s) (ks.map bI) (ks.map λs=>vD (g s))=(g s).map λk=>.int (k:Nat):=by
 by_cases m:s∈ks
 .obtain⟨k,hk⟩:=(h.mem s).mp m;rw[Kn m,hk];rfl
 .rw[AE m]
  cases q:g s with
  |none=>rfl
  |some k=>exact absurd ((h.mem s).mpr ⟨k,q⟩) m
theorem P4{g:Row}{v:Nat}:∀{ks:List bc},ks.Nodup->∃B:List bc,putD (.inr s) (.int (v:Nat)) (ks.map bI) (ks.map λs=>vD (g s))=(B.map bI,B.map λr=>vD (QM g s v r))/\uO (.inr s) (ks.map bI)=c_/\B.Nodup/\∀r,r∈B↔r∈ks\/r=s
 |[],_=>⟨[s],by show([bI s],[Dat.int _])=([bI s],[vD (if s=s then a_ v else g s)]);rw[if_pos rfl];rfl,rfl,by simp,by simp⟩
 |a::l,h=>by
   obtain⟨h1,h2⟩:=aU.mp h;by_cases q:a=s
   .subst q
    have e :=dq λr m=>by
     show vD (g r)=vD (if r=a then a_ v else g r);rw[if_neg λz:r=a=>h1 (z▸m)]
    refine⟨_,?_,?_,h,λr=>⟨.inl,λz=>z.elim id λz=>z▸jv⟩⟩
    .show(if(bI a)=.inr a then((bI a)::l.map bI,Dat.int _::l.map λr=>vD _)else _)=(_,vD (if a=a then a_ v else g a)::_)
     rw[if_pos rfl,if_pos rfl,e];rfl
    .show(if(bI a)=.inr a then !((l.map bI).any λi=>decide _)else _)=c_
     grind
   .refine ac λ_ d=>?_;obtain⟨B,e1,e2,e3,c⟩:=P4 h2;refine d ?_;refine⟨a::B,?_,?_,aU.mpr ⟨λm=>?_,e3⟩,λr=>?_⟩
    .show(if(bI a)=.inr s then _ else((bI a)::(putD _ (.int _) _ (l.map λs=>vD _)).1,vD _::(putD _ (.int _) _ (l.map λs=>vD _)).2))=(_,vD (if a=s then a_ v else g a)::_)
     rw[if_neg (λe=>q (oi e)),if_neg q,e1];rfl
    .show(if(bI a)=.inr s then _ else uO _ _)=c_;rw[if_neg (λe=>q (oi e)),e2]
    .grind
    .rw[aw,aw,c,or_assoc]
def Qc{ks:List bc}{g:Row}(h:Rw ks g)(hs:s∈jC)(v:Nat):∃B,jt .seti (dD ks g) [.int (v:Nat),.str s]=a_ (dD B (QM g s v))/\Rw B (QM g s v):=by
 obtain⟨B,e1,e2,e3,a⟩:=P4 h.nd;refine⟨B,?_,e3,λr=>?_,λr m=>?_⟩
 .show(if(ks.map bI).length<aC/\uO _ _=c_ then a_ (Dat.dct (putD _ (.int _) _ (ks.map λs=>vD _)).1 (putD _ (.int _) _ (ks.map λs=>vD _)).2)else b_)=_;rw[if_pos ⟨by rw[aA];exact aq (CW h.nd h.st) cy,e2⟩,e1]
 .rw[a];show _↔∃k,(if r=s then a_ v else g r)=a_ k;by_cases q:r=s
  .simp[q]
  .rw[h.mem];simp[q]
 .rcases(a r).mp m with m|m
  .exact h.st r m
  .exact m▸hs
structure CT(L:List Dat)(n:Nat)(G:Nat->Row):Prop where
 l:L.length=n+1
 r:∀q,q<=n->∃ks,L[q]?=a_ (dD ks (G q))/\Rw ks (G q)
abbrev BZ(G:Nat->Row)(p:Nat)(s:bc)(v:Nat):Nat->Row:=λq=>if q=p then QM (G p) s v else G q
section
variable{L:List Dat}{G:Nat->Row}
def Qd{ρ:c8}{ke xi xe:Ex}{O Y Z:Bool}(h:CT L n G)(hp:p<=n)(hs:s∈jC)(h2:(ρ[2]?).join=a_ (.lst L,c_))(e1:ba C xe (full ρ)=a_ (.int (v:Nat),O))(e2:ba C ke (full ρ)=a_ (.int (p:Nat),Y))(e3:ba C xi (full ρ)=a_ (.str s,Z)) :
  ∃B,pv C (.Oe 2 ke xi xe) ρ=a_ (.nx (ρ.set 2 (a_ (.lst B,c_))))/\CT B n (BZ G p s v):=by
 obtain⟨ks,g,c⟩:=h.r p hp;obtain⟨a,b,b0⟩:=Qc c hs v;refine⟨L.set p (dD a (QM (G p) s v)),?_,by rw[om];exact h.l,λq f=>?_⟩
 .have h1:pH L.length ((p))=a_ p:=by
   unfold pH;rw[if_pos (dE _),if_pos (by rw[h.l];exact lI.mpr (aY hp))];simp
  have h3:Ta .seti [.int (v),.str s] (.lst L) (.int (p))=a_ (.lst (L.set p (dD a (QM (G p) s v)))):=by
   show((pH _ _).bind λj=>(L[j]?).bind λd=>(jt _ d [.int _,.str s]).map λd'=>Dat.lst _)=_
   simp_all
  show bo (ba C xe _) _=_;rw[e1];rw[e2];rw[e3];rw[h2];show(Ta _ [.int _,.str s] _ (.int _)).map _=_;rw[h3];rfl
 .by_cases e:q=p
  .subst e;rw[eA (by rw[h.l];exact aY hp)];show ∃ks,a_ _=a_ (dD ks (if q=q then _ else _))/\Rw ks (if q=q then _ else _);rw[if_pos rfl];exact⟨a,rfl,b0⟩
  .rw[bP (cj e)];show ∃ks,L[q]?=a_ (dD ks (if q=p then _ else _))/\Rw ks (if q=p then _ else _);rw[if_neg e];exact h.r q f
def vv(h:CT L n G)(B:q<=n):∃ks,zr (.lst L) (.int (q:Nat))=a_ (dD ks (G q))/\Rw ks (G q):=
 let ⟨ks,a,b⟩:=h.r q B
 ⟨ks,jd a,b⟩
def Ku(h:Rw ks g):jA .isin (.str s) (dD ks g)=a_ (g s).isSome:=by
 show a_ (fN _ _ (ks.map λs=>vD _)).isSome=_;rw[C6 h];cases g s<;>rfl
def W7(h:Rw ks g)(e:g s=a_ v):zr (dD ks g) (.str s)=a_ (.int (v:Nat)):=by
 show fN _ _ (ks.map λs=>vD _)=_;rw[C6 h,e];rfl
def Fh(h:Rw ks g):iN .get (dD ks g) [.str s,.int (v:Nat)]=a_ (.int ((g s).getD v:Nat),d_):=by
 show a_ ((fN _ _ (ks.map λs=>vD _)).getD (.int _),d_)=_;rw[C6 h];cases g s<;>rfl
def C0(h1:ba C a ρ=a_ (x',f))(h2:ba C b ρ=a_ (y,g))(h3:ba C c ρ=a_ (z,h))(h:iN o x' [y,z]=r):ba C (.eU o a [b,c]) ρ=r:=by rwa[yF,h1,bX,h2,bX,h3]
def ur(x:List Nat)(p:Nat)(e:Ed)(G:Nat->Row):Nat->Row:=if pre x p e=c_ then match G (p+e.2.1.length) e.2.2.2 with
 |none=>G
 |some c=>BZ G p e.1 (min ((G p e.1).getD (e.2.2.1.length+c)) (e.2.2.1.length+c))else G
abbrev Vl(F:List Ed)(x:List Nat)(L:List Dat)(B z4 O Y Z:g_)(p:Nat):c8:=[a_ (.lst (F.map dc),d_),a_ (sT x,d_),a_ (.lst L,c_),B,z4,a_ (.int (p:Nat),d_),O,Y,Z]
def Zc:List Sx:=[(.set 7 (.bin .add (.v 5) (.blt .len [(.ix (.v 6) (.e_ 1))]))),(.ifs (.and (.cmp .eq (.sl (.v 1) (a_ (.v 5)) (a_ (.v 7))) (.ix (.v 6) (.e_ 1))) (.cmp .isin (.ix (.v 6) (.e_ 3)) (.ix (.v 2) (.v 7)))) [(.set 8 (.bin .add (.blt .len [(.ix (.v 6) (.e_ 2))]) (.ix (.ix (.v 2) (.v 7)) (.ix (.v 6) (.e_ 3))))),(.Oe 2 (.v 5) (.ix (.v 6) (.e_ 0)) (.bin .mn (.v 8) (.eU .get (.ix (.v 2) (.v 5)) [(.ix (.v 6) (.e_ 0)),(.v 8)])))] [])]
def R9(e:Ed):decide ((x.drop p).take e.2.1.length=e.2.1)=pre x p e:=decide_eq_decide.mpr ⟨λh=>eY.mpr h.symm,λh=>(eY.mp h).symm⟩
def Cu(B:x.length<=1000)(hp:p<=x.length)(h1:ba C a ρ=a_ (sT x,f1))(h2:ba C b ρ=a_ (.int (p:Nat),f2))(h3:ba C c ρ=a_ (.int ((p+e.2.1.length:Nat):Int),f3))(O:ba C d ρ=a_ (sT e.2.1,f4)) :
  ba C (.cmp .eq (.sl a (a_ b) (a_ c)) d) ρ=a_ (.bl (pre x p e),d_):=by
 refine gh (x':=sT ((x.drop p).take e.2.1.length)) (f:=d_) ?_ O ?_
 .rw[vo,h1];show bo (oD _) _=_;rw[h2];show bo (oD (ba C c ρ)) _=_;rw[h3];show(if(T x).length<=aC then a_ (Dat.str (bN _ (a_ _) (a_ _)),d_)else b_)=_;rw[if_pos (by exact aa B cy),zV hp (aV _ _),cY]
 .rw[Zq,R9]
def QZ{e:Ed}{Y Z z6 z7 O:g_}(hx:x.length<=1000)(hp:p<=x.length)(he:zq e)(h:CT L x.length G):∃ρ1,eR c_ [6] (dc e) (Vl F x L Y Z z6 z7 O p)=a_ ρ1/\Go C Zc ρ1 λo=>∃ρ2,o=.nx ρ2/\∃B z6 z7 O,ρ2=Vl F x B Y Z z6 z7 O p/\CT B x.length (ur x p e G):=by
 refine⟨_,rfl,?_⟩;refine bZ (dP (eD rfl (gP rfl (len_T (aa he.t cy))) (by rw[nK])) rfl) ?_;have f:=Cu (C:=C) (ρ:=full (Vl F x L Y Z (a_ (dc e,d_)) (a_ (.int ((p+e.2.1.length)),d_)) O p)) (a:=.v 1) (b:=.v 5) (c:=.v 7) (d:=.ix (.v 6) (.e_ 1)) hx hp rfl rfl rfl rfl;by_cases q:pre x p e=c_
 .rw[q]at f;obtain⟨ks,c1,c2⟩:=vv h (q:=p+e.2.1.length) (j8 (ws hp) ((of_decide_eq_true q).length_le));have l:ba C (.cmp _ (.ix (.v 6) (.e_ 3)) (.ix (.v 2) (.v 7))) (full (Vl F x L Y Z (a_ (dc e,d_)) (a_ (.int _,d_)) O p))=a_ (.bl (G _ _).isSome,d_):=gh rfl (zt rfl rfl c1) (Ku c2);have g:=(gn f).trans ((if_pos rfl).trans l)
  cases k:G _ _ with
  |none=>
    rw[k]at g;exact lS g (bw ⟨_,rfl,L,_,_,_,rfl,by unfold ur;simp_all⟩)
  |some c=>
    rw[k]at g;refine jg (J:=λρ=>∃B O,ρ=Vl F x B Y Z (a_ (dc e,d_)) (a_ (.int ((p+e.2.1.length)),d_)) O p/\CT B _ _) g (λ_=>?_) (λz=>nomatch z) λρ' h=>bw ⟨_,rfl,by obtain⟨B,z,h1,h2⟩:=h;exact⟨B,_,_,z,h1,h2⟩⟩;refine bZ (dP (eD (gP rfl (jW _)) (zt (zt rfl rfl c1) rfl (W7 c2 k)) (by rw[nK,show((e.2.2.1.length):Int)+((c))=((e.2.2.1.length+c)) by rfl])) rfl) ?_;refine ac λ_ j=>?_;obtain⟨kp,d1,d2⟩:=vv h hp
    obtain⟨B,m1,m2⟩:=Qd (ρ:=Vl F x L Y Z (a_ (dc e,d_)) (a_ (.int _,d_)) (a_ (.int ((e.2.2.1.length+c)),d_)) p) (v:=min ((G p e.1).getD (e.2.2.1.length+c)) (e.2.2.1.length+c)) (ke:=.v 5) (xi:=.ix (.v 6) (.e_ 0)) (xe:=.bin .mn (.v 8) (.eU _ (.ix (.v 2) (.v 5)) [(.ix (.v 6) (.e_ 0)),(.v 8)])) h hp he.b rfl (eD rfl (C0 (zt rfl rfl d1) rfl rfl (Fh d2)) (by
     refine congrArg (λi=>a_ (Dat.int i,d_)) ?_
     split<;>omega)) rfl rfl
    refine j ?_;exact bZ m1 (bw ⟨_,rfl,B,_,rfl,by unfold ur;simp_all⟩)
 .rw[Bool.not_eq_true]at q;rw[q]at f;exact lS ((gn f).trans (if_neg cy)) (bw ⟨_,rfl,L,_,_,_,rfl,by unfold ur;simp_all⟩)
end
end K33E
namespace K33E
open PySem L2 M K33
variable{E F:List Ed}{x:List Nat}{p:Nat}{s:bc}{G:Nat->Row}
def nv(hp:p<=x.length)(h:pre x p e=c_):p+e.2.1.length<=x.length:=by
 grind
structure Iv(E F:List Ed)(x:List Nat)(p:Nat)(us:List Ed)(G:Nat->Row):Prop where
 hi:∀q,p<q->q<=x.length->∀s,(G q s).isSome=c_↔fin E x q s
 lo:∀q,q<p->∀s,(G q s).isSome=d_
 a:∀s,(G p s).isSome=c_->fin E x p s
 b:∀e∈us,pre x p e=c_->e.2.1≠[]->fin E x (p+e.2.1.length) e.2.2.2->(G p e.1).isSome=c_
 c:∀e∈us.drop F.length,e.2.1=[]->fin E x p jR->(G p kM).isSome=c_
 z:p=x.length->∀s∈oh,(G p s).isSome=c_
def zK:BZ G p s v p=QM (G p) s v:=if_pos rfl
def D0(h:q≠p):BZ G p s v q=G q:=if_neg h
def wM:(ur x p e G q s).isSome=c_↔(G q s).isSome=c_\/pre x p e=c_/\(G (p+e.2.1.length) e.2.2.2).isSome=c_/\q=p/\s=e.1:=by
 unfold ur;by_cases h:pre x p e=c_
 .rw[if_pos h]
  cases b:G _ _ with
  |none=>simp
  |some c=>
    by_cases a:q=p
    .subst a;show(BZ G q _ _ q s).isSome=c_↔_;rw[zK];show(if s=e.1 then a_ _ else G q s).isSome=c_↔_;by_cases z:s=e.1<;>simp[z,h]
    .refine (?_ : (BZ G p _ _ q s).isSome=c_↔_);rw[D0 a];simp[a]
 .rw[if_neg h];simp[h]
def TH(g:gE E)(B:∀e,e∈F↔e∈E)(h:Iv E F x p us G)(O:∀e∈F,e∈us)(Y:fin E x p jR):(G p jR).isSome=c_:=by
 rcases tZ Y with⟨_,q⟩|⟨e,he,h1,h2,hi⟩
 .exact absurd q cy
 .rw[<-h1];exact h.b e (O e ((B e).mpr he)) h2 (λq=>absurd (h1.symm.trans (g.n e he q).1) cy) hi
def Oy(g:gE E)(B:∀e,e∈F↔e∈E)(hp:p<=x.length)(O:F++F=us++e::vs)(h:Iv E F x p us G):Iv E F x p (us++[e]) (ur x p e G):=by
 have l:e∈F:=by
  have:e∈F++F:=by rw[O];simp
  rcases ax.mp this with m|m<;>exact m
 have he:=(B e).mp l
 have j:∀d∈(us++[e]).drop _,d∈us.drop _\/(d=e/\F.length<=us.length):=λd m=>by
  by_cases q:F.length<=us.length
  .rw[ua q]at m
   rcases ax.mp m with m|m
   .exact .inl m
   .exact .inr ⟨az.mp m,q⟩
  .rw[BW (by rw[ah];exact bR q)]at m;cases m
 have f:F.length<=us.length->∀d∈F,d∈us:=λq d m=>by
  exact(List.prefix_of_prefix_length_le (by rw[<-O];exact HI _ _) (HI _ _) q).subset m
 have kf:pre x p e=c_->(G (p+e.2.1.length) e.2.2.2).isSome=c_->fin E x (p+e.2.1.length) _:=λq k=>by
  by_cases y:e.2.1=[]
  .rw[y]at k ⊢;exact h.a _ k
  .exact(h.hi _ (BR (bY.mpr y)) (nv hp q) _).mp k
 refine⟨λq h1 h2 s=>?_,λq h1 s=>?_,λs k=>?_,λd m i o hf=>wM.mpr ?_,λd m i hf=>wM.mpr ?_,λz s hs=>wM.mpr (.inl (h.z z s hs))⟩
 .rw[wM,<-h.hi q h1 h2 s];exact⟨λk=>k.elim id λk=>absurd k.2.2.1 (i8 h1),.inl⟩
 .rw[sy,Ne,wM,h.lo q h1 s];exact λk=>k.elim (λk=>nomatch k) λk=>absurd k.2.2.1 (bb h1)
 .rcases wM.mp k with k|⟨r,t,_,rfl⟩
  .exact h.a s k
  .exact .s hp he r (kf r t)
 .rcases ax.mp m with m|m
  .exact .inl (h.b d m i o hf)
  .cases az.mp m;exact .inr ⟨i,(h.hi _ (BR (bY.mpr o)) (nv hp i) _).mpr hf,rfl,rfl⟩
 .rcases j d m with m|⟨rfl,u⟩
  .exact .inl (h.c d m i hf)
  .refine .inr ⟨decide_eq_true (by rw[i];exact Mp),?_,rfl,(g.n d he i).1.symm⟩;rw[i,(g.n d he i).2];exact TH g B h (f u) hf
def Ub(g:gE E)(B:∀e,e∈F↔e∈E)(h:Iv E F x p (F++F) G):(G p s).isSome=c_↔fin E x p s:=by
 refine⟨h.a s,λhf=>?_⟩
 rcases tZ hf with⟨f,i⟩|⟨e,he,rfl,h2,hi⟩
 .exact h.z f s i
 .have d:=(B e).mpr he;by_cases y:e.2.1=[]
  .rw[y,(g.n e he y).2]at hi;rw[(g.n e he y).1];exact h.c e (by rwa[iY]) y hi
  .exact h.b e (au _ d) h2 y hi
end K33E
namespace K33E
open PySem L2 M K33
variable{F:List Ed}{x:List Nat}{s:bc}
def CT.to{G:Nat->Row}(h:CT L n G)(e:∀q,q<=n->G q=G' q):CT L n G':=⟨h.l,λq a=>by rw[<-e q a];exact h.r q a⟩
def DO(h:aR m=us++b::vs):b=us.length/\us.length<m:=by
 have h1:us.length<m:=by have:=congrArg fD h;simp at this;simp_all
 have h2:=congrArg (·[us.length]?) h;simp[h1]at h2;exact⟨h2.symm,h1⟩
set_option tactic.hygienic true in
def GK(g:gE E)(Y:∀e,e∈F↔e∈E)(ok:∀e∈F,zq e)(hl:F.length<=1000)(B:x.length<=900):∃L G,Cn D (n+1) 25 [.lst (F.map dc),sT x]=a_ (.lst L,c_)/\CT L x.length G/\∀q,q<=x.length->∀s,(G q s).isSome=c_↔fin E x q s:=by
 suffices h:Go _ _ [a_ (.lst _,d_),a_ _,b_,b_,b_,b_,b_,b_,b_] λo=>∃L G,o=.rt (.lst L) c_/\CT L x.length G/\∀q,q<=x.length->∀s,(G q s).isSome=c_↔fin E x q s by
  refine ac λ_ t=>?_;obtain⟨_,h1,L,G,rfl,h2⟩:=h;refine t ?_;exact⟨L,G,fE rfl h1,h2⟩
 generalize Cn D n=C;have r :=len_T (aa B cy);refine eX (lV (pI ((λh=>eD (gP h r) rfl (by rfl)) rfl) (aq B cy)) (by rw[aA,a6];exact aq B cy) (by rw[yq])) ?_
 refine g9 (xs:=oh) (I:=λus ρ=>∃L c,ρ=[a_ (.lst _,d_),a_ _,a_ (.lst L,c_),c,b_,b_,b_,b_,b_]/\CT L x.length λq s=>if q=x.length/\s∈us then a_ 0 else b_)
  (jw rfl rfl rfl) ⟨_,b_,rfl,by simp,λq d=>⟨[],?_,en,λs=>?_,λs m=>nomatch m⟩⟩ ?_ ?_
 .rw[cx,if_pos (by simp;exact aY d)];rfl
 .simp
 .rintro us s vs _ J ⟨L,c,rfl,h⟩;refine⟨_,rfl,?_⟩
  obtain⟨K,m1,m2⟩:=Qd (ρ:=[a_ (.lst _,d_),a_ (sT x,d_),a_ _,a_ (.str s,d_),b_,b_,b_,b_,b_]) (ke:=.blt _ [.v 1]) (xi:=.v 3) (xe:=.e_ 0) h (ao _) (by
   exact(by decide:∀s∈oh,s∈jC) s (by rw[J];simp)) rfl rfl (gP rfl r) rfl
  refine bZ m1 (bw ⟨_,rfl,K,_,rfl,m2.to λq d=>?_⟩)
  grind
 rintro _ ⟨L,c,rfl,h⟩
 refine Ds (P:=(·= x.length+1)) (I:=λus ρ=>∃L G c z4 M i j l,ρ=[a_ (.lst _,d_),a_ _,a_ (.lst L,c_),c,z4,M,i,j,l]/\CT L _ G/\∀q,q<=x.length->∀s,(G q s).isSome=c_↔if x.length<q+us.length then fin E x q s else q=x.length/\s∈oh)
  ⟨_,d_,(λh=>eD (gP h r) rfl (by rfl)) rfl,rfl⟩ (λm U=>(aa (ae U) (aq B cy))) ⟨L,_,c,b_,b_,b_,b_,b_,rfl,h,λq d s=>?_⟩ ?_ ?_
 .show(if q=x.length/\s∈oh then a_ 0 else b_).isSome=c_↔if x.length<q then _ else _
  rw[if_neg (Nat.not_lt.mpr d)];split
  .rename_i y;exact⟨λ_=>y,λ_=>rfl⟩
  .rename_i y;exact⟨(λz=>nomatch z),λz=>absurd z y⟩
 .rintro m rfl us b vs _ J ⟨L,G,c,z4,M,i,j,l,rfl,h,u⟩;obtain⟨rfl,hb⟩:=DO J;refine⟨_,rfl,?_⟩;obtain⟨p,hp⟩:∃p,p+us.length=x.length:=⟨_,me (a7 hb)⟩
  refine bZ (dP (eD (gP rfl r) rfl (by rw[DL,show((x.length):Int) - ((us.length))=(p) by omega])) rfl) ?_;have a :=aa (aV _ _) (ae hp)
  have N:Iv E F x p [] G:=by
   have T:=λs=>(u p a s).trans (by rw[if_neg (by omega)]);refine⟨λq h1 h2 s=>(u q h2 s).trans (by rw[if_pos (by omega)]),λq h1 s=>?_,λs k=>?_,(λ_ m=>nomatch m),(λ_ m=>by simp_all),λz s hs=>((T s).mpr ⟨z,hs⟩)⟩
   .rw[sy,Ne,u q (aD (aa h1 a)) s,if_neg (by omega)];exact λz=>aZ h1 (aa a (ae z.1.symm))
   .obtain⟨rfl,q⟩:=(T s).mp k;exact .z q
  refine g9 (I:=λw ρ=>∃L G i j l,ρ=Vl F x L c (a_ (.int _,d_)) i j l p/\CT L _ G/\Iv E F x p w G)
   (jw (f:=kW (F.map dc++F.map dc)) (eD rfl rfl (by rw[nJ (by simp;exact aa (cO hl hl) cy),<-cF])) rfl (by rw[<-cF,Dk,sx])) ⟨L,G,_,_,_,rfl,h,N⟩ ?_ ?_
  .rintro w e V _ A ⟨L,G,i,j,l,rfl,h,H⟩
   have he:e∈F:=by
    have:e∈F++F:=by rw[A];simp
    grind
   refine ac λ_ t=>?_;obtain⟨O,h1,o,h2,W,rfl,K,Q,R,S,rfl,h3⟩:=QZ (aa B cy) a (ok e he) h;refine t ?_;exact⟨O,h1,_,h2,_,rfl,K,_,Q,R,S,rfl,h3,Oy g Y a A H⟩
  .rintro _ ⟨L,G,i,j,l,rfl,h,H⟩;refine bw ⟨_,rfl,L,G,c,_,_,i,j,l,rfl,h,λq d s=>?_⟩;rw[ah];show _↔if _<q+(us.length+1)then _ else _
   by_cases z:x.length<q+(us.length+1)
   .rw[if_pos z];by_cases e:q=p
    .rw[e];exact Ub g Y H
    .exact H.hi q (bp (j8 (ae hp) z) (cj e)) d s
   .rw[if_neg z,H.lo q (j8 (bR z) (ae hp.symm)) s];exact⟨(λz=>nomatch z),λz=>by omega⟩
 .rintro m rfl _ ⟨L,G,c,z4,M,i,j,l,rfl,h,u⟩;exact⟨_,rfl,L,G,rfl,h,λq d s=>(u q d s).trans (by rw[if_pos (by simp;exact iw _ _)])⟩
end K33E
namespace K33E
open PySem L2 M K33
variable{E F:List Ed}{x:List Nat}{p:Nat}{s:bc}
abbrev sel(G:Nat->Row)(x:List Nat)(p:Nat)(s:bc)(e:Ed):Bool:=e.1 == s && (pre x p e && (G (p+e.2.1.length) e.2.2.2).isSome)
abbrev EW(N:Dat)(F:List Ed)(x:List Nat)(L:List Dat)(p:Nat)(s:bc)(S:List Ed)(O Y B:g_):c8:=[a_ (N,d_),a_ (.int 31,d_),a_ (.lst (F.map dc),d_),a_ (sT x,d_),a_ (.lst L,c_),a_ (.int (p:Nat),d_),a_ (.str s,d_),a_ (.lst (S.map dc),c_),O,Y,B]
def W0:List Sx:=[(.set 10 (.bin .add (.v 5) (.blt .len [(.ix (.v 9) (.e_ 1))]))),(.ifs (.and (.cmp .eq (.ix (.v 9) (.e_ 0)) (.v 6)) (.and (.cmp .eq (.sl (.v 3) (a_ (.v 5)) (a_ (.v 10))) (.ix (.v 9) (.e_ 1))) (.cmp .isin (.ix (.v 9) (.e_ 3)) (.ix (.v 4) (.v 10))))) [(.mut .app 8 [(.v 9)])] [])]
def QK:List Sx:=[(.set 8 (.lst [])),(.loop c_ [9] (.itv (.v 2)) W0),(.set 9 (.ix (.v 8) (.call 14 [(.v 0),(.bin .add (.v 1) (.blt .len [(.v 7)])),(.e_ 70001),(.blt .len [(.v 8)])]))),(.mut .app 7 [(.v 9)]),(.set 5 (.bin .add (.v 5) (.blt .len [(.ix (.v 9) (.e_ 1))]))),(.set 6 (.ix (.v 9) (.e_ 3)))]
section
variable{C:Fs}{S:List Ed}
def QY{G:Nat->Row}{us:List Ed}(hx:x.length<=900)(hp:p<=x.length)(he:zq e)(hu:us.length<1000)(h:CT L x.length G):∃B,eR c_ [9] (dc e) (EW N F x L p s S (a_ (.lst ((us.filter (sel G x p s)).map dc),c_)) Z O)=a_ B/\Go C W0 B λo=>∃Y,o=.nx Y/\∃Z O,Y=EW N F x L p s S (a_ (.lst (((us++[e]).filter (sel G x p s)).map dc),c_)) Z O:=by
 refine⟨_,rfl,?_⟩;refine bZ (dP (eD rfl (gP rfl (len_T (aa he.t cy))) (by rw[nK])) rfl) ?_;have i:(us.filter (sel G x p s)).length<=us.length:=fO _ _;rw[qU];generalize us.filter _=R at *;have f:ba C (.and (.cmp .eq (.ix (.v 9) (.e_ 0)) (.v 6)) (.and (.cmp .eq (.sl (.v 3) (a_ (.v 5)) (a_ (.v 10))) (.ix (.v 9) (.e_ 1))) (.cmp .isin (.ix (.v 9) (.e_ 3)) (.ix (.v 4) (.v 10))))) (full (EW N F x L p s S (a_ (.lst (R.map dc),c_)) (a_ (dc e,d_)) (a_ (.int ((p+e.2.1.length:Nat)),d_))))=a_ (.bl (sel G x p s e),d_):=by
  rw[gn (gh rfl rfl UA),sel]
  cases e.1 == s with
  |false=>rfl
  |true=>
    rw[gn (Cu (C:=C) (ρ:=full (EW N F x L p s S (a_ (.lst _,c_)) (a_ _) (a_ (.int _,d_)))) (a:=.v 3) (b:=.v 5) (c:=.v 10) (d:=.ix _ _) (aa hx cy) hp rfl rfl rfl rfl)]
    cases q:pre x p e with
    |false=>rfl
    |true=>
      obtain⟨ks,c1,c2⟩:=vv h (nv hp q);exact gh rfl (zt rfl rfl c1) (Ku c2)
 cases q:sel G x p s e with
 |false=>
   rw[q]at f;rw[zE (by rw[q];decide),Ms,aE];exact lS f (bw ⟨_,rfl,_,_,rfl⟩)
 |true=>
   rw[q]at f;rw[zD q,cF];refine jg (J:=λρ=>ρ=EW N F x L p s S (a_ (.lst (R.map dc++[dc e]),c_)) (a_ (dc e,d_)) (a_ (.int ((p+e.2.1.length)),d_))) f (λ_=>?_) (λz=>nomatch z) λρ' h=>bw ⟨_,rfl,_,_,h⟩;refine vd ⟨dc e,d_,rfl,va e,rfl⟩ rfl (by rw[aA];exact aa (aq i hu) cy) λd hd=>?_;rw[hd];exact bw ⟨_,rfl,rfl⟩
structure Wk(E:List Ed)(x:List Nat)(S:List Ed)(p:Nat)(s:bc):Prop where
 he:∀e∈S,e∈E
 hp:p<=x.length
 hs:s∈jC
 hl:S.length<=2 * p+1/\(s≠jR->S.length<=2 * p)
 hk:fin E x p s
 hc:Ch jH S s
 ht:xQ S=x.take p
def stepK{G:Nat->Row}(hd:Dw C N)(g:gE E)(hF:∀e,e∈F↔e∈E)(ok:∀e∈F,zq e)(hFl:F.length<=1000)(hx:x.length<=400)(h:Wk E x S p s)(hp:p<x.length)(hL:CT L x.length G)(hG:∀q,q<=x.length->∀s,(G q s).isSome=c_↔fin E x q s):∃e y8 y9 Y,fh C QK (EW N F x L p s S Z O B)=a_ (.nx (EW N F x L (p+e.2.1.length) e.2.2.2 (S++[e]) y8 y9 Y))/\Wk E x (S++[e]) (p+e.2.1.length) e.2.2.2/\(e.2.1=[]->s=kM/\e.2.2.2=jR):=by
 have ne:(F.filter (sel G x p s))≠[]:=by
  rcases tZ h.hk with⟨q,_⟩|⟨e,he,hs,h2,hf⟩
  .exact absurd q (bb hp)
  .refine List.ne_nil_of_mem (fR.mpr ⟨(hF e).mpr he,?_⟩);rw[sel,h2,(hG _ (nv (aD hp) h2) _).mpr hf,hs];simp
 have pick:∀e∈F.filter (sel G x p s),Wk E x _ _ _/\(e.2.1=[]->s=kM/\e.2.2.2=jR)/\zq e:=λe m=>by
  obtain⟨m1,m2⟩:=fR.mp m;rw[ag,ag]at m2;obtain⟨m2,m3,A⟩:=m2;have hs:e.1=s:=by simpa using m2
  have he:=(hF e).mp m1;have f:=nv (aD hp) m3;refine⟨⟨λD h'=>?_,f,g.o e he,?_,(hG _ f _).mp A,Lm h.hc hs,?_⟩,λq=>hs▸g.n e he q,ok e m1⟩
  .rcases ax.mp h' with q|q
   .exact h.he D q
   simp_all
  .rw[ah];show S.length+1<=_/\(_->S.length+1<=_)
   obtain⟨T,H⟩:=h.hl;by_cases q:e.2.1=[]
   .obtain⟨w,U⟩:=g.n e he q;rw[hs]at w;have:=H (by rw[w];decide)
    simp_all
   .have :=bY.mpr q
    grind
  .rw[show xQ _=xQ S++e.2.1 by simp[xQ],h.ht,List.take_add];exact congrArg _ (eY.mp (of_decide_eq_true m3))
 generalize J:F.filter _=R at ne pick;have V:=h.hl.1
 suffices j:Go C QK _ λo=>∃e∈R,∃Z O B,o=.nx (EW N F x L (p+e.2.1.length) e.2.2.2 (S++[e]) Z O B) by
  refine ac λ_ W=>?_;obtain⟨_,h1,e,m,k,l,b,rfl⟩:=j;refine W ?_;exact⟨e,k,l,b,h1,(pick e m).1,(pick e m).2.1⟩
 refine eX rfl (g9 (I:=λus ρ=>∃O B,ρ=EW N F x L p s S (a_ (.lst ((us.filter (sel G x p s)).map dc),c_)) O B) (by rfl) ⟨O,B,rfl⟩ ?_ ?_)
 .rintro us e vs _ K ⟨O,B,rfl⟩;exact QY (aa hx (by decide)) (aD hp) (ok e (by rw[K];simp)) (by grind) hL
 rintro _ ⟨O,B,rfl⟩;rw[J];have c :=bY.mpr ne;obtain⟨q,f,M⟩:=hd ((31+S.length)) 70001 _ (by omega) (by decide) (kY.mpr c);have a:q<R.length:=by omega
 have Q:ba C (.call 14 [(.v 0),(.bin .add (.v 1) (.blt .len [(.v 7)])),(.e_ 70001),(.blt .len [(.v 8)])]) (full (EW N F x L p s S (a_ (.lst (R.map dc),c_)) O B))=a_ (.int (q),d_):=by
  rw[iW,bX,bX,eD rfl (gP rfl (by rw[p3,aA])) (by exact congrArg (λi=>a_ _) (by rfl)),bX,bX,gP rfl (by rw[p3,aA])];exact f
 obtain⟨y,z,r⟩:=pick _ (br a);have u :=len_T (by exact aa r.t (by decide));refine bZ (dP (zt rfl Q (jd (by rw[aO,af a];rfl))) (va _)) ?_;refine vd (P:=(·= dc _)) ⟨dc _,d_,rfl,va _,rfl⟩ rfl (by rw[aA];exact qV V (Nat.mul_le_mul_left 2 hp) (Nat.mul_le_mul_left 2 hx)) λd hd=>?_;rw[hd,show S.map dc++[dc _]=(S++[R[q]]).map dc by simp];refine bZ (dP (eD rfl (gP rfl u) (by rw[nK])) rfl) ?_;exact bZ (dP rfl rfl) (bw ⟨_,br a,_,_,_,rfl⟩)
abbrev US(C:Fs)(ρ:c8):Option Bool:=(ba C (.cmp .lt (.v 5) (.blt .len [(.v 3)])) (full ρ)).bind λx=>gJ x.1
theorem Qf(hd:Dw C N)(g:gE E)(hF:∀e,e∈F↔e∈E)(ok:∀e∈F,zq e)(Y:F.length<=1000)(hx:x.length<=400){G:Nat->Row}(hL:CT L x.length G)(hG:∀q,q<=x.length->∀s,(G q s).isSome=c_↔fin E x q s):∀(m fuel:Nat)(S:List Ed)(p:Nat)(s:bc)(Z z9 B:g_),Wk E x S p s->2 * (x.length - p)+(if s=kM then 1 else 0)<=m->m<fuel->∃S' s' y8 y9 O,zI (US C) (fh C QK) fuel (EW N F x L p s S Z z9 B)=a_ (.nx (EW N F x L x.length s' S' y8 y9 O))/\Wk E x S' x.length s'
 |m,0,S,p,s,_,_,_,h,a,hf=>absurd hf (wa _)
 |m,fuel+1,S,p,s,Z,z9,B,h,a,hf=>by
   have hc:US C (EW N F x L p s S Z z9 B)=a_ (decide (p<x.length)):=by
    have:ba C (.cmp .lt (.v 5) (.blt _ [(.v 3)])) (full (EW N F x L p s S Z z9 B))=a_ (.bl (decide (p<x.length)),d_):=gh rfl (gP rfl (len_T (aa hx cy))) (by
     show a_ (decide _)=_
     rw[decide_eq_decide.mpr (show(p:Int)<(x.length)↔p<x.length by simp)])
    unfold US;rw[this];rfl
   unfold zI;rw[hc];by_cases hp:p<x.length
   .rw[decide_eq_true hp];refine ac λ_ b=>?_;obtain⟨e,y8,y9,O,h1,h2,h3⟩:=stepK hd g hF ok Y hx h hp hL hG;have i:=h2.hp
    obtain⟨c,rfl⟩:∃c,m=c+1:=⟨m - 1,by
     omega⟩
    obtain⟨S',s',j,k,f,l,h5⟩:=Qf hd g hF ok Y hx hL hG c _ _ _ _ y8 y9 O h2 (by
     by_cases q:e.2.1=[]
     .obtain⟨n,o⟩:=h3 q;rw[if_pos n]at a;rw[q,o];exact a7 a
     .have :=bY.mpr q
      split<;>omega) (a7 hf)
    refine b ?_;refine⟨S',s',j,k,f,?_,h5⟩;rwa[h1]
   .rw[decide_eq_false hp];have:p=x.length:=aF h.hp (bS hp);subst this;exact⟨S,s,Z,z9,B,rfl,h⟩
end
def Jk{ns:List Int}(g:gE E)(O:∀e,e∈F↔e∈E)(ok:∀e∈F,zq e)(B:F.length<=1000)(Y:x.length<=60)(hk:fin E x 0 jH):∃S s,Cn D (n+3) 26 [.lst (ns.map Dat.int),.int 31,.lst (F.map dc),sT x]=a_ (.lst (S.map dc),c_)/\(∀e∈S,e∈E)/\Ch jH S s/\s∈oh/\xQ S=x/\(kQ S).length<=6 * (2 * x.length+1):=by
 refine ac λ_ m=>?_;obtain⟨L,G,hc,c,d⟩:=GK g O ok B (aa Y (by decide));refine m ?_;have hd:Dw (Cn D (n+2)) (.lst (ns.map Dat.int)):=dw;generalize Dat.lst (ns.map Dat.int)=N at hd ⊢;refine ac λ_ m=>?_;obtain⟨S,s,j,l,f,i,a⟩:=Qf hd g O ok B (aa Y (by decide)) c d (2 * x.length+1) nr [] 0 jH b_ b_ b_ ⟨(λ_ h=>nomatch h),aT _,by decide,by simp,hk,rfl,rfl⟩ (by split<;>simp) (OJ (aa Y (by decide)))
 refine m ?_;have hs:s∈oh:=by
  rcases tZ a.hk with⟨_,q⟩|⟨e,he,rfl,h2,_⟩
  .exact q
  .have b:=of_decide_eq_true h2;rw[tL]at b;rw[(g.n e he (List.prefix_nil.mp b)).1];decide
 refine⟨S,s,?_,a.he,a.hc,hs,by rw[a.ht,LU],?_⟩
 .refine fE rfl ?_
  suffices h:Go (Cn D (n+2)) b26 [a_ (N,d_),a_ (.int 31,d_),a_ (.lst (F.map dc),d_),a_ (sT x,d_),b_,b_,b_,b_,b_,b_,b_] λo=>o=.rt (.lst (S.map dc)) c_ by
   obtain⟨_,h1,rfl⟩:=h;exact h1
  exact bZ (Jd ((Lo rfl rfl).trans hc)) (bZ (dP rfl rfl) (bZ (dP rfl rfl) (eX rfl (bZ (by rw[QJ];exact i) ⟨_,rfl,rfl⟩))))
 .have h1:=fW λe he=>(ok e ((O e).mpr (a.he e he))).k;have:=a.hl.1
  grind
end K33E
namespace K33E
open PySem L2 M K33
variable{F:List Ed}{x:List Nat}{s:bc}
def Jt(us:List Ed)(e:Ed):kQ (us++[e])=kQ us++e.2.2.1:=by simp[kQ]
def WY(B:S=us++e::vs):(kQ us).length+e.2.2.1.length<=(kQ S).length/\(xQ us).length+e.2.1.length<=(xQ S).length:=by
 subst B;simp
def Jm(hl:(kQ S).length<=1000):Cn D (n+1) 27 [.lst (S.map dc)]=a_ (tI (kQ S),d_):=by
 refine sP rfl ?_;refine bZ (dP rfl rfl) (g9 (I:=λus ρ=>∃z,ρ=[a_ (.lst (S.map dc),d_),a_ (tI (kQ us),d_),z]) (by rfl) ⟨b_,rfl⟩ ?_ ?_)
 .rintro us e vs _ a ⟨z,rfl⟩;exact⟨_,rfl,bZ (dP (eD rfl rfl (p5 _ _ (aa ((WY a).1) hl))) (lK _)) (bw ⟨_,rfl,_,by rw[Jt];rfl⟩)⟩
 .rintro _ ⟨z,rfl⟩;exact⟨_,rfl,rfl⟩
def YS(h:ba C a ρ=a_ (.bl b,f)):ba C (.not a) ρ=a_ (.bl (!b),d_):=by
 rw[Uv,h];rfl
end K33E
namespace K33E
open PySem L2 M K33
noncomputable abbrev qu(r:List Int)(q:Nat)(e:Ed):Bool:=decide (e.2.2.1 <+: r.drop q)
inductive Wl (E:List Ed) (x:List Nat) (r:List Int):Nat->Nat->bc->Prop
 |z:Wl E x r 0 0 jH
 |s {p q:Nat} {e:Ed}:Wl E x r p q e.1->e∈E->pre x p e=c_->qu r q e=c_->Wl E x r (p+e.2.1.length) (q+e.2.2.1.length) e.2.2.2
section
variable{E:List Ed}{x:List Nat}{r:List Int}
def uH(B:q<=r.length)(h:qu r q e=c_):q+e.2.2.1.length<=r.length:=by
 grind
def Wl.le{p q:Nat}{s:bc}(h:Wl E x r p q s):p<=x.length/\q<=r.length:=by
 induction h with
 |z=>simp
 |s _ _ h1 h2 a=>exact⟨nv a.1 h1,uH a.2 h2⟩
def Wl.st(ho:∀e∈E,e.2.2.2∈jC){p q:Nat}{s:bc}(h:Wl E x r p q s):s∈jC:=by
 cases h with
 |z=>exact jv
 |s _ he _ _=>exact ho _ he
def VC(E:List Ed)(x:List Nat)(r:List Int):Prop:=∃s∈oh,Wl E x r x.length r.length s
theorem Qr:∀(S us:List Ed){s o:bc},(∀e∈us++S,e∈E)->Ch s S o->Wl E (xQ (us++S)) (kQ (us++S)) (xQ us).length (kQ us).length s->Wl E (xQ (us++S)) (kQ (us++S)) (xQ (us++S)).length (kQ (us++S)).length o
 |[],us,s,o,_,hc,h=>by
   rw[aE]at h ⊢;exact(hc)▸h
 |e::S,us,s,o,he,hc,h=>by
   obtain⟨rfl,hc⟩:=hc;have e1:us++e::S=(us++[e])++S:=by simp
   have w:=Wl.s h (he e (by simp)) (by simp) (by simp);have b1:(xQ us).length+e.2.1.length=(xQ (us++[e])).length:=by simp[xQ]
   have b2:(kQ us).length+e.2.2.1.length=(kQ (us++[e])).length:=by simp[kQ]
   rw[b1,b2]at w;rw[e1]at w he ⊢;exact Qr S _ he hc w
def UT(he:∀e∈S,e∈E)(hc:Ch jH S s)(hs:s∈oh):VC E (xQ S) (kQ S):=⟨s,hs,Qr S [] he hc .z⟩
end
section
variable{E:List Ed}{x:List Nat}{r:List Int}{G:Nat->Row}
abbrev Ye(E:List Ed)(x:List Nat)(r:List Int)(G:Nat->Row):Prop:=∀p s m q,G p s=a_ m->m.testBit q=c_->Wl E x r p q s
abbrev By(r:List Int)(G:Nat->Row)(p:Nat)(s:bc)(e:Ed):Prop:=∀m q,G p s=a_ m->m.testBit q=c_->qu r q e=c_->∃a,G (p+e.2.1.length) e.2.2.2=a_ a/\a.testBit (q+e.2.2.1.length)=c_
def Rk(h:Ye E x r G)(B:G p s=a_ m):m<2 ^ (r.length+1):=
 Nat.lt_pow_two_of_testBit m λi hi=>by
  cases q:m.testBit i with
  |false=>rfl
  |true=>exact absurd (h p s m i B q).le.2 (λz=>(aZ hi z))
noncomputable abbrev N5(G:Nat->Row)(p:Nat)(e:Ed)(m pl:Nat):Nat:=((G (p+e.2.1.length) e.2.2.2).getD 0) ||| ((m &&& pl) <<< e.2.2.1.length)
def N4(h:(N5 G p e m pl).testBit q=c_):(∃B,G (p+e.2.1.length) e.2.2.2=a_ B/\B.testBit q=c_)\/∃k,q=k+e.2.2.1.length/\m.testBit k=c_/\pl.testBit k=c_:=by
 rw[Nat.testBit_or,kS]at h
 rcases h with h|h
 .cases c:G _ _ with
  |none=>rw[c]at h;simp at h
  |some B=>rw[c]at h;exact .inl ⟨B,rfl,h⟩
 .rw[Nat.testBit_shiftLeft,ag,PC,ag]at h;exact .inr ⟨_,by simp_all,h.2⟩
def D1(h:BZ G p s v p' s'=a_ m):(p'=p/\s'=s/\m=v)\/(¬(p'=p/\s'=s)/\G p' s'=a_ m):=by
 by_cases c:p'=p
 .subst c;rw[zK]at h
  grind
 .rw[D0 c]at h;exact .inr ⟨λz=>c z.1,h⟩
def qm:BZ G p s v p s=a_ v:=by rw[zK];exact if_pos rfl
def qo(h:¬(p'=p/\s'=s)):BZ G p s v p' s'=G p' s':=by
 by_cases c:p'=p
 .subst c;rw[zK];exact if_neg λd=>h ⟨rfl,d⟩
 .exact congrFun (D0 c) _
def JW(G:Nat->Row):(∃B,G (p+e.2.1.length) e.2.2.2=a_ B/\B.testBit q=c_)->(N5 G p e m pl).testBit q=c_:=λa=>by
 grind
variable{pl:Nat}
def IX(h:Ye E x r G)(he:e∈E)(hp:pre x p e=c_)(O:G p e.1=a_ m)(B:∀q,pl.testBit q=qu r q e):Ye E x r (BZ G (p+e.2.1.length) e.2.2.2 (N5 G p e m pl)):=λb s' a q h1 h2=>by
 rcases D1 h1 with⟨rfl,rfl,rfl⟩|⟨_,h1⟩
 .rcases N4 h2 with⟨a,c1,c2⟩|⟨k,rfl,c1,c2⟩
  .exact h _ _ _ _ c1 c2
  .exact .s (h _ _ _ _ O c1) he hp ((B k).symm.trans c2)
 .exact h _ _ _ _ h1 h2
def FO{s0:bc}(B:¬(p0=p+e.2.1.length/\s0=e.2.2.2))(h:By r G p0 s0 d):By r (BZ G (p+e.2.1.length) e.2.2.2 (N5 G p e m pl)) p0 s0 d:=λm0 q h1 h2 h3=>by
 rw[qo B]at h1;obtain⟨a,c1,c2⟩:=h m0 q h1 h2 h3;by_cases c:p0+d.2.1.length=p+e.2.1.length/\d.2.2.2=e.2.2.2
 .rw[c.1,c.2]at c1 ⊢;exact⟨_,qm,JW G ⟨a,c1,c2⟩⟩
 .exact⟨a,(qo c).trans c1,c2⟩
def U3(B:¬(p=p+e.2.1.length/\e.1=e.2.2.2))(O:G p e.1=a_ m)(Y:∀q,pl.testBit q=qu r q e):By r (BZ G (p+e.2.1.length) e.2.2.2 (N5 G p e m pl)) p e.1 e:=λm0 q h1 h2 h3=>by
 rw[qo B,O]at h1;cases h1;refine⟨_,qm,?_⟩
 simp_all
def QI(hi:∃m,G 0 jH=a_ m/\m.testBit 0=c_)(h:∀p s,p<=x.length->s∈jC->∀e∈E,e.1=s->pre x p e=c_->By r G p s e)(hb:∀e∈E,e.1∈jC)(w:Wl E x r p q s):∃m,G p s=a_ m/\m.testBit q=c_:=by
 induction w with
 |z=>exact hi
 |s w he h1 h2 a=>
   obtain⟨m,c1,c2⟩:=a;exact h _ _ w.le.1 (hb _ he) _ he rfl h1 m _ c1 c2 h2
end
section
variable{E:List Ed}{x:List Nat}{r:List Int}{A:Nat->List (Nat×bc)}
noncomputable abbrev xT(a:Nat×bc)(e:Ed):Nat×bc:=(a.1+e.2.1.length,e.2.2.2)
abbrev gd(x:List Nat)(r:List Int)(q:Nat)(a:Nat×bc)(e:Ed):Bool:=(e.1 == a.2 && qu r q e) && pre x a.1 e
noncomputable abbrev ZT(A:Nat->List (Nat×bc))(k:Nat)(a:Nat×bc):Nat->List (Nat×bc):=λq=>if q=k then A k++[a]else A q
def zQ(x:List Nat)(r:List Int)(q:Nat)(a:Nat×bc)(e:Ed)(A:Nat->List (Nat×bc)):Nat->List (Nat×bc):=if(gd x r q a e && !decide (xT a e∈A (q+e.2.2.1.length)))=c_ then ZT A (q+e.2.2.1.length) (xT a e)else A
structure Sw(E:List Ed)(x:List Nat)(r:List Int)(A:Nat->List (Nat×bc)):Prop where
 z:(0,jH)∈A 0
 s:∀q,∀a∈A q,Wl E x r a.1 q a.2
 n:∀q,(A q).Nodup
abbrev Cy(x:List Nat)(r:List Int)(A:Nat->List (Nat×bc))(q:Nat)(a:Nat×bc)(e:Ed):Prop:=gd x r q a e=c_->xT a e∈A (q+e.2.2.1.length)
def D2(h:b∈A q):b∈ZT A k a q:=by
 grind
def MP(h:b∈A k):b∈zQ x r q a e A k:=by
 unfold zQ;split
 .exact D2 h
 .exact h
def V6(h:k≠q+e.2.2.1.length):zQ x r q a e A k=A k:=by
 unfold zQ;by_cases c:(gd x r q a e && !decide (xT a e∈A (q+e.2.2.1.length)))=c_
 .rw[if_pos c];exact if_neg h
 .rw[if_neg c]
set_option tactic.hygienic true
def MI(h:Sw E x r A)(ha:Wl E x r a.1 q a.2)(he:e∈E):Sw E x r (zQ x r q a e A):=by
 unfold zQ;split
 .rename_i c;rw[ag,ag,ag]at c;obtain⟨⟨⟨c1,c2⟩,f⟩,g⟩:=c;refine⟨D2 h.z,λk b hb=>?_,λk=>?_⟩
  .have hb:b∈(if k=q+e.2.2.1.length then A _++[xT a e]else A k):=hb;split at hb
   .rename_i d
    rcases ax.mp hb with hb|hb
    .exact h.s k b (by rwa[d])
    .rw[az.mp hb,d];exact .s ((eq_of_beq c1)▸ha) he f c2
   .exact h.s k b hb
  .show(if k=q+e.2.2.1.length then A _++[xT a e]else A k).Nodup;split
   .refine cH.mpr ⟨h.n _,by simp,λb hb c hc z=>?_⟩
    simp_all
   .exact h.n k
 .exact h
def yL(h:Cy x r A k b d):Cy x r (zQ x r q a e A) k b d:=λc=>MP (h c)
def UL:Cy x r (zQ x r q a e A) q a e:=λc=>by
 unfold zQ;split
 .grind
 .rename_i d;rwa[c,m9,jP,Bool.not_eq_false,decide_eq_true_eq]at d
def QH(h:Sw E x r A)(hc:∀q,q<r.length->∀a∈A q,∀e∈E,Cy x r A q a e)(B:∀e∈E,e.2.2.1≠[])(w:Wl E x r p q s):(p,s)∈A q:=by
 induction w with
 |z=>exact h.z
 |s w he h1 h2 b=>
   rename_i p q e;refine hc q ?_ _ b _ he ?_
   .have:=uH w.le.2 h2;have:=bY.mpr (B _ he);omega
   simp_all
set_option tactic.hygienic false
def QV(h:Sw E x r A)(ho:∀e∈E,e.2.2.2∈jC)(q:Nat):(A q).length<=(x.length+1) * 6:=by
 have hs:∀a∈A q,a∈(aR _).flatMap λp=>jC.map λs=>(p,s):=λa ha=>by
  have w:=h.s q a ha;refine dU.mpr ⟨_,bf.mpr (m7 w.le.1),bQ.mpr ⟨_,w.st ho,rfl⟩⟩
 refine aa ((h.n q).length_le_of_subset λa ha=>hs a ha) ?_;simp[List.map_const']
end
def WE(a b:Nat):pB (a:Int) (b:Int)=((a ||| b:Nat):Int):=by
 have h:∀n:Nat,gr (n)=vR n:=λn=>by unfold gr;omega
 have h2:∀n:Nat,gr (vR n)=(n):=λn=>by unfold gr;simp
 unfold pB;rw[h,h];show gr (gr (((gr _).toNat ||| (gr _).toNat)))=_
 simp_all
def DN(a b:Nat):fF .band (.int (a:Nat)) (.int (b:Nat))=a_ (.int ((a &&& b:Nat):Int),d_):=rfl
def Qy(a b:Nat):fF .bor (.int (a:Nat)) (.int (b:Nat))=a_ (.int ((a ||| b:Nat):Int),d_):=congrArg (λi=>a_ (Dat.int i,d_)) (WE a b)
def PZ(ha:a<2 ^ 2000)(hk:k<=1000000):fF .shl (.int (a:Nat)) (.int (k:Nat))=a_ (.int ((a <<< k:Nat):Int),d_):=by
 refine(if_pos (⟨dE _,eT.mpr hk,ha⟩)).trans (congrArg _ ?_);rw[Nat.shiftLeft_eq];simp
def PY(a k:Nat):fF .shr (.int (a:Nat)) (.int (k:Nat))=a_ (.int ((a >>> k:Nat):Int),d_):=by
 have h:fF .shr (.int (a)) (.int (k))=if(0)<=((k))then a_ (.int _,d_)else b_:=rfl
 rw[h,Nat.shiftRight_eq_div_pow];simp
abbrev dF(ks:List Key)(g:Key->Option Nat):Dat:=.dct ks (ks.map λk=>vD (g k))
structure Fk(ks:List Key)(g:Key->Option Nat):Prop where
 nd:ks.Nodup
 mem:∀k,k∈ks↔∃v,g k=a_ v
noncomputable abbrev Ym(g:Key->Option Nat)(k:Key)(v:Nat):Key->Option Nat:=λj=>if j=k then a_ v else g j
theorem yv{g:Key->Option Nat}{k:Key}:∀ks:List Key,(k∈ks->fN k ks (ks.map λk=>vD (g k))=a_ (vD (g k)))/\(k∉ks->fN k ks (ks.map λk=>vD (g k))=b_)
 |[]=>⟨(λh=>nomatch h),λ_=>rfl⟩
 |a::r=>by
   refine (?_ : (_->(if a=k then a_ (vD _)else fN k r (r.map λk=>vD _))=_)/\(_->(if a=k then a_ (vD _)else fN k r (r.map λk=>vD _))=_))
   by_cases q:a=k
   .subst q;simp
   .rw[if_neg q];exact⟨λm=>(yv r).1 ((aw.mp m).elim (λz=>absurd z.symm q) id),λh=>(yv r).2 λm=>h (ju _ m)⟩
def TF(h:Fk ks g)(k:Key):fN k ks (ks.map λk=>vD (g k))=(g k).map λv=>.int (v:Nat):=by
 by_cases m:k∈ks
 .obtain⟨v,a⟩:=(h.mem k).mp m;rw[(yv ks).1 m,a];rfl
 .rw[(yv ks).2 m]
  cases q:g k with
  |none=>rfl
  |some v=>exact absurd ((h.mem k).mpr ⟨v,q⟩) m
def KP(h:Fk ks g):iN .get (dF ks g) [.int c,.int (v:Nat)]=a_ (.int ((g (.inl c)).getD v:Nat),d_):=by
 show a_ ((fN _ ks (ks.map λk=>vD _)).getD (.int _),d_)=_;rw[TF h];simp
theorem P5:∀{ks:List Key},ks.Nodup->∃B,putD k (.int (v:Nat)) ks (ks.map λk=>vD (g k))=(B,B.map λj=>vD (Ym g k v j))/\uO k ks=c_/\B.Nodup/\(∀j,j∈B↔j∈ks\/j=k)/\B.length<=ks.length+1
 |[],_=>⟨_,by show([k],[Dat.int _])=([k],[vD (if k=k then a_ v else g k)]);rw[if_pos rfl];rfl,rfl,by simp,by simp,ao _⟩
 |a::l,h=>by
   obtain⟨h1,h2⟩:=aU.mp h;by_cases q:a=k
   .subst q
    have e :=dq λr m=>by
     show vD (g r)=vD (if r=a then a_ v else g r);rw[if_neg λz:r=a=>h1 (z▸m)]
    refine⟨_,?_,?_,h,λr=>⟨.inl,λz=>z.elim id λz=>z▸jv⟩,vN _⟩
    .show(if a=a then(a::l,Dat.int _::l.map λr=>vD _)else _)=(_,vD (if a=a then a_ v else g a)::_)
     rw[if_pos rfl,if_pos rfl,e];rfl
    .show(if a=a then !(l.any λi=>decide _)else _)=c_
     grind
   .refine ac λ_ c=>?_;obtain⟨B,e1,e2,e3,b,e5⟩:=P5 h2;refine c ?_;refine⟨a::B,?_,?_,aU.mpr ⟨λm=>?_,e3⟩,λr=>?_,aY e5⟩
    .show(if a=k then _ else(a::(putD k (.int _) l (l.map λk=>vD _)).1,vD _::(putD k (.int _) l (l.map λk=>vD _)).2))=(_,vD (if a=k then a_ v else g a)::_)
     rw[if_neg q,if_neg q,e1]
    .show(if a=k then _ else uO k l)=c_;rw[if_neg q,e2]
    .grind
    .rw[aw,aw,b,or_assoc]
def WR(h:Fk ks g)(hl:ks.length<=2000)(c:Int)(v:Nat):∃B,jt .seti (dF ks g) [.int (v:Nat),.int c]=a_ (dF B (Ym g (.inl c) v))/\Fk B (Ym g (.inl c) v)/\B.length<=ks.length+1:=by
 refine ac λ_ b=>?_;obtain⟨B,e1,e2,e3,a,e5⟩:=P5 h.nd;refine b ?_;refine⟨B,?_,⟨e3,λr=>?_⟩,e5⟩
 .show(if ks.length<aC/\uO _ ks=c_ then a_ (Dat.dct (putD _ (.int _) ks (ks.map λk=>vD _)).1 (putD _ (.int _) ks (ks.map λk=>vD _)).2)else b_)=_;rw[if_pos ⟨by exact aq hl (by decide),e2⟩,e1]
 .rw[a];show _↔∃k,(if r=.inl c then a_ v else g r)=a_ k;by_cases q:r=.inl c
  .simp[q]
  .rw[h.mem];simp[q]
theorem yJ{α:Type}{f:α->Dat}:∀(r:List α)(k:Nat),rX k (r.map f)=(r.zipIdx k).map λz=>.tup [.int (z.2:Nat),f z.1]
 |[],_=>rfl
 |a::r,k=>by rw[aB,rX,yJ r _];rfl
def Im{α:Type}{r:List α}{us vs:List (α×Nat)}{z:α×Nat}(h:r.zipIdx=us++z::vs):z.2=us.length/\us.map (·.1)=r.take us.length/\r[us.length]?=a_ z.1/\us.length<r.length:=by
 have h1:(r.zipIdx)[us.length]?=a_ z:=by rw[h,aJ (ao _),fX];rfl
 rw[List.getElem?_zipIdx]at h1;obtain⟨a,h2,rfl⟩:=ee h1;have b:=congrArg (λl=>(l.take us.length).map (·.1)) h;simp only[lQ]at b;rw[zm,qb]at b;exact⟨ic _,b.symm,h2,(aN.mp h2).1⟩
section
variable{r:List Int}{g:Key->Option Nat}
abbrev Fr(r:List Int)(g:Key->Option Nat):Prop:=∀c q,((g (.inl c)).getD 0).testBit q=decide (r[q]?=a_ c)
def lb9:List Sx:=[(.mut .seti 1 [(.bin .bor (.eU .get (.v 1) [(.v 3),(.e_ 0)]) (.bin .shl (.e_ 1) (.v 2))),(.v 3)])]
def RO(B:r.length<=1000):∃ks g,Cn D (n+1) 9 [tI r]=a_ (dF ks g,c_)/\Fk ks g/\Fr r g:=by
 suffices h:Go _ b9 [a_ _,b_,b_,b_] λo=>∃ks g,o=.rt (dF ks g) c_/\Fk ks g/\Fr r g by
  refine ac λ_ t=>?_;obtain⟨_,h1,ks,g,rfl,h2⟩:=h;refine t ?_;exact⟨ks,g,fE rfl h1,h2⟩
 generalize Cn D n=C;refine bZ (Je rfl rfl) ?_;refine g9 (V:=λz:Int×Nat=>.tup [.int (z.2),.int z.1]) (xs:=r.zipIdx) (I:=λus ρ=>∃ks g e f,ρ=[a_ (tI r,d_),a_ (dF ks g,c_),e,f]/\Fk ks g/\ks.length<=us.length/\Fr (us.map (·.1)) g) ?_ ⟨[],λ_=>b_,b_,b_,rfl,⟨en,λk=>by simp⟩,ao _,λc q=>by simp⟩ ?_ ?_
 .show iO _ _ (rX 0 (r.map _)) _=_;rw[yJ];rfl
 .rintro us ⟨c,i⟩ vs _ s ⟨ks,g,e,f,rfl,hk,hl,hf⟩;obtain⟨rfl,e2,e3,l⟩:=Im s;refine⟨_,rfl,?_⟩;show Go C _ [a_ _,a_ _,a_ (.int (us.length),d_),a_ (.int c,d_)] _
  obtain⟨j,m1,m2,m3⟩:=WR hk (qV hl l B) c ((g _).getD 0 ||| (1 <<< us.length));refine bZ (ym rfl (by rw[fi,(eD (C0 rfl rfl rfl (KP hk)) (eD rfl rfl (PZ (Nat.one_lt_two_pow (by decide)) (aD (aa l (aa B (by decide)))))) (Qy _ _))];rfl) m1) (bw ⟨_,rfl,j,_,_,_,rfl,m2,by rw[ah];exact aa m3 (aY hl),λd q=>?_⟩);rw[cF];show((if(wx d)=.inl c then a_ _ else g _).getD 0).testBit q=_;have a:(us.map (·.1)).length=us.length:=aA _;by_cases hd:d=c
  .subst hd;rw[if_pos rfl,sk,Nat.testBit_or,hf,Nat.one_shiftLeft,HG];by_cases b:q<us.length
   .rw[aQ (by rwa[a]),decide_eq_false (i8 b),Bool.or_false]
   .rw[aJ (by rw[a];simp_all),kj (by rw[a];simp_all),a];by_cases h2:us.length=q
    .subst h2;simp
    grind
  .rw[if_neg (λz=>hd (si z)),hf];by_cases b:q<us.length
   .rw[aQ (by rwa[a])]
   .rw[aJ (by rw[a];simp_all),kj (by rw[a];simp_all)];refine decide_eq_decide.mpr ⟨(λz=>nomatch z),λz=>?_⟩
    cases p:q - (us.map _).length with
    |zero=>rw[p]at z;exact absurd (bA z).symm hd
    |succ m=>rw[p]at z;cases z
 .rintro _ ⟨ks,g,e,f,rfl,hk,hl,hf⟩;rw[qb]at hf;exact⟨_,rfl,ks,g,rfl,hk,hf⟩
def JE:(a++[c]) <+: l↔a <+: l/\l[a.length]?=a_ c:=by
 constructor
 .rintro⟨t,rfl⟩;simp
 .rintro⟨⟨t,rfl⟩,h⟩;rw[aJ (ao _),fX]at h
  cases t with
  |nil=>cases h
  |cons d t=>simp_all
def Z8:List Sx:=[(.set 2 (.bin .band (.v 2) (.bin .shr (.eU .get (.v 1) [(.v 4),(.e_ 0)]) (.v 3))))]
def RN(hk:Fk ks g)(hf:Fr r g)(hc:cs≠[]):∃pl:Nat,Cn D (n+1) 10 [tI cs,dF ks g]=a_ (.int (pl:Nat),d_)/\∀q,pl.testBit q=decide (cs <+: r.drop q):=by
 suffices h:Go _ _ [a_ _,a_ _,b_,b_,b_] λo=>∃pl:Nat,o=.rt (.int (pl)) d_/\∀q,pl.testBit q=decide (cs <+: r.drop q) by
  obtain⟨_,h1,pl,rfl,h2⟩:=h;exact⟨pl,fE rfl h1,h2⟩
 obtain⟨b,a⟩:∃b,cs[0]?=a_ b:=⟨_,af (bY.mpr hc)⟩
 refine bZ (dP (C0 rfl (zt rfl rfl (jd (by rw[aO,a];rfl))) rfl (KP hk)) rfl) ?_;refine g9 (V:=λz:Int×Nat=>.tup [.int (z.2),.int z.1]) (xs:=cs.zipIdx) (ρ0:=[a_ (tI cs,d_),a_ (dF ks g,d_),a_ (.int ((g (.inl b)).getD 0),d_),b_,b_]) (I:=λus ρ=>∃(m:Nat) (d z4:g_),ρ=[a_ _,a_ _,a_ (.int (m),d_),d,z4]/\∀q,m.testBit q=(decide (r[q]?=a_ b) && decide (us.map (·.1) <+: r.drop q))) ?_ ⟨_,b_,b_,rfl,λq=>by rw[hf];simp⟩ ?_ ?_
 .show iO _ _ (rX 0 (cs.map _)) _=_;rw[yJ];rfl
 .rintro us ⟨c,i⟩ vs _ f ⟨m,d,z4,rfl,e⟩;obtain⟨rfl,e2,e3,j⟩:=Im f;refine⟨_,rfl,?_⟩;refine bZ (dP (eD rfl (eD (C0 rfl rfl rfl (KP hk)) rfl (PY _ _)) (DN _ _)) rfl) (bw ⟨_,rfl,_,_,_,rfl,λq=>?_⟩);rw[PC,e,Nat.testBit_shiftRight,hf,cF,wG]
  congr 1
  rw[<-vS];refine decide_eq_decide.mpr (Iff.trans ?_ JE.symm);rw[aA,jm,Ce]
 .rintro _ ⟨m,d,z4,rfl,e⟩;refine⟨_,rfl,m,rfl,λq=>?_⟩;rw[e,qb,<-vS];refine decide_eq_decide.mpr ⟨λz=>z.2,λz=>⟨?_,z⟩⟩;obtain⟨t,ht⟩:=z;have:=congrArg (λl=>l[0]?) ht;simp only[jm,Nat.add_zero]at this;rw[<-this,aQ (bY.mpr hc),a]
end
section
variable{x:List Nat}{G:Nat->Row}
def Le(h:CT L n G)(hp:p<=n)(hs:s∈jC):∃d d',L[p]?=a_ d/\pH L.length ((p:Nat):Int)=a_ p/\jt .seti d [.int (v:Nat),.str s]=a_ d'/\CT (L.set p d') n (BZ G p s v):=by
 obtain⟨ks,b,c⟩:=h.r p hp;obtain⟨a,b1,b0⟩:=Qc c hs v;refine⟨_,_,b,?_,b1,by rw[om];exact h.l,λq f=>?_⟩
 .unfold pH;rw[if_pos (dE _),if_pos (by rw[h.l];exact lI.mpr (aY hp))];simp
 .by_cases e:q=p
  .subst e;rw[eA (by rw[h.l];exact aY hp),zK];exact⟨a,rfl,b0⟩
  .rw[bP (cj e),D0 e];exact h.r q f
def Xu:Cn D (k+1) (11+AF) ds=X9 (Cn D k) 4 6 Yb ds:=rfl
def RR(h:CT L x.length G)(he:zq e)(hp:p<=x.length)(O:pre x p e=c_)(Y:G p e.1=a_ m)(hl:m<2 ^ 2000)(hk:Fk ks g)(hf:Fr r g) :
  ∃B pl,Cn D (k+2) (11+AF) [.lst L,.int (p:Nat),dc e,dF ks g]=a_ (.lst B,c_)/\(∀q,pl.testBit q=qu r q e)/\CT B x.length (BZ G (p+e.2.1.length) e.2.2.2 (N5 G p e m pl)):=by
 refine ac λ_ f=>?_;obtain⟨pl,h1,h2⟩:=RN hk hf he.c;have a:=nv hp O;obtain⟨d,d',c1,c2,n,s⟩:=Le h a he.o;refine f ?_;refine⟨_,pl,?_,h2,s⟩;rw[Xu];generalize Cn D _=C at h1;refine ac λ_ f=>?_;obtain⟨E,u,i2⟩:=vv h hp;obtain⟨b,w,y⟩:=vv h a;refine f ?_;show bo (fh C Yb [a_ _,a_ (.int _,d_),a_ _,a_ _,b_,b_]) UB=_
 have hd:d=dD b (G (p+e.2.1.length)):=by
  have z:zr (.lst L) (.int _)=a_ d:=jd c1
  simp_all
 subst hd;have s2:pv C (.Yd 5 0 (.bin .add (.v 1) (.blt .len [(.ix (.v 2) (.e_ 1))])) (.ix (.v 2) (.e_ 3)) (.bin .bor (.eU .get (.v 5) [(.ix (.v 2) (.e_ 3)),(.e_ 0)]) (.bin .shl (.v 4) (.blt .len [(.ix (.v 2) (.e_ 2))])))) [a_ (.lst L,c_),a_ (.int (p),d_),a_ (dc e,d_),a_ (dF ks g,d_),a_ (.int ((m &&& pl)),d_),b_]=a_ (.nx [a_ (.lst (L.set (p+e.2.1.length) d'),c_),a_ (.int (p),d_),a_ (dc e,d_),a_ (dF ks g,d_),a_ (.int ((m &&& pl)),d_),b_]):=by
  show(if 5<6 then(ba C _ _).bind _ else b_)=_;rw[(eD rfl (gP rfl (len_T (aa he.t (by decide)))) rfl)];show(pH _ (((p+e.2.1.length:Nat)))).bind _=_;rw[c2,bE,c1];show(ba C _ [a_ _,a_ (.int _),a_ _,a_ _,a_ (.int _),a_ (dD b (G _))]).bind _=_;rw[(eD (C0 rfl rfl rfl (Fh y)) (eD rfl (gP rfl (jW _)) (PZ (aq Nat.and_le_left hl) (aa he.k (by decide)))) (Qy _ _))];show(jt _ _ [.int _,.str _]).map _=_;rw[n];rfl
 have s3:fh C Yb [a_ _,a_ (.int _,d_),a_ _,a_ _,b_,b_]=a_ (.nx [a_ (.lst (L.set _ d'),c_),a_ (.int _,d_),a_ _,a_ _,a_ (.int _,d_),b_]):=(qp (dP (i:=4) (eD (zt (zt rfl rfl u) rfl (W7 i2 Y)) ((Lo rfl rfl).trans h1) (DN _ _)) rfl)).trans ((qp s2).trans rfl);rw[s3];rfl
end
section
variable{E:List Ed}{x:List Nat}{r:List Int}{ks:List Key}{g:Key->Option Nat}{L:List Dat}{G:Nat->Row}{p m pl:Nat}{s:bc}{e:Ed}{P:Nat->bc->Prop}
structure Ib(E:List Ed)(x:List Nat)(r:List Int)(P:Nat->bc->Prop)(G:Nat->Row):Prop where
 s:Ye E x r G
 z:∃m,G 0 jH=a_ m/\m.testBit 0=c_
 c:∀e∈E,∀p,P p e.1->pre x p e=c_->By r G p e.1 e
def OD(h:Ib E x r P G)(he:e∈E)(hp:pre x p e=c_)(Y:G p e.1=a_ m)(B:∀q,pl.testBit q=qu r q e)(O:¬P (p+e.2.1.length) e.2.2.2):Ib E x r P (BZ G (p+e.2.1.length) e.2.2.2 (N5 G p e m pl)):=by
 refine⟨IX h.s he hp Y B,?_,λd hd a h0 h1=>FO (λz=>O (z.1▸z.2▸h0)) (h.c d hd a h0 h1)⟩;obtain⟨m0,c1,c2⟩:=h.z;by_cases c:0=p+e.2.1.length/\jH=e.2.2.2
 .rw[c.1,c.2]at c1 ⊢;refine⟨_,qm,?_⟩;rw[<-c.1];exact JW G ⟨m0,c1,c2⟩
 .exact⟨m0,(qo c).trans c1,c2⟩
abbrev Pr(p:Nat)(us:List bc):Nat->bc->Prop:=λa s0=>a<p\/(a=p/\s0∈us)
def Q4(h:jC=us++s::vs)(hs:s=kM):jR∉us:=by
 have h2:us=jC.take us.length:=by rw[h,lQ]
 have a:∀i<6,jC[i]?=a_ kM->jR∉jC.take i:=by decide +kernel
 rw[h2];exact a _ (by have:=congrArg fD h;simp at this;exact aq (aV _ _) (ae this.symm)) (by rw[h,aJ (ao _),fX,hs];rfl)
def SY(g:gE E)(he:e∈E)(h:jC=us++e.1::vs):¬Pr p us (p+e.2.1.length) e.2.2.2/\¬(p=p+e.2.1.length/\e.1=e.2.2.2):=by
 by_cases q:e.2.1=[]
 .obtain⟨a,b⟩:=g.n e he q;rw[b];refine⟨λz=>z.elim (λz=>absurd z (by simp)) λz=>Q4 h a z.2,λz=>?_⟩;rw[a]at z;exact absurd z.2 (by decide +kernel)
 grind
variable{t:Tb}
abbrev EB(t:Tb)(E:List Ed)(x:List Nat)(r:List Int)(ks:List Key)(g:Key->Option Nat)(b:Bool)(L:List Dat)(B O Y:g_):c8:=[a_ (tb t,d_),a_ (sT x,d_),a_ (tI r,d_),a_ (rY E,c_),a_ (dF ks g,b),a_ (.lst L,c_),B,O,Y,b_]
def lbE:List Sx:=[(.VB (11+AF) 5 [(.v 6),(.v 8),(.v 4)])]
def Z6:List Sx:=[(.ifs (.cmp .ne (.eU .get (.ix (.v 5) (.v 6)) [(.v 7),(.e_ 0)]) (.e_ 0)) [(.loop c_ [8] (.itv (.call 8 [(.ix (.v 3) (.v 7)),(.v 1),(.v 6)])) lbE)] [])]
def V1(ge:gE E)(ok:∀e∈E,zq e)(hx:x.length<=900)(hr:r.length<=1000)(hk:Fk ks g)(hf:Fr r g)(hp:p<=x.length)(Z:jC=us++s::vs)(h:CT L x.length G)(hi:Ib E x r (Pr p us) G) :
  ∃O,eR c_ [7] (.str s) (EB t E x r ks g b L (a_ (.int (p:Nat),d_)) z7 B)=a_ O/\Go (Cn D (k+2)) Z6 O λo=>∃Y,o=.nx Y/\∃b z7 B L G,Y=EB t E x r ks g b L (a_ (.int (p:Nat),d_)) z7 B/\CT L x.length G/\Ib E x r (Pr p (us++[s])) G:=by
 have fin:∀{G:Nat->Row},Ib E x r (Pr p us) G->(∀e∈E,e.1=s->pre x p e=c_->By r G p s e)->Ib E x r (Pr p (us++[s])) G:=λh1 h2=>⟨h1.s,h1.z,λe he A h0 f=>by
  rcases h0 with h0|⟨h0,h3⟩
  .exact h1.c e he A (.inl h0) f
  .rcases ax.mp h3 with h3|h3
   .exact h1.c e he A (.inr ⟨h0,h3⟩) f
   .have h3:=az.mp h3;subst h0
    exact h3▸h2 e he h3 f⟩
 refine⟨_,rfl,?_⟩;obtain⟨kp,K,i2⟩:=vv h hp
 have i:ba (Cn D (k+2)) (.cmp .ne (.eU _ (.ix (.v 5) (.v 6)) [(.v 7),(.e_ 0)]) (.e_ 0)) (full (EB t E x r ks g b L (a_ (.int _,d_)) (a_ (.str s,d_)) B))=a_ (.bl (((G p s).getD 0) != (0:Int)),d_):=
  gh (C0 (zt rfl rfl K) rfl rfl (Fh i2)) rfl rfl
 by_cases C:(G p s).getD 0=0
 .refine lS (by rwa[C]at i) (bw ⟨_,rfl,b,_,_,L,G,rfl,h,fin hi λe _ _ _ m q h1 h2 _=>?_⟩)
  simp_all
 .obtain⟨m,a⟩:∃m,G p s=a_ m:=by
   cases c:G p s with
   |none=>simp_all
   |some m=>exact⟨m,rfl⟩
  have M:(((G p s).getD 0) != (0:Int))=c_:=by simpa using C
  rw[M]at i;refine jg (J:=λρ=>∃b B L G,ρ=EB t E x r ks g b L (a_ (.int _,d_)) (a_ (.str s,d_)) B/\CT L _ G/\Ib E x r (Pr p _) G) i (λ_=>?_) (λz=>nomatch z) λρ' h=>bw ⟨_,rfl,by refine ac λ_ N=>?_;obtain⟨b,z,L,G,h1,h2⟩:=h;refine N ?_;exact⟨b,_,z,L,G,h1,h2⟩⟩;refine g9 (I:=λvs ρ=>∃b B L G,ρ=EB t E x r ks g b L (a_ (.int _,d_)) (a_ _) B/\CT L _ G/\Ib E x r _ G/\G p s=a_ m/\∀e∈vs,By r G p s e) (jw ((vA (zt rfl rfl (show zr (rY E) (.str s)=_ from Km (by rw[Z];simp))) rfl rfl).trans (RX hp (aa (fO _ _) (aa ge.l (by decide))))) rfl (by simp)) ⟨b,B,L,G,rfl,h,hi,a,λ_ h=>nomatch h⟩ ?_ ?_
  .rintro Q e ws _ R ⟨b,B,L,G,rfl,h,hi,a,hb⟩;refine⟨_,rfl,?_⟩;have j:e∈(U4 E s).filter (pre x p):=by rw[R];simp
   refine ac λ_ N=>?_;obtain⟨S,F⟩:=fR.mp j;obtain⟨n,u⟩:=fR.mp S;have u:e.1=s:=by simpa using u
   subst u;obtain⟨H,pl,c1,c2,T⟩:=RR h (ok e n) hp F a (aW (Rk hi.s a) (Nat.pow_le_pow_right (by decide) (aq hr (by decide)))) hk hf;obtain⟨U,w⟩:=SY ge n Z
   refine N ?_;have s1:pv (Cn D (k+2)) (.VB (11+AF) 5 [(.v 6),(.v 8),(.v 4)]) (EB t E x r ks g b L (a_ (.int (p),d_)) (a_ (.str e.1,d_)) (a_ (dc e,d_)))=a_ (.nx (EB t E x r ks g d_ H (a_ (.int (p),d_)) (a_ (.str e.1,d_)) (a_ (dc e,d_)))):=by
    show(Cn D _ _ [.lst L,.int _,dc e,dF ks g]).map _=_;rw[c1];rfl
   refine bZ s1 (bw ⟨_,rfl,d_,_,H,_,rfl,T,OD hi n F a c2 U,(qo w).trans a,λd hd=>?_⟩)
   rcases ax.mp hd with hd|hd
   .exact FO w (hb d hd)
   .rw[az.mp hd];exact U3 w a c2
  .rintro _ ⟨b,B,L,G,rfl,h,hi,a,hb⟩;exact bw ⟨_,rfl,b,_,L,G,rfl,h,fin hi λe he y f=>hb e (fR.mpr ⟨fR.mpr ⟨he,by simp[y]⟩,f⟩)⟩
end
section
variable{x:List Nat}{r:List Int}{G:Nat->Row}
def Z7:List Sx:=[(.loop c_ [7] (.itv ZJ) Z6)]
def V4(ge:gE E)(ok:∀e∈E,zq e)(hx:x.length<=900)(hr:r.length<=1000)(hk:Fk ks g)(hf:Fr r g)(hp:p<=x.length)(h:CT L x.length G)(hi:Ib E x r (Pr p []) G) :
  ∃Y,eR c_ [6] (.int (p:Nat)) (EB t E x r ks g b L z6 B O)=a_ Y/\Go (Cn D (k+2)) Z7 Y λo=>∃Z,o=.nx Z/\∃b z6 B O L G,Z=EB t E x r ks g b L z6 B O/\CT L x.length G/\Ib E x r (Pr (p+1) []) G:=by
 refine⟨_,rfl,?_⟩;refine g9 (xs:=jC) (I:=λus ρ=>∃b B O L G,ρ=EB t E x r ks g b L (a_ (.int (p),d_)) B O/\CT L _ G/\Ib E x r (Pr p us) G) (by rfl) ⟨b,B,O,L,G,rfl,h,hi⟩ ?_ ?_
 .rintro us s vs _ d ⟨b,B,O,L,G,rfl,h,hi⟩;exact V1 ge ok hx hr hk hf hp d h hi
 .rintro _ ⟨b,B,O,L,G,rfl,h,hi⟩
  exact bw ⟨_,rfl,b,_,_,_,L,G,rfl,h,hi.s,hi.z,λe he a h0 f=>hi.c e he a (by
   rcases h0 with h0|⟨_,h0⟩
   .rcases fY a p with q|q
    .exact .inl q
    .exact .inr ⟨aF (a7 h0) q,ge.b e he⟩
   .cases h0) f⟩
def U7(m k:Nat):jA .eq (.int ((m >>> k &&& 1:Nat):Int)) (.int 1)=a_ (m.testBit k):=by
 have:m.testBit k=decide ((m >>> k) % 2=1):=by
  simp
 rw[this,Nat.and_one_is_mod];exact congrArg a_ (decide_eq_decide.mpr (by omega))
def UN(B:x.length<=900):CT (bD x.length (.dct [] [])++[.dct [] []]) x.length λ_ _=>b_:=by
 refine⟨by simp,λq a=>⟨[],?_,en,λs=>by simp,λs h=>nomatch h⟩⟩;rw[<-List.replicate_succ',cx,if_pos (m7 a)];rfl
def abr:List Sx:=[(.set 9 (.comp 1 c_ [5,1] (.itv ZJ) [(.call 0 [(.v 0)])] (.eU .get (.ix (.v 1) (.blt .len [(.v 2)])) [(.v 0),(.e_ 0)]))),(.ret (.blt .any [(.comp 1 c_ [2] (.itv (.v 9)) [] (.cmp .eq (.bin .band (.bin .shr (.v 0) (.blt .len [(.v 1)])) (.e_ 1)) (.e_ 1)))]))]
def Eg(ge:gE E)(ok:∀e∈E,zq e)(O:Cn D (k+3) 7 [tb t]=a_ (rY E,c_))(B:x.length<=900)(Y:r.length<=1000):∃b,Cn D (k+4) 12 [tb t,sT x,tI r]=a_ (.bl b,d_)/\(b=c_↔VC E x r):=by
 refine ac λ_ W=>?_;obtain⟨ks,g,K,hk,hf⟩:=RO Y
 refine W ?_;suffices h:Go (Cn D (k+3)) b12 [a_ (tb t,d_),a_ (sT x,d_),a_ (tI r,d_),b_,b_,b_,b_,b_,b_,b_] λo=>∃b,o=.rt (.bl b) d_/\(b=c_↔VC E x r) by
  refine ac λ_ W=>?_;obtain⟨_,h1,b,rfl,h2⟩:=h;refine W ?_;exact⟨b,fE rfl h1,h2⟩
 have j :=len_T (aa B (by decide));have u:∀s∈jC,Cn D (k+3) 0 [.str s]=a_ (.bl (decide (s∈oh)),d_):=λs hs=>RP hs
 have c1:ba (Cn D (k+3)) (.cat (.comp 1 c_ [] (.itv (.v 1)) [] .px) (.lst [.px])) [a_ (tb t),a_ (sT x),a_ (tI r),a_ (rY E),a_ (dF ks g),b_,b_,b_,b_,b_]=a_ (.lst (bD x.length (.dct [] [])++[.dct [] []]),c_):=by
  have P:ba (Cn D (k+3)) (.comp 1 c_ [] (.itv (.v 1)) [] .px) [a_ (tb t),a_ (sT x),a_ (tI r),a_ (rY E),a_ (dF ks g),b_,b_,b_,b_,b_]=a_ (.lst (bD x.length (.dct [] [])),c_):=by
   refine lV (items:=(T x).cps.toList.map λc=>Dat.str ⟨#[c]⟩) ?_ (by simp;exact aa B (by decide)) (by rw[yq];simp)
   first|rfl|simp
  show bo (ba (Cn D (k+3)) (.comp 1 c_ [] (.itv (.v 1)) [] .px) [a_ (tb t),a_ (sT x),a_ (tI r),a_ (rY E),a_ (dF ks g),b_,b_,b_,b_,b_]) _=_;rw[P];show(if(bD x.length (Dat.dct [] [])).length+1<=aC then _ else b_)=_;rw[if_pos (by rw[iE];exact aq B (by decide))]
 refine ac λ_ W=>?_;obtain⟨d,d',m1,m2,m3,N⟩:=Le (v:=1) (UN B) (aT _) (s:=jH) (by decide)
 refine W ?_;have H:Ib E x r (Pr 0 []) (BZ (λ_ _=>b_) 0 jH 1):=by
  refine⟨λp s m q h1 h2=>?_,⟨1,qm,by decide⟩,λe he p h0=>by rcases h0 with h0|⟨_,h0⟩<;>cases h0⟩
  rcases D1 h1 with⟨rfl,rfl,rfl⟩|⟨_,h1⟩
  .have:q=0:=by
    have:=HG (n:=0) (m:=q);rw[h2]at this;exact(of_decide_eq_true this.symm).symm
   rw[this];exact .z
  .cases h1
 have y:∀(p:Nat)(b:Bool)(a f i:g_)(L:List Dat)(G:Nat->Row),p<=x.length->CT L x.length G->Ib E x r (Pr p []) G->∃A,eR c_ [6] (.int (p)) (EB t E x r ks g b L a f i)=a_ A/\Go (Cn D (k+3)) Z7 A λo=>∃F,o=.nx F/\∃b a f i L G,F=EB t E x r ks g b L a f i/\CT L x.length G/\Ib E x r (Pr (p+1) []) G:=λp b a f i L G hp h hi=>V4 ge ok B Y hk hf hp h hi;generalize Cn D (k+3)=C at O K c1 u y ⊢;refine bZ (Je ((vB rfl).trans O) rfl) (bZ (Je ((vB rfl).trans K) rfl) (eX c1 ?_));generalize bD x.length (Dat.dct [] [])++[.dct [] []]=L0 at m1 m2 N ⊢
 have s1:pv C (.Oe 5 (.e_ 0) (.con (.str jH)) (.e_ 1)) (EB t E x r ks g c_ L0 b_ b_ b_)=a_ (.nx (EB t E x r ks g c_ (L0.set 0 d') b_ b_ b_)):=by
  show(j5 _ (bo (pH L0.length ((0))) _))=_
  simp_all
 refine bZ s1 (g9 (I:=λus ρ=>∃b a f i L G,ρ=EB t E x r ks g b L a f i/\CT L x.length G/\Ib E x r (Pr us.length []) G) (by rw[vm,pI  (eD (gP rfl j) rfl rfl) (aq B (by decide))];rfl) ⟨c_,b_,b_,b_,_,_,rfl,N,H⟩ ?_ ?_)
 .rintro us p vs _ Q ⟨b,a,f,i,L,G,rfl,h,hi⟩;obtain⟨rfl,hp⟩:=DO Q;rw[ah];exact y _ b a f i L G (a7 hp) h hi
 rintro _ ⟨b,a,f,i,L,G,rfl,h,hi⟩;rw[a6]at hi;obtain⟨V,R,i2⟩:=vv h (ao _)
 have J:∀l:List bc,(∀s∈l,s∈jC)->oH (mT C 1 c_ (i9 1 [5,1] (full (EB t E x r ks g b L a f i))) [(.call 0 [(.v 0)])] (.eU .get (.ix (.v 1) (.blt .len [(.v 2)])) [(.v 0),(.e_ 0)])) (l.map Dat.str)=a_ ((l.filter λs=>decide (s∈oh)).map λs=>Dat.int ((G x.length s).getD 0),c_):=by
  intro l
  induction l with
  |nil=>exact λ_=>rfl
  |cons s l S=>
    intro hs;rw[aB,oH,Bp ((vB rfl).trans (u s (hs s jv))) rfl,S λs' h'=>hs s' (ju _ h')];rw[List.filter_cons];cases decide (s∈oh)
    .rfl
    .rw[(C0 (zt rfl (gP rfl j) R) rfl rfl (Fh i2))];rfl
 refine eX (lV (it:=.itv ZJ) rfl (by decide) (J jC λ_ h=>h)) ?_
 have e3:ba C (.comp 1 c_ [2] (.itv (.v 9)) [] (.cmp _ (.bin _ (.bin _ (.v 0) (.blt _ [(.v 1)])) (.e_ 1)) (.e_ 1))) (full ((EB t E x r ks g b L a f i).set 9 (a_ (.lst (oh.map λs=>Dat.int ((G x.length s).getD 0)),c_))))=a_ (.lst (oh.map λs=>Dat.bl (((G _ s).getD 0).testBit _)),c_):=
  OX rfl (by decide) (λ_ _=>rfl) λs _=>⟨d_,gh (eD (eD rfl (gP rfl (jW _)) (PY _ _)) rfl (DN _ 1)) rfl (U7 _ _)⟩
 refine jx (gP e3 (r:=a_ (.bl ((oh.map λs=>((G x.length s).getD 0).testBit r.length).any id),d_)) ?_) ⟨_,rfl,?_⟩
 .simp only[jB,M.b1,bL,vE,df]
 .rw[BY,gG];constructor
  .rintro⟨s,hs,h1⟩;have h1:((G _ s).getD 0).testBit _=c_:=h1
   cases q:G _ s with
   |none=>rw[q]at h1;simp at h1
   |some m=>rw[q]at h1;exact⟨s,hs,hi.s _ _ _ _ q h1⟩
  .rintro⟨s,hs,w⟩;obtain⟨m,h1,h2⟩:=QI hi.z (λp s hp _ e he h1 U=>h1▸hi.c e he p (.inl (m7 hp)) U) ge.b w;exact⟨s,hs,by show((G _ s).getD 0).testBit _=c_;rw[h1];exact h2⟩
end
section
variable{F:List Ed}{x:List Nat}{r:List Int}{k:Nat}{A:Nat->List (Nat×bc)}{SL:List Dat}{a:Nat×bc}
def t5{α β:Type}{f:α->β}{l:List α}{lo hi:Option Int}:cutD (l.map f) lo hi=(cutD l lo hi).map f:=by
 unfold cutD;simp
def UM{α:Type}{l:List α}(h:i<=l.length):cutD l (a_ (i:Nat)) (a_ ((i+c:Nat):Int))=(l.drop i).take c:=by
 unfold cutD;rw[HT.Ef,HT.Ef,dO h];by_cases q:i+c<=l.length
 .simp_all
 .rw[Ml (aD (bR q)),cG (by simp),cG (by rw[dW];exact j8 (ws h) (bR q))]
noncomputable abbrev nQ(a:Nat×bc):Dat:=.tup [.int (a.1:Nat),.str a.2]
theorem P0:∀l:List (Nat×bc),eC 20 (l.map nQ)=c_
 |[]=>rfl
 |a::l=>by
   show(iA 20 _ && eC 20 _)=c_;rw[P0 l];rfl
def Qq(a b:Nat×bc):og (nQ a) (nQ b)=decide (a=b):=by
 show((((a.1):Int) == ((b.1))) && ((a.2 == b.2) && c_))=_;rw[gm,kT,ag,beq_iff_eq,beq_iff_eq,decide_eq_true_eq,Prod.ext_iff];exact⟨λh=>⟨uc h.1,h.2⟩,λh=>⟨congrArg _ h.1,h.2⟩⟩
def S8(b:Nat×bc)(l:List (Nat×bc)):jA .nin (nQ b) (.lst (l.map nQ))=a_ (!decide (b∈l)):=by
 show(if(iA 20 _ && eC 20 _)=c_ then a_ (!(l.map nQ).any λy=>og y _)else b_)=_;rw[P0,BY];refine congrArg (λt=>a_ _) ?_;rw[kT,gG,decide_eq_true_eq];constructor
 .rintro⟨y,hy,h⟩;have h:og _ (nQ b)=c_:=h;rw[Qq,decide_eq_true_eq]at h;exact h▸hy
 .exact λh=>⟨b,h,by show og _ (nQ b)=c_;rw[Qq,decide_eq_true_eq]⟩
structure SR(SL:List Dat)(n k:Nat)(A:Nat->List (Nat×bc)):Prop where
 l:SL.length=n+1
 r:∀q,k<=q->q<=n->SL[q]?=a_ (.lst ((A q).map nQ))
abbrev EI(F:List Ed)(x:List Nat)(r:List Int)(SL:List Dat)(z4 O Y Z z8 z9 B:g_):c8:=[a_ (.lst (F.map dc),d_),a_ (sT x,d_),a_ (tI r,d_),a_ (.lst SL,c_),z4,O,Y,Z,z8,z9,B]
def M4{ρ:fm}{a b c d:Ex}{q:Nat}{B O Y Z:Bool}(hq:q<=r.length)(h1:ba C a ρ=a_ (tI r,B))(h2:ba C b ρ=a_ (.int (q:Nat),O))(h3:ba C c ρ=a_ (.int ((q+e.2.2.1.length:Nat):Int),Y))(h4:ba C d ρ=a_ (tI e.2.2.1,Z)) :
  ba C (.cmp .eq (.sl a (a_ b) (a_ c)) d) ρ=a_ (.bl (qu r q e),d_):=by
 refine gh (x':=tI ((r.drop q).take e.2.2.1.length)) (f:=d_) ?_ h4 ?_
 .rw[vo,h1];show bo (oD _) _=_;rw[h2];show bo (oD (ba C c ρ)) _=_;rw[h3];show a_ (Dat.tup (cutD (r.map _) (a_ _) (a_ _)),d_)=_;rw[t5,UM hq]
 .rw[Xo (rz 19 _) (rz 19 _),xq];exact congrArg a_ (decide_eq_decide.mpr ⟨λh=>eY.mpr h.symm,λh=>(eY.mp h).symm⟩)
def Z3:List Sx:=[(.set 8 (.bin .add (.v 4) (.blt .len [(.ix (.v 7) (.e_ 2))]))),(.set 9 (.tup [(.bin .add (.v 5) (.blt .len [(.ix (.v 7) (.e_ 1))])),(.ix (.v 7) (.e_ 3))])),(.set 10 (.and (.cmp .eq (.ix (.v 7) (.e_ 0)) (.v 6)) (.cmp .eq (.sl (.v 2) (a_ (.v 4)) (a_ (.v 8))) (.ix (.v 7) (.e_ 2))))),(.ifs (.and (.v 10) (.and (.cmp .eq (.sl (.v 1) (a_ (.v 5)) (a_ (.ix (.v 9) (.e_ 0)))) (.ix (.v 7) (.e_ 1))) (.cmp .nin (.v 9) (.ix (.v 3) (.v 8))))) [(.Of 3 (.v 8) (.v 9))] [])]
def VZ(hx:x.length<=900)(ha:a.1<=x.length)(Z:q<r.length)(he:zq e)(hn:∀q,(A q).length<=10000)(h:SR SL r.length (q+1) A) :
  ∃O,eR c_ [7] (dc e) (EI F x r SL (a_ (.int (q:Nat),d_)) (a_ (.int (a.1:Nat),d_)) (a_ (.str a.2,d_)) z7 z8 z9 B)=a_ O/\Go C Z3 O λo=>∃Y,o=.nx Y/\∃SL z7 z8 z9 B,Y=EI F x r SL (a_ (.int (q:Nat),d_)) (a_ (.int (a.1:Nat),d_)) (a_ (.str a.2,d_)) z7 z8 z9 B/\SR SL r.length (q+1) (zQ x r q a e A):=by
 refine⟨_,rfl,?_⟩;have n :=len_T (aa he.t (by decide));have p:=bY.mpr he.c;refine bZ (dP (eD rfl (gP rfl (jW _)) rfl) rfl) ?_;refine bZ (dP (d:=nQ (xT a e)) (by rw[vn,fi,eD rfl (gP rfl n) rfl];rfl) rfl) ?_;have w:(gd x r q a e && !decide (xT a e∈A (q+e.2.2.1.length)))=d_->SR SL r.length (q+1) (zQ x r q a e A):=λc=>by unfold zQ;rw[if_neg (by rw[c];decide)];exact h
 have y:ba C (.and (.cmp .eq (.ix (.v 7) (.e_ 0)) (.v 6)) (.cmp .eq (.sl (.v 2) (a_ (.v 4)) (a_ (.v 8))) (.ix (.v 7) (.e_ 2)))) (full (EI F x r SL (a_ (.int (q),d_)) (a_ (.int (a.1),d_)) (a_ (.str a.2,d_)) (a_ (dc e,d_)) (a_ (.int ((q+e.2.2.1.length):Int),d_)) (a_ (nQ (xT a e),d_)) B))=a_ (.bl (e.1 == a.2 && qu r q e),d_):=by
  rw[gn (gh rfl rfl UA)];cases e.1 == a.2
  .rfl
  .exact M4 (aD Z) rfl rfl rfl rfl
 refine bZ (dP y rfl) ?_;by_cases c1:(e.1 == a.2 && qu r q e)=c_
 .have b:=uH (aD Z) ((ag _ _▸c1).2);rw[c1];show Go C _ (EI F x r SL (a_ (.int (q),d_)) (a_ (.int (a.1),d_)) (a_ (.str a.2,d_)) (a_ (dc e,d_)) (a_ (.int ((q+e.2.2.1.length:Nat)),d_)) (a_ (nQ (xT a e),d_)) (a_ (.bl c_,d_))) _;generalize f:EI F x r SL (a_ (.int (q),d_)) (a_ (.int (a.1),d_)) (a_ (.str a.2,d_)) (a_ (dc e,d_)) (a_ (.int ((q+e.2.2.1.length:Nat)),d_)) (a_ (nQ (xT a e),d_)) (a_ (.bl c_,d_))=ρ;have s:ba C (.v 10) (full ρ)=a_ (.bl c_,d_):=by rw[<-f];rfl
  have D:ba C (.cmp .eq (.sl (.v 1) (a_ (.v 5)) (a_ (.ix (.v 9) (.e_ 0)))) (.ix (.v 7) (.e_ 1))) (full ρ)=a_ (.bl (pre x a.1 e),d_):=by rw[<-f];exact Cu (aa hx (by decide)) ha rfl rfl rfl rfl
  have g:=h.r (q+e.2.2.1.length) (lH p _) b
  have G:ba C (.cmp .nin (.v 9) (.ix (.v 3) (.v 8))) (full ρ)=a_ (.bl (!decide (xT a e∈A (q+e.2.2.1.length))),d_):=by
   rw[<-f];exact gh rfl (zt rfl rfl (jd g)) (S8 _ _)
  have j:ba C (.and (.v 10) (.and (.cmp .eq (.sl (.v 1) (a_ (.v 5)) (a_ (.ix (.v 9) (.e_ 0)))) (.ix (.v 7) (.e_ 1))) (.cmp .nin (.v 9) (.ix (.v 3) (.v 8))))) (full ρ)=a_ (.bl (pre x a.1 e && !decide (xT a e∈A (q+e.2.2.1.length))),d_):=by
   rw[gn s,if_pos rfl,gn D];cases pre x a.1 e
   .rfl
   simp_all
  cases c2:(pre x a.1 e && !decide (xT a e∈A (q+e.2.2.1.length)))with
  |false=>
    rw[c2]at j;refine lS j (bw ⟨_,rfl,SL,_,_,_,_,f.symm,w ?_⟩);rw[show gd x r q a e=pre x a.1 e by show((e.1 == a.2 && qu r q e) && pre x a.1 e)=_;rw[c1,m9]];exact c2
  |true=>
    rw[c2]at j
    have u:pH SL.length ((q+e.2.2.1.length:Nat))=a_ (q+e.2.2.1.length):=by
     unfold pH;rw[if_pos (dE _),if_pos (by rw[h.l];exact lI.mpr (aY b))];exact congrArg a_ (tj _)
    have E:pv C (.Of 3 (.v 8) (.v 9)) ρ=a_ (.nx (EI F x r (SL.set (q+e.2.2.1.length) (.lst ((A (q+e.2.2.1.length)++[xT a e]).map nQ))) (a_ (.int (q),d_)) (a_ (.int (a.1),d_)) (a_ (.str a.2,d_)) (a_ (dc e,d_)) (a_ (.int ((q+e.2.2.1.length):Int),d_)) (a_ (nQ (xT a e),d_)) (a_ (.bl c_,d_)))):=by
     rw[<-f];show j5 _ (bo (pH SL.length ((q+e.2.2.1.length:Nat))) _)=_;rw[u,bE,g,bE];rw[rL (by grind),cF];rfl
    refine jg (J:=λρ'=>ρ'=EI F x r (SL.set (q+e.2.2.1.length) (.lst ((A (q+e.2.2.1.length)++[xT a e]).map nQ))) (a_ (.int (q),d_)) (a_ (.int (a.1),d_)) (a_ (.str a.2,d_)) (a_ (dc e,d_)) (a_ (.int ((q+e.2.2.1.length):Int),d_)) (a_ (nQ (xT a e),d_)) (a_ (.bl c_,d_))) j (λ_=>bZ E (bw ⟨_,rfl,rfl⟩)) (λz=>nomatch z) λρ' i=>bw ⟨_,rfl,_,_,_,_,_,i,?_⟩;unfold zQ;rw[if_pos (by rw[show gd x r q a e=pre x a.1 e by show((e.1 == a.2 && qu r q e) && pre x a.1 e)=_;rw[c1,m9]];exact c2)];refine⟨by rw[om];exact h.l,λm h1 h2=>?_⟩;show _=a_ (Dat.lst ((if m=q+e.2.2.1.length then A (q+e.2.2.1.length)++[xT a e]else A m).map nQ));by_cases c:m=q+e.2.2.1.length
    .rw[c,eA (by rw[h.l];exact aY b),if_pos rfl]
    .rw[bP (cj c),if_neg c];exact h.r m h1 h2
 .rw[LZ]at c1;rw[c1];refine lS ((gn rfl).trans (if_neg (by decide))) (bw ⟨_,rfl,SL,_,_,_,_,rfl,w ?_⟩);show(((e.1 == a.2 && qu r q e) && pre x a.1 e) && _)=d_;rw[c1];rfl
end
section
variable{E F:List Ed}{x:List Nat}{r:List Int}{q:Nat}{e:Ed}{A:Nat->List (Nat×bc)}{a:Nat×bc}{A0:List (Nat×bc)}
def Xi{α:Type}{st:Sx}{one:Bool}{Y:List Nat}{body ss:List Sx}{V:α->Dat}{xs:List α}{ρ ρ0:c8}{Q:Out->Prop}{I:List α->c8->Prop}(Z:pv C st ρ=iO (eR one Y) (fh C body) (xs.map V) ρ0)(hI:I [] ρ0)
  (hs:∀(us:List α)x(vs:List α)ρ,xs=us++x::vs->I us ρ->∃B,eR one Y (V x) ρ=a_ B/\Go C body B λo=>∃O,o=.nx O/\I (us++[x]) O)(K:∀ρ',I xs ρ'->Go C ss ρ' Q):Go C (st::ss) ρ Q:=by
 obtain⟨ρ',h1,h2⟩:=uZ xs [] _ hs hI;exact bZ (by rwa[Z]) (K _ h2)
structure Ic(E F:List Ed)(x:List Nat)(r:List Int)(q:Nat)(A0:List (Nat×bc))(A:Nat->List (Nat×bc)):Prop where
 w:Sw E x r A
 c:∀k,k<q->∀a∈A k,∀e∈F,Cy x r A k a e
 e:A q=A0
def OC(h:Ic E F x r q A0 A)(ha:a∈A0)(he:e∈E)(hc:e.2.2.1≠[]):Ic E F x r q A0 (zQ x r q a e A):=by
 have ne:∀k,k<=q->zQ x r q a e A k=A k:=λk hk=>V6 (bb (cO hk (bY.mpr hc)));refine⟨MI h.w (h.w.s q a (h.e▸ha)) he,λk hk b hb d hd=>?_,(ne q (ao _)).trans h.e⟩;rw[ne k (aD hk)]at hb;exact yL (h.c k hk b hb d hd)
def Z4:List Sx:=[(.loop c_ [7] (.itv (.v 0)) Z3)]
def V0(hF:∀e∈F,e∈E)(ho:∀e∈E,e.2.2.2∈jC)(ok:∀e∈F,zq e)(hx:x.length<=900)(hq:q<r.length)(ha:a∈A0)(h:SR SL r.length (q+1) A)(hi:Ic E F x r q A0 A)(hu:∀a∈us,∀e∈F,Cy x r A q a e) :
  ∃O,eR d_ [5,6] (nQ a) (EI F x r SL (a_ (.int (q:Nat),d_)) z5 z6 Y Z z9 B)=a_ O/\Go C Z4 O λo=>∃ρ2,o=.nx ρ2/\∃SL A z5 z6 Y Z z9 B,ρ2=EI F x r SL (a_ (.int (q:Nat),d_)) z5 z6 Y Z z9 B/\SR SL r.length (q+1) A/\Ic E F x r q A0 A/\∀b∈us++[a],∀e∈F,Cy x r A q b e:=by
 refine⟨_,rfl,?_⟩;refine g9 (I:=λvs ρ=>∃SL A Y Z z9 B,ρ=EI F x r SL (a_ (.int (q),d_)) (a_ (.int (a.1),d_)) (a_ (.str a.2,d_)) Y Z z9 B/\SR SL r.length (q+1) A/\Ic E F x r q A0 A/\(∀b∈us,∀e∈F,Cy x r A q b e)/\∀e∈vs,Cy x r A q a e) (by rfl) ⟨SL,A,Y,Z,z9,B,rfl,h,hi,hu,λ_ h=>nomatch h⟩ ?_ ?_
 .rintro vs e ws _ j ⟨SL,A,Y,Z,z9,B,rfl,h,hi,hu,f⟩;have he:e∈F:=by rw[j];simp
  refine ac λ_ p=>?_;obtain⟨O,h1,o,h2,ρ2,rfl,g,l,m,n,i,rfl,h3⟩:=VZ hx (hi.w.s q a (hi.e▸ha)).le.1 hq (ok e he) (λk=>aa (QV hi.w ho k) (ig (Nat.mul_le_mul_left 6 hx))) h;refine p ?_;refine⟨O,h1,_,h2,_,rfl,g,_,l,m,n,i,rfl,h3,OC hi ha (hF e he) (ok e he).c,λb hb d hd=>yL (hu b hb d hd),λd hd=>?_⟩
  rcases ax.mp hd with hd|hd
  .exact yL (f d hd)
  .rw[az.mp hd];exact UL
 .rintro _ ⟨SL,A,Y,Z,z9,B,rfl,h,hi,hu,f⟩;refine bw ⟨_,rfl,SL,A,_,_,Y,Z,z9,B,rfl,h,hi,λb hb d hd=>?_⟩
  rcases ax.mp hb with hb|hb
  .exact hu b hb d hd
  .rw[az.mp hb];exact f d hd
def KY(h:SR SL n k A)(hk:k<=q)(B:q<=n)(he:ba C ke (full (EI F x r SL z4 z5 z6 z7 z8 z9 z10))=a_ (.int (q:Nat),f)) :
  pv C (.Us one ts 3 ke body) (EI F x r SL z4 z5 z6 z7 z8 z9 z10)=iO (eR one ts) (fh C body) ((A q).map nQ) (EI F x r (SL.set q .any) z4 z5 z6 z7 z8 z9 z10)/\SR (SL.set q .any) n (q+1) A:=by
 have b:pH SL.length ((q))=a_ q:=by
  unfold pH;rw[if_pos (dE _),if_pos (by rw[h.l];exact lI.mpr (aY B))];simp
 refine⟨?_,by rw[om];exact h.l,λc h1 h2=>?_⟩
 .show bo _ _=_;rw[he];show bo (pH _ _) _=_;rw[b,bE,h.r q hk B];rfl
 .rw[bP (bb h1)];exact h.r c (aD (aq hk h1)) h2
def Z5:List Sx:=[(.Us d_ [5,6] 3 (.v 4) Z4)]
def stepT(hF:∀e∈F,e∈E)(ho:∀e∈E,e.2.2.2∈jC)(ok:∀e∈F,zq e)(hx:x.length<=900)(hq:q<r.length)(h:SR SL r.length q A)(hw:Sw E x r A)(hc:∀k,k<q->∀a∈A k,∀e∈F,Cy x r A k a e) :
  ∃ρ1,eR c_ [4] (.int (q:Nat)) (EI F x r SL z4 O Y Z z8 z9 B)=a_ ρ1/\Go C Z5 ρ1 λo=>∃ρ2,o=.nx ρ2/\∃SL A z4 O Y Z z8 z9 B,ρ2=EI F x r SL z4 O Y Z z8 z9 B/\SR SL r.length (q+1) A/\Sw E x r A/\∀k,k<q+1->∀a∈A k,∀e∈F,Cy x r A k a e:=by
 refine⟨_,rfl,?_⟩;obtain⟨g,i⟩:=KY (ke:=.v 4) (z4:=a_ (.int _,d_)) h (ao _) (aD hq) rfl;refine Xi (I:=λus ρ=>∃SL f O Y Z z8 z9 B,ρ=EI F x r SL (a_ (.int _,d_)) O Y Z z8 z9 B/\SR SL _ _ f/\Ic E F x r q _ f/\∀b∈us,∀e∈F,Cy x r f q b e) g ⟨_,A,O,Y,Z,z8,z9,B,rfl,i,⟨hw,hc,rfl⟩,λ_ h=>nomatch h⟩ ?_ ?_
 .rintro us a vs _ j ⟨SL,f,O,Y,Z,z8,z9,B,rfl,h,hi,hb⟩;exact V0 hF ho ok hx hq (by rw[j];simp) h hi hb
 .rintro _ ⟨SL,f,O,Y,Z,z8,z9,B,rfl,h,hi,hb⟩;refine bw ⟨_,rfl,SL,f,_,O,Y,Z,z8,z9,B,rfl,h,hi.w,λk hk b d e he=>?_⟩
  rcases fY k q with c|c
  .exact hi.c k c b d e he
  .have:k=q:=Nat.le_antisymm (Nat.le_of_succ_le_succ hk) c
   subst this;rw[hi.e]at d;exact hb b d e he
def WZ:List Sx:=[(.ifs (.and (.cmp .eq (.v 5) (.blt .len [(.v 1)])) (.cmp .isin (.v 6) (.lst [(.con (.str jH)),(.con (.str ip)),(.con (.str kM))]))) [(.ret (.con (.bl c_)))] [])]
def Ud(s:bc):jA .isin (.str s) (.lst [.str jH,.str ip,.str kM])=a_ (decide (s∈oh)):=by
 show a_ ((jH == s) || ((ip == s) || ((kM == s) || d_)))=_;refine congrArg a_ ?_
 grind
theorem Qo(Y:x.length<=900):∀(l:List (Nat×bc))(B O:g_),∃o,iO (eR d_ [5,6]) (fh C WZ) (l.map nQ) (EI F x r SL z4 B O z7 z8 z9 z10)=a_ o/\((∃a∈l,a.1=x.length/\a.2∈oh)->o=.rt (.bl c_) d_)/\((¬ ∃a∈l,a.1=x.length/\a.2∈oh)->∃ρ,o=.nx ρ)
 |[],B,O=>⟨_,rfl,λ⟨_,h,_⟩=>(nomatch h),λ_=>⟨_,rfl⟩⟩
 |a::l,B,O=>by
   have d:ba C (.and (.cmp .eq (.v 5) (.blt .len [(.v 1)])) (.cmp .isin (.v 6) (.lst [(.con (.str jH)),(.con (.str ip)),(.con (.str kM))]))) (full (EI F x r SL z4 (a_ (.int (a.1),d_)) (a_ (.str a.2,d_)) z7 z8 z9 z10))=a_ (.bl (decide (a.1=x.length) && decide (a.2∈oh)),d_):=by
    rw[gn (x:=decide (a.1=x.length)) (gh rfl (gP rfl (len_T (aa Y (by decide)))) (by
     exact congrArg a_ (decide_eq_decide.mpr (by omega))))]
    cases decide (a.1=x.length)
    .rfl
    .exact gh rfl rfl (Ud _)
   by_cases c:a.1=x.length/\a.2∈oh
   .rw[decide_eq_true c.1,decide_eq_true c.2]at d;refine⟨.rt _ d_,?_,λ_=>rfl,λh=>absurd ⟨a,jv,c⟩ h⟩;obtain⟨o,h1,rfl⟩:Go C WZ (EI F x r SL z4 (a_ (.int _,d_)) (a_ (.str _,d_)) z7 z8 z9 _) λo=>o=.rt _ d_:=xg d (GO rfl) rfl;show bo (fh C WZ (EI F x r SL z4 (a_ (.int _,d_)) (a_ (.str _,d_)) z7 z8 z9 _)) _=_;rw[h1];rfl
   .have g:(decide (a.1=x.length) && decide (a.2∈oh))=d_:=by
     rw[<-vS];exact decide_eq_false c
    rw[g]at d;refine ac λ_ e=>?_;obtain⟨o,h1,h2,h3⟩:=Qo Y l (a_ (.int _,d_)) (a_ (.str _,d_));obtain⟨o',i,rfl⟩:Go C WZ (EI F x r SL z4 (a_ (.int _,d_)) (a_ (.str _,d_)) z7 z8 z9 _) λo=>o=.nx (EI F x r SL z4 (a_ (.int _,d_)) (a_ (.str _,d_)) z7 z8 z9 _):=lS d (bw rfl);refine e ?_;refine⟨o,?_,λ⟨b,hb,h⟩=>h2 ?_,λh=>h3 λ⟨b,hb,h'⟩=>h ⟨b,ju _ hb,h'⟩⟩
    .rwa[aB,EU rfl i]
    grind
end
section
variable{E F:List Ed}{x:List Nat}{r:List Int}
theorem AD:∀ds:List Dat,oH (mT C 1 c_ ρ0 [] (.lst [])) ds=a_ (bD ds.length (.lst []),c_)
 |[]=>rfl
 |d::ds=>by
   show bo (a_ (a_ _)) (λo=>(oH (mT C 1 c_ _ [] _) ds).map _)=_;rw[AD ds];rfl
abbrev A1:Nat->List (Nat×bc):=λq=>if q=0 then [(0,jH)]else []
set_option tactic.hygienic true in
def Nn{n:Nat}(B:∀e,e∈F↔e∈E)(ge:gE E)(ok:∀e∈F,zq e)(Y:x.length<=900)(O:r.length<=999):∃b,Cn D (n+1) 28 [.lst (F.map dc),sT x,tI r]=a_ (.bl b,d_)/\(b=c_↔VC E x r):=by
 suffices h:Go (Cn D n) b28 (EI F x r [] b_ b_ b_ b_ b_ b_ b_ |>.set 3 b_) λo=>∃b,o=.rt (.bl b) d_/\(b=c_↔VC E x r) by
  refine ac λ_ M=>?_;obtain⟨_,h1,b,rfl,h2⟩:=h;refine M ?_;exact⟨b,fE rfl h1,h2⟩
 generalize Cn D n=C;show Go C (.set 3 (.comp 1 c_ [] (.rng [(.bin .add (.blt .len [(.v 2)]) (.e_ 1))]) [] (.lst []))::.Of 3 (.e_ 0) (.tup [(.e_ 0),(.con (.str jH))])::.loop c_ [4] (.rng [(.blt .len [(.v 2)])]) Z5::.Us d_ [5,6] 3 (.blt .len [(.v 2)]) WZ::.ret (.con (.bl d_))::[]) _ _;refine eX (lV (pI (m:=r.length+1) (eD (gP rfl (jW _)) rfl rfl) (aY O)) (by rw[aA,a6];exact aq O (by decide)) (AD _)) ?_;rw[aA,a6]
 have p:pH (bD (r.length+1) (Dat.lst [])).length ((0:Nat))=a_ 0:=by
  unfold pH;simp
 have s1:pv C (.Of 3 (.e_ 0) (.tup [(.e_ 0),(.con (.str jH))])) (EI F x r (bD (r.length+1) (.lst [])) b_ b_ b_ b_ b_ b_ b_)=a_ (.nx (EI F x r ((bD (r.length+1) (.lst [])).set 0 (.lst [nQ (0,jH)])) b_ b_ b_ b_ b_ b_ b_)):=by
  show j5 _ (bo (pH (bD (r.length+1) (Dat.lst [])).length ((0:Nat))) _)=_;rw[p];rfl
 have J:SR ((bD (r.length+1) (.lst [])).set 0 (.lst [nQ (0,jH)])) r.length 0 A1:=by
  refine⟨by simp,λq _ f=>?_⟩;by_cases c:q=0
  .subst c;rfl
  .rw[bP (cj c),cx,if_pos (m7 f)]
   simp_all
 have K:Sw E x r A1:=by
  refine⟨by simp,λq a ha=>?_,λq=>?_⟩
  .have ha:a∈(if q=0 then [(0,jH)]else []):=ha;split at ha
   .rename_i c;rw[az.mp ha,c];exact .z
   .cases ha
  .show(if q=0 then [(0,jH)]else []).Nodup;split<;>simp
 refine bZ s1 (g9 (I:=λus ρ=>∃SL A z4 i j t u y d,ρ=EI F x r SL z4 i j t u y d/\SR SL r.length us.length A/\Sw E x r A/\∀k,k<us.length->∀a∈A k,∀e∈F,Cy x r A k a e) (by rw[vm,pI (gP rfl (jW _)) (c5 O)];rfl) ⟨_,A1,b_,b_,b_,b_,b_,b_,b_,rfl,J,K,λ_ h=>nomatch h⟩ ?_ ?_)
 .rintro us q vs _ L ⟨SL,A,z4,i,j,t,u,y,d,rfl,h,l,hc⟩;obtain⟨rfl,f⟩:=DO L;rw[ah];exact stepT (λe=>(B e).mp) ge.o ok Y f h l hc
 rintro _ ⟨SL,A,z4,i,j,t,u,y,d,rfl,h,l,hc⟩;rw[a6]at h hc;obtain⟨H,_⟩:=KY (ke:=.blt .len [(.v 2)]) h (ao _) (ao _) (gP rfl (jW _));obtain⟨o,h1,h2,h3⟩:=Qo Y (A r.length) i j
 have g:(∃a∈A r.length,a.1=x.length/\a.2∈oh)↔VC E x r:=by
  constructor
  .rintro⟨a,ha,c1,c2⟩;exact⟨a.2,c2,c1▸l.s _ a ha⟩
  .rintro⟨s,hs,w⟩;exact⟨(x.length,s),QH l (λq f a ha e he=>hc q f a ha e ((B e).mpr he)) (λe he=>(ok e ((B e).mpr he)).c) w,rfl,hs⟩
 by_cases c:∃a∈A r.length,a.1=x.length/\a.2∈oh
 .refine⟨_,D7 (by rw[H,h1,h2 c]),c_,rfl,λ_=>g.mp c,λ_=>rfl⟩
 .obtain⟨ρ,G⟩:=h3 c;exact bZ (by rw[H,h1,G]) (jx rfl ⟨d_,rfl,⟨(λz=>nomatch z),λz=>absurd (g.mpr z) c⟩⟩)
end
end K33E
namespace M
open PySem L2
open Builtin Builtin.Str
def I0{x:List Nat}{p:Nat}:bN (T x) (a_ (p:Int)) b_=T (x.drop p):=by
 have h2:¬((x.length:Int)<0):=by simp
 have e:max (0:Int) (min (x.length) (x.length))=x.length:=by simp
 by_cases h:p<=x.length
 .rw[oX h (ao _)]
  .rw[cG (by simp)]
  .simp only[strSliceIndices,h2,if_false,e,show((1:Int) > 0)=True by simp,if_true]
 .rw[oX (ao _) (ao _)]
  .rw[fX,jK,BW (aD (bR h))]
  .have h3:¬((p:Int)<0):=by simp
   have e2:max (0:Int) (min (p) (x.length))=x.length:=by omega
   simp only[strSliceIndices,h2,h3,if_false,e,e2,show((1:Int) > 0)=True by simp,if_true]
def IZ{x:List Nat}{q:Nat}(h:q<=x.length):bN (T x) b_ (a_ (q:Int))=T (x.take q):=by
 rw[oX (aT _) h]
 .rfl
 .have e:max (0:Int) (min ((0)) (x.length))=0:=by rfl
  simp only[strSliceIndices,Int.lt_irrefl,if_false,e,show((1) > 0)=True by simp,if_true]
  simp_all
end M
namespace K33E
open PySem L2 M K33
section
variable{C:Fs}{ρ:c8}{e:Ex}{r:List Int}{m:Nat}{f:Bool}
def qG(h:∃t f,ba C e (full ρ)=a_ (.bl t,f))(B:Go C A ρ λo=>∃d f,o=.rt d f/\Q (.rt d f))(K:Go C ss ρ Q):Go C (.ifs e A []::ss) ρ Q:=by
 obtain⟨t,f,h⟩:=h;cases t
 .exact lS h K
 .obtain⟨_,h1,d,g,rfl,q⟩:=B;exact xg h h1 q
def Ti(C:Fs)(e:Ex)(ρ:fm)(m:Nat):Prop:=∃r f,ba C e ρ=a_ (tI r,f)/\r.length<=m
def yN {lo:Option Int}:(cutD l lo hi).length<=l.length:=by
 unfold cutD;rw[fI,dW];exact aa (kF _ _) (oj _ _)
def Cq{ρ:fm}(h1:ba C a ρ=a_ (tI r,f))(h2:ba C b ρ=a_ (.int i,g)):Ti C (.sl a b_ (a_ b)) ρ r.length:=⟨_,d_,Jb h1 h2 (by rw[PX,t5]),yN⟩
def Gv{ρ:fm}(h1:ba C a ρ=a_ (tI r,f))(h2:ba C b ρ=a_ (.int i,g)):Ti C (.sl a (a_ b) b_) ρ r.length:=⟨_,d_,Ja h1 h2 (by rw[PX,t5]),yN⟩
def VN{ρ:fm}{c:Ex}{w:Bool}(h1:ba C a ρ=a_ (tI r,f))(h2:ba C b ρ=a_ (.int i,g))(h3:ba C c ρ=a_ (.int j,w)):Ti C (.sl a (a_ b) (a_ c)) ρ r.length:=by
 refine⟨cutD r (a_ i) (a_ j),d_,?_,yN⟩;rw[vo,h1];show bo (oD _) _=_;rw[h2];show bo (oD (ba C c ρ)) _=_;rw[h3];show a_ (Dat.tup (cutD (r.map _) _ _),d_)=_;rw[t5]
def Cp{ρ:fm}(h:ba C a ρ=a_ (.int i,f)):Ti C (.tup [a]) ρ 1:=⟨[i],_,by rw[vn,fi,h];rfl,ao _⟩
def kZ{ρ:fm}(h1:Ti C a ρ m)(h2:Ti C b ρ k)(hl:m+k<=1000000):Ti C (.bin .add a b) ρ (m+k):=by
 obtain⟨r,f,h1,c⟩:=h1;obtain⟨s,g,h2,d⟩:=h2;refine⟨r++s,d_,eD h1 h2 ?_,by grind⟩;rw[vG (by grind),<-cF]
def vc(h:Ti C e (full ρ) m)(B:m<=n):Go C [.ret e] ρ λo=>∃d f,o=.rt d f/\∃r b,Out.rt d f=.rt (tI r) b/\r.length<=n:=by
 obtain⟨r,f,h1,h2⟩:=h;exact jx h1 ⟨_,_,rfl,r,f,rfl,aa h2 B⟩
def tz{ρ:fm}(h:ba C a ρ=a_ (.int i,f))(j:Int):∃t f,ba C (.cmp .eq a (.con (.int j))) ρ=a_ (.bl t,f):=⟨_,d_,gh h rfl rfl⟩
def RW{ns:List Int}(B:r.length<=300):∃O b,Cn D (n+3) 29 [.lst (ns.map Dat.int),tI r]=a_ (tI O,b)/\O.length<=3 * r.length+3:=by
 have hd:Dw (Cn D (n+2)) (.lst (ns.map Dat.int)):=dw
 suffices h:Go (Cn D (n+2)) b29 [a_ (.lst (ns.map Dat.int),d_),a_ (tI r,d_),b_,b_,b_,b_] λo=>∃O b,o=.rt (tI O) b/\O.length<=3 * r.length+3 by
  refine ac λ_ e=>?_;obtain⟨_,h1,O,b,rfl,h2⟩:=h;refine e ?_;exact⟨O,b,fE rfl h1,h2⟩
 generalize Dat.lst (ns.map Dat.int)=N at hd ⊢;generalize Cn D (n+2)=C at hd ⊢;refine ac λ_ e=>?_;obtain⟨w,e1,_⟩:=hd 30 40009 10 (by decide) (by decide) (by decide);obtain⟨p,e2,hp⟩:=hd 46 40013 ((r.length+1):Int) (by decide) (by decide) (by simp);obtain⟨c,e3,_⟩:=hd 47 40031 64 (by decide) (by decide) (by decide);refine e ?_;refine bZ (dP (iW.trans e1) rfl) (bZ (dP (iW.trans (by rw[bX,bX,bX,bX,eD (gP rfl (jW _)) rfl rfl];exact e2)) rfl) (bZ (dP (iW.trans e3) rfl) ?_));have g:∀{z:g_},ba C (.v 3) (full [a_ (N,d_),a_ (tI r,d_),a_ (.int (w),d_),a_ (.int (p),d_),a_ (.int (c),d_),z])=a_ (.int (p),d_):=rfl;have i:∀{z:g_}(k:Int),ba C (.bin .add (.v 3) (.con (.int k))) (full [a_ (N,d_),a_ (tI r,d_),a_ (.int (w),d_),a_ (.int (p),d_),a_ (.int (c),d_),z])=a_ (.int ((p)+k),d_):=λk=>eD rfl rfl rfl;refine qG (tz rfl 0) (vc (kZ (kZ (Cq rfl g) (Cp rfl) (aq B (by decide))) (Gv rfl (i 1)) (j8 B B)) (G5)) ?_;refine qG (tz rfl 1) (vc (kZ (Cq rfl g) (Gv rfl (i 1)) (aa (cO B B) (by decide))) (G5)) ?_;refine qG (tz rfl 2) (vc (kZ (kZ (Cq rfl g) (Cp rfl) (Nat.lt_of_le_of_lt B (by decide))) (Gv rfl g) (ig (Nat.mul_le_mul_left 2 B))) (G5)) ?_;refine qG (tz rfl 3) (vc (kZ (kZ (Cq rfl g) (VN rfl g (i 1)) (Nat.le_trans (Nat.add_le_add B B) (by decide))) (Gv rfl g) (qV B B B)) (G5)) ?_;refine qG (tz rfl 4) ?_ ?_
 .obtain⟨s,f,h1,h2⟩:=VN (a:=.v 1) rfl g (i 2);refine bZ (dP (fl:=d_) (gP h1 ?_) (lK _)) (vc (kZ (kZ (Cq rfl g) ⟨s.reverse,d_,rfl,by rw[Gf];exact h2⟩ (aa (cO B B) (by decide))) (Gv rfl (i 2)) (qV B B B)) (G5));show(if(s.map Dat.int).length<=1000000 then a_ (Dat.tup (s.map Dat.int).reverse,d_)else b_)=_;rw[if_pos (by grind),<-List.map_reverse]
 refine qG (tz rfl 5) (vc (Cq rfl g) (G5)) ?_
 have j:ba C (.and (.cmp .eq (.v 2) (.e_ 6)) (.cmp .lt (.v 3) (.blt .len [(.v 1)]))) (full [a_ (N,d_),a_ (tI r,d_),a_ (.int (w),d_),a_ (.int (p),d_),a_ (.int (c),d_),b_])=a_ (.bl (decide ((w:Int)=6) && decide (p<r.length)),d_):=by
  rw[gn (x:=decide ((w:Int)=6)) (gh rfl rfl rfl)];cases decide ((w:Int)=6)
  .rfl
  .exact gh rfl (gP rfl (jW _)) (congrArg a_ (decide_eq_decide.mpr Int.ofNat_lt))
 cases hb:(decide ((w:Int)=6) && decide (p<r.length))with
 |false=>
   rw[hb]at j;exact lS j ⟨_,rfl,r,d_,rfl,G5⟩
 |true=>
   rw[hb]at j;have l :=of_decide_eq_true ((ag _ _▸hb).2)
   refine ac λ_ e=>?_;obtain⟨_,h1,d,f,rfl,q⟩:Go C [(.set 4 (.bin .mod (.bin .add (.ix (.v 1) (.v 3)) (.e_ 1)) (.e_ 64))),(.ret (.bin .add (.bin .add (.sl (.v 1) b_ (a_ (.v 3))) (.tup [(.v 4)])) (.sl (.v 1) (a_ (.bin .add (.v 3) (.e_ 1))) b_)))] [a_ (N,d_),a_ (tI r,d_),a_ (.int (w),d_),a_ (.int (p),d_),a_ (.int (c),d_),b_] λo=>∃d f,o=.rt d f/\∃O b,Out.rt d f=.rt (tI O) b/\O.length<=3 * r.length+3:=by
    refine bZ (dP (eD (eD (zt rfl rfl (jd (by rw[aO,af l];rfl))) rfl rfl) rfl (lu (by decide))) rfl) ?_;exact vc (kZ (kZ (Cq rfl rfl) (Cp rfl) (by omega)) (Gv rfl (eD rfl rfl rfl)) (by omega)) (by omega)
   refine e ?_;exact xg j h1 q
end
section
variable{C:Fs}{ρ:c8}{e:Ex}{x:List Nat}{m:Nat}{f:Bool}
def Tt(C:Fs)(e:Ex)(ρ:fm)(m:Nat):Prop:=∃y f,ba C e ρ=a_ (sT y,f)/\y.length<=m
def QP{ρ:fm}(B:x.length<=1000)(hp:p<=x.length)(h1:ba C a ρ=a_ (sT x,f))(h2:ba C b ρ=a_ (.int (p:Nat),g)):Tt C (.sl a b_ (a_ b)) ρ x.length:=⟨_,d_,Jb h1 h2 (by
 show(if(T x).length<=aC then a_ (Dat.str (bN _ b_ (a_ _)),d_)else b_)=_
 rw[if_pos (by rw[nV,eK];exact aa B (by decide)),IZ hp]),by simp_all⟩
def QO{ρ:fm}(B:x.length<=1000)(h1:ba C a ρ=a_ (sT x,f))(h2:ba C b ρ=a_ (.int (p:Nat),g)):Tt C (.sl a (a_ b) b_) ρ x.length:=⟨_,d_,Ja h1 h2 (by
 show(if(T x).length<=aC then a_ (Dat.str (bN _ (a_ _) b_),d_)else b_)=_
 rw[if_pos (by rw[nV,eK];exact aa B (by decide)),I0]),by simp⟩
def Yq{ρ:fm}{c:Ex}{w:Bool}{q:Nat}(B:x.length<=1000)(hp:p<=x.length)(O:p<=q)(h1:ba C a ρ=a_ (sT x,f))(h2:ba C b ρ=a_ (.int (p:Nat),g))(h3:ba C c ρ=a_ (.int (q:Nat),w)):Tt C (.sl a (a_ b) (a_ c)) ρ x.length:=by
 refine⟨(x.drop p).take (q - p),d_,?_,by grind⟩;rw[vo,h1];show bo (oD (ba C b ρ)) _=_;rw[h2];show bo (oD (ba C c ρ)) _=_;rw[h3];show(if(T x).length<=aC then a_ (Dat.str (bN (T x) (a_ (p)) (a_ (q))),d_)else b_)=_;rw[if_pos (by rw[nV,eK];exact aa B (by decide)),zV hp O]
def ug{ρ:fm}(h1:Tt C a ρ m)(h2:Tt C b ρ k)(hl:m+k<=1000000):Tt C (.bin .add a b) ρ (m+k):=by
 obtain⟨r,f,h1,c⟩:=h1;obtain⟨s,g,h2,d⟩:=h2;exact⟨_,d_,eD h1 h2 (XJ (aa (cO c d) hl)),by grind⟩
def KL(h:Tt C e (full ρ) m)(B:m<=n):Go C [.ret e] ρ λo=>∃d f,o=.rt d f/\∃y b,Out.rt d f=.rt (sT y) b/\y.length<=n:=by
 obtain⟨r,f,h1,h2⟩:=h;exact jx h1 ⟨_,_,rfl,r,f,rfl,aa h2 B⟩
def RV{ns:List Int}(ht:HM t)(B:x.length<=100):∃y b,Cn D (n+3) 30 [.lst (ns.map Dat.int),tb t,sT x]=a_ (sT y,b)/\y.length<=3 * x.length+3:=by
 have hd:Dw (Cn D (n+2)) (.lst (ns.map _)):=dw;obtain⟨ss,r,h0,hl,hs⟩:=uB (n:=n+1) ht
 suffices h:Go (Cn D _) _ [a_ (.lst (ns.map _),d_),a_ _,a_ _,b_,b_,b_,b_] λo=>∃y b,o=.rt (sT y) b/\y.length<=3 * x.length+3 by
  refine ac λ_ d=>?_;obtain⟨_,h1,j,b,rfl,h2⟩:=h;refine d ?_;exact⟨j,b,fE rfl h1,h2⟩
 generalize Dat.lst (ns.map _)=N at hd ⊢;generalize Cn D _=C at hd r ⊢;obtain⟨w,e1,_⟩:=hd 48 40009 8 (by decide) (by decide) (by decide);obtain⟨p,e2,hp⟩:=hd 48 40013 ((x.length+1):Int) (by decide) (by decide) (by simp);have hp:p<=x.length:=by omega
 refine bZ (dP (iW.trans e1) rfl) (bZ (dP (iW.trans (by rwa[bX,bX,bX,bX,eD (gP rfl (len_T (aa B (by decide)))) rfl rfl])) rfl) (eX ((vB rfl).trans r) ?_));obtain⟨c,b,k,_⟩:=Dy (ρ:=full [a_ (N,d_),a_ _,a_ _,a_ (.int _,d_),a_ (.int _,d_),a_ (.lst (c1 ss),c_),b_]) (x:=.v 5) (e:=.call 14 [(.v 0),(.e_ 48),(.e_ 40031),(.blt _ [(.v 5)])]) rfl (ik hd rfl rfl rfl (gP rfl (by rw[p3,aA])) (by decide) (by decide) (kY.mpr (bY.mpr h0)) λq h=>by omega) λ_ _=>trivial;refine bZ (dP k rfl) ?_;have a:x.length<=1000:=aa B (by decide);refine qG (tz rfl 0) (KL (ug (ug (QP a hp rfl rfl) ⟨_,d_,rfl,ao _⟩ (aq a (by decide))) (QO a rfl (eD rfl rfl rfl)) (j8 a a)) (G5)) ?_;refine qG (tz rfl 1) (KL (ug (QP a hp rfl rfl) (QO a rfl (eD rfl rfl rfl)) (aa (cO a a) (by decide))) (G5)) ?_;refine qG (tz rfl 2) (KL (ug (ug (QP a hp rfl rfl) (Yq a hp (vN _) rfl rfl (eD rfl rfl rfl)) (Nat.le_trans (Nat.add_le_add a a) (by decide))) (QO a rfl rfl) (qV a a a)) (G5)) ?_;exact⟨_,rfl,x,d_,rfl,G5⟩
end
section
variable{x:List Nat}
def TK(ht:HM t):(LE t).length<=1000:=by
 have h1:=fW (g:=dg t) (l:=aR t.fg.length) λk _=>ao 3;have h2:=fW (l:=t.fs) λf _=>u6 t f;have h3:=ht.hf;have a:=ht.hl;have h5:(if t.fg.isEmpty=c_ then []else [(kM,[],t.m3,jR)]:List Ed).length<=1:=by split<;>simp
 rw[a6]at h1;rw[ah,ah,ah];show 3+_+_+_<=_;omega
def Xb(t:Tb):im (tb t)=c_:=by
 show(kW _ && (im _ && (im (tI _) && c_)))=c_;rw[mE,Dl,lK];rfl
structure Pt(C:Fs)(N:Dat)(t:Tb):Prop where
 e:C 22 [tb t]=a_ (.lst ((LE t).map dc),c_)
 w:∀x:List Nat,(∀c∈x,c∈raw t)->x.length<=11->∃S r,C 26 [N,.int 31,.lst ((LE t).map dc),sT x]=a_ (.lst (wC dc S),c_)/\C 27 [.lst (wC dc S)]=a_ (tI r,d_)/\r.length<=138/\C 12 [tb t,sT x,tI r]=a_ (.bl c_,d_)
 q:∀(x:List Nat)(r:List Int),x.length<=900->r.length<=999->∃b,C 12 [tb t,sT x,tI r]=a_ (.bl b,d_)/\C 28 [.lst ((LE t).map dc),sT x,tI r]=a_ (.bl b,d_)
def pack{ns:List Int}(w:wT t):Pt (Cn D (n+6)) (.lst (ns.map Dat.int)) t:=by
 obtain⟨E,q,g,k,ok⟩:=K9 w;have h :=λe=>(Tn w.ok.hf).trans (k e).symm;have c :=λe m=>ok e ((h e).mp m);have i:=TK w.ok;have d:Cn D (n+5) 7 [tb t]=a_ (rY E,c_):=RU (by rw[GJ w.ok (Ff w.ok),q]) g.l g.b;refine⟨RQ w.ok,λx f hl=>?_,λx r f a=>?_⟩
 .have hk:=(FV w k f x.length 0 (ic _)).o;refine ac λ_ y=>?_;obtain⟨S,s,h1,h2,h3,j,h5,u⟩:=Jk g h c i (aa hl (by decide)) hk;have a:(kQ S).length<=138:=j8 u (Nat.mul_le_mul_left 12 hl)
  obtain⟨b,p,h8⟩:=Eg (x:=x) (r:=kQ S) g ok d (aa hl (by decide)) (aa a (by decide));refine y ?_;refine⟨S,kQ S,h1,Jm (aa a (by decide)),a,?_⟩;rw[h8.mpr (h5▸UT h2 h3 j)]at p;exact p
 .obtain⟨b,h1,h2⟩:=Eg (r:=r) g ok d f (c5 a);obtain⟨v,h3,j⟩:=Nn h g c f a;have :=kT.mpr (j.trans h2.symm);exact⟨b,h1,this▸h3⟩
abbrev EL(N:Dat)(t:Tb)(x y:List Nat)(r B:List Int)(O Y Z:g_):c8:=[a_ (N,d_),a_ (tb t,d_),a_ (.lst ((LE t).map dc),c_),a_ (sT x,d_),a_ (tI r,d_),a_ (tI B,d_),a_ (sT y,d_),O,Y,Z]
def lbQ:List Sx:=[(.set 9 (.call 12 [(.v 1),(.v 7),(.v 8)])),(.ifs (.or (.not (.blt (.isi .bool) [(.v 9)])) (.cmp .ne (.v 9) (.call 28 [(.v 2),(.v 7),(.v 8)]))) [(.ret (.con (.bl d_)))] [])]
def V3{v:List Nat}{u:List Int}(P:Pt C N t)(hv:v.length<=900)(hu:u.length<=999):∃B,eR c_ [8] (tI u) (EL N t x y r r' (a_ (sT v,d_)) Y Z)=a_ B/\Go C lbQ B λo=>∃O,o=.nx O/\∃Y Z,O=EL N t x y r r' (a_ (sT v,d_)) Y Z:=by
 obtain⟨b,h1,h2⟩:=P.q v u hv hu;refine⟨_,rfl,bZ (dP ((vA rfl rfl rfl).trans h1) rfl) (lS (f:=d_) ?_ (bw ⟨_,rfl,_,_,rfl⟩))⟩;rw[DA (YS  (gP rfl rfl))];exact gh rfl ((vA rfl rfl rfl).trans h2) (by cases b<;>rfl)
def Nm{ns:List Int}:Cn D (n+7) 31 [.lst (ns.map Dat.int)]=a_ (.bl c_,d_):=by
 obtain⟨t,b,j,w⟩:=GG;have hd:Dw (Cn D (n+6)) (.lst (ns.map _)):=dw;have P:=pack (n:=n) (ns:=ns) w;have k:=λ(m)(h:m<=100)=>Jl (n:=n+3) (ns:=ns) w.ok h;have l:=λ(r:List _)(h:r.length<=300)=>RW (n:=n+3) (ns:=ns) h;have p:=λ(x:List _)(h:x.length<=100)=>RV (n:=n+3) (ns:=ns) w.ok h
 suffices h:Go (Cn D _) _ [a_ (.lst (ns.map _),d_),b_,b_,b_,b_,b_,b_,b_,b_,b_] λo=>o=.rt (.bl c_) d_ by
  obtain⟨_,h1,rfl⟩:=h;exact fE rfl h1
 generalize Dat.lst (ns.map _)=N at *;refine ac λ_ K=>?_;obtain⟨m,q,O⟩:=hd 2 35027 12 (by decide) (by decide) (by decide);obtain⟨x,_,s,J,z⟩:=k m (by omega);obtain⟨S,r,A,B,g,i⟩:=P.w x z (by omega);obtain⟨d,_,C,E⟩:=l r (aa g (by decide));obtain⟨y,_,F,Q⟩:=p x (by omega);refine K ?_;refine bZ (dP ((vB rfl).trans j) (Xb t)) (bZ (Jd ((vB rfl).trans P.e)) ?_);refine bZ (dP ((vA rfl rfl (by exact q)).trans s) rfl) ?_;refine bZ (dP ((vB (iW.trans (by exact A))).trans B) (lK _)) ?_;refine lS (gh ((vA rfl rfl rfl).trans i) rfl rfl) ?_;refine bZ (dP ((Lo rfl rfl).trans C) (lK _)) (bZ (dP ((vA rfl rfl rfl).trans F) rfl) ?_);refine g9 (V:=sT) (xs:=[x,y]) (I:=λ_ ρ=>∃G a c,ρ=EL N t x y r d G a c) (jw rfl rfl rfl) ⟨_,_,_,rfl⟩ ?_ ?_
 .rintro us v vs _ L ⟨G,a,c,rfl⟩
  have H:v.length<=900:=by
   have:v∈[x,y]:=by rw[L];simp
   rcases aw.mp this with rfl|this
   .omega
   grind
  refine⟨_,rfl,?_⟩;refine g9 (xs:=[d,r]) (I:=λ_ ρ=>∃a c,ρ=EL N t x y r d (a_ _) a c) (jw (f:=c_) (by show a_ (Dat.lst [tI d,tI r],(d_ || im (tI d)) && ((d_ || im (tI r)) && c_))=_;rw[lK,lK];rfl) rfl (by simp)) ⟨_,_,rfl⟩ ?_ ?_
  .rintro us u vs _ M ⟨a,c,rfl⟩;refine V3 P H ?_;have:u∈[d,r]:=by rw[M];simp
   rcases aw.mp this with rfl|this
   .exact Tw E g g g
   .rw[az.mp this];exact aa g (by decide)
  .rintro _ ⟨a,c,rfl⟩;exact bw ⟨_,rfl,_,_,_,rfl⟩
 .rintro _ ⟨G,a,c,rfl⟩;exact jx (gh ((vA rfl rfl rfl).trans i) rfl (rfl)) rfl
end
end K33E
def K33.math(ns:List Int)(_:ns.length<=63):∃fr,M.Cn K33.D 12 31 [.lst (ns.map M.Dat.int)]=a_ (.bl c_,fr):=⟨_,K33E.Nm ⟩
namespace M
open PySem PySem.Spec PyProof.Rows L2
section
variable{K:Fg}
mutual
noncomputable def Nx(K:Fg):Dat->aj->Bool
 |.str x,u=>match u with
   |.str y _=>decide (x=y)
   |_=>d_
 |.int i,u=>match u with
   |.int j _=>decide (i=j)
   |_=>d_
 | .tup ds,u=>match u with
   |.ref p=>match K.lookup p with
     |some ⟨.type c,b_,.seq its _,_⟩=>decide (c="tuple") && decide (its.size<=aC) && Jx K ds its.toList
     |_=>d_
   |_=>d_
 |_,_=>d_
noncomputable def Jx(K:Fg):List Dat->List aj->Bool
 |[],[]=>c_
 |d::ds,u::us=>Nx K d u && Jx K ds us
 |_,_=>d_
end
set_option tactic.hygienic true
mutual
theorem Ek:∀(d:Dat)(u:aj),Nx K d u=c_->∃v,RelV v u/\CV K d v
 |.str x,u,h=>by
   unfold Nx at h;split at h
   .cases of_decide_eq_true h;exact⟨.str x,⟨_,rfl⟩,λ_=>rfl,λ_ z=>nomatch z⟩
   .cases h
 |.int i,u,h=>by
   unfold Nx at h;split at h
   .cases of_decide_eq_true h;exact⟨.int i,⟨_,rfl⟩,λ_=>rfl,λ_ z=>nomatch z⟩
   .cases h
 |.tup ds,u,h=>by
   unfold Nx at h;split at h
   .rename_i p;split at h
    .rename_i c its n l a;obtain⟨h,h3⟩:=iZ.mp h;obtain⟨h1,h2⟩:=iZ.mp h;cases of_decide_eq_true h1;obtain⟨vs,r,q⟩:=Ah ds _ h3;exact⟨.ref p,rfl,λF=>⟨p,vs,rfl,.inr ⟨_,_,n,a,rfl,rfl,of_decide_eq_true h2,r⟩,q F⟩,λb z=>by cases z;exact⟨_,a,rfl,rfl⟩⟩
    .cases h
   .cases h
 |.non,_,h=>nomatch h
 |.bl _,_,h=>nomatch h
 |.lst _,_,h=>nomatch h
 |.dct _ _,_,h=>nomatch h
 |.any,_,h=>nomatch h
theorem Ah:∀(ds:List Dat)(us:List aj),Jx K ds us=c_->∃vs,cR vs us/\∀F,cQ K F ds vs
 |[],[],_=>⟨[],.nil,λ_=>rfl⟩
 |d::ds,u::us,h=>by
   obtain⟨h1,h2⟩:=iZ.mp h;obtain⟨v,r,q⟩:=Ek d u h1;obtain⟨vs,a,b⟩:=Ah ds us h2;exact⟨v::vs,.cons r a,λF=>⟨v,vs,rfl,q.1 F,b F⟩⟩
 |[],_::_,h=>nomatch h
 |_::_,[],h=>nomatch h
end
def Xt(K:Fg)(p:bc×Dat):Bool:=match nc K mainGlobals p.1 with
 |some (a_ u)=>Nx K p.2 u
 |_=>d_
theorem FF(X:K.In h)(G:h.Ns mainGlobals mg):∀{con:List (bc×Dat)},con.all (Xt K)=c_->∀x d,con.lookup x=a_ d->∃v u,mg x=a_ u/\RelV v u/\CV K d v
 |(y,e)::L,h,x,d,q=>by
   obtain⟨h1,h2⟩:=iZ.mp h;rw[fH]at q;split at q
   .rename_i z;cases q;rw[eq_of_beq z];unfold Xt at h1;split at h1
    .rename_i u a;obtain⟨v,r,c⟩:=Ek _ _ h1;exact⟨v,u,LN X G a,r,c⟩
    .cases h1
   .exact FF X G h2 x d q
set_option tactic.hygienic false
end
end M
open PySem PySem.W PyProof.Rows
structure PySem.W.Fast:Prop where(tw4939398547622161028 tw2831749004273613786 tw8381551851844048169 tw11058105935504327431 tw14928531241227162667 tw3673741675999651854 tw17112233083105904571 tw11745024415743462634 tw8162070642796768453 tw4399094897434273871 tw5675063208125976926 tw16008902584718478315 tw15311205011413357157 tw17099147645019024341 tw7510795653990907420 tw5328238903106124732 tw13835467254348409250 tw8827240616157743944 tw8351557961453277634 tw1063177437500229995 tw11146489289088360734 tw4577975116120421348 tw12361407183183238695 tw9607185894081330565 tw12431913609933489360 tw1685794106162223968 tw12939217899355240501 tw9469767556020265410 tw8921642052745431639 tw3474657237771469363 tw2553132204133124730 tw17358628495524243355 tw4633727300801653606 tw3742867313101451475 tw6742913726533396664 tw9348853854539571890 tw11163624087790286892 tw3303056753501784850 tw2055352975160636776 tw9368013399225408608 tw14254194278597869173 tw16648208195509518762 tw12210852409659590727 tw10486215820691368698 tw533519241619384638 tw18023976283812793582 tw7845885251568387062 tw14625524838204904559 tw12352766188976235805 tw16830012403263290127 tw12173751195530964005 tw668922666682058089 tw4324416193980136792 tw1410433520780173167 tw15422962550748745915 tw17838710143764310065 tw12886710061494794143 tw12214853487831272522 tw16005828106063788729 tw16179301466468988442 tw5243159435262884244 tw5928961935553383951 tw8687882010700726843 tw12341965940835465081 tw2419797153501721152 tw11398856534447396120 tw8442934005445450500 tw9132770097652656502 tw4605720349991530869 tw13376292803594543973 tw8225257284504385012 tw2325712229528911683 tw14273477305162423653 tw9494773628374603730 tw2663189065719769144 tw3344843758381325521 tw9376669919981019494 tw1084120805566693337 tw7019510674329551382 tw10134146105832352396 tw12792253304877219037 tw12263765907702440601 tw923847267725252473 tw16745705003136078177 tw5047251699393632278 tw11083199706920125209 tw17241353240676489786 tw12820086566858810502 tw15435450557100591362 tw16400461436940692249 tw8345529502058457361 tw11273498205796650062 tw3242795478758857935 tw1471100958858689495 tw2303244868476266079 tw12578948423222502577 tw15763747139633750684 tw1085827828998189686 tw8305328352843761275 tw16103055874219848552 tw16968661069090335118 tw8700994108789924880 tw12050282833934321839 tw14687371862106813051 tw10412988235796363743 tw9332324176866956208 tw1808884440813368666 tw17001799183197006429 tw18104134458239916958 tw10848923762006031364 tw11939875990558996164 tw12805620388672070985 tw6006136739136712174 tw15917173570638841068 tw12973201693513571939 tw17700283635716366564 tw16512538800421902919 tw16041071618774496280 tw14829019267001876064 tw6086313351235712154 tw8728508837441398548 tw1633757761872693395 tw7542521096185381634 tw16854122101697450521 tw445379096277536198 tw10930506823898364141 tw1206953625172268714 tw10691175886854925704 tw13425290363173747937 tw14085892736228860409 tw9956089577068983572 tw1813330395671467065 tw13809630033847280858 tw2483321345065182031 tw2818838257284124524 tw6868956158869215371 tw8830817172368651577 tw11913232058718030939 tw10195548888163743385 tw11450738498338777361 tw17229191167860631895 tw5174469623937282076 tw17535368817985931704 tw12795582511886029410 tw17058550400201634948 tw13652484115363459039 tw8638829345910156402 tw1776943328857745550 tw903857545902439169 tw9295289162421537481 tw2133941283370396240 tw17345140022556655927 tw2933182883197057050 tw9599394926585590323 tw9368165782997996641 tw17455449368506700240 tw224109583179566369 tw17189111693025305794 tw3531209681534715461 tw6482006053753150586 tw11818110604130305300 tw12358783168086584986 tw14644467049486233145 tw13304797048838570260 tw974781160370964251 tw15908171292023382502 tw17100141199080524851 tw7320546638765465882 tw505217268311165683 tw11690096674389753757 tw7376985694007339344 tw15755616294559928952 tw5609446225876042815:True)
set_option maxRecDepth 100000 in
set_option maxHeartbeats 0 in
theorem PySem.Challenge.cw_dots_k33_is_written_holds : PySem.Challenge.rw_dots_k33_is_written.Holds := by
 w_on;o_law;k_head;(case hw=>w_witness2)
 k_fill
 refine M.walk (l:=l9) (n:=12) (x:="_law_script") rfl ⟨rfl,by decide,by decide⟩ rfl (λw h Y=>PySem.W.kIn_of Y) ?F
 case F=>
  intro w mg fa h KX G hmg
  have Z:∀x∈M.lr,mg x=b_:=by
   refine M.Pe KX G ?_
   kernel_rfl
  have T:M.Here (L2.KOf KX) mg K33.D K33.con:=⟨K33.WK,M.Vc KX G (by kernel_rfl) (by kernel_rfl) (λ_ _ _ _ _ _ _=>by kernel_rfl),by decide,Z,M.FF KX G (by kernel_rfl)⟩
  exact M.TL (l:=l9) T (j:=31) rfl rfl hmg K33.math
